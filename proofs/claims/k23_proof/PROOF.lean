import PyProof.Rows.All
import Wide.All
import OpenK.AllK
import Wide.FinOn
import Lean
import PyProof.EqAt
import PyProof.EqKinds
import PyProof.TupleCall
import PySem.Challenge.RW_fakehunt_k23_fakes_in_order
set_option Elab.async false
set_option linter.all false
set_option maxRecDepth 100000
set_option maxHeartbeats 4000000
set_option genSizeOf false
namespace L2
open PySem PySem.Spec PyProof.Rows

noncomputable abbrev Key:=Sum Int Str
noncomputable def keyIs:Key→Value→Bool
  | .inl k,v=>Value.isInt k v
  | .inr x,v=>Value.isStrOf x v
noncomputable def keyH (w:World):Key→Int
  | .inl k=>hashInt k
  | .inr x=>hashStr w x
theorem keyIs_shape:∀ {k:Key}{v:Value},keyIs k v=true→(∃ i t,k=Sum.inl i∧v=Value.int i t)∨(∃ x t,k=Sum.inr x∧v=Value.str x t)
  | .inl i,v,h=>by
    obtain ⟨t,e⟩:=Value.isInt_shape (k:=i) (v:=v) h
    exact .inl ⟨i,t,rfl,e⟩
  | .inr x,v,h=>by
    obtain ⟨t,e⟩:=Value.isStrOf_shape (x:=x) (v:=v) h
    exact .inr ⟨x,t,rfl,e⟩
theorem keyIs_int (i:Int) (t:Tok):keyIs (.inl i) (.int i t)=true:=by simp [keyIs,Value.isInt]
theorem keyIs_str (x:Str) (t:Tok):keyIs (.inr x) (.str x t)=true:=by simp [keyIs,Value.isStrOf]
theorem key_ll (a b:Int):decide ((Sum.inl a:Key)=Sum.inl b)=(a==b):=by
  by_cases e:a=b
  · subst e; simp
  · have h:¬(Sum.inl a:Key)=Sum.inl b:=fun q=>e (Sum.inl.inj q)
    rw [decide_eq_false h]
    exact (beq_eq_false_iff_ne.mpr e).symm
theorem key_rr (a b:Str):decide ((Sum.inr a:Key)=Sum.inr b)=decide (a=b):=by
  by_cases e:a=b
  · subst e; simp
  · have h:¬(Sum.inr a:Key)=Sum.inr b:=fun q=>e (Sum.inr.inj q)
    rw [decide_eq_false h,decide_eq_false e]
theorem key_lr (a:Int) (b:Str):decide ((Sum.inl a:Key)=Sum.inr b)=false:=decide_eq_false (fun q=>nomatch q)
theorem key_rl (a:Str) (b:Int):decide ((Sum.inr a:Key)=Sum.inl b)=false:=decide_eq_false (fun q=>nomatch q)

noncomputable def mixKind (prog:Program) (w:World):PySem.KeyKind prog w Key where
  is:=keyIs
  hash:=keyH w
  inj:=fun v a b ha hb=>by
    rcases keyIs_shape ha with ⟨i,t,rfl,rfl⟩ | ⟨x,t,rfl,rfl⟩
    · rcases keyIs_shape hb with ⟨j,u,rfl,e⟩ | ⟨y,u,rfl,e⟩
      · injection e with e1 _; rw [e1]
      · exact nomatch e
    · rcases keyIs_shape hb with ⟨j,u,rfl,e⟩ | ⟨y,u,rfl,e⟩
      · exact nomatch e
      · injection e with e1 _; rw [e1]
  byValue:=fun k v h=>by
    rcases keyIs_shape h with ⟨i,t,rfl,rfl⟩ | ⟨x,t,rfl,rfl⟩<;>rfl
  pyHash:=fun hv h=>by
    rcases keyIs_shape hv with ⟨i,t,rfl,rfl⟩ | ⟨x,t,rfl,rfl⟩
    · exact wpAny_pyHash_int h
    · exact wpAny_pyHash_str h
  eqBool:=fun hu hv h=>by
    rcases keyIs_shape hu with ⟨i,t,rfl,rfl⟩ | ⟨x,t,rfl,rfl⟩
    · rcases keyIs_shape hv with ⟨j,u,rfl,rfl⟩ | ⟨y,u,rfl,rfl⟩
      · rw [key_ll] at h; exact wpAny_eqBool_int h
      · rw [key_lr] at h; exact SeqAt.EqAt.int_str i t y u _ _ _ _ h
    · rcases keyIs_shape hv with ⟨j,u,rfl,rfl⟩ | ⟨y,u,rfl,rfl⟩
      · rw [key_rl] at h; exact SeqAt.EqAt.str_int x t j u _ _ _ _ h
      · rw [key_rr] at h; exact wpAny_eqBool_str h
  «strs»:=fun k x t v h=>by
    rcases keyIs_shape h with ⟨i,u,rfl,e⟩ | ⟨y,u,rfl,e⟩
    · exact nomatch e
    · injection e with e1 _
      subst e1
      cases v<;>rfl

theorem mixKind_int (prog:Program) (w:World) (i:Int) (t:Tok):(mixKind prog w).is (.inl i) (.int i t)=true:=keyIs_int i t
theorem mixKind_str (prog:Program) (w:World) (x:Str) (t:Tok):(mixKind prog w).is (.inr x) (.str x t)=true:=keyIs_str x t
end L2

namespace L2
open PySem PySem.Spec PyProof.Rows

inductive V where
  | non | bl (b:Bool) | int (i:Int) | str (x:Str) | byt (b:Array UInt8) | flt (b:UInt64) | ref (a:Addr) | ty (n:String)
  deriving DecidableEq

noncomputable def RelV:V→Value→Prop
  | .non,u=>u=Value.none
  | .bl b,u=>u=Value.bool b
  | .int i,u=>∃ t,u=Value.int i t
  | .str x,u=>∃ t,u=Value.str x t
  | .byt b,u=>∃ t,u=Value.bytes b t
  | .flt b,u=>∃ t,u=Value.float b t
  | .ref a,u=>u=Value.ref a
  | .ty n,u=>u=Value.type n

noncomputable abbrev Vals:List V→List Value→Prop:=Paired RelV
theorem Vals.length {xs:List V}{us:List Value} (r:Vals xs us):xs.length=us.length:=Paired.length r
theorem Vals.get:∀ {xs:List V}{us:List Value}{i:Nat}{x:V},Vals xs us→xs[i]?=some x→∃ u,us[i]?=some u∧RelV x u
  | _,_,_,_,.nil,e=>by simp at e
  | _,_,0,_,.cons r _,e=>by simp at e; subst e; exact ⟨_,rfl,r⟩
  | _,_,i+1,x,.cons _ t,e=>by
    obtain ⟨u,h1,h2⟩:=Vals.get (i:=i) (x:=x) t (by simpa using e)
    exact ⟨u,by simpa using h1,h2⟩
theorem Vals.set {x:V}{u:Value} (r:RelV x u):∀ {xs:List V}{us:List Value} (i:Nat),Vals xs us→Vals (xs.set i x) (us.set i u)
  | _,_,_,.nil=>.nil
  | _,_,0,.cons _ t=>.cons r t
  | _,_,i+1,.cons q t=>.cons q (Vals.set r i t)
theorem Vals.append:∀ {xs ys:List V}{us ws:List Value},Vals xs us→Vals ys ws→Vals (xs++ys) (us++ws)
  | _,_,_,_,.nil,s=>s
  | _,_,_,_,.cons r t,s=>.cons r (Vals.append t s)
theorem Vals.take:∀ {xs:List V}{us:List Value} (n:Nat),Vals xs us→Vals (xs.take n) (us.take n)
  | _,_,0,_=>.nil
  | _,_,_+1,.nil=>.nil
  | _,_,n+1,.cons r t=>.cons r (Vals.take n t)
theorem Vals.drop:∀ {xs:List V}{us:List Value} (n:Nat),Vals xs us→Vals (xs.drop n) (us.drop n)
  | _,_,0,r=>r
  | _,_,_+1,.nil=>.nil
  | _,_,n+1,.cons _ t=>Vals.drop n t

noncomputable def RelO:Option V→Option Value→Prop
  | some v,some u=>RelV v u
  | none,none=>True
  | _,_=>False
noncomputable def KV {κ:Type}:List (κ×V)→List (κ×Value)→Prop:=Paired fun (p:κ×V) (q:κ×Value)=>p.1=q.1∧RelV p.2 q.2

noncomputable def kV:Key→V
  | .inl i=>.int i
  | .inr x=>.str x

inductive HO where
    | lst (xs:List V)
    | tup (xs:List V)
    | dK (kvs:List (Key×V)) | dT (kvs:List (List Key×V))
    | set (S:Int→Bool) (n:Nat)
    | ins (C dx:Addr) (fs:List (Str×V))
    | own (x:Addr)
    | xd (fs:List (Str×V))
    | met (f x:Addr)
    | rng (lo hi:Int)
    | frz (o:Obj) (u:HO)
    | tbl (ps:Array Value)
    | ext (φ:Heap→Prop)

noncomputable abbrev Hp:=Addr→Option HO
noncomputable def upd (H:Hp) (a:Addr) (o:HO):Hp:=fun b=>if b=a then some o else H b
theorem upd_same {H:Hp}{a:Addr}{o:HO}:upd H a o a=some o:=by unfold upd; rw [if_pos rfl]
theorem upd_ne {H:Hp}{a b:Addr}{o:HO} (h:b≠a):upd H a o b=H b:=by unfold upd; rw [if_neg h]
theorem ne_of {H:Hp}{a b:Addr}{o u:HO} (h:H a=some o) (h':H b=some u) (d:o≠u):a≠b:=by
  intro e; subst e; rw [h] at h'; exact d (Option.some.inj h')
theorem ne_of_none {H:Hp}{a b:Addr}{o:HO} (h:H a=some o) (h':H b=none):a≠b:=by
  intro e; subst e; rw [h] at h'; cases h'

section
variable (P:Program) (w:World)
noncomputable def ObjOk (H:Hp) (h:Heap) (a:Addr):HO→Prop
  | .lst xs=>xs.length≤sizeLine∧∃ (its:List Value) (n:Nat),Vals xs its∧h.get? a=some { cls:=.type "list",data:=.seq its.toArray n }
  | .tup xs=>xs.length≤sizeLine∧∃ its:List Value,Vals xs its∧IsTup h a its.toArray
  | .dK kvs=>kvs.length≤sizeLine∧(a==sysModules)=false∧∃ vs,KV kvs vs∧h.DictOf (mixKind P w) a vs
  | .dT kvs=>kvs.length≤sizeLine∧(a==sysModules)=false∧∃ xs:List (List Key×Addr×Value),
      Paired (fun (p:List Key×V) (q:List Key×Addr×Value)=>p.1=q.1∧H q.2.1=some (.tup (p.1.map kV))∧RelV p.2 q.2.2) kvs xs ∧
      ∃ o es ep,h.get? a=some o∧o.ExactDict∧o.data=.dict es ep∧es.toList=xs.map (entryOfKey (tupleKind (mixKind P w)))∧(xs.map (·.1)).Nodup
  | .set S n=>h.SetOf (intKind P w) a S n
  | .ins C dx fs=>H dx=some (.own a)∧fs.length≤1000∧dx≠a∧h.get? a=some (PySem.W.instObj C dx) ∧
      ∃ mA,h.Ns1 dx mA∧(∀ f,RelO (fs.lookup f) (mA f))∧PySem.Within mA (fs.map (·.1))
  | .own _=>∃ o,h.get? a=some o
  | .xd fs=>∃ mA,h.Ns1 a mA∧∀ f,RelO (fs.lookup f) (mA f)
  | .rng lo hi=>∃ t u v,h.get? a=some { cls:=.type "range",data:=.fields #[.int lo t,.int hi u,.int 1 v] }
  | .frz o u=>h.get? a=some o∧ObjOk H h a u
  | .tbl ps=>h.get? a=some { cls:=.none,data:=.fields ps }
  | .met f x=>h.get? a=some (PySem.W.methodObj (.ref f) (.ref x))
  | .ext φ=>φ h∧(∃ o,h.get? a=some o)∧∀ h1 h2:Heap,φ h1→(∀ o,h1.get? a=some o→h2.get? a=some o)→φ h2
noncomputable def HOk (H:Hp) (h:Heap):Prop:=∀ a o,H a=some o→ObjOk P w H h a o
end

section
variable {P:Program}{w:World}{H H':Hp}{h h':Heap}{a:Addr}{o:HO}
theorem ObjOk.lt (x:ObjOk P w H h a o):a < h.objs.size:=by
  cases o with
  | lst xs=>obtain ⟨_,_,_,_,e⟩:=x; exact Heap.lt_size e
  | tup xs=>obtain ⟨_,_,_,p⟩:=x; exact p.lt
  | dK kvs=>obtain ⟨_,_,_,_,o,_,_,e,_⟩:=x; exact Heap.lt_size e
  | dT kvs=>obtain ⟨_,_,_,_,o,_,_,e,_⟩:=x; exact Heap.lt_size e
  | set S n=>obtain ⟨o,_,_,_,e,_⟩:=x; exact Heap.lt_size e
  | ins C dx fs=>obtain ⟨_,_,_,e,_⟩:=x; exact Heap.lt_size e
  | own y=>obtain ⟨_,e⟩:=x; exact Heap.lt_size e
  | xd fs=>obtain ⟨_,⟨_,_,_,e,_⟩,_⟩:=x; exact Heap.lt_size e
  | rng lo hi=>obtain ⟨_,_,_,e⟩:=x; exact Heap.lt_size e
  | frz ob u=>obtain ⟨e,_⟩:=x; exact Heap.lt_size e
  | tbl ps=>exact Heap.lt_size (show h.get? a=some _ from x)
  | met f y=>exact Heap.lt_size (show h.get? a=some _ from x)
  | ext φ=>obtain ⟨_,⟨_,e⟩,_⟩:=x; exact Heap.lt_size e
theorem Paired.mapP {α β:Type}{F G:α→β→Prop}:∀ {l₁:List α}{l₂:List β},Paired F l₁ l₂→(∀ a b,F a b→G a b)→Paired G l₁ l₂
  | _,_,.nil,_=>.nil
  | _,_,.cons r t,f=>.cons (f _ _ r) (Paired.mapP t f)
theorem ObjOk.stay (x:ObjOk P w H h a o) (k:∀ b u,(b=a∨H b=some (.own a))→h.get? b=some u→h'.get? b=some u)
    (ho:∀ b,H b=some (.own a)→H' b=some (.own a)) (ht:∀ b xs,H b=some (.tup xs)→H' b=some (.tup xs)):ObjOk P w H' h' a o:=by
  induction o with
  | lst xs=>obtain ⟨z,its,n,r,e⟩:=x; exact ⟨z,its,n,r,k _ _ (.inl rfl) e⟩
  | tup xs=>obtain ⟨z,its,r,ob,e,c⟩:=x; exact ⟨z,its,r,ob,k _ _ (.inl rfl) e,c⟩
  | dK kvs=>obtain ⟨z,y,vs,r,ob,es,ep,e,c⟩:=x; exact ⟨z,y,vs,r,ob,es,ep,k _ _ (.inl rfl) e,c⟩
  | dT kvs=>
    obtain ⟨z,y,xs,r,ob,es,ep,e,c⟩:=x
    exact ⟨z,y,xs,Paired.mapP r fun p q z=>⟨z.1,ht _ _ z.2.1,z.2.2⟩,ob,es,ep,k _ _ (.inl rfl) e,c⟩
  | set S n=>obtain ⟨ob,es,ep,t,e,c⟩:=x; exact ⟨ob,es,ep,t,k _ _ (.inl rfl) e,c⟩
  | ins C dx fs=>
    obtain ⟨d,z,ne,e,mA,⟨od,es,ep,e2,c⟩,r⟩:=x
    exact ⟨ho _ d,z,ne,k _ _ (.inl rfl) e,mA,⟨od,es,ep,k _ _ (.inr d) e2,c⟩,r⟩
  | own y=>obtain ⟨ob,e⟩:=x; exact ⟨ob,k _ _ (.inl rfl) e⟩
  | xd fs=>obtain ⟨mA,⟨od,es,ep,e,c⟩,r⟩:=x; exact ⟨mA,⟨od,es,ep,k _ _ (.inl rfl) e,c⟩,r⟩
  | rng lo hi=>obtain ⟨t,u,v,e⟩:=x; exact ⟨t,u,v,k _ _ (.inl rfl) e⟩
  | frz ob u ih=>obtain ⟨e,q⟩:=x; exact ⟨k _ _ (.inl rfl) e,ih q⟩
  | tbl ps=>
    have e:h.get? a=some { cls:=.none,data:=.fields ps }:=x
    show h'.get? a=some { cls:=.none,data:=.fields ps }
    exact k a _ (.inl rfl) e
  | met f y=>
    have e:h.get? a=some (PySem.W.methodObj (.ref f) (.ref y)):=x
    show h'.get? a=some (PySem.W.methodObj (.ref f) (.ref y))
    exact k a _ (.inl rfl) e
  | ext φ=>obtain ⟨p,⟨o,e⟩,st⟩:=x; exact ⟨st _ _ p fun o q=>k _ _ (.inl rfl) q,⟨o,k _ _ (.inl rfl) e⟩,st⟩
theorem HOk.lt (x:HOk P w H h) (e:H a=some o):a < h.objs.size:=(x a o e).lt
theorem HOk.fresh (x:HOk P w H h) (e:h.objs.size≤a):H a=none:=by
  cases q:H a with
  | none=>rfl
  | some u=>exact absurd (Nat.lt_of_lt_of_le (x.lt q) e) (Nat.lt_irrefl _)
theorem HOk.kept (x:HOk P w H h) (k:∀ b u,h.get? b=some u→h'.get? b=some u):HOk P w H h':=fun a o e=>
  (x a o e).stay (fun b u _ q=>k b u q) (fun _ q=>q) fun _ _ q=>q
theorem HOk.laid (x:HOk P w H h) (k:∀ b u,h.get? b=some u→h'.get? b=some u) (hp:h.objs.size≤a) (new:ObjOk P w (upd H a o) h' a o):HOk P w (upd H a o) h':=fun b u e=>by
  have hn:=x.fresh hp
  by_cases hb:b=a
  · subst hb; rw [upd_same] at e; cases e; exact new
  · rw [upd_ne hb] at e
    exact (x b u e).stay (fun c v _ q=>k c v q) (fun c q=>by rw [upd_ne (ne_of_none q hn)]; exact q) fun c xs q=>by rw [upd_ne (ne_of_none q hn)]; exact q
end

noncomputable def Rd (H:Hp) (a:Addr) (u:HO):Prop:=H a=some u∨∃ o,H a=some (.frz o u)
theorem Rd.ok {P:Program}{w:World}{H:Hp}{h:Heap}{a:Addr}{u:HO} (r:Rd H a u) (x:HOk P w H h):ObjOk P w H h a u:=by
  rcases r with r | ⟨o,r⟩
  · exact x a u r
  · obtain ⟨_,q⟩:=x a _ r
    exact q
noncomputable def Mut:Option HO→Prop
  | some (.lst _)=>True
  | some (.dK _)=>True
  | some (.dT _)=>True
  | some (.set _ _)=>True
  | some (.ins _ _ _)=>True
  | some (.ext _)=>True
  | _=>False
section
variable {P:Program}{w:World}{H:Hp}{h h':Heap}{x e:Addr}{o':HO}
theorem HOk.write (ok:HOk P w H h) (mu:Mut (H x)) (he:e=x∨H e=some (.own x)) (k:∀ b u,b≠e→h.get? b=some u→h'.get? b=some u) (heo:∃ u,h'.get? e=some u)
    (new:ObjOk P w (upd H x o') h' x o'):HOk P w (upd H x o') h':=fun b u q=>by
  have nown:∀ c y,H c=some (.own y)→c≠x:=fun c y r z=>by subst z; rw [r] at mu; exact mu
  have ntup:∀ c xs,H c=some (.tup xs)→c≠x:=fun c xs r z=>by subst z; rw [r] at mu; exact mu
  by_cases hb:b=x
  · subst hb; rw [upd_same] at q; cases q; exact new
  · rw [upd_ne hb] at q
    by_cases hbe:b=e
    · have q':H b=some (.own x):=by
        rcases he with z | z
        · exact absurd (hbe.trans z) hb
        · rw [hbe]; exact z
      rw [q] at q'; cases q'
      obtain ⟨v,hv⟩:=heo
      exact ⟨v,by rw [hbe]; exact hv⟩
    · refine (ok b u q).stay (fun c v hc r=>k c v ?_ r) (fun c r=>by rw [upd_ne (nown c b r)]; exact r) fun c xs r=>by rw [upd_ne (ntup c xs r)]; exact r
      rcases hc with rfl | hc
      · exact hbe
      · rintro rfl
        rcases he with z | z
        · exact nown c b hc z
        · rw [hc] at z; cases z; exact hb rfl
end

structure Un (fs ex:List Addr) (H H':Hp) (h h':Heap):Prop where
  keep:∀ b o,h.get? b=some o→H b=none→b∉fs→b∉ex→h'.get? b=some o
  slot:∀ b o,h.get? b=some o→H b=none→b∈fs→b∉ex→∃ sl,h'.get? b=some { o with slots:=sl }
  free:∀ b o,h.get? b=some o→H b=none→b∉ex→H' b=none
  there:∀ b o,h.get? b=some o→b∉ex→∃ o',h'.get? b=some o'
  tups:∀ b xs,H b=some (.tup xs)→H' b=some (.tup xs)
  frzs:∀ b o u,H b=some (.frz o u)→H' b=some (.frz o u)
  tbls:∀ b ps,H b=some (.tbl ps)→∃ more,H' b=some (.tbl (ps++more))
section
variable {fs fs' ex ex':List Addr}{H H1 H2:Hp}{h h1 h2 h':Heap}{a x e:Addr}{o:HO}
theorem Un.any (u:Un fs ex H H1 h h1) {b:Addr}{ob:Obj} (q:h.get? b=some ob) (n:H b=none) (hx:b∉ex):∃ sl,h1.get? b=some { ob with slots:=sl }:=by
  by_cases hb:b∈fs
  · exact u.slot b ob q n hb hx
  · exact ⟨ob.slots,u.keep b ob q n hb hx⟩
theorem Un.kept (k:∀ b u,h.get? b=some u→h'.get? b=some u):Un fs ex H H h h':=
  ⟨fun b ob q _ _ _=>k b ob q,fun b ob q _ _ _=>⟨ob.slots,k b ob q⟩,fun _ _ _ n _=>n,fun b ob q _=>⟨ob,k b ob q⟩,fun _ _ q=>q,fun _ _ _ q=>q,fun _ ps q=>⟨#[],by rw [q]; simp⟩⟩
theorem Un.refl:Un fs ex H H h h:=Un.kept fun _ _ q=>q
theorem Un.laid (k:∀ b u,h.get? b=some u→h'.get? b=some u) (hp:h.objs.size≤a) (hn:H a=none):Un fs ex H (upd H a o) h h' where
  keep:=fun b u q _ _ _=>k b u q
  slot:=fun b u q _ _ _=>⟨u.slots,k b u q⟩
  free:=fun b u q n _=>by rw [upd_ne (Nat.ne_of_lt (Nat.lt_of_lt_of_le (Heap.lt_size q) hp))]; exact n
  there:=fun b u q _=>⟨u,k b u q⟩
  tups:=fun b xs q=>by rw [upd_ne (ne_of_none q hn)]; exact q
  frzs:=fun b u xs q=>by rw [upd_ne (ne_of_none q hn)]; exact q
  tbls:=fun b ps q=>⟨#[],by rw [upd_ne (ne_of_none q hn),q]; simp⟩
theorem Un.write (mu:Mut (H x)) (he:e=x∨H e=some (.own x)) (k:∀ b u,b≠e→h.get? b=some u→h'.get? b=some u) (heo:∃ u,h'.get? e=some u):Un fs ex H (upd H x o) h h':=by
  have hx:∀ b,H b=none→b≠x:=fun b n z=>by subst z; rw [n] at mu; exact mu
  have hb:∀ b,H b=none→b≠e:=fun b n z=>by
    subst z
    rcases he with r | r
    · exact hx b n r
    · rw [n] at r; cases r
  have hm:∀ b u,H b=some u→¬Mut (some u)→b≠x:=fun b u q nm z=>by subst z; rw [q] at mu; exact nm mu
  refine ⟨fun b u q n _ _=>k b u (hb b n) q,fun b u q n _ _=>⟨u.slots,k b u (hb b n) q⟩,fun b u q n _=>by rw [upd_ne (hx b n)]; exact n,fun b u q _=>?_,
    fun b xs q=>by rw [upd_ne (hm b _ q fun z=>z)]; exact q,fun b u xs q=>by rw [upd_ne (hm b _ q fun z=>z)]; exact q,fun b ps q=>⟨#[],by rw [upd_ne (hm b _ q fun z=>z),q]; simp⟩⟩
  by_cases hbe:b=e
  · subst hbe; exact heo
  · exact ⟨u,k b u hbe q⟩
end

noncomputable def trk (h:Heap) (H:Hp):List Addr:=(List.range h.objs.size).filter fun a=>(H a).isSome
noncomputable def hidT (h:Heap) (H:Hp):Heap:=PySem.W.hideAll h (trk h H)
theorem hidT_size (h:Heap) (H:Hp):(hidT h H).objs.size=h.objs.size:=PySem.W.hideAll_size _ _
theorem hidT_get {h:Heap}{H:Hp}{b:Addr}{o:Obj} (e:h.get? b=some o) (n:H b=none):(hidT h H).get? b=some o:=
  PySem.W.hideAll_get _ e fun hm=>by
    have q:(H b).isSome=true:=(List.mem_filter.mp hm).2
    rw [n] at q; simp at q
theorem of_hidT {h:Heap}{H:Hp}{b:Addr}{o:Obj} (e:(hidT h H).get? b=some o):h.get? b=some o∧H b=none:=by
  have e':h.get? b=some o:=PySem.W.of_hideAll (trk h H) e
  refine ⟨e',?_⟩
  cases q:H b with
  | none=>rfl
  | some x=>
    have hm:b∈trk h H:=List.mem_filter.mpr ⟨List.mem_range.mpr (Heap.lt_size e'),by simp [q]⟩
    have z:(hidT h H).get? b=none:=PySem.W.hideAll_none (trk h H) hm
    rw [z] at e; cases e

end L2

namespace L2
open PySem PySem.Spec PyProof.Rows

structure Mod (K:PySem.W.Frag) (mg:Str→Option Value) (base:Heap):Prop where
  kin:K.In base
  glob:base.Ns mainGlobals mg
  blt:∃ mb,base.Ns builtinsNs mb∧∀ x:Str,x ≠ "__name__"→mb x=bootBuiltins x
  nolimit:base.NoLimit

structure Cx where
  prog:Program
  w:World
  K:PySem.W.Frag
  mg:Str→Option Value
  base:Heap
  A:Around
  N:List Str
  s₀:Shared
  H₀:Hp
  env:Env
  outer:List Env
  stack:List Env
  ex:List Addr
  fn:Str→Bool
  calm:Bool
  pn:List (Addr×Obj)
  xe:Value→Shared→Prop
noncomputable def frs (l:List Env):List Addr:=l.filterMap (·.frame)
noncomputable abbrev Cx.fs (X:Cx):List Addr:=frs X.outer

noncomputable def Vis (sc:Scope) (x:Str):Prop:=sc.names.lookup x=some .local∨sc.names.lookup x=some .cell∨sc.names.lookup x=some .free
noncomputable def Loc (sc:Scope) (x:Str):Prop:=sc.names.lookup x=some .local∨sc.names.lookup x=some .cell
noncomputable def Look (env:Env) (h:Heap) (m:Str→Option Value) (x:Str) (u:Value):Prop:=
  (env.kindOf x=some .local∧m x=some u)∨((env.kindOf x=some .cell∨env.kindOf x=some .free)∧∃ c,env.cells.lookup x=some c∧h.IsCell c (some u))

structure Cx.Ok (X:Cx):Prop where
  mod:Mod X.K X.mg X.base
  kind:X.env.scope.kind=.function
  glob:X.env.globals=mainGlobals
  blt:X.env.builtins=builtinsNs
  above:X.s₀.heap.objs.size≤X.env.locals
  inj:∀ x y c,X.env.cells.lookup x=some c→X.env.cells.lookup y=some c→x=y
  has:∀ x,(X.env.kindOf x=some .cell∨X.env.kindOf x=some .free)→∃ c,X.env.cells.lookup x=some c
  cab:∀ x c,X.fn x=true→X.env.cells.lookup x=some c→X.s₀.heap.objs.size≤c
  hd:X.calm=true→X.A.handled=none
  frames:X.A.frames=some X.stack
  stk:X.stack=X.outer∨(X.stack=X.env :: X.outer∧X.env.frame=some X.env.locals)
  exf:∀ b∈X.ex,b≠X.env.locals∧∀ x c,X.env.cells.lookup x=some c→c≠b
  bs:∀ b o,X.base.get? b=some o→X.s₀.heap.get? b=some o∧X.H₀ b=none
  bsz:X.base.objs.size≤X.s₀.heap.objs.size
  noex:∀ b o,X.base.get? b=some o→b∉X.ex
  exfs:∀ b∈X.ex,b∉X.fs
  funs:X.s₀.heap.FunFrames X.base X.outer
  frf:∀ b∈X.fs,X.H₀ b=none

structure Inv (X:Cx) (pins:List (Addr×Obj)) (σ:List (Option V)) (H:Hp) (s:Shared):Prop where
  ok:X.Ok
  os:s.os=X.s₀.os
  bare:AllBare s.gens
  base:Un X.fs X.ex X.H₀ H X.s₀.heap s.heap
  loc:∃ m,s.heap.Ns X.env.locals m∧∀ (i:Nat) (x:Str) (v:V),X.N[i]?=some x→σ[i]?=some (some v)→Vis X.env.scope x→∃ u,RelV v u∧Look X.env s.heap m x u
  cell:∀ x c,X.env.cells.lookup x=some c→∃ v,s.heap.IsCell c v
  free:H X.env.locals=none
  freeC:∀ x c,X.env.cells.lookup x=some c→H c=none
  pin:∀ p∈X.pn++pins,s.heap.get? p.1=some p.2∧H p.1=none∧p.1≠X.env.locals∧p.1∉X.fs∧∀ v,p.2.data≠.cell v
  hok:HOk X.prog X.w H s.heap
  len:σ.length=X.N.length

section
variable {X:Cx}{pins:List (Addr×Obj)}{σ:List (Option V)}{H H':Hp}{s:Shared}{h':Heap}

theorem Cx.Ok.nofr (ok:X.Ok) {b:Addr}{o:Obj} (e:X.base.get? b=some o):b∉X.fs:=fun hb=>by
  have:=(ok.funs.mem hb).1
  rw [e] at this; cases this
theorem Inv.bs (I:Inv X pins σ H s):∀ b o,X.base.get? b=some o→s.heap.get? b=some o∧H b=none:=fun b o e=>
  ⟨I.base.keep b o (I.ok.bs b o e).1 (I.ok.bs b o e).2 (I.ok.nofr e) (I.ok.noex b o e),I.base.free b o (I.ok.bs b o e).1 (I.ok.bs b o e).2 (I.ok.noex b o e)⟩
theorem Inv.bk (I:Inv X pins σ H s):∀ b o,X.base.get? b=some o→s.heap.get? b=some o:=fun b o e=>(I.bs b o e).1
theorem Inv.mod (I:Inv X pins σ H s):Mod X.K X.mg X.base:=I.ok.mod
theorem Inv.kIn (I:Inv X pins σ H s):X.K.In s.heap:=I.ok.mod.kin.keeps I.bk
theorem Inv.lt (I:Inv X pins σ H s):X.env.locals < s.heap.objs.size:=let ⟨_,hn,_⟩:=I.loc; hn.lt
theorem Inv.sz (I:Inv X pins σ H s):X.s₀.heap.objs.size≤s.heap.objs.size:=Nat.le_trans I.ok.above (Nat.le_of_lt I.lt)
theorem Inv.nofs (I:Inv X pins σ H s) {a:Addr} (h:s.heap.objs.size≤a):a∉X.fs:=fun hb=>by
  obtain ⟨_,o,ho,_⟩:=I.ok.funs.mem hb
  exact absurd (Nat.lt_of_lt_of_le (Heap.lt_size ho) (Nat.le_trans I.sz h)) (Nat.lt_irrefl _)
theorem Inv.cne (I:Inv X pins σ H s):∀ x c,X.env.cells.lookup x=some c→c≠X.env.locals:=fun x c e z=>by
  obtain ⟨v,o,ho,hd⟩:=I.cell x c e
  obtain ⟨m,⟨o',es,ep,ho',hd',_⟩,_⟩:=I.loc
  rw [z,ho'] at ho; cases ho; rw [hd'] at hd; cases hd
theorem Inv.funs (I:Inv X pins σ H s):s.heap.FunFrames X.base X.outer:=by
  have all:∀ (l:List Env),(∀ b∈frs l,b∈X.fs)→X.s₀.heap.FunFrames X.base l→s.heap.FunFrames X.base l:=by
    intro l
    induction l with
    | nil=>intro _ _; trivial
    | cons env r ih=>
      intro hs hl
      obtain ⟨hk,⟨L,o,hf,hn,ho,hd⟩,hr⟩:=hl
      have hL:L∈X.fs:=hs L (by unfold frs; rw [List.filterMap_cons,hf]; exact List.mem_cons_self)
      obtain ⟨sl,e⟩:=I.base.slot L o ho (I.ok.frf L hL) hL fun z=>I.ok.exfs L z hL
      exact ⟨hk,⟨L,_,hf,hn,e,hd⟩,ih (fun b hb=>hs b (by unfold frs; rw [List.filterMap_cons,hf]; exact List.mem_cons_of_mem _ hb)) hr⟩
  exact all X.outer (fun _ hb=>hb) I.ok.funs

theorem Inv.stack (I:Inv X pins σ H s):s.heap.FunFrames X.base X.stack:=by
  rcases I.ok.stk with e | ⟨e,hf⟩
  · rw [e]; exact I.funs
  · rw [e]
    obtain ⟨m,hn,_⟩:=I.loc
    refine .cons (by rw [I.ok.kind]; decide) hf hn ?_ I.funs
    exact Heap.get?_none_of_le (Nat.le_trans I.ok.bsz I.ok.above)
theorem Inv.stkSub (I:Inv X pins σ H s):∀ b∈frs X.stack,b∈X.env.locals :: X.fs:=fun b hb=>by
  rcases I.ok.stk with e | ⟨e,hf⟩
  · rw [e] at hb; exact List.mem_cons_of_mem _ hb
  · rw [e] at hb
    unfold frs at hb
    rw [List.filterMap_cons,hf] at hb
    exact hb
theorem Inv.stkFree (I:Inv X pins σ H s):∀ b∈frs X.stack,H b=none:=fun b hb=>by
  rcases List.mem_cons.mp (I.stkSub b hb) with e | hb
  · rw [e]; exact I.free
  · obtain ⟨_,o,ho,_⟩:=I.ok.funs.mem hb
    exact I.base.free b o ho (I.ok.frf b hb) fun z=>I.ok.exfs b z hb

theorem Inv.step {g':Array GenState}{t':Nat}{d':Drawn}{ch:List Addr} (I:Inv X pins σ H s)
    (hch:∀ b∈ch,(b∈X.ex∨X.s₀.heap.objs.size≤b)∧b≠X.env.locals∧(∀ x c,X.env.cells.lookup x=some c→c≠b)∧∀ p∈X.pn++pins,p.1≠b)
    (keep:∀ b o,b≠X.env.locals→b∉X.fs→b∉ch→s.heap.get? b=some o→H b=none→h'.get? b=some o)
    (slot:∀ b o,b≠X.env.locals→b∈X.fs→b∉ch→s.heap.get? b=some o→H b=none→∃ sl,h'.get? b=some { o with slots:=sl }) (free:∀ b o,b∉ch→s.heap.get? b=some o→H b=none→H' b=none)
    (there:∀ b o,b∉ch→s.heap.get? b=some o→∃ o',h'.get? b=some o')
    (tups:∀ b xs,H b=some (.tup xs)→H' b=some (.tup xs)) (frzs:∀ b o u,H b=some (.frz o u)→H' b=some (.frz o u)) (tbls:∀ b ps,H b=some (.tbl ps)→∃ more,H' b=some (.tbl (ps++more)))
    (ns:∀ m,s.heap.Ns X.env.locals m→h'.Ns X.env.locals m) (hok:HOk X.prog X.w H' h') (hg:AllBare g') :
    Inv X pins σ H' { s with heap:=h',gens:=g',drawn:=d',toks:=t' }:=by
  have neL:∀ b o,X.s₀.heap.get? b=some o→b≠X.env.locals:=fun b o e=>Nat.ne_of_lt (Nat.lt_of_lt_of_le (Heap.lt_size e) I.ok.above)
  have neC:∀ b o,X.s₀.heap.get? b=some o→b∉X.ex→b∉ch:=fun b o e hx hb=>by
    rcases (hch b hb).1 with z | z
    · exact hx z
    · exact absurd (Nat.lt_of_lt_of_le (Heap.lt_size e) z) (Nat.lt_irrefl _)
  have cellK:∀ x c,X.env.cells.lookup x=some c→∀ v,s.heap.IsCell c v→h'.IsCell c v:=fun x c e v ⟨o,ho,hd⟩=>by
    have nch:c∉ch:=fun z=>(hch c z).2.2.1 x c e rfl
    by_cases hc:c∈X.fs
    · obtain ⟨sl,q⟩:=slot c o (I.cne x c e) hc nch ho (I.freeC x c e)
      exact ⟨_,q,hd⟩
    · exact ⟨o,keep c o (I.cne x c e) hc nch ho (I.freeC x c e),hd⟩
  refine ⟨I.ok,I.os,hg,⟨fun b o e n hb hx=>?_,fun b o e n hb hx=>?_,fun b o e n hx=>?_,fun b o e hx=>?_,fun b xs e=>tups b xs (I.base.tups b xs e),fun b o xs e=>frzs b o xs (I.base.frzs b o xs e),fun b ps e=>?_⟩,?_,fun x c e=>?_,?_,fun x c e=>?_,fun p hp=>?_,hok,I.len⟩
  · exact keep b o (neL b o e) hb (neC b o e hx) (I.base.keep b o e n hb hx) (I.base.free b o e n hx)
  · obtain ⟨sl,e1⟩:=I.base.slot b o e n hb hx
    obtain ⟨sl',e2⟩:=slot b _ (neL b o e) hb (neC b o e hx) e1 (I.base.free b o e n hx)
    exact ⟨sl',e2⟩
  · obtain ⟨o',e1⟩:=I.base.there b o e hx
    exact free b o' (neC b o e hx) e1 (I.base.free b o e n hx)
  · obtain ⟨o',e1⟩:=I.base.there b o e hx
    exact there b o' (neC b o e hx) e1
  · obtain ⟨m1,e1⟩:=I.base.tbls b ps e
    obtain ⟨m2,e2⟩:=tbls b _ e1
    exact ⟨m1++m2,by rw [e2,Array.append_assoc]⟩
  · obtain ⟨m,hn,hl⟩:=I.loc
    refine ⟨m,ns m hn,fun i x v e1 e2 e3=>?_⟩
    obtain ⟨u,r,l⟩:=hl i x v e1 e2 e3
    refine ⟨u,r,?_⟩
    rcases l with l | ⟨k,c,e,z⟩
    · exact .inl l
    · exact .inr ⟨k,c,e,cellK x c e _ z⟩
  · obtain ⟨v,z⟩:=I.cell x c e
    exact ⟨v,cellK x c e v z⟩
  · obtain ⟨m,⟨o,_,_,ho,_⟩,_⟩:=I.loc
    exact free _ o (fun z=>(hch _ z).2.1 rfl) ho I.free
  · obtain ⟨v,o,ho,hd⟩:=I.cell x c e
    exact free c o (fun z=>(hch c z).2.2.1 x c e rfl) ho (I.freeC x c e)
  · obtain ⟨e,n,ne,nf,d⟩:=I.pin p hp
    have nch:p.1∉ch:=fun z=>(hch p.1 z).2.2.2 p hp rfl
    exact ⟨keep p.1 p.2 ne nf nch e n,free p.1 p.2 nch e n,ne,nf,d⟩
theorem Inv.un {t':Nat} (I:Inv X pins σ H s) (u:Un X.fs [] H H' s.heap h') (hok:HOk X.prog X.w H' h'):Inv X pins σ H' { s with heap:=h',toks:=t' }:=by
  obtain ⟨m,⟨o,es,ep,ho,r⟩,_⟩:=id I.loc
  obtain ⟨sl,hL⟩:=u.any ho I.free (by simp)
  exact I.step (g':=s.gens) (d':=s.drawn) (ch:=[]) (fun _ z=>nomatch z) (fun b o _ hb _ e n=>u.keep b o e n hb (by simp)) (fun b o _ hb _ e n=>u.slot b o e n hb (by simp)) (fun b o _ e n=>u.free b o e n (by simp)) (fun b o _ e=>u.there b o e (by simp)) u.tups u.frzs u.tbls (fun m' hm=>by
    obtain ⟨o',es',ep',ho',r'⟩:=hm
    rw [ho] at ho'; cases ho'
    exact ⟨_,es',ep',hL,r'⟩) hok I.bare
theorem Inv.call {g':Array GenState}{t':Nat}{d':Drawn}{ch:List Addr} (I:Inv X pins σ H s) (u:Un (frs X.stack) ch H H' s.heap h') (hok:HOk X.prog X.w H' h') (hg:AllBare g')
    (hch:∀ b∈ch,(b∈X.ex∨X.s₀.heap.objs.size≤b)∧b≠X.env.locals∧(∀ x c,X.env.cells.lookup x=some c→c≠b)∧∀ p∈X.pn++pins,p.1≠b) :
    Inv X pins σ H' { s with heap:=h',gens:=g',drawn:=d',toks:=t' }:=by
  obtain ⟨m,⟨o,es,ep,ho,r⟩,_⟩:=id I.loc
  obtain ⟨sl,hL⟩:=u.any ho I.free fun z=>(hch _ z).2.1 rfl
  exact I.step (ch:=ch) hch (fun b o hL hb hc e n=>u.keep b o e n (fun z=>(List.mem_cons.mp (I.stkSub b z)).elim hL hb) hc) (fun b o _ _ hc e n=>u.any e n hc) (fun b o hc e n=>u.free b o e n hc) (fun b o hc e=>u.there b o e hc) u.tups u.frzs u.tbls (fun m' hm=>by
    obtain ⟨o',es',ep',ho',r'⟩:=hm
    rw [ho] at ho'; cases ho'
    exact ⟨_,es',ep',hL,r'⟩) hok hg
theorem Inv.turned {t':Nat}{it:Addr} (I:Inv X pins σ H s) (k:∀ b o,b≠it→s.heap.get? b=some o→h'.get? b=some o) (hn:H it=none) (hL:it≠X.env.locals)
    (h1:it∈X.ex∨X.s₀.heap.objs.size≤it) (h2:∀ x c,X.env.cells.lookup x=some c→c≠it) (h3:∀ p∈X.pn++pins,p.1≠it):Inv X pins σ H { s with heap:=h',toks:=t' }:=by
  have nit:∀ b u,H b=some u→b≠it:=fun b u e z=>by rw [z,hn] at e; cases e
  refine I.step (g':=s.gens) (d':=s.drawn) (ch:=[it]) (fun b hb=>?_) (fun b o _ _ hc e _=>k b o (fun z=>hc (by simp [z])) e) (fun b o _ _ hc e _=>⟨o.slots,k b o (fun z=>hc (by simp [z])) e⟩) (fun _ _ _ _ n=>n)
    (fun b o hc e=>⟨o,k b o (fun z=>hc (by simp [z])) e⟩) (fun _ _ e=>e) (fun _ _ _ e=>e) (fun b ps e=>⟨#[],by rw [e]; simp⟩) (fun m hm=>?_) (fun b u e=>?_) I.bare
  · have e:b=it:=by simpa using hb
    subst e
    exact ⟨h1,hL,h2,h3⟩
  · obtain ⟨o,es,ep,ho,r⟩:=hm
    exact ⟨o,es,ep,k _ o (Ne.symm hL) ho,r⟩
  · refine (I.hok b u e).stay (fun c v hc q=>k c v ?_ q) (fun _ q=>q) fun _ _ q=>q
    rcases hc with z | z
    · rw [z]; exact nit b u e
    · exact nit c _ z
theorem Inv.tok (I:Inv X pins σ H s) (t:Nat):Inv X pins σ H { s with toks:=t }:=I.un (h':=s.heap) (t':=t) Un.refl I.hok
theorem Inv.kept {t':Nat} (I:Inv X pins σ H s) (k:∀ b u,s.heap.get? b=some u→h'.get? b=some u):Inv X pins σ H { s with heap:=h',toks:=t' }:=I.un (Un.kept k) (I.hok.kept k)
theorem Inv.laid {a:Addr}{o:HO}{t':Nat} (I:Inv X pins σ H s) (k:∀ b u,s.heap.get? b=some u→h'.get? b=some u) (hp:s.heap.objs.size≤a) (new:ObjOk X.prog X.w (upd H a o) h' a o) :
    Inv X pins σ (upd H a o) { s with heap:=h',toks:=t' }:=I.un (Un.laid k hp (I.hok.fresh hp)) (I.hok.laid k hp new)
theorem Inv.write {x e:Addr}{o:HO}{t':Nat} (I:Inv X pins σ H s) (mu:Mut (H x)) (he:e=x∨H e=some (.own x)) (k:∀ b u,b≠e→s.heap.get? b=some u→h'.get? b=some u) (heo:∃ u,h'.get? e=some u)
    (new:ObjOk X.prog X.w (upd H x o) h' x o):Inv X pins σ (upd H x o) { s with heap:=h',toks:=t' }:=I.un (Un.write mu he k heo) (I.hok.write mu he k heo new)
theorem Inv.pins_of {pins':List (Addr×Obj)} (I:Inv X pins σ H s) (h:∀ p∈pins',s.heap.get? p.1=some p.2∧H p.1=none∧p.1≠X.env.locals∧p.1∉X.fs∧∀ v,p.2.data≠.cell v):Inv X pins' σ H s:=
  ⟨I.ok,I.os,I.bare,I.base,I.loc,I.cell,I.free,I.freeC,fun p hp=>(List.mem_append.mp hp).elim (fun z=>I.pin p (List.mem_append_left _ z)) (h p),I.hok,I.len⟩

theorem nodup_ix {N:List Str} (hN:N.Nodup) {i j:Nat}{x:Str} (a:N[i]?=some x) (b:N[j]?=some x):i=j:=by
  obtain ⟨h1,e1⟩:=List.getElem?_eq_some_iff.mp a
  obtain ⟨h2,e2⟩:=List.getElem?_eq_some_iff.mp b
  exact (List.getElem_inj hN).mp (e1.trans e2.symm)

theorem store_ok2 {M:Model}{A:Around}{E:Value→Shared→Prop}{i:Nat}{x:Str}{v:V}{u:Value}{Q:Unit→Shared→Prop} (I:Inv X pins σ H s) (hN:X.N.Nodup) (hi:X.N[i]?=some x) (hx:Loc X.env.scope x) (r:RelV v u)
    (h:∀ s',Inv X pins (σ.set i (some v)) H s'→(∃ a,Heap.SameBut a s.heap s'.heap∧(a=X.env.locals∨X.env.cells.lookup x=some a))→Q () s') (hf:X.fn x=true∨X.env.scope.names.lookup x=some .local:=by first | exact .inl rfl | exact .inr rfl | assumption):wpAny M A (storeName X.env x u) Q E s:=by
  obtain ⟨m,hn,hl⟩:=id I.loc
  have hcls:(X.env.scope.kind==.class||(X.env.scope.kind==.module&&X.env.locals != X.env.globals))=false:=by rw [I.ok.kind]; rfl
  have hiσ:i < σ.length:=by rw [I.len]; exact (List.getElem?_eq_some_iff.mp hi).1
  have cne:=I.cne
  have tracked:∀ {a:Addr}{h':Heap},(∃ o,s.heap.get? a=some o∧H a=none)→Heap.SameBut a s.heap h'→HOk X.prog X.w H h':=fun {a h'} ha hs b ob e=>by
    obtain ⟨_,_,hfree⟩:=ha
    refine (I.hok b ob e).stay (fun c w' hc q=>(hs.2 c ?_).trans q) (fun _ q=>q) fun _ _ q=>q
    rintro rfl
    rcases hc with rfl | hc
    · rw [hfree] at e; cases e
    · rw [hfree] at hc; cases hc
  rcases hx with hk | hk
  · refine wpAny_storeName_local hk hn (fun h' hn' hs=>?_) hcls
    obtain ⟨oL,_,_,hoL,_⟩:=id hn
    refine h _ ⟨I.ok,I.os,I.bare,⟨fun b o e n hb hx=>?_,fun b o e n hb hx=>?_,I.base.free,fun b o e hx=>?_,I.base.tups,I.base.frzs,I.base.tbls⟩,⟨_,hn',fun j y v' e1 e2 e3=>?_⟩,fun y c e=>?_,I.free,I.freeC,fun p hp=>?_,tracked ⟨oL,hoL,I.free⟩ hs,by simpa using I.len⟩ ⟨_,hs,.inl rfl⟩
    · exact (hs.2 b (Nat.ne_of_lt (Nat.lt_of_lt_of_le (Heap.lt_size e) I.ok.above))).trans (I.base.keep b o e n hb hx)
    · obtain ⟨sl,e1⟩:=I.base.slot b o e n hb hx
      exact ⟨sl,(hs.2 b (Nat.ne_of_lt (Nat.lt_of_lt_of_le (Heap.lt_size e) I.ok.above))).trans e1⟩
    · obtain ⟨o',e1⟩:=I.base.there b o e hx
      exact ⟨o',(hs.2 b (Nat.ne_of_lt (Nat.lt_of_lt_of_le (Heap.lt_size e) I.ok.above))).trans e1⟩
    · by_cases hj:j=i
      · subst hj
        rw [hi] at e1; cases e1
        rw [List.getElem?_set_self hiσ] at e2
        cases e2
        exact ⟨u,r,.inl ⟨hk,by simp⟩⟩
      · rw [List.getElem?_set_ne (Ne.symm hj)] at e2
        obtain ⟨u',r',q⟩:=hl j y v' e1 e2 e3
        refine ⟨u',r',?_⟩
        rcases q with ⟨k,e⟩ | ⟨k,c,e,z⟩
        · refine .inl ⟨k,?_⟩
          have:y≠x:=fun e=>hj (nodup_ix hN e1 (e ▸ hi))
          simp [this,e]
        · exact .inr ⟨k,c,e,z.sameBut hs (cne y c e)⟩
    · obtain ⟨w',z⟩:=I.cell y c e
      exact ⟨w',z.sameBut hs (cne y c e)⟩
    · obtain ⟨e,n,ne,nf,d⟩:=I.pin p hp
      exact ⟨(hs.2 p.1 ne).trans e,n,ne,nf,d⟩
  · have hfn:X.fn x=true:=by
      rcases hf with z | z
      · exact z
      · rw [z] at hk; cases hk
    obtain ⟨c,hc⟩:=I.ok.has x (.inl hk)
    obtain ⟨w',z⟩:=I.cell x c hc
    refine wpAny_storeName_cell I.ok.kind hk hc z (fun h' hc' hs=>?_)
    obtain ⟨oc,hoc,hocd⟩:=id z
    refine h { s with heap:=h' } ⟨I.ok,I.os,I.bare,⟨fun b o e n hb hx=>?_,fun b o e n hb hx=>?_,I.base.free,fun b o e hx=>?_,I.base.tups,I.base.frzs,I.base.tbls⟩,⟨m,hn.sameBut hs (Ne.symm (cne x c hc)),fun j y v' e1 e2 e3=>?_⟩,fun y c' e=>?_,I.free,I.freeC,fun p hp=>?_,tracked ⟨oc,hoc,I.freeC x c hc⟩ hs,by simpa using I.len⟩ ⟨c,hs,.inr hc⟩
    · exact (hs.2 b (Nat.ne_of_lt (Nat.lt_of_lt_of_le (Heap.lt_size e) (I.ok.cab x c hfn hc)))).trans (I.base.keep b o e n hb hx)
    · obtain ⟨sl,e1⟩:=I.base.slot b o e n hb hx
      exact ⟨sl,(hs.2 b (Nat.ne_of_lt (Nat.lt_of_lt_of_le (Heap.lt_size e) (I.ok.cab x c hfn hc)))).trans e1⟩
    · obtain ⟨o',e1⟩:=I.base.there b o e hx
      exact ⟨o',(hs.2 b (Nat.ne_of_lt (Nat.lt_of_lt_of_le (Heap.lt_size e) (I.ok.cab x c hfn hc)))).trans e1⟩
    · by_cases hj:j=i
      · subst hj
        rw [hi] at e1; cases e1
        rw [List.getElem?_set_self hiσ] at e2
        cases e2
        exact ⟨u,r,.inr ⟨.inl hk,c,hc,hc'⟩⟩
      · rw [List.getElem?_set_ne (Ne.symm hj)] at e2
        obtain ⟨u',r',q⟩:=hl j y v' e1 e2 e3
        refine ⟨u',r',?_⟩
        rcases q with q | ⟨k,c',e,z'⟩
        · exact .inl q
        · refine .inr ⟨k,c',e,z'.sameBut hs ?_⟩
          rintro rfl
          exact hj (nodup_ix hN e1 (I.ok.inj _ _ _ e hc ▸ hi))
    · by_cases hcc:c'=c
      · subst hcc; exact ⟨_,hc'⟩
      · obtain ⟨w2,z2⟩:=I.cell y c' e
        exact ⟨w2,z2.sameBut hs hcc⟩
    · obtain ⟨e,n,ne,nf,d⟩:=I.pin p hp
      refine ⟨(hs.2 p.1 ?_).trans e,n,ne,nf,d⟩
      intro q
      rw [q,hoc] at e
      have q':oc=p.2:=Option.some.inj e
      exact d w' (by rw [←q']; exact hocd)
theorem store_ok {M:Model}{A:Around}{E:Value→Shared→Prop}{i:Nat}{x:Str}{v:V}{u:Value}{Q:Unit→Shared→Prop} (I:Inv X pins σ H s) (hN:X.N.Nodup) (hi:X.N[i]?=some x) (hx:Loc X.env.scope x) (r:RelV v u)
    (h:∀ s',Inv X pins (σ.set i (some v)) H s'→Q () s') (hf:X.fn x=true∨X.env.scope.names.lookup x=some .local:=by first | exact .inl rfl | exact .inr rfl | assumption):wpAny M A (storeName X.env x u) Q E s:=
  store_ok2 I hN hi hx r (fun s' I' _=>h s' I') hf
theorem Inv.call' {s':Shared}{ch:List Addr} (I:Inv X pins σ H s) (ho:s'.os=s.os) (u:Un (frs X.stack) ch H H' s.heap s'.heap) (hok:HOk X.prog X.w H' s'.heap) (hg:AllBare s'.gens)
    (hch:∀ b∈ch,(b∈X.ex∨X.s₀.heap.objs.size≤b)∧b≠X.env.locals∧(∀ x c,X.env.cells.lookup x=some c→c≠b)∧∀ p∈X.pn++pins,p.1≠b):Inv X pins σ H' s':=by
  obtain ⟨h',g',d',t',o'⟩:=s'
  have e:o'=s.os:=ho
  subst e
  exact I.call (g':=g') (t':=t') (d':=d') u hok hg hch
end

noncomputable abbrev XK:=Value→Option Addr→Hp→Prop
noncomputable abbrev St:=List (Option V)
noncomputable abbrev VK:=V→Hp→Prop
noncomputable abbrev TE:=St→Hp→VK→Prop
noncomputable abbrev TT:=St→Hp→(Bool→Hp→Prop)→Prop
noncomputable abbrev TA:=St→Hp→(List V→Hp→Prop)→Prop
structure Ends where
  nx:St→Hp→Prop
  rt:VK
  bk:St→Hp→Prop:=fun _ _=>False
  ct:St→Hp→Prop:=fun _ _=>False
noncomputable abbrev TS:=Ends→St→Hp→Prop

noncomputable def EP (X:Cx) (pins:List (Addr×Obj)) (σ:St) (Q:VK) (u:Value) (s':Shared):Prop:=∃ v H',Inv X pins σ H' s'∧RelV v u∧Q v H'
noncomputable def TP (X:Cx) (pins:List (Addr×Obj)) (σ:St) (Q:Bool→Hp→Prop) (b:Bool) (s':Shared):Prop:=∃ H',Inv X pins σ H' s'∧Q b H'
noncomputable def AP (X:Cx) (pins:List (Addr×Obj)) (σ:St) (Q:List V→Hp→Prop) (us:List Value) (s':Shared):Prop:=∃ vs H',Inv X pins σ H' s'∧Vals vs us∧Q vs H'
noncomputable def SP (X:Cx) (pins:List (Addr×Obj)) (D:Ends) (f:Flow) (s':Shared):Prop:=
  match f with
  | .next=>∃ σ' H',Inv X pins σ' H' s'∧D.nx σ' H'
  | .brk=>∃ σ' H',Inv X pins σ' H' s'∧D.bk σ' H'
  | .cont=>∃ σ' H',Inv X pins σ' H' s'∧D.ct σ' H'
  | .ret u=>∃ v σ' H',Inv X pins σ' H' s'∧RelV v u∧D.rt v H'

noncomputable def PE (X:Cx) (e:Expr) (t:TE):Prop:=
  ∀ (pins:List (Addr×Obj)) (s:Shared) (σ:St) (H:Hp) (Q:VK),Inv X pins σ H s→t σ H Q→wpAny (model X.prog X.w) X.A (eval e X.env) (EP X pins σ Q) X.xe s
noncomputable def PT (X:Cx) (e:Expr) (t:TT):Prop:=
  ∀ (pins:List (Addr×Obj)) (s:Shared) (σ:St) (H:Hp) (Q:Bool→Hp→Prop),Inv X pins σ H s→t σ H Q→wpAny (model X.prog X.w) X.A (isTrue e X.env (eval e X.env)) (TP X pins σ Q) X.xe s
noncomputable def PW (X:Cx) (e:Expr) (t:TT):Prop:=
  ∀ (whole:Sem Value) (pins:List (Addr×Obj)) (s:Shared) (σ:St) (H:Hp) (Q:Bool→Hp→Prop),Inv X pins σ H s→t σ H Q→wpAny (model X.prog X.w) X.A (isTrue e X.env whole) (TP X pins σ Q) X.xe s
theorem PW.pt {X:Cx}{e:Expr}{t:TT} (h:PW X e t):PT X e t:=h _
noncomputable def PA (X:Cx) (es:List Expr) (t:TA):Prop:=
  ∀ (pos:Pos) (pins:List (Addr×Obj)) (s:Shared) (σ:St) (H:Hp) (Q:List V→Hp→Prop),Inv X pins σ H s→t σ H Q→wpAny (model X.prog X.w) X.A (spliced (backTo pos (starEach es X.env))) (AP X pins σ Q) X.xe s
noncomputable def PS (X:Cx) (st:Stmt) (t:TS):Prop:=
  ∀ (pins:List (Addr×Obj)) (s:Shared) (σ:St) (H:Hp) (D:Ends),Inv X pins σ H s→t D σ H→wpAny (model X.prog X.w) X.A (exec st X.env) (SP X pins D) X.xe s
noncomputable def PSs (X:Cx) (st:List Stmt) (t:TS):Prop:=
  ∀ (pins:List (Addr×Obj)) (s:Shared) (σ:St) (H:Hp) (D:Ends),Inv X pins σ H s→t D σ H→wpAny (model X.prog X.w) X.A (execs st X.env) (SP X pins D) X.xe s
theorem thn {α:Type}{t:Sem α}{Q Q':α→Shared→Prop}{M:Model}{A:Around}{E:Value→Shared→Prop}{s:Shared} (h:wpAny M A t Q E s) (hQ:∀ a s,Q a s→Q' a s):wpAny M A t Q' E s:=wpAny_mono h hQ fun _ _ x=>x
end L2

namespace L2
open PySem PySem.Spec PyProof.Rows
section
variable {X:Cx}


noncomputable def tVar (i:Nat):TE:=fun σ H Q=>∃ v,σ[i]?=some (some v)∧Q v H
noncomputable def tC (v:V):TE:=fun _ H Q=>Q v H
theorem pe_var {i:Nat}{x:Str}{pos:Pos} (hN:X.N[i]?=some x) (hv:Vis X.env.scope x) (hd:(x==("__debug__":Str))=false:=by decide) (hcd:(x==("__classdict__":Str))=false:=by decide):PE X (.Name x pos) (tVar i):=by
  intro pins s σ H Q I h
  obtain ⟨v,e,h⟩:=h
  obtain ⟨m,hn,hl⟩:=I.loc
  obtain ⟨u,r,l⟩:=hl i x v hN e hv
  have fin:EP X pins σ Q u s:=⟨v,H,I,r,h⟩
  rcases l with ⟨hk,hm⟩ | ⟨hk,c,hc,hcell⟩
  · exact wpAny_Name (wpAny_loadName_local I.ok.kind hk hn hm fin) hd
  · rcases hk with hk | hk
    · exact wpAny_Name (wpAny_loadName_cell I.ok.kind hk hc hcell fin) hd
    · exact wpAny_Name (wpAny_loadName_free I.ok.kind hk hc hcell fin hcd) hd
theorem pe_int {i j pos}:PE X (.Constant (.int i) j pos) (tC (.int i)):=fun _ _ _ H _ I h=>wpAny_Constant_int ⟨.int i,H,I.tok _,⟨_,rfl⟩,h⟩
theorem pe_bl {b j pos}:PE X (.Constant (.bool b) j pos) (tC (.bl b)):=fun _ _ _ H _ I h=>Constant_bool ⟨.bl b,H,I,rfl,h⟩
theorem pe_non {j pos}:PE X (.Constant .none j pos) (tC .non):=fun _ _ _ H _ I h=>Constant_none ⟨.non,H,I,rfl,h⟩
theorem pe_str {x j pos}:PE X (.Constant (.str x) j pos) (tC (.str x)):=fun _ _ _ H _ I h=>Calls.Constant_str ⟨.str x,H,I.tok _,⟨_,rfl⟩,h⟩

noncomputable def Gl (X:Cx) (x:Str):Prop:=X.env.kindOf x=some .globalImplicit
theorem ld_glob {E:Value→Shared→Prop}{pins:List (Addr×Obj)}{s:Shared}{σ:St}{H:Hp}{x:Str}{u:Value}{pos:Pos}{Q:Value→Shared→Prop} (I:Inv X pins σ H s) (hg:Gl X x) (hm:X.mg x=some u) (h:Q u s)
    (hd:(x==("__debug__":Str))=false:=by decide):wpAny (model X.prog X.w) X.A (eval (.Name x pos) X.env) Q E s:=
  Calls.Name_function_global I.ok.kind hg (Calls.loadGlobal_global (by rw [I.ok.glob]; exact I.mod.glob.keeps I.bk) hm h) hd
theorem ld_blt {E:Value→Shared→Prop}{pins:List (Addr×Obj)}{s:Shared}{σ:St}{H:Hp}{x:Str}{u:Value}{pos:Pos}{Q:Value→Shared→Prop} (I:Inv X pins σ H s) (hg:Gl X x) (hm:X.mg x=none) (hv:bootBuiltins x=some u) (h:Q u s)
    (hn:x ≠ "__name__":=by decide) (hd:(x==("__debug__":Str))=false:=by decide):wpAny (model X.prog X.w) X.A (eval (.Name x pos) X.env) Q E s:=by
  obtain ⟨mb,h1,h2⟩:=I.mod.blt
  exact Calls.Name_function_global I.ok.kind hg (Calls.loadGlobal_builtin (by rw [I.ok.glob]; exact I.mod.glob.keeps I.bk) hm (by rw [I.ok.blt]; exact h1.keeps I.bk) ((h2 x hn).trans hv) h) hd
theorem pe_glob {x:Str}{v:V}{u:Value}{pos:Pos} (hg:Gl X x) (hm:X.mg x=some u) (r:RelV v u) (hd:(x==("__debug__":Str))=false:=by decide):PE X (.Name x pos) (tC v):=
  fun _ _ _ H _ I h=>ld_glob I hg hm ⟨v,H,I,r,h⟩ hd
theorem pe_bltn {x:Str}{v:V}{u:Value}{pos:Pos} (hg:Gl X x) (hm:X.mg x=none) (hv:bootBuiltins x=some u) (r:RelV v u) (hn:x ≠ "__name__":=by decide) (hd:(x==("__debug__":Str))=false:=by decide):PE X (.Name x pos) (tC v):=
  fun _ _ _ H _ I h=>ld_blt I hg hm hv ⟨v,H,I,r,h⟩ hn hd

variable {a b:Expr}{ta tb:TE}{pos:Pos}

noncomputable def PC (X:Cx) (op:CmpOp) (a b:Expr) (t:TE):Prop:=
  ∀ (pins:List (Addr×Obj)) (s:Shared) (σ:St) (H:Hp) (Q:VK),Inv X pins σ H s→t σ H Q→
    wpAny (model X.prog X.w) X.A (eval a X.env) (fun v s₁=>wpAny (model X.prog X.w) X.A (eval b X.env) (fun u s₂=>wpAny (model X.prog X.w) X.A (compareOp op v u) (EP X pins σ Q) X.xe s₂) X.xe s₁) X.xe s
noncomputable def tB (t:TE):TT:=fun σ H Q=>t σ H fun x H1=>∃ c,x=.bl c∧Q c H1
theorem pt_val {e:Expr}{t:TE} (h:PE X e t) (he:∀ whole,isTrue e X.env whole=(do let v ←whole; standAt e.pos; holding [v] (truthy v)):=by intro _; rfl):PT X e (tB t):=by
  intro pins s σ H Q I hw
  refine isTrue_plain (thn (h pins s σ H _ I hw) fun v s1 ⟨x,H1,I1,r1,q1⟩=>?_) (he _)
  obtain ⟨d,rfl,q⟩:=q1
  cases r1
  exact wpAny_truthy_bool ⟨H1,I1,q⟩

variable {tA tB':TT}{rest:List Expr}
noncomputable def tAnd (t u:TT):TT:=fun σ H Q=>t σ H fun c H1=>if c=true then u σ H1 Q else Q false H1
noncomputable def tOr (t u:TT):TT:=fun σ H Q=>t σ H fun c H1=>if c=true then Q true H1 else u σ H1 Q
noncomputable def tNot (t:TT):TT:=fun σ H Q=>t σ H fun c H1=>Q (!c) H1
theorem pw_and1 (ha:PT X a tA):PW X (.BoolOp .And [a] pos) tA:=by
  intro wh pins s σ H Q I h
  refine isTrue_and (thn (ha pins s σ H Q I h) fun c s1 e=>?_)
  cases c with
  | true=>exact isTrue_and_nil e
  | false=>exact e
theorem pw_or1 (ha:PT X a tA):PW X (.BoolOp .Or [a] pos) tA:=by
  intro wh pins s σ H Q I h
  refine isTrue_or (thn (ha pins s σ H Q I h) fun c s1 e=>?_)
  cases c with
  | false=>exact isTrue_or_nil e
  | true=>exact e
theorem pw_and (ha:PT X a tA) (hb:PW X (.BoolOp .And (b :: rest) pos) tB'):PW X (.BoolOp .And (a :: b :: rest) pos) (tAnd tA tB'):=by
  intro wh pins s σ H Q I h
  refine isTrue_and (thn (ha pins s σ H _ I h) fun c s1 ⟨H1,I1,q1⟩=>?_)
  cases c with
  | true=>exact hb wh pins s1 σ H1 Q I1 q1
  | false=>exact ⟨H1,I1,q1⟩
theorem pw_or (ha:PT X a tA) (hb:PW X (.BoolOp .Or (b :: rest) pos) tB'):PW X (.BoolOp .Or (a :: b :: rest) pos) (tOr tA tB'):=by
  intro wh pins s σ H Q I h
  refine isTrue_or (thn (ha pins s σ H _ I h) fun c s1 ⟨H1,I1,q1⟩=>?_)
  cases c with
  | true=>exact ⟨H1,I1,q1⟩
  | false=>exact hb wh pins s1 σ H1 Q I1 q1
theorem pt_not (ha:PT X a tA):PT X (.UnaryOp .Not a pos) (tNot tA):=by
  intro pins s σ H Q I h
  exact isTrue_not (ha pins s σ H (fun c H1=>Q (!c) H1) I h)
noncomputable def tAndV (ta tb:TE):TE:=fun σ H Q=>ta σ H fun x H1=>∃ c,x=.bl c∧if c=true then tb σ H1 Q else Q (.bl false) H1
noncomputable def tOrV (ta tb:TE):TE:=fun σ H Q=>ta σ H fun x H1=>∃ c,x=.bl c∧if c=true then Q (.bl true) H1 else tb σ H1 Q
noncomputable def tNotV (ta:TE):TE:=fun σ H Q=>ta σ H fun x H1=>∃ c,x=.bl c∧Q (.bl (!c)) H1
theorem pe_one {op}{t:TE} (h:PE X a t):PE X (.BoolOp op [a] pos) t:=fun pins s σ H Q I hw=>BoolOp_one (h pins s σ H Q I hw)
theorem pe_and (ha:PE X a ta) (hb:PE X (.BoolOp .And (b :: rest) pos) tb):PE X (.BoolOp .And (a :: b :: rest) pos) (tAndV ta tb):=by
  intro pins s σ H Q I h
  refine BoolOp_and (thn (ha pins s σ H _ I h) fun v s1 ⟨x,H1,I1,r1,q1⟩=>?_)
  obtain ⟨c,rfl,q1⟩:=q1
  cases r1
  refine wpAny_truthy_bool ?_
  cases c with
  | true=>exact hb pins s1 σ H1 Q I1 q1
  | false=>exact ⟨.bl false,H1,I1,rfl,q1⟩
theorem pe_or (ha:PE X a ta) (hb:PE X (.BoolOp .Or (b :: rest) pos) tb):PE X (.BoolOp .Or (a :: b :: rest) pos) (tOrV ta tb):=by
  intro pins s σ H Q I h
  refine BoolOp_or (thn (ha pins s σ H _ I h) fun v s1 ⟨x,H1,I1,r1,q1⟩=>?_)
  obtain ⟨c,rfl,q1⟩:=q1
  cases r1
  refine wpAny_truthy_bool ?_
  cases c with
  | false=>exact hb pins s1 σ H1 Q I1 q1
  | true=>exact ⟨.bl true,H1,I1,rfl,q1⟩
theorem pe_not (ha:PE X a ta):PE X (.UnaryOp .Not a pos) (tNotV ta):=by
  intro pins s σ H Q I h
  refine UnaryOp_ (thn (ha pins s σ H _ I h) fun v s1 ⟨x,H1,I1,r1,q1⟩=>?_)
  obtain ⟨c,rfl,q1⟩:=q1
  cases r1
  exact not_of (wpAny_truthy_bool ⟨.bl (!c),H1,I1,rfl,q1⟩)
noncomputable def tIf (t:TT) (ta tb:TE):TE:=fun σ H Q=>t σ H fun c H1=>if c=true then ta σ H1 Q else tb σ H1 Q
theorem pe_ifExp {c:Expr} (hc:PT X c tA) (ha:PE X a ta) (hb:PE X b tb):PE X (.IfExp c a b pos) (tIf tA ta tb):=by
  intro pins s σ H Q I h
  refine wpAny_IfExp (thn (hc pins s σ H _ I h) fun d s1 ⟨H1,I1,q1⟩=>?_)
  cases d with
  | true=>exact ha pins s1 σ H1 Q I1 q1
  | false=>exact hb pins s1 σ H1 Q I1 q1
end
end L2

namespace L2
open PySem PySem.Spec PyProof.Rows

noncomputable def SqL (K:PySem.W.Frag) (H:Hp) (a:Addr) (xs:List V):Prop:=
  Rd H a (.lst xs) ∨
    ∃ (o:Obj) (its:Array Value) (n:Nat),K.lookup a=some o∧o.cls=.type "list"∧o.dict=none∧o.data=.seq its n∧its.size≤sizeLine∧Vals xs its.toList
noncomputable def SqT (K:PySem.W.Frag) (H:Hp) (a:Addr) (xs:List V):Prop:=
  Rd H a (.tup xs) ∨
    ∃ (o:Obj) (its:Array Value) (n:Nat),K.lookup a=some o∧o.cls=.type "tuple"∧o.data=.seq its n∧its.size≤sizeLine∧Vals xs its.toList
noncomputable def absV:Value→Option V
  | .none=>some .non
  | .bool b=>some (.bl b)
  | .int i _=>some (.int i)
  | .str x _=>some (.str x)
  | .bytes b _=>some (.byt b)
  | .float b _=>some (.flt b)
  | .ref a=>some (.ref a)
  | .type n=>some (.ty n)
  | _=>none
theorem RelV.abs {x:V}{u:Value} (r:RelV x u):absV u=some x:=by
  cases x with
  | non=>cases r; rfl
  | bl _=>cases r; rfl
  | int _=>obtain ⟨t,rfl⟩:=r; rfl
  | str _=>obtain ⟨t,rfl⟩:=r; rfl
  | byt _=>obtain ⟨t,rfl⟩:=r; rfl
  | flt _=>obtain ⟨t,rfl⟩:=r; rfl
  | ref _=>cases r; rfl
  | ty _=>cases r; rfl
theorem RelV.inj {x y:V}{u:Value} (r:RelV x u) (q:RelV y u):x=y:=Option.some.inj (r.abs.symm.trans q.abs)
theorem Vals.inj:∀ {xs ys:List V}{us:List Value},Vals xs us→Vals ys us→xs=ys
  | _,_,_,.nil,.nil=>rfl
  | _,_,_,.cons r t,.cons r' t'=>by rw [r.inj r',Vals.inj t t']
section
variable {X:Cx}{pins:List (Addr×Obj)}{σ:St}{H:Hp}{s:Shared}{a:Addr}{xs ys:List V}
theorem SqT.of {K:PySem.W.Frag} (h:H a=some (.tup xs)):SqT K H a xs:=.inl (.inl h)
theorem Inv.list (I:Inv X pins σ H s) (h:SqL X.K H a xs):∃ its:List Value,Vals xs its∧PlainL s.heap a its.toArray∧xs.length≤sizeLine:=by
  rcases h with h | ⟨o,its,n,hk,hc,hd,hs,hz,r⟩
  · obtain ⟨z,its,n,r,e⟩:=h.ok I.hok
    exact ⟨its,r,⟨_,n,e,rfl,rfl,rfl⟩,z⟩
  · refine ⟨its.toList,r,⟨o,n,I.kIn a o hk,hc,hd,by simpa using hs⟩,?_⟩
    have e:=r.length
    simp only [Array.length_toList] at e
    omega
theorem Inv.tuple (I:Inv X pins σ H s) (h:SqT X.K H a xs):∃ its:List Value,Vals xs its∧IsTup s.heap a its.toArray∧xs.length≤sizeLine:=by
  rcases h with h | ⟨o,its,n,hk,hc,hs,hz,r⟩
  · obtain ⟨z,its,r,p⟩:=h.ok I.hok
    exact ⟨its,r,p,z⟩
  · refine ⟨its.toList,r,⟨o,I.kIn a o hk,hc,n,by simpa using hs⟩,?_⟩
    have e:=r.length
    simp only [Array.length_toList] at e
    omega
theorem Inv.list_inj (I:Inv X pins σ H s) (h:SqL X.K H a xs) (h':SqL X.K H a ys):xs=ys:=by
  obtain ⟨its,r,⟨o,n,e,_,_,d⟩,_⟩:=I.list h
  obtain ⟨its',r',⟨o',n',e',_,_,d'⟩,_⟩:=I.list h'
  rw [e] at e'; cases e'
  rw [d] at d'
  injection d' with d1 _
  have:its=its':=by simpa using congrArg Array.toList d1
  subst this
  exact r.inj r'
theorem Inv.tuple_inj (I:Inv X pins σ H s) (h:SqT X.K H a xs) (h':SqT X.K H a ys):xs=ys:=by
  obtain ⟨its,r,⟨o,e,_,n,d⟩,_⟩:=I.tuple h
  obtain ⟨its',r',⟨o',e',_,n',d'⟩,_⟩:=I.tuple h'
  rw [e] at e'; cases e'
  rw [d] at d'
  injection d' with d1 _
  have:its=its':=by simpa using congrArg Array.toList d1
  subst this
  exact r.inj r'
end

noncomputable abbrev Cx.wish (X:Cx) (E:Value→Shared→Prop):Cx:={ X with xe:=E }
noncomputable abbrev Cx.nox (X:Cx):Cx:=X.wish fun _ _=>False
theorem Cx.Ok.wish {X:Cx} (ok:X.Ok) (E:Value→Shared→Prop):(X.wish E).Ok:=
  ⟨ok.mod,ok.kind,ok.glob,ok.blt,ok.above,ok.inj,ok.has,ok.cab,ok.hd,ok.frames,ok.stk,ok.exf,ok.bs,ok.bsz,ok.noex,ok.exfs,ok.funs,ok.frf⟩
theorem Cx.Ok.unwish {X:Cx}{E:Value→Shared→Prop} (ok:(X.wish E).Ok):X.Ok:=
  ⟨ok.mod,ok.kind,ok.glob,ok.blt,ok.above,ok.inj,ok.has,ok.cab,ok.hd,ok.frames,ok.stk,ok.exf,ok.bs,ok.bsz,ok.noex,ok.exfs,ok.funs,ok.frf⟩
section
variable {X:Cx}{pins:List (Addr×Obj)}{σ:St}{H:Hp}{s:Shared}{E:Value→Shared→Prop}
theorem Inv.wish (I:Inv X pins σ H s) (E:Value→Shared→Prop):Inv (X.wish E) pins σ H s:=⟨I.ok.wish E,I.os,I.bare,I.base,I.loc,I.cell,I.free,I.freeC,I.pin,I.hok,I.len⟩
theorem Inv.unwish (I:Inv (X.wish E) pins σ H s):Inv X pins σ H s:=⟨I.ok.unwish,I.os,I.bare,I.base,I.loc,I.cell,I.free,I.freeC,I.pin,I.hok,I.len⟩
theorem SP.unwish {D:Ends}{f:Flow}{s':Shared} (h:SP (X.wish E) pins D f s'):SP X pins D f s':=by
  cases f with
  | next=>obtain ⟨σ',H',I,q⟩:=h; exact ⟨σ',H',I.unwish,q⟩
  | brk=>obtain ⟨σ',H',I,q⟩:=h; exact ⟨σ',H',I.unwish,q⟩
  | cont=>obtain ⟨σ',H',I,q⟩:=h; exact ⟨σ',H',I.unwish,q⟩
  | ret u=>obtain ⟨v,σ',H',I,r,q⟩:=h; exact ⟨v,σ',H',I.unwish,r,q⟩
theorem PSs.nox {st:List Stmt}{t:TS} (h:PSs X.nox st t):PSs X st t:=fun pins s σ H D I hw=>
  wpAny_mono (h pins s σ H D (I.wish _) hw) (fun _ _ q=>q.unwish) fun _ _ z=>False.elim z
end

section
variable {X:Cx}{st:Stmt}{rest:List Stmt}{t u:TS}{e:Expr}{te:TE}{pos:Pos}
noncomputable def tNext:TS:=fun D σ H=>D.nx σ H
noncomputable def tSeq (t u:TS):TS:=fun D σ H=>t { D with nx:=u D } σ H
theorem pss_nil:PSs X [] tNext:=fun _ _ σ H _ I h=>wpAny_execs_nil ⟨σ,H,I,h⟩
theorem pss_cons (h1:PS X st t) (h2:PSs X rest u):PSs X (st :: rest) (tSeq t u):=by
  intro pins s σ H D I h
  refine wpAny_execs_cons (thn (h1 pins s σ H { D with nx:=u D } I h) fun f s1 q=>?_)
  cases f with
  | next=>
    obtain ⟨σ',H',I',q⟩:=q
    exact h2 pins s1 σ' H' D I' q
  | ret v=>exact q
  | brk=>exact q
  | cont=>exact q
noncomputable def tBreak:TS:=fun D σ H=>D.bk σ H
noncomputable def tCont:TS:=fun D σ H=>D.ct σ H
theorem ps_pass:PS X (.Pass pos) tNext:=fun _ _ σ H _ I h=>wpAny_Pass ⟨σ,H,I,h⟩
theorem ps_break:PS X (.Break pos) tBreak:=fun _ _ σ H _ I h=>wpAny_Break ⟨σ,H,I,h⟩
theorem ps_continue:PS X (.Continue pos) tCont:=fun _ _ σ H _ I h=>wpAny_Continue ⟨σ,H,I,h⟩
theorem Inv.quiet {pins:List (Addr×Obj)}{σ:St}{H:Hp}{s:Shared} (I:Inv X pins σ H s):interactive X.env=false:=by simp [interactive,I.ok.kind]
noncomputable def tDrop (te:TE):TS:=fun D σ H=>te σ H fun _ H1=>D.nx σ H1
theorem ps_expr (he:PE X e te) (hs:swapsWith e none pos.line X.env=pure false:=by rfl):PS X (.Expr e pos) (tDrop te):=by
  intro pins s σ H D I h
  exact wpAny_Expr_any (thn (he pins s σ H _ I h) fun v s1 ⟨x,H1,I1,r1,q1⟩=>⟨σ,H1,I1,q1⟩) I.quiet hs
noncomputable def tRet (te:TE):TS:=fun D σ H=>te σ H D.rt
theorem ps_ret (he:PE X e te):PS X (.Return (some e) pos) (tRet te):=by
  intro pins s σ H D I h
  exact wpAny_Return_some (thn (he pins s σ H _ I h) fun v s1 ⟨x,H1,I1,r1,q1⟩=>⟨x,σ,H1,I1,r1,q1⟩)
noncomputable def tIfS (c:TT) (t u:TS):TS:=fun D σ H=>c σ H fun b H1=>if b=true then t D σ H1 else u D σ H1
theorem ps_if {c:Expr}{a b:List Stmt}{tc:TT} (hc:PT X c tc) (ha:PSs X a t) (hb:PSs X b u):PS X (.If c a b pos) (tIfS tc t u):=by
  intro pins s σ H D I h
  refine wpAny_If (thn (hc pins s σ H _ I h) fun d s1 ⟨H1,I1,q1⟩=>?_)
  cases d with
  | true=>exact ha pins s1 σ H1 D I1 q1
  | false=>exact hb pins s1 σ H1 D I1 q1
end

noncomputable abbrev TG:=V→St→Hp→(St→Hp→Prop)→Prop
noncomputable abbrev TGs:=List V→St→Hp→(St→Hp→Prop)→Prop
noncomputable def PG (X:Cx) (target:Expr) (t:TG):Prop:=
  ∀ (pins:List (Addr×Obj)) (s:Shared) (σ:St) (H:Hp) (v:V) (u:Value) (Q:St→Hp→Prop),Inv X pins σ H s→RelV v u→t v σ H Q→
    wpAny (model X.prog X.w) X.A (assign target X.env u) (fun _ s'=>∃ σ' H',Inv X pins σ' H' s'∧Q σ' H') X.xe s
noncomputable def PGs (X:Cx) (ts:List Expr) (t:TGs):Prop:=
  ∀ (pins:List (Addr×Obj)) (s:Shared) (σ:St) (H:Hp) (vs:List V) (us:List Value) (Q:St→Hp→Prop),Inv X pins σ H s→Vals vs us→t vs σ H Q→
    wpAny (model X.prog X.w) X.A (assignInOrder ((assignEach ts X.env).map (·.2)) us) (fun _ s'=>∃ σ' H',Inv X pins σ' H' s'∧Q σ' H') X.xe s
noncomputable abbrev TSet:=V→V→V→Hp→(Hp→Prop)→Prop
noncomputable def PSet (X:Cx) (t:TSet):Prop:=
  ∀ (pins:List (Addr×Obj)) (s:Shared) (σ:St) (H:Hp) (o i v:V) (ov iv u:Value) (Q:Hp→Prop),Inv X pins σ H s→RelV o ov→RelV i iv→RelV v u→t o i v H Q→
    wpAny (model X.prog X.w) X.A (setItem ov iv u) (fun _ s'=>∃ H',Inv X pins σ H' s'∧Q H') X.xe s
section
variable {X:Cx}{pos:Pos}
noncomputable def gName (i:Nat):TG:=fun v σ H Q=>Q (σ.set i (some v)) H
theorem pg_name {i:Nat}{x:Str} (hN:X.N.Nodup) (hi:X.N[i]?=some x) (hx:Loc X.env.scope x) (hf:X.fn x=true∨X.env.scope.names.lookup x=some .local:=by first | exact .inl rfl | exact .inr rfl | assumption):PG X (.Name x pos) (gName i):=by
  intro pins s σ H v u Q I r h
  exact wpAny_assign_Name (store_ok I hN hi hx r (fun s' I'=>⟨_,H,I',h⟩) hf)
noncomputable def gNil:TGs:=fun vs σ H Q=>vs=[]∧Q σ H
noncomputable def gCons (t:TG) (u:TGs):TGs:=fun vs σ H Q=>∃ v r,vs=v :: r∧t v σ H fun σ' H'=>u r σ' H' Q
theorem pgs_nil:PGs X [] gNil:=by
  intro pins s σ H vs us Q I r h
  obtain ⟨e,h⟩:=h
  subst e
  cases r
  exact assignInOrder_nil ⟨σ,H,I,h⟩
theorem pgs_cons {e:Expr}{es:List Expr}{t:TG}{u:TGs} (h1:PG X e t) (h2:PGs X es u)
    (hs:(assignEach (e :: es) X.env).map (·.2)=assign e X.env :: (assignEach es X.env).map (·.2):=by rfl):PGs X (e :: es) (gCons t u):=by
  intro pins s σ H vs us Q I r h
  obtain ⟨v,vr,e1,h⟩:=h
  subst e1
  cases r with
  | cons r rr=>
    rw [hs]
    refine assignInOrder_cons (thn (h1 pins s σ H _ _ _ I r h) fun _ s1 ⟨σ1,H1,I1,q1⟩=>?_)
    exact h2 pins s1 σ1 H1 _ _ Q I1 rr q1
noncomputable def gTup (K:PySem.W.Frag) (n:Nat) (t:TGs):TG:=fun v σ H Q=>∃ a xs,v=.ref a∧SqT K H a xs∧xs.length=n∧t xs σ H Q
theorem pg_tup {es:List Expr}{k:Nat}{t:TGs}{n:Nat} (hc:X.calm=true) (h:PGs X es t)
    (hn:(assignEach es X.env).length=n:=by rfl) (hst:(assignEach es X.env).findIdx? (·.1)=none:=by rfl):PG X (.Tuple es k pos) (gTup X.K n t):=by
  intro pins s σ H v u Q I r hw
  obtain ⟨a,xs,e1,hq,hl,hw⟩:=hw
  subst e1
  cases r
  obtain ⟨its,rv,ht,hz⟩:=I.tuple hq
  refine assign_Tuple_tuple (I.ok.hd hc) ht (by simp [hn,←hl,rv.length]) hst fun h' hx=>?_
  have I1:Inv X pins σ H { s with heap:=h' }:=I.kept (t':=s.toks) fun b o e=>hx b o (Nat.ne_of_lt (Heap.lt_size e)) e
  exact h pins _ σ H xs _ Q I1 (by simpa using rv) hw
noncomputable def gSub (to ti:TE) (t:TSet):TG:=fun v σ H Q=>to σ H fun o H1=>ti σ H1 fun i H2=>t o i v H2 fun H3=>Q σ H3
theorem pg_sub {o i:Expr}{to ti:TE}{t:TSet} (ho:PE X o to) (hi:PE X i ti) (hs:PSet X t)
    (ha:∀ v,assign (.Subscript o i pos) X.env v=(do
      let ov ←holding [v] (eval o X.env)
      let iv ←holding [v,ov] (eval i X.env)
      standAt pos
      holding [v,ov,iv] (setItem ov iv v)
      release [v,ov,iv] []):=by intro _; rfl):PG X (.Subscript o i pos) (gSub to ti t):=by
  intro pins s σ H v u Q I r h
  rw [ha]
  refine wpAny_bind (wpAny_holding (thn (ho pins s σ H _ I h) fun ov s1 ⟨x,H1,I1,r1,q1⟩=>?_))
  refine wpAny_bind (wpAny_holding (thn (hi pins s1 σ H1 _ I1 q1) fun iv s2 ⟨y,H2,I2,r2,q2⟩=>?_))
  refine wpAny_bind (wpAny_standAt (wpAny_bind (wpAny_holding (thn (hs pins s2 σ H2 x y v ov iv u _ I2 r1 r2 r q2) fun _ s3 ⟨H3,I3,q3⟩=>?_))))
  exact wpAny_release ⟨σ,H3,I3,q3⟩
noncomputable def tAsg (te:TE) (g:TG):TS:=fun D σ H=>te σ H fun x H1=>g x σ H1 D.nx
theorem ps_asg {tg e:Expr}{te:TE}{g:TG} (he:PE X e te) (hg:PG X tg g) (hs:swapsWithSole [tg] e pos.line X.env=pure false:=by rfl) (hw:swappedStores [tg] e X.env=pure none:=by rfl)
    (h1:(assignEach [tg] X.env).map (·.2)=[assign tg X.env]:=by rfl):PS X (.Assign [tg] e pos) (tAsg te g):=by
  intro pins s σ H D I h
  refine wpAny_Assign_stores (thn (he pins s σ H _ I h) fun v s1 ⟨x,H1,I1,r1,q1⟩=>?_) hs hw
  rw [h1]
  exact thn (hg pins s1 σ H1 x v _ I1 r1 q1) fun _ s2 q=>q
theorem ps_set {i:Nat}{x:Str}{e:Expr}{te:TE}{pos':Pos} (hN:X.N.Nodup) (hi:X.N[i]?=some x) (hx:Loc X.env.scope x) (he:PE X e te) (hs:swapsWith e (some (.Name x pos')) pos.line X.env=pure false:=by rfl) (hf:X.fn x=true∨X.env.scope.names.lookup x=some .local:=by first | exact .inl rfl | exact .inr rfl | assumption) :
    PS X (.Assign [.Name x pos'] e pos) (tAsg te (gName i)):=by
  intro pins s σ H D I h
  refine wpAny_Assign_Name (thn (he pins s σ H _ I h) fun v s1 ⟨y,H1,I1,r1,q1⟩=>?_) hs
  exact store_ok I1 hN hi hx r1 (fun s2 I2=>⟨_,H1,I2,q1⟩) hf
end

section
variable {X:Cx}{pos:Pos}
end

structure It where
  go:Nat→Hp→Prop
  yld:Nat→Hp→V→Hp→Prop
  stop:Nat→Hp→Prop
noncomputable def FpOk (X:Cx) (pins:List (Addr×Obj)) (H:Hp) (b:Addr):Prop:=
  H b=none∧b≠X.env.locals∧b∉X.fs∧(b∈X.ex∨X.s₀.heap.objs.size≤b)∧(∀ x c,X.env.cells.lookup x=some c→c≠b)∧∀ p∈X.pn++pins,p.1≠b
theorem Inv.fpOk {X:Cx}{pins:List (Addr×Obj)}{σ:St}{H H':Hp}{s:Shared}{b:Addr} (I:Inv X pins σ H s) (hb:s.heap.objs.size≤b) (hn:H' b=none):FpOk X pins H' b:=by
  refine ⟨hn,Nat.ne_of_gt (Nat.lt_of_lt_of_le I.lt hb),I.nofs hb,.inr (Nat.le_trans I.sz hb),fun x c e z=>?_,fun p hp z=>?_⟩
  · obtain ⟨v,q⟩:=I.cell x c e
    exact absurd (Nat.lt_of_lt_of_le q.lt (by rw [z]; exact hb)) (Nat.lt_irrefl _)
  · exact absurd (Nat.lt_of_lt_of_le (Heap.lt_size (I.pin p hp).1) (by rw [z]; exact hb)) (Nat.lt_irrefl _)
structure Turn (P:Program) (w:World) (K:PySem.W.Frag) (tg:Expr) (J:It) (fp:List Addr) (it:Addr) (tn:Nat→Heap→Prop):Prop where
  mem:it∈fp
  obj:∀ i h,tn i h→∀ b∈fp,∃ o,h.get? b=some o∧∀ v,o.data≠.cell v
  keep:∀ i h h',tn i h→(∀ b∈fp,∀ o,h.get? b=some o→h'.get? b=some o)→tn i h'
  item:∀ (X:Cx),X.prog=P→X.w=w→X.K=K→X.calm=true→∀ (i:Nat) (pins:List (Addr×Obj)) (s:Shared) (σ:St) (H:Hp) (E:Value→Shared→Prop),Inv X pins σ H s→(∀ b∈fp,FpOk X pins H b)→tn i s.heap→J.go i H→
    wpAny (model P w) X.A (pyNext (.ref it)) (fun r s1=>∃ u,r=some u ∧
      wpAny (model P w) X.A (letOwnedTupleGo tg (.ref it) u) (fun _ s2=>∃ x H',Inv X pins σ H' s2∧RelV x u∧J.yld i H x H'∧tn (i+1) s2.heap∧∀ b∈fp,H' b=none) E s1) E s
  done:∀ (X:Cx),X.prog=P→X.w=w→X.K=K→X.calm=true→∀ (i:Nat) (pins:List (Addr×Obj)) (s:Shared) (σ:St) (H:Hp) (E:Value→Shared→Prop),Inv X pins σ H s→(∀ b∈fp,FpOk X pins H b)→tn i s.heap→J.stop i H→
    wpAny (model P w) X.A (pyNext (.ref it)) (fun r s1=>r=none∧Inv X pins σ H s1) E s
  self:∀ (A:Around) (i:Nat) (s:Shared) (Q:Value→Shared→Prop) (E:Value→Shared→Prop),tn i s.heap→Q (.ref it) s→wpAny (model P w) A (pyIter (.ref it)) Q E s
noncomputable abbrev TI:=St→Hp→(It→Hp→Prop)→Prop
noncomputable def PIE (X:Cx) (pins:List (Addr×Obj)) (σ:St) (tg:Expr) (R:It→Hp→Prop) (itv:Value) (s2:Shared):Prop:=
  ∃ (it:Addr) (fp:List Addr) (tn:Nat→Heap→Prop) (J:It) (H':Hp),itv=.ref it∧Inv X pins σ H' s2∧Turn X.prog X.w X.K tg J fp it tn∧tn 0 s2.heap∧(∀ b∈fp,FpOk X pins H' b)∧R J H'
noncomputable def PI (X:Cx) (tg iter:Expr) (wi:TI):Prop:=
  ∀ (pins:List (Addr×Obj)) (s:Shared) (σ:St) (H:Hp) (R:It→Hp→Prop),Inv X pins σ H s→wi σ H R→
    wpAny (model X.prog X.w) X.A (eval iter X.env) (fun v s1=>wpAny (model X.prog X.w) X.A (pyIter v) (PIE X pins σ tg R) X.xe s1) X.xe s

theorem go_of {M:Model}{A:Around}{E:Value→Shared→Prop}{s:Shared}{tg:Expr}{it:Addr}{u:Value}{o:Obj}{n:String}{vs:Array Value}{Q:Unit→Shared→Prop} (ho:s.heap.get? it=some o) (hc:o.cls=.type n) (hd:o.data=.fields vs)
    (hn:["enumerate", "zip", "dict_itemiterator", "dict_reverseitemiterator", "odict_iterator", "itertools.zip_longest", "itertools.pairwise"].contains n=false) (hQ:Q () s):wpAny M A (letOwnedTupleGo tg (.ref it) u) Q E s:=by
  unfold letOwnedTupleGo
  cases tg<;>first
    | exact wpAny_pure hQ
    | (cases u<;>first
        | exact wpAny_pure hQ
        | (refine wpAny_bind (wpAny_load ho ?_)
           rw [hc,hd]
           show wpAny M A (if (["enumerate", "zip", "dict_itemiterator", "dict_reverseitemiterator", "odict_iterator", "itertools.zip_longest", "itertools.pairwise"].contains n&&vs[0]?==some (rawInt _))=true then _ else _) Q E s
           rw [if_neg (by intro h; rw [hn,Bool.false_and] at h; cases h)]
           exact wpAny_pure hQ))

noncomputable def Itl (K:PySem.W.Frag) (a:Addr):It:=
  ⟨fun i H=>∃ xs x,SqL K H a xs∧xs[i]?=some x,fun i H x H'=>H'=H∧∀ xs,SqL K H a xs→xs[i]?=some x,fun i H=>∃ xs,SqL K H a xs∧xs.length≤i⟩
noncomputable def Itt (K:PySem.W.Frag) (a:Addr):It:=
  ⟨fun i H=>∃ xs x,SqT K H a xs∧xs[i]?=some x,fun i H x H'=>H'=H∧∀ xs,SqT K H a xs→xs[i]?=some x,fun i H=>∃ xs,SqT K H a xs∧xs.length≤i⟩
noncomputable def Itr (lo:Int) (n:Nat):It:=⟨fun i _=>i < n,fun i H x H'=>H'=H∧x=.int (lo+i),fun i _=>n≤i⟩
theorem turn_list {P:Program}{w:World}{K:PySem.W.Frag}{tg:Expr} (a it:Addr):Turn P w K tg (Itl K a) [it] it (fun i h=>h.IsListIter it a i) where
  mem:=by simp
  obj:=fun i h st b hb=>by
    have e:b=it:=by simpa using hb
    subst e
    obtain ⟨o,e,c,d⟩:=st
    exact ⟨o,e,fun v z=>by rw [d] at z; cases z⟩
  keep:=fun i h h' st k=>st.at fun o e=>k it (by simp) o e
  item:=by
    intro X hP hw hK hc i pins s σ H E I hf st hg
    subst hP hw hK
    obtain ⟨xs,x,hq,hx⟩:=hg
    obtain ⟨its,rv,p,hz⟩:=I.list hq
    obtain ⟨u,hu,ru⟩:=rv.get hx
    obtain ⟨f0,f1,f2,f3,f4,f5⟩:=hf it (by simp)
    refine wpAny_pyNext_list_item st p.isList (x:=u) (by simpa using hu) fun h' st' sb=>?_
    have I1:Inv X pins σ H { s with heap:=h' }:=I.turned (t':=s.toks) (fun b o hb e=>(sb.2 b hb).trans e) f0 f1 f3 f4 f5
    obtain ⟨o,e,c,d⟩:=id st'
    exact ⟨u,rfl,go_of (s:={ s with heap:=h' }) e c d (by decide) ⟨x,H,I1,ru,⟨rfl,fun ys hy=>by rw [I.list_inj hy hq]; exact hx⟩,st',fun b hb=>(hf b hb).1⟩⟩
  done:=by
    intro X hP hw hK hc i pins s σ H E I hf st hg
    subst hP hw hK
    obtain ⟨xs,hq,hx⟩:=hg
    obtain ⟨its,rv,p,hz⟩:=I.list hq
    obtain ⟨f0,f1,f2,f3,f4,f5⟩:=hf it (by simp)
    have hl:=rv.length
    exact wpAny_pyNext_list_end (I.ok.hd hc) st p.isList (by simp; omega) fun h' eb=>⟨rfl,I.turned (t':=s.toks) (fun b o hb e=>eb b o hb e) f0 f1 f3 f4 f5⟩
  self:=fun _ _ _ _ _ st h=>wpAny_pyIter_listiter st h
theorem turn_tuple {P:Program}{w:World}{K:PySem.W.Frag}{tg:Expr} (a it:Addr):Turn P w K tg (Itt K a) [it] it (fun i h=>h.IsTupleIter it a i) where
  mem:=by simp
  obj:=fun i h st b hb=>by
    have e:b=it:=by simpa using hb
    subst e
    obtain ⟨o,e,c,d⟩:=st
    exact ⟨o,e,fun v z=>by rw [d] at z; cases z⟩
  keep:=fun i h h' st k=>st.at fun o e=>k it (by simp) o e
  item:=by
    intro X hP hw hK hc i pins s σ H E I hf st hg
    subst hP hw hK
    obtain ⟨xs,x,hq,hx⟩:=hg
    obtain ⟨its,rv,p,hz⟩:=I.tuple hq
    obtain ⟨u,hu,ru⟩:=rv.get hx
    obtain ⟨f0,f1,f2,f3,f4,f5⟩:=hf it (by simp)
    refine wpAny_pyNext_tuple_item st (show s.heap.IsTuple a its.toArray from p) (x:=u) (by simpa using hu) fun h' st' sb=>?_
    have I1:Inv X pins σ H { s with heap:=h' }:=I.turned (t':=s.toks) (fun b o hb e=>(sb.2 b hb).trans e) f0 f1 f3 f4 f5
    obtain ⟨o,e,c,d⟩:=id st'
    exact ⟨u,rfl,go_of (s:={ s with heap:=h' }) e c d (by decide) ⟨x,H,I1,ru,⟨rfl,fun ys hy=>by rw [I.tuple_inj hy hq]; exact hx⟩,st',fun b hb=>(hf b hb).1⟩⟩
  done:=by
    intro X hP hw hK hc i pins s σ H E I hf st hg
    subst hP hw hK
    obtain ⟨xs,hq,hx⟩:=hg
    obtain ⟨its,rv,p,hz⟩:=I.tuple hq
    obtain ⟨f0,f1,f2,f3,f4,f5⟩:=hf it (by simp)
    have hl:=rv.length
    exact wpAny_pyNext_tuple_end (I.ok.hd hc) st (show s.heap.IsTuple a its.toArray from p) (by simp; omega) fun h' eb=>⟨rfl,I.turned (t':=s.toks) (fun b o hb e=>eb b o hb e) f0 f1 f3 f4 f5⟩
  self:=fun _ _ _ _ _ st h=>wpAny_pyIter_tupleiter st h
theorem turn_range {P:Program}{w:World}{K:PySem.W.Frag}{tg:Expr} (it:Addr) (lo:Int) (n:Nat):Turn P w K tg (Itr lo n) [it] it (fun i h=>IsRangeIter h it (lo+(i:Nat) * 1) ((n:Int) - (i:Nat)) 1) where
  mem:=by simp
  obj:=fun i h st b hb=>by
    have e:b=it:=by simpa using hb
    subst e
    exact ⟨_,st,fun v z=>by
      have z':Data.fields _=Data.cell v:=z
      cases z'⟩
  keep:=fun i h h' st k=>k it (by simp) _ st
  item:=by
    intro X hP hw hK hc i pins s σ H E I hf st hg
    subst hP hw hK
    obtain ⟨f0,f1,f2,f3,f4,f5⟩:=hf it (by simp)
    have W:=Walks.range (prog:=X.prog) (w:=X.w) (I.ok.hd hc) it lo 1 n
    refine W.item i s _ _ hg st fun v h' tk hv st' kk=>?_
    obtain ⟨t,rfl⟩:=hv
    have I1:Inv X pins σ H { s with heap:=h',toks:=tk }:=I.turned (fun b o hb e=>kk b o (by simpa using hb) e) f0 f1 f3 f4 f5
    refine ⟨_,rfl,go_of (s:={ s with heap:=h',toks:=tk }) (n := "range_iterator") st' rfl rfl (by decide) ⟨.int (lo+i),H,I1,⟨t,?_⟩,⟨rfl,rfl⟩,st',fun b hb=>(hf b hb).1⟩⟩
    rw [Int.mul_one]
  done:=by
    intro X hP hw hK hc i pins s σ H E I hf st hg
    subst hP hw hK
    obtain ⟨f0,f1,f2,f3,f4,f5⟩:=hf it (by simp)
    exact wpAny_pyNext_range_end (I.ok.hd hc) st (by have:n≤i:=hg; omega) fun h' eb=>⟨rfl,I.turned (t':=s.toks) (fun b o hb e=>eb b o hb e) f0 f1 f3 f4 f5⟩
  self:=fun _ _ _ _ _ st h=>wpAny_pyIter_rangeiter st h
end L2

namespace L2
open PySem PySem.Spec PyProof.Rows
section
variable {X:Cx}{tg:Expr}
noncomputable def iList (K:PySem.W.Frag) (tl:TE):TI:=fun σ H R=>tl σ H fun x H1=>∃ a,x=.ref a∧(∃ xs,SqL K H1 a xs)∧R (Itl K a) H1
noncomputable def iTup (K:PySem.W.Frag) (tl:TE):TI:=fun σ H R=>tl σ H fun x H1=>∃ a,x=.ref a∧(∃ xs,SqT K H1 a xs)∧R (Itt K a) H1
theorem pi_list {l:Expr}{tl:TE} (hl:PE X l tl):PI X tg l (iList X.K tl):=by
  intro pins s σ H R I h
  refine thn (hl pins s σ H _ I h) fun v s1 ⟨x,H1,I1,r1,q1⟩=>?_
  obtain ⟨a,e,⟨xs,hq⟩,q⟩:=q1
  subst e
  cases r1
  obtain ⟨its,rv,p,hz⟩:=I1.list hq
  refine wpAny_pyIter_list p.isList ?_
  refine ⟨s1.heap.objs.size,[s1.heap.objs.size],_,_,H1,rfl,I1.kept (t':=s1.toks) fun b o e=>Heap.get?_push_of_some _ e,turn_list a _,⟨_,Heap.get?_push_size _ rfl,rfl,rfl⟩,fun b hb=>?_,q⟩
  have e:b=s1.heap.objs.size:=by simpa using hb
  subst e
  exact I1.fpOk (Nat.le_refl _) (I1.hok.fresh (Nat.le_refl _))
theorem pi_tup {l:Expr}{tl:TE} (hl:PE X l tl):PI X tg l (iTup X.K tl):=by
  intro pins s σ H R I h
  refine thn (hl pins s σ H _ I h) fun v s1 ⟨x,H1,I1,r1,q1⟩=>?_
  obtain ⟨a,e,⟨xs,hq⟩,q⟩:=q1
  subst e
  cases r1
  obtain ⟨its,rv,p,hz⟩:=I1.tuple hq
  refine wpAny_pyIter_tuple (show s1.heap.IsTuple a its.toArray from p) ?_
  refine ⟨s1.heap.objs.size,[s1.heap.objs.size],_,_,H1,rfl,I1.kept (t':=s1.toks) fun b o e=>Heap.get?_push_of_some _ e,turn_tuple a _,⟨_,Heap.get?_push_size _ rfl,rfl,rfl⟩,fun b hb=>?_,q⟩
  have e:b=s1.heap.objs.size:=by simpa using hb
  subst e
  exact I1.fpOk (Nat.le_refl _) (I1.hok.fresh (Nat.le_refl _))
theorem range_it {pins:List (Addr×Obj)}{σ:St}{H:Hp}{s:Shared}{R:It→Hp→Prop}{E:Value→Shared→Prop}{lo hi:Int}{t u v:Tok}{tk:Nat} (I:Inv X pins σ H s) (h1:-(2 ^ 62)≤lo) (h2:lo < 2 ^ 62) (h3:-(2 ^ 62)≤hi) (h4:hi < 2 ^ 62)
    (q:R (Itr lo (hi - lo).toNat) H):wpAny (model X.prog X.w) X.A (pyIter (.ref s.heap.objs.size)) (PIE X pins σ tg R) E { s with heap:=s.heap.push { cls:=.type "range",data:=.fields #[.int lo t,.int hi u,.int 1 v] },toks:=tk }:=by
  refine wpAny_pyIter_range (IsRange.new ..) (small_one h1 h2 h3 h4) ?_
  have I1:Inv X pins σ H { s with heap:=s.heap.push { cls:=.type "range",data:=.fields #[.int lo t,.int hi u,.int 1 v] },toks:=tk }:=I.kept fun b o e=>Heap.get?_push_of_some _ e
  refine ⟨(s.heap.push { cls:=.type "range",data:=.fields #[.int lo t,.int hi u,.int 1 v] }).objs.size,[(s.heap.push { cls:=.type "range",data:=.fields #[.int lo t,.int hi u,.int 1 v] }).objs.size],_,_,H,rfl,
    I1.kept (t':=tk) fun b o e=>Heap.get?_push_of_some _ e,turn_range _ lo (hi - lo).toNat,?_,fun b hb=>?_,q⟩
  · have e1:lo+((0:Nat):Int) * 1=lo:=by simp
    have e2:(((hi - lo).toNat:Nat):Int) - ((0:Nat):Int)=Builtin.Range.rangeSize lo hi 1:=by rw [rangeSize_one]; split<;>omega
    show IsRangeIter _ _ (lo+((0:Nat):Int) * 1) ((((hi - lo).toNat:Nat):Int) - ((0:Nat):Int)) 1
    rw [e1,e2]
    exact Heap.get?_push_size _ rfl
  · have e:b=(s.heap.push { cls:=.type "range",data:=.fields #[.int lo t,.int hi u,.int 1 v] }).objs.size:=by simpa using hb
    subst e
    exact I1.fpOk (Nat.le_refl _) (I1.hok.fresh (Nat.le_refl _))
noncomputable def iRng1 (ta:TA):TI:=fun σ H R=>ta σ H fun vs H1=>∃ j:Int,vs=[.int j]∧-(2 ^ 62)≤j∧j < 2 ^ 62∧R (Itr 0 j.toNat) H1
theorem pi_range1 {a:Expr}{ta:TA}{p pos:Pos} (hg:Gl X "range") (hm:X.mg "range"=none) (ha:PA X [a] ta) (hs:starEach [a] X.env=[(false,eval a X.env)]:=by rfl):PI X tg (.Call (.Name "range" p) [a] [] pos) (iRng1 ta):=by
  intro pins s σ H R I h
  refine Call_ (ld_blt I hg hm boot_range (PyProof.Rows.callWith_type1 (thn (ha pos pins s σ H _ I h) fun us s1 ⟨vs,H1,I1,r1,q1⟩=>?_) hs rfl))
  obtain ⟨j,e,q1,q2,q⟩:=q1
  subst e
  cases r1 with
  | cons r rr=>
    cases rr
    obtain ⟨t,rfl⟩:=r
    exact call_range_1 (range_it I1 (by omega) (by omega) q1 q2 (by simpa using q))

noncomputable def tFor (wi:TI) (g:TG) (tb:TS):TS:=fun D σ H=>wi σ H fun J H1=>∃ W:Nat→Nat→St→Hp→Prop,(∃ m,W 0 m σ H1)∧∀ i m σ H,W i m σ H→
  (J.stop i H∧D.nx σ H)∨(J.go i H∧∃ N:St→Hp→Prop,(∀ σ' H',N σ' H'→∃ m',m' < m∧W (i+1) m' σ' H')∧∀ x H',J.yld i H x H'→g x σ H' fun σ2 H2=>tb { D with nx:=N,ct:=N,bk:=D.nx } σ2 H2)
noncomputable def pinsAt (fp:List Addr) (h:Heap):List (Addr×Obj):=fp.filterMap fun b=>(h.get? b).map fun o=>(b,o)
theorem mem_pinsAt {fp:List Addr}{h:Heap}{b:Addr}{o:Obj} (hb:b∈fp) (e:h.get? b=some o):(b,o)∈pinsAt fp h:=List.mem_filterMap.mpr ⟨b,hb,by rw [e]; rfl⟩
theorem of_pinsAt {fp:List Addr}{h:Heap}{p:Addr×Obj} (hp:p∈pinsAt fp h):p.1∈fp∧h.get? p.1=some p.2:=by
  obtain ⟨b,hb,e⟩:=List.mem_filterMap.mp hp
  cases q:h.get? b with
  | none=>rw [q] at e; cases e
  | some o=>
    rw [q] at e
    have e':(b,o)=p:=Option.some.inj e
    subst e'
    exact ⟨hb,q⟩
theorem Inv.pinned {pins:List (Addr×Obj)}{σ:St}{H:Hp}{s:Shared}{fp:List Addr} (I:Inv X pins σ H s) (hf:∀ b∈fp,FpOk X pins H b) (ho:∀ b∈fp,∃ o,s.heap.get? b=some o∧∀ v,o.data≠.cell v):Inv X (pins++pinsAt fp s.heap) σ H s:=
  I.pins_of fun p hp=>(List.mem_append.mp hp).elim (fun z=>I.pin p (List.mem_append_right _ z)) fun z=>by
    obtain ⟨hb,e⟩:=of_pinsAt z
    obtain ⟨f0,f1,f2,_⟩:=hf p.1 hb
    obtain ⟨o,e',d⟩:=ho p.1 hb
    rw [e] at e'; cases e'
    exact ⟨e,f0,f1,f2,d⟩
theorem Inv.unpinned {pins pl:List (Addr×Obj)}{σ:St}{H:Hp}{s:Shared} (I:Inv X (pins++pl) σ H s):Inv X pins σ H s:=I.pins_of fun p hp=>I.pin p (List.mem_append_right _ (List.mem_append_left _ hp))
theorem ps_for {iter:Expr}{body:List Stmt}{wi:TI}{g:TG}{tb:TS}{pos:Pos} (hp:PassesOwn (model X.prog X.w) X.A X.env X.xe) (hc:X.calm=true) (hi:PI X tg iter wi) (hg:PG X tg g) (hb:PSs X body tb)
    (hs:∀ x,foldedSetIterable iter X.env x=pure x:=by intro _; rfl):PS X (.For tg iter body [] pos) (tFor wi g tb):=by
  intro pins s σ H D I h
  refine wpAny_For (thn (hi pins s σ H _ I h) fun v s1 h1=>thn h1 fun itv s2 h2=>?_) hs
  obtain ⟨it,fp,tn,J,H2,e,I2,T,st2,f2,W,⟨m0,w0⟩,turn⟩:=h2
  subst e
  -- what stays true of the iterator's objects through the loop
  have stat:∀ {H':Hp},(∀ b∈fp,H' b=none)→∀ b∈fp,FpOk X pins H' b:=fun hn b hb=>⟨hn b hb,(f2 b hb).2⟩
  refine codeAny_forLoop_any (fun n s'=>∃ i σ' H',Inv X pins σ' H' s'∧tn i s'.heap∧(∀ b∈fp,H' b=none)∧W i n σ' H') ?_ m0 ⟨0,σ,H2,I2,st2,fun b hb=>(f2 b hb).1,w0⟩
  rintro n s3 ⟨i,σ3,H3,I3,st3,fr3,w3⟩
  rcases turn i n σ3 H3 w3 with ⟨stop,qn⟩ | ⟨go,N,hN,step⟩
  · refine wpAny_passesOwn hp (thn (T.done X rfl rfl rfl hc i pins s3 σ3 H3 X.xe I3 (stat fr3) st3 stop) fun r s4 ⟨hr,I4⟩=>?_)
    subst hr
    exact wpAny_execs_nil ⟨σ3,H3,I4,qn⟩
  · refine wpAny_passesOwn hp (thn (T.item X rfl rfl rfl hc i pins s3 σ3 H3 X.xe I3 (stat fr3) st3 go) fun r s4 ⟨u,hr,h4⟩=>?_)
    subst hr
    refine wpAny_passesOwn hp (thn h4 fun _ s5 ⟨x,H5,I5,r5,y5,st5,fr5⟩=>?_)
    have I5':=I5.pinned (stat fr5) (T.obj _ _ st5)
    refine wpAny_passesOwn hp (thn (hg _ s5 σ3 H5 x u _ I5' r5 (step x H5 y5)) fun _ s6 ⟨σ6,H6,I6,q6⟩=>?_)
    refine wpAny_passesOwn hp (thn (hb _ s6 σ6 H6 _ I6 q6) fun f s7 q7=>?_)
    have again:∀ {σ7:St}{H7:Hp},Inv X (pins++pinsAt fp s5.heap) σ7 H7 s7→N σ7 H7→∃ m,m < n∧∃ i σ' H',Inv X pins σ' H' s7∧tn i s7.heap∧(∀ b∈fp,H' b=none)∧W i m σ' H':=fun {σ7 H7} I7 n7=>by
      obtain ⟨m',hm,w7⟩:=hN σ7 H7 n7
      refine ⟨m',hm,i+1,σ7,H7,I7.unpinned,T.keep _ _ _ st5 fun b hb o e=>(I7.pin (b,o) (List.mem_append_right _ (List.mem_append_right _ (mem_pinsAt hb e)))).1,fun b hb=>?_,w7⟩
      obtain ⟨o,e,d⟩:=T.obj _ _ st5 b hb
      exact (I7.pin (b,o) (List.mem_append_right _ (List.mem_append_right _ (mem_pinsAt hb e)))).2.1
    cases f with
    | next=>obtain ⟨σ7,H7,I7,n7⟩:=q7; exact again I7 n7
    | cont=>obtain ⟨σ7,H7,I7,n7⟩:=q7; exact again I7 n7
    | brk=>obtain ⟨σ7,H7,I7,q7⟩:=q7; exact ⟨σ7,H7,I7.unpinned,q7⟩
    | ret v=>obtain ⟨x7,σ7,H7,I7,r7,q7⟩:=q7; exact ⟨x7,σ7,H7,I7.unpinned,r7,q7⟩
end

theorem for_tup {K:PySem.W.Frag}{a:Addr}{xs:List V}{g:TG}{tb:TS}{D:Ends}{σ:St}{H:Hp} (Pv:Nat→St→Hp→Prop) (h0:Pv 0 σ H) (hl:∀ i σ H,i≤xs.length→Pv i σ H→SqT K H a xs)
    (hs:∀ i x σ H,xs[i]?=some x→Pv i σ H→g x σ H fun σ2 H2=>tb { D with nx:=Pv (i+1),ct:=Pv (i+1),bk:=D.nx } σ2 H2) (hd:∀ σ H,Pv xs.length σ H→D.nx σ H) :
    ∃ W:Nat→Nat→St→Hp→Prop,(∃ m,W 0 m σ H)∧∀ i m σ H,W i m σ H→
      ((Itt K a).stop i H∧D.nx σ H)∨((Itt K a).go i H∧∃ N:St→Hp→Prop,(∀ σ' H',N σ' H'→∃ m',m' < m∧W (i+1) m' σ' H')∧∀ x H',(Itt K a).yld i H x H'→g x σ H' fun σ2 H2=>tb { D with nx:=N,ct:=N,bk:=D.nx } σ2 H2):=by
  refine ⟨fun i m σ H=>m=xs.length - i∧i≤xs.length∧Pv i σ H,⟨xs.length,by simp,Nat.zero_le _,h0⟩,?_⟩
  rintro i m σ H ⟨rfl,hi,p⟩
  have q:=hl i σ H hi p
  by_cases hlt:i < xs.length
  · refine .inr ⟨⟨xs,xs[i],q,by simp [hlt]⟩,Pv (i+1),fun σ' H' p'=>⟨xs.length - (i+1),by omega,rfl,hlt,p'⟩,fun x H' y=>?_⟩
    obtain ⟨e,y⟩:=y
    subst e
    exact hs i x σ _ (y xs q) p
  · have e:i=xs.length:=by omega
    subst e
    exact .inl ⟨⟨xs,q,Nat.le_refl _⟩,hd σ H p⟩
theorem for_range {lo:Int}{n:Nat}{g:TG}{tb:TS}{D:Ends}{σ:St}{H:Hp} (Pv:Nat→St→Hp→Prop) (h0:Pv 0 σ H)
    (hs:∀ i σ H,i < n→Pv i σ H→g (.int (lo+i)) σ H fun σ2 H2=>tb { D with nx:=Pv (i+1),ct:=Pv (i+1),bk:=D.nx } σ2 H2) (hd:∀ σ H,Pv n σ H→D.nx σ H) :
    ∃ W:Nat→Nat→St→Hp→Prop,(∃ m,W 0 m σ H)∧∀ i m σ H,W i m σ H→
      ((Itr lo n).stop i H∧D.nx σ H)∨((Itr lo n).go i H∧∃ N:St→Hp→Prop,(∀ σ' H',N σ' H'→∃ m',m' < m∧W (i+1) m' σ' H')∧∀ x H',(Itr lo n).yld i H x H'→g x σ H' fun σ2 H2=>tb { D with nx:=N,ct:=N,bk:=D.nx } σ2 H2):=by
  refine ⟨fun i m σ H=>m=n - i∧i≤n∧Pv i σ H,⟨n,by simp,Nat.zero_le _,h0⟩,?_⟩
  rintro i m σ H ⟨rfl,hi,p⟩
  by_cases hlt:i < n
  · refine .inr ⟨hlt,Pv (i+1),fun σ' H' p'=>⟨n - (i+1),by omega,rfl,hlt,p'⟩,fun x H' y=>?_⟩
    obtain ⟨e,y⟩:=y
    subst e y
    exact hs i σ _ hlt p
  · have e:i=n:=by omega
    subst e
    exact .inl ⟨Nat.le_refl _,hd σ H p⟩
end L2

namespace L2
open PySem PySem.Spec PyProof.Rows

noncomputable abbrev R2:=V→V→Hp→VK→Prop
noncomputable def OpR (X:Cx) (f:Value→Value→Sem Value) (r:R2):Prop:=
  ∀ (pins:List (Addr×Obj)) (s:Shared) (σ:St) (H:Hp) (x y:V) (v u:Value) (Q:VK),Inv X pins σ H s→RelV x v→RelV y u→r x y H Q→
    wpAny (model X.prog X.w) X.A (f v u) (EP X pins σ Q) X.xe s
noncomputable def UnR (X:Cx) (f:Value→Sem Value) (r:V→Hp→VK→Prop):Prop:=
  ∀ (pins:List (Addr×Obj)) (s:Shared) (σ:St) (H:Hp) (x:V) (v:Value) (Q:VK),Inv X pins σ H s→RelV x v→r x H Q→
    wpAny (model X.prog X.w) X.A (f v) (EP X pins σ Q) X.xe s
noncomputable def CallR (X:Cx) (f:Value) (r:List V→Hp→VK→Prop):Prop:=
  ∀ (pins:List (Addr×Obj)) (s:Shared) (σ:St) (H:Hp) (xs:List V) (us:List Value) (Q:VK),Inv X pins σ H s→Vals xs us→r xs H Q→
    wpAny (model X.prog X.w) X.A (call f us) (EP X pins σ Q) X.xe s

noncomputable def tOp (r:R2) (ta tb:TE):TE:=fun σ H Q=>ta σ H fun x H1=>tb σ H1 fun y H2=>r x y H2 Q
noncomputable def tUn (r:V→Hp→VK→Prop) (ta:TE):TE:=fun σ H Q=>ta σ H fun x H1=>r x H1 Q
noncomputable def rI (C:Int→Int→Prop) (g:Int→Int→V):R2:=fun x y H Q=>∃ i j,x=.int i∧y=.int j∧C i j∧Q (g i j) H
noncomputable def rI0 (g:Int→Int→V):R2:=fun x y H Q=>∃ i j,x=.int i∧y=.int j∧Q (g i j) H
noncomputable def rU (g:Int→V):V→Hp→VK→Prop:=fun x H Q=>∃ i,x=.int i∧Q (g i) H

section
variable {X:Cx}{a b c:Expr}{ta tb tc:TE}{pos:Pos}

theorem binT (ha:PE X a ta) (hb:PE X b tb) {pins:List (Addr×Obj)}{s:Shared}{σ:St}{H:Hp}{R:V→V→Hp→Prop} (I:Inv X pins σ H s)
    (h:ta σ H fun x H1=>tb σ H1 fun y H2=>R x y H2) {Q:Value→Shared→Prop}{f:Value→Value→Sem Value}
    (hf:∀ v u s2 x y H2,Inv X pins σ H2 s2→RelV x v→RelV y u→R x y H2→wpAny (model X.prog X.w) X.A (f v u) Q X.xe s2) :
    wpAny (model X.prog X.w) X.A (eval a X.env) (fun v s₁=>wpAny (model X.prog X.w) X.A (eval b X.env) (fun u s₂=>wpAny (model X.prog X.w) X.A (f v u) Q X.xe s₂) X.xe s₁) X.xe s:=by
  refine thn (ha pins s σ H _ I h) fun v s1 ⟨x,H1,I1,r1,q1⟩=>?_
  refine thn (hb pins s1 σ H1 _ I1 q1) fun u s2 ⟨y,H2,I2,r2,q2⟩=>?_
  exact hf v u s2 x y H2 I2 r1 r2 q2

theorem pe_op {op:Operator}{r:R2} (ho:OpR X (binaryOp op) r) (ha:PE X a ta) (hb:PE X b tb):PE X (.BinOp a op b pos) (tOp r ta tb):=by
  intro pins s σ H Q I h
  exact wpAny_BinOp (binT ha hb I h fun v u s2 x y H2 I2 rx ry q=>ho pins s2 σ H2 x y v u Q I2 rx ry q)
theorem pe_un {op:UnaryOp}{r:V→Hp→VK→Prop} (ho:UnR X (unaryOp op) r) (ha:PE X a ta):PE X (.UnaryOp op a pos) (tUn r ta):=by
  intro pins s σ H Q I h
  exact UnaryOp_ (thn (ha pins s σ H _ I h) fun v s1 ⟨x,H1,I1,r1,q1⟩=>ho pins s1 σ H1 x v Q I1 r1 q1)

theorem opI {f:Value→Value→Sem Value}{C:Int→Int→Prop}{g:Int→Int→Int}
    (rule:∀ (i j:Int) (t u:Tok) (s:Shared) (Q:Value→Shared→Prop) (E:Value→Shared→Prop),C i j→Q (.int (g i j) s.toks) { s with toks:=s.toks+1 }→wpAny (model X.prog X.w) X.A (f (.int i t) (.int j u)) Q E s) :
    OpR X f (rI C fun i j=>.int (g i j)):=by
  intro pins s σ H x y v u Q I rx ry h
  obtain ⟨i,j,rfl,rfl,hc,q⟩:=h
  obtain ⟨t,rfl⟩:=rx
  obtain ⟨t',rfl⟩:=ry
  exact rule i j t t' s _ _ hc ⟨.int (g i j),H,I.tok _,⟨_,rfl⟩,q⟩
theorem opI0 {f:Value→Value→Sem Value}{g:Int→Int→Int}
    (rule:∀ (i j:Int) (t u:Tok) (s:Shared) (Q:Value→Shared→Prop) (E:Value→Shared→Prop),Q (.int (g i j) s.toks) { s with toks:=s.toks+1 }→wpAny (model X.prog X.w) X.A (f (.int i t) (.int j u)) Q E s) :
    OpR X f (rI0 fun i j=>.int (g i j)):=by
  intro pins s σ H x y v u Q I rx ry h
  obtain ⟨i,j,rfl,rfl,q⟩:=h
  obtain ⟨t,rfl⟩:=rx
  obtain ⟨t',rfl⟩:=ry
  exact rule i j t t' s _ _ ⟨.int (g i j),H,I.tok _,⟨_,rfl⟩,q⟩
theorem opB0 {f:Value→Value→Sem Value}{g:Int→Int→Bool}
    (rule:∀ (i j:Int) (t u:Tok) (s:Shared) (Q:Value→Shared→Prop) (E:Value→Shared→Prop),Q (.bool (g i j)) s→wpAny (model X.prog X.w) X.A (f (.int i t) (.int j u)) Q E s) :
    OpR X f (rI0 fun i j=>.bl (g i j)):=by
  intro pins s σ H x y v u Q I rx ry h
  obtain ⟨i,j,rfl,rfl,q⟩:=h
  obtain ⟨t,rfl⟩:=rx
  obtain ⟨t',rfl⟩:=ry
  exact rule i j t t' s _ _ ⟨.bl (g i j),H,I,rfl,q⟩

noncomputable def CDiv (i j:Int):Prop:=0 < j∧j < 1073741824
noncomputable def CDivN (i j:Int):Prop:=j≠0∧j.natAbs < 1073741824
noncomputable def CPow (i j:Int):Prop:=0≤j∧j≤1000000∧i.natAbs < 2 ^ 64
noncomputable def CMul (i j:Int):Prop:=(-(2 ^ 64) < i∧i < 2 ^ 64)∨(-(2 ^ 64) < j∧j < 2 ^ 64)
theorem CMul.ok {i j:Int} (h:CMul i j):IntMulOk i j:=by
  rcases h with ⟨h1,h2⟩ | ⟨h1,h2⟩
  · exact .of_left (intBits_le_64 h1 h2)
  · exact .of_right (intBits_le_64 h1 h2)
theorem two_pow_nn (k:Nat):(0:Int)≤2 ^ k:=by
  rw [two_pow_cast]
  exact Int.natCast_nonneg _

theorem op_add:OpR X (binaryOp .Add) (rI0 fun i j=>.int (i+j)):=opI0 fun _ _ _ _ _ _ _ q=>add_int q
theorem op_sub:OpR X (binaryOp .Sub) (rI0 fun i j=>.int (i - j)):=opI0 fun _ _ _ _ _ _ _ q=>sub_int q
theorem op_mul:OpR X (binaryOp .Mult) (rI CMul fun i j=>.int (i * j)):=opI fun _ _ _ _ _ _ _ hc q=>mul_int q hc.ok
theorem op_fdiv:OpR X (binaryOp .FloorDiv) (rI CDiv fun i j=>.int (i / j)):=opI fun i j _ _ _ _ _ hc q=>by
  have h1:(0:Int) < j:=hc.1
  have h2:j < 1073741824:=hc.2
  exact floordiv_int (by omega) (by rw [Int.fdiv_eq_ediv_of_nonneg i (by omega)]; exact q) (.inl (PyProof.noPylong_small (by omega)))
theorem op_fdivN:OpR X (binaryOp .FloorDiv) (rI CDivN fun i j=>.int (i.fdiv j)):=opI fun _ _ _ _ _ _ _ hc q=>floordiv_int hc.1 q (.inl (PyProof.noPylong_small hc.2))
theorem op_mod:OpR X (binaryOp .Mod) (rI (fun _ j=>0 < j) fun i j=>.int (i % j)):=opI fun i j _ _ _ _ _ hc q=>by
  have h1:(0:Int) < j:=hc
  exact mod_int' (by omega) (by rw [Int.fmod_eq_emod_of_nonneg i (by omega)]; exact q)
theorem op_modN:OpR X (binaryOp .Mod) (rI (fun _ j=>j≠0) fun i j=>.int (i.fmod j)):=opI fun _ _ _ _ _ _ _ hc q=>mod_int' hc q
theorem op_pow:OpR X (binaryOp .Pow) (rI CPow fun i j=>.int (i ^ j.toNat)):=opI fun _ _ _ _ _ _ _ hc q=>pow_int_small hc.1 hc.2.1 hc.2.2 q
theorem op_shl:OpR X (binaryOp .LShift) (rI CPow fun i j=>.int (i * 2 ^ j.toNat)):=opI fun _ _ _ _ _ _ _ hc q=>lshift_int_small hc.1 hc.2.1 hc.2.2 q
theorem op_shr:OpR X (binaryOp .RShift) (rI (fun _ j=>0≤j) fun i j=>.int (i / 2 ^ j.toNat)):=opI fun i j _ _ _ _ _ hc q=>
  rshift_int hc (by rw [Int.fdiv_eq_ediv_of_nonneg i (two_pow_nn _)]; exact q)
theorem op_and:OpR X (binaryOp .BitAnd) (rI0 fun i j=>.int (Builtin.bitAnd i j)):=opI0 fun _ _ _ _ _ _ _ q=>and_int q
theorem op_or:OpR X (binaryOp .BitOr) (rI0 fun i j=>.int (Builtin.bitOr i j)):=opI0 fun _ _ _ _ _ _ _ q=>or_int q


theorem unI {f:Value→Sem Value}{g:Int→Int}
    (rule:∀ (i:Int) (t:Tok) (s:Shared) (Q:Value→Shared→Prop) (E:Value→Shared→Prop),Q (.int (g i) s.toks) { s with toks:=s.toks+1 }→wpAny (model X.prog X.w) X.A (f (.int i t)) Q E s) :
    UnR X f (rU fun i=>.int (g i)):=by
  intro pins s σ H x v Q I rx h
  obtain ⟨i,rfl,q⟩:=h
  obtain ⟨t,rfl⟩:=rx
  exact rule i t s _ _ ⟨.int (g i),H,I.tok _,⟨_,rfl⟩,q⟩
theorem un_neg:UnR X (unaryOp .USub) (rU fun i=>.int (-i)):=unI fun _ _ _ _ _ q=>neg_int q
theorem un_inv:UnR X (unaryOp .Invert) (rU fun i=>.int (Builtin.bitNot i)):=unI fun _ _ _ _ _ q=>invert_int q

end

noncomputable def scal:V→V→Bool
  | .non,.non=>true | .non,.int _=>true | .int _,.non=>true | .non,.bl _=>true | .bl _,.non=>true | .non,.str _=>true | .str _,.non=>true
  | .int _,.int _=>true | .bl _,.bl _=>true | .str _,.str _=>true | .byt _,.byt _=>true
  | .int _,.str _=>true | .str _,.int _=>true | .bl _,.str _=>true | .str _,.bl _=>true
  | _,_=>false
noncomputable def rEq:R2:=fun x y H Q=>scal x y=true∧Q (.bl (decide (x=y))) H
noncomputable def rNe:R2:=fun x y H Q=>scal x y=true∧Q (.bl (!decide (x=y))) H

theorem dec_int {i j:Int}:decide (V.int i=V.int j)=(i==j):=by
  rw [Bool.eq_iff_iff]
  simp
theorem dec_bl {i j:Bool}:decide (V.bl i=V.bl j)=(i==j):=by
  rw [Bool.eq_iff_iff]
  simp
theorem dec_str {i j:Str}:decide (V.str i=V.str j)=(i==j):=by
  rw [Bool.eq_iff_iff]
  simp
theorem dec_byt {i j:Array UInt8}:decide (V.byt i=V.byt j)=(i.toList==j.toList):=by
  rw [Bool.eq_iff_iff]
  cases i
  cases j
  simp

section
variable {X:Cx}{a b c:Expr}{ta tb tc:TE}{pos:Pos}
theorem fin_bl {pins:List (Addr×Obj)}{σ:St}{H:Hp}{s:Shared}{Q:VK}{k k':Bool} (I:Inv X pins σ H s) (q:Q (.bl k) H) (e:k=k'):EP X pins σ Q (.bool k') s:=by
  subst e
  exact ⟨.bl k,H,I,rfl,q⟩
theorem op_eq:OpR X (compareOp .Eq) rEq:=by
  intro pins s σ H x y v u Q I rx ry h
  obtain ⟨hs,q⟩:=h
  cases x with
  | non=>
    cases rx
    cases y with
    | non=>cases ry; exact PySem.EqNone.eq_none_none (fin_bl I q (by simp))
    | bl j=>cases ry; exact PySem.EqNone.eq_none_bool (fin_bl I q (by simp))
    | int j=>obtain ⟨t',rfl⟩:=ry; exact PySem.EqNone.eq_none_int (fin_bl I q (by simp))
    | str j=>obtain ⟨t',rfl⟩:=ry; exact PySem.EqNone.eq_none_str (fin_bl I q (by simp))
    | _=>exact absurd (show false=true from hs) Bool.false_ne_true
  | bl i=>
    cases rx
    cases y with
    | non=>cases ry; exact PySem.EqNone.eq_bool_none (fin_bl I q (by simp))
    | bl j=>cases ry; exact eq_bool (fin_bl I q dec_bl)
    | str j=>obtain ⟨t',rfl⟩:=ry; exact PySem.EqMixed.eq_bool_str (fin_bl I q (by simp))
    | _=>exact absurd (show false=true from hs) Bool.false_ne_true
  | int i=>
    obtain ⟨t,rfl⟩:=rx
    cases y with
    | non=>cases ry; exact PySem.EqNone.eq_int_none (fin_bl I q (by simp))
    | int j=>obtain ⟨t',rfl⟩:=ry; exact eq_int (fin_bl I q dec_int)
    | str j=>obtain ⟨t',rfl⟩:=ry; exact PySem.EqMixed.eq_int_str (fin_bl I q (by simp))
    | _=>exact absurd (show false=true from hs) Bool.false_ne_true
  | str i=>
    obtain ⟨t,rfl⟩:=rx
    cases y with
    | non=>cases ry; exact PySem.EqNone.eq_str_none (fin_bl I q (by simp))
    | bl j=>cases ry; exact PySem.EqMixed.eq_str_bool (fin_bl I q (by simp))
    | int j=>obtain ⟨t',rfl⟩:=ry; exact PySem.EqMixed.eq_str_int (fin_bl I q (by simp))
    | str j=>obtain ⟨t',rfl⟩:=ry; exact eq_str (fin_bl I q dec_str)
    | _=>exact absurd (show false=true from hs) Bool.false_ne_true
  | byt i=>
    obtain ⟨t,rfl⟩:=rx
    cases y with
    | byt j=>obtain ⟨t',rfl⟩:=ry; exact PySem.W.eq_bytes (fin_bl I q dec_byt)
    | _=>exact absurd (show false=true from hs) Bool.false_ne_true
  | _=>cases y<;>exact absurd (show false=true from hs) Bool.false_ne_true
theorem op_ne:OpR X (compareOp .NotEq) rNe:=by
  intro pins s σ H x y v u Q I rx ry h
  obtain ⟨hs,q⟩:=h
  cases x with
  | non=>
    cases rx
    cases y with
    | non=>cases ry; exact PySem.EqNone.ne_none_none (fin_bl I q (by simp))
    | bl j=>cases ry; exact PySem.EqNone.ne_none_bool (fin_bl I q (by simp))
    | int j=>obtain ⟨t',rfl⟩:=ry; exact PySem.EqNone.ne_none_int (fin_bl I q (by simp))
    | str j=>obtain ⟨t',rfl⟩:=ry; exact PySem.EqNone.ne_none_str (fin_bl I q (by simp))
    | _=>exact absurd (show false=true from hs) Bool.false_ne_true
  | bl i=>
    cases rx
    cases y with
    | non=>cases ry; exact PySem.EqNone.ne_bool_none (fin_bl I q (by simp))
    | bl j=>cases ry; exact ne_bool (fin_bl I q (congrArg not dec_bl))
    | str j=>obtain ⟨t',rfl⟩:=ry; exact PySem.EqMixed.ne_bool_str (fin_bl I q (by simp))
    | _=>exact absurd (show false=true from hs) Bool.false_ne_true
  | int i=>
    obtain ⟨t,rfl⟩:=rx
    cases y with
    | non=>cases ry; exact PySem.EqNone.ne_int_none (fin_bl I q (by simp))
    | int j=>obtain ⟨t',rfl⟩:=ry; exact ne_int (fin_bl I q (congrArg not dec_int))
    | str j=>obtain ⟨t',rfl⟩:=ry; exact PySem.EqMixed.ne_int_str (fin_bl I q (by simp))
    | _=>exact absurd (show false=true from hs) Bool.false_ne_true
  | str i=>
    obtain ⟨t,rfl⟩:=rx
    cases y with
    | non=>cases ry; exact PySem.EqNone.ne_str_none (fin_bl I q (by simp))
    | bl j=>cases ry; exact PySem.EqMixed.ne_str_bool (fin_bl I q (by simp))
    | int j=>obtain ⟨t',rfl⟩:=ry; exact PySem.EqMixed.ne_str_int (fin_bl I q (by simp))
    | str j=>obtain ⟨t',rfl⟩:=ry; exact ne_str (fin_bl I q (congrArg not dec_str))
    | _=>exact absurd (show false=true from hs) Bool.false_ne_true
  | byt i=>
    obtain ⟨t,rfl⟩:=rx
    cases y with
    | byt j=>obtain ⟨t',rfl⟩:=ry; exact PySem.W.ne_bytes (fin_bl I q (congrArg not dec_byt))
    | _=>exact absurd (show false=true from hs) Bool.false_ne_true
  | _=>cases y<;>exact absurd (show false=true from hs) Bool.false_ne_true

theorem op_lt:OpR X (compareOp .Lt) (rI0 fun i j=>.bl (decide (i < j))):=opB0 fun _ _ _ _ _ _ _ q=>lt_int q
theorem op_le:OpR X (compareOp .LtE) (rI0 fun i j=>.bl (decide (i≤j))):=opB0 fun _ _ _ _ _ _ _ q=>le_int q
theorem op_gt:OpR X (compareOp .Gt) (rI0 fun i j=>.bl (decide (j < i))):=opB0 fun _ _ _ _ _ _ _ q=>gt_int q
theorem op_ge:OpR X (compareOp .GtE) (rI0 fun i j=>.bl (decide (j≤i))):=opB0 fun _ _ _ _ _ _ _ q=>ge_int q

theorem op_isN:OpR X (compareOp .Is) (fun x y H Q=>y=.non∧Q (.bl (decide (x=.non))) H):=by
  intro pins s σ H x y v u Q I rx ry h
  obtain ⟨rfl,q⟩:=h
  cases ry
  refine is_none_gen (fin_bl I q ?_)
  cases x<;>first
    | (cases rx; rfl)
    | (obtain ⟨t,rfl⟩:=rx; rfl)
theorem op_notN:OpR X (compareOp .IsNot) (fun x y H Q=>y=.non∧Q (.bl (!decide (x=.non))) H):=by
  intro pins s σ H x y v u Q I rx ry h
  obtain ⟨rfl,q⟩:=h
  cases ry
  refine isnot_none_gen (fin_bl I q ?_)
  cases x<;>first
    | (cases rx; rfl)
    | (obtain ⟨t,rfl⟩:=rx; rfl)



theorem pe_cmpR {op:CmpOp}{r:R2} (ho:OpR X (compareOp op) r) (ha:PE X a ta) (hb:PE X b tb) (hm:behindInMarks op b=false):PE X (.Compare a [op] [b] pos) (tOp r ta tb):=by
  intro pins s σ H Q I h
  exact wpAny_Compare1 (binT ha hb I h fun v u s2 x y H2 I2 rx ry q=>ho pins s2 σ H2 x y v u Q I2 rx ry q) hm
noncomputable def tTest (t:TE):TT:=fun σ H Q=>t σ H fun x H'=>∃ k,x=.bl k∧Q k H'
theorem pt_cmpR {op:CmpOp}{r:R2} (ho:OpR X (compareOp op) r) (ha:PE X a ta) (hb:PE X b tb) (hm:behindInMarks op b=false):PT X (.Compare a [op] [b] pos) (tTest (tOp r ta tb)):=by
  intro pins s σ H Q I h
  refine wpAny_isTrue_Compare1 (thn (ha pins s σ H _ I h) fun v s1 ⟨x,H1,I1,r1,q1⟩=>thn (hb pins s1 σ H1 _ I1 q1) fun u s2 ⟨y,H2,I2,r2,q2⟩=>
    thn (ho pins s2 σ H2 x y v u _ I2 r1 r2 q2) fun c s3 ⟨z,H3,I3,r3,k,e,q3⟩=>?_) hm
  subst e
  cases r3
  exact wpAny_truthy_bool ⟨H3,I3,q3⟩
noncomputable def tChain (r r':R2) (ta tb tc:TE):TE:=fun σ H Q=>ta σ H fun x H1=>tb σ H1 fun y H2=>r x y H2 fun z H3=>∃ k,z=.bl k ∧
  (if k=true then tc σ H3 fun w' H4=>r' y w' H4 Q else Q (.bl false) H3)
theorem pe_chain {op op':CmpOp}{r r':R2} (ho:OpR X (compareOp op) r) (ho':OpR X (compareOp op') r') (ha:PE X a ta) (hb:PE X b tb) (hc:PE X c tc)
    (hm:lastMarks [op,op'] [b,c]=false:=by with_unfolding_all rfl):PE X (.Compare a [op,op'] [b,c] pos) (tChain r r' ta tb tc):=by
  intro pins s σ H Q I h
  refine Compare_chain (thn (ha pins s σ H _ I h) fun v s1 ⟨x,H1,I1,r1,q1⟩=>chain_link (thn (hb pins s1 σ H1 _ I1 q1) fun u s2 ⟨y,H2,I2,r2,q2⟩=>
    thn (ho pins s2 σ H2 x y v u _ I2 r1 r2 q2) fun d s3 ⟨z,H3,I3,r3,k,e,q3⟩=>?_)) hm
  subst e
  cases r3
  refine wpAny_truthy_bool ?_
  cases k with
  | false=>exact ite_ff ⟨.bl false,H3,I3,rfl,q3⟩
  | true=>exact ite_tt (chain_last (thn (hc pins s3 σ H3 _ I3 q3) fun w' s4 ⟨z',H4,I4,r4,q4⟩=>ho' pins s4 σ H4 y z' u w' Q I4 r2 r4 q4))
theorem pt_chain {op op':CmpOp}{r r':R2} (ho:OpR X (compareOp op) r) (ho':OpR X (compareOp op') r') (ha:PE X a ta) (hb:PE X b tb) (hc:PE X c tc)
    (hm:lastMarks [op,op'] [b,c]=false:=by with_unfolding_all rfl):PT X (.Compare a [op,op'] [b,c] pos) (tTest (tChain r r' ta tb tc)):=by
  intro pins s σ H Q I h
  refine isTrue_chain (thn (ha pins s σ H _ I h) fun v s1 ⟨x,H1,I1,r1,q1⟩=>test_link (thn (hb pins s1 σ H1 _ I1 q1) fun u s2 ⟨y,H2,I2,r2,q2⟩=>
    thn (ho pins s2 σ H2 x y v u _ I2 r1 r2 q2) fun d s3 ⟨z,H3,I3,r3,k,e,q3⟩=>?_)) hm
  subst e
  cases r3
  refine wpAny_truthy_bool ?_
  cases k with
  | false=>
    obtain ⟨k',e',q'⟩:=q3
    cases e'
    exact ite_ff ⟨H3,I3,q'⟩
  | true=>
    refine ite_tt (test_last (thn (hc pins s3 σ H3 _ I3 q3) fun w' s4 ⟨z',H4,I4,r4,q4⟩=>thn (ho' pins s4 σ H4 y z' u w' _ I4 r2 r4 q4) fun d' s5 ⟨z2,H5,I5,r5,k2,e2,q5⟩=>?_))
    subst e2
    cases r5
    exact wpAny_truthy_bool ⟨H5,I5,q5⟩

theorem line63:(sizeLine:Nat) < 2 ^ 63:=by rw [sizeLine_eq]; decide



theorem vals1 {x:V}{us:List Value} (r:Vals [x] us):∃ u,us=[u]∧RelV x u:=by
  cases r with
  | cons r1 r2=>cases r2; exact ⟨_,rfl,r1⟩
theorem vals2 {x y:V}{us:List Value} (r:Vals [x,y] us):∃ u w',us=[u,w']∧RelV x u∧RelV y w':=by
  cases r with
  | cons r1 r2=>
    cases r2 with
    | cons r3 r4=>cases r4; exact ⟨_,_,rfl,r1,r3⟩
theorem call_max2 (hc:X.calm=true):CallR X (.builtin "max") (fun xs H Q=>∃ i j,xs=[.int i,.int j]∧Q (.int (if j > i then j else i)) H):=by
  intro pins s σ H xs us Q I r h
  obtain ⟨i,j,rfl,q⟩:=h
  obtain ⟨u,w',rfl,⟨t,rfl⟩,⟨t',rfl⟩⟩:=vals2 r
  refine max_two_ints (I.ok.hd hc) fun h' tk k=>⟨_,H,I.kept k,?_,q⟩
  by_cases hj:j > i
  · rw [if_pos hj,if_pos hj]; exact ⟨_,rfl⟩
  · rw [if_neg hj,if_neg hj]; exact ⟨_,rfl⟩
theorem call_min2 (hc:X.calm=true):CallR X (.builtin "min") (fun xs H Q=>∃ i j,xs=[.int i,.int j]∧Q (.int (if j < i then j else i)) H):=by
  intro pins s σ H xs us Q I r h
  obtain ⟨i,j,rfl,q⟩:=h
  obtain ⟨u,w',rfl,⟨t,rfl⟩,⟨t',rfl⟩⟩:=vals2 r
  refine min_two_ints (I.ok.hd hc) fun h' tk k=>⟨_,H,I.kept k,?_,q⟩
  by_cases hj:j < i
  · rw [if_pos hj,if_pos hj]; exact ⟨_,rfl⟩
  · rw [if_neg hj,if_neg hj]; exact ⟨_,rfl⟩
end
end L2

namespace L2
open PySem PySem.Spec PyProof.Rows

structure ObjM (h:Heap) (x dx C:Addr) (mA:Str→Option Value):Prop where
  obj:h.get? x=some (PySem.W.instObj C dx)
  ns:h.Ns1 dx mA
  ne:dx≠x

theorem lookIn_ns {h:Heap}{dx:Addr}{mA:Str→Option Value} (n:h.Ns1 dx mA):∃ od,h.get? dx=some od∧∀ name,PySem.W.lookIn name od=some (mA name):=by
  obtain ⟨o,es,ep,ho,hd,hk,_,hm⟩:=n
  refine ⟨o,ho,fun name=>?_⟩
  have e:=hm name
  unfold nsFind findBy at e
  rw [←Array.find?_toList] at e
  unfold PySem.W.lookIn
  rw [hd]
  dsimp only
  split
  · rename_i y q
    rw [q] at e
    exact congrArg some e
  · rename_i q
    rw [q] at e
    have a:es.toList.any (·.refKey)=false:=by
      rw [List.any_eq_false]
      intro y hy
      obtain ⟨z,t,hkey⟩:=hk y (Array.mem_toList_iff.mp hy)
      simp [DictEntry.refKey,hkey]
    have a':¬es.toList.any (·.refKey)=true:=by rw [a]; exact Bool.false_ne_true
    rw [if_neg a']
    exact congrArg some e

theorem ObjM.look {h:Heap}{x dx C:Addr}{mA:Str→Option Value} (I:ObjM h x dx C mA):∃ od,PySem.W.InstAt h x (PySem.W.instObj C dx) C (some od)∧∀ name,PySem.W.lookIn name od=some (mA name):=
  let ⟨od,ho,hl⟩:=lookIn_ns I.ns
  ⟨od,⟨I.obj,rfl,rfl,ho⟩,hl⟩

section
variable {prog:Program}{w:World}{A:Around}{E:Value→Shared→Prop}{s:Shared}{K:PySem.W.Frag}{x dx C f:Addr}{mA:Str→Option Value}{name:Str}{v:Value}



theorem get_meth {pl:Sem Bool}{Q:Value×List Value→Shared→Prop} (X:K.In s.heap) (I:ObjM s.heap x dx C mA) (hg:PySem.W.plainGet K C name=true)
    (hf:PySem.W.findIn K (.ref C) name=some (some (.ref f))) (ht:PySem.W.isFn K (.ref f)=true) (hv:mA name=none) (h:Q (.ref f,[.ref x]) s) :
    wpAny (model prog w) A (getMethod (.ref x) name pl) Q E s:=by
  obtain ⟨od,J,hl⟩:=I.look
  exact PySem.W.method_fn X J (PySem.W.plainGet_of hg).1 (PySem.W.plainGet_of hg).2 hf (beq_iff_eq.mp ht) (by show (PySem.W.lookIn name od).map (·.isSome)=some false; rw [hl,hv]; rfl) h


end


theorem RelO.some_of {v:V}{o:Option Value} (r:RelO (some v) o):∃ u,o=some u∧RelV v u:=by
  cases o with
  | none=>exact (show False from r).elim
  | some u=>exact ⟨u,rfl,r⟩
theorem RelO.none_of {o:Option Value} (r:RelO none o):o=none:=by
  cases o with
  | none=>rfl
  | some u=>exact (show False from r).elim

section
variable {P:Program}{w:World}{H H':Hp}{h h':Heap}{a C dx:Addr}{fs fs':List (Str×V)}
theorem ins_get (hok:HOk P w H h) (e:H a=some (.ins C dx fs)):∃ mA,ObjM h a dx C mA∧(∀ f,RelO (fs.lookup f) (mA f))∧PySem.Within mA (fs.map (·.1))∧fs.length≤1000∧H dx=some (.own a):=by
  obtain ⟨d,z,ne,ob,mA,n,r,q⟩:=(show ObjOk P w H h a (.ins C dx fs) from hok a _ e)
  exact ⟨mA,⟨ob,n,ne⟩,r,q,z,d⟩
end

structure Cls (K:PySem.W.Frag) (C:Addr):Prop where
  pg:PySem.W.plainGet K C Str.empty=true
  hd:PySem.W.hasDictIn K C=true
  po:PySem.W.plainOver K C=true
  sa:PySem.W.findIn K (.ref C) "__setattr__"=some (some (.builtin "object.__setattr__"))
theorem Cls.get {K:PySem.W.Frag}{C:Addr} (c:Cls K C) (f:Str):PySem.W.plainGet K C f=true:=c.pg
structure Con (K:PySem.W.Frag) (C:Addr) (f:Str) (v:V) (u:Value):Prop where
  at_:PySem.W.findIn K (.ref C) f=some (some u)
  rel:RelV v u
  get:PySem.W.specialIn K u "__get__"=some none
  cp:PySem.W.copiedNames.contains f=false
structure Meth (K:PySem.W.Frag) (C:Addr) (m:Str) (f:Addr):Prop where
  at_:PySem.W.findIn K (.ref C) m=some (some (.ref f))
  fn:PySem.W.isFn K (.ref f)=true
  kp:PySem.W.keepIn K (.ref f)=true

section
variable {X:Cx}{pins:List (Addr×Obj)}{σ:St}{H:Hp}{s:Shared}{a C dx:Addr}{fs:List (Str×V)}{f:Str}{v:V}{A:Around}{E:Value→Shared→Prop}



theorem getmeth_ok {m:Str}{g:Addr}{pl:Sem Bool}{Q:Value×List Value→Shared→Prop} (I:Inv X pins σ H s) (e:H a=some (.ins C dx fs)) (c:Cls X.K C) (k:Meth X.K C m g) (l:fs.lookup m=none)
    (h:Q (.ref g,[.ref a]) s):wpAny (model X.prog X.w) A (getMethod (.ref a) m pl) Q E s:=by
  obtain ⟨mA,O,r,_,_,_⟩:=ins_get I.hok e
  have hn:mA m=none:=RelO.none_of (by rw [←l]; exact r m)
  exact get_meth I.kIn O (c.get m) k.at_ k.fn hn h


theorem Inv.made (I:Inv X pins σ H s):Inv X pins σ (upd (upd H s.heap.objs.size (.own (s.heap.objs.size+1))) (s.heap.objs.size+1) (.ins C s.heap.objs.size []))
    { s with heap:=(s.heap.push PySem.W.emptyDict).push (PySem.W.instObj C s.heap.objs.size) }:=by
  have e1:(s.heap.push PySem.W.emptyDict).get? s.heap.objs.size=some PySem.W.emptyDict:=Heap.get?_push_size s.heap rfl
  have e2:((s.heap.push PySem.W.emptyDict).push (PySem.W.instObj C s.heap.objs.size)).get? (s.heap.objs.size+1)=some (PySem.W.instObj C s.heap.objs.size):=by
    have:=Heap.get?_push_size (s.heap.push PySem.W.emptyDict) (o:=PySem.W.instObj C s.heap.objs.size) rfl
    rwa [Heap.size_push] at this
  have e3:(s.heap.push PySem.W.emptyDict).Ns s.heap.objs.size (fun _=>none):=⟨PySem.W.emptyDict,#[],_,e1,rfl,(fun e he=>absurd he (by simp)),fun _=>rfl⟩
  have I1:=I.laid (a:=s.heap.objs.size) (o:=.own (s.heap.objs.size+1)) (h':=s.heap.push PySem.W.emptyDict) (t':=s.toks) (fun b u q=>Heap.get?_push_of_some _ q) (Nat.le_refl _) ⟨_,e1⟩
  refine I1.laid (a:=s.heap.objs.size+1) (o:=.ins C s.heap.objs.size []) (t':=s.toks) (fun b u q=>Heap.get?_push_of_some _ q) (Nat.le_of_eq (Heap.size_push _ _)) ?_
  have ne:s.heap.objs.size≠s.heap.objs.size+1:=Nat.ne_of_lt (Nat.lt_succ_self _)
  refine ⟨by rw [upd_ne ne,upd_same],Nat.zero_le _,ne,e2,fun _=>none,(Heap.Ns1.of_empty e3).at fun o q=>Heap.get?_push_of_some _ q,fun _=>True.intro,fun y hy=>absurd rfl hy⟩

end


section
variable {X:Cx}{o e value:Expr}{f:Str}{pos pos' tpos:Pos}{ta tv:TE}

end

section
variable {X:Cx}{pins:List (Addr×Obj)}{σ:St}{H:Hp}{s:Shared}{A:Around}{E:Value→Shared→Prop}{Q:Value→Shared→Prop}{c:Value}{b:Bool}
inductive TyOf (K:PySem.W.Frag) (H:Hp):V→Value→Prop where
  | non:TyOf K H .non (.type "NoneType")
  | bl (x:Bool):TyOf K H (.bl x) (.type "bool")
  | int (i:Int):TyOf K H (.int i) (.type "int")
  | str (x:Str):TyOf K H (.str x) (.type "str")
  | flt (x:UInt64):TyOf K H (.flt x) (.type "float")
  | lst {a:Addr}{xs:List V} (e:H a=some (.lst xs)):TyOf K H (.ref a) (.type "list")
  | frz {a:Addr}{o:Obj}{xs:List V} (e:H a=some (.frz o (.lst xs))):TyOf K H (.ref a) (.type "list")
  | tup {a:Addr}{xs:List V} (e:H a=some (.tup xs)):TyOf K H (.ref a) (.type "tuple")
  | dK {a:Addr}{kvs:List (Key×V)} (e:H a=some (.dK kvs)):TyOf K H (.ref a) (.type "dict")
  | dT {a:Addr}{kvs:List (List Key×V)} (e:H a=some (.dT kvs)):TyOf K H (.ref a) (.type "dict")
  | ins {a C dx:Addr}{fs:List (Str×V)} (e:H a=some (.ins C dx fs)) (cl:Cls K C) (ha:PySem.W.findIn K (.ref C) "__class__"=some (some (.builtin "object.__class__")))
      (hn:PySem.W.specialIn K (.builtin "object.__class__") "__get__"=some (some (.builtin "getset_descriptor.__get__"))) (htk:PySem.W.takesIn K (.builtin "object.__class__")=some true)
      (hm:PySem.W.mroIn K C (.type "object")=some true):TyOf K H (.ref a) (.ref C)
theorem isinst_ok {x:V}{u t:Value} (I:Inv X pins σ H s) (rx:RelV x u) (ty:TyOf X.K H x t) (e:PySem.W.kitOne X.K t c=some b) (h:∀ tk,Q (.bool b) { s with toks:=tk }) :
    wpAny (model X.prog X.w) A (call (.builtin "isinstance") [u,c]) Q E s:=by
  cases ty with
  | non=>cases (show u=Value.none from rx); exact PySem.W.kia_one PySem.W.kitx_none I.kIn True.intro e (fun z=>nomatch z) h
  | bl y=>cases (show u=Value.bool y from rx); exact PySem.W.kia_one PySem.W.kitx_bool I.kIn True.intro e (fun z=>nomatch z) h
  | int i=>obtain ⟨t,q⟩:=(show ∃ t,u=Value.int i t from rx); cases q; exact PySem.W.kia_one PySem.W.kitx_int I.kIn True.intro e (fun z=>nomatch z) h
  | str y=>obtain ⟨t,q⟩:=(show ∃ t,u=Value.str y t from rx); cases q; exact PySem.W.kia_one PySem.W.kitx_str I.kIn True.intro e (fun z=>nomatch z) h
  | flt y=>obtain ⟨t,q⟩:=(show ∃ t,u=Value.float y t from rx); cases q; exact PySem.W.kia_one PySem.W.kitx_float I.kIn True.intro e (fun z=>nomatch z) h
  | @lst a xs ea=>
    cases (show u=Value.ref a from rx)
    obtain ⟨_,_,n,_,h1⟩:=(show ObjOk X.prog X.w H s.heap a (.lst xs) from I.hok a _ ea)
    exact PySem.W.kia_one PySem.W.kitx_list I.kIn ⟨_,h1,rfl⟩ e (fun z=>nomatch z) h
  | @frz a ob xs ea=>
    cases (show u=Value.ref a from rx)
    obtain ⟨_,_,_,n,_,h1⟩:=(show ObjOk X.prog X.w H s.heap a (.frz ob (.lst xs)) from I.hok a _ ea)
    exact PySem.W.kia_one PySem.W.kitx_list I.kIn ⟨_,h1,rfl⟩ e (fun z=>nomatch z) h
  | @tup a xs ea=>
    cases (show u=Value.ref a from rx)
    obtain ⟨_,_,_,p⟩:=(show ObjOk X.prog X.w H s.heap a (.tup xs) from I.hok a _ ea)
    obtain ⟨o,h1,h2,_⟩:=p
    exact PySem.W.kia_one PySem.W.kitx_tuple I.kIn ⟨o,h1,h2⟩ e (fun z=>nomatch z) h
  | @dK a kvs ea=>
    cases (show u=Value.ref a from rx)
    obtain ⟨_,_,vs,_,p⟩:=(show ObjOk X.prog X.w H s.heap a (.dK kvs) from I.hok a _ ea)
    obtain ⟨o,es,ep,h1,h2,_⟩:=p
    exact PySem.W.kia_one PySem.W.kitx_dict I.kIn ⟨o,h1,h2.1⟩ e (fun z=>nomatch z) h
  | @dT a kvs ea=>
    cases (show u=Value.ref a from rx)
    obtain ⟨_,_,xs,_,o,es,ep,h1,h2,_⟩:=(show ObjOk X.prog X.w H s.heap a (.dT kvs) from I.hok a _ ea)
    exact PySem.W.kia_one PySem.W.kitx_dict I.kIn ⟨o,h1,h2.1⟩ e (fun z=>nomatch z) h
  | @ins a C dx fs ea cl ha hn htk hm=>
    cases (show u=Value.ref a from rx)
    obtain ⟨mA,O,_⟩:=ins_get I.hok ea
    obtain ⟨od,J,_⟩:=O.look
    exact PySem.W.kia_one (PySem.W.kitx_own (cl.get _) cl.hd ha hn htk hm) I.kIn J e (fun z=>nomatch z) h
end
end L2

namespace L2
open PySem PySem.Spec PyProof.Rows

structure Room (k:Nat) (A:Around):Prop where
  hd:A.handled=none
  dp:A.depth+3 * k+5 < recursionLimit
  un:A.units+16 * k+200 < cLine
theorem Room.deeper {k:Nat}{A:Around} (r:Room (k+1) A) (env:Env):Room k (A.deeper env):=
  ⟨r.hd,by have:=r.dp; show A.depth+1+3 * k+5 < _; omega,by have:=r.un; show A.units+3+16 * k+200 < _; omega⟩
theorem Room.depth {k:Nat}{A:Around} (r:Room k A):A.depth < recursionLimit:=by have:=r.dp; omega
theorem Room.units {k:Nat}{A:Around} (r:Room k A):A.units+64 < cLine:=by have:=r.un; omega

noncomputable def tNil:TA:=fun _ H Q=>Q [] H
noncomputable def tCons (ta:TE) (tr:TA):TA:=fun σ H Q=>ta σ H fun x H1=>tr σ H1 fun xs H2=>Q (x :: xs) H2
section
variable {X:Cx}{e:Expr}{es:List Expr}{te:TE}{t:TA}{pos:Pos}
theorem pa_nil:PA X [] tNil:=fun _ _ _ _ H Q I h=>Calls.spliced_nil ⟨[],H,I,.nil,h⟩
theorem pa_cons (ha:PE X e te) (hr:PA X es t) (hs:starEach (e :: es) X.env=(false,eval e X.env) :: starEach es X.env:=by rfl):PA X (e :: es) (tCons te t):=by
  intro pos pins s σ H Q I h
  rw [hs]
  show wpAny _ _ (spliced ((false,eval e X.env) :: backTo pos (starEach es X.env))) _ _ s
  refine Calls.spliced_cons (thn (ha pins s σ H _ I h) fun u s1 ⟨x,H1,I1,r1,q1⟩=>?_)
  exact thn (hr pos pins s1 σ H1 _ I1 q1) fun us s2 ⟨xs,H2,I2,r2,q2⟩=>⟨x :: xs,H2,I2,.cons r1 r2,q2⟩

noncomputable def tTup (t:TA):TE:=fun σ H Q=>t σ H fun xs H1=>xs.length≤sizeLine∧∀ p,H1 p=none→Q (.ref p) (upd H1 p (.tup xs))
noncomputable def tLst (t:TA):TE:=fun σ H Q=>t σ H fun xs H1=>xs.length≤sizeLine∧∀ p,H1 p=none→Q (.ref p) (upd H1 p (.lst xs))
theorem pe_tup {x1} (h:PA X es t):PE X (.Tuple es x1 pos) (tTup t):=by
  intro pins s σ H Q I hq
  refine wpAny_Tuple_spliced (thn (h pos pins s σ H _ I hq) fun us s1 ⟨xs,H1,I1,r,z,q⟩=>⟨by rw [←r.length]; exact z,?_⟩)
  have hf:H1 s1.heap.objs.size=none:=I1.hok.fresh (Nat.le_refl _)
  refine ⟨.ref s1.heap.objs.size,upd H1 s1.heap.objs.size (.tup xs),I1.laid (t':=s1.toks) (fun b u e=>Heap.get?_push_of_some _ e) (Nat.le_refl _) ?_,rfl,q _ hf⟩
  exact ⟨z,us,r,⟨_,Heap.get?_push_size _ rfl,rfl,_,rfl⟩⟩
theorem pe_lst (h:PA X es t):PE X (.List es pos) (tLst t):=by
  intro pins s σ H Q I hq
  refine wpAny_List_spliced (thn (h pos pins s σ H _ I hq) fun us s1 ⟨xs,H1,I1,r,z,q⟩=>⟨by rw [←r.length]; exact z,?_⟩)
  have hf:H1 s1.heap.objs.size=none:=I1.hok.fresh (Nat.le_refl _)
  refine ⟨.ref s1.heap.objs.size,upd H1 s1.heap.objs.size (.lst xs),I1.laid (t':=s1.toks) (fun b u e=>Heap.get?_push_of_some _ e) (Nat.le_refl _) ?_,rfl,q _ hf⟩
  exact ⟨z,us,0,r,Heap.get?_push_size _ rfl⟩
end

noncomputable abbrev Sp:=List V→Hp→VK→XK→Prop
noncomputable abbrev CXT:=List Env→Hp→Shared→XK→Value→Shared→Prop

structure Env0 (P:Program) (w:World) (K:PySem.W.Frag) (mg:Str→Option Value) (base:Heap) (A:Around) (outer:List Env) (s:Shared) (H:Hp):Prop where
  frames:A.frames=some outer
  mod:Mod K mg base
  bs:∀ b o,base.get? b=some o→s.heap.get? b=some o∧H b=none
  bsz:base.objs.size≤s.heap.objs.size
  funs:s.heap.FunFrames base outer
  frf:∀ b∈frs outer,H b=none
  hok:HOk P w H s.heap
  bare:AllBare s.gens
noncomputable def CE (outer:List Env) (P:Program) (w:World) (H:Hp) (s:Shared) (Q:VK) (u:Value) (s':Shared):Prop:=
  ∃ v H',s'.os=s.os∧AllBare s'.gens∧Un (frs outer) [] H H' s.heap s'.heap∧HOk P w H' s'.heap∧RelV v u∧Q v H'
noncomputable def CR (CX:CXT) (outer:List Env) (P:Program) (w:World) (H:Hp) (s:Shared) (Q:VK) (E:XK) (r:Result) (s':Shared):Prop:=
  match r with
  | .ok (.ret u)=>CE outer P w H s Q u s'
  | .ok _=>False
  | .error e=>CX outer H s E e s'
structure FnOk (P:Program) (w:World) (K:PySem.W.Frag) (mg:Str→Option Value) (base:Heap) (CX:CXT) (k:Nat) (f:Addr) (fd:FuncData) (ps:List Str) (sp:Sp):Prop where
  len:∀ vs H Q E,sp vs H Q E→vs.length=ps.length
  run:∀ (A:Around) (outer:List Env) (s:Shared) (H:Hp) (args:Args) (us:List Value) (vs:List V) (Q:VK) (E:XK),Room k A→Env0 P w K mg base A outer s H→BindsTo s fd args (ps.zip us)→Vals vs us→sp vs H Q E→
    codeAny (model P w) A (.call (.ref f) args) (CR CX outer P w H s Q E) s


section
variable {X:Cx}{pins:List (Addr×Obj)}{σ:St}{H:Hp}{s s':Shared}
theorem Inv.env0 (I:Inv X pins σ H s):Env0 X.prog X.w X.K X.mg X.base X.A X.stack s H:=
  ⟨I.ok.frames,I.ok.mod,I.bs,Nat.le_trans I.ok.bsz I.sz,I.stack,I.stkFree,I.hok,I.bare⟩
theorem Inv.after {Q:VK}{u:Value} (I:Inv X pins σ H s) (h:CE X.stack X.prog X.w H s Q u s'):EP X pins σ Q u s':=by
  obtain ⟨v,H',os,bare,un,hok,r,q⟩:=h
  obtain ⟨hh,g,d,t,os'⟩:=s'
  obtain rfl:os'=s.os:=os
  exact ⟨v,H',I.call (h':=hh) (g':=g) (d':=d) (t':=t) (ch:=[]) un hok bare (fun b z=>absurd z (by simp)),r,q⟩
end

noncomputable def tCall (sp:Sp) (dvs:List V) (E:XK) (t:TA):TE:=fun σ H Q=>t σ H fun vs H1=>sp (vs++dvs) H1 Q E

noncomputable def Binds (K:PySem.W.Frag) (fd:FuncData) (ps:List Str) (ds:List Value):Prop:=
  ∀ (s:Shared) (us:List Value),K.In s.heap→(us++ds).length=ps.length→BindsTo s fd ⟨us,[]⟩ (ps.zip (us++ds))
theorem Binds.all {K:PySem.W.Frag}{fd:FuncData}{ps:List Str} (h:∀ us:List Value,us.length=ps.length→bindArgs fd ⟨us,[]⟩=pure (ps.zip us)):Binds K fd ps []:=fun s us _ hl=>by
  rw [List.append_nil] at hl ⊢
  exact .of_eq (h us hl)

noncomputable def Passes (CX:CXT) (X:Cx) (E:XK):Prop:=∀ (pins:List (Addr×Obj)) (σ:St) (H:Hp) (s:Shared) (e:Value) (s':Shared),Inv X pins σ H s→CX X.stack H s E e s'→X.xe e s'

section
variable {X:Cx}{CX:CXT}{k:Nat}{f C:Addr}{fd:FuncData}{ps:List Str}{sp:Sp}{dvs:List V}{ds:List Value}{E:XK}{x m:Str}{p pos apos:Pos}{e o:Expr}{es:List Expr}{ta:TE}{t:TA}

theorem run_fn {pins:List (Addr×Obj)}{σ:St}{H:Hp}{s:Shared}{Q:VK}{us:List Value}{vs:List V} (F:FnOk X.prog X.w X.K X.mg X.base CX k f fd ps sp) (hr:Room k X.A) (hb:Binds X.K fd ps ds) (hd:Vals dvs ds) (hx:Passes CX X E)
    (I:Inv X pins σ H s) (r:Vals vs us) (h:sp (vs++dvs) H Q E):wpAny (model X.prog X.w) X.A (call (.ref f) us) (EP X pins σ Q) X.xe s:=by
  have r2:Vals (vs++dvs) (us++ds):=r.append hd
  have hl:(us++ds).length=ps.length:=by rw [←r2.length]; exact F.len _ _ _ _ h
  refine wpAny_call (codeAny_mono (F.run X.A X.stack s H ⟨us,[]⟩ (us++ds) (vs++dvs) Q E hr I.env0 (hb s us I.kIn hl) r2 h) fun r s' hq=>?_)
  cases r with
  | error e=>exact hx pins σ H s e s' I hq
  | ok fl=>
    cases fl with
    | ret u=>exact I.after hq
    | next=>exact False.elim hq
    | brk=>exact False.elim hq
    | cont=>exact False.elim hq

theorem pe_call (F:FnOk X.prog X.w X.K X.mg X.base CX k f fd ps sp) (hr:Room k X.A) (hg:Gl X x) (hm:X.mg x=some (.ref f)) (hk:PySem.W.keepIn X.K (.ref f)=true) (hb:Binds X.K fd ps ds) (hd:Vals dvs ds) (hx:Passes CX X E)
    (ha:PA X (e :: es) t) (hdb:(x==("__debug__":Str))=false:=by decide) (he:starEach (e :: es) X.env=(false,eval e X.env) :: starEach es X.env:=by rfl) (hpl:(backTo pos (starEach es X.env)).any (·.1)=false:=by rfl) :
    PE X (.Call (.Name x p) (e :: es) [] pos) (tCall sp dvs E t):=by
  intro pins s σ H Q I h
  refine wpAny_Call_Name_kw (ld_glob I hg hm ?_ hdb)
  refine PySem.W.callWith_K (h₀:=X.base) I.ok.mod.kin hk (thn (ha pos pins s σ H _ I h) fun us s1 ⟨vs,H1,I1,r,q⟩=>⟨I1.kIn,?_⟩) he hpl
  exact run_fn F hr hb hd hx I1 r q
theorem pe_call0 (F:FnOk X.prog X.w X.K X.mg X.base CX k f fd ps sp) (hr:Room k X.A) (hg:Gl X x) (hm:X.mg x=some (.ref f)) (hk:PySem.W.keepIn X.K (.ref f)=true) (hb:Binds X.K fd ps ds) (hd:Vals dvs ds) (hx:Passes CX X E)
    (hdb:(x==("__debug__":Str))=false:=by decide):PE X (.Call (.Name x p) [] [] pos) (tCall sp dvs E tNil):=by
  intro pins s σ H Q I h
  refine wpAny_Call_Name_kw (ld_glob I hg hm ?_ hdb)
  exact PySem.W.callWith_K0 I.kIn hk (run_fn (us:=[]) F hr hb hd hx I .nil h)


structure Mk (K:PySem.W.Frag) (C f:Addr):Prop where
  makes:PySem.W.makesIn K C=true
  init:PySem.W.findIn K (.ref C) "__init__"=some (some (.ref f))
  fn:PySem.W.isFn K (.ref f)=true
  kp:PySem.W.keepIn K (.ref C)=true

end

section
variable {X:Cx}{CX:CXT}{k:Nat}{f C:Addr}{fd:FuncData}{ps ks:List Str}{sp:Sp}{E:XK}{x m:Str}{p pos apos kpos:Pos}{e o:Expr}{es:List Expr}{kws:List Keyword}{te ta:TE}{t tk:TA}{nm:Option Str}

structure KBinds (K:PySem.W.Frag) (fd:FuncData) (ps ks:List Str) (g:List Value→List Value→List Value) (gV:List V→List V→List V):Prop where
  to:∀ (s:Shared) (us ws:List Value),K.In s.heap→(g us ws).length=ps.length→BindsTo s fd ⟨us,ks.zip ws⟩ (ps.zip (g us ws))
  rel:∀ {vs:List V}{us:List Value}{zs:List V}{ws:List Value},Vals vs us→Vals zs ws→Vals (gV vs zs) (g us ws)
variable {g:List Value→List Value→List Value}{gV:List V→List V→List V}
end

structure FnScope (N P:List Str) (sc:Scope):Prop where
  kind:sc.kind=.function
  co:sc.isCoroutine=false
  gen:sc.isGenerator=false
  nd:N.Nodup
  pre:N.take P.length=P
  par:∀ x∈P,sc.names.lookup x=some .local∨sc.names.lookup x=some .cell
  nofree:∀ y∈sc.names,y.2≠.free

theorem bindL_out {kindOf:Str→Option NameKind}{x:Str}:∀ {binds:List (Str×Value)}{m:Str→Option Value},(∀ v,(x,v)∉binds)→bindL kindOf binds m x=m x
  | [],_,_=>rfl
  | (n,v) :: r,m,h=>by
    unfold bindL
    rw [bindL_out fun w hw=>h w (List.mem_cons_of_mem _ hw)]
    split
    · have:x≠n:=by rintro rfl; exact h v List.mem_cons_self
      simp [this]
    · rfl
theorem bindC_out {kindOf:Str→Option NameKind}{x:Str}:∀ {binds:List (Str×Value)}{m:Str→Option Value},(∀ v,(x,v)∉binds)→bindC kindOf binds m x=m x
  | [],_,_=>rfl
  | (n,v) :: r,m,h=>by
    unfold bindC
    rw [bindC_out fun w hw=>h w (List.mem_cons_of_mem _ hw)]
    split
    · rfl
    · have:x≠n:=by rintro rfl; exact h v List.mem_cons_self
      simp [this]
theorem bindL_get {kindOf:Str→Option NameKind}{x:Str}{v:Value}:∀ {P:List Str}{vs:List Value}{i:Nat}{m:Str→Option Value},P.Nodup→P[i]?=some x→vs[i]?=some v→kindOf x=some .local→
    bindL kindOf (P.zip vs) m x=some v
  | [],_,_,_,_,h,_,_=>by simp at h
  | _ :: _,[],_,_,_,_,h,_=>by simp at h
  | p :: P,w :: vs,0,m,nd,h1,h2,hk=>by
    simp at h1 h2; subst h1; subst h2
    show bindL kindOf ((p,w) :: P.zip vs) m p=_
    unfold bindL
    rw [bindL_out fun v hv=>(List.nodup_cons.mp nd).1 (List.of_mem_zip hv).1,if_pos hk]
    simp
  | p :: P,w :: vs,i+1,m,nd,h1,h2,hk=>by
    show bindL kindOf ((p,w) :: P.zip vs) m x=_
    unfold bindL
    exact bindL_get (i:=i) (List.nodup_cons.mp nd).2 (by simpa using h1) (by simpa using h2) hk
theorem bindC_get {kindOf:Str→Option NameKind}{x:Str}{v:Value}:∀ {P:List Str}{vs:List Value}{i:Nat}{m:Str→Option Value},P.Nodup→P[i]?=some x→vs[i]?=some v→kindOf x≠some .local→
    bindC kindOf (P.zip vs) m x=some v
  | [],_,_,_,_,h,_,_=>by simp at h
  | _ :: _,[],_,_,_,_,h,_=>by simp at h
  | p :: P,w :: vs,0,m,nd,h1,h2,hk=>by
    simp at h1 h2; subst h1; subst h2
    show bindC kindOf ((p,w) :: P.zip vs) m p=_
    unfold bindC
    rw [bindC_out fun v hv=>(List.nodup_cons.mp nd).1 (List.of_mem_zip hv).1,if_neg hk]
    simp
  | p :: P,w :: vs,i+1,m,nd,h1,h2,hk=>by
    show bindC kindOf ((p,w) :: P.zip vs) m x=_
    unfold bindC
    exact bindC_get (i:=i) (List.nodup_cons.mp nd).2 (by simpa using h1) (by simpa using h2) hk

noncomputable def start (N:List Str) (vs:List V):St:=vs.map some++List.replicate (N.length - vs.length) none

noncomputable def cxOf (CX:CXT) (P:Program) (w:World) (K:PySem.W.Frag) (mg:Str→Option Value) (base:Heap) (N:List Str) (qual:Str) (scope:Scope) (f:Addr) (cd:Value) (A:Around) (outer:List Env) (s:Shared) (H:Hp) (E:XK):Cx where
  prog:=P
  w:=w
  K:=K
  mg:=mg
  base:=base
  A:=A.deeper (envOfC qual scope s.heap.objs.size f cd)
  N:=N
  s₀:=s
  H₀:=H
  env:=envOfC qual scope s.heap.objs.size f cd
  outer:=outer
  stack:=envOfC qual scope s.heap.objs.size f cd :: outer
  ex:=[]
  calm:=true
  fn:=fun _=>true
  pn:=[]
  xe:=fun e s'=>wpAny (model P w) (A.deeper (envOfC qual scope s.heap.objs.size f cd)) (leaving (envOfC qual scope s.heap.objs.size f cd) e) (fun _ s''=>CX outer H s E e s'') (fun e' s''=>CX outer H s E e' s'') s'

theorem cell_has {sc:Scope}{n:Nat}{x:Str} (h:sc.names.lookup x=some .cell):∃ c,(cellsFrom n sc.names []).lookup x=some c:=by
  have q:=PySem.W.cellsFrom_some sc.names n [] (.inl h)
  exact Option.isSome_iff_exists.mp q

theorem inv_start {CX:CXT}{P:Program}{w:World}{K:PySem.W.Frag}{mg:Str→Option Value}{base:Heap}{N ps:List Str}{qual:Str}{scope:Scope}{f:Addr}{cd:Value}{A:Around}{outer:List Env}{s s1:Shared}{H:Hp}{E:XK}{us:List Value}{vs:List V}
    (S:FnScope N ps scope) (hd:A.handled=none) (e0:Env0 P w K mg base A outer s H) (hl:vs.length=ps.length) (r:Vals vs us)
    (x:InCallC s s.heap.objs.size (bindL (envOfC qual scope s.heap.objs.size f cd).kindOf (ps.zip us) fun _=>none) (cellsFrom (s.heap.objs.size+1) scope.names []) (bindC (envOfC qual scope s.heap.objs.size f cd).kindOf (ps.zip us) fun _=>none) s1) :
    Inv (cxOf CX P w K mg base N qual scope f cd A outer s H E) [] (start N vs) H s1:=by
  have hpl:ps.length≤N.length:=by have:=congrArg List.length S.pre; rw [List.length_take] at this; omega
  obtain ⟨h1,tk,rfl,hk⟩:=x.done
  have noA:∀ b:Addr,b∉(cxOf CX P w K mg base N qual scope f cd A outer s H E).ex:=fun b z=>absurd (show b∈([]:List Addr) from z) (by simp)
  refine ⟨⟨e0.mod,S.kind,rfl,rfl,Nat.le_refl _,fun y z c h1 h2=>?_,fun y hy=>?_,fun y c _ h=>?_,fun _=>hd,Around.frames_deeper e0.frames,.inr ⟨rfl,rfl⟩,fun b z=>absurd z (noA b),e0.bs,e0.bsz,fun b _ _=>noA b,fun b z=>absurd z (noA b),e0.funs,e0.frf⟩,
    rfl,e0.bare,Un.kept hk,⟨_,x.toInCall.ns,fun i y v h1 h2 h3=>?_⟩,fun y c h=>⟨_,x.cell y c h⟩,e0.hok.fresh (Nat.le_refl _),fun y c h=>?_,fun p hp=>absurd (show p∈([]:List (Addr×Obj)) from hp) (by simp),e0.hok.kept hk,?_⟩
  · exact name_of_addr x.apart (PySem.mem_of_lookup h1) (PySem.mem_of_lookup h2)
  · have hy:scope.names.lookup y=some .cell∨scope.names.lookup y=some .free:=hy
    rcases hy with hy | hy
    · exact cell_has hy
    · exact absurd rfl (S.nofree _ (PySem.mem_of_lookup hy))
  · exact Nat.le_of_lt (x.above y c (PySem.mem_of_lookup h))
  · have hi:i < vs.length:=by
      unfold start at h2
      by_cases hi:i < vs.length
      · exact hi
      · rw [List.getElem?_append_right (by simpa using hi)] at h2
        rw [List.getElem?_replicate] at h2
        split at h2<;>cases h2
    have ha:vs[i]?=some v:=by
      unfold start at h2
      rw [List.getElem?_append_left (by simpa using hi),List.getElem?_map] at h2
      cases e:vs[i]? with
      | none=>rw [e] at h2; cases h2
      | some a=>rw [e] at h2; cases h2; rfl
    obtain ⟨u,hu,rv⟩:=r.get ha
    have hp:ps[i]?=some y:=by
      rw [←S.pre,List.getElem?_take_of_lt (by omega)]; exact h1
    have ndP:ps.Nodup:=by rw [←S.pre]; exact S.nd.sublist (List.take_sublist _ _)
    refine ⟨u,rv,?_⟩
    rcases S.par y (List.mem_of_getElem? hp) with k | k
    · exact .inl ⟨k,bindL_get ndP hp hu k⟩
    · obtain ⟨c,e⟩:=cell_has (n:=s.heap.objs.size+1) k
      refine .inr ⟨.inl k,c,e,?_⟩
      have q:=x.cell y c e
      rw [bindC_get ndP hp hu (by show scope.names.lookup y≠_; rw [k]; decide)] at q
      exact q
  · exact e0.hok.fresh (Nat.le_of_lt (x.above y c (PySem.mem_of_lookup h)))
  · unfold start
    show _=N.length
    rw [List.length_append,List.length_map,List.length_replicate]
    omega

theorem fn_of {CX:CXT}{P:Program}{w:World}{K:PySem.W.Frag}{mg:Str→Option Value}{base:Heap}{k:Nat}{f:Addr}{name qual:Str}{params:Arguments}{body:List Stmt}{scope:Scope}{dV kV doc pm cdv ct oc:Value}{an od:Option Addr}
    {osl:Array (Option Value)}{N ps:List Str}{sp:Sp} (lk:K.lookup f=some ⟨oc,od,.func (PySem.W.fnOf name qual params body scope dV kV doc pm an cdv ct),osl⟩) (hcd:PySem.W.codeIn K cdv qual=true) (S:FnScope N ps scope)
    (len:∀ vs H Q E,sp vs H Q E→vs.length=ps.length)
    (hbody:∀ (A:Around) (outer:List Env) (s:Shared) (H:Hp) (vs:List V) (Q:VK) (E:XK),Room k (A.deeper (envOfC qual scope s.heap.objs.size f cdv))→sp vs H Q E→
      ∃ t,PSs (cxOf CX P w K mg base N qual scope f cdv A outer s H E) body t∧t { nx:=fun _ H'=>Q .non H',rt:=Q } (start N vs) H) :
    FnOk P w K mg base CX (k+1) f (PySem.W.fnOf name qual params body scope dV kV doc pm an cdv ct) ps sp:=by
  refine ⟨len,fun A outer s H args us vs Q E hr e0 hb r hsp=>?_⟩
  have hl:=len _ _ _ _ hsp
  have KX:K.In s.heap:=e0.mod.kin.keeps fun b o e=>(e0.bs b o e).1
  have lim:s.heap.NoLimit:=e0.mod.nolimit.keeps fun b o e=>(e0.bs b o e).1
  have hkind:∀ y∈ps.zip us,scope.names.lookup y.1=some .local∨(scope.names.lookup y.1=some .cell∧((cellsFrom (s.heap.objs.size+1) scope.names []).lookup y.1).isSome=true):=fun ⟨n,v⟩ hy=>by
    rcases S.par n (List.of_mem_zip hy).1 with q | q
    · exact .inl q
    · exact .inr ⟨q,PySem.W.cellsFrom_some _ _ _ (.inl q)⟩
  refine codeAny_call_function hr.depth (KX _ _ lk) rfl S.co S.gen rfl (PySem.W.codeRec_of KX hcd) (hb _ _ _ _ ?_)
  refine wpAny_newFunctionEnv_cells S.kind hkind fun env he s1 x=>?_
  subst he
  refine ⟨lim.keeps x.toInCall.keep,codeAny_func ?_⟩
  obtain ⟨t,ht,hq⟩:=hbody A outer s H vs Q E (hr.deeper _) hsp
  have I:Inv (cxOf CX P w K mg base N qual scope f cdv A outer s H E) [] (start N vs) H s1:=inv_start S hr.hd e0 hl r x
  refine wpAny_mono (ht [] s1 (start N vs) H _ I hq) (fun fl s' hs=>?_) fun e s' hs=>hs
  have fin:∀ {σ':St}{H':Hp}{v:V}{u:Value},Inv (cxOf CX P w K mg base N qual scope f cdv A outer s H E) [] σ' H' s'→RelV v u→Q v H'→CE outer P w H s Q u s':=
    fun {σ' H' v u} J rv q=>⟨v,H',J.os,J.bare,J.base,J.hok,rv,q⟩
  cases fl with
  | ret u=>
    obtain ⟨v,σ',H',J,rv,q⟩:=hs
    exact fin J rv q
  | next=>
    obtain ⟨σ',H',J,q⟩:=hs
    exact fin (v:=V.non) (u:=Value.none) J rfl q
  | brk=>
    obtain ⟨_,_,_,q⟩:=hs
    exact False.elim q
  | cont=>
    obtain ⟨_,_,_,q⟩:=hs
    exact False.elim q
end L2

namespace L2
open PySem PySem.Spec PyProof.Rows
section
variable {X:Cx}{x:Str}{p pos:Pos}{e:Expr}{es:List Expr}{t:TA}{id T:String}{r:List V→Hp→VK→Prop}

noncomputable def tCB (r:List V→Hp→VK→Prop) (t:TA):TE:=fun σ H Q=>t σ H fun vs H1=>r vs H1 Q
theorem pe_callB (hc:CallR X (.builtin id) r) (hg:Gl X x) (hm:X.mg x=none) (hv:bootBuiltins x=some (.builtin id)) (ha:PA X (e :: es) t) (hn:x ≠ "__name__":=by decide) (hdb:(x==("__debug__":Str))=false:=by decide)
    (he:starEach (e :: es) X.env=(false,eval e X.env) :: starEach es X.env:=by rfl) (hpl:(backTo pos (starEach es X.env)).any (·.1)=false:=by rfl):PE X (.Call (.Name x p) (e :: es) [] pos) (tCB r t):=by
  intro pins s σ H Q I h
  refine wpAny_Call_Name_kw (ld_blt I hg hm hv ?_ hn hdb)
  exact PyProof.Rows.callWith_builtin1 (thn (ha pos pins s σ H _ I h) fun us s1 ⟨vs,H1,I1,r1,q1⟩=>hc pins s1 σ H1 vs us Q I1 r1 q1) he hpl
theorem pe_callTy (hc:CallR X (.type T) r) (hg:Gl X x) (hm:X.mg x=none) (hv:bootBuiltins x=some (.type T)) (ha:PA X (e :: es) t) (hn:x ≠ "__name__":=by decide) (hdb:(x==("__debug__":Str))=false:=by decide)
    (he:starEach (e :: es) X.env=(false,eval e X.env) :: starEach es X.env:=by rfl) (hpl:(backTo pos (starEach es X.env)).any (·.1)=false:=by rfl):PE X (.Call (.Name x p) (e :: es) [] pos) (tCB r t):=by
  intro pins s σ H Q I h
  refine wpAny_Call_Name_kw (ld_blt I hg hm hv ?_ hn hdb)
  exact PyProof.Rows.callWith_type1 (thn (ha pos pins s σ H _ I h) fun us s1 ⟨vs,H1,I1,r1,q1⟩=>hc pins s1 σ H1 vs us Q I1 r1 q1) he hpl
end
end L2

namespace HT
open PySem PyProof.Rows



section
open PySem.SeqAt
open PySem.AutoSeq1 (wpAny_loadPart')
open PySem.MeetsSeq PySem.MeetsSeq2 PySem.MeetsSeq3

end

section
variable {prog:Program}{w:World}{A:Around}{E:Value→Shared→Prop}{s:Shared}


theorem cat_tup {t b:Addr}{vs ws:List Value}{Q:Value→Shared→Prop} (ht:IsTup s.heap t vs.toArray) (hb:IsTup s.heap b ws.toArray) (hv:vs≠[])
    (h1:ws=[]→Q (.ref t) s) (h2:ws≠[]→Q (.ref s.heap.objs.size) { s with heap:=s.heap.push { cls:=.type "tuple",data:=.seq (vs++ws).toArray } })
    (hsz:vs.length+ws.length≤sizeLine):wpAny (model prog w) A (binaryOp .Add (.ref t) (.ref b)) Q E s:=by
  obtain ⟨⟨cls,dd,data,sl⟩,ho,hc,n,hd⟩:=id ht
  obtain ⟨⟨cls2,dd2,data2,sl2⟩,ho2,hc2,n2,hd2⟩:=id hb
  simp only at hc hd hc2 hd2
  subst hc hd hc2 hd2
  have e:vs.toArray++ws.toArray=(vs++ws).toArray:=by simp
  by_cases hw:ws=[]
  · exact concat_meets ⟨_,ho,rfl⟩ ⟨_,ho2,rfl⟩ noFill_tuple_add seq_tuple_add PySem.F.slot_tuple_add PySem.F.entry_tuple_add (PySem.F.args_tuple_add_2 _ _)
      (tuple_addW1 t b vs.toArray ws.toArray n n2 dd dd2 sl sl2 (by simpa using hv) (by simp [hw])) ⟨ho,ho2,h1 hw⟩
  · refine concat_meets ⟨_,ho,rfl⟩ ⟨_,ho2,rfl⟩ noFill_tuple_add seq_tuple_add PySem.F.slot_tuple_add PySem.F.entry_tuple_add (PySem.F.args_tuple_add_2 _ _)
      (tuple_addW2 t b vs.toArray ws.toArray n n2 dd dd2 sl sl2 (by simpa using hv) (by simpa using hw) (by rw [List.size_toArray,List.size_toArray]; exact hsz)) ⟨ho,ho2,?_⟩
    rw [e]
    exact h2 hw

noncomputable def sIx (n d:Nat):Option Int→Nat
  | none=>d
  | some v=>if v < 0 then (v+(n:Int)).toNat else min v.toNat n
theorem sIx_le (n d:Nat) (hd:d≤n) (o:Option Int):sIx n d o≤n:=by
  cases o with
  | none=>exact hd
  | some v=>
    show (if v < 0 then (v+(n:Int)).toNat else min v.toNat n)≤n
    by_cases hv:v < 0
    · rw [if_pos hv]; omega
    · rw [if_neg hv]; exact Nat.min_le_right _ _
theorem clip_eq (v:Int) (n d:Nat):(if v < 0 then max (v+(n:Int)) 0 else min v (n:Int))=((sIx n d (some v):Nat):Int):=by
  show (if v < 0 then max (v+(n:Int)) 0 else min v (n:Int))=(((if v < 0 then (v+(n:Int)).toNat else min v.toNat n):Nat):Int)
  by_cases hv:v < 0
  · simp only [if_pos hv]; omega
  · simp only [if_neg hv]; omega
theorem adjust_gen (lo hi:Option Int) (n:Nat):Builtin.Slice.sliceAdjust lo hi 1 (n:Int)=(((sIx n 0 lo:Nat):Int),((sIx n n hi:Nat):Int)):=by
  have h1:¬((1:Int) < 0):=by omega
  unfold Builtin.Slice.sliceAdjust
  simp only [h1,if_false]
  refine Prod.ext ?_ ?_
  · cases lo with
    | none=>rfl
    | some v=>exact clip_eq v n 0
  · cases hi with
    | none=>rfl
    | some v=>exact clip_eq v n n
theorem places_gen (i j:Nat):Builtin.Slice.slicePlaces (i:Int) (j:Int) 1=j - i:=by
  unfold Builtin.Slice.slicePlaces
  have h1:(1:Int) > 0:=by omega
  simp only [h1,if_true,Int.ediv_one]
  split<;>omega
theorem slicePart_ {v:Value}{o:Option Int}{Q:Option Int→Shared→Prop} (p:IsPart v o) (h:Q o s):wpAny (model prog w) A (Builtin.Slice.slicePartIndex v) Q E s:=by
  cases p with
  | none=>exact slicePart_none h
  | int i t=>exact slicePart_int h
theorem sliceApplied_gen {sl:Addr}{vl vu:Value}{lo hi:Option Int}{n:Nat}{Q:Int×Int×Nat→Shared→Prop} (hs:s.heap.IsSliceOf sl vl vu .none) (pl:IsPart vl lo) (pu:IsPart vu hi)
    (h:Q (((sIx n 0 lo:Nat):Int),1,sIx n n hi - sIx n 0 lo) s):wpAny (model prog w) A (Builtin.Slice.sliceApplied (.ref sl) (pure (n:Int))) Q E s:=by
  obtain ⟨os,hos,hcs,hds⟩:=id hs
  unfold Builtin.Slice.sliceApplied Builtin.Slice.sliceFields
  refine wpAny_bind (wpAny_bind (wpAny_field hos hds (x:=vl) rfl (wpAny_bind (wpAny_field hos hds (x:=vu) rfl (wpAny_bind (wpAny_field hos hds (x:=.none) rfl (wpAny_pure ?_)))))))
  refine wpAny_bind (slicePart_none ?_)
  show wpAny _ _ (if ((1:Int)==0)=true then _ else _) _ _ s
  rw [if_neg (by decide)]
  refine wpAny_bind (slicePart_ pl (wpAny_bind (slicePart_ pu (wpAny_bind (wpAny_pure ?_)))))
  show wpAny _ _ (match Builtin.Slice.sliceAdjust lo hi 1 (n:Int) with | (lo,hi)=>pure (lo,(1:Int),Builtin.Slice.slicePlaces lo hi 1)) _ _ s
  rw [adjust_gen lo hi n]
  show wpAny _ _ (pure (((sIx n 0 lo:Nat):Int),(1:Int),Builtin.Slice.slicePlaces ((sIx n 0 lo:Nat):Int) ((sIx n n hi:Nat):Int) 1)) _ _ s
  rw [places_gen]
  exact wpAny_pure h
theorem pick_gen (xs:Array Value) (i k:Nat):((List.range k).filterMap fun (m:Nat)=>xs[((i:Int)+(m:Int) * 1).toNat]?).toArray=((xs.toList.drop i).take k).toArray:=by
  have e:(fun (m:Nat)=>xs[((i:Int)+(m:Int) * 1).toNat]?)=fun m=>xs[i+m]?:=by
    funext m
    have:((i:Int)+(m:Int) * 1).toNat=i+m:=by omega
    rw [this]
  rw [e]
  have:=pick_run xs i k
  rw [List.filterMap_map] at this
  have e2:((fun x=>xs[x]?) ∘ fun x=>i+x)=fun m=>xs[i+m]?:=rfl
  rw [e2] at this
  rw [this]

theorem getItem_tuple_cut {t sl:Addr}{items:Array Value}{vl vu:Value}{lo hi:Option Int}{Q:Value→Shared→Prop} (ht:IsTup s.heap t items) (hs:s.heap.IsSliceOf sl vl vu .none) (pl:IsPart vl lo) (pu:IsPart vu hi)
    (hw:¬(sIx items.size 0 lo=0∧sIx items.size items.size hi=items.size))
    (h:Q (.ref s.heap.objs.size) { s with heap:=s.heap.push { cls:=.type "tuple",data:=.seq ((items.toList.drop (sIx items.size 0 lo)).take (sIx items.size items.size hi - sIx items.size 0 lo)).toArray } })
    (hsz:items.size≤sizeLine):wpAny (model prog w) A (getItem (.ref t) (.ref sl)) Q E s:=by
  have htake:sizeOk (.seq ((items.toList.drop (sIx items.size 0 lo)).take (sIx items.size items.size hi - sIx items.size 0 lo)).toArray):=by
    show ((items.toList.drop (sIx items.size 0 lo)).take (sIx items.size items.size hi - sIx items.size 0 lo)).toArray.size≤sizeLine
    rw [List.size_toArray,List.length_take,List.length_drop,Array.length_toList]
    omega
  have hj:sIx items.size items.size hi≤items.size:=sIx_le _ _ (Nat.le_refl _) hi
  obtain ⟨os,hos,hcs,hds⟩:=id hs
  have hTs:s.TypeIs (.ref sl) "slice":=⟨os,hos,hcs⟩
  unfold getItem
  try with_reducible refine wpAny_holding ?_
  first | refine wpAny_bind (wpAny_pure ?_) | skip
  refine wpAny_bind (wpAny_sequenceKey ht.typeIs (by decide) ?_)
  refine wpAny_bind (wpAny_callSpecial?_slot (name:=Str.ofString "__getitem__") ht.typeIs PyProof.Rows.slot_tuple_getitem
    (wpAny_call_entry PyProof.Rows.slot_tuple_getitem ht.typeIs entry_tuple_getitem ?_ (args_tuple_getitem _ _)))
  show wpAny _ _ (Builtin.Tuple.tupleItemsOf (.ref t) >>= _) _ _ s
  refine wpAny_bind (tupleItemsOf_ ht ?_)
  refine wpAny_bind (wpAny_typeOf hTs ?_)
  rw [if_pos (by decide)]
  refine wpAny_bind (sliceApplied_gen hs pl pu ?_)
  have hno:¬((((sIx items.size 0 lo:Nat):Int)==0&&(1:Int)==1&&(sIx items.size items.size hi - sIx items.size 0 lo)==items.size)=true):=by
    intro q
    rw [Bool.and_eq_true,Bool.and_eq_true] at q
    have q1:((sIx items.size 0 lo:Nat):Int)=0:=eq_of_beq q.1.1
    have q2:sIx items.size items.size hi - sIx items.size 0 lo=items.size:=eq_of_beq q.2
    exact hw ⟨by omega,by omega⟩
  show wpAny _ _ (if (((sIx items.size 0 lo:Nat):Int)==0&&(1:Int)==1&&(sIx items.size items.size hi - sIx items.size 0 lo)==items.size)=true then _ else _) _ _ s
  rw [if_neg hno,pick_gen]
  first
    | exact wpAny_bind (m:=Builtin.Tuple.tupleExact _) (wpAny_newObj_type (wpAny_pure ⟨_,rfl,wpAny_pure h⟩) htake)
    | exact wpAny_bind (m:=Builtin.Tuple.tupleExact _) (wpAny_newObj_type (wpAny_bind (wpAny_pure (wpAny_pure ⟨_,rfl,wpAny_pure h⟩))) htake)
    | exact wpAny_bind (wpAny_bind (m:=Builtin.Tuple.tupleExact _) (wpAny_newObj_type (wpAny_pure (wpAny_pure ⟨_,rfl,wpAny_pure h⟩)) htake))
    | exact wpAny_bind (wpAny_bind (m:=Builtin.Tuple.tupleExact _) (wpAny_newObj_type (wpAny_pure ⟨_,rfl,wpAny_pure h⟩) htake))
end
end HT

namespace L2
open PySem PySem.Spec PyProof.Rows

noncomputable abbrev TO:=St→Hp→(Option Int→Hp→Prop)→Prop
noncomputable def PO (X:Cx) (e:Option Expr) (t:TO):Prop:=
  ∀ (pins:List (Addr×Obj)) (s:Shared) (σ:St) (H:Hp) (Q:Option Int→Hp→Prop),Inv X pins σ H s→t σ H Q→
    wpAny (model X.prog X.w) X.A (evalPart e X.env) (fun u s'=>∃ o H',Inv X pins σ H' s'∧IsPart u o∧Q o H') X.xe s
noncomputable def tNoPart:TO:=fun _ H Q=>Q none H
noncomputable def tPart (t:TE):TO:=fun σ H Q=>t σ H fun x H1=>∃ i,x=.int i∧Q (some i) H1


section
variable {X:Cx}{e:Expr}{te:TE}{lo hi:Option Expr}{tl th:TO}{pos p2:Pos}

theorem po_none:PO X none tNoPart:=by
  intro pins s σ H Q I h
  rw [evalPart_none]
  exact wpAny_pure ⟨none,H,I,.none,h⟩
theorem po_some (h:PE X e te):PO X (some e) (tPart te):=by
  intro pins s σ H Q I hw
  rw [evalPart_some]
  refine thn (h pins s σ H _ I hw) fun u s1 ⟨x,H1,I1,r1,q1⟩=>?_
  obtain ⟨i,rfl,q⟩:=q1
  obtain ⟨t,rfl⟩:=r1
  exact ⟨some i,H1,I1,.int i t,q⟩

noncomputable def SlR (X:Cx) (r:V→Option Int→Option Int→Hp→VK→Prop):Prop:=
  ∀ (pins:List (Addr×Obj)) (s:Shared) (σ:St) (H:Hp) (x:V) (v vl vu:Value) (lo hi:Option Int) (sl:Addr) (Q:VK),Inv X pins σ H s→RelV x v→s.heap.IsSliceOf sl vl vu .none→IsPart vl lo→IsPart vu hi→r x lo hi H Q→
    ∃ T id,typeLookup (.type T) "__getitem__"=pure (some (.builtin id))∧s.TypeIs v T∧wpAny (model X.prog X.w) X.A (getItem v (.ref sl)) (EP X pins σ Q) X.xe s
noncomputable def tSl (r:V→Option Int→Option Int→Hp→VK→Prop) (te:TE) (tl th:TO):TE:=fun σ H Q=>te σ H fun x H1=>tl σ H1 fun l H2=>th σ H2 fun u H3=>r x l u H3 Q
theorem pe_slice {r:V→Option Int→Option Int→Hp→VK→Prop} (hr:SlR X r) (he:PE X e te) (hl:PO X lo tl) (hu:PO X hi th):PE X (.Subscript e (.Slice lo hi none p2) pos) (tSl r te tl th):=by
  intro pins s σ H Q I h
  refine Subscript_ (thn (he pins s σ H _ I h) fun v s1 ⟨x,H1,I1,r1,q1⟩=>?_)
  refine wpAny_Slice (thn (hl pins s1 σ H1 _ I1 q1) fun vl s2 ⟨l,H2,I2,pl,q2⟩=>thn (hu pins s2 σ H2 _ I2 q2) fun vu s3 ⟨u,H3,I3,pu,q3⟩=>?_)
  rw [evalPart_none]
  refine wpAny_pure ?_
  have I4:Inv X pins σ H3 { s3 with heap:=s3.heap.push { cls:=.type "slice",data:=.fields #[vl,vu,.none] } }:=I3.kept (t':=s3.toks) fun b ob q=>Heap.get?_push_of_some _ q
  obtain ⟨T,id,hT,ht,hg⟩:=hr pins { s3 with heap:=s3.heap.push { cls:=.type "slice",data:=.fields #[vl,vu,.none] } } σ H3 x v vl vu l u s3.heap.objs.size Q I4 r1 (Heap.IsSliceOf.new ..) pl pu q3
  show wpAny (model X.prog X.w) X.A (subscriptTail e (.Slice lo hi none p2) v (.ref s3.heap.objs.size)) (EP X pins σ Q) X.xe { s3 with heap:=s3.heap.push { cls:=.type "slice",data:=.fields #[vl,vu,.none] } }
  exact tail_any (ops:=[.ref s3.heap.objs.size,v]) ht hT hg (by with_unfolding_all rfl)

noncomputable def cutV (xs:List V) (lo hi:Option Int):List V:=(xs.drop (HT.sIx xs.length 0 lo)).take (HT.sIx xs.length xs.length hi - HT.sIx xs.length 0 lo)
theorem cutV_length (xs:List V) (lo hi:Option Int):(cutV xs lo hi).length≤xs.length:=by
  unfold cutV
  rw [List.length_take,List.length_drop]
  omega
noncomputable def rSlT (K:PySem.W.Frag):V→Option Int→Option Int→Hp→VK→Prop:=fun x lo hi H Q=>∃ a xs,x=.ref a∧SqT K H a xs ∧
  ¬(HT.sIx xs.length 0 lo=0∧HT.sIx xs.length xs.length hi=xs.length)∧∀ p,H p=none→Q (.ref p) (upd H p (.tup (cutV xs lo hi)))
theorem sl_tup:SlR X (rSlT X.K):=by
  intro pins s σ H x v vl vu lo hi sl Q I rx hs pl pu h
  obtain ⟨a,xs,rfl,hx,hw,q⟩:=h
  cases rx
  obtain ⟨its,r,ht,hz⟩:=I.tuple hx
  have hlen:its.toArray.size=xs.length:=by rw [List.size_toArray]; exact r.length.symm
  refine ⟨"tuple",_,PyProof.Rows.slot_tuple_getitem.lookup,ht.typeIs,?_⟩
  refine HT.getItem_tuple_cut ht hs pl pu (by rw [hlen]; exact hw) ?_ (by rw [hlen]; exact hz)
  rw [hlen]
  refine ⟨.ref s.heap.objs.size,_,I.laid (t':=s.toks) (o:=.tup (cutV xs lo hi)) (fun b ob q=>Heap.get?_push_of_some _ q) (Nat.le_refl _) ?_,rfl,q _ (I.hok.fresh (Nat.le_refl _))⟩
  exact ⟨Nat.le_trans (cutV_length xs lo hi) hz,_,(r.drop (HT.sIx xs.length 0 lo)).take (HT.sIx xs.length xs.length hi - HT.sIx xs.length 0 lo),IsTup.new _ _⟩

noncomputable def rCatT (K:PySem.W.Frag):R2:=fun x y H Q=>∃ a b xs ys,x=.ref a∧y=.ref b∧SqT K H a xs∧SqT K H b ys∧xs≠[]∧xs.length+ys.length≤sizeLine ∧
  (ys=[]→Q (.ref a) H)∧(ys≠[]→∀ p,H p=none→Q (.ref p) (upd H p (.tup (xs++ys))))
theorem Vals.nil_iff {xs:List V}{us:List Value} (r:Vals xs us):us=[]↔xs=[]:=by
  cases r with
  | nil=>simp
  | cons _ _=>simp
theorem op_catT:OpR X (binaryOp .Add) (rCatT X.K):=by
  intro pins s σ H x y v u Q I rx ry h
  obtain ⟨a,b,xs,ys,rfl,rfl,ha,hb,hx,hz,q1,q2⟩:=h
  cases rx
  cases ry
  obtain ⟨its,r1,p1,_⟩:=I.tuple ha
  obtain ⟨its2,r2,p2,_⟩:=I.tuple hb
  refine HT.cat_tup p1 p2 (fun z=>hx (r1.nil_iff.mp z)) (fun z=>⟨.ref a,H,I,rfl,q1 (r2.nil_iff.mp z)⟩) (fun z=>?_) (by rw [←r1.length,←r2.length]; exact hz)
  refine ⟨.ref s.heap.objs.size,_,I.laid (t':=s.toks) (o:=.tup (xs++ys)) (fun b ob q=>Heap.get?_push_of_some _ q) (Nat.le_refl _) ?_,rfl,q2 (fun w=>z (r2.nil_iff.mpr w)) _ (I.hok.fresh (Nat.le_refl _))⟩
  exact ⟨by rw [List.length_append]; exact hz,_,r1.append r2,IsTup.new _ _⟩
end
end L2

namespace L2
open PySem PySem.Spec PyProof.Rows

noncomputable def ixN (n:Nat) (i:Int):Option Nat:=if 0≤i then (if i < n then some i.toNat else none) else if -(n:Int)≤i then some (i+n).toNat else none
noncomputable def atI {α:Type} (xs:List α) (i:Int):Option α:=(ixN xs.length i).bind fun j=>xs[j]?
theorem ixN_seq {n:Nat}{i:Int}{j:Nat} (h:ixN n i=some j):seqIndex? i n=some j∧j < n∧-(n:Int)≤i∧i < n:=by
  unfold ixN at h
  by_cases h0:0≤i
  · rw [if_pos h0] at h
    by_cases h1:i < n
    · rw [if_pos h1] at h
      have e:i.toNat=j:=Option.some.inj h
      exact ⟨by rw [seqIndex_of h0 h1,e],by omega,by omega,h1⟩
    · rw [if_neg h1] at h; cases h
  · rw [if_neg h0] at h
    by_cases h1:-(n:Int)≤i
    · rw [if_pos h1] at h
      have e:(i+n).toNat=j:=Option.some.inj h
      exact ⟨by rw [seqIndex_neg (by omega) h1,e],by omega,h1,by omega⟩
    · rw [if_neg h1] at h; cases h
theorem atI_get {α:Type}{xs:List α}{i:Int}{v:α} (h:atI xs i=some v):∃ j,seqIndex? i xs.length=some j∧xs[j]?=some v∧j < xs.length∧-(xs.length:Int)≤i∧i < xs.length:=by
  unfold atI at h
  cases e:ixN xs.length i with
  | none=>rw [e] at h; cases h
  | some j=>
    rw [e] at h
    obtain ⟨h1,h2,h3,h4⟩:=ixN_seq e
    exact ⟨j,h1,h,h2,h3,h4⟩

noncomputable def PlainIx (b:Expr):Prop:=∀ o i,subscripted b false o i=operate [o,i] (getItem o i)
noncomputable def IxR (X:Cx) (r:R2):Prop:=
  ∀ (value slice:Expr) (pins:List (Addr×Obj)) (s:Shared) (σ:St) (H:Hp) (x y:V) (v u:Value) (Q:VK),Inv X pins σ H s→RelV x v→RelV y u→r x y H Q→
    subscripted slice false v u=operate [v,u] (getItem v u)→wpAny (model X.prog X.w) X.A (subscriptTail value slice v u) (EP X pins σ Q) X.xe s
noncomputable def MtR (X:Cx) (id:String) (r:V→List V→Hp→VK→Prop):Prop:=
  ∀ (pins:List (Addr×Obj)) (s:Shared) (σ:St) (H:Hp) (x:V) (xs:List V) (v:Value) (us:List Value) (Q:VK),Inv X pins σ H s→RelV x v→Vals xs us→r x xs H Q→
    wpAny (model X.prog X.w) X.A (call (.builtin id) (v :: us)) (EP X pins σ Q) X.xe s
section
variable {X:Cx}{a b:Expr}{ta tb:TE}{pos:Pos}
theorem pe_ix {r:R2} (hr:IxR X r) (ha:PE X a ta) (hb:PE X b tb) (hs:PlainIx b):PE X (.Subscript a b pos) (tOp r ta tb):=by
  intro pins s σ H Q I h
  exact Subscript_ (binT ha hb I h fun v u s2 x y H2 I2 rx ry q=>hr a b pins s2 σ H2 x y v u Q I2 rx ry q (hs _ _))

noncomputable def rIxL (K:PySem.W.Frag):R2:=fun x y H Q=>∃ p xs i v,x=.ref p∧y=.int i∧SqL K H p xs∧atI xs i=some v∧Q v H
noncomputable def rIxT (K:PySem.W.Frag):R2:=fun x y H Q=>∃ p xs i v,x=.ref p∧y=.int i∧SqT K H p xs∧atI xs i=some v∧Q v H
theorem ix_list:IxR X (rIxL X.K):=by
  intro value slice pins s σ H x y v u Q I rx ry h hs
  obtain ⟨p,xs,i,z,rfl,rfl,hq,he,q⟩:=h
  cases rx
  obtain ⟨t,rfl⟩:=ry
  obtain ⟨its,r,pl,hz⟩:=I.list hq
  obtain ⟨j,h1,h2,h3,h4,h5⟩:=atI_get he
  obtain ⟨w,ew,rw'⟩:=r.get h2
  have hl:=r.length
  have hn:=line63
  have fin:EP X pins σ Q w s:=⟨z,H,I,rw',q⟩
  by_cases h0:0≤i
  · have hj:i.toNat=j:=by
      rw [seqIndex_of h0 h5] at h1
      exact Option.some.inj h1
    exact item_listR pl.isList h0 (by omega) (by rw [hj]; simpa using ew) fin hs
  · have hj:(i+(its.toArray.size:Int)).toNat=j:=by
      rw [seqIndex_neg (by omega) h4] at h1
      rw [List.size_toArray,←hl]
      exact Option.some.inj h1
    exact subscriptTail_builtinR (x:=w) pl.isList.typeIs slot_list_getitem.lookup
      (wpAny_getItem_list_neg (Q:=fun r s'=>r=w∧EP X pins σ Q r s') pl.isList (by omega) (by rw [List.size_toArray]<;>omega) (by omega) (by rw [hj]; simpa using ew) ⟨rfl,fin⟩) hs
theorem ix_tup:IxR X (rIxT X.K):=by
  intro value slice pins s σ H x y v u Q I rx ry h hs
  obtain ⟨p,xs,i,z,rfl,rfl,hq,he,q⟩:=h
  cases rx
  obtain ⟨t,rfl⟩:=ry
  obtain ⟨its,r,pl,hz⟩:=I.tuple hq
  obtain ⟨j,h1,h2,h3,h4,h5⟩:=atI_get he
  obtain ⟨w,ew,rw'⟩:=r.get h2
  have hl:=r.length
  have hn:=line63
  have fin:EP X pins σ Q w s:=⟨z,H,I,rw',q⟩
  exact subscriptTail_builtinR (x:=w) pl.typeIs slot_tuple_getitem.lookup
    (getItem_tuple (j:=j) (Q:=fun r s'=>r=w∧EP X pins σ Q r s') pl (by omega) (by omega) (by rw [List.size_toArray,←hl]; exact h1) (by simpa using ew) ⟨rfl,fin⟩) hs

theorem mapSeq_set (its:List Value) (n j:Nat) (u:Value):Obj.mapSeq (·.setIfInBounds j u) { cls:=.type "list",data:=.seq its.toArray n }={ cls:=.type "list",data:=.seq (its.set j u).toArray n }:=by
  simp [Obj.mapSeq]
theorem Inv.lst {pins:List (Addr×Obj)}{σ:St}{H:Hp}{s:Shared}{p:Addr}{xs:List V} (I:Inv X pins σ H s) (h:H p=some (.lst xs)) :
    ∃ (its:List Value) (n:Nat),Vals xs its∧s.heap.get? p=some { cls:=.type "list",data:=.seq its.toArray n }∧xs.length≤sizeLine:=by
  obtain ⟨z,its,n,r,e⟩:=I.hok p _ h
  exact ⟨its,n,r,e,z⟩
theorem Inv.lstUpd {pins:List (Addr×Obj)}{σ:St}{H:Hp}{s:Shared}{p:Addr}{xs ys:List V}{its its':List Value}{n n':Nat}{f:Obj→Obj} (I:Inv X pins σ H s) (h:H p=some (.lst xs))
    (ho:s.heap.get? p=some { cls:=.type "list",data:=.seq its.toArray n }) (hf:f { cls:=.type "list",data:=.seq its.toArray n }={ cls:=.type "list",data:=.seq its'.toArray n' }) (r:Vals ys its') (hz:ys.length≤sizeLine) (t:Nat) :
    Inv X pins σ (upd H p (.lst ys)) { s with heap:=s.heap.update p f,toks:=t }:=by
  have e:(s.heap.update p f).get? p=some { cls:=.type "list",data:=.seq its'.toArray n' }:=by
    rw [Heap.get?_update_self f ho (by rw [hf]<;>rfl),hf]
  refine I.write (x:=p) (e:=p) (by rw [h]; trivial) (.inl rfl) (fun b u hb q=>(Heap.get?_update_other _ _ (Ne.symm hb)).trans q) ⟨_,e⟩ ?_
  exact ⟨hz,its',n',r,e⟩
noncomputable def rSetL:V→V→V→Hp→(Hp→Prop)→Prop:=fun o i v H Q=>∃ p xs k j,o=.ref p∧i=.int k∧H p=some (.lst xs)∧ixN xs.length k=some j∧Q (upd H p (.lst (xs.set j v)))
theorem set_list:PSet X rSetL:=by
  intro pins s σ H o i v ov iv u Q I ro ri rv h
  obtain ⟨p,xs,k,j,rfl,rfl,hp,hj,q⟩:=h
  cases ro
  obtain ⟨t,rfl⟩:=ri
  obtain ⟨its,n,r,ho,hz⟩:=I.lst hp
  obtain ⟨h1,h2,h3,h4⟩:=ixN_seq hj
  have hl:=r.length
  have hn:=line63
  have I':Inv X pins σ (upd H p (.lst (xs.set j v))) { s with heap:=s.heap.update p (Obj.mapSeq (·.setIfInBounds j u)) }:=
    I.lstUpd hp ho (mapSeq_set its n j u) (r.set rv j) (by rw [List.length_set]; exact hz) s.toks
  by_cases h0:0≤k
  · have hk:k.toNat=j:=by
      rw [seqIndex_of h0 h4] at h1
      exact Option.some.inj h1
    exact PySem.W.ki_setAt ho h0 (by omega) (by rw [List.size_toArray,←hl]; exact h4) (by rw [hk]; exact ⟨_,I',q⟩)
  · have hk:(k+(its.toArray.size:Int)).toNat=j:=by
      rw [seqIndex_neg (by omega) h3] at h1
      rw [List.size_toArray,←hl]
      exact Option.some.inj h1
    exact PySem.W.ki_setBack ho (by omega) (by rw [List.size_toArray,←hl]; exact h3) (by omega) (by rw [hk]; exact ⟨_,I',q⟩)

theorem slice_bounds (lo hi:Option Int) (n:Nat):(sliceBounds lo hi none n).1=((HT.sIx n 0 lo:Nat):Int)∧(sliceBounds lo hi none n).2.1=((HT.sIx n n hi:Nat):Int)∧(sliceBounds lo hi none n).2.2=1:=by
  refine ⟨?_,?_,rfl⟩
  · cases lo with
    | none=>simp [sliceBounds,HT.sIx]
    | some i=>
      simp only [sliceBounds,HT.sIx,Option.getD_none,show (1:Int) > 0 by decide,if_true]
      by_cases h:i < 0
      · simp only [h,if_true]<;>omega
      · simp only [h,if_false]<;>omega
  · cases hi with
    | none=>simp [sliceBounds,HT.sIx]
    | some i=>
      simp only [sliceBounds,HT.sIx,Option.getD_none,show (1:Int) > 0 by decide,if_true]
      by_cases h:i < 0
      · simp only [h,if_true]<;>omega
      · simp only [h,if_false]<;>omega
theorem slicePick_cut (its:List Value) (lo hi:Option Int):slicePick its.toArray lo hi none=((its.drop (HT.sIx its.length 0 lo)).take (HT.sIx its.length its.length hi - HT.sIx its.length 0 lo)).toArray:=by
  obtain ⟨h1,h2,h3⟩:=slice_bounds lo hi its.toArray.size
  unfold slicePick
  rw [h1,h2,h3]
  simp only [sliceRange_one,pick_run,List.size_toArray]<;>rfl
noncomputable def rSlL (K:PySem.W.Frag):V→Option Int→Option Int→Hp→VK→Prop:=fun x lo hi H Q=>∃ a xs,x=.ref a∧SqL K H a xs∧∀ p,H p=none→Q (.ref p) (upd H p (.lst (cutV xs lo hi)))
theorem sl_list:SlR X (rSlL X.K):=by
  intro pins s σ H x v vl vu lo hi sl Q I rx hs pl pu h
  obtain ⟨a,xs,rfl,hx,q⟩:=h
  cases rx
  obtain ⟨its,r,ht,hz⟩:=I.list hx
  have hlen:=r.length
  refine ⟨"list",_,slot_list_getitem.lookup,ht.isList.typeIs,?_⟩
  refine wpAny_getItem_list_slice ht.isList hs pl pu .none (by simp) ?_ (by rw [List.size_toArray]<;>omega)
  rw [slicePick_cut,←hlen]
  refine ⟨.ref s.heap.objs.size,_,I.laid (t':=s.toks) (o:=.lst (cutV xs lo hi)) (fun b ob q=>Heap.get?_push_of_some _ q) (Nat.le_refl _) ?_,rfl,q _ (I.hok.fresh (Nat.le_refl _))⟩
  exact ⟨Nat.le_trans (cutV_length xs lo hi) hz,_,0,(r.drop (HT.sIx xs.length 0 lo)).take (HT.sIx xs.length xs.length hi - HT.sIx xs.length 0 lo),Heap.get?_push_size _ rfl⟩

noncomputable def flatV:V→Bool
  | .non=>true
  | .bl _=>true
  | .int _=>true
  | .str _=>true
  | _=>false
noncomputable def eqV:V→V→Bool
  | .non,.non=>true
  | .bl a,.bl b=>a==b
  | .bl a,.int b=>(if a then 1 else 0)==b
  | .int a,.bl b=>a==(if b then 1 else 0)
  | .int a,.int b=>a==b
  | .str a,.str b=>a==b
  | _,_=>false
theorem eqAt_V {A:Around}{s:Shared}{y x:V}{u v:Value} (ry:RelV y u) (rx:RelV x v) (fy:flatV y=true) (fx:flatV x=true):SeqAt.EqAt A s u v (eqV y x):=by
  cases y with
  | non=>
    cases ry
    cases x with
    | non=>cases rx; exact SeqAt.EqAt.same _
    | bl b=>cases rx; exact SeqAt.EqAt.none_bool b
    | int b=>obtain ⟨t,rfl⟩:=rx; exact SeqAt.EqAt.none_int b t
    | str b=>obtain ⟨t,rfl⟩:=rx; exact SeqAt.EqAt.none_str b t
    | _=>exact absurd (show false=true from fx) Bool.false_ne_true
  | bl a=>
    cases ry
    cases x with
    | non=>cases rx; exact SeqAt.EqAt.bool_none a
    | bl b=>cases rx; exact SeqAt.EqAt.bool_bool a b
    | int b=>obtain ⟨t,rfl⟩:=rx; exact SeqAt.EqAt.bool_int a b t
    | str b=>obtain ⟨t,rfl⟩:=rx; exact SeqAt.EqAt.bool_str a b t
    | _=>exact absurd (show false=true from fx) Bool.false_ne_true
  | int a=>
    obtain ⟨t',rfl⟩:=ry
    cases x with
    | non=>cases rx; exact SeqAt.EqAt.int_none a t'
    | bl b=>cases rx; exact SeqAt.EqAt.int_bool a t' b
    | int b=>obtain ⟨t,rfl⟩:=rx; exact SeqAt.EqAt.int_int a t' b t
    | str b=>obtain ⟨t,rfl⟩:=rx; exact SeqAt.EqAt.int_str a t' b t
    | _=>exact absurd (show false=true from fx) Bool.false_ne_true
  | str a=>
    obtain ⟨t',rfl⟩:=ry
    cases x with
    | non=>cases rx; exact SeqAt.EqAt.str_none a t'
    | bl b=>cases rx; exact SeqAt.EqAt.str_bool a t' b
    | int b=>obtain ⟨t,rfl⟩:=rx; exact SeqAt.EqAt.str_int a t' b t
    | str b=>obtain ⟨t,rfl⟩:=rx; exact SeqAt.EqAt.str_str a t' b t
    | _=>exact absurd (show false=true from fx) Bool.false_ne_true
  | _=>exact absurd (show false=true from fy) Bool.false_ne_true
noncomputable def eqU (x:V) (u:Value):Bool:=match u with
  | .none=>eqV .non x
  | .bool b=>eqV (.bl b) x
  | .int i _=>eqV (.int i) x
  | .str z _=>eqV (.str z) x
  | _=>false
theorem eqU_of {x y:V}{u:Value} (r:RelV y u) (f:flatV y=true):eqU x u=eqV y x:=by
  cases y with
  | non=>cases r; rfl
  | bl b=>cases r; rfl
  | int i=>obtain ⟨t,rfl⟩:=r; rfl
  | str z=>obtain ⟨t,rfl⟩:=r; rfl
  | _=>exact absurd (show false=true from f) Bool.false_ne_true
theorem any_eqU {x:V}:∀ {xs:List V}{us:List Value},Vals xs us→xs.all flatV=true→us.any (eqU x)=xs.any fun y=>eqV y x
  | _,_,.nil,_=>rfl
  | y :: xs,u :: us,.cons r t,f=>by
    rw [List.all_cons,Bool.and_eq_true] at f
    rw [List.any_cons,List.any_cons,eqU_of r f.1,any_eqU t f.2]
theorem mem_eqAt {A:Around}{s:Shared}{x:V}{v:Value} (rx:RelV x v) (fx:flatV x=true):∀ {xs:List V}{us:List Value},Vals xs us→xs.all flatV=true→∀ u∈us,SeqAt.EqAt A s u v (eqU x u)
  | _,_,.nil,_=>fun u hu=>by cases hu
  | y :: xs,u :: us,.cons r t,f=>fun u' hu=>by
    rw [List.all_cons,Bool.and_eq_true] at f
    rcases List.mem_cons.mp hu with rfl | hu
    · rw [eqU_of r f.1]; exact eqAt_V r rx f.1 fx
    · exact mem_eqAt rx fx t f.2 u' hu
noncomputable def inV (x:V) (xs:List V):Bool:=xs.any fun y=>eqV y x
noncomputable def rIn (K:PySem.W.Frag) (neg:Bool):R2:=fun x y H Q=>∃ p xs,y=.ref p∧(SqL K H p xs∨SqT K H p xs)∧flatV x=true∧xs.all flatV=true∧Q (.bl (if neg then !inV x xs else inV x xs)) H
theorem op_in_seq:OpR X (compareOp .In) (rIn X.K false):=by
  intro pins s σ H x y v u Q I rx ry h
  obtain ⟨p,xs,rfl,hq,fx,fs,q⟩:=h
  cases ry
  rcases hq with hq | hq
  · obtain ⟨its,r,pl,hz⟩:=I.list hq
    refine SeqAt.in_listAt (eqU x) pl.isList (fun w hw=>mem_eqAt rx fx r fs w (by simpa using hw)) ⟨.bl _,H,I,rfl,?_⟩
    rw [show its.toArray.any (eqU x)=its.any (eqU x) by simp,any_eqU r fs]
    exact q
  · obtain ⟨its,r,pl,hz⟩:=I.tuple hq
    refine SeqAt.in_tupleAt (eqU x) pl (fun w hw=>mem_eqAt rx fx r fs w (by simpa using hw)) ⟨.bl _,H,I,rfl,?_⟩
    rw [show its.toArray.any (eqU x)=its.any (eqU x) by simp,any_eqU r fs]
    exact q
theorem op_notIn_seq:OpR X (compareOp .NotIn) (rIn X.K true):=by
  intro pins s σ H x y v u Q I rx ry h
  obtain ⟨p,xs,rfl,hq,fx,fs,q⟩:=h
  cases ry
  rcases hq with hq | hq
  · obtain ⟨its,r,pl,hz⟩:=I.list hq
    refine SeqAt.notIn_listAt (eqU x) pl.isList (fun w hw=>mem_eqAt rx fx r fs w (by simpa using hw)) ⟨.bl _,H,I,rfl,?_⟩
    rw [show its.toArray.any (eqU x)=its.any (eqU x) by simp,any_eqU r fs]
    exact q
  · obtain ⟨its,r,pl,hz⟩:=I.tuple hq
    refine SeqAt.notIn_tupleAt (eqU x) pl (fun w hw=>mem_eqAt rx fx r fs w (by simpa using hw)) ⟨.bl _,H,I,rfl,?_⟩
    rw [show its.toArray.any (eqU x)=its.any (eqU x) by simp,any_eqU r fs]
    exact q

theorem call_len_seq:CallR X (.builtin "len") (fun xs H Q=>∃ p ys,xs=[.ref p]∧(SqL X.K H p ys∨SqT X.K H p ys)∧Q (.int ys.length) H):=by
  intro pins s σ H xs us Q I r h
  obtain ⟨p,ys,rfl,hq,q⟩:=h
  obtain ⟨u,rfl,rx⟩:=vals1 r
  cases rx
  have hn:=line63
  rcases hq with hq | hq
  · obtain ⟨its,r',pl,hz⟩:=I.list hq
    have hlen:=r'.length
    exact Calls.call_len_list pl.isList (by simp only [List.size_toArray]<;>omega) ⟨.int ys.length,H,I.tok _,⟨s.toks+1,by rw [List.size_toArray,hlen]⟩,q⟩
  · obtain ⟨its,r',pl,hz⟩:=I.tuple hq
    have hlen:=r'.length
    exact len_tuple pl (by simp only [List.size_toArray]<;>omega) ⟨.int ys.length,H,I.tok _,⟨s.toks+1,by rw [List.size_toArray,hlen]⟩,q⟩
theorem call_list_of:CallR X (.type "list") (fun xs H Q=>∃ p ys,xs=[.ref p]∧(SqL X.K H p ys∨SqT X.K H p ys)∧∀ l,H l=none→Q (.ref l) (upd H l (.lst ys))):=by
  intro pins s σ H xs us Q I r h
  obtain ⟨p,ys,rfl,hq,q⟩:=h
  obtain ⟨u,rfl,rx⟩:=vals1 r
  cases rx
  have fin:∀ (its:List Value),Vals ys its→ys.length≤sizeLine→∀ (h':Heap) (c':Nat),(∀ b o',s.heap.get? b=some o'→h'.get? b=some o')→
      h'.get? s.heap.objs.size=some { cls:=.type "list",dict:=none,data:=.seq its.toArray c',slots:=#[] }→EP X pins σ Q (.ref s.heap.objs.size) { s with heap:=h' }:=fun its r' hz h' c' kp e=>
    ⟨.ref s.heap.objs.size,_,I.laid (t':=s.toks) kp (Nat.le_refl _) (show ObjOk X.prog X.w _ h' _ (.lst ys) from ⟨hz,its,c',r',e⟩),rfl,q _ (I.hok.fresh (Nat.le_refl _))⟩
  rcases hq with hq | hq
  · obtain ⟨its,r',pl,hz⟩:=I.list hq
    have hlen:=r'.length
    obtain ⟨o,ho,hc,n,hd⟩:=pl.isList
    exact call_list_seq p (.inl rfl) ho hc hd (fun h' c' kp e=>fin its r' hz h' c' kp e) (by simp only [List.size_toArray]<;>omega)
  · obtain ⟨its,r',pl,hz⟩:=I.tuple hq
    have hlen:=r'.length
    obtain ⟨o,ho,hc,n,hd⟩:=pl
    exact call_list_seq p (.inr rfl) ho hc hd (fun h' c' kp e=>fin its r' hz h' c' kp e) (by simp only [List.size_toArray]<;>omega)
theorem call_tuple_of:CallR X (.type "tuple") (fun xs H Q=>∃ p ys,xs=[.ref p]∧((SqL X.K H p ys∧∀ l,H l=none→Q (.ref l) (upd H l (.tup ys)))∨(SqT X.K H p ys∧Q (.ref p) H))):=by
  intro pins s σ H xs us Q I r h
  obtain ⟨p,ys,rfl,h⟩:=h
  obtain ⟨u,rfl,rx⟩:=vals1 r
  cases rx
  rcases h with ⟨hq,q⟩ | ⟨hq,q⟩
  · obtain ⟨its,r',pl,hz⟩:=I.list hq
    have hlen:=r'.length
    refine call_tuple_list pl.isList (fun h' kp=>?_) (by simp only [List.size_toArray]<;>omega)
    have I1:Inv X pins σ H { s with heap:=h' }:=I.kept (t':=s.toks) kp
    have I2:Inv X pins σ (upd H h'.objs.size (.tup ys)) { s with heap:=h'.push { cls:=.type "tuple",data:=.seq its.toArray } }:=
      I1.laid (t':=s.toks) (fun b o e=>Heap.get?_push_of_some _ e) (Nat.le_refl _) (show ObjOk X.prog X.w _ _ _ (.tup ys) from ⟨hz,its,r',IsTup.new _ _⟩)
    exact ⟨.ref h'.objs.size,_,I2,rfl,q _ (I1.hok.fresh (Nat.le_refl _))⟩
  · obtain ⟨its,r',pl,hz⟩:=I.tuple hq
    exact call_tuple_same pl ⟨.ref p,H,I,rfl,q⟩

noncomputable def tyV (K:PySem.W.Frag) (T:String) (x:V) (H:Hp):Prop:=match x with
  | .str _=>T = "str"
  | .int _=>T = "int"
  | .ref p=>(T = "list"∧∃ xs,SqL K H p xs)∨(T = "tuple"∧∃ o,K.lookup p=some o∧o.cls=.type "tuple"∧o.dict=none) ∨
      (T = "dict"∧((∃ kvs,H p=some (.dK kvs))∨∃ kvs,H p=some (.dT kvs)))∨(T = "set"∧∃ S n,H p=some (.set S n))
  | _=>False
theorem tyV_is {pins:List (Addr×Obj)}{σ:St}{H:Hp}{s:Shared}{T:String}{x:V}{v:Value} (I:Inv X pins σ H s) (r:RelV x v) (ty:tyV X.K T x H) :
    s.TypeIs v T∧∀ a,v=.ref a→∃ ob,s.heap.get? a=some ob∧ob.dict=none:=by
  cases x with
  | str z=>
    obtain ⟨t,rfl⟩:=r
    cases (show T = "str" from ty)
    exact ⟨typeIs_str s z t,fun _ e=>nomatch e⟩
  | int i=>
    obtain ⟨t,rfl⟩:=r
    cases (show T = "int" from ty)
    exact ⟨typeIs_int s i t,fun _ e=>nomatch e⟩
  | ref p=>
    cases r
    rcases ty with ⟨rfl,xs,hq⟩ | ⟨rfl,o,hk,hc,hd⟩ | ⟨rfl,hk⟩ | ⟨rfl,S,n,hk⟩
    · obtain ⟨its,_,pl,_⟩:=I.list hq
      refine ⟨pl.isList.typeIs,fun a e=>?_⟩
      cases e
      obtain ⟨o,n,e,c,hd,_⟩:=pl
      exact ⟨o,e,hd⟩
    · refine ⟨⟨o,I.kIn p o hk,hc⟩,fun a e=>?_⟩
      cases e
      exact ⟨o,I.kIn _ o hk,hd⟩
    · have z:∃ o,s.heap.get? p=some o∧o.ExactDict:=by
        rcases hk with ⟨kvs,hk⟩ | ⟨kvs,hk⟩
        · obtain ⟨_,_,_,_,o,_,_,e,ex,_⟩:=I.hok p _ hk
          exact ⟨o,e,ex⟩
        · obtain ⟨_,_,_,_,o,_,_,e,ex,_⟩:=I.hok p _ hk
          exact ⟨o,e,ex⟩
      obtain ⟨o,e,ex⟩:=z
      refine ⟨⟨o,e,ex.1⟩,fun a e2=>?_⟩
      cases e2
      exact ⟨o,e,ex.2.1⟩
    · obtain ⟨o,_,_,_,e,ex,_⟩:=I.hok p _ hk
      refine ⟨⟨o,e,ex.1⟩,fun a e2=>?_⟩
      cases e2
      exact ⟨o,e,ex.2.1⟩
  | _=>exact False.elim ty
noncomputable def tBM (K:PySem.W.Frag) (T:String) (r:V→List V→Hp→VK→Prop) (to:TE) (t:TA):TE:=fun σ H Q=>to σ H fun x H1=>tyV K T x H1∧t σ H1 fun xs H2=>r x xs H2 Q
variable {o e:Expr}{es:List Expr}{to:TE}{t:TA}{name:Str}{apos cpos:Pos}{T id:String}{r:V→List V→Hp→VK→Prop}
theorem pe_bm (pa:PlainAttrs T) (slot:Slot T name id) (hty:typeOf (.builtin id)=pure (.type "method_descriptor")) (hm:MtR X id r) (ho:PE X o to) (ha:PA X (e :: es) t)
    (hbase:attributeBase o name X.env (eval o X.env)=eval o X.env:=by rfl)
    (hfew:((backTo cpos (starEach (e :: es) X.env)).all (fun x=>!x.1)&&(backToKw cpos (keywordEach [] X.env)).all (fun x=>x.1.isSome)
     &&decide ((e :: es).length+([]:List Keyword).length+(if ([]:List Keyword).isEmpty then 0 else 1) < 30))=true:=by rfl)
    (hline:(apos.endLine==cpos.line)=true:=by rfl) (hs:starEach (e :: es) X.env=(false,eval e X.env) :: starEach es X.env:=by rfl) (hplain:(backTo cpos (starEach es X.env)).any (·.1)=false:=by rfl) :
    PE X (.Call (.Attribute o name apos) (e :: es) [] cpos) (tBM X.K T r to t):=by
  intro pins s σ H Q I h
  refine wpAny_Call_method_late hbase hfew hline rfl (thn (ho pins s σ H _ I h) fun v s1 ⟨x,H1,I1,r1,ty,q1⟩=>?_)
  obtain ⟨h1,h2⟩:=tyV_is I1 r1 ty
  refine ⟨T,id,pa,slot,hty,h1,h2,?_⟩
  have hA:=ha cpos pins s1 σ H1 _ I1 q1
  rw [hs] at hA ⊢
  refine Calls.callWith_builtin (by show (false||(backTo cpos (starEach es X.env)).any (·.1))=false; rw [hplain]<;>rfl) (Calls.evalArgs_plain ?_)
  exact thn hA fun us s2 ⟨vs,H2,I2,r2,q2⟩=>hm pins s2 σ H2 x vs v us Q I2 r1 r2 q2
end
end L2

namespace L2
open PySem PySem.Spec PyProof.Rows

noncomputable def MtM (X:Cx) (id:String) (r:V→List V→Hp→VK→Prop):Prop:=
  ∀ (pins:List (Addr×Obj)) (s:Shared) (σ:St) (H:Hp) (x:V) (xs:List V) (v:Value) (us:List Value) (Q:VK),Inv X pins σ H s→RelV x v→Vals xs us→r x xs H Q→
    wpAny (model X.prog X.w) X.A (call (.builtin id) (v :: us)) (EP X pins σ Q) X.xe s

theorem Vals.one:∀ {x:V}{us:List Value},Vals [x] us→∃ u,us=[u]∧RelV x u
  | _,_,.cons r .nil=>⟨_,rfl,r⟩
theorem Vals.two:∀ {x y:V}{us:List Value},Vals [x,y] us→∃ u v,us=[u,v]∧RelV x u∧RelV y v
  | _,_,_,.cons r (.cons q .nil)=>⟨_,_,rfl,r,q⟩
theorem Vals.rep {xs:List V}{us:List Value} (h:Vals xs us):∀ k:Nat,Vals (List.replicate k xs).flatten (List.replicate k us).flatten
  | 0=>.nil
  | k+1=>by
    rw [List.replicate_succ,List.replicate_succ,List.flatten_cons,List.flatten_cons]
    exact Vals.append h (Vals.rep h k)
theorem foldl_rep (its:List Value):∀ (k:Nat) (acc:List Value),
    List.foldl (fun x1 x2=>x1++x2) acc.toArray (List.replicate k its.toArray)=(acc++(List.replicate k its).flatten).toArray
  | 0,acc=>by simp
  | k+1,acc=>by
    have e:acc.toArray++its.toArray=(acc++its).toArray:=by simp
    have e2:(acc++its)++(List.replicate k its).flatten=acc++(List.replicate (k+1) its).flatten:=by
      rw [List.replicate_succ,List.flatten_cons,List.append_assoc]
    rw [←e2,←foldl_rep its k (acc++its),←e,List.replicate_succ,List.foldl_cons]

section
variable {X:Cx}{pins:List (Addr×Obj)}{σ:St}{H:Hp}{s:Shared}{l b:Addr}{xs ys zs:List V}

theorem Inv.lset {its its':List Value}{n:Nat}{f:Array Value→Array Value}{t':Nat} (I:Inv X pins σ H s) (hH:H l=some (.lst xs))
    (e:s.heap.get? l=some { cls:=.type "list",data:=.seq its.toArray n }) (hf:f its.toArray=its'.toArray) (hv:Vals ys its') (hz:ys.length≤sizeLine) :
    Inv X pins σ (upd H l (.lst ys)) { s with heap:=s.heap.update l (Obj.mapSeq f),toks:=t' }:=by
  have q:=PySem.IsL.update e f
  rw [hf] at q
  refine I.write (x:=l) (e:=l) (by rw [hH]; exact trivial) (.inl rfl) (fun b' u hb hu=>(Heap.get?_update_other s.heap (Obj.mapSeq f) (Ne.symm hb)).trans hu) ⟨_,q⟩ ?_
  exact ⟨hz,its',_,hv,q⟩
theorem Inv.lnew {its:List Value}{t':Nat} (I:Inv X pins σ H s) (hv:Vals ys its) (hz:ys.length≤sizeLine) :
    Inv X pins σ (upd H s.heap.objs.size (.lst ys)) { s with heap:=s.heap.push { cls:=.type "list",data:=.seq its.toArray },toks:=t' }:=
  I.laid (fun _ _ q=>Heap.get?_push_of_some _ q) (Nat.le_refl _) ⟨hz,its,0,hv,Heap.get?_push_size _ rfl⟩
theorem Inv.fresh (I:Inv X pins σ H s):H s.heap.objs.size=none:=I.hok.fresh (Nat.le_refl _)
theorem Inv.lstM (I:Inv X pins σ H s) (hH:H l=some (.lst xs)):xs.length≤sizeLine∧∃ (its:List Value) (n:Nat),Vals xs its∧xs.length=its.length∧s.heap.get? l=some { cls:=.type "list",data:=.seq its.toArray n }:=by
  obtain ⟨z,its,n,r,e⟩:=I.hok l _ hH
  exact ⟨z,its,n,r,r.length,e⟩

theorem notLongL {n:Nat} (h:n≤sizeLine):Builtin.List.listTooLong n=false:=by
  unfold Builtin.List.listTooLong
  exact decide_eq_false (by omega)
end

section
variable {X:Cx}

noncomputable def rAppend:V→List V→Hp→VK→Prop:=fun x vs H Q=>∃ l xs y,x=.ref l∧vs=[y]∧H l=some (.lst xs)∧xs.length < sizeLine∧Q .non (upd H l (.lst (xs++[y])))
theorem mt_append:MtM X "list.append" rAppend:=by
  intro pins s σ H x vs v us Q I rx rv h
  obtain ⟨l,xs,y,rfl,rfl,hH,hz,q⟩:=h
  cases rx
  obtain ⟨u,rfl,ru⟩:=rv.one
  obtain ⟨z,its,n,r,hl,e⟩:=I.lstM hH
  refine call_meets F.slot_list_append ⟨_,e,rfl⟩ F.entry_list_append (F.args_list_append_2 _ _) (PySem.list_append l its.toArray n u (by rw [List.size_toArray]; omega)) ⟨e,?_⟩
  refine ⟨.non,_,I.lset (its':=its++[u]) hH e (by simp) (r.append (.cons ru .nil)) ?_,rfl,q⟩
  rw [List.length_append,List.length_singleton]
  omega

noncomputable def rExtend:V→List V→Hp→VK→Prop:=fun x vs H Q=>∃ l b xs zs,x=.ref l∧vs=[.ref b]∧H l=some (.lst xs)∧H b=some (.lst zs)∧xs.length+zs.length≤sizeLine∧Q .non (upd H l (.lst (xs++zs)))
theorem mt_extend:MtM X "list.extend" rExtend:=by
  intro pins s σ H x vs v us Q I rx rv h
  obtain ⟨l,b,xs,zs,rfl,rfl,hH,hB,hz,q⟩:=h
  cases rx
  obtain ⟨u,rfl,ru⟩:=rv.one
  cases ru
  obtain ⟨z,its,n,r,hl,e⟩:=I.lstM hH
  obtain ⟨z2,its2,n2,r2,hl2,e2⟩:=I.lstM hB
  have hsz:its.toArray.size+its2.toArray.size≤sizeLine:=by rw [List.size_toArray,List.size_toArray]; omega
  have hlong:¬(!its.toArray.isEmpty&&Builtin.List.listTooLong (its.toArray.size+its2.toArray.size))=true:=by
    rw [notLongL hsz,Bool.and_false]
    exact Bool.false_ne_true
  refine call_meets F.slot_list_extend ⟨_,e,rfl⟩ F.entry_list_extend (F.args_list_extend_2 _ _)
    (AutoSeq1.list_extend_list_list_0 l its.toArray n b its2.toArray n2 hlong (by rw [List.size_toArray]; omega) (by omega)) ⟨e,e2,?_⟩
  refine ⟨.non,_,I.lset (its':=its++its2) hH e (by simp) (r.append r2) ?_,rfl,q⟩
  rw [List.length_append]
  omega





noncomputable def rRep:R2:=fun x y H Q=>∃ l k xs,x=.ref l∧y=.int k∧H l=some (.lst xs)∧-(2 ^ 63)≤k∧k < 2 ^ 63∧xs.length * k.toNat≤sizeLine ∧
  ∀ p,H p=none→Q (.ref p) (upd H p (.lst (List.replicate k.toNat xs).flatten))
theorem len_rep {α:Type} (xs:List α) (k:Nat):(List.replicate k xs).flatten.length=k * xs.length:=by
  induction k with
  | zero=>simp
  | succ k ih=>rw [List.replicate_succ,List.flatten_cons,List.length_append,ih,Nat.succ_mul,Nat.add_comm]
theorem op_rep:OpR X (binaryOp .Mult) rRep:=by
  intro pins s σ H x y v u Q I rx ry h
  obtain ⟨l,k,xs,rfl,rfl,hH,h1,h2,hz,q⟩:=h
  cases rx
  obtain ⟨t,rfl⟩:=ry
  obtain ⟨z,its,n,r,hl,e⟩:=I.lstM hH
  have hlen:its.toArray.size * k.toNat≤sizeLine:=by rw [List.size_toArray,←hl]; exact hz
  have hcap:¬its.toArray.size * k.toNat > (2 ^ 63 - 1) / 8:=by
    have:(sizeLine:Nat)≤(2 ^ 63 - 1) / 8:=by decide
    omega
  have hfit:¬(!Builtin.List.listFitsIndex k)=true:=by
    rw [fitsIndex_both h1 h2]
    exact Bool.false_ne_true
  have hlong:¬Builtin.List.listTooLong (its.toArray.size * k.toNat)=true:=by
    rw [notLongL hlen]
    exact Bool.false_ne_true
  have hnew:List.foldl (fun x1 x2=>x1++x2) #[] (List.replicate (if its.toArray.isEmpty=true then 0 else k.toNat) its.toArray)=(List.replicate k.toNat its).flatten.toArray:=by
    have f0:∀ m:Nat,List.foldl (fun x1 x2=>x1++x2) #[] (List.replicate m its.toArray)=(List.replicate m its).flatten.toArray:=fun m=>by
      have:=foldl_rep its m []
      rw [List.nil_append] at this
      exact this
    rw [f0]
    cases its with
    | nil=>simp
    | cons a r'=>rw [if_neg (by simp)]
  refine wpAny_binaryOp_repeat_ref (T := "list") (U := "int") (by decide) ⟨_,e,rfl⟩ (fun s'=>typeIs_int s' k t) noFill_list_mul F.fills_int_mul F.slot_int_rmul repeat_list F.slot_int_index.lookup
    (call_meets F.slot_int_rmul (typeIs_int s k t) F.entry_int_rmul (F.args_int_rmul_2 _ _) (int___rmul___int_list k t l its.toArray n)
      ⟨e,rfl,⟨_,e,rfl⟩,call_meets F.slot_list_mul ⟨_,e,rfl⟩ F.entry_list_mul (F.args_list_mul_2 _ _) (AutoListH.list___mul___list_int_3 l its.toArray n k t hfit hcap hlong) ⟨e,?_⟩⟩)
  rw [hnew]
  exact ⟨.ref _,_,I.lnew (t':=s.toks) (r.rep k.toNat) (by rw [len_rep,Nat.mul_comm]; exact hz),rfl,q _ I.fresh⟩

end

section
variable {prog:Program}{w:World}{A:Around}{E:Value→Shared→Prop}{s:Shared}
end

section
variable {X:Cx}
end
end L2

namespace Att
open PySem PySem.W PySem.Calls PyProof.Rows

theorem ints_of_wellAll {P:Params}{h:Heap}:∀ (ns:List Int) (vs:List Value),WellAll P h vs (ns.map WData.int)→IntsAre vs ns:=by
  intro ns
  induction ns with
  | nil=>
    intro vs w
    rw [List.map_nil] at w
    cases w
    exact .nil
  | cons n ns ih=>
    intro vs w
    rw [List.map_cons] at w
    cases w with
    | cons a b=>
      cases a
      exact .cons _ _ (ih _ b)

theorem script_of {l:OpenLaw}{n:Nat} (hn:l.most=some n) {P:Params}{h:Heap}{args:List WData}{vals:List Value}
    (hpre:l.row.toRowW.claim.pre args=true) (hwl:WellAll P h vals args) :
    ∃ a vs ns,vals=[Value.ref a]∧args=[WData.list (ns.map WData.int)]∧h.get? a=some { cls:=.type "list",data:=.seq vs.toArray }∧IntsAre vs ns∧ns.length≤n:=by
  have hsh:WShape.hasAll [] args [.list .int]=true:=(pre_splitW hpre).1
  have hc:l.pre.holds [] { args:=args }=true:=(pre_splitW hpre).2
  obtain ⟨d,r,rfl,h1,h2⟩:=hasAllW_cons hsh
  obtain rfl:=hasAllW_nil h2
  obtain ⟨xs,rfl,h3⟩:=hasW_list h1
  obtain ⟨ns,rfl⟩:=items_int h3
  have hlen:ns.length≤n:=by
    unfold OpenLaw.pre at hc
    have h4:(WTm.not (.lt (.lit (.int (n:Int))) (.len (.arg 0)))).holds [] { args:=[.list (ns.map .int)] }=true:=by
      have h4:=(holds_andW hc).1
      rw [hn] at h4
      exact h4
    have h5:=condW_of h4 (w_not (w_lt w_lit (w_len_list (w_arg rfl))))
    rw [List.length_map] at h5
    refine Nat.le_of_not_lt fun q=>?_
    have q':(n:Int) < ((ns.length:Nat):Int):=by omega
    first
      | (rw [decide_eq_true q'] at h5; exact absurd h5 (by decide))
      | (simp at h5; omega)
  cases hwl with
  | cons w1 w2=>
    cases w2
    cases w1 with
    | list ho hall=>exact ⟨_,_,ns,rfl,rfl,ho,ints_of_wellAll ns _ hall,hlen⟩

theorem post_true (l:OpenLaw) (args:List WData):l.row.toRowW.claim.post args (.bool true) args=true:=
  postW_of (r:=l.row.toRowW) (X:=(true==true))
    (show WShape.has [] (.bool true) .bool=true by first | rfl | decide | simp [WShape.has,WShape.arms,WShape.armsAll])
    (show (WTm.eq .res (.lit (.bool true))).value [] { args:=args,res:=some (.bool true),after:=args }=some (.bool (true==true)) from w_eq_bool (w_res rfl) w_lit) rfl


theorem attach_call {l:OpenLaw}{n:Nat}{q:Program}{loose:List Str}{XP:(Str→Option Value)→Heap→Prop}{YP:World→Heap→Prop}{d:DefRec}
    (hn:l.most=some n) (hdf:d.params.defaults=[])
    (call:∀ (w:World) (s₀ s₁:Shared) (mg mb:Str→Option Value) (fa:Addr) (o:Obj) (pm cd doc:Value) (a:Addr) (vs:List Value) (ns:List Int),
      Ground q loose [] XP w s₀ mg mb s₁.heap→YP w s₁.heap→
      s₁.heap.get? fa=some o→o.data=.func (docDef d.name d.params d.body d.scope pm cd doc)→s₁.heap.CodeRec cd d.name→mg d.name=some (.ref fa)→
      s₁.heap.get? a=some { cls:=.type "list",data:=.seq vs.toArray }→IntsAre vs ns→ns.length≤n→s₁.gens=#[]→
      codeAny (model l.prog w) callerA (.call (.ref fa) ⟨[.ref a],[]⟩) (fun r s'=>r=.ok (.ret (.bool true))∧OldK s₁.heap s'.heap∧s'.os=s₁.os∧AllBare s'.gens) s₁) :
    WalkO q loose XP YP l.row.toRowW d [] (fun f vs=>PySem.call f vs):=by
  intro w s₀ s₁ mg mb G Y fa o pm cd doc dV kV ho hd hcd hD hmg hg args vals as hpre hlay hrd hwl hlo
  obtain rfl:dV=.none:=Dflts.none hD hdf
  obtain rfl:kV=.none:=Dflts.noKw hD
  obtain ⟨a,vs,ns,rfl,rfl,hobj,hints,hlen⟩:=script_of hn hpre hwl
  refine enter_call (codeAny_mono (call w s₀ s₁ mg mb fa o pm cd doc a vs ns G Y ho (fd_plain hd) hcd hmg hobj hints hlen hg) fun r s' hq=>?_)
  obtain ⟨rfl,h2,h3,h4⟩:=hq
  exact ⟨.inl ⟨.bool true,.bool true,[],rfl,fun _=>rfl,.bool true,post_true l _,fun _=>⟨List.Pairwise.nil,fun _ hm=>(nomatch hm)⟩⟩,h2,h3,h4⟩


section
variable {prog:Program}{w:World}{A:Around}{E:Value→Shared→Prop}{s:Shared}{K:Frag}






end
end Att

namespace L2
open PySem PySem.Spec PyProof.Rows

theorem vals_ints:∀ {vs:List Value}{ns:List Int},IntsAre vs ns→Vals (ns.map V.int) vs
  | _,_,.nil=>.nil
  | _,_,.cons n t h=>.cons ⟨t,rfl⟩ (vals_ints h)

noncomputable def Only (H:Hp):Prop:=∀ b,H b=none∨∃ o xs,H b=some (.frz o (.lst xs))

theorem law_call {P:Program}{w:World}{K:PySem.W.Frag}{mg mb:Str→Option Value}{CX:CXT}{k:Nat}{fa a:Addr}{fd:FuncData}{x:Str}{sp:Sp}{s₁:Shared}{vs:List Value}{ns:List Int}
    (KX:K.In s₁.heap) (hns:s₁.heap.Ns mainGlobals mg) (hb:s₁.heap.Ns builtinsNs mb) (hbb:∀ x:Str,x ≠ "__name__"→mb x=bootBuiltins x) (hlim:s₁.heap.NoLimit) (hg:s₁.gens=#[])
    (ha:s₁.heap.get? a=some { cls:=.type "list",data:=.seq vs.toArray }) (hi:IntsAre vs ns) (hl:ns.length≤sizeLine) (hr:Room k callerA)
    (F:∀ base:Heap,K.In base→base.Ns mainGlobals mg→FnOk P w K mg base CX k fa fd [x] sp) (hbind:∀ (s:Shared) (u:Value),BindsTo s fd ⟨[u],[]⟩ [(x,u)])
    (hsp:∀ H:Hp,Only H→SqL K H a (ns.map V.int)→sp [.ref a] H (fun v _=>v=.bl true) fun _ _ _=>False)
    (hCX:∀ H e s',CX [] H s₁ (fun _ _ _=>False) e s'→False) :
    codeAny (model P w) callerA (.call (.ref fa) ⟨[.ref a],[]⟩) (fun r s'=>r=.ok (.ret (.bool true))∧OldK s₁.heap s'.heap∧s'.os=s₁.os∧AllBare s'.gens) s₁:=by
  have rv:=vals_ints hi
  have lenV:=hi.length
  -- from an abstract heap in which nothing but the script may be tracked
  have core:∀ H:Hp,Only H→SqL K H a (ns.map V.int)→HOk P w H s₁.heap→(∀ b,H b≠none→b=a)→(H a≠none→K.lookup a=none)→
      codeAny (model P w) callerA (.call (.ref fa) ⟨[.ref a],[]⟩) (fun r s'=>r=.ok (.ret (.bool true))∧OldK s₁.heap s'.heap∧s'.os=s₁.os∧AllBare s'.gens) s₁:=by
    intro H hO hS hok hA hK
    have base_of:∀ {b:Addr}{o:Obj},s₁.heap.get? b=some o→H b=none→(hidT s₁.heap H).get? b=some o:=fun e n=>hidT_get e n
    have noA:∀ {b:Addr}{o:Obj}{es:Array DictEntry}{ep:Nat},s₁.heap.get? b=some o→o.data=.dict es ep→H b=none:=fun {b o es ep} e d=>by
      cases q:H b with
      | none=>rfl
      | some u=>
        have e':b=a:=hA b (by rw [q]; simp)
        subst e'
        rw [ha] at e; cases e
        have d':Data.seq vs.toArray _=Data.dict es ep:=d
        cases d'
    have nsK:∀ {b:Addr}{m:Str→Option Value},s₁.heap.Ns b m→(hidT s₁.heap H).Ns b m:=fun {b m} ⟨o,es,ep,e,d,r⟩=>⟨o,es,ep,base_of e (noA e d),d,r⟩
    have hKb:K.In (hidT s₁.heap H):=fun b o e=>base_of (KX b o e) (by
      cases q:H b with
      | none=>rfl
      | some u=>
        have e':b=a:=hA b (by rw [q]; simp)
        subst e'
        rw [hK (by rw [q]; simp)] at e; cases e)
    have hM:Mod K mg (hidT s₁.heap H):=⟨hKb,nsK hns,⟨mb,nsK hb,hbb⟩,let ⟨mc,h1,h2⟩:=hlim; ⟨mc,nsK h1,h2⟩⟩
    have e0:Env0 P w K mg (hidT s₁.heap H) callerA [] s₁ H:=⟨rfl,hM,fun b o e=>of_hidT e,Nat.le_of_eq (hidT_size _ _),trivial,fun b hb=>absurd (show b∈([]:List Addr) from hb) (by simp),hok,.of_eq hg⟩
    refine codeAny_mono ((F _ hKb (nsK hns)).run callerA [] s₁ H ⟨[.ref a],[]⟩ [.ref a] [.ref a] _ _ hr e0 (hbind s₁ (.ref a)) (.cons rfl .nil) (hsp H hO hS)) fun r s' h=>?_
    cases r with
    | error e=>exact (hCX H e s' h).elim
    | ok fl=>
      cases fl with
      | next=>exact False.elim h
      | brk=>exact False.elim h
      | cont=>exact False.elim h
      | ret u=>
        obtain ⟨v,H',os,bare,un,hok',r',q⟩:=h
        have q':v=.bl true:=q
        subst q'
        obtain rfl:u=Value.bool true:=r'
        refine ⟨rfl,OldK.of_keep fun b o e=>?_,os,bare⟩
        cases q:H b with
        | none=>exact un.keep b o e q (by intro z; exact absurd (show b∈([]:List Addr) from z) (by simp)) (by simp)
        | some u=>
          rcases hO b with z | ⟨ob,xs,z⟩
          · rw [q] at z; cases z
          · have z2:=un.frzs b ob _ z
            obtain ⟨e1,_⟩:=hok b _ z
            obtain ⟨e2,_⟩:=hok' b _ z2
            rw [e] at e1; cases e1
            exact e2
  cases hk:K.lookup a with
  | some o=>
    -- the script is one of the module's own objects
    have e:=KX a o hk
    rw [ha] at e
    cases e
    refine core (fun _=>none) (fun _=>.inl rfl) (.inr ⟨_,vs.toArray,_,hk,rfl,rfl,rfl,by rw [List.size_toArray,lenV]; exact hl,by simpa using rv⟩) (fun b u z=>by have z':(none:Option HO)=some u:=z; cases z') (fun b z=>absurd rfl z) fun z=>absurd rfl z
  | none=>
    refine core (fun b=>if b=a then some (.frz { cls:=.type "list",data:=.seq vs.toArray } (.lst (ns.map V.int))) else none) (fun b=>?_) (.inl (.inr ⟨{ cls:=.type "list",data:=.seq vs.toArray },if_pos rfl⟩)) (fun b u z=>?_) (fun b z=>?_) fun _=>hk
    · by_cases hb:b=a
      · exact .inr ⟨_,_,if_pos hb⟩
      · exact .inl (if_neg hb)
    · by_cases hb:b=a
      · have z':=(if_pos hb).symm.trans z
        cases z'
        subst hb
        exact ⟨ha,by rw [List.length_map]; exact hl,vs,_,rv,ha⟩
      · have z':=(if_neg hb).symm.trans z
        cases z'
    · by_cases hb:b=a
      · exact hb
      · exact absurd (if_neg hb) z
end L2

namespace L2
open PySem PySem.Spec PyProof.Rows


theorem walk_of {l:PySem.W.OpenLaw}{n k:Nat}{q:Program}{loose:List Str}{XP:(Str→Option Value)→Heap→Prop}{YP:World→Heap→Prop}{d:DefRec}{K:Params→PySem.W.Frag}{CX:World→CXT}{sp:World→Sp}{x:Str}
    (hn:l.most=some n) (hn2:n≤sizeLine) (hdf:d.params.defaults=[]) (hr:Room k callerA)
    (hY:∀ (w:World) (h:Heap),YP w h→(K w.params).In h)
    (F:∀ (w:World) (mg:Str→Option Value) (fa:Addr) (h:Heap),(K w.params).In h→h.Ns mainGlobals mg→mg d.name=some (.ref fa)→
      ∃ fd:FuncData,(∀ (s:Shared) (u:Value),BindsTo s fd ⟨[u],[]⟩ [(x,u)]) ∧
        ∀ base:Heap,(K w.params).In base→base.Ns mainGlobals mg→FnOk l.prog w (K w.params) mg base (CX w) k fa fd [x] (sp w))
    (hsp:∀ (w:World) (H:Hp) (a:Addr) (ns:List Int),ns.length≤n→Only H→SqL (K w.params) H a (ns.map V.int)→sp w [.ref a] H (fun v _=>v=.bl true) fun _ _ _=>False)
    (hCX:∀ (w:World) (H:Hp) (s:Shared) (e:Value) (s':Shared),CX w [] H s (fun _ _ _=>False) e s'→False) :
    PySem.W.WalkO q loose XP YP l.row.toRowW d [] (fun f vs=>PySem.call f vs):=by
  refine Att.attach_call hn hdf fun w s₀ s₁ mg mb fa o pm cd doc a vs ns G Y ho hd hcd hmg hobj hints hlen hg=>?_
  have KX:=hY w _ Y
  obtain ⟨fd,hb,hF⟩:=F w mg fa _ KX G.T.g hmg
  exact law_call KX G.T.g G.T.b G.T.builtins G.T.nolimit hg hobj hints (Nat.le_trans hlen hn2) hr hF hb (fun H hO hS=>hsp w H a ns hlen hO hS) fun H e s'=>hCX w H s₁ e s'
end L2


namespace L2
open PySem PySem.Spec PyProof.Rows

noncomputable def defArgs (s:Stmt):Arguments:=match s with
  | .FunctionDef _ a _ _ _ _ _ _ _ _=>a
  | _=>{ posonlyargs:=[],args:=[],vararg:=none,kwonlyargs:=[],kw_defaults:=[],kwarg:=none,defaults:=[] }
noncomputable def defBody (s:Stmt):List Stmt:=match s with
  | .FunctionDef _ _ b _ _ _ _ _ _ _=>b
  | _=>[]
noncomputable def defScope (s:Stmt):Scope:=match s with
  | .FunctionDef _ _ _ _ _ _ sc _ _ _=>sc
  | _=>{ kind:=.function,names:=[],isGenerator:=false,isCoroutine:=false }

noncomputable abbrev CX0:CXT:=fun _ _ _ _ _ _=>False
noncomputable abbrev E0:XK:=fun _ _ _=>False
theorem pass0 {X:Cx}:Passes CX0 X E0:=fun _ _ _ _ _ _ _ h=>h.elim

structure Fun (K:PySem.W.Frag) (x qual:Str) (st:Stmt) (f:Addr) (fd:FuncData):Prop where
  ex:∃ (oc:Value) (od:Option Addr) (kV doc pm:Value) (an:Option Addr) (cdv ct:Value) (osl:Array (Option Value)),
    fd=PySem.W.fnOf x qual (defArgs st) (defBody st) (defScope st) .none kV doc pm an cdv ct∧K.lookup f=some ⟨oc,od,.func fd,osl⟩∧PySem.W.codeIn K cdv qual=true
  kp:PySem.W.keepIn K (.ref f)=true
section
variable {P:Program}{w:World}{K:PySem.W.Frag}{mg:Str→Option Value}{base:Heap}
end

section
variable {X:Cx}
end



end L2



namespace L2
open PySem PySem.Spec PyProof.Rows
section
variable {κ:Type} [DecidableEq κ]
noncomputable def valV (kvs:List (κ×V)) (k:κ):Option V:=(kvs.find? fun kv=>decide (kv.1=k)).map (·.2)
noncomputable def putK (kvs:List (κ×V)) (k:κ) (v:V):List (κ×V):=
 if (kvs.any fun kv=>decide (kv.1=k))=true then kvs.map (fun kv=>if kv.1=k then (kv.1,v) else kv) else kvs++[(k,v)]
theorem valV_pos {p:κ×V}{r:List (κ×V)}{k:κ} (e:p.1=k):valV (p :: r) k=some p.2:=by simp [valV,List.find?_cons,e]
theorem valV_neg {p:κ×V}{r:List (κ×V)}{k:κ} (e:¬p.1=k):valV (p :: r) k=valV r k:=by simp [valV,List.find?_cons,e]
theorem length_putK (kvs:List (κ×V)) (k:κ) (v:V):(putK kvs k v).length≤kvs.length+1:=by
 unfold putK
 split
 ·rw [List.length_map]; omega
 ·rw [List.length_append,List.length_cons,List.length_nil]; omega
theorem RelO.isSome_eq {o:Option V}{u:Option Value} (r:RelO o u):o.isSome=u.isSome:=by
 cases o with
 | none=>cases u with
  | none=>rfl
  | some _=>exact (show False from r).elim
 | some _=>cases u with
  | none=>exact (show False from r).elim
  | some _=>rfl
theorem KV.val {kvs:List (κ×V)}{vs:List (κ×Value)} (r:KV kvs vs) (k:κ):RelO (valV kvs k) (valueAt vs k):=by
 unfold KV at r
 induction r with
 | nil=>exact True.intro
 | @cons p q ps qs h t ih=>
  obtain ⟨h1,h2⟩:=h
  by_cases e:p.1=k
  ·have e':q.1=k:=h1.symm.trans e
   have b:valueAt (q :: qs) k=some q.2:=by simp [valueAt,List.find?_cons,e']
   rw [valV_pos e,b]; exact h2
  ·have e':¬q.1=k:=fun z=>e (h1.trans z)
   have b:valueAt (q :: qs) k=valueAt qs k:=by simp [valueAt,List.find?_cons,e']
   rw [valV_neg e,b]; exact ih
theorem KV.any {kvs:List (κ×V)}{vs:List (κ×Value)} (r:KV kvs vs) (k:κ):(kvs.any fun kv=>decide (kv.1=k))=vs.any fun kv=>decide (kv.1=k):=by
 unfold KV at r
 induction r with
 | nil=>rfl
 | cons h t ih=>rw [List.any_cons,List.any_cons,ih,h.1]
theorem KV.repl {kvs:List (κ×V)}{vs:List (κ×Value)} (r:KV kvs vs) (k:κ) {y:V}{u:Value} (ry:RelV y u) :
  KV (kvs.map fun kv=>if kv.1=k then (kv.1,y) else kv) (vs.map fun kv=>if kv.1=k then (kv.1,u) else kv):=by
 unfold KV at r ⊢
 induction r with
 | nil=>exact .nil
 | @cons p q ps qs h t ih=>
  rw [List.map_cons,List.map_cons]
  refine .cons ?_ ih
  obtain ⟨h1,h2⟩:=h
  by_cases e:p.1=k
  ·rw [if_pos e,if_pos (h1.symm.trans e)]; exact ⟨h1,ry⟩
  ·rw [if_neg e,if_neg (fun z=>e (h1.trans z))]; exact ⟨h1,h2⟩
theorem KV.put {kvs:List (κ×V)}{vs:List (κ×Value)} (r:KV kvs vs) (k:κ) {y:V}{u:Value} (ry:RelV y u):KV (putK kvs k y) (stored vs k u):=by
 unfold putK stored
 rw [r.any k]
 by_cases e:(vs.any fun kv=>decide (kv.1=k))=true
 ·rw [if_pos e,if_pos e]; exact r.repl k ry
 ·rw [if_neg e,if_neg e]; exact Paired.snoc r ⟨rfl,ry⟩
end
theorem kV_is {P:Program}{w:World}{k:Key}{u:Value} (r:RelV (kV k) u):(mixKind P w).is k u=true:=by
 cases k with
 | inl i=>obtain ⟨t,e⟩:=(show ∃ t,u=Value.int i t from r); subst e; exact mixKind_int P w i t
 | inr x=>obtain ⟨t,e⟩:=(show ∃ t,u=Value.str x t from r); subst e; exact mixKind_str P w x t
section
variable {P:Program}{w:World}{H:Hp}{h:Heap}{a:Addr}
theorem rd_of {u:HO} (ok:HOk P w H h) (e:Rd H a u):ObjOk P w H h a u:=e.ok ok
theorem dk_rd {kvs:List (Key×V)} (ok:HOk P w H h) (e:Rd H a (.dK kvs)):kvs.length≤sizeLine∧(a==sysModules)=false∧∃ vs,KV kvs vs∧h.DictOf (mixKind P w) a vs:=
 show ObjOk P w H h a (.dK kvs) from rd_of ok e
theorem dk_of {kvs:List (Key×V)} (ok:HOk P w H h) (e:H a=some (.dK kvs)):kvs.length≤sizeLine∧(a==sysModules)=false∧∃ vs,KV kvs vs∧h.DictOf (mixKind P w) a vs:=dk_rd ok (.inl e)
end
section
variable {X:Cx}{pins:List (Addr×Obj)}{σ:St}{H:Hp}{s:Shared}{a:Addr}{y v:V}{u r:Value}{o:Option V}{A:Around}{E:Value→Shared→Prop}
theorem Inv.big (I:Inv X pins σ H s):sysModules < s.heap.objs.size:=by
 have h:mainGlobals < s.heap.objs.size:=(I.mod.glob.keeps I.bk).lt
 exact Nat.lt_trans (by decide) h
theorem d_write {h':Heap}{t':Nat}{ob:HO} (I:Inv X pins σ H s) (mu:Mut (H a)) (hs:Heap.SameBut a s.heap h') (he:∃ q,h'.get? a=some q) (new:ObjOk X.prog X.w (upd H a ob) h' a ob) :
  Inv X pins σ (upd H a ob) { s with heap:=h',toks:=t' }:=
 I.write (x:=a) (e:=a) mu (.inl rfl) (fun b q hb z=>(hs.2 b hb).trans z) he new
theorem dk_new {P:Program}{w:World}{H':Hp}{h':Heap}{kvs:List (Key×V)}{vs:List (Key×Value)} (z:kvs.length≤sizeLine) (hd:(a==sysModules)=false) (rel:KV kvs vs) (dd:h'.DictOf (mixKind P w) a vs) :
  ObjOk P w H' h' a (.dK kvs):=⟨z,hd,vs,rel,dd⟩
end
theorem dk_empty {P:Program}{w:World}{H:Hp} (h:Heap) (hb:sysModules < h.objs.size):ObjOk P w H (h.push { cls:=.type "dict",data:=.dict #[] }) h.objs.size (.dK []):=
 ⟨Nat.zero_le _,beq_eq_false_iff_ne.mpr (Ne.symm (Nat.ne_of_lt hb)),[],.nil,Heap.DictOf.new h⟩
noncomputable def tPairs:List (TE×TE)→St→Hp→(List (V×V)→Hp→Prop)→Prop
 | [],_,H,Q=>Q [] H
 | (tk,tv) :: r,σ,H,Q=>tk σ H fun x H1=>tv σ H1 fun y H2=>tPairs r σ H2 fun ps H3=>Q ((x,y) :: ps) H3
noncomputable abbrev VV:List (V×V)→List (Value×Value)→Prop:=Paired fun p q=>RelV p.1 q.1∧RelV p.2 q.2
noncomputable def PPs (X:Cx) (pos:Pos) (keys:List (Option Expr)) (values:List Expr) (trs:List (TE×TE)):Prop:=
 ∀ (pins:List (Addr×Obj)) (s:Shared) (σ:St) (H:Hp) (Q:List (V×V)→Hp→Prop),Inv X pins σ H s→tPairs trs σ H Q→
  wpAny (model X.prog X.w) X.A (evalPairs (pairTrees keys values X.env pos)) (fun vs s'=>∃ ps H',Inv X pins σ H' s'∧VV ps vs∧Q ps H') X.xe s
theorem pps_nil {X:Cx}{pos:Pos}:PPs X pos [] [] []:=fun pins s σ H Q I h=>pairTrees_nil_walk ⟨[],H,I,.nil,h⟩
theorem pps_cons {X:Cx}{pos:Pos}{k v:Expr}{ks:List (Option Expr)}{vs:List Expr}{tk tv:TE}{trs:List (TE×TE)} (hk:PE X k tk) (hv:PE X v tv) (hr:PPs X pos ks vs trs) :
  PPs X pos (some k :: ks) (v :: vs) ((tk,tv) :: trs):=fun pins s σ H Q I h=>
 pairTrees_cons_walk (thn (hk pins s σ H _ I h) fun u s1 ⟨x,H1,I1,rx,q1⟩=>thn (hv pins s1 σ H1 _ I1 q1) fun w2 s2 ⟨y,H2,I2,ry,q2⟩=>
  thn (hr pins s2 σ H2 _ I2 q2) fun ws s3 ⟨ps,H3,I3,rel,q3⟩=>⟨(x,y) :: ps,H3,I3,.cons ⟨rx,ry⟩ rel,q3⟩)
noncomputable def mergeK (kvs more:List (Key×V)):List (Key×V):=more.foldl (fun acc kv=>putK acc kv.1 kv.2) kvs
theorem KV.merge:∀ {more:List (Key×V)}{rs:List (Key×Value)}{kvs:List (Key×V)}{vs:List (Key×Value)},KV more rs→KV kvs vs→KV (mergeK kvs more) (merged vs rs):=by
 intro more rs kvs vs r
 unfold KV at r
 induction r generalizing kvs vs with
 | nil=>intro q; exact q
 | @cons p q ps qs h t ih=>
  intro r0
  have e:KV (putK kvs p.1 p.2) (stored vs q.1 q.2):=by
   have:=r0.put p.1 h.2
   rw [←h.1]; exact this
  exact ih e
theorem length_mergeK:∀ (more kvs:List (Key×V)),(mergeK kvs more).length≤kvs.length+more.length
 | [],kvs=>by show kvs.length≤kvs.length+0; omega
 | p :: r,kvs=>by
  have h1:=length_mergeK r (putK kvs p.1 p.2)
  have h2:=length_putK kvs p.1 p.2
  show (mergeK (putK kvs p.1 p.2) r).length≤_
  rw [List.length_cons]; omega
theorem carries_of {P:Program}{w:World}:∀ {kvs:List (Key×V)}{ws:List (Value×Value)},VV (kvs.map fun kv=>(kV kv.1,kv.2)) ws→∃ rs,Carries (mixKind P w) ws rs∧KV kvs rs
 | [],_,r=>by rw [List.map_nil] at r; cases r; exact ⟨[],True.intro,.nil⟩
 | p :: kvs,_,r=>by
  rw [List.map_cons] at r
  cases r with
  | @cons a b as bs h t=>
   obtain ⟨rs,c,q⟩:=carries_of (P:=P) (w:=w) t
   obtain ⟨b1,b2⟩:=b
   exact ⟨(p.1,b2) :: rs,⟨kV_is h.1,rfl,c⟩,.cons ⟨rfl,h.2⟩ q⟩
noncomputable def tDisp (K:PySem.W.Frag) (trs:List (TE×TE)):TE:=fun σ H Q=>∀ p,H p=none→(∀ o,K.lookup p≠some o)→tPairs trs σ (upd H p (.dK [])) fun ps H2=>H2 p=some (.dK [])∧∃ kvs:List (Key×V),ps=kvs.map (fun kv=>(kV kv.1,kv.2))∧kvs.length≤15∧Q (.ref p) (upd H2 p (.dK (mergeK [] kvs)))
theorem pe_disp {X:Cx}{pos:Pos}{keys:List (Option Expr)}{values:List Expr}{trs:List (TE×TE)} (h:PPs X pos keys values trs) (hall:keys.all (·.isSome)=true) (hl:keys.length=values.length) (h0:keys≠[])
  (h15:keys.length≤15):PE X (.Dict keys values pos) (tDisp X.K trs):=by
 intro pins s σ H Q I q
 have hn:=I.hok.fresh (Nat.le_refl s.heap.objs.size)
 have I1:=I.laid (a:=s.heap.objs.size) (o:=.dK []) (h':=s.heap.push { cls:=.type "dict",data:=.dict #[] }) (t':=s.toks) (fun _ _ q=>Heap.get?_push_of_some _ q) (Nat.le_refl _) (dk_empty s.heap I.big)
 refine wpAny_Dict_walk (knd:=mixKind X.prog X.w) hall hl h0 h15 (thn (h pins _ σ _ _ I1 (q _ hn fun o z=>absurd (Heap.lt_size (I.kIn _ o z)) (Nat.lt_irrefl _))) fun ws s2 ⟨ps,H2,I2,rel,e,kvs,ep,lk,q2⟩=>?_)
 subst ep
 obtain ⟨rs,c,rk⟩:=carries_of (P:=X.prog) (w:=X.w) rel
 obtain ⟨z,hd,vs0,r0,dd⟩:=dk_of I2.hok e
 cases r0
 refine ⟨rs,c,dd,fun h' dd' hs=>⟨.ref s.heap.objs.size,_,?_,rfl,q2⟩⟩
 have hz:(mergeK [] kvs).length≤sizeLine:=by
  have h1:=length_mergeK kvs []
  rw [List.length_nil] at h1
  rw [sizeLine_eq]; omega
 have he:∃ q,h'.get? s.heap.objs.size=some q:=let ⟨q,_,_,hq,_⟩:=dd'; ⟨q,hq⟩
 exact d_write I2 (by rw [e]; exact True.intro) hs he (dk_new hz hd (rk.merge .nil) dd')
section
variable {X:Cx}
noncomputable def rIxD:R2:=fun x y H Q=>∃ p kvs k v,x=.ref p∧y=kV k∧H p=some (.dK kvs)∧valV kvs k=some v∧Q v H
theorem ix_dct:IxR X rIxD:=by
 intro value slice pins s σ H x y v u Q I rx ry h hs
 obtain ⟨p,kvs,k,z,rfl,rfl,hq,he,q⟩:=h
 cases rx
 obtain ⟨zz,hd,vs,rel,dd⟩:=dk_of I.hok hq
 obtain ⟨w',hw,rw'⟩:=RelO.some_of (v:=z) (o:=valueAt vs k) (by rw [←he]; exact rel.val k)
 exact tail_any dd.typeIs PySem.F.slot_dict_getitem.lookup (wpAny_getItem_of (kV_is ry) dd.mapOf hw ⟨z,H,I.tok _,rw',q⟩) hs
noncomputable def rInD:R2:=fun x y H Q=>∃ p kvs k,y=.ref p∧x=kV k∧H p=some (.dK kvs)∧Q (.bl (valV kvs k).isSome) H
theorem op_in_dct:OpR X (compareOp .In) rInD:=by
 intro pins s σ H x y v u Q I rx ry h
 obtain ⟨p,kvs,k,rfl,rfl,hq,q⟩:=h
 cases ry
 obtain ⟨zz,hd,vs,rel,dd⟩:=dk_of I.hok hq
 refine wpAny_in_of (kV_is rx) hd dd.mapOf ?_
 rw [←(rel.val k).isSome_eq]
 exact ⟨.bl (valV kvs k).isSome,H,I.tok _,rfl,q⟩
end
end L2


namespace Dp
open PySem
noncomputable abbrev S (x:String):Str:=Str.ofString x

inductive D where
 | non | bl (b:Bool) | int (i:Int) | str (x:Str) | tup (xs:List D) | lst (id:Nat) | dct (ks:List Str) (vs:List D) | obj (i:Nat) | kt (ks:List Str)

noncomputable abbrev Env:=List (Option D)
noncomputable abbrev Zag:=Bool×List D
noncomputable abbrev Za:=List Zag
noncomputable abbrev Res:=Option (D×Za)
noncomputable abbrev Fn:=List D→Za→Res

mutual
noncomputable def ZI:D→D→Bool
 | .non,.non=>true
 | .bl a,.bl b=>a==b
 | .int a,.int b=>decide (a=b)
 | .str a,.str b=>decide (a=b)
 | .tup a,.tup b=>Z1 a b
 | _,_=>false
noncomputable def Z1:List D→List D→Bool
 | [],[]=>true
 | x :: xs,y :: ys=>ZI x y&&Z1 xs ys
 | _,_=>false
end
mutual
noncomputable def okD:Nat→D→Bool
 | _,.non=>true
 | _,.int _=>true
 | _,.str _=>true
 | n+1,.tup xs=>Yt n xs
 | _,_=>false
noncomputable def Yt:Nat→List D→Bool
 | _,[]=>true
 | n,x :: xs=>okD n x&&Yt n xs
end
noncomputable def eqD:D→D→Option Bool
 | .bl a,.bl b=>some (a==b)
 | .bl _,.str _=>some false
 | .str _,.bl _=>some false
 | .bl _,.non=>some false
 | .non,.bl _=>some false
 | .non,.non=>some true
 | .non,.int _=>some false
 | .non,.str _=>some false
 | .int _,.non=>some false
 | .str _,.non=>some false
 | .int a,.int b=>some (decide (a=b))
 | .str a,.str b=>some (decide (a=b))
 | .int _,.str _=>some false
 | .str _,.int _=>some false
 | .tup xs,.tup ys=>if okD 8 (.tup xs)&&okD 8 (.tup ys) then some (Z1 xs ys) else none
 | _,_=>none

inductive Ty where
 | int | bool | str | tuple
 deriving DecidableEq

set_option genInjectivity false in
inductive CE where
 | var (i:Nat) | cst (d:D)
 | bin (op:Operator) (a b:CE) | neg (a:CE)
 | cmp (op:CmpOp) (a b:CE)
 | not (a:CE) | and (a b:CE) | or (a b:CE) | ife (c a b:CE)
 | tupE (a:CE) | lstE (a:CE) | anil | acons (a r:CE)
 | ix (a b:CE) | slice (a lo hi:CE) | nop | part (a:CE)
 | call (f:Nat) (args:CE) (ds:List D)
 | len (a:CE) | tupleOf (a:CE) | listOf (a:CE) | intOf (a:CE) | min (a b:CE) | max (a b:CE) | isi (T:Ty) (a:CE)
 | comp (rng:Bool) (fr:List Nat) (it elt Xf:CE) | comp2 (fr:List Nat) (it elt Xf:CE) | compT (fr:List Nat) (it elt Xf:CE) | lstR (a b:CE) | new (i:Nat) | meth (tab:List (Nat×Nat)) (o a:CE) | isc (l:List Nat) (a:CE) | tix (o a:CE)
 | rs (k:Bool) (a:CE)
 | inv (a:CE) | tupR (a:CE) | look (ks:List Str) (ds:List D) (a:CE) | dget (a k d:CE) | all (a:CE) | any (a:CE) | inR (ng:Bool) (a b:CE)
 | dict (ks:List Str) (a:CE)

set_option genInjectivity false in
inductive CS where
 | skip | seq (a b:CS) | ret (e:CE) | set (i:Nat) (e:CE) | app (i:Nat) (e:CE) | ext (i:Nat) (e:CE) | put (i:Nat) (k e:CE)
 | ite (c:CE) (a b:CS) | for1 (i:Nat) (rng:Bool) (it:CE) (b:CS) | for3 (i:Nat) (it:CE) (b:CS) | forP (i j:Nat) (it:CE) (b:CS) | forE (i j:Nat) (it:CE) (b:CS) | set2 (i j:Nat) (e:CE) | for4 (i j l:Nat) (it:CE) (b:CS) | for2 (i j:Nat) (it:CE) (b:CS) | whl (c:CE) (b:CS) | brk | cont | stop

noncomputable def YM (i:Int):Bool:=decide (-(2 ^ 64) < i)&&decide (i < 2 ^ 64)
noncomputable def Zi:Nat:=1000000

noncomputable def Zct (op:Operator) (i j:Int):Option Int:=
 match op with
 | .Add=>some (i+j)
 | .Sub=>some (i - j)
 | .Mult=>if YM i||YM j then some (i * j) else none
 | .FloorDiv=>if 0 < j∧j < 1073741824 then some (i / j) else if j < 0∧-1073741824 < j then some (i.fdiv j) else none
 | .Mod=>if 0 < j then some (i % j) else if j < 0 then some (i.fmod j) else none
 | .Pow=>if 0≤j∧j≤1000∧YM i=true then some (i ^ j.toNat) else none
 | .LShift=>if 0≤j∧j≤1000∧YM i=true then some (i * 2 ^ j.toNat) else none
 | .BitAnd=>if 0≤i∧0≤j then some ((i.toNat &&& j.toNat:Nat):Int) else if 0≤i∧j < 0 then some (i - ((i.toNat &&& (-j - 1).toNat:Nat):Int)) else none
 | .RShift=>if 0≤j∧j≤1000 then some (i / 2 ^ j.toNat) else none
 | .BitOr=>if 0≤i∧0≤j then some ((i.toNat ||| j.toNat:Nat):Int) else none
 | _=>none
noncomputable def Vc:Operator→Bool
 | .Add=>true
 | _=>false
noncomputable def UF:Operator→Bool
 | .Mult=>true
 | _=>false
noncomputable def Ze1 (a b:Nat) (st:Za):Res:=match st[a]?,st[b]? with
 | some (_,xs),some (_,ys)=>if xs.length+ys.length≤Zi then some (.lst st.length,st++[(true,xs++ys)]) else none
 | _,_=>none
noncomputable def Zep (a:Nat) (j:Int) (st:Za):Res:=match st[a]? with
 | some (true,[x])=>if j≤1000∧-1000≤j then some (.lst st.length,st++[(true,List.replicate j.toNat x)]) else none
 | _=>none
noncomputable def Vl (op:Operator) (x y:D) (st:Za):Res:=
 match x,y with
 | .int i,.int j=>match Zct op i j with
  | some k=>some (.int k,st)
  | none=>none
 | .tup xs,.tup ys=>if Vc op=true∧xs.length+ys.length≤Zi then some (.tup (xs++ys),st) else none
 | .tup [x],.int j=>if UF op=true∧(j≤1000∧-1000≤j) then some (.tup (List.replicate j.toNat x),st) else none
 | .lst a,.lst b=>if Vc op=true then Ze1 a b st else none
 | .lst a,.int j=>if UF op=true then Zep a j st else none
 | _,_=>none

noncomputable def JC (_:Za) (_ _:List D):Option Bool:=none
noncomputable def eqS (st:Za) (x y:D):Option Bool:=
 match x,y with
 | .lst a,.lst b=>match st[a]?,st[b]? with
  | some (_,xs),some (_,[])=>some xs.isEmpty
  | some (_,[]),some (_,ys)=>some ys.isEmpty
  | some (_,xs),some (_,ys)=>if Yt 7 xs&&Yt 7 ys then some (Z1 xs ys) else none
  | _,_=>none
 | .tup xs,.tup ys=>match eqD (.tup xs) (.tup ys) with
  | some k=>some k
  | none=>JC st xs ys
 | x,y=>eqD x y

noncomputable def Xa:Int→List D→Option Bool
 | _,[]=>some false
 | k,.int i :: r=>(Xa k r).map fun b=>decide (i=k)||b
 | _,_=>none
noncomputable def Y9:Str→List D→Option Bool
 | _,[]=>some false
 | k,.str i :: r=>(Y9 k r).map fun b=>decide (i=k)||b
 | _,_=>none

noncomputable def ZF:List Str→List D→Str→Option D
 | k :: ks,v :: vs,x=>if k=x then some v else ZF ks vs x
 | _,_,_=>none
noncomputable def QE (f:Int→Int→Bool):D→D→Option Bool
 | .int i,.int j=>some (f i j)
 | _,_=>none
noncomputable def Wz:List D→List D→Option Bool
 | x :: xs,y :: ys=>if ZI x y=true then Wz xs ys else match x,y with
  | .int i,.int j=>some (decide (i < j))
  | .str a,.str b=>some (decide (a.cps.toList < b.cps.toList))
  | _,_=>none
 | [],ys=>some (decide (0 < ys.length))
 | _ :: _,[]=>some false
noncomputable def ltD (x y:D):Option Bool:=match x,y with
 | .tup xs,.tup ys=>if okD 8 (.tup xs)&&okD 8 (.tup ys) then Wz xs ys else none
 | x,y=>QE (fun i j=>decide (i < j)) x y
noncomputable def ltS (_:Za) (x y:D):Option Bool:=ltD x y
noncomputable def inS (st:Za) (x y:D):Option Bool:=match x,y with
 | .int k,.lst a=>match st[a]? with
  | some (_,xs)=>Xa k xs
  | none=>none
 | .str k,.lst a=>match st[a]? with
  | some (_,xs)=>Y9 k xs
  | none=>none
 | .int k,.tup xs=>Xa k xs
 | .str k,.tup xs=>Y9 k xs
 | .str k,.dct ks vs=>some (ZF ks vs k).isSome
 | _,_=>none
noncomputable def niS (st:Za) (x y:D):Option Bool:=match y with
 | .dct _ _=>none
 | y=>(inS st x y).map not
noncomputable def isN:D→Option Bool
 | .non=>some true
 | .int _=>some false
 | .str _=>some false
 | .bl _=>some false
 | .tup _=>some false
 | .lst _=>some false
 | .dct _ _=>none
 | .obj _=>none
 | .kt _=>none
noncomputable def isB (b:Bool):D→Option Bool
 | .bl a=>some (a==b)
 | _=>none
noncomputable def isD (x:D):D→Option Bool
 | .non=>isN x
 | .bl b=>isB b x
 | _=>none
noncomputable def ZgR (op:CmpOp) (x y:D) (st:Za):Option Bool:=
 match op with
 | .Lt=>ltS st x y
 | .LtE=>QE (fun i j=>decide (i≤j)) x y
 | .Gt=>QE (fun i j=>decide (j < i)) x y
 | .GtE=>QE (fun i j=>decide (j≤i)) x y
 | .Eq=>eqS st x y
 | .NotEq=>(eqS st x y).map not
 | .In=>inS st x y
 | .NotIn=>niS st x y
 | .Is=>isD x y
 | .IsNot=>(isD x y).map not

noncomputable def ixN (n:Nat) (i:Int):Option Nat:=if 0≤i then (if i < n then some i.toNat else none) else if -(n:Int)≤i then some (i+n).toNat else none
noncomputable def atD (xs:List D) (i:Int):Option D:=(ixN xs.length i).bind fun j=>xs[j]?
noncomputable def ixD (x y:D) (st:Za):Option D:=
 match x,y with
 | .tup xs,.int i=>atD xs i
 | .lst a,.int i=>match st[a]? with
  | some (_,xs)=>atD xs i
  | none=>none
 | .dct ks vs,.str k=>ZF ks vs k
 | .kt ks,.int i=>atD (ks.map .str) i
 | _,_=>none

noncomputable def sIx (n d:Nat):Option Int→Nat
 | none=>d
 | some i=>if i < 0 then (i+n).toNat else Nat.min i.toNat n
noncomputable def J6 (xs:List D) (lo hi:Option Int):List D:=(xs.drop (sIx xs.length 0 lo)).take (sIx xs.length xs.length hi - sIx xs.length 0 lo)
noncomputable def Ym (x:D) (lo hi:Option Int) (st:Za):Res:=
 match x with
 | .tup xs=>if sIx xs.length 0 lo=0∧sIx xs.length xs.length hi=xs.length then some (.tup xs,st) else some (.tup (J6 xs lo hi),st)
 | .lst a=>match st[a]? with
  | some (_,xs)=>some (.lst st.length,st++[(true,J6 xs lo hi)])
  | none=>none
 | _=>none

noncomputable def Zfg (x:D) (st:Za):Option Int:=
 match x with
 | .tup xs=>some xs.length
 | .lst a=>match st[a]? with
  | some (_,xs)=>some xs.length
  | none=>none
 | .kt ks=>some ks.length
 | _=>none

noncomputable def UQ:Ty→D→Option Bool
 | .int,.int _=>some true
 | .int,.bl _=>some true
 | .int,.str _=>some false
 | .int,.tup _=>some false
 | .int,.non=>some false
 | .bool,.bl _=>some true
 | .bool,.int _=>some false
 | .bool,.str _=>some false
 | .bool,.tup _=>some false
 | .bool,.non=>some false
 | .str,.str _=>some true
 | .str,.int _=>some false
 | .str,.bl _=>some false
 | .str,.tup _=>some false
 | .str,.non=>some false
 | .tuple,.tup _=>some true
 | .tuple,.int _=>some false
 | .tuple,.bl _=>some false
 | .tuple,.str _=>some false
 | .tuple,.non=>some false
 | _,_=>none

noncomputable def Xl (rng:Bool) (x:D):Option (List D):=
 match rng,x with
 | true,.int n=>if n < 2 ^ 62∧-(2 ^ 62)≤n then some ((List.range n.toNat).map fun (k:Nat)=>D.int (k:Int)) else none
 | false,.tup xs=>some xs
 | _,_=>none

noncomputable def ZM (a b c:Int):Nat:=if 0 < c then (if a < b then ((b - a - 1) / c+1).toNat else 0) else (if b < a then ((a - b - 1) / (-c)+1).toNat else 0)
noncomputable def ZR (a b c:Int):Bool:=decide ((-(2 ^ 30) < a∧a < 2 ^ 30)∧(-(2 ^ 30) < b∧b < 2 ^ 30)∧(c=1∨c=-1∨c=2∨c=3∨c=4))
noncomputable def Z7 (a b c:Int):List Int:=(List.range (ZM a b c)).map fun (k:Nat)=>a+k * c
noncomputable def VX:D→Option (List Int)
 | .tup [.int a,.int b]=>if ZR a b 1 then some (Z7 a b 1) else none
 | .tup [.int a,.int b,.int c]=>if ZR a b c then some (Z7 a b c) else none
 | _=>none
noncomputable def Yx (ok:Za→Prop) (f:D→Za→Res) (c:D→Za→Res):List D→Za→Option (List D×Za)
 | [],st=>open Classical in if ok st then some ([],st) else none
 | x :: xs,st=>open Classical in if ok st then (match c x st with
  | some (.bl true,st1)=>match f x st1 with
   | some (y,st2)=>match Yx ok f c xs st2 with
    | some (ys,st3)=>some (y :: ys,st3)
    | none=>none
   | none=>none
  | some (.bl false,st1)=>Yx ok f c xs st1
  | _=>none) else none
noncomputable def UN (rng:Bool) (x:D) (st:Za):Option (List D×(Za→Prop)):=match Xl rng x with
 | some xs=>some (xs,fun _=>True)
 | none=>match rng,x with
  | false,.lst a=>match st[a]? with
   | some c=>some (c.2,fun s=>s[a]?=some c)
   | none=>none
  | _,_=>none

noncomputable def U1:Nat→List D→List D
 | _,[]=>[]
 | k,x :: xs=>.tup [.int (k:Int),x] :: U1 (k+1) xs
noncomputable def Zbq (x:D) (st:Za):Option (List D×(Za→Prop)):=match x with
 | .tup xs=>some (U1 0 xs,fun _=>True)
 | .lst a=>match st[a]? with
  | some c=>some (U1 0 c.2,fun s=>s[a]?=some c)
  | none=>none
 | _=>none

noncomputable def ZeD:D→Bool
 | .tup [_,_]=>true
 | _=>false
noncomputable def Zd2 (x:D) (_:Za):Option (List D×(Za→Prop)):=match x with
 | .tup xs=>if xs.all ZeD=true then some (xs,fun _=>True) else none
 | _=>none

noncomputable abbrev Ev:=Env→Za→Res
noncomputable def ZE (fa:Ev) (g:D→Za→Res):Ev:=fun ρ st=>match fa ρ st with
 | some (x,st1)=>g x st1
 | none=>none
noncomputable def Z2 (fa fb:Ev) (g:D→D→Za→Res):Ev:=fun ρ st=>match fa ρ st with
 | some (x,st1)=>match fb ρ st1 with
  | some (y,st2)=>g x y st2
  | none=>none
 | none=>none
noncomputable def W0 (fa fb fc:Ev) (g:D→D→D→Za→Res):Ev:=fun ρ st=>match fa ρ st with
 | some (x,st1)=>match fb ρ st1 with
  | some (y,st2)=>match fc ρ st2 with
   | some (z,st3)=>g x y z st3
   | none=>none
  | none=>none
 | none=>none
noncomputable def Xf (fc ft ff:Ev):Ev:=fun ρ st=>match fc ρ st with
 | some (.bl true,st1)=>ft ρ st1
 | some (.bl false,st1)=>ff ρ st1
 | _=>none
noncomputable def Yw (i:Nat):Ev:=fun ρ st=>match ρ[i]? with
 | some (some d)=>some (d,st)
 | _=>none
noncomputable def evC (d:D):Ev:=fun _ st=>some (d,st)
noncomputable def ZdB:D→Za→Res
 | .int i,st=>some (.int (-i),st)
 | _,_=>none
noncomputable def J9:D→Za→Res
 | .bl k,st=>some (.bl (!k),st)
 | _,_=>none
noncomputable def WC (op:CmpOp) (x y:D) (st:Za):Res:=match ZgR op x y st with
 | some k=>some (.bl k,st)
 | none=>none
noncomputable def Zbx:D→Za→Res
 | .tup xs,st=>some (.lst st.length,st++[(true,xs)])
 | _,_=>none
noncomputable def Wp:D→D→Za→Res
 | x,.tup xs,st=>if xs.length < 1000 then some (.tup (x :: xs),st) else none
 | _,_,_=>none
noncomputable def ixR (x y:D) (st:Za):Res:=match ixD x y st with
 | some d=>some (d,st)
 | none=>none
noncomputable def XF:D→D→D→Za→Res
 | x,.non,.non,st=>Ym x none none st
 | x,.int i,.non,st=>Ym x (some i) none st
 | x,.non,.int j,st=>Ym x none (some j) st
 | x,.int i,.int j,st=>Ym x (some i) (some j) st
 | _,_,_,_=>none
noncomputable def Js:D→Za→Res
 | .int i,st=>some (.int i,st)
 | _,_=>none
noncomputable def Qd (g:Fn) (ds:List D):D→Za→Res
 | .tup xs,st=>g (xs++ds) st
 | _,_=>none
noncomputable def JO (F:Nat→Fn) (tab:List (Nat×Nat)):D→D→Za→Res
 | .obj i,.tup xs,st=>match tab.lookup i with
  | some j=>F j (.obj i :: xs) st
  | none=>none
 | _,_,_=>none
noncomputable def V3 (k:Str):List Str→Option Nat
 | []=>none
 | a :: r=>if a=k then some 0 else (V3 k r).map (·+1)
noncomputable def Zc2:D→D→Za→Res
 | .kt ks,.tup [.str k],st=>match V3 k ks with
  | some i=>some (.int (i:Int),st)
  | none=>none
 | _,_,_=>none
noncomputable def QD (l:List Nat):D→Za→Res
 | .obj i,st=>if l.contains i=true then some (.bl true,st) else none
 | _,_=>none
noncomputable def J7 (x:D) (st:Za):Res:=match Zfg x st with
 | some n=>some (.int n,st)
 | none=>none
noncomputable def Wg:D→Za→Res
 | .tup xs,st=>some (.tup xs,st)
 | .lst l,st=>match st[l]? with
  | some (_,xs)=>some (.tup xs,st)
  | none=>none
 | _,_=>none
noncomputable def VQ:D→Za→Res
 | .tup xs,st=>some (.lst st.length,st++[(true,xs)])
 | .lst l,st=>match st[l]? with
  | some (_,xs)=>some (.lst st.length,st++[(true,xs)])
  | none=>none
 | _,_=>none
noncomputable def Zdb:D→D→Za→Res
 | .int i,.int j,st=>some (.int (if j < i then j else i),st)
 | _,_,_=>none
noncomputable def ZcY:D→D→Za→Res
 | .int i,.int j,st=>some (.int (if j > i then j else i),st)
 | _,_,_=>none
noncomputable def Zac (T:Ty) (x:D) (st:Za):Res:=match UQ T x with
 | some k=>some (.bl k,st)
 | none=>none
noncomputable def QQ:List D→Option (List D)
 | [.int i,.int j]=>some (if j < i then [.int j,.int i] else [.int i,.int j])
 | _=>none
noncomputable def rsL (k:Bool) (xs:List D):Option (List D):=if k then QQ xs else some xs.reverse
noncomputable def rsD (k:Bool):D→Za→Res
 | .lst a,st=>match st[a]? with
  | some (_,xs)=>(match rsL k xs with
   | some ys=>some (.lst st.length,st++[(true,ys)])
   | none=>none)
  | none=>none
 | _,_=>none
noncomputable def Zc4:D→Za→Res
 | .int i,st=>some (.int (-i - 1),st)
 | _,_=>none
noncomputable def UZ:D→D→Za→Res
 | .int a,.int b,st=>if ZR a b 1=true∧b - a≤1000 then some (.lst st.length,st++[(true,(Z7 a b 1).map .int)]) else none
 | _,_,_=>none
noncomputable def VJ (ks:List Str) (ds:List D):D→Za→Res
 | .str k,st=>match ZF ks ds k with
  | some d=>some (d,st)
  | none=>none
 | _,_=>none
noncomputable def getD:D→D→D→Za→Res
 | .dct ks vs,.str k,d,st=>some ((ZF ks vs k).getD d,st)
 | _,_,_,_=>none
noncomputable def Zfu (ng:Bool):D→D→Za→Res
 | .int x,.int n,st=>if -(2 ^ 62)≤n∧n < 2 ^ 62 then some (.bl (ng != decide (0≤x∧x < n)),st) else none
 | _,_,_=>none
noncomputable def Qg (ks:List Str):D→Za→Res
 | .tup vs,st=>if ks.length=vs.length∧(ks.Nodup∧ks≠[])∧ks.length≤15 then some (.dct ks vs,st) else none
 | _,_=>none
noncomputable def one (d:D):List (Option D):=[some d]
noncomputable def two:D→List (Option D)
 | .tup [a,b]=>[some a,some b]
 | _=>[]
noncomputable def YJ (b:D→List (Option D)) (ρ:Env) (fr:List Nat) (d:D):Env:=b d++fr.map fun i=>(ρ[i]?).join
noncomputable def X3 (b:D→List (Option D)) (w:D→Za→Option (List D×(Za→Prop))) (fr:List Nat) (fi fe fc:Ev):Ev:=fun ρ st=>match fi ρ st with
 | some (x,st1)=>match w x st1 with
  | some (xs,ok)=>if xs.length≤1000 then
    match Yx ok (fun d s=>fe (YJ b ρ fr d) s) (fun d s=>fc (YJ b ρ fr d) s) xs st1 with
    | some (ys,st2)=>some (.lst st2.length,st2++[(true,ys)])
    | none=>none
   else none
  | none=>none
 | none=>none

noncomputable def ev (F:Nat→Fn):CE→Ev
 | .var i=>Yw i
 | .cst d=>evC d
 | .bin op a b=>Z2 (ev F a) (ev F b) (Vl op)
 | .neg a=>ZE (ev F a) ZdB
 | .cmp op a b=>Z2 (ev F a) (ev F b) (WC op)
 | .not a=>ZE (ev F a) J9
 | .and a b=>Xf (ev F a) (ev F b) (evC (.bl false))
 | .or a b=>Xf (ev F a) (evC (.bl true)) (ev F b)
 | .ife c a b=>Xf (ev F c) (ev F a) (ev F b)
 | .tupE a=>ev F a
 | .lstE a=>ZE (ev F a) Zbx
 | .anil=>evC (.tup [])
 | .acons a r=>Z2 (ev F a) (ev F r) Wp
 | .ix a b=>Z2 (ev F a) (ev F b) ixR
 | .slice a lo hi=>W0 (ev F a) (ev F lo) (ev F hi) XF
 | .nop=>evC .non
 | .part a=>ZE (ev F a) Js
 | .call f a ds=>ZE (ev F a) (Qd (F f) ds)
 | .len a=>ZE (ev F a) J7
 | .tupleOf a=>ZE (ev F a) Wg
 | .listOf a=>ZE (ev F a) VQ
 | .intOf _=>fun _ _=>none
 | .min a b=>Z2 (ev F a) (ev F b) Zdb
 | .max a b=>Z2 (ev F a) (ev F b) ZcY
 | .isi T a=>ZE (ev F a) (Zac T)
 | .rs k a=>ZE (ev F a) (rsD k)
 | .inv a=>ZE (ev F a) Zc4
 | .tupR _=>fun _ _=>none
 | .look ks ds a=>ZE (ev F a) (VJ ks ds)
 | .dget a k d=>W0 (ev F a) (ev F k) (ev F d) getD
 | .inR ng a b=>Z2 (ev F a) (ev F b) (Zfu ng)
 | .all _=>fun _ _=>none
 | .any _=>fun _ _=>none
 | .comp rng fr it elt cnd=>X3 one (UN rng) fr (ev F it) (ev F elt) (ev F cnd)
 | .comp2 fr it elt cnd=>X3 two Zbq fr (ev F it) (ev F elt) (ev F cnd)
 | .compT fr it elt cnd=>X3 two Zd2 fr (ev F it) (ev F elt) (ev F cnd)
 | .lstR a b=>Z2 (ev F a) (ev F b) UZ
 | .new i=>evC (.obj i)
 | .meth tab o a=>Z2 (ev F o) (ev F a) (JO F tab)
 | .isc l a=>ZE (ev F a) (QD l)
 | .tix o a=>Z2 (ev F o) (ev F a) Zc2
 | .dict ks a=>ZE (ev F a) (Qg ks)

inductive Fl where
 | nx (ρ:Env) | rt (d:D) | bk (ρ:Env) | ct (ρ:Env)

noncomputable def ZB (ρ:Env) (i:Nat) (d:D):Env:=ρ.set i (some d)

noncomputable def Yf (body:D→Env→Za→Option (Fl×Za)):List D→Env→Za→Option (Fl×Za)
 | [],ρ,st=>some (.nx ρ,st)
 | d :: ds,ρ,st=>match body d ρ st with
  | some (.nx ρ',st')=>Yf body ds ρ' st'
  | some (.ct ρ',st')=>Yf body ds ρ' st'
  | some (.bk ρ',st')=>some (.nx ρ',st')
  | some (.rt v,st')=>some (.rt v,st')
  | none=>none
noncomputable def ZN (body:D→Env→Za→Option (Fl×Za)) (a:Nat):Nat→Nat→Env→Za→Option (Fl×Za)
 | 0,i,ρ,st=>match st[a]? with
  | some (_,xs)=>if xs.length≤i then some (.nx ρ,st) else none
  | none=>none
 | n+1,i,ρ,st=>match st[a]? with
  | some (_,xs)=>match xs[i]? with
   | none=>some (.nx ρ,st)
   | some d=>match body d ρ st with
    | some (.nx ρ',st')=>ZN body a n (i+1) ρ' st'
    | some (.ct ρ',st')=>ZN body a n (i+1) ρ' st'
    | some (.bk ρ',st')=>some (.nx ρ',st')
    | some (.rt v,st')=>some (.rt v,st')
    | none=>none
  | none=>none

noncomputable abbrev Ex:=Env→Za→Option (Fl×Za)
noncomputable def Vj (f g:Ex):Ex:=fun ρ st=>match f ρ st with
 | some (.nx ρ',st')=>g ρ' st'
 | r=>r
noncomputable def Jk (f:Ev):Ex:=fun ρ st=>match f ρ st with
 | some (d,st')=>some (.rt d,st')
 | none=>none
noncomputable def UY (i:Nat) (f:Ev):Ex:=fun ρ st=>match f ρ st with
 | some (d,st')=>some (.nx (ZB ρ i d),st')
 | none=>none
noncomputable def Qw (i j:Nat) (f:Ev):Ex:=fun ρ st=>match f ρ st with
 | some (.tup [x,y],st')=>some (.nx (ZB (ZB ρ i x) j y),st')
 | _=>none
noncomputable def Zcw (a:Nat) (d:D) (st:Za):Option Za:=match st[a]? with
 | some (true,xs)=>if xs.length < Zi then some (st.set a (true,xs++[d])) else none
 | _=>none
noncomputable def Ui (a:Nat) (j:Int) (d:D) (st:Za):Option Za:=match st[a]? with
 | some (true,xs)=>match ixN xs.length j with
  | some p=>some (st.set a (true,xs.set p d))
  | none=>none
 | _=>none
noncomputable def Zcl (i:Nat) (f:Ev):Ex:=fun ρ st=>match ρ[i]? with
 | some (some (.lst a))=>match f ρ st with
  | some (d,st')=>match Zcw a d st' with
   | some st2=>some (.nx ρ,st2)
   | none=>none
  | none=>none
 | _=>none
noncomputable def Ze6 (a b:Nat) (st:Za):Option Za:=match st[a]?,st[b]? with
 | some (true,xs),some (true,ys)=>if xs.length+ys.length≤Zi then some (st.set a (true,xs++ys)) else none
 | _,_=>none
noncomputable def Za6 (i:Nat) (f:Ev):Ex:=fun ρ st=>match ρ[i]? with
 | some (some (.lst a))=>match f ρ st with
  | some (.lst b,st')=>match Ze6 a b st' with
   | some st2=>some (.nx ρ,st2)
   | none=>none
  | _=>none
 | _=>none
noncomputable def ZbI (i:Nat) (k f:Ev):Ex:=fun ρ st=>match f ρ st with
 | some (d,st1)=>match ρ[i]? with
  | some (some (.lst a))=>match k ρ st1 with
   | some (.int j,st2)=>match Ui a j d st2 with
    | some st3=>some (.nx ρ,st3)
    | none=>none
   | _=>none
  | _=>none
 | none=>none
noncomputable def Zav (c:Ev) (f g:Ex):Ex:=fun ρ st=>match c ρ st with
 | some (.bl true,st1)=>f ρ st1
 | some (.bl false,st1)=>g ρ st1
 | _=>none
noncomputable def UD (i:Nat) (rng:Bool) (it:Ev) (b:Ex):Ex:=fun ρ st=>match it ρ st with
 | some (x,st1)=>match Xl rng x with
  | some xs=>Yf (fun d ρ s=>b (ZB ρ i d) s) xs ρ st1
  | none=>match rng,x with
   | false,.lst a=>match st1[a]? with
    | some (_,xs)=>ZN (fun d ρ s=>b (ZB ρ i d) s) a xs.length 0 ρ st1
    | none=>none
   | _,_=>none
 | none=>none
noncomputable def Qm (i:Nat) (it:Ev) (b:Ex):Ex:=fun ρ st=>match it ρ st with
 | some (x,st1)=>match VX x with
  | some xs=>Yf (fun d ρ s=>b (ZB ρ i d) s) (xs.map .int) ρ st1
  | none=>none
 | none=>none
noncomputable def Yr (ok:Za→Prop) (body:D→D→Env→Za→Option (Fl×Za)):List (D×D)→Env→Za→Option (Fl×Za)
 | [],ρ,st=>open Classical in if ok st then some (.nx ρ,st) else none
 | p :: ps,ρ,st=>open Classical in if ok st then (match body p.1 p.2 ρ st with
  | some (.nx ρ',st')=>Yr ok body ps ρ' st'
  | some (.ct ρ',st')=>Yr ok body ps ρ' st'
  | some (.bk ρ',st')=>some (.nx ρ',st')
  | some (.rt v,st')=>some (.rt v,st')
  | none=>none) else none
noncomputable def Zik (i j:Nat) (it:Ev) (b:Ex):Ex:=fun ρ st=>match it ρ st with
 | some (.tup [.lst la,.lst lb],st1)=>match st1[la]?,st1[lb]? with
  | some ca,some cb=>Yr (fun s=>s[la]?=some ca∧s[lb]?=some cb) (fun x y ρ s=>b (ZB (ZB ρ i x) j y) s) (ca.2.zip cb.2) ρ st1
  | _,_=>none
 | _=>none
noncomputable def YZ:Nat→List D→List (D×D)
 | _,[]=>[]
 | k,x :: xs=>(.int (k:Int),x) :: YZ (k+1) xs
noncomputable def Zd6 (x:D) (st:Za):Option (List D×(Za→Prop)):=match x with
 | .tup xs=>some (xs,fun _=>True)
 | .lst a=>match st[a]? with
  | some c=>some (c.2,fun s=>s[a]?=some c)
  | none=>none
 | _=>none
noncomputable def VO (i j:Nat) (it:Ev) (b:Ex):Ex:=fun ρ st=>match it ρ st with
 | some (x,st1)=>match Zd6 x st1 with
  | some (xs,ok)=>Yr ok (fun x y ρ s=>b (ZB (ZB ρ i x) j y) s) (YZ 0 xs) ρ st1
  | none=>none
 | none=>none
noncomputable def UT (i j:Nat) (b:Ex) (d:D) (ρ:Env) (s:Za):Option (Fl×Za):=match d with
 | .tup [x,y]=>b (ZB (ZB ρ i x) j y) s
 | _=>none
noncomputable def VS (i j:Nat) (it:Ev) (b:Ex):Ex:=fun ρ st=>match it ρ st with
 | some (.lst a,st1)=>match st1[a]? with
  | some (_,xs)=>ZN (UT i j b) a xs.length 0 ρ st1
  | none=>none
 | some (.tup xs,st1)=>Yf (UT i j b) xs ρ st1
 | _=>none


noncomputable def ex (F:Nat→Fn):CS→Ex
 | .skip=>fun ρ st=>some (.nx ρ,st)
 | .seq a b=>Vj (ex F a) (ex F b)
 | .ret e=>Jk (ev F e)
 | .set i e=>UY i (ev F e)
 | .app i e=>Zcl i (ev F e)
 | .ext i e=>Za6 i (ev F e)
 | .put i k e=>ZbI i (ev F k) (ev F e)
 | .ite c a b=>Zav (ev F c) (ex F a) (ex F b)
 | .for1 i rng it b=>UD i rng (ev F it) (ex F b)
 | .forP _ _ _ _=>fun _ _=>none
 | .forE i j it b=>VO i j (ev F it) (ex F b)
 | .for3 i it b=>Qm i (ev F it) (ex F b)
 | .set2 i j e=>Qw i j (ev F e)
 | .for4 _ _ _ _ _=>fun _ _=>none
 | .for2 i j it b=>VS i j (ev F it) (ex F b)
 | .whl _ _=>fun _ _=>none
 | .brk=>fun ρ st=>some (.bk ρ,st)
 | .cont=>fun ρ st=>some (.ct ρ,st)
 | .stop=>fun _ _=>none

structure FD where
 ps:Nat
 ns:Nat
 body:CS
noncomputable def fnD (F:Nat→Fn) (f:FD):Fn:=fun ds st=>
 if ds.length=f.ps then
  match ex F f.body (ds.map some++List.replicate (f.ns - ds.length) none) st with
  | some (.rt d,st')=>some (d,st')
  | some (.nx _,st')=>some (.non,st')
  | _=>none
 else none
noncomputable def run (T:Nat→Option FD):Nat→Nat→Fn
 | 0,_=>fun _ _=>none
 | n+1,i=>match T i with
  | some f=>fnD (run T n) f
  | none=>fun _ _=>none

inductive GV where
 | fn (i:Nat) (ps:Nat) (ds:List D) | cst (d:D) | blt | dct (ks:List Str) (ds:List D) | cls (i:Nat) (ms:List (Str×Nat×Nat)) (subs:List Nat)
noncomputable abbrev Gs:=List (Str×GV)

noncomputable def CE.ofConst:Const→Option CE
 | .none=>some (.cst .non)
 | .bool b=>some (.cst (.bl b))
 | .int i=>some (.cst (.int i))
 | .str x=>some (.cst (.str x))
 | _=>none
noncomputable def Y0 (sc:Scope) (x:Str):Bool:=!(x==("__debug__":Str))&&!(x==("__classdict__":Str))&&match sc.names.lookup x with
 | some .local=>true
 | some .cell=>true
 | some .free=>true
 | _=>false
noncomputable def ZA (sc:Scope) (x:Str):Bool:=!(x==("__debug__":Str))&&match sc.names.lookup x with
 | some .globalImplicit=>true
 | _=>false
noncomputable def Zge (x:Str):Option Ty:=
 if x = "int" then some .int else if x = "bool" then some .bool else if x = "str" then some .str else if x = "tuple" then some .tuple else none
noncomputable def Yc (sc:Scope):List Str:=(sc.names.filter fun p=>decide (p.2=.free)).map (·.1)

noncomputable def Zfs (f:Str) (x:CE):Option CE:=
 if f = "len" then some (.len x) else if f = "tuple" then some (.tupleOf x) else if f = "list" then some (.listOf x) else if f = "sorted" then some (.rs true x) else none
noncomputable def ZfL (f:Str) (x y:CE):Option CE:=if f = "min" then some (.min x y) else if f = "max" then some (.max x y) else none
noncomputable def Xd (G:Gs) (x:Str):Bool:=match G.lookup x with
 | some .blt=>true
 | _=>false
noncomputable def ZeH (G:Gs) (sc:Scope) (t:Str):Option Ty:=if ZA sc t&&Xd G t then Zge t else none
noncomputable def JK (G:Gs) (sc:Scope):Expr→Option Ty
 | .Name t _=>ZeH G sc t
 | _=>none
noncomputable def ZaE (G:Gs) (sc:Scope) (t:Str):Option (List Nat):=if ZA sc t then (match G.lookup t with
 | some (.cls _ _ subs)=>some subs
 | _=>none) else none
noncomputable def Jb (G:Gs) (sc:Scope):Expr→Option (List Nat)
 | .Name t _=>ZaE G sc t
 | _=>none
noncomputable def Zd7 (m:Str) (k:Nat) (G:Gs) (x:Str):Option (Nat×Nat):=match G.lookup x with
 | some (.cls i ms _)=>(match ms.lookup m with
  | some (j,ps)=>if ps=k+1 then some (i,j) else none
  | none=>none)
 | _=>none
noncomputable def Y5 (m:Str) (k:Nat) (G:Gs):List (Nat×Nat):=(G.map Prod.fst).filterMap (Zd7 m k G)
noncomputable def ZV:List (Option Expr)→Option (List Str)
 | []=>some []
 | some (.Constant (.str k) _ _) :: r=>(ZV r).map (k :: ·)
 | _=>none
noncomputable def Z3 (G:Gs) (sc:Scope):Expr→Option Expr
 | .Call (.Name f _) [a] [] _=>if f = "range"∧ZA sc f=true∧Xd G f=true then some a else none
 | _=>none
noncomputable def ZaU (_:Gs) (_:Scope) (_:Str) (_:Expr):Option Expr:=none
noncomputable def QM (G:Gs) (sc:Scope) (f:Str):Expr→Option (Expr×Expr)
 | .Call (.Name g _) [x,y] [] _=>if f = "list"∧g = "range"∧ZA sc g=true∧Xd G g=true then some (x,y) else none
 | _=>none
noncomputable def Zbt (G:Gs) (sc:Scope) (f:Str) (as:List Expr) (cs:Option CE) (r:Expr→Option CE):Option CE:=
 if ZA sc f then (match G.lookup f with
   | some (.fn i ps ds)=>match cs with
    | some cs=>if as.length≤ps∧ps≤as.length+ds.length then some (.call i cs (ds.drop (as.length+ds.length - ps))) else none
    | none=>none
   | some .blt=>match as with
    | [a]=>match ZaU G sc f a with
     | some e=>(r e).map .tupR
     | none=>match QM G sc f a with
      | some (u,v)=>(match r u,r v with
       | some x,some y=>some (.lstR x y)
       | _,_=>none)
      | none=>match r a with
       | some x=>Zfs f x
       | none=>none
    | [a,b]=>if f = "isinstance" then (match Jb G sc b with
      | some l=>(r a).map (.isc l)
      | none=>(match r a,JK G sc b with
       | some x,some T=>some (.isi T x)
       | _,_=>none)) else (match r a,r b with
      | some x,some y=>ZfL f x y
      | _,_=>none)
    | _=>none
   | some (.cls i _ _)=>match as with
    | []=>some (.new i)
    | _=>none
   | _=>none) else none
noncomputable def Zgp:Expr→Bool
 | .Slice ..=>true
 | _=>false
noncomputable def cVs (f:Expr→Option CE):List Expr→Option CE
 | []=>some .anil
 | e :: es=>match f e,cVs f es with
  | some x,some r=>some (.acons x r)
  | _,_=>none
noncomputable def YX (G:Gs) (sc:Scope):Expr→Option (List Expr)
 | .Call (.Name f _) [a,b] [] _=>if f = "range"∧ZA sc f=true∧Xd G f=true then some [a,b] else none
 | .Call (.Name f _) [a,b,c] [] _=>if f = "range"∧ZA sc f=true∧Xd G f=true then some [a,b,c] else none
 | _=>none
noncomputable def UA (_:Gs) (_:Scope) (_:Expr):Option (List Expr):=none
noncomputable def XT (G:Gs) (sc:Scope):Expr→Option Expr
 | .Call (.Name f _) [a] [] _=>if f = "enumerate"∧ZA sc f=true∧Xd G f=true then some a else none
 | _=>none
noncomputable def V8 (G:Gs) (sc:Scope) (e:Expr):Option Expr:=XT G sc e
noncomputable def tgN:Expr→Option (List Str)
 | .Name x _=>some [x]
 | _=>none
noncomputable def mkC (r:Option (Option Bool)) (fr:List Nat) (ci ce cc:CE):CE:=match r with
 | some (some b)=>.comp b fr ci ce cc
 | some none=>.comp2 fr ci ce cc
 | none=>.compT fr ci ce cc
noncomputable def X9 (N:List Str):List Str→Option (List Nat)
 | []=>some []
 | x :: r=>match N.idxOf? x,X9 N r with
  | some i,some is=>some (i :: is)
  | _,_=>none

noncomputable def Jz (G:Gs) (sc:Scope) (N:List Str) (x:Str):Option CE:=
 if Y0 sc x then (N.idxOf? x).map .var else if ZA sc x then (match G.lookup x with
  | some (.cst d)=>some (.cst d)
  | _=>none) else none
noncomputable def JI (G:Gs) (sc:Scope):Expr→Option (List Str×List D)
 | .Name x _=>if ZA sc x then (match G.lookup x with
  | some (.dct ks ds)=>some (ks,ds)
  | _=>none) else none
 | _=>none
noncomputable def Ut:Expr→Option (Option Expr×Option Expr)
 | .Slice lo hi none _=>some (lo,hi)
 | _=>none
noncomputable def Zcn:Expr→Option Expr
 | .Slice none none (some s) _=>some s
 | _=>none
noncomputable def Ud:CE→Bool
 | .ix (.var _) (.cst (.int _))=>true
 | .var _=>true
 | _=>false
noncomputable def Zfl:CE→Bool
 | .neg (.cst (.int 1))=>true
 | _=>false
noncomputable def Vd (sc:Scope) (x:Str):Bool:=match sc.names.lookup x with
 | some .cell=>true
 | some .free=>true
 | _=>false
noncomputable def Wb (sc sc2:Scope) (xs:List Str):Bool:=
 decide (sc2.kind=.function)&&(sc2.names.all fun p=>decide (p.2≠.cell))&&(xs.all fun x=>decide (sc2.names.lookup x=some .local))&&(sc2.names.all fun p=>!decide (p.2=.local)||decide (sc2.names.lookup p.1=some .local)) &&
 decide (xs++Yc sc2).Nodup&&(Yc sc2).all (fun y=>Vd sc y&&decide (sc2.names.lookup y=some .free))
noncomputable def Zfr (_:CmpOp):Option Bool:=none
mutual
noncomputable def cE (G:Gs):Nat→Scope→List Str→Expr→Option CE
 | 0,_,_,_=>none
 | n+1,sc,N,e=>match e with
  | .Constant c _ _=>CE.ofConst c
  | .Name x _=>Jz G sc N x
  | .BinOp a op b _=>match cE G n sc N a,cE G n sc N b with
   | some x,some y=>some (.bin op x y)
   | _,_=>none
  | .UnaryOp .Not a _=>(cE G n sc N a).map .not
  | .UnaryOp .USub a _=>(cE G n sc N a).map .neg
  | .UnaryOp .Invert a _=>(cE G n sc N a).map .inv
  | .Compare a [op] [b] _=>match Z3 G sc b with
   | some e=>(match Zfr op,cE G n sc N a,cE G n sc N e with
    | some ng,some x,some y=>some (.inR ng x y)
    | _,_,_=>none)
   | none=>(match cE G n sc N a,cE G n sc N b with
    | some x,some y=>some (.cmp op x y)
    | _,_=>none)
  | .Compare a [op,op2] [b,b2] _=>match cE G n sc N a,cE G n sc N b,cE G n sc N b2 with
   | some x,some y,some z=>if Ud y=true then some (.and (.cmp op x y) (.cmp op2 y z)) else none
   | _,_,_=>none
  | .BoolOp _ [a] _=>cE G n sc N a
  | .BoolOp .And (a :: b :: r) pos=>match cE G n sc N a,cE G n sc N (.BoolOp .And (b :: r) pos) with
   | some x,some y=>some (.and x y)
   | _,_=>none
  | .BoolOp .Or (a :: b :: r) pos=>match cE G n sc N a,cE G n sc N (.BoolOp .Or (b :: r) pos) with
   | some x,some y=>some (.or x y)
   | _,_=>none
  | .IfExp c a b _=>match cE G n sc N c,cE G n sc N a,cE G n sc N b with
   | some z,some x,some y=>some (.ife z x y)
   | _,_,_=>none
  | .Tuple es _ _=>(cEs G n sc N es).map .tupE
  | .List es _=>(cEs G n sc N es).map .lstE
  | .Dict keys vals _=>match ZV keys,cVs (cE G n sc N) vals with
   | some ks,some c=>if keys.length=vals.length∧keys≠[]∧keys.length≤15 then some (.dict ks c) else none
   | _,_=>none
  | .Subscript a b _=>match Ut b with
   | some (lo,hi)=>match cE G n sc N a,cO G n sc N lo,cO G n sc N hi with
    | some x,some l,some h=>some (.slice x l h)
    | _,_,_=>none
   | none=>match Zcn b with
    | some s=>(match cE G n sc N a,cE G n sc N s with
     | some x,some y=>if Zfl y=true then some (.rs false x) else none
     | _,_=>none)
    | none=>match JI G sc a with
     | some (ks,ds)=>(cE G n sc N b).map (.look ks ds)
     | none=>(match cE G n sc N a,cE G n sc N b with
      | some x,some y=>some (.ix x y)
      | _,_=>none)
  | .Call (.Name f _) as [] _=>Zbt G sc f as (cEs G n sc N as) (cE G n sc N)
  | .Call (.Attribute (.Dict ks vs dp) m ap) [a,b] [] cp=>if m = "get"∧(ap.endLine==cp.line)=true then (match cE G n sc N (.Dict ks vs dp),cE G n sc N a,cE G n sc N b with
   | some x,some y,some z=>some (.dget x y z)
   | _,_,_=>none) else none
  | .Call (.Attribute (.Name y yp) m ap) as [] cp=>if (ap.endLine==cp.line)=true∧as.length < 20 then (match cE G n sc N (.Name y yp),cEs G n sc N as with
   | some x,some c=>if m = "index" then (if as.length=1 then some (.tix x c) else none) else some (.meth (Y5 m as.length G) x c)
   | _,_=>none) else none
  | .ListComp elt [⟨tg,it,ifs,0⟩] sc2 _=>match tgN tg with
   | none=>none
   | some xs=>if Wb sc sc2 xs then
    (match X9 N (Yc sc2),(match xs with
     | [_]=>(match Z3 G sc it with
      | some a=>(cE G n sc N a).map fun c=>(some (some true),c)
      | none=>(cE G n sc N it).map fun c=>(some (some false),c))
     | _=>(match XT G sc it with
      | some a=>(cE G n sc N a).map fun c=>(some none,c)
      | none=>(cE G n sc N it).map fun c=>(none,c))),cE G n sc2 (xs++Yc sc2) elt,(match ifs with
     | []=>some (CE.cst (.bl true))
     | [c]=>cE G n sc2 (xs++Yc sc2) c
     | _=>none) with
    | some fr,some (r,ci),some ce,some cc=>some (mkC r fr ci ce cc)
    | _,_,_,_=>none) else none
  | _=>none
noncomputable def cEs (G:Gs):Nat→Scope→List Str→List Expr→Option CE
 | 0,_,_,_=>none
 | _+1,_,_,[]=>some .anil
 | n+1,sc,N,e :: es=>match cE G n sc N e,cEs G n sc N es with
  | some x,some r=>some (.acons x r)
  | _,_=>none
noncomputable def cO (G:Gs):Nat→Scope→List Str→Option Expr→Option CE
 | 0,_,_,_=>none
 | _+1,_,_,none=>some .nop
 | n+1,sc,N,some e=>(cE G n sc N e).map .part
end

noncomputable def Xh:Expr→Bool
 | .ListComp ..=>true
 | .SetComp ..=>true
 | .DictComp ..=>true
 | _=>false
noncomputable def Jn:Expr→Bool
 | .Tuple ..=>true
 | _=>false
mutual
noncomputable def cS (G:Gs):Nat→Scope→List Str→Stmt→Option CS
 | 0,_,_,_=>none
 | n+1,sc,N,s=>match s with
  | .Assign [.Name x _] e _=>match N.idxOf? x,cE G n sc N e with
   | some i,some c=>some (.set i c)
   | _,_=>none
  | .Assign [.Subscript (.Name x _) k _] e _=>if Xh e then none else (if Zgp k then none else match N.idxOf? x,cE G n sc N k,cE G n sc N e with
    | some i,some ck,some c=>if Y0 sc x then some (.put i ck c) else none
    | _,_,_=>none)
  | .Assign [.Tuple [.Name x _,.Name y _] _ _] e _=>if Xh e||Jn e then none else match N.idxOf? x,N.idxOf? y,cE G n sc N e with
   | some i,some j,some c=>if i=j then none else some (.set2 i j c)
   | _,_,_=>none
  | .Return (some e) _=>(cE G n sc N e).map .ret
  | .If c a b _=>match cE G n sc N c,cSs G n sc N a,cSs G n sc N b with
   | some cc,some ca,some cb=>some (.ite cc ca cb)
   | _,_,_=>none
  | .For (.Name x _) it b [] _=>match YX G sc it with
   | some as=>(match N.idxOf? x,cEs G n sc N as,cSs G n sc N b with
    | some i,some ci,some cb=>some (.for3 i ci cb)
    | _,_,_=>none)
   | none=>match N.idxOf? x,(match Z3 G sc it with
     | some a=>(cE G n sc N a).map fun c=>(true,c)
     | none=>(cE G n sc N it).map fun c=>(false,c)),cSs G n sc N b with
   | some i,some (r,ci),some cb=>some (.for1 i r ci cb)
   | _,_,_=>none
  | .For (.Tuple [.Name x _,.Name y _] _ _) it b [] _=>match UA G sc it with
   | some as=>(match N.idxOf? x,N.idxOf? y,cEs G n sc N as,cSs G n sc N b with
    | some i,some j,some ci,some cb=>if i=j then none else some (.forP i j ci cb)
    | _,_,_,_=>none)
   | none=>match V8 G sc it with
    | some e=>(match N.idxOf? x,N.idxOf? y,cE G n sc N e,cSs G n sc N b with
     | some i,some j,some ci,some cb=>if i=j then none else some (.forE i j ci cb)
     | _,_,_,_=>none)
    | none=>(match N.idxOf? x,N.idxOf? y,cE G n sc N it,cSs G n sc N b with
     | some i,some j,some ci,some cb=>if i=j then none else some (.for2 i j ci cb)
     | _,_,_,_=>none)
  | .For (.Tuple [.Name x _,.Name y _,.Name z _] _ _) it b [] _=>match N.idxOf? x,N.idxOf? y,N.idxOf? z,cE G n sc N it,cSs G n sc N b with
   | some i,some j,some l,some ci,some cb=>some (.for4 i j l ci cb)
   | _,_,_,_,_=>none
  | .Expr (.Call (.Attribute (.Name x _) m ap) [e] [] cp) _=>if m = "append"∧Y0 sc x=true∧(ap.endLine==cp.line)=true then (match N.idxOf? x,cE G n sc N e with
   | some i,some c=>some (.app i c)
   | _,_=>none) else if m = "extend"∧Y0 sc x=true∧(ap.endLine==cp.line)=true then (match N.idxOf? x,cE G n sc N e with
   | some i,some c=>some (.ext i c)
   | _,_=>none) else none
  | .Pass _=>some .skip
  | .Break _=>some .brk
  | .Continue _=>some .cont
  | .Raise _ _ _=>some .stop
  | _=>none
noncomputable def cSs (G:Gs):Nat→Scope→List Str→List Stmt→Option CS
 | 0,_,_,_=>none
 | _+1,_,_,[]=>some .skip
 | n+1,sc,N,s :: r=>match cS G n sc N s,cSs G n sc N r with
  | some a,some b=>some (.seq a b)
  | _,_=>none
end
end Dp


namespace Dp
open PySem PySem.Spec PyProof.Rows L2
class ClsTab where
 ca:Nat→Addr
variable [ClsTab]

theorem Zq {X:Cx}{e:Expr}{t t':TE} (h:PE X e t) (i:∀ σ H Q,t' σ H Q→t σ H Q):PE X e t':=fun pins s σ H Q I q=>h pins s σ H Q I (i σ H Q q)
theorem Wa {X:Cx}{e:Expr}{t t':TT} (h:PT X e t) (i:∀ σ H Q,t' σ H Q→t σ H Q):PT X e t':=fun pins s σ H Q I q=>h pins s σ H Q I (i σ H Q q)
theorem Zb0 {X:Cx}{e:List Expr}{t t':TA} (h:PA X e t) (i:∀ σ H Q,t' σ H Q→t σ H Q):PA X e t':=fun pos pins s σ H Q I q=>h pos pins s σ H Q I (i σ H Q q)
theorem Zbd {X:Cx}{e:Option Expr}{t t':TO} (h:PO X e t) (i:∀ σ H Q,t' σ H Q→t σ H Q):PO X e t':=fun pins s σ H Q I q=>h pins s σ H Q I (i σ H Q q)
theorem Z0 {X:Cx}{e:Stmt}{t t':TS} (h:PS X e t) (i:∀ D σ H,t' D σ H→t D σ H):PS X e t':=fun pins s σ H D I q=>h pins s σ H D I (i D σ H q)
theorem Jv {X:Cx}{e:List Stmt}{t t':TS} (h:PSs X e t) (i:∀ D σ H,t' D σ H→t D σ H):PSs X e t':=fun pins s σ H D I q=>h pins s σ H D I (i D σ H q)

noncomputable def KT (K:PySem.W.Frag) (a:Addr) (xs:List V):Prop:=
 ∃ (o:Obj) (its:Array Value) (n:Nat),K.lookup a=some o∧o.cls=.type "tuple"∧o.data=.seq its n∧its.size≤sizeLine∧Vals xs its.toList
noncomputable def TupAt (K:PySem.W.Frag) (H:Hp) (a:Addr) (xs:List V):Prop:=H a=some (.tup xs)∨KT K a xs
theorem TupAt.sq {K:PySem.W.Frag}{H:Hp}{a:Addr}{xs:List V} (h:TupAt K H a xs):SqT K H a xs:=by
 rcases h with h | h
 ·exact .inl (.inl h)
 ·exact .inr h
mutual
inductive Den (K:PySem.W.Frag) (ad:List Addr) (H:Hp):V→D→Prop where
 | non:Den K ad H .non .non
 | bl (b:Bool):Den K ad H (.bl b) (.bl b)
 | int (i:Int):Den K ad H (.int i) (.int i)
 | str (x:Str):Den K ad H (.str x) (.str x)
 | tup {a:Addr}{xs:List V}{ds:List D} (h:TupAt K H a xs) (r:Dens K ad H xs ds):Den K ad H (.ref a) (.tup ds)
 | lst {a:Addr}{i:Nat} (h:ad[i]?=some a):Den K ad H (.ref a) (.lst i)
 | dct {a:Addr}{kvs:List (Key×V)}{ks:List Str}{vs:List V}{ds:List D} (h:H a=some (.dK kvs)) (hk:kvs=(ks.zip vs).map fun p=>(Sum.inr p.1,p.2)) (nd:ks.Nodup∧ks≠[]) (hl:ks.length=vs.length) (r:Dens K ad H vs ds):Den K ad H (.ref a) (.dct ks ds)
 | obj {a dx:Addr}{i:Nat} (h:H a=some (.ins (ClsTab.ca i) dx [])) (n:a∉ad):Den K ad H (.ref a) (.obj i)
 | kt {a:Addr}{ks:List Str}{o:Obj}{its:Array Value}{n:Nat} (l:K.lookup a=some o) (c:o.cls=.type "tuple") (g:o.dict=none) (e:o.data=.seq its n) (z:its.size≤sizeLine) (r:Vals (ks.map V.str) its.toList):Den K ad H (.ref a) (.kt ks)
inductive Dens (K:PySem.W.Frag) (ad:List Addr) (H:Hp):List V→List D→Prop where
 | nil:Dens K ad H [] []
 | cons {v:V}{d:D}{vs:List V}{ds:List D} (h:Den K ad H v d) (r:Dens K ad H vs ds):Dens K ad H (v :: vs) (d :: ds)
end

structure Ext (ad:List Addr) (H:Hp) (ad':List Addr) (H':Hp):Prop where
 pre:∀ (i:Nat) (a:Addr),ad[i]?=some a→ad'[i]?=some a
 tup:∀ b xs,H b=some (.tup xs)→H' b=some (.tup xs)
 dk:∀ b kvs,H b=some (.dK kvs)→H' b=some (.dK kvs)
 keep:∀ b o,H b=some o→b∉ad→H' b=some o
 new:∀ b,b∈ad'→b∈ad∨H b=none
theorem Ext.refl (ad:List Addr) (H:Hp):Ext ad H ad H:=⟨fun _ _ h=>h,fun _ _ h=>h,fun _ _ h=>h,fun _ _ h _=>h,fun _ h=>.inl h⟩
theorem Ext.trans {a1 a2 a3:List Addr}{H1 H2 H3:Hp} (x:Ext a1 H1 a2 H2) (y:Ext a2 H2 a3 H3):Ext a1 H1 a3 H3:=by
 refine ⟨fun i a h=>y.pre i a (x.pre i a h),fun b xs h=>y.tup b xs (x.tup b xs h),fun b xs h=>y.dk b xs (x.dk b xs h),fun b o h n=>?_,fun b h=>?_⟩
 ·refine y.keep b o (x.keep b o h n) fun z=>?_
  rcases x.new b z with z | z
  ·exact n z
  ·rw [h] at z; cases z
 ·rcases y.new b h with z | z
  ·exact x.new b z
  ·cases e:H1 b with
   | none=>exact .inr rfl
   | some o=>
    by_cases q:b∈a1
    ·exact .inl q
    ·rw [x.keep b o e q] at z; cases z

theorem TupAt.mono {K:PySem.W.Frag}{ad ad':List Addr}{H H':Hp}{a:Addr}{xs:List V} (x:Ext ad H ad' H') (h:TupAt K H a xs):TupAt K H' a xs:=h.imp (x.tup _ _) id
theorem TupAt.upd {K:PySem.W.Frag}{H:Hp}{a p:Addr}{xs:List V}{o o':HO} (hp:H p=some o) (ho:∀ xs,o≠.tup xs) (h:TupAt K H a xs):TupAt K (upd H p o') a xs:=by
 rcases h with h | h
 ·refine .inl ?_
  have n:a≠p:=fun z=>by subst z; rw [h] at hp; cases hp; exact ho _ rfl
  rw [upd_ne n]; exact h
 ·exact .inr h
section
variable {K:PySem.W.Frag}{ad ad':List Addr}{H H':Hp}
mutual
theorem Den.mono (x:Ext ad H ad' H'):∀ {v:V}{d:D},Den K ad H v d→Den K ad' H' v d
 | _,_,.non=>.non
 | _,_,.bl b=>.bl b
 | _,_,.int i=>.int i
 | _,_,.str y=>.str y
 | _,_,.tup h r=>.tup (h.mono x) (Dens.mono x r)
 | _,_,.lst h=>.lst (x.pre _ _ h)
 | _,_,.dct h hk nd hl r=>.dct (x.dk _ _ h) hk nd hl (Dens.mono x r)
 | _,_,.kt l c g e z r=>.kt l c g e z r
 | _,_,.obj h n=>.obj (x.keep _ _ h n) fun z=>(x.new _ z).elim n fun q=>by rw [h] at q; cases q
theorem Dens.mono (x:Ext ad H ad' H'):∀ {vs:List V}{ds:List D},Dens K ad H vs ds→Dens K ad' H' vs ds
 | _,_,.nil=>.nil
 | _,_,.cons h r=>.cons (Den.mono x h) (Dens.mono x r)
end
mutual
theorem Den.mono' (x:∀ (i:Nat) (a:Addr),ad[i]?=some a→ad'[i]?=some a) (y:∀ b,b∈ad'→b∈ad∨∃ xs,H b=some (.lst xs)):∀ {v:V}{d:D},Den K ad H v d→Den K ad' H v d
 | _,_,.non=>.non
 | _,_,.bl b=>.bl b
 | _,_,.int i=>.int i
 | _,_,.str y=>.str y
 | _,_,.tup h r=>.tup h (Dens.mono' x y r)
 | _,_,.lst h=>.lst (x _ _ h)
 | _,_,.dct h hk nd hl r=>.dct h hk nd hl (Dens.mono' x y r)
 | _,_,.kt l c g e z r=>.kt l c g e z r
 | _,_,.obj h n=>.obj h fun z=>(y _ z).elim n fun ⟨xs,q⟩=>by rw [h] at q; cases q
theorem Dens.mono' (x:∀ (i:Nat) (a:Addr),ad[i]?=some a→ad'[i]?=some a) (y:∀ b,b∈ad'→b∈ad∨∃ xs,H b=some (.lst xs)):∀ {vs:List V}{ds:List D},Dens K ad H vs ds→Dens K ad' H vs ds
 | _,_,.nil=>.nil
 | _,_,.cons h r=>.cons (Den.mono' x y h) (Dens.mono' x y r)
end
theorem Dens.length:∀ {vs:List V}{ds:List D},Dens K ad H vs ds→vs.length=ds.length
 | _,_,.nil=>rfl
 | _,_,.cons _ r=>congrArg (·+1) (Dens.length r)
theorem Dens.get:∀ {vs:List V}{ds:List D}{i:Nat}{d:D},Dens K ad H vs ds→ds[i]?=some d→∃ v,vs[i]?=some v∧Den K ad H v d
 | _,_,_,_,.nil,e=>by simp at e
 | _,_,0,_,.cons h _,e=>by simp at e; subst e; exact ⟨_,rfl,h⟩
 | _,_,i+1,d,.cons _ r,e=>by
  obtain ⟨v,h1,h2⟩:=Dens.get (i:=i) (d:=d) r (by simpa using e)
  exact ⟨v,by simpa using h1,h2⟩
theorem Dens.append:∀ {vs ws:List V}{ds es:List D},Dens K ad H vs ds→Dens K ad H ws es→Dens K ad H (vs++ws) (ds++es)
 | _,_,_,_,.nil,s=>s
 | _,_,_,_,.cons h r,s=>.cons h (Dens.append r s)
theorem Dens.take:∀ {vs:List V}{ds:List D} (n:Nat),Dens K ad H vs ds→Dens K ad H (vs.take n) (ds.take n)
 | _,_,0,_=>.nil
 | _,_,_+1,.nil=>.nil
 | _,_,n+1,.cons h r=>.cons h (Dens.take n r)
theorem Dens.drop:∀ {vs:List V}{ds:List D} (n:Nat),Dens K ad H vs ds→Dens K ad H (vs.drop n) (ds.drop n)
 | _,_,0,r=>r
 | _,_,_+1,.nil=>.nil
 | _,_,n+1,.cons _ r=>Dens.drop n r
theorem Dens.set {v:V}{d:D} (h:Den K ad H v d):∀ {vs:List V}{ds:List D} (n:Nat),Dens K ad H vs ds→Dens K ad H (vs.set n v) (ds.set n d)
 | _,_,_,.nil=>.nil
 | _,_,0,.cons _ r=>.cons h r
 | _,_,n+1,.cons q r=>.cons q (Dens.set h n r)
theorem Dens.rep {v:V}{d:D} (h:Den K ad H v d):∀ n:Nat,Dens K ad H (List.replicate n v) (List.replicate n d)
 | 0=>.nil
 | n+1=>.cons h (Dens.rep h n)
theorem Den.ofInt {v:V}{i:Int} (h:Den K ad H v (.int i)):v=.int i:=by cases h; rfl
theorem Den.ofStr {v:V}{x:Str} (h:Den K ad H v (.str x)):v=.str x:=by cases h; rfl
theorem Den.ofBl {v:V}{b:Bool} (h:Den K ad H v (.bl b)):v=.bl b:=by cases h; rfl
theorem Den.ofDct {v:V}{ks:List Str}{ds:List D} (h:Den K ad H v (.dct ks ds)):∃ a vs,v=.ref a∧H a=some (.dK ((ks.zip vs).map fun p=>(Sum.inr p.1,p.2)))∧ks.length=vs.length∧Dens K ad H vs ds:=by
 cases h with
 | dct h hk nd hl r=>subst hk; exact ⟨_,_,rfl,h,hl,r⟩
theorem Den.ofTup {v:V}{ds:List D} (h:Den K ad H v (.tup ds)):∃ a xs,v=.ref a∧TupAt K H a xs∧Dens K ad H xs ds:=by
 cases h with
 | tup h r=>exact ⟨_,_,rfl,h,r⟩
theorem Den.ofLst {v:V}{i:Nat} (h:Den K ad H v (.lst i)):∃ a,v=.ref a∧ad[i]?=some a:=by
 cases h with
 | lst h=>exact ⟨_,rfl,h⟩

theorem Den.ofKt {v:V}{ks:List Str} (h:Den K ad H v (.kt ks)):∃ a o its n,v=.ref a∧K.lookup a=some o∧(o.cls=.type "tuple"∧o.dict=none)∧o.data=.seq its n∧its.size≤sizeLine∧Vals (ks.map V.str) its.toList:=by
 cases h with
 | kt l c g e z r=>exact ⟨_,_,_,_,rfl,l,⟨c,g⟩,e,z,r⟩
theorem VB:∀ ks:List Str,Dens K ad H (ks.map V.str) (ks.map D.str)
 | []=>.nil
 | k :: ks=>.cons (.str k) (VB ks)
theorem Den.ofObj {v:V}{i:Nat} (h:Den K ad H v (.obj i)):∃ a dx,v=.ref a∧H a=some (.ins (ClsTab.ca i) dx []):=by
 cases h with
 | obj h n=>exact ⟨_,_,rfl,h⟩

noncomputable def KL (K:PySem.W.Frag) (a:Addr) (xs:List V):Prop:=
 ∃ (o:Obj) (its:Array Value) (n:Nat),(K.lookup a=some o∧o.cls=.type "list")∧(o.dict=none∧o.data=.seq its n)∧its.size≤sizeLine∧Vals xs its.toList
noncomputable def CellOk (K:PySem.W.Frag) (ad:List Addr) (H:Hp) (a:Addr) (c:Zag):Prop:=
 ∃ xs,Dens K ad H xs c.2∧((c.1=true∧H a=some (.lst xs))∨(c.1=false∧((∃ o,H a=some (.frz o (.lst xs)))∨KL K a xs)))
structure StOk (K:PySem.W.Frag) (ad:List Addr) (H:Hp) (st:Za):Prop where
 len:ad.length=st.length
 nd:∀ (i j:Nat) (a:Addr) (c d:List D),ad[i]?=some a→ad[j]?=some a→st[i]?=some (true,c)→st[j]?=some (true,d)→i=j
 cell:∀ (i:Nat) (c:Zag),st[i]?=some c→∃ a,ad[i]?=some a∧CellOk K ad H a c

theorem CellOk.sq {a:Addr}{c:Zag} (h:CellOk K ad H a c):∃ xs,Dens K ad H xs c.2∧SqL K H a xs:=by
 obtain ⟨xs,r,⟨_,e⟩ | ⟨_,⟨o,e⟩ | ⟨o,its,n,⟨h1,h2⟩,⟨h3,h4⟩,h5,h6⟩⟩⟩:=h
 ·exact ⟨xs,r,.inl (.inl e)⟩
 ·exact ⟨xs,r,.inl (.inr ⟨o,e⟩)⟩
 ·exact ⟨xs,r,.inr ⟨o,its,n,h1,h2,h3,h4,h5,h6⟩⟩
theorem StOk.list {st:Za}{a:Addr}{i:Nat}{b:Bool}{ds:List D} (S:StOk K ad H st) (h:ad[i]?=some a) (e:st[i]?=some (b,ds)):∃ xs,Dens K ad H xs ds∧SqL K H a xs:=by
 obtain ⟨a',e',c⟩:=S.cell i _ e
 rw [h] at e'; cases e'
 exact c.sq
theorem StOk.listM {st:Za}{a:Addr}{i:Nat}{ds:List D} (S:StOk K ad H st) (h:ad[i]?=some a) (e:st[i]?=some (true,ds)):∃ xs,Dens K ad H xs ds∧H a=some (.lst xs):=by
 obtain ⟨a',e',xs,r,⟨_,q⟩ | ⟨q,_⟩⟩:=S.cell i _ e
 ·rw [h] at e'; cases e'
  exact ⟨xs,r,q⟩
 ·cases q
theorem Ext.laid {p:Addr}{o:HO} (hp:H p=none):Ext ad H ad (upd H p o):=
 ⟨fun _ _ h=>h,fun b xs h=>by rw [upd_ne (ne_of_none h hp)]; exact h,fun b xs h=>by rw [upd_ne (ne_of_none h hp)]; exact h,fun b o h _=>by rw [upd_ne (ne_of_none h hp)]; exact h,fun _ h=>.inl h⟩
theorem CellOk.laid {p a:Addr}{o:HO}{c:Zag}{ad':List Addr} (hp:H p=none) (x:Ext ad H ad' (upd H p o)) (h:CellOk K ad H a c):CellOk K ad' (upd H p o) a c:=by
 obtain ⟨xs,r,h⟩:=h
 refine ⟨xs,r.mono x,?_⟩
 rcases h with ⟨b,e⟩ | ⟨b,⟨o,e⟩ | e⟩
 ·exact .inl ⟨b,by rw [upd_ne (ne_of_none e hp)]; exact e⟩
 ·exact .inr ⟨b,.inl ⟨o,by rw [upd_ne (ne_of_none e hp)]; exact e⟩⟩
 ·exact .inr ⟨b,.inr e⟩
theorem StOk.laid {st:Za}{p:Addr}{o:HO} (S:StOk K ad H st) (hp:H p=none):StOk K ad (upd H p o) st:=
 ⟨S.len,S.nd,fun i c e=>let ⟨a,h,q⟩:=S.cell i c e; ⟨a,h,q.laid hp (Ext.laid hp)⟩⟩
theorem Yo {α:Type}{l:List α}{x y:α}{i:Nat} (h:(l++[x])[i]?=some y):l[i]?=some y∨(i=l.length∧y=x):=by
 by_cases hi:i < l.length
 ·rw [List.getElem?_append_left hi] at h
  exact .inl h
 ·rw [List.getElem?_append_right (by omega)] at h
  have:i - l.length=0:=by
   cases e:i - l.length with
   | zero=>rfl
   | succ k=>rw [e] at h; simp at h
  rw [this] at h
  simp at h
  exact .inr ⟨by omega,h.symm⟩
theorem ZL {α:Type}{l:List α}{x y:α}{i:Nat} (h:l[i]?=some y):(l++[x])[i]?=some y:=by
 rw [List.getElem?_append_left (List.getElem?_eq_some_iff.mp h).1]
 exact h
theorem Zu {α:Type}{l:List α}{x:α}:(l++[x])[l.length]?=some x:=by simp
theorem Ext.push {p:Addr}{o:HO} (hp:H p=none):Ext ad H (ad++[p]) (upd H p o):=
 ⟨fun _ _ h=>ZL h,(Ext.laid (ad:=ad) hp).tup,(Ext.laid (ad:=ad) hp).dk,(Ext.laid (ad:=ad) hp).keep,fun b h=>(List.mem_append.mp h).elim .inl fun z=>.inr (by rw [List.mem_singleton.mp z]; exact hp)⟩
theorem StOk.push {st:Za}{p:Addr}{xs:List V}{ds:List D} (S:StOk K ad H st) (hp:H p=none) (r:Dens K ad H xs ds):StOk K (ad++[p]) (upd H p (.lst xs)) (st++[(true,ds)]):=by
 have old:∀ (i:Nat) (c:List D) (a:Addr),ad[i]?=some a→st[i]?=some (true,c)→a≠p:=fun i c a h e z=>by
  obtain ⟨xs',_,q⟩:=S.listM h e
  rw [z,hp] at q; cases q
 refine ⟨by rw [List.length_append,List.length_append,S.len]; rfl,fun i j a c d h1 h2 h3 h4=>?_,fun i c e=>?_⟩
 ·rcases Yo h3 with h3 | ⟨e3,_⟩
  ·rcases Yo h4 with h4 | ⟨e4,_⟩
   ·obtain ⟨a1,q1,_⟩:=S.cell i _ h3
    obtain ⟨a2,q2,_⟩:=S.cell j _ h4
    have z1:=ZL (x:=p) q1
    have z2:=ZL (x:=p) q2
    rw [h1] at z1; cases z1
    rw [h2] at z2; cases z2
    exact S.nd i j a c d q1 q2 h3 h4
   ·obtain ⟨a1,q1,_⟩:=S.cell i _ h3
    have z1:=ZL (x:=p) q1
    rw [h1] at z1; cases z1
    rw [e4,←S.len,Zu] at h2
    exact absurd (Option.some.inj h2).symm (old i c a q1 h3)
  ·rcases Yo h4 with h4 | ⟨e4,_⟩
   ·obtain ⟨a2,q2,_⟩:=S.cell j _ h4
    have z2:=ZL (x:=p) q2
    rw [h2] at z2; cases z2
    rw [e3,←S.len,Zu] at h1
    exact absurd (Option.some.inj h1).symm (old j d a q2 h4)
   ·omega
 ·rcases Yo e with e | ⟨e1,e2⟩
  ·obtain ⟨a,h,q⟩:=S.cell i c e
   exact ⟨a,ZL h,q.laid hp (Ext.push hp)⟩
  ·subst e2
   refine ⟨p,by rw [e1,←S.len]; exact Zu,xs,r.mono (Ext.push hp),.inl ⟨rfl,upd_same⟩⟩
theorem StOk.adopt {st:Za}{p:Addr}{xs:List V}{ds:List D} (S:StOk K ad H st) (hp:H p=some (.lst xs)) (hn:p∉ad) (r:Dens K ad H xs ds):StOk K (ad++[p]) H (st++[(true,ds)]):=by
 have mono:∀ {vs:List V}{es:List D},Dens K ad H vs es→Dens K (ad++[p]) H vs es:=fun h=>by
  exact Dens.mono' (fun _ _ h=>ZL h) (fun b hb=>(List.mem_append.mp hb).imp id fun z=>⟨xs,by rw [List.mem_singleton.mp z]; exact hp⟩) h
 refine ⟨by rw [List.length_append,List.length_append,S.len]; rfl,fun i j a c d h1 h2 h3 h4=>?_,fun i c e=>?_⟩
 ·rcases Yo h3 with h3 | ⟨e3,_⟩
  ·rcases Yo h4 with h4 | ⟨e4,_⟩
   ·obtain ⟨a1,q1,_⟩:=S.cell i _ h3
    obtain ⟨a2,q2,_⟩:=S.cell j _ h4
    have z1:=ZL (x:=p) q1
    have z2:=ZL (x:=p) q2
    rw [h1] at z1; cases z1
    rw [h2] at z2; cases z2
    exact S.nd i j a c d q1 q2 h3 h4
   ·obtain ⟨a1,q1,_⟩:=S.cell i _ h3
    have z1:=ZL (x:=p) q1
    rw [h1] at z1; cases z1
    rw [e4,←S.len,Zu] at h2
    cases h2
    exact absurd (List.mem_of_getElem? q1) hn
  ·rcases Yo h4 with h4 | ⟨e4,_⟩
   ·obtain ⟨a2,q2,_⟩:=S.cell j _ h4
    have z2:=ZL (x:=p) q2
    rw [h2] at z2; cases z2
    rw [e3,←S.len,Zu] at h1
    cases h1
    exact absurd (List.mem_of_getElem? q2) hn
   ·omega
 ·rcases Yo e with e | ⟨e1,e2⟩
  ·obtain ⟨a,h,xs,r,q⟩:=S.cell i c e
   exact ⟨a,ZL h,xs,mono r,q⟩
  ·subst e2
   exact ⟨p,by rw [e1,←S.len]; exact Zu,xs,mono r,.inl ⟨rfl,hp⟩⟩
theorem Ext.write {a:Addr}{xs ys:List V} (h:H a=some (.lst xs)) (ha:a∈ad):Ext ad H ad (upd H a (.lst ys)):=
 ⟨fun _ _ h=>h,fun b zs e=>by rw [upd_ne (ne_of e h (by intro z; cases z))]; exact e,fun b zs e=>by rw [upd_ne (ne_of e h (by intro z; cases z))]; exact e,fun b o e n=>by rw [upd_ne (show b≠a from fun z=>n (by rw [z]; exact ha))]; exact e,fun _ h=>.inl h⟩
theorem StOk.write {st:Za}{a:Addr}{i:Nat}{ds es:List D}{xs ys:List V} (S:StOk K ad H st) (h:ad[i]?=some a) (e:st[i]?=some (true,ds)) (hx:H a=some (.lst xs)) (r:Dens K ad H ys es) :
  StOk K ad (upd H a (.lst ys)) (st.set i (true,es)):=by
 have hi:i < st.length:=(List.getElem?_eq_some_iff.mp e).1
 have hm:a∈ad:=List.mem_of_getElem? h
 refine ⟨by rw [List.length_set]; exact S.len,fun j k b c d h1 h2 h3 h4=>?_,fun j c q=>?_⟩
 ·have up:∀ (j:Nat) (c:List D),(st.set i (true,es))[j]?=some (true,c)→∃ c',st[j]?=some (true,c'):=fun j c q=>by
   by_cases z:i=j
   ·subst z; exact ⟨_,e⟩
   ·rw [List.getElem?_set_ne z] at q; exact ⟨_,q⟩
  obtain ⟨c',h3⟩:=up j c h3
  obtain ⟨d',h4⟩:=up k d h4
  exact S.nd j k b c' d' h1 h2 h3 h4
 ·by_cases z:i=j
  ·subst z
   rw [List.getElem?_set_self hi] at q
   cases q
   exact ⟨a,h,ys,r.mono (Ext.write hx hm),.inl ⟨rfl,upd_same⟩⟩
  ·rw [List.getElem?_set_ne z] at q
   obtain ⟨b,hb,zs,rz,hz⟩:=S.cell j c q
   refine ⟨b,hb,zs,rz.mono (Ext.write hx hm),?_⟩
   rcases hz with ⟨t,hz⟩ | ⟨t,⟨o,hz⟩ | hz⟩
   ·obtain ⟨cb,cl⟩:=c
    cases (show cb=true from t)
    have ne:b≠a:=fun w=>z (S.nd i j a ds cl h (w ▸ hb) e q)
    exact .inl ⟨rfl,by rw [upd_ne ne]; exact hz⟩
   ·exact .inr ⟨t,.inl ⟨o,by rw [upd_ne (ne_of hz hx (by intro z; cases z))]; exact hz⟩⟩
   ·exact .inr ⟨t,.inr hz⟩

structure EnvOk (K:PySem.W.Frag) (ad:List Addr) (H:Hp) (σ:L2.St) (ρ:Env):Prop where
 len:σ.length=ρ.length
 at_:∀ (i:Nat) (d:D),ρ[i]?=some (some d)→∃ v,σ[i]?=some (some v)∧Den K ad H v d
theorem EnvOk.mono {σ:L2.St}{ρ:Env} (x:Ext ad H ad' H') (h:EnvOk K ad H σ ρ):EnvOk K ad' H' σ ρ:=⟨h.len,fun i d e=>let ⟨v,e1,e2⟩:=h.at_ i d e; ⟨v,e1,e2.mono x⟩⟩
theorem EnvOk.set {σ:L2.St}{ρ:Env}{v:V}{d:D} (h:EnvOk K ad H σ ρ) (i:Nat) (r:Den K ad H v d):EnvOk K ad H (σ.set i (some v)) (ZB ρ i d):=by
 refine ⟨by unfold ZB; rw [List.length_set,List.length_set]; exact h.len,fun j e q=>?_⟩
 unfold ZB at q
 by_cases z:i=j
 ·subst z
  by_cases hi:i < ρ.length
  ·rw [List.getElem?_set_self hi] at q
   cases q
   exact ⟨v,by rw [List.getElem?_set_self (by rw [h.len]; exact hi)],r⟩
  ·rw [List.getElem?_eq_none (by rw [List.length_set]; omega)] at q
   cases q
 ·rw [List.getElem?_set_ne z] at q
  obtain ⟨w,e1,e2⟩:=h.at_ j e q
  exact ⟨w,by rw [List.getElem?_set_ne z]; exact e1,e2⟩
end

noncomputable def Post (K:PySem.W.Frag) (ad:List Addr) (H:Hp) (d:D) (st':Za) (Q:VK):Prop:=∀ v ad' H',Ext ad H ad' H'→StOk K ad' H' st'→Den K ad' H' v d→Q v H'
noncomputable def tE (K:PySem.W.Frag) (f:Env→Za→Res):TE:=fun σ H Q=>∃ ad ρ st d st',EnvOk K ad H σ ρ∧StOk K ad H st∧f ρ st=some (d,st')∧Post K ad H d st' Q
noncomputable def tT (K:PySem.W.Frag) (f:Env→Za→Res):TT:=fun σ H Q=>∃ ad ρ st k st',EnvOk K ad H σ ρ∧StOk K ad H st∧f ρ st=some (.bl k,st')∧∀ ad' H',Ext ad H ad' H'→StOk K ad' H' st'→Q k H'
noncomputable def tA (K:PySem.W.Frag) (f:Env→Za→Res):TA:=fun σ H Q=>∃ ad ρ st ds st',EnvOk K ad H σ ρ∧StOk K ad H st∧f ρ st=some (.tup ds,st')∧∀ vs ad' H',Ext ad H ad' H'→StOk K ad' H' st'→Dens K ad' H' vs ds→Q vs H'
noncomputable def rD (K:PySem.W.Frag) (f:D→D→Za→Res):R2:=fun x y H Q=>∃ ad st dx dy d st',StOk K ad H st∧Den K ad H x dx∧Den K ad H y dy∧f dx dy st=some (d,st')∧Post K ad H d st' Q
noncomputable def spD (K:PySem.W.Frag) (g:Fn):Sp:=fun vs H Q _=>∃ ad ds st d st',StOk K ad H st∧Dens K ad H vs ds∧g ds st=some (d,st')∧Post K ad H d st' Q
noncomputable def tS (K:PySem.W.Frag) (f:Env→Za→Option (Fl×Za)):TS:=fun D σ H=>∃ ad ρ st r st',EnvOk K ad H σ ρ∧StOk K ad H st∧f ρ st=some (r,st') ∧
 match r with
 | .nx ρ'=>∀ σ' ad' H',Ext ad H ad' H'→StOk K ad' H' st'→EnvOk K ad' H' σ' ρ'→D.nx σ' H'
 | .bk ρ'=>∀ σ' ad' H',Ext ad H ad' H'→StOk K ad' H' st'→EnvOk K ad' H' σ' ρ'→D.bk σ' H'
 | .ct ρ'=>∀ σ' ad' H',Ext ad H ad' H'→StOk K ad' H' st'→EnvOk K ad' H' σ' ρ'→D.ct σ' H'
 | .rt d=>Post K ad H d st' D.rt
theorem Post.at {K:PySem.W.Frag}{ad:List Addr}{H:Hp}{d:D}{st:Za}{Q:VK} (p:Post K ad H d st Q) (S:StOk K ad H st) {v:V} (h:Den K ad H v d):Q v H:=p v ad H (Ext.refl _ _) S h
theorem Post.later {K:PySem.W.Frag}{ad ad':List Addr}{H H':Hp}{d:D}{st:Za}{Q:VK} (p:Post K ad H d st Q) (x:Ext ad H ad' H'):Post K ad' H' d st Q:=fun v a2 H2 y S h=>p v a2 H2 (x.trans y) S h
end Dp



namespace Dp
open PySem PySem.Spec PyProof.Rows L2
variable [ClsTab]
section
variable {X:Cx}{a b c:Expr}{fa fb fc:Ev}{pos:Pos}

theorem Zds {K:PySem.W.Frag}{i:Nat} (σ:L2.St) (H:Hp) (Q:VK) (h:tE K (Yw i) σ H Q):tVar i σ H Q:=by
 obtain ⟨ad,ρ,st,d,st',E,S,e,p⟩:=h
 unfold Yw at e
 split at e
 ·rename_i q
  obtain ⟨v,e1,e2⟩:=E.at_ i _ q
  cases e
  exact ⟨v,e1,p.at S e2⟩
 ·cases e
theorem Qp {K:PySem.W.Frag}{v:V}{d:D} (hd:∀ ad H,Den K ad H v d) (σ:L2.St) (H:Hp) (Q:VK) (h:tE K (evC d) σ H Q):tC v σ H Q:=by
 obtain ⟨ad,ρ,st,d',st',E,S,e,p⟩:=h
 cases e
 exact p.at S (hd _ _)
theorem Um {K:PySem.W.Frag}{g:D→D→Za→Res} (σ:L2.St) (H:Hp) (Q:VK) (h:tE K (Z2 fa fb g) σ H Q):tOp (rD K g) (tE K fa) (tE K fb) σ H Q:=by
 obtain ⟨ad,ρ,st,d,st',E,S,e,p⟩:=h
 unfold Z2 at e
 split at e
 ·rename_i x st1 q1
  split at e
  ·rename_i y st2 q2
   refine ⟨ad,ρ,st,x,st1,E,S,q1,fun v1 ad1 H1 x1 S1 d1=>⟨ad1,ρ,st1,y,st2,E.mono x1,S1,q2,fun v2 ad2 H2 x2 S2 d2=>?_⟩⟩
   exact ⟨ad2,st2,x,y,d,st',S2,d1.mono x2,d2,e,p.later (x1.trans x2)⟩
  ·cases e
 ·cases e
noncomputable def rU1 (K:PySem.W.Frag) (g:D→Za→Res):V→Hp→VK→Prop:=fun x H Q=>∃ ad st dx d st',StOk K ad H st∧Den K ad H x dx∧g dx st=some (d,st')∧Post K ad H d st' Q
theorem ZbQ {K:PySem.W.Frag}{g:D→Za→Res} (σ:L2.St) (H:Hp) (Q:VK) (h:tE K (ZE fa g) σ H Q):tUn (rU1 K g) (tE K fa) σ H Q:=by
 obtain ⟨ad,ρ,st,d,st',E,S,e,p⟩:=h
 unfold ZE at e
 split at e
 ·rename_i x st1 q1
  exact ⟨ad,ρ,st,x,st1,E,S,q1,fun v1 ad1 H1 x1 S1 d1=>⟨ad1,st1,x,d,st',S1,d1,e,p.later x1⟩⟩
 ·cases e
theorem QZ {K:PySem.W.Frag} (σ:L2.St) (H:Hp) (Q:Bool→Hp→Prop) (h:tT K fa σ H Q):tE K fa σ H fun x H1=>∃ c,x=.bl c∧Q c H1:=by
 obtain ⟨ad,ρ,st,k,st',E,S,e,p⟩:=h
 exact ⟨ad,ρ,st,.bl k,st',E,S,e,fun v ad' H' x S' d'=>⟨k,d'.ofBl,p ad' H' x S'⟩⟩
theorem Yd {fc ft ff:Ev}{ρ:Env}{st:Za}{r:D×Za} (h:Xf fc ft ff ρ st=some r):∃ k st1,fc ρ st=some (.bl k,st1)∧(if k=true then ft ρ st1 else ff ρ st1)=some r:=by
 unfold Xf at h
 split at h
 ·rename_i st1 q
  exact ⟨true,st1,q,by rw [if_pos rfl]; exact h⟩
 ·rename_i st1 q
  exact ⟨false,st1,q,by rw [if_neg Bool.false_ne_true]; exact h⟩
 ·cases h
theorem Zfe {K:PySem.W.Frag} (σ:L2.St) (H:Hp) (Q:VK) (h:tE K (Xf fc fa fb) σ H Q):tIf (tT K fc) (tE K fa) (tE K fb) σ H Q:=by
 obtain ⟨ad,ρ,st,d,st',E,S,e,p⟩:=h
 obtain ⟨k,st1,q,e⟩:=Yd e
 refine ⟨ad,ρ,st,k,st1,E,S,q,fun ad1 H1 x1 S1=>?_⟩
 cases k with
 | true=>
  rw [if_pos rfl] at e ⊢
  exact ⟨ad1,ρ,st1,d,st',E.mono x1,S1,e,p.later x1⟩
 | false=>
  rw [if_neg Bool.false_ne_true] at e ⊢
  exact ⟨ad1,ρ,st1,d,st',E.mono x1,S1,e,p.later x1⟩
theorem ZaZ {K:PySem.W.Frag} (σ:L2.St) (H:Hp) (Q:VK) (h:tE K (Xf fa fb (evC (.bl false))) σ H Q):tAndV (tE K fa) (tE K fb) σ H Q:=by
 obtain ⟨ad,ρ,st,d,st',E,S,e,p⟩:=h
 obtain ⟨k,st1,q,e⟩:=Yd e
 refine ⟨ad,ρ,st,.bl k,st1,E,S,q,fun v1 ad1 H1 x1 S1 d1=>⟨k,d1.ofBl,?_⟩⟩
 cases k with
 | true=>
  rw [if_pos rfl] at e ⊢
  exact ⟨ad1,ρ,st1,d,st',E.mono x1,S1,e,p.later x1⟩
 | false=>
  rw [if_neg Bool.false_ne_true] at e ⊢
  cases e
  exact (p.later x1).at S1 (.bl false)
theorem ZdG {K:PySem.W.Frag} (σ:L2.St) (H:Hp) (Q:VK) (h:tE K (Xf fa (evC (.bl true)) fb) σ H Q):tOrV (tE K fa) (tE K fb) σ H Q:=by
 obtain ⟨ad,ρ,st,d,st',E,S,e,p⟩:=h
 obtain ⟨k,st1,q,e⟩:=Yd e
 refine ⟨ad,ρ,st,.bl k,st1,E,S,q,fun v1 ad1 H1 x1 S1 d1=>⟨k,d1.ofBl,?_⟩⟩
 cases k with
 | true=>
  rw [if_pos rfl] at e ⊢
  cases e
  exact (p.later x1).at S1 (.bl true)
 | false=>
  rw [if_neg Bool.false_ne_true] at e ⊢
  exact ⟨ad1,ρ,st1,d,st',E.mono x1,S1,e,p.later x1⟩
theorem ZaK {K:PySem.W.Frag} (σ:L2.St) (H:Hp) (Q:Bool→Hp→Prop) (h:tT K (Xf fa fb (evC (.bl false))) σ H Q):tAnd (tT K fa) (tT K fb) σ H Q:=by
 obtain ⟨ad,ρ,st,d,st',E,S,e,p⟩:=h
 obtain ⟨k,st1,q,e⟩:=Yd e
 refine ⟨ad,ρ,st,k,st1,E,S,q,fun ad1 H1 x1 S1=>?_⟩
 cases k with
 | true=>
  rw [if_pos rfl] at e ⊢
  exact ⟨ad1,ρ,st1,d,st',E.mono x1,S1,e,fun ad2 H2 x2 S2=>p ad2 H2 (x1.trans x2) S2⟩
 | false=>
  rw [if_neg Bool.false_ne_true] at e ⊢
  cases e
  exact p ad1 H1 x1 S1
theorem ZcS {K:PySem.W.Frag} (σ:L2.St) (H:Hp) (Q:Bool→Hp→Prop) (h:tT K (Xf fa (evC (.bl true)) fb) σ H Q):tOr (tT K fa) (tT K fb) σ H Q:=by
 obtain ⟨ad,ρ,st,d,st',E,S,e,p⟩:=h
 obtain ⟨k,st1,q,e⟩:=Yd e
 refine ⟨ad,ρ,st,k,st1,E,S,q,fun ad1 H1 x1 S1=>?_⟩
 cases k with
 | true=>
  rw [if_pos rfl] at e ⊢
  cases e
  exact p ad1 H1 x1 S1
 | false=>
  rw [if_neg Bool.false_ne_true] at e ⊢
  exact ⟨ad1,ρ,st1,d,st',E.mono x1,S1,e,fun ad2 H2 x2 S2=>p ad2 H2 (x1.trans x2) S2⟩
theorem ZaO {K:PySem.W.Frag} (σ:L2.St) (H:Hp) (Q:Bool→Hp→Prop) (h:tT K (ZE fa J9) σ H Q):tNot (tT K fa) σ H Q:=by
 obtain ⟨ad,ρ,st,d,st',E,S,e,p⟩:=h
 unfold ZE at e
 split at e
 ·rename_i x st1 q1
  cases x with
  | bl k=>
   cases (show some (D.bl (!k),st1)=_ from e)
   exact ⟨ad,ρ,st,k,_,E,S,q1,fun ad1 H1 x1 S1=>p ad1 H1 x1 S1⟩
  | _=>simp [J9] at e
 ·cases e
theorem Zbn {K:PySem.W.Frag} (σ:L2.St) (H:Hp) (Q:VK) (h:tE K (ZE fa J9) σ H Q):tNotV (tE K fa) σ H Q:=by
 obtain ⟨ad,ρ,st,d,st',E,S,e,p⟩:=h
 unfold ZE at e
 split at e
 ·rename_i x st1 q1
  cases x with
  | bl k=>
   cases (show some (D.bl (!k),st1)=_ from e)
   exact ⟨ad,ρ,st,.bl k,_,E,S,q1,fun v1 ad1 H1 x1 S1 d1=>⟨k,d1.ofBl,(p.later x1).at S1 (.bl _)⟩⟩
  | _=>simp [J9] at e
 ·cases e
theorem Vb {K:PySem.W.Frag} (σ:L2.St) (H:Hp) (Q:List V→Hp→Prop) (h:tA K (evC (.tup [])) σ H Q):tNil σ H Q:=by
 obtain ⟨ad,ρ,st,d,st',E,S,e,p⟩:=h
 cases e
 exact p [] ad H (Ext.refl _ _) S .nil
theorem VP {K:PySem.W.Frag} (σ:L2.St) (H:Hp) (Q:List V→Hp→Prop) (h:tA K (Z2 fa fb Wp) σ H Q):tCons (tE K fa) (tA K fb) σ H Q:=by
 obtain ⟨ad,ρ,st,d,st',E,S,e,p⟩:=h
 unfold Z2 at e
 split at e
 ·rename_i x st1 q1
  split at e
  ·rename_i y st2 q2
   cases y with
   | tup zs=>
    have e:(if zs.length < 1000 then some (D.tup (x :: zs),st2) else none)=some (D.tup d,st'):=e
    split at e
    ·cases e
     refine ⟨ad,ρ,st,_,st1,E,S,q1,fun v1 ad1 H1 x1 S1 d1=>⟨ad1,ρ,st1,zs,_,E.mono x1,S1,q2,fun v2 ad2 H2 x2 S2 d2=>?_⟩⟩
     exact p _ ad2 H2 (x1.trans x2) S2 (.cons (d1.mono x2) d2)
    ·cases e
   | _=>simp [Wp] at e
  ·cases e
 ·cases e
theorem Zdn {K:PySem.W.Frag} (hb:∀ ρ st ds st',fa ρ st=some (.tup ds,st')→ds.length≤1000) (ht:∀ ρ st d st',fa ρ st=some (d,st')→∃ ds,d=.tup ds) (σ:L2.St) (H:Hp) (Q:VK) (h:tE K fa σ H Q):tTup (tA K fa) σ H Q:=by
 obtain ⟨ad,ρ,st,d,st',E,S,e,p⟩:=h
 obtain ⟨ds,rfl⟩:=ht _ _ _ _ e
 refine ⟨ad,ρ,st,ds,st',E,S,e,fun vs ad1 H1 x1 S1 d1=>⟨?_,fun q hq=>?_⟩⟩
 ·rw [d1.length]
  exact Nat.le_trans (hb _ _ _ _ e) (by decide)
 ·exact p _ ad1 _ (x1.trans (Ext.laid hq)) (S1.laid hq) (.tup (.inl upd_same) (d1.mono (Ext.laid hq)))
theorem Zdw {K:PySem.W.Frag} (hb:∀ ρ st ds st',fa ρ st=some (.tup ds,st')→ds.length≤1000) (σ:L2.St) (H:Hp) (Q:VK) (h:tE K (ZE fa Zbx) σ H Q):tLst (tA K fa) σ H Q:=by
 obtain ⟨ad,ρ,st,d,st',E,S,e,p⟩:=h
 unfold ZE at e
 split at e
 ·rename_i x st1 q1
  cases x with
  | tup ds=>
   cases (show some (D.lst st1.length,st1++[(true,ds)])=_ from e)
   refine ⟨ad,ρ,st,ds,_,E,S,q1,fun vs ad1 H1 x1 S1 d1=>⟨?_,fun q hq=>?_⟩⟩
   ·rw [d1.length]
    exact Nat.le_trans (hb _ _ _ _ q1) (by decide)
   ·refine p _ (ad1++[q]) _ (x1.trans (Ext.push hq)) (S1.push hq d1) (.lst ?_)
    rw [←S1.len]
    exact Zu
  | _=>simp [Zbx] at e
 ·cases e
theorem UO {K:PySem.W.Frag}{g:Fn}{ds:List D}{dvs:List V}{E:XK} (hd:∀ ad H,Dens K ad H dvs ds) (σ:L2.St) (H:Hp) (Q:VK) (h:tE K (ZE fa (Qd g ds)) σ H Q):tCall (spD K g) dvs E (tA K fa) σ H Q:=by
 obtain ⟨ad,ρ,st,d,st',E,S,e,p⟩:=h
 unfold ZE at e
 split at e
 ·rename_i x st1 q1
  cases x with
  | tup xs=>exact ⟨ad,ρ,st,xs,_,E,S,q1,fun vs ad1 H1 x1 S1 d1=>⟨ad1,xs++ds,_,d,st',S1,d1.append (hd _ _),e,p.later x1⟩⟩
  | _=>simp [Qd] at e
 ·cases e
noncomputable def rC (K:PySem.W.Frag) (g:List D→Za→Res):List V→Hp→VK→Prop:=fun vs H Q=>∃ ad st ds d st',StOk K ad H st∧Dens K ad H vs ds∧g ds st=some (d,st')∧Post K ad H d st' Q
noncomputable def on1 (g:D→Za→Res):List D→Za→Res
 | [x],st=>g x st
 | _,_=>none
noncomputable def on2 (g:D→D→Za→Res):List D→Za→Res
 | [x,y],st=>g x y st
 | _,_=>none
theorem X8 {K:PySem.W.Frag}{g:D→Za→Res} (σ:L2.St) (H:Hp) (Q:VK) (h:tE K (ZE fa g) σ H Q):tCB (rC K (on1 g)) (tCons (tE K fa) tNil) σ H Q:=by
 obtain ⟨ad,ρ,st,d,st',E,S,e,p⟩:=h
 unfold ZE at e
 split at e
 ·rename_i x st1 q1
  exact ⟨ad,ρ,st,x,st1,E,S,q1,fun v1 ad1 H1 x1 S1 d1=>⟨ad1,st1,[x],d,st',S1,.cons d1 .nil,e,p.later x1⟩⟩
 ·cases e
theorem Qr {K:PySem.W.Frag}{g:D→D→Za→Res} (σ:L2.St) (H:Hp) (Q:VK) (h:tE K (Z2 fa fb g) σ H Q):tCB (rC K (on2 g)) (tCons (tE K fa) (tCons (tE K fb) tNil)) σ H Q:=by
 obtain ⟨ad,ρ,st,d,st',E,S,e,p⟩:=h
 unfold Z2 at e
 split at e
 ·rename_i x st1 q1
  split at e
  ·rename_i y st2 q2
   refine ⟨ad,ρ,st,x,st1,E,S,q1,fun v1 ad1 H1 x1 S1 d1=>⟨ad1,ρ,st1,y,st2,E.mono x1,S1,q2,fun v2 ad2 H2 x2 S2 d2=>?_⟩⟩
   exact ⟨ad2,st2,[x,y],d,st',S2,.cons (d1.mono x2) (.cons d2 .nil),e,p.later (x1.trans x2)⟩
  ·cases e
 ·cases e
noncomputable def tO (K:PySem.W.Frag) (f:Ev):TO:=fun σ H Q=>∃ ad ρ st d st',EnvOk K ad H σ ρ∧StOk K ad H st∧f ρ st=some (d,st') ∧
 ((d=.non∧∀ ad' H',Ext ad H ad' H'→StOk K ad' H' st'→Q none H')∨∃ i,d=.int i∧∀ ad' H',Ext ad H ad' H'→StOk K ad' H' st'→Q (some i) H')
noncomputable def rSl (K:PySem.W.Frag):V→Option Int→Option Int→Hp→VK→Prop:=fun x lo hi H Q=>∃ ad st dx d st',StOk K ad H st∧Den K ad H x dx∧Ym dx lo hi st=some (d,st')∧Post K ad H d st' Q
noncomputable def part:D→Option (Option Int)
 | .non=>some none
 | .int i=>some (some i)
 | _=>none
theorem VY {x l h:D}{st:Za}{r:D×Za} (e:XF x l h st=some r):∃ lo hi,part l=some lo∧part h=some hi∧Ym x lo hi st=some r:=by
 unfold XF at e
 split at e
 ·exact ⟨_,_,rfl,rfl,e⟩
 ·exact ⟨_,_,rfl,rfl,e⟩
 ·exact ⟨_,_,rfl,rfl,e⟩
 ·exact ⟨_,_,rfl,rfl,e⟩
 ·cases e
theorem Zd9 {K:PySem.W.Frag}{f:Ev}{σ:L2.St}{H:Hp}{Q:Option Int→Hp→Prop}{ad:List Addr}{ρ:Env}{st st':Za}{d:D}{o:Option Int} (E:EnvOk K ad H σ ρ) (S:StOk K ad H st) (e:f ρ st=some (d,st')) (po:part d=some o)
  (q:∀ ad' H',Ext ad H ad' H'→StOk K ad' H' st'→Q o H'):tO K f σ H Q:=by
 refine ⟨ad,ρ,st,d,st',E,S,e,?_⟩
 cases d with
 | non=>cases po; exact .inl ⟨rfl,q⟩
 | int i=>cases po; exact .inr ⟨i,rfl,q⟩
 | _=>cases po
theorem J0 {K:PySem.W.Frag} (σ:L2.St) (H:Hp) (Q:VK) (h:tE K (W0 fa fb fc XF) σ H Q):tSl (rSl K) (tE K fa) (tO K fb) (tO K fc) σ H Q:=by
 obtain ⟨ad,ρ,st,d,st',E,S,e,p⟩:=h
 unfold W0 at e
 split at e
 ·rename_i x st1 q1
  split at e
  ·rename_i y st2 q2
   split at e
   ·rename_i z st3 q3
    obtain ⟨lo,hi,pl,ph,e⟩:=VY e
    refine ⟨ad,ρ,st,x,st1,E,S,q1,fun v1 ad1 H1 x1 S1 d1=>Zd9 (E.mono x1) S1 q2 pl fun ad2 H2 x2 S2=>Zd9 (E.mono (x1.trans x2)) S2 q3 ph fun ad3 H3 x3 S3=>?_⟩
    exact ⟨ad3,st3,x,d,st',S3,d1.mono (x2.trans x3),e,p.later (x1.trans (x2.trans x3))⟩
   ·cases e
  ·cases e
 ·cases e
theorem Zdm {K:PySem.W.Frag} (σ:L2.St) (H:Hp) (Q:Option Int→Hp→Prop) (h:tO K (evC .non) σ H Q):tNoPart σ H Q:=by
 obtain ⟨ad,ρ,st,d,st',E,S,e,p⟩:=h
 cases e
 rcases p with ⟨_,p⟩ | ⟨i,z,_⟩
 ·exact p ad H (Ext.refl _ _) S
 ·cases z
end
end Dp



namespace Dp
open PySem PySem.Spec PyProof.Rows L2
variable [ClsTab]
noncomputable def PostS (K:PySem.W.Frag) (ad:List Addr) (H:Hp) (r:Fl) (st':Za) (D:Ends):Prop:=match r with
 | .nx ρ'=>∀ σ' ad' H',Ext ad H ad' H'→StOk K ad' H' st'→EnvOk K ad' H' σ' ρ'→D.nx σ' H'
 | .bk ρ'=>∀ σ' ad' H',Ext ad H ad' H'→StOk K ad' H' st'→EnvOk K ad' H' σ' ρ'→D.bk σ' H'
 | .ct ρ'=>∀ σ' ad' H',Ext ad H ad' H'→StOk K ad' H' st'→EnvOk K ad' H' σ' ρ'→D.ct σ' H'
 | .rt d=>Post K ad H d st' D.rt
theorem PostS.later {K:PySem.W.Frag}{ad ad':List Addr}{H H':Hp}{r:Fl}{st:Za}{D:Ends} (x:Ext ad H ad' H') (p:PostS K ad H r st D):PostS K ad' H' r st D:=by
 cases r with
 | nx ρ=>exact fun σ2 a2 H2 y S E=>p σ2 a2 H2 (x.trans y) S E
 | bk ρ=>exact fun σ2 a2 H2 y S E=>p σ2 a2 H2 (x.trans y) S E
 | ct ρ=>exact fun σ2 a2 H2 y S E=>p σ2 a2 H2 (x.trans y) S E
 | rt d=>exact Post.later p x
theorem Yg {K:PySem.W.Frag}{f:Ex}{D:Ends}{σ:L2.St}{H:Hp}{ad:List Addr}{ρ:Env}{st st':Za}{r:Fl} (E:EnvOk K ad H σ ρ) (S:StOk K ad H st) (e:f ρ st=some (r,st')) (p:PostS K ad H r st' D):tS K f D σ H:=by
 refine ⟨ad,ρ,st,r,st',E,S,e,?_⟩
 cases r<;>exact p
theorem Yl {K:PySem.W.Frag}{f:Ex}{D:Ends}{σ:L2.St}{H:Hp} (h:tS K f D σ H):∃ ad ρ st r st',EnvOk K ad H σ ρ∧StOk K ad H st∧f ρ st=some (r,st')∧PostS K ad H r st' D:=by
 obtain ⟨ad,ρ,st,r,st',E,S,e,p⟩:=h
 refine ⟨ad,ρ,st,r,st',E,S,e,?_⟩
 cases r<;>exact p
section
variable {K:PySem.W.Frag}{f g:Ex}{fe fi fk:Ev}
theorem US (D:Ends) (σ:L2.St) (H:Hp) (h:tS K (fun ρ st=>some (.nx ρ,st)) D σ H):tNext D σ H:=by
 obtain ⟨ad,ρ,st,r,st',E,S,e,p⟩:=Yl h
 cases e
 exact p σ ad H (Ext.refl _ _) S E
theorem ZdI (D:Ends) (σ:L2.St) (H:Hp) (h:tS K (fun ρ st=>some (.bk ρ,st)) D σ H):tBreak D σ H:=by
 obtain ⟨ad,ρ,st,r,st',E,S,e,p⟩:=Yl h
 cases e
 exact p σ ad H (Ext.refl _ _) S E
theorem Za0 (D:Ends) (σ:L2.St) (H:Hp) (h:tS K (fun ρ st=>some (.ct ρ,st)) D σ H):tCont D σ H:=by
 obtain ⟨ad,ρ,st,r,st',E,S,e,p⟩:=Yl h
 cases e
 exact p σ ad H (Ext.refl _ _) S E
theorem Zdz (D:Ends) (σ:L2.St) (H:Hp) (h:tS K (Vj f g) D σ H):tSeq (tS K f) (tS K g) D σ H:=by
 obtain ⟨ad,ρ,st,r,st',E,S,e,p⟩:=Yl h
 unfold Vj at e
 split at e
 ·rename_i ρ1 st1 q
  exact Yg E S q fun σ1 ad1 H1 x1 S1 E1=>Yg E1 S1 e (p.later x1)
 ·rename_i q
  refine Yg E S e ?_
  cases r with
  | nx ρ1=>exact absurd e (q ρ1 st')
  | bk ρ1=>exact p
  | ct ρ1=>exact p
  | rt d=>exact p
theorem ZcM (D:Ends) (σ:L2.St) (H:Hp) (h:tS K (Jk fe) D σ H):tRet (tE K fe) D σ H:=by
 obtain ⟨ad,ρ,st,r,st',E,S,e,p⟩:=Yl h
 unfold Jk at e
 split at e
 ·rename_i d st1 q
  cases e
  exact ⟨ad,ρ,st,d,_,E,S,q,p⟩
 ·cases e
theorem Ue {i:Nat} (D:Ends) (σ:L2.St) (H:Hp) (h:tS K (UY i fe) D σ H):tAsg (tE K fe) (gName i) D σ H:=by
 obtain ⟨ad,ρ,st,r,st',E,S,e,p⟩:=Yl h
 unfold UY at e
 split at e
 ·rename_i d st1 q
  cases e
  exact ⟨ad,ρ,st,d,_,E,S,q,fun v ad1 H1 x1 S1 d1=>p _ ad1 H1 x1 S1 ((E.mono x1).set i d1)⟩
 ·cases e
theorem ZbW {i j:Nat} (D:Ends) (σ:L2.St) (H:Hp) (h:tS K (Qw i j fe) D σ H):tAsg (tE K fe) (gTup K 2 (gCons (gName i) (gCons (gName j) gNil))) D σ H:=by
 obtain ⟨ad,ρ,st,r,st',E,S,e,p⟩:=Yl h
 unfold Qw at e
 split at e
 ·rename_i x y st1 q
  cases e
  refine ⟨ad,ρ,st,_,_,E,S,q,fun v ad1 H1 x1 S1 d1=>?_⟩
  obtain ⟨a,vs,rfl,ha,rv⟩:=d1.ofTup
  cases rv with
  | cons d1 rv=>
   cases rv with
   | cons d2 rv=>
    cases rv
    exact ⟨a,_,rfl,(ha).sq,rfl,_,_,rfl,_,_,rfl,rfl,p _ ad1 H1 x1 S1 (((E.mono x1).set i d1).set j d2)⟩
 ·cases e
theorem Zc6 (D:Ends) (σ:L2.St) (H:Hp) (h:tS K (Zav fe f g) D σ H):tIfS (tT K fe) (tS K f) (tS K g) D σ H:=by
 obtain ⟨ad,ρ,st,r,st',E,S,e,p⟩:=Yl h
 unfold Zav at e
 split at e
 ·rename_i st1 q
  refine ⟨ad,ρ,st,true,st1,E,S,q,fun ad1 H1 x1 S1=>?_⟩
  dsimp only
  rw [if_pos rfl]
  exact Yg (E.mono x1) S1 e (p.later x1)
 ·rename_i st1 q
  refine ⟨ad,ρ,st,false,st1,E,S,q,fun ad1 H1 x1 S1=>?_⟩
  dsimp only
  rw [if_neg Bool.false_ne_true]
  exact Yg (E.mono x1) S1 e (p.later x1)
 ·cases e
theorem Q6 {ad:List Addr}{H:Hp}{st:Za}{i:Nat}{a:Addr} (S:StOk K ad H st) (h:ad[i]?=some a):∃ b ds,st[i]?=some (b,ds):=by
 have hi:i < st.length:=by rw [←S.len]; exact (List.getElem?_eq_some_iff.mp h).1
 exact ⟨st[i].1,st[i].2,by rw [List.getElem?_eq_getElem hi]⟩
theorem ZdV {ad:List Addr}{H:Hp}{st st2:Za}{i:Nat}{a:Addr}{v:V}{d:D} (S:StOk K ad H st) (h:ad[i]?=some a) (hd:Den K ad H v d) (e:Zcw i d st=some st2) :
  ∃ xs,H a=some (.lst xs)∧xs.length < sizeLine∧Ext ad H ad (upd H a (.lst (xs++[v])))∧StOk K ad (upd H a (.lst (xs++[v]))) st2:=by
 unfold Zcw at e
 split at e
 ·rename_i ds q
  split at e
  ·rename_i hz
   cases e
   obtain ⟨xs,r,hx⟩:=S.listM h q
   refine ⟨xs,hx,?_,Ext.write hx (List.mem_of_getElem? h),S.write h q hx (r.append (.cons hd .nil))⟩
   rw [r.length]
   exact Nat.lt_of_lt_of_le hz (by decide)
  ·cases e
 ·cases e
theorem ZdD {i:Nat} (D:Ends) (σ:L2.St) (H:Hp) (h:tS K (Zcl i fe) D σ H):tDrop (tBM K "list" rAppend (tVar i) (tCons (tE K fe) tNil)) D σ H:=by
 obtain ⟨ad,ρ,st,r,st',E,S,e,p⟩:=Yl h
 unfold Zcl at e
 split at e
 ·rename_i a q0
  split at e
  ·rename_i d st1 q1
   split at e
   ·rename_i st2 q2
    cases e
    obtain ⟨v,e1,e2⟩:=E.at_ i _ q0
    obtain ⟨l,rfl,hl⟩:=e2.ofLst
    obtain ⟨b,ds,hc⟩:=Q6 S hl
    obtain ⟨xs,_,sq⟩:=S.list hl hc
    refine ⟨_,e1,.inl ⟨rfl,xs,sq⟩,ad,ρ,st,d,st1,E,S,q1,fun w ad1 H1 x1 S1 d1=>?_⟩
    obtain ⟨ys,hy,hz,x2,S2⟩:=ZdV S1 (x1.pre _ _ hl) d1 q2
    exact ⟨l,ys,w,rfl,rfl,hy,hz,p _ ad1 _ (x1.trans x2) S2 (E.mono (x1.trans x2))⟩
   ·cases e
  ·cases e
 ·cases e
theorem Zdu {i:Nat} (D:Ends) (σ:L2.St) (H:Hp) (h:tS K (Za6 i fe) D σ H):tDrop (tBM K "list" rExtend (tVar i) (tCons (tE K fe) tNil)) D σ H:=by
 obtain ⟨ad,ρ,st,r,st',E,S,e,p⟩:=Yl h
 unfold Za6 at e
 split at e
 ·rename_i a q0
  split at e
  ·rename_i b st1 q1
   split at e
   ·rename_i st2 q2
    cases e
    obtain ⟨v,e1,e2⟩:=E.at_ i _ q0
    obtain ⟨l,rfl,hl⟩:=e2.ofLst
    obtain ⟨bb,ds,hc⟩:=Q6 S hl
    obtain ⟨xs,_,sq⟩:=S.list hl hc
    refine ⟨_,e1,.inl ⟨rfl,xs,sq⟩,ad,ρ,st,.lst b,st1,E,S,q1,fun w ad1 H1 x1 S1 d1=>?_⟩
    obtain ⟨m,rfl,hm⟩:=d1.ofLst
    unfold Ze6 at q2
    split at q2
    ·rename_i cs es f1 f2
     split at q2
     ·rename_i hz
      cases q2
      have hl1:=x1.pre _ _ hl
      obtain ⟨ys,ry,hy⟩:=S1.listM hl1 f1
      obtain ⟨zs,rz,hzz⟩:=S1.listM hm f2
      have x2:=Ext.write (ys:=ys++zs) hy (List.mem_of_getElem? hl1)
      refine ⟨l,m,ys,zs,rfl,rfl,hy,hzz,?_,p _ ad1 _ (x1.trans x2) (S1.write hl1 f1 hy (ry.append rz)) (E.mono (x1.trans x2))⟩
      rw [ry.length,rz.length]
      exact Nat.le_trans hz (by decide)
     ·cases q2
    ·cases q2
   ·cases e
  ·cases e
 ·cases e
theorem Zc8 {i:Nat} (D:Ends) (σ:L2.St) (H:Hp) (h:tS K (ZbI i fk fe) D σ H):tAsg (tE K fe) (gSub (tVar i) (tE K fk) rSetL) D σ H:=by
 obtain ⟨ad,ρ,st,r,st',E,S,e,p⟩:=Yl h
 unfold ZbI at e
 split at e
 ·rename_i d st1 q1
  split at e
  ·rename_i a q0
   split at e
   ·rename_i j st2 q2
    split at e
    ·rename_i st3 q3
     cases e
     obtain ⟨v,e1,e2⟩:=E.at_ i _ q0
     obtain ⟨l,rfl,hl⟩:=e2.ofLst
     refine ⟨ad,ρ,st,d,st1,E,S,q1,fun w ad1 H1 x1 S1 d1=>⟨_,e1,ad1,ρ,st1,.int j,st2,E.mono x1,S1,q2,fun w2 ad2 H2 x2 S2 d2=>?_⟩⟩
     cases d2.ofInt
     unfold Ui at q3
     split at q3
     ·rename_i ds q4
      split at q3
      ·rename_i k q5
       cases q3
       have hl2:=(x1.trans x2).pre _ _ hl
       obtain ⟨xs,r,hx⟩:=S2.listM hl2 q4
       have x3:Ext ad2 H2 ad2 (upd H2 l (.lst (xs.set k w))):=Ext.write hx (List.mem_of_getElem? hl2)
       refine ⟨l,xs,j,k,rfl,rfl,hx,?_,p _ ad2 _ (x1.trans (x2.trans x3)) (S2.write hl2 q4 hx (r.set (d1.mono x2) k)) (E.mono (x1.trans (x2.trans x3)))⟩
       rw [r.length]
       exact q5
      ·cases q3
     ·cases q3
    ·cases e
   ·cases e
  ·cases e
 ·cases e
noncomputable def Left (K:PySem.W.Frag) (b:D→Env→Za→Option (Fl×Za)) (E:Ends) (xs:List D) (σ:L2.St) (H:Hp):Prop:=∃ ad ρ st r st',EnvOk K ad H σ ρ∧StOk K ad H st∧Yf b xs ρ st=some (r,st')∧PostS K ad H r st' E
theorem Left.turn {i:Nat}{b:Ex}{E:Ends}{x:D}{xs:List D}{σ:L2.St}{H:Hp}{v:V} (hv:∀ ad H,Den K ad H v x) (h:Left K (fun d ρ s=>b (ZB ρ i d) s) E (x :: xs) σ H) :
  tS K b { E with nx:=Left K (fun d ρ s=>b (ZB ρ i d) s) E xs,ct:=Left K (fun d ρ s=>b (ZB ρ i d) s) E xs,bk:=E.nx } (σ.set i (some v)) H:=by
 obtain ⟨ad,ρ,st,r,st',En,S,e,p⟩:=h
 unfold Yf at e
 have En2:=En.set i (hv ad H)
 split at e
 ·rename_i ρ1 st1 q
  exact Yg En2 S q fun σ1 ad1 H1 x1 S1 E1=>⟨ad1,ρ1,st1,r,st',E1,S1,e,p.later x1⟩
 ·rename_i ρ1 st1 q
  exact Yg En2 S q fun σ1 ad1 H1 x1 S1 E1=>⟨ad1,ρ1,st1,r,st',E1,S1,e,p.later x1⟩
 ·rename_i ρ1 st1 q
  cases e
  exact Yg En2 S q fun σ1 ad1 H1 x1 S1 E1=>p σ1 ad1 H1 x1 S1 E1
 ·rename_i d st1 q
  cases e
  exact Yg En2 S q p
 ·cases e
theorem Left.turnD {i:Nat}{b:Ex}{E:Ends}{x:D}{xs:List D}{σ:L2.St}{H:Hp}{ad:List Addr}{ρ:Env}{st st':Za}{r:Fl}{v:V} (En:EnvOk K ad H σ ρ) (S:StOk K ad H st) (hv:Den K ad H v x)
  (e:Yf (fun d ρ s=>b (ZB ρ i d) s) (x :: xs) ρ st=some (r,st')) (p:PostS K ad H r st' E) (L:L2.St→Hp→Prop)
  (hL:∀ σ1 ad1 H1 ρ1 st1,Ext ad H ad1 H1→StOk K ad1 H1 st1→EnvOk K ad1 H1 σ1 ρ1→Yf (fun d ρ s=>b (ZB ρ i d) s) xs ρ1 st1=some (r,st')→L σ1 H1) :
  tS K b { E with nx:=L,ct:=L,bk:=E.nx } (σ.set i (some v)) H:=by
 unfold Yf at e
 have En2:=En.set i hv
 split at e
 ·rename_i ρ1 st1 q
  exact Yg En2 S q fun σ1 ad1 H1 x1 S1 E1=>hL σ1 ad1 H1 ρ1 st1 x1 S1 E1 e
 ·rename_i ρ1 st1 q
  exact Yg En2 S q fun σ1 ad1 H1 x1 S1 E1=>hL σ1 ad1 H1 ρ1 st1 x1 S1 E1 e
 ·rename_i ρ1 st1 q
  cases e
  exact Yg En2 S q fun σ1 ad1 H1 x1 S1 E1=>p σ1 ad1 H1 x1 S1 E1
 ·rename_i d st1 q
  cases e
  exact Yg En2 S q p
 ·cases e
theorem Left.done {b:D→Env→Za→Option (Fl×Za)}{E:Ends}{σ:L2.St}{H:Hp} (h:Left K b E [] σ H):E.nx σ H:=by
 obtain ⟨ad,ρ,st,r,st',En,S,e,p⟩:=h
 cases e
 exact p σ ad H (Ext.refl _ _) S En
theorem QN (n k:Nat) (h:k < n):((List.range n).map fun (j:Nat)=>D.int (j:Int)).drop k=D.int (k:Int) :: ((List.range n).map fun (j:Nat)=>D.int (j:Int)).drop (k+1):=by
 rw [List.drop_eq_getElem_cons (by simpa using h)]
 simp
theorem Zaz {i:Nat} (E:Ends) (σ:L2.St) (H:Hp) (h:tS K (UD i true fi f) E σ H):tFor (iRng1 (tCons (tE K fi) tNil)) (gName i) (tS K f) E σ H:=by
 obtain ⟨ad,ρ,st,r,st',En,S,e,p⟩:=Yl h
 unfold UD at e
 split at e
 ·rename_i x st1 q1
  cases x with
  | int n=>
   have e:(match (if n < 2 ^ 62∧-(2 ^ 62)≤n then some ((List.range n.toNat).map fun (k:Nat)=>D.int (k:Int)) else none) with
    | some xs=>Yf (fun d ρ s=>f (ZB ρ i d) s) xs ρ st1
    | none=>none)=some (r,st'):=e
   by_cases hn:n < 2 ^ 62∧-(2 ^ 62)≤n
   ·rw [if_pos hn] at e
    refine ⟨ad,ρ,st,.int n,st1,En,S,q1,fun v ad1 H1 x1 S1 d1=>⟨n,by rw [d1.ofInt],hn.2,hn.1,?_⟩⟩
    refine for_range (fun k σ' H'=>Left K (fun d ρ s=>f (ZB ρ i d) s) E (((List.range n.toNat).map fun (k:Nat)=>D.int (k:Int)).drop k) σ' H') ⟨ad1,ρ,st1,r,st',En.mono x1,S1,e,p.later x1⟩ (fun k σ' H' hk L=>?_) fun σ' H' L=>?_
    ·rw [QN _ _ hk] at L
     have z:(0:Int)+(k:Int)=(k:Int):=Int.zero_add _
     rw [z]
     exact L.turn fun _ _=>.int _
    ·rw [List.drop_eq_nil_of_le (by simp)] at L
     exact L.done
   ·rw [if_neg hn] at e
    cases e
  | _=>simp [Xl] at e
 ·cases e
noncomputable def Its (lo c:Int) (n:Nat):It:=⟨fun i _=>i < n,fun i H x H'=>H'=H∧x=.int (lo+(i:Int) * c),fun i _=>n≤i⟩
noncomputable def ZdY (ta:TA):TI:=fun σ H R=>ta σ H fun vs H1=>∃ (i j c:Int),(vs=[.int i,.int j]∧c=1∨vs=[.int i,.int j,.int c])∧ZR i j c=true∧R (Its i c (ZM i j c)) H1
theorem ZaY {lo c:Int}{n:Nat}{g:TG}{tb:TS}{D:Ends}{σ:L2.St}{H:Hp} (Pv:Nat→L2.St→Hp→Prop) (h0:Pv 0 σ H)
  (hs:∀ i σ H,i < n→Pv i σ H→g (.int (lo+(i:Int) * c)) σ H fun σ2 H2=>tb { D with nx:=Pv (i+1),ct:=Pv (i+1),bk:=D.nx } σ2 H2) (hd:∀ σ H,Pv n σ H→D.nx σ H) :
  ∃ W:Nat→Nat→L2.St→Hp→Prop,(∃ m,W 0 m σ H)∧∀ i m σ H,W i m σ H→
   ((Its lo c n).stop i H∧D.nx σ H)∨((Its lo c n).go i H∧∃ N:L2.St→Hp→Prop,(∀ σ' H',N σ' H'→∃ m',m' < m∧W (i+1) m' σ' H')∧∀ x H',(Its lo c n).yld i H x H'→g x σ H' fun σ2 H2=>tb { D with nx:=N,ct:=N,bk:=D.nx } σ2 H2):=by
 refine ⟨fun i m σ H=>m=n - i∧i≤n∧Pv i σ H,⟨n,by simp,Nat.zero_le _,h0⟩,?_⟩
 rintro i m σ H ⟨rfl,hi,p⟩
 by_cases hlt:i < n
 ·refine .inr ⟨hlt,Pv (i+1),fun σ' H' p'=>⟨n - (i+1),by omega,rfl,hlt,p'⟩,fun x H' y=>?_⟩
  obtain ⟨e,y⟩:=y
  subst e y
  exact hs i σ _ hlt p
 ·have e:i=n:=by omega
  subst e
  exact .inl ⟨Nat.le_refl _,hd σ H p⟩
theorem UE (a b c:Int) (k:Nat) (h:k < ZM a b c):((Z7 a b c).map D.int).drop k=D.int (a+(k:Int) * c) :: ((Z7 a b c).map D.int).drop (k+1):=by
 rw [List.drop_eq_getElem_cons (by simpa [Z7] using h)]
 simp [Z7]
theorem Ur {x:D}{xs:List Int} (h:VX x=some xs):∃ a b c,(x=.tup [.int a,.int b]∧c=1∨x=.tup [.int a,.int b,.int c])∧ZR a b c=true∧xs=Z7 a b c:=by
 unfold VX at h
 split at h
 ·split at h
  ·rename_i a b q
   cases h
   exact ⟨a,b,1,.inl ⟨rfl,rfl⟩,q,rfl⟩
  ·cases h
 ·split at h
  ·rename_i a b c q
   cases h
   exact ⟨a,b,c,.inr rfl,q,rfl⟩
  ·cases h
 ·cases h
theorem ZbN {i:Nat} (E:Ends) (σ:L2.St) (H:Hp) (h:tS K (Qm i fi f) E σ H):tFor (ZdY (tA K fi)) (gName i) (tS K f) E σ H:=by
 obtain ⟨ad,ρ,st,r,st',En,S,e,p⟩:=Yl h
 unfold Qm at e
 split at e
 ·rename_i x st1 q1
  split at e
  ·rename_i xs q2
   obtain ⟨a,b,c,hx,ok,rfl⟩:=Ur q2
   have fin:∀ {ad1:List Addr}{H1:Hp},Ext ad H ad1 H1→StOk K ad1 H1 st1→∃ W:Nat→Nat→L2.St→Hp→Prop,(∃ m,W 0 m σ H1)∧∀ k m σ H,W k m σ H→
     ((Its a c (ZM a b c)).stop k H∧E.nx σ H)∨((Its a c (ZM a b c)).go k H∧∃ N:L2.St→Hp→Prop,(∀ σ' H',N σ' H'→∃ m',m' < m∧W (k+1) m' σ' H')∧∀ x H',(Its a c (ZM a b c)).yld k H x H'→gName i x σ H' fun σ2 H2=>tS K f { E with nx:=N,ct:=N,bk:=E.nx } σ2 H2):=fun {ad1 H1} x1 S1=>
    ZaY (fun k σ' H'=>Left K (fun d ρ s=>f (ZB ρ i d) s) E (((Z7 a b c).map D.int).drop k) σ' H') ⟨ad1,ρ,st1,r,st',En.mono x1,S1,e,p.later x1⟩ (fun k σ' H' hk L=>by
     rw [UE _ _ _ _ hk] at L
     exact L.turn fun _ _=>.int _) fun σ' H' L=>by
     rw [List.drop_eq_nil_of_le (by simp [Z7])] at L
     exact L.done
   rcases hx with ⟨rfl,rfl⟩ | rfl
   ·refine ⟨ad,ρ,st,_,st1,En,S,q1,fun vs ad1 H1 x1 S1 d1=>⟨a,b,1,.inl ⟨?_,rfl⟩,ok,fin x1 S1⟩⟩
    cases d1 with
    | cons h1 d1=>
     cases d1 with
     | cons h2 d1=>cases d1; rw [h1.ofInt,h2.ofInt]
   ·refine ⟨ad,ρ,st,_,st1,En,S,q1,fun vs ad1 H1 x1 S1 d1=>⟨a,b,c,.inr ?_,ok,fin x1 S1⟩⟩
    cases d1 with
    | cons h1 d1=>
     cases d1 with
     | cons h2 d1=>
      cases d1 with
      | cons h3 d1=>cases d1; rw [h1.ofInt,h2.ofInt,h3.ofInt]
  ·cases e
 ·cases e
noncomputable def Zd1 (K:PySem.W.Frag) (b:D→Env→Za→Option (Fl×Za)) (E:Ends) (a:Addr) (vs:List V) (xs:List D) (k:Nat) (σ:L2.St) (H:Hp):Prop:=
 ∃ ad ρ st r st',EnvOk K ad H σ ρ∧StOk K ad H st∧(TupAt K H a vs∧Dens K ad H vs xs)∧Yf b (xs.drop k) ρ st=some (r,st')∧PostS K ad H r st' E
theorem Zcf {i:Nat} (E:Ends) (σ:L2.St) (H:Hp) {ad:List Addr}{ρ:Env}{st st1 st':Za}{r:Fl}{xs:List D} (En:EnvOk K ad H σ ρ) (S:StOk K ad H st) (q1:fi ρ st=some (.tup xs,st1))
  (e:Yf (fun d ρ s=>f (ZB ρ i d) s) xs ρ st1=some (r,st')) (p:PostS K ad H r st' E):tFor (iTup K (tE K fi)) (gName i) (tS K f) E σ H:=by
 refine ⟨ad,ρ,st,.tup xs,st1,En,S,q1,fun v ad1 H1 x1 S1 d1=>?_⟩
 obtain ⟨a,vs,rfl,ha,rv⟩:=d1.ofTup
 refine ⟨a,rfl,⟨vs,(ha).sq⟩,?_⟩
 refine for_tup (xs:=vs) (fun k σ' H'=>Zd1 K (fun d ρ s=>f (ZB ρ i d) s) E a vs xs k σ' H') ⟨ad1,ρ,st1,r,st',En.mono x1,S1,⟨ha,rv⟩,by rw [List.drop_zero]; exact e,p.later x1⟩ (fun k σ' H' _ L=>?_) (fun k y σ' H' hk L=>?_) fun σ' H' L=>?_
 ·obtain ⟨_,_,_,_,_,_,_,⟨h,_⟩,_⟩:=L
  exact (h).sq
 ·obtain ⟨ad2,ρ2,st2,r2,st2',En2,S2,⟨h2,rv2⟩,e2,p2⟩:=L
  have hk':k < xs.length:=by rw [←rv2.length]; exact (List.getElem?_eq_some_iff.mp hk).1
  have hx:xs[k]?=some xs[k]:=List.getElem?_eq_getElem hk'
  obtain ⟨w,ew,dw⟩:=rv2.get hx
  rw [hk] at ew; cases ew
  rw [List.drop_eq_getElem_cons hk'] at e2
  exact Left.turnD En2 S2 dw e2 p2 _ fun σ3 ad3 H3 ρ3 st3 x3 S3 E3 e3=>⟨ad3,ρ3,st3,r2,st2',E3,S3,⟨h2.mono x3,rv2.mono x3⟩,e3,p2.later x3⟩
 ·obtain ⟨ad2,ρ2,st2,r2,st2',En2,S2,⟨h2,rv2⟩,e2,p2⟩:=L
  rw [rv2.length,List.drop_length] at e2
  exact Left.done ⟨ad2,ρ2,st2,r2,st2',En2,S2,e2,p2⟩
theorem UG {G:TG}{B:D→Env→Za→Option (Fl×Za)} (E:Ends) (σ:L2.St) (H:Hp) {ad:List Addr}{ρ:Env}{st st1 st':Za}{r:Fl}{l:Nat}{bb:Bool}{xs:List D} (En:EnvOk K ad H σ ρ) (S:StOk K ad H st) (q1:fi ρ st=some (.lst l,st1))
  (q2:st1[l]?=some (bb,xs)) (e:ZN B l xs.length 0 ρ st1=some (r,st')) (p:PostS K ad H r st' E)
  (hG:∀ (x:D) (v:V) (σ:L2.St) (H:Hp) (ad:List Addr) (ρ:Env) (st st1:Za) (r1:Fl) (E':Ends),EnvOk K ad H σ ρ→StOk K ad H st→Den K ad H v x→B x ρ st=some (r1,st1)→PostS K ad H r1 st1 E'→G v σ H fun σ2 H2=>tS K f E' σ2 H2) :
  tFor (iList K (tE K fi)) G (tS K f) E σ H:=by
 refine ⟨ad,ρ,st,.lst l,st1,En,S,q1,fun v ad1 H1 x1 S1 d1=>?_⟩
 obtain ⟨a,rfl,ha⟩:=d1.ofLst
 obtain ⟨vs,rv,sq⟩:=S1.list ha q2
 refine ⟨a,rfl,⟨vs,sq⟩,?_⟩
 refine ⟨fun k m σ' H'=>∃ ad2 ρ2 st2,(EnvOk K ad2 H' σ' ρ2∧StOk K ad2 H' st2∧ad2[l]?=some a)∧ZN B l m k ρ2 st2=some (r,st')∧PostS K ad2 H' r st' E,⟨xs.length,ad1,ρ,st1,⟨En.mono x1,S1,ha⟩,e,p.later x1⟩,?_⟩
 rintro k m σ' H' ⟨ad2,ρ2,st2,⟨En2,S2,ha2⟩,e2,p2⟩
 obtain ⟨b2,ys,hc⟩:=Q6 S2 ha2
 obtain ⟨ws,rw',sq2⟩:=S2.list ha2 hc
 have stop:ys.length≤k→ZN B l m k ρ2 st2=some (.nx ρ2,st2):=fun hk=>by
  cases m with
  | zero=>unfold ZN; simp only [hc]; rw [if_pos hk]
  | succ m=>unfold ZN; simp only [hc,List.getElem?_eq_none hk]
 by_cases hk:ys.length≤k
 ·refine .inl ⟨⟨ws,sq2,by rw [rw'.length]; exact hk⟩,?_⟩
  rw [stop hk] at e2
  cases e2
  exact p2 σ' ad2 H' (Ext.refl _ _) S2 En2
 ·have hk':k < ys.length:=by omega
  have hy:ys[k]?=some ys[k]:=List.getElem?_eq_getElem hk'
  obtain ⟨w,ew,dw⟩:=rw'.get hy
  cases m with
  | zero=>
   unfold ZN at e2
   simp only [hc] at e2
   rw [if_neg hk] at e2
   cases e2
  | succ m=>
   unfold ZN at e2
   simp only [hc,hy] at e2
   refine .inr ⟨⟨ws,w,sq2,ew⟩,fun σ3 H3=>∃ ad3 ρ3 st3,(EnvOk K ad3 H3 σ3 ρ3∧StOk K ad3 H3 st3∧ad3[l]?=some a)∧ZN B l m (k+1) ρ3 st3=some (r,st')∧PostS K ad3 H3 r st' E,fun σ3 H3 h3=>⟨m,Nat.lt_succ_self m,h3⟩,fun x H3 hx=>?_⟩
   obtain ⟨rfl,hx⟩:=hx
   have ex:=hx ws sq2
   rw [ew] at ex; cases ex
   split at e2
   ·rename_i ρ3 st3 q
    exact hG _ _ _ _ ad2 ρ2 st2 _ _ _ En2 S2 dw q fun σ4 ad4 H4 x4 S4 E4=>⟨ad4,ρ3,st3,⟨E4,S4,x4.pre _ _ ha2⟩,e2,p2.later x4⟩
   ·rename_i ρ3 st3 q
    exact hG _ _ _ _ ad2 ρ2 st2 _ _ _ En2 S2 dw q fun σ4 ad4 H4 x4 S4 E4=>⟨ad4,ρ3,st3,⟨E4,S4,x4.pre _ _ ha2⟩,e2,p2.later x4⟩
   ·rename_i ρ3 st3 q
    cases e2
    exact hG _ _ _ _ ad2 ρ2 st2 _ _ _ En2 S2 dw q fun σ4 ad4 H4 x4 S4 E4=>p2 σ4 ad4 H4 x4 S4 E4
   ·rename_i d st3 q
    cases e2
    exact hG _ _ _ _ ad2 ρ2 st2 _ _ _ En2 S2 dw q p2
   ·cases e2
theorem Zb7 {i:Nat} (E:Ends) (σ:L2.St) (H:Hp) (h:tS K (UD i false fi f) E σ H):tFor (iTup K (tE K fi)) (gName i) (tS K f) E σ H∨tFor (iList K (tE K fi)) (gName i) (tS K f) E σ H:=by
 obtain ⟨ad,ρ,st,r,st',En,S,e,p⟩:=Yl h
 unfold UD at e
 split at e
 ·rename_i x st1 q1
  cases x with
  | tup xs=>exact .inl (Zcf E σ H En S q1 e p)
  | lst l=>
   have e:(match st1[l]? with
    | some (_,xs)=>ZN (fun d ρ s=>f (ZB ρ i d) s) l xs.length 0 ρ st1
    | none=>none)=some (r,st'):=e
   split at e
   ·rename_i bb xs q2
    refine .inr (UG E σ H En S q1 q2 e p fun x v σ H ad ρ st st1 r1 E' En S dv e1 p1=>?_)
    exact Yg (En.set i dv) S e1 p1
   ·cases e
  | _=>simp [Xl] at e
 ·cases e
theorem JX {G:TG}{B:D→Env→Za→Option (Fl×Za)} (E:Ends) (σ:L2.St) (H:Hp) {ad:List Addr}{ρ:Env}{st st1 st':Za}{r:Fl}{xs:List D} (En:EnvOk K ad H σ ρ) (S:StOk K ad H st) (q1:fi ρ st=some (.tup xs,st1))
  (e:Yf B xs ρ st1=some (r,st')) (p:PostS K ad H r st' E)
  (hG:∀ (x:D) (v:V) (σ:L2.St) (H:Hp) (ad:List Addr) (ρ:Env) (st st1:Za) (r1:Fl) (E':Ends),EnvOk K ad H σ ρ→StOk K ad H st→Den K ad H v x→B x ρ st=some (r1,st1)→PostS K ad H r1 st1 E'→G v σ H fun σ2 H2=>tS K f E' σ2 H2) :
  tFor (iTup K (tE K fi)) G (tS K f) E σ H:=by
 refine ⟨ad,ρ,st,.tup xs,st1,En,S,q1,fun v ad1 H1 x1 S1 d1=>?_⟩
 obtain ⟨a,vs,rfl,ha,rv⟩:=d1.ofTup
 refine ⟨a,rfl,⟨vs,(ha).sq⟩,?_⟩
 refine for_tup (xs:=vs) (fun k σ' H'=>Zd1 K B E a vs xs k σ' H') ⟨ad1,ρ,st1,r,st',En.mono x1,S1,⟨ha,rv⟩,by rw [List.drop_zero]; exact e,p.later x1⟩ (fun k σ' H' _ L=>?_) (fun k y σ' H' hk L=>?_) fun σ' H' L=>?_
 ·obtain ⟨_,_,_,_,_,_,_,⟨h,_⟩,_⟩:=L
  exact (h).sq
 ·obtain ⟨ad2,ρ2,st2,r2,st2',En2,S2,⟨h2,rv2⟩,e2,p2⟩:=L
  have hk':k < xs.length:=by rw [←rv2.length]; exact (List.getElem?_eq_some_iff.mp hk).1
  have hx:xs[k]?=some xs[k]:=List.getElem?_eq_getElem hk'
  obtain ⟨w,ew,dw⟩:=rv2.get hx
  rw [hk] at ew; cases ew
  rw [List.drop_eq_getElem_cons hk'] at e2
  unfold Yf at e2
  split at e2
  ·rename_i ρ3 st3 q
   exact hG _ _ _ _ ad2 ρ2 st2 _ _ _ En2 S2 dw q fun σ4 ad4 H4 x4 S4 E4=>⟨ad4,ρ3,st3,r2,st2',E4,S4,⟨h2.mono x4,rv2.mono x4⟩,e2,p2.later x4⟩
  ·rename_i ρ3 st3 q
   exact hG _ _ _ _ ad2 ρ2 st2 _ _ _ En2 S2 dw q fun σ4 ad4 H4 x4 S4 E4=>⟨ad4,ρ3,st3,r2,st2',E4,S4,⟨h2.mono x4,rv2.mono x4⟩,e2,p2.later x4⟩
  ·rename_i ρ3 st3 q
   cases e2
   exact hG _ _ _ _ ad2 ρ2 st2 _ _ _ En2 S2 dw q fun σ4 ad4 H4 x4 S4 E4=>p2 σ4 ad4 H4 x4 S4 E4
  ·rename_i d st3 q
   cases e2
   exact hG _ _ _ _ ad2 ρ2 st2 _ _ _ En2 S2 dw q p2
  ·cases e2
 ·obtain ⟨ad2,ρ2,st2,r2,st2',En2,S2,⟨h2,rv2⟩,e2,p2⟩:=L
  rw [rv2.length,List.drop_length] at e2
  exact Left.done ⟨ad2,ρ2,st2,r2,st2',En2,S2,e2,p2⟩
theorem Zbk {i j:Nat} (E:Ends) (σ:L2.St) (H:Hp) (h:tS K (VS i j fi f) E σ H):tFor (iTup K (tE K fi)) (gTup K 2 (gCons (gName i) (gCons (gName j) gNil))) (tS K f) E σ H∨tFor (iList K (tE K fi)) (gTup K 2 (gCons (gName i) (gCons (gName j) gNil))) (tS K f) E σ H:=by
 obtain ⟨ad,ρ,st,r,st',En,S,e,p⟩:=Yl h
 unfold VS at e
 split at e
 ·rename_i l st1 q1
  split at e
  ·rename_i bb xs q2
   right
   refine UG E σ H En S q1 q2 e p fun x v σ H ad ρ st st1 r1 E' En S dv e1 p1=>?_
   unfold UT at e1
   split at e1
   ·rename_i y z
    obtain ⟨a,vs,rfl,ha,rv⟩:=dv.ofTup
    cases rv with
    | cons d1 rv=>
     cases rv with
     | cons d2 rv=>
      cases rv
      exact ⟨a,_,rfl,(ha).sq,rfl,_,_,rfl,_,_,rfl,rfl,Yg ((En.set i d1).set j d2) S e1 p1⟩
   ·cases e1
  ·cases e
 ·rename_i xs st1 q1
  left
  refine JX E σ H En S q1 e p fun x v σ H ad ρ st st1 r1 E' En S dv e1 p1=>?_
  unfold UT at e1
  split at e1
  ·rename_i y z
   obtain ⟨a,vs,rfl,ha,rv⟩:=dv.ofTup
   cases rv with
   | cons d1 rv=>
    cases rv with
    | cons d2 rv=>
     cases rv
     exact ⟨a,_,rfl,(ha).sq,rfl,_,_,rfl,_,_,rfl,rfl,Yg ((En.set i d1).set j d2) S e1 p1⟩
  ·cases e1
 ·cases e
end
end Dp



namespace Dp
open PySem PySem.Spec PyProof.Rows L2
variable [ClsTab]
mutual
theorem ZdF:∀ {x y:D},ZI x y=true→x=y
 | .non,y,h=>by cases y<;>simp [ZI] at h ⊢
 | .bl a,y,h=>by cases y<;>simp [ZI] at h ⊢; exact h
 | .int a,y,h=>by cases y<;>simp [ZI] at h ⊢; exact h
 | .str a,y,h=>by cases y<;>simp [ZI] at h ⊢; exact h
 | .tup a,y,h=>by
  cases y with
  | tup b=>rw [Qn (x:=a) (y:=b) (by simpa [ZI] using h)]
  | _=>simp [ZI] at h
 | .lst a,y,h=>by cases y<;>simp [ZI] at h
 | .dct a b,y,h=>by cases y<;>simp [ZI] at h
 | .obj a,y,h=>by cases y<;>simp [ZI] at h
 | .kt a,y,h=>by cases y<;>simp [ZI] at h
theorem Qn:∀ {x y:List D},Z1 x y=true→x=y
 | [],y,h=>by cases y<;>simp [Z1] at h ⊢
 | a :: x,y,h=>by
  cases y with
  | nil=>simp [Z1] at h
  | cons b y=>
   have h:(ZI a b&&Z1 x y)=true:=h
   rw [Bool.and_eq_true] at h
   rw [ZdF h.1,Qn h.2]
end
mutual
theorem VA:∀ {n:Nat}{x:D},okD n x=true→ZI x x=true
 | _,.non,_=>rfl
 | _,.bl a,_=>by simp [ZI]
 | _,.int a,_=>by simp [ZI]
 | _,.str a,_=>by simp [ZI]
 | 0,.tup a,h=>by simp [okD] at h
 | n+1,.tup a,h=>Va (n:=n) (x:=a) h
 | _,.lst a,h=>by simp [okD] at h
 | _,.dct a b,h=>by simp [okD] at h
 | _,.obj a,h=>by simp [okD] at h
 | _,.kt a,h=>by simp [okD] at h
theorem Va:∀ {n:Nat}{x:List D},Yt n x=true→Z1 x x=true
 | _,[],_=>rfl
 | n,a :: x,h=>by
  have h:(okD n a&&Yt n x)=true:=h
  rw [Bool.and_eq_true] at h
  show (ZI a a&&Z1 x x)=true
  rw [VA h.1,Va h.2]
  rfl
end
theorem Xn:∀ {n:Nat}{xs:List D}{i:Nat}{d:D},Yt n xs=true→xs[i]?=some d→okD n d=true
 | _,[],_,_,_,e=>by simp at e
 | n,x :: xs,i,d,h,e=>by
  have h:(okD n x&&Yt n xs)=true:=h
  rw [Bool.and_eq_true] at h
  cases i with
  | zero=>simp at e; subst e; exact h.1
  | succ i=>exact Xn (i:=i) h.2 (by simpa using e)
theorem YW:∀ {xs ys:List D},Z1 xs ys=((List.range (min xs.length ys.length)).all (fun i=>ZI ((xs[i]?).getD .non) ((ys[i]?).getD .non))&&xs.length==ys.length)
 | [],[]=>rfl
 | [],_ :: _=>by simp [Z1]
 | _ :: _,[]=>by simp [Z1]
 | x :: xs,y :: ys=>by
  have ih:=@YW xs ys
  show (ZI x y&&Z1 xs ys)=_
  rw [ih]
  have e:min (x :: xs).length (y :: ys).length=min xs.length ys.length+1:=by simp only [List.length_cons]; omega
  rw [e,List.range_succ_eq_map,List.all_cons,List.all_map]
  simp only [List.length_cons]
  have z:(xs.length+1==ys.length+1)=(xs.length==ys.length):=by
   rw [Bool.eq_iff_iff]; simp
  rw [z,Bool.and_assoc]
  rfl
section
variable {X:Cx}{ad:List Addr}{H:Hp}
mutual
theorem Den.inj (J:∀ (a:Addr) (xs ys:List V),TupAt X.K H a xs→TupAt X.K H a ys→xs=ys):∀ {n m:Nat}{v:V}{x y:D},okD n x=true→okD m y=true→Den X.K ad H v x→Den X.K ad H v y→x=y
 | _,_,_,_,_,_,_,.non,h=>by cases h; rfl
 | _,_,_,_,_,_,_,.bl b,h=>by cases h; rfl
 | _,_,_,_,_,_,_,.int b,h=>by cases h; rfl
 | _,_,_,_,_,_,_,.str b,h=>by cases h; rfl
 | 0,_,_,_,_,hx,_,.tup _ _,_=>by simp [okD] at hx
 | n+1,m,_,.tup ds,y,hx,hy,.tup e r,h=>by
  cases h with
  | tup e' r'=>
   cases J _ _ _ e e'
   cases m with
   | zero=>simp [okD] at hy
   | succ m=>rw [Dens.inj J (n:=n) (m:=m) hx hy r r']
  | lst _=>cases m<;>simp [okD] at hy
  | dct _ _ _ _ _=>cases m<;>simp [okD] at hy
  | obj _ _=>cases m<;>simp [okD] at hy
  | kt _ _ _ _ _ _=>cases m<;>simp [okD] at hy
 | n,_,_,_,_,hx,_,.lst _,_=>by cases n<;>simp [okD] at hx
 | n,_,_,_,_,hx,_,.dct _ _ _ _ _,_=>by cases n<;>simp [okD] at hx
 | n,_,_,_,_,hx,_,.obj _ _,_=>by cases n<;>simp [okD] at hx
 | n,_,_,_,_,hx,_,.kt _ _ _ _ _ _,_=>by cases n<;>simp [okD] at hx
theorem Dens.inj (J:∀ (a:Addr) (xs ys:List V),TupAt X.K H a xs→TupAt X.K H a ys→xs=ys):∀ {n m:Nat}{vs:List V}{xs ys:List D},Yt n xs=true→Yt m ys=true→Dens X.K ad H vs xs→Dens X.K ad H vs ys→xs=ys
 | _,_,_,_,_,_,_,.nil,h=>by cases h; rfl
 | n,m,_,x :: xs,y :: ys,hx,hy,.cons a r,.cons a' r'=>by
  have hx:(okD n x&&Yt n xs)=true:=hx
  have hy:(okD m y&&Yt m ys)=true:=hy
  rw [Bool.and_eq_true] at hx hy
  rw [Den.inj J (n:=n) (m:=m) hx.1 hy.1 a a',Dens.inj J (n:=n) (m:=m) hx.2 hy.2 r r']
end
open PySem.SeqAt in
theorem ZeY {pins:List (Addr×Obj)}{σ:L2.St}{s:Shared} (I:Inv X pins σ H s):∀ (n:Nat) (x y:D) (A:Around) (vx vy:V) (ux uy:Value),okD n x=true→okD n y=true→A.units+n < cLine→Den X.K ad H vx x→Den X.K ad H vy y→RelV vx ux→RelV vy uy→EqAt A s ux uy (ZI x y):=by
 intro n
 induction n with
 | zero=>
  intro x y A vx vy ux uy hx hy hu dx dy rx ry
  cases dx with
  | non=>
   cases rx
   cases dy with
   | non=>cases ry; exact EqAt.same _
   | int j=>obtain ⟨t',rfl⟩:=ry; exact EqAt.none_int j t'
   | str j=>obtain ⟨t',rfl⟩:=ry; exact EqAt.none_str j t'
   | _=>simp [okD] at hy
  | int i=>
   obtain ⟨t,rfl⟩:=rx
   cases dy with
   | non=>cases ry; exact EqAt.int_none i t
   | int j=>obtain ⟨t',rfl⟩:=ry; exact (show ZI (.int i) (.int j)=(i==j) from by rw [Bool.eq_iff_iff]; simp [ZI]) ▸ EqAt.int_int i t j t'
   | str j=>obtain ⟨t',rfl⟩:=ry; exact EqAt.int_str i t j t'
   | _=>simp [okD] at hy
  | str i=>
   obtain ⟨t,rfl⟩:=rx
   cases dy with
   | non=>cases ry; exact EqAt.str_none i t
   | int j=>obtain ⟨t',rfl⟩:=ry; exact EqAt.str_int i t j t'
   | str j=>obtain ⟨t',rfl⟩:=ry; exact (show ZI (.str i) (.str j)=(i==j) from by rw [Bool.eq_iff_iff]; simp [ZI]) ▸ EqAt.str_str i t j t'
   | _=>simp [okD] at hy
  | _=>simp [okD] at hx
 | succ n ih=>
  intro x y A vx vy ux uy hx hy hu dx dy rx ry
  cases dx with
  | non=>
   cases rx
   cases dy with
   | non=>cases ry; exact EqAt.same _
   | int j=>obtain ⟨t',rfl⟩:=ry; exact EqAt.none_int j t'
   | str j=>obtain ⟨t',rfl⟩:=ry; exact EqAt.none_str j t'
   | tup e r=>
    cases ry
    obtain ⟨its,_,p,_⟩:=I.tuple ((e).sq)
    exact EqAt.none_tuple p (by omega)
   | _=>simp [okD] at hy
  | int i=>
   obtain ⟨t,rfl⟩:=rx
   cases dy with
   | non=>cases ry; exact EqAt.int_none i t
   | int j=>obtain ⟨t',rfl⟩:=ry; exact (show ZI (.int i) (.int j)=(i==j) from by rw [Bool.eq_iff_iff]; simp [ZI]) ▸ EqAt.int_int i t j t'
   | str j=>obtain ⟨t',rfl⟩:=ry; exact EqAt.int_str i t j t'
   | tup e r=>
    cases ry
    obtain ⟨its,_,p,_⟩:=I.tuple ((e).sq)
    exact EqAt.int_tuple i t p (by omega)
   | _=>simp [okD] at hy
  | str i=>
   obtain ⟨t,rfl⟩:=rx
   cases dy with
   | non=>cases ry; exact EqAt.str_none i t
   | int j=>obtain ⟨t',rfl⟩:=ry; exact EqAt.str_int i t j t'
   | str j=>obtain ⟨t',rfl⟩:=ry; exact (show ZI (.str i) (.str j)=(i==j) from by rw [Bool.eq_iff_iff]; simp [ZI]) ▸ EqAt.str_str i t j t'
   | tup e r=>
    cases ry
    obtain ⟨its,_,p,_⟩:=I.tuple ((e).sq)
    exact EqAt.str_tuple i t p (by omega)
   | _=>simp [okD] at hy
  | @tup a xs ds e r=>
   cases rx
   obtain ⟨its,rv,p,_⟩:=I.tuple ((e).sq)
   cases dy with
   | non=>cases ry; exact EqAt.tuple_none p (by omega)
   | int j=>obtain ⟨t',rfl⟩:=ry; exact EqAt.tuple_int j t' p (by omega)
   | str j=>obtain ⟨t',rfl⟩:=ry; exact EqAt.tuple_str j t' p (by omega)
   | @tup b ys es e' r'=>
    cases ry
    by_cases hab:a=b
    ·subst hab
     have z:=Den.inj (fun _ _ _ e e2=>I.tuple_inj e.sq e2.sq) (n:=n+1) (m:=n+1) hx hy (Den.tup e r) (Den.tup e' r')
     cases z
     rw [VA hx]
     exact EqAt.same _
    ·obtain ⟨its',rv',p',_⟩:=I.tuple ((e').sq)
     refine EqAt.of_refs hab ?_
     have q:=RcAt.tuples (A:=A) (s:=s) (e:=fun i=>ZI ((ds[i]?).getD .non) ((es[i]?).getD .non)) p p' (by omega) fun j h1 h2=>?_
     ·have e1:its.toArray.size=ds.length:=by rw [List.size_toArray,←rv.length,r.length]
      have e2:its'.toArray.size=es.length:=by rw [List.size_toArray,←rv'.length,r'.length]
      rw [e1,e2] at q
      show RcAt A s (.ref a) (.ref b) (Z1 ds es)
      rw [YW]
      exact q
     ·have l1:j < ds.length:=by rw [←r.length,rv.length]; simpa using h1
      have l2:j < es.length:=by rw [←r'.length,rv'.length]; simpa using h2
      have g1:ds[j]?=some ds[j]:=List.getElem?_eq_getElem l1
      have g2:es[j]?=some es[j]:=List.getElem?_eq_getElem l2
      obtain ⟨v1,q1,d1⟩:=r.get g1
      obtain ⟨v2,q2,d2⟩:=r'.get g2
      obtain ⟨u1,w1,r1⟩:=rv.get q1
      obtain ⟨u2,w2,r2⟩:=rv'.get q2
      have f1:its.toArray[j]=u1:=by
       have:its[j]?=some (its[j]'(by simpa using h1)):=List.getElem?_eq_getElem _
       rw [w1] at this
       simpa using (Option.some.inj this).symm
      have f2:its'.toArray[j]=u2:=by
       have:its'[j]?=some (its'[j]'(by simpa using h2)):=List.getElem?_eq_getElem _
       rw [w2] at this
       simpa using (Option.some.inj this).symm
      rw [f1,f2,g1,g2]
      exact ih ds[j] es[j] A.in1 v1 v2 u1 u2 (Xn hx g1) (Xn hy g2) (by show A.units+1+n < cLine; omega) d1 d2 r1 r2
   | _=>simp [okD] at hy
  | _=>simp [okD] at hx
open PySem.SeqAt in
theorem Ug {pins:List (Addr×Obj)}{σ:L2.St}{s:Shared} (I:Inv X pins σ H s) {n:Nat}{A:Around}{a b:Addr}{xs ys:List V}{ds es:List D}{its its':List Value} (hx:Yt n ds=true) (hy:Yt n es=true) (hu:A.units+n+1 < cLine)
  (r:Dens X.K ad H xs ds) (r':Dens X.K ad H ys es) (rv:Vals xs its) (rv':Vals ys its') (j:Nat) (h1:j < its.toArray.size) (h2:j < its'.toArray.size):EqAt A.in1 s its.toArray[j] its'.toArray[j] (ZI ((ds[j]?).getD .non) ((es[j]?).getD .non)):=by
 have l1:j < ds.length:=by rw [←r.length,rv.length]; simpa using h1
 have l2:j < es.length:=by rw [←r'.length,rv'.length]; simpa using h2
 have g1:ds[j]?=some ds[j]:=List.getElem?_eq_getElem l1
 have g2:es[j]?=some es[j]:=List.getElem?_eq_getElem l2
 obtain ⟨v1,q1,d1⟩:=r.get g1
 obtain ⟨v2,q2,d2⟩:=r'.get g2
 obtain ⟨u1,w1,r1⟩:=rv.get q1
 obtain ⟨u2,w2,r2⟩:=rv'.get q2
 have f1:its.toArray[j]=u1:=by
  have:its[j]?=some (its[j]'(by simpa using h1)):=List.getElem?_eq_getElem _
  rw [w1] at this
  simpa using (Option.some.inj this).symm
 have f2:its'.toArray[j]=u2:=by
  have:its'[j]?=some (its'[j]'(by simpa using h2)):=List.getElem?_eq_getElem _
  rw [w2] at this
  simpa using (Option.some.inj this).symm
 rw [f1,f2,g1,g2]
 exact ZeY I n ds[j] es[j] A.in1 v1 v2 u1 u2 (Xn hx g1) (Xn hy g2) (by show A.units+1+n < cLine; omega) d1 d2 r1 r2
open PySem.SeqAt in
theorem ZcL {pins:List (Addr×Obj)}{σ:L2.St}{s:Shared} (I:Inv X pins σ H s) {n:Nat}{A:Around}{a b:Addr}{xs ys:List V}{ds es:List D} (hx:Yt n ds=true) (hy:Yt n es=true) (hu:A.units+n+1 < cLine)
  (e:TupAt X.K H a xs) (r:Dens X.K ad H xs ds) (e':TupAt X.K H b ys) (r':Dens X.K ad H ys es):RcAt A s (.ref a) (.ref b) (Z1 ds es)∧RcNeAt A s (.ref a) (.ref b) (!Z1 ds es):=by
 obtain ⟨its,rv,p,_⟩:=I.tuple (e.sq)
 obtain ⟨its',rv',p',_⟩:=I.tuple (e'.sq)
 have e1:its.toArray.size=ds.length:=by rw [List.size_toArray,←rv.length,r.length]
 have e2:its'.toArray.size=es.length:=by rw [List.size_toArray,←rv'.length,r'.length]
 have q:=RcAt.tuples (A:=A) (s:=s) (e:=fun i=>ZI ((ds[i]?).getD .non) ((es[i]?).getD .non)) p p' (by omega) fun j h1 h2=>Ug (a:=a) (b:=b) I hx hy hu r r' rv rv' j h1 h2
 have q':=RcNeAt.tuples (A:=A) (s:=s) (e:=fun i=>ZI ((ds[i]?).getD .non) ((es[i]?).getD .non)) p p' (by omega) fun j h1 h2=>Ug (a:=a) (b:=b) I hx hy hu r r' rv rv' j h1 h2
 rw [e1,e2] at q q'
 rw [YW]
 exact ⟨q,q'⟩
end
end Dp



namespace Dp
open PySem PySem.Spec PyProof.Rows L2
variable [ClsTab]
section
open Builtin
open AutoSeq1 (wpAny_loadPart')
theorem Wh:fillsNumberSlot (.type "tuple") "mul"=pure false:=
 PySem.fillsNumberSlot_seq (id := "tuple.__mul__") (r:=some (.builtin "tuple.__rmul__")) F.slot_tuple_mul.lookup (by decide +kernel) F.slot_tuple_rmul.lookup (by decide +kernel)
theorem Uy:seqRepeat? (.type "tuple")=pure (some (.builtin "tuple.__mul__")):=by
 unfold seqRepeat?
 rw [PySem.seqSlot_of (T := "tuple") (name := "__mul__") (id := "tuple.__mul__") F.slot_tuple_mul.lookup (by decide +kernel),PySem.seqSlot_of (T := "tuple") (name := "__rmul__") (id := "tuple.__rmul__") F.slot_tuple_rmul.lookup (by decide +kernel)]
 rfl
theorem QJ (a:Int) (t:Tok) (l:Addr) (items:Array Value) (n:Nat) (dd:Option Addr) (sl:Array (Option Value)):Meets (Builtin.«int.__rmul__» ⟨[.int a t,.ref l],[]⟩) (fun _ R s=>s.heap.get? l=some { cls:=.type "tuple",dict:=dd,data:=.seq items n,slots:=sl }∧R (.ok (.ret Value.notImplemented)) s):=
 .of_wp fun prog w A R s h=>by obtain ⟨hp,g,d,tk,os⟩:=s; obtain ⟨hl,h⟩:=h; wp_walk; exact ⟨_,rfl,h⟩
theorem Za2 (l:Addr) (items:Array Value) (n:Nat) (dd:Option Addr) (sl:Array (Option Value)) (u:Tok) :
  Meets (Builtin.«tuple.__mul__» ⟨[.ref l,.int 1 u],[]⟩) (fun _ R s=>s.heap.get? l=some { cls:=.type "tuple",dict:=dd,data:=.seq items n,slots:=sl }∧R (.ok (.ret (Value.ref l))) s):=
 .of_wp fun prog w A R s h=>by
  obtain ⟨hp,g,d,tk,os⟩:=s; obtain ⟨hl,h⟩:=h; have f1:=AutoSeq1.idx_int; wp_walk using wpAny_loadPart' hl
  exact ⟨_,rfl,h⟩
theorem Zb6 (l:Addr) (items:Array Value) (n:Nat) (dd:Option Addr) (sl:Array (Option Value)) (k:Int) (u:Tok) (h0:¬items.isEmpty=true) (h1:k≤0) (h2:-1000≤k) :
  Meets (Builtin.«tuple.__mul__» ⟨[.ref l,.int k u],[]⟩) (fun _ R s=>s.heap.get? l=some { cls:=.type "tuple",dict:=dd,data:=.seq items n,slots:=sl }∧R (.ok (.ret (Value.ref s.heap.objs.size))) { s with heap:=s.heap.push { cls:=.type "tuple",data:=.seq #[] } }):=
 .of_wp fun prog w A R s h=>by
  obtain ⟨hp,g,d,tk,os⟩:=s; obtain ⟨hl,h⟩:=h; have f1:=AutoSeq1.idx_int
  have a1:(decide (k < -(2 ^ 63))||decide (k≥2 ^ 63))=false:=by rw [decide_eq_false (by omega),decide_eq_false (by omega)]; rfl
  have a2:(items.isEmpty||k==1)=false:=by
   have:(k==1)=false:=by rw [beq_eq_false_iff_ne]; omega
   rw [this,Bool.or_false]; simpa using h0
  have a3:(decide (k≤0)||items.isEmpty)=true:=by rw [decide_eq_true h1]; rfl
  wp_walk using wpAny_loadPart' hl
  refine wpAny_ite_false (by rw [a1]; rfl) ?_
  wp_walk using wpAny_loadPart' hl
  refine wpAny_ite_false (by rw [a2]; rfl) ?_
  wp_walk using wpAny_loadPart' hl
  exact ⟨_,rfl,h⟩
theorem ZaD (l:Addr) (items:Array Value) (n:Nat) (dd:Option Addr) (sl:Array (Option Value)) (k:Int) (u:Tok) (h0:items.size=1) (h1:2≤k) (h2:k≤1000) :
  Meets (Builtin.«tuple.__mul__» ⟨[.ref l,.int k u],[]⟩) (fun _ R s=>s.heap.get? l=some { cls:=.type "tuple",dict:=dd,data:=.seq items n,slots:=sl }∧R (.ok (.ret (Value.ref s.heap.objs.size))) { s with heap:=s.heap.push { cls:=.type "tuple",data:=.seq ((List.replicate k.toNat items).foldl (fun x1 x2=>x1++x2) #[]) } }):=
 .of_wp fun prog w A R s h=>by
  obtain ⟨hp,g,d,tk,os⟩:=s; obtain ⟨hl,h⟩:=h; have f1:=AutoSeq1.idx_int
  have a1:(decide (k < -(2 ^ 63))||decide (k≥2 ^ 63))=false:=by rw [decide_eq_false (by omega),decide_eq_false (by omega)]; rfl
  have ae:items.isEmpty=false:=by
   rw [Array.isEmpty_eq_false_iff]; intro z; rw [z] at h0; simp at h0
  have a2:(items.isEmpty||k==1)=false:=by
   have:(k==1)=false:=by rw [beq_eq_false_iff_ne]; omega
   rw [this,Bool.or_false]; exact ae
  have a3:(decide (k≤0)||items.isEmpty)=false:=by rw [decide_eq_false (by omega),ae]; rfl
  have a4:decide ((items.size:Int) * k > (2 ^ 63 - 1) / 8)=false:=by rw [h0]; exact decide_eq_false (by omega)
  have a5:Tuple.tupleTooMany ((items.size:Int) * k)=false:=by
   unfold Tuple.tupleTooMany
   rw [h0]
   exact decide_eq_false (by have:(sizeLine:Int)≥1000:=(by decide); omega)
  have a6:decide (((List.replicate k.toNat items).foldl (fun x1 x2=>x1++x2) #[]).size > sizeLine)=false:=by
   rw [AutoListH.size_joined]
   refine decide_eq_false ?_
   have:sizeLine≥1000:=by decide
   simp only [h0,Array.size_empty]
   omega
  wp_walk using wpAny_loadPart' hl
  refine wpAny_ite_false (by rw [a1]; rfl) ?_
  wp_walk using wpAny_loadPart' hl
  refine wpAny_ite_false (by rw [a2]; rfl) ?_
  wp_walk using wpAny_loadPart' hl
  refine wpAny_ite_false (by rw [a3]; rfl) ?_
  wp_walk using wpAny_loadPart' hl
  refine wpAny_ite_false a4 ?_
  wp_walk using wpAny_loadPart' hl
  refine wpAny_ite_false (by rw [a5]; rfl) ?_
  wp_walk using wpAny_loadPart' hl
  exact ⟨_,rfl,h⟩
theorem Zda {X:Cx}{pins:List (Addr×Obj)}{s:Shared}{σ:L2.St}{H:Hp}{a:Addr}{v:V}{k:Int}{t:Tok}{Q:VK} (I:L2.Inv X pins σ H s) (ha:TupAt X.K H a [v]) (h1:k≤1000) (h2:-1000≤k) (q1:k=1→Q (.ref a) H)
  (q2:∀ p,H p=none→Q (.ref p) (upd H p (.tup (List.replicate k.toNat v)))):wpAny (model X.prog X.w) X.A (binaryOp .Mult (.ref a) (.int k t)) (EP X pins σ Q) X.xe s:=by
 obtain ⟨its,r,p1,_⟩:=I.tuple (ha.sq)
 obtain ⟨u,rfl,ru⟩:=r.one
 obtain ⟨⟨c1,dd,dt,sl⟩,ho,hc,n,hd⟩:=id p1
 simp only at hc hd
 subst hc hd
 have fin:∀ its':List Value,Vals (List.replicate k.toNat v) its'→EP X pins σ Q (.ref s.heap.objs.size) { s with heap:=s.heap.push { cls:=.type "tuple",data:=.seq its'.toArray } }:=fun its' r'=>
  ⟨.ref s.heap.objs.size,_,I.laid (t':=s.toks) (o:=.tup (List.replicate k.toNat v)) (fun b ob q=>Heap.get?_push_of_some _ q) (Nat.le_refl _) ⟨by rw [List.length_replicate]; exact Nat.le_trans (show k.toNat≤1000 by omega) (by decide),its',r',IsTup.new _ _⟩,rfl,q2 _ (I.hok.fresh (Nat.le_refl _))⟩
 refine wpAny_binaryOp_repeat_ref (T := "tuple") (U := "int") (by decide) ⟨_,ho,rfl⟩ (fun s'=>typeIs_int s' k t) Wh F.fills_int_mul F.slot_int_rmul Uy F.slot_int_index.lookup
  (call_meets F.slot_int_rmul (typeIs_int s k t) F.entry_int_rmul (F.args_int_rmul_2 _ _) (QJ k t a _ n dd sl) ⟨ho,rfl,⟨_,ho,rfl⟩,?_⟩)
 by_cases e1:k=1
 ·subst e1
  exact call_meets F.slot_tuple_mul ⟨_,ho,rfl⟩ F.entry_tuple_mul (F.args_tuple_mul_2 _ _) (Za2 a _ n dd sl t) ⟨ho,⟨.ref a,H,I,rfl,q1 rfl⟩⟩
 ·by_cases e0:k≤0
  ·refine call_meets F.slot_tuple_mul ⟨_,ho,rfl⟩ F.entry_tuple_mul (F.args_tuple_mul_2 _ _) (Zb6 a _ n dd sl k t (by simp) e0 h2) ⟨ho,?_⟩
   have z:k.toNat=0:=by omega
   exact fin [] (by rw [z]; exact .nil)
  ·refine call_meets F.slot_tuple_mul ⟨_,ho,rfl⟩ F.entry_tuple_mul (F.args_tuple_mul_2 _ _) (ZaD a _ n dd sl k t (by simp) (by omega) h1) ⟨ho,?_⟩
   have e:List.foldl (fun x1 x2=>x1++x2) #[] (List.replicate k.toNat [u].toArray)=(List.replicate k.toNat u).toArray:=by
    have e2:=foldl_rep [u] k.toNat []
    rw [List.nil_append] at e2
    rw [show ([]:List Value).toArray=#[] from rfl] at e2
    rw [e2]
    congr 1
    generalize k.toNat=j
    induction j with
    | zero=>rfl
    | succ j ih=>rw [List.replicate_succ,List.flatten_cons,ih,List.replicate_succ]; rfl
   rw [e]
   refine fin _ ?_
   generalize k.toNat=j
   induction j with
   | zero=>exact .nil
   | succ j ih=>exact .cons ru ih
end
theorem WK:Zi≤sizeLine:=by decide
section
variable {X:Cx}
theorem VW {i:Int} (h:YM i=true):-(2 ^ 64) < i∧i < 2 ^ 64:=by
 unfold YM at h
 rw [Bool.and_eq_true] at h
 exact ⟨of_decide_eq_true h.1,of_decide_eq_true h.2⟩
theorem Zcz {pins:List (Addr×Obj)}{s:Shared}{σ:L2.St}{H:Hp}{a b:Addr}{xs ys:List V}{Q:VK} (I:Inv X pins σ H s) (ha:TupAt X.K H a xs) (hb:TupAt X.K H b ys) (hz:xs.length+ys.length≤sizeLine)
  (q0:xs=[]→Q (.ref b) H) (q1:ys=[]→Q (.ref a) H) (q2:∀ p,H p=none→Q (.ref p) (upd H p (.tup (xs++ys)))):wpAny (model X.prog X.w) X.A (binaryOp .Add (.ref a) (.ref b)) (EP X pins σ Q) X.xe s:=by
 by_cases hx:xs=[]
 ·obtain ⟨its,r1,p1,_⟩:=I.tuple (ha.sq)
  obtain ⟨its2,r2,p2,_⟩:=I.tuple (hb.sq)
  have e1:its=[]:=r1.nil_iff.mpr hx
  subst e1
  obtain ⟨⟨c1,dd,dt,sl⟩,ho,hc,n,hd⟩:=id p1
  obtain ⟨⟨c2,dd2,dt2,sl2⟩,ho2,hc2,n2,hd2⟩:=id p2
  simp only at hc hd hc2 hd2
  subst hc hd hc2 hd2
  exact concat_meets ⟨_,ho,rfl⟩ ⟨_,ho2,rfl⟩ noFill_tuple_add seq_tuple_add PySem.F.slot_tuple_add PySem.F.entry_tuple_add (PySem.F.args_tuple_add_2 _ _)
   (tuple_addW0 a b #[] its2.toArray n n2 dd dd2 sl sl2 rfl) ⟨ho,ho2,⟨.ref b,H,I,rfl,q0 hx⟩⟩
 ·exact op_catT pins s σ H (.ref a) (.ref b) _ _ Q I rfl rfl ⟨a,b,xs,ys,rfl,rfl,(ha).sq,(hb).sq,hx,hz,q1,fun _=>q2⟩
theorem Zab {i j:Int} (hi:0≤i) (hj:0≤j):Builtin.bitAnd i j=((i.toNat &&& j.toNat:Nat):Int):=by
 unfold Builtin.bitAnd
 simp [hi,hj]
theorem JZ {i j:Int} (hi:0≤i) (hj:j < 0):Builtin.bitAnd i j=i - ((i.toNat &&& (-j - 1).toNat:Nat):Int):=by
 unfold Builtin.bitAnd
 rw [decide_eq_true hi,decide_eq_false (by omega)]
 rfl
theorem Zbp {i j:Int} (hi:0≤i) (hj:0≤j):Builtin.bitOr i j=((i.toNat ||| j.toNat:Nat):Int):=by
 unfold Builtin.bitOr
 have n:∀ {k:Int},0≤k→decide (0≤Builtin.bitNot k)=false:=fun {k} h=>by unfold Builtin.bitNot; exact decide_eq_false (by omega)
 have nn:∀ k:Int,Builtin.bitNot (Builtin.bitNot k)=k:=fun k=>by unfold Builtin.bitNot; omega
 have e:Builtin.bitAnd (Builtin.bitNot i) (Builtin.bitNot j)=Builtin.bitNot ((Builtin.bitNot (Builtin.bitNot i)).toNat ||| (Builtin.bitNot (Builtin.bitNot j)).toNat:Nat):=by
  unfold Builtin.bitAnd
  rw [n hi,n hj]
 rw [e,nn,nn,nn]
theorem ZdQ {op:Operator}{i j k:Int}{pins:List (Addr×Obj)}{s:Shared}{σ:L2.St}{H:Hp}{v u:Value}{Q:VK} (I:L2.Inv X pins σ H s) (rx:RelV (.int i) v) (ry:RelV (.int j) u) (e:Zct op i j=some k) (p:Q (.int k) H) :
  wpAny (model X.prog X.w) X.A (binaryOp op v u) (EP X pins σ Q) X.xe s:=by
 unfold Zct at e
 split at e
 ·cases e
  exact op_add pins s σ H _ _ v u Q I rx ry ⟨_,_,rfl,rfl,p⟩
 ·cases e
  exact op_sub pins s σ H _ _ v u Q I rx ry ⟨_,_,rfl,rfl,p⟩
 ·split at e
  ·rename_i hl
   cases e
   refine op_mul pins s σ H _ _ v u Q I rx ry ⟨_,_,rfl,rfl,?_,p⟩
   rw [Bool.or_eq_true] at hl
   exact hl.elim (fun z=>.inl (VW z)) fun z=>.inr (VW z)
  ·cases e
 ·split at e
  ·rename_i hl
   cases e
   exact op_fdiv pins s σ H _ _ v u Q I rx ry ⟨_,_,rfl,rfl,hl,p⟩
  ·split at e
   ·rename_i hl
    cases e
    exact op_fdivN pins s σ H _ _ v u Q I rx ry ⟨_,_,rfl,rfl,⟨by omega,by omega⟩,p⟩
   ·cases e
 ·split at e
  ·rename_i hl
   cases e
   exact op_mod pins s σ H _ _ v u Q I rx ry ⟨_,_,rfl,rfl,hl,p⟩
  ·split at e
   ·rename_i hl
    cases e
    exact op_modN pins s σ H _ _ v u Q I rx ry ⟨_,_,rfl,rfl,(by omega),p⟩
   ·cases e
 ·split at e
  ·rename_i hl
   cases e
   have:=VW hl.2.2
   exact op_pow pins s σ H _ _ v u Q I rx ry ⟨_,_,rfl,rfl,⟨hl.1,by omega,by omega⟩,p⟩
  ·cases e
 ·split at e
  ·rename_i hl
   cases e
   have:=VW hl.2.2
   exact op_shl pins s σ H _ _ v u Q I rx ry ⟨_,_,rfl,rfl,⟨hl.1,by omega,by omega⟩,p⟩
  ·cases e
 ·split at e
  ·rename_i hl
   cases e
   refine op_and pins s σ H _ _ v u Q I rx ry ⟨_,_,rfl,rfl,?_⟩
   dsimp only
   rw [Zab hl.1 hl.2]
   exact p
  ·split at e
   ·rename_i hl
    cases e
    refine op_and pins s σ H _ _ v u Q I rx ry ⟨_,_,rfl,rfl,?_⟩
    dsimp only
    rw [JZ hl.1 hl.2]
    exact p
   ·cases e
 ·split at e
  ·rename_i hl
   cases e
   exact op_shr pins s σ H _ _ v u Q I rx ry ⟨_,_,rfl,rfl,hl.1,p⟩
  ·cases e
 ·split at e
  ·rename_i hl
   cases e
   refine op_or pins s σ H _ _ v u Q I rx ry ⟨_,_,rfl,rfl,?_⟩
   dsimp only
   rw [Zbp hl.1 hl.2]
   exact p
  ·cases e
 ·cases e
theorem JU {pins:List (Addr×Obj)}{s:Shared}{σ:L2.St}{H:Hp}{a b:Addr}{xs ys:List V}{Q:VK} (I:L2.Inv X pins σ H s) (ha:SqL X.K H a xs) (hb:SqL X.K H b ys) (hz:xs.length+ys.length≤sizeLine)
  (q:∀ p,H p=none→Q (.ref p) (upd H p (.lst (xs++ys)))):wpAny (model X.prog X.w) X.A (binaryOp .Add (.ref a) (.ref b)) (EP X pins σ Q) X.xe s:=by
 obtain ⟨its,r,p1,_⟩:=I.list ha
 obtain ⟨its2,r2,p2,_⟩:=I.list hb
 obtain ⟨⟨cls,dd,data,sl⟩,ho,hc,n,hd⟩:=id p1.isList
 obtain ⟨⟨cls2,dd2,data2,sl2⟩,ho2,hc2,n2,hd2⟩:=id p2.isList
 simp only at hc hd hc2 hd2
 subst hc hd hc2 hd2
 have e:its.toArray++its2.toArray=(its++its2).toArray:=by simp
 have l1:=r.length
 have l2:=r2.length
 refine concat_meets ⟨_,ho,rfl⟩ ⟨_,ho2,rfl⟩ noFill_list_add seq_list_add PySem.F.slot_list_add PySem.F.entry_list_add (PySem.F.args_list_add_2 _ _) (list_addW a b its.toArray its2.toArray n n2 dd dd2 sl sl2 (by simp; omega)) ⟨ho,ho2,?_⟩
 rw [e]
 exact ⟨.ref _,_,I.lnew (t':=s.toks) (r.append r2) (by rw [List.length_append]; omega),rfl,q _ I.fresh⟩
theorem ZaL {op:Operator} (h:Vc op=true):op=.Add:=by cases op<;>first | rfl | cases h
theorem ZaS {op:Operator} (h:UF op=true):op=.Mult:=by cases op<;>first | rfl | cases h
theorem Zdi {op:Operator}:OpR X (binaryOp op) (rD X.K (Vl op)):=by
 intro pins s σ H x y v u Q I rx ry h
 obtain ⟨ad,st,dx,dy,d,st',S,hx,hy,e,p⟩:=h
 unfold Vl at e
 split at e
 ·split at e
  ·rename_i k q
   cases e; cases hx; cases hy
   exact ZdQ I rx ry q (p.at S (.int _))
  ·cases e
 ·split at e
  ·rename_i hz0
   cases ZaL hz0.1
   have hz:=hz0.2
   cases e
   obtain ⟨a,xs,rfl,ha,r1⟩:=hx.ofTup
   obtain ⟨b,ys,rfl,hb,r2⟩:=hy.ofTup
   cases rx; cases ry
   refine Zcz I ha hb (by rw [r1.length,r2.length]; exact Nat.le_trans hz WK) (fun z=>?_) (fun z=>?_) fun q hq=>?_
   ·subst z; cases r1
    exact p.at S hy
   ·subst z; cases r2
    rw [List.append_nil] at p
    exact p.at S hx
   ·exact p _ ad _ (Ext.laid hq) (S.laid hq) (.tup (.inl upd_same) ((r1.append r2).mono (Ext.laid hq)))
  ·cases e
 ·split at e
  ·rename_i hz0
   cases ZaS hz0.1
   have hz:=hz0.2
   cases e
   obtain ⟨a,xs,rfl,ha,r1⟩:=hx.ofTup
   cases hy
   cases rx
   obtain ⟨t,rfl⟩:=ry
   cases r1 with
   | cons d1 r1=>
    cases r1
    refine Zda I ha hz.1 hz.2 (fun z=>?_) fun q hq=>p _ ad _ (Ext.laid hq) (S.laid hq) (.tup (.inl upd_same) ((Dens.rep d1 _).mono (Ext.laid hq)))
    subst z
    exact p.at S (.tup ha (.cons d1 .nil))
  ·cases e
 ·split at e
  ·rename_i hop
   cases ZaL hop
   unfold Ze1 at e
   split at e
   ·rename_i xs ys q1 q2
    split at e
    ·rename_i hz
     cases e
     obtain ⟨a,rfl,ha⟩:=hx.ofLst
     obtain ⟨b,rfl,hb⟩:=hy.ofLst
     obtain ⟨vs,r1,h1⟩:=S.list ha q1
     obtain ⟨ws,r2,h2⟩:=S.list hb q2
     cases rx; cases ry
     refine JU I h1 h2 (by rw [r1.length,r2.length]; exact Nat.le_trans hz WK) fun q hq=>?_
     refine p _ (ad++[q]) _ (Ext.push hq) (S.push hq (r1.append r2)) (.lst ?_)
     rw [←S.len]
     exact Zu
    ·cases e
   ·cases e
  ·cases e
 ·split at e
  ·rename_i hop
   cases ZaS hop
   unfold Zep at e
   split at e
   ·rename_i z q1
    split at e
    ·rename_i hz
     cases e
     obtain ⟨a,rfl,ha⟩:=hx.ofLst
     obtain ⟨vs,r1,h1⟩:=S.listM ha q1
     cases hy
     cases r1 with
     | cons d1 r1=>
      cases r1
      rename_i w
      refine op_rep pins s σ H _ _ v u Q I rx ry ⟨a,_,[w],rfl,rfl,h1,by omega,by omega,?_,fun q hq=>?_⟩
      ·rw [List.length_singleton,Nat.one_mul]
       exact Nat.le_trans (show _≤1000 by omega) (by decide)
      ·have e1:∀ k:Nat,(List.replicate k [w]).flatten=List.replicate k w:=fun k=>by
        induction k with
        | zero=>rfl
        | succ k ih=>rw [List.replicate_succ,List.flatten_cons,ih,List.replicate_succ]; rfl
       rw [e1]
       refine p _ (ad++[q]) _ (Ext.push hq) (S.push hq (Dens.rep d1 _)) (.lst ?_)
       rw [←S.len]
       exact Zu
    ·cases e
   ·cases e
  ·cases e
 ·cases e
theorem ZcD:UnR X (unaryOp .USub) (rU1 X.K ZdB):=by
 intro pins s σ H x v Q I rx h
 obtain ⟨ad,st,dx,d,st',S,hx,e,p⟩:=h
 unfold ZdB at e
 split at e
 ·cases e; cases hx
  exact un_neg pins s σ H _ v Q I rx ⟨_,rfl,p.at S (.int _)⟩
 ·cases e
theorem ZcQ:UnR X (unaryOp .Invert) (rU1 X.K Zc4):=by
 intro pins s σ H x v Q I rx h
 obtain ⟨ad,st,dx,d,st',S,hx,e,p⟩:=h
 unfold Zc4 at e
 split at e
 ·cases e; cases hx
  exact un_inv pins s σ H _ v Q I rx ⟨_,rfl,p.at S (.int _)⟩
 ·cases e
theorem QL {xs:List V}{ds:List D}{ad:List Addr}{H:Hp}{i:Int}{d:D} (r:Dens X.K ad H xs ds) (e:atD ds i=some d):∃ v,atI xs i=some v∧Den X.K ad H v d:=by
 unfold atD at e
 have hl:L2.ixN xs.length i=Dp.ixN ds.length i:=by rw [r.length]; rfl
 cases q:Dp.ixN ds.length i with
 | none=>rw [q] at e; cases e
 | some j=>
  rw [q] at e
  obtain ⟨v,e1,e2⟩:=r.get (i:=j) e
  refine ⟨v,?_,e2⟩
  unfold atI
  rw [hl,q]
  exact e1
theorem XS {ad:List Addr}{H:Hp}{k:Str}:∀ {ks:List Str}{vs:List V}{ds:List D},Dens X.K ad H vs ds→ks.length=vs.length→
  (∃ v d,valV ((ks.zip vs).map fun p=>((Sum.inr p.1:Key),p.2)) (Sum.inr k)=some v∧ZF ks ds k=some d∧Den X.K ad H v d)∨(valV ((ks.zip vs).map fun p=>((Sum.inr p.1:Key),p.2)) (Sum.inr k)=none∧ZF ks ds k=none)
 | [],_,_,.nil,_=>.inr ⟨rfl,rfl⟩
 | [],_,_,.cons _ _,h=>by simp at h
 | _ :: _,_,_,.nil,h=>by simp at h
 | x :: ks,v :: vs,d :: ds,.cons hd r,h=>by
  by_cases e:x=k
  ·subst e
   exact .inl ⟨v,d,valV_pos rfl,by simp [ZF],hd⟩
  ·have ih:=XS (k:=k) r (by simpa using h)
   have e1:valV (((x :: ks).zip (v :: vs)).map fun p=>((Sum.inr p.1:Key),p.2)) (Sum.inr k)=valV ((ks.zip vs).map fun p=>((Sum.inr p.1:Key),p.2)) (Sum.inr k):=valV_neg (p:=(Sum.inr x,v)) (by intro z; exact e (Sum.inr.inj z))
   have e2:ZF (x :: ks) (d :: ds) k=ZF ks ds k:=by simp [ZF,e]
   rw [e1,e2]; exact ih
theorem Zhz:IxR X (rD X.K ixR):=by
 intro value slice pins s σ H x y v u Q I rx ry h hs
 obtain ⟨ad,st,dx,dy,d,st',S,hx,hy,e,p⟩:=h
 unfold ixR at e
 split at e
 ·rename_i d' q
  cases e
  unfold ixD at q
  split at q
  ·obtain ⟨a,xs,rfl,ha,r⟩:=hx.ofTup
   cases hy
   obtain ⟨w,e1,e2⟩:=QL r q
   exact ix_tup value slice pins s σ H _ _ v u Q I rx ry ⟨a,xs,_,w,rfl,rfl,(ha).sq,e1,p.at S e2⟩ hs
  ·split at q
   ·rename_i q0
    obtain ⟨a,rfl,ha⟩:=hx.ofLst
    cases hy
    obtain ⟨xs,r,sq⟩:=S.list ha q0
    obtain ⟨w,e1,e2⟩:=QL r q
    exact ix_list value slice pins s σ H _ _ v u Q I rx ry ⟨a,xs,_,w,rfl,rfl,sq,e1,p.at S e2⟩ hs
   ·cases q
  ·obtain ⟨a,vs,rfl,ha,hl,r⟩:=hx.ofDct
   cases hy
   rcases XS r hl with ⟨w,d0,e1,e2,e3⟩ | ⟨_,e2⟩
   ·rw [e2] at q
    cases q
    exact ix_dct value slice pins s σ H _ _ v u Q I rx ry ⟨a,_,Sum.inr _,w,rfl,rfl,ha,e1,p.at S e3⟩ hs
   ·rw [e2] at q; cases q
  ·obtain ⟨a,o,its,n,rfl,h1,h2,h3,h4,h5⟩:=hx.ofKt
   cases hy
   obtain ⟨w,e1,e2⟩:=QL (VB _) q
   exact ix_tup value slice pins s σ H _ _ v u Q I rx ry ⟨a,_,_,w,rfl,rfl,.inr ⟨o,its,n,h1,h2.1,h3,h4,h5⟩,e1,p.at S e2⟩ hs
  ·cases q
 ·cases e
theorem Y3 (n d:Nat) (o:Option Int):Dp.sIx n d o=HT.sIx n d o:=by cases o<;>rfl
theorem Zb1 {xs:List V}{ds:List D}{ad:List Addr}{H:Hp}{lo hi:Option Int} (r:Dens X.K ad H xs ds):Dens X.K ad H (cutV xs lo hi) (J6 ds lo hi):=by
 unfold cutV J6
 rw [←r.length,Y3,Y3]
 exact (r.drop _).take _
theorem Vm {prog:Program}{w:World}{A:Around}{E:Value→Shared→Prop}{s:Shared}{t sl:Addr}{items:Array Value}{vl vu:Value}{lo hi:Option Int}{Q:Value→Shared→Prop} (ht:IsTup s.heap t items) (hs:s.heap.IsSliceOf sl vl vu .none) (pl:IsPart vl lo) (pu:IsPart vu hi)
  (hw:HT.sIx items.size 0 lo=0∧HT.sIx items.size items.size hi=items.size) (h:Q (.ref t) s):wpAny (model prog w) A (getItem (.ref t) (.ref sl)) Q E s:=by
 obtain ⟨os,hos,hcs,hds⟩:=id hs
 have hTs:s.TypeIs (.ref sl) "slice":=⟨os,hos,hcs⟩
 unfold getItem
 try with_reducible refine wpAny_holding ?_
 first | refine wpAny_bind (wpAny_pure ?_) | skip
 refine wpAny_bind (wpAny_sequenceKey ht.typeIs (by decide) ?_)
 refine wpAny_bind (wpAny_callSpecial?_slot (name:=Str.ofString "__getitem__") ht.typeIs PyProof.Rows.slot_tuple_getitem
  (wpAny_call_entry PyProof.Rows.slot_tuple_getitem ht.typeIs PyProof.Rows.entry_tuple_getitem ?_ (PyProof.Rows.args_tuple_getitem _ _)))
 show wpAny _ _ (Builtin.Tuple.tupleItemsOf (.ref t) >>= _) _ _ s
 refine wpAny_bind (tupleItemsOf_ ht ?_)
 refine wpAny_bind (wpAny_typeOf hTs ?_)
 rw [if_pos (by decide)]
 refine wpAny_bind (HT.sliceApplied_gen hs pl pu ?_)
 rw [hw.1,hw.2]
 have hyes:(((0:Nat):Int)==0&&(1:Int)==1&&(items.size - 0)==items.size)=true:=by simp
 show wpAny _ _ (if (((0:Nat):Int)==0&&(1:Int)==1&&(items.size - 0)==items.size)=true then _ else _) _ _ s
 rw [if_pos hyes]
 unfold Builtin.Tuple.tupleIsExact
 wp_walk using wpAny_typeOf ht.typeIs

 exact ⟨_,rfl,wpAny_pure h⟩
theorem Zcg:SlR X (fun x lo hi H Q=>∃ a xs,x=.ref a∧SqT X.K H a xs∧(HT.sIx xs.length 0 lo=0∧HT.sIx xs.length xs.length hi=xs.length)∧Q (.ref a) H):=by
 intro pins s σ H x v vl vu lo hi sl Q I rx hs pl pu h
 obtain ⟨a,xs,rfl,hx,hw,q⟩:=h
 cases rx
 obtain ⟨its,r,ht,hz⟩:=I.tuple hx
 have hlen:its.toArray.size=xs.length:=by rw [List.size_toArray]; exact r.length.symm
 refine ⟨"tuple",_,PyProof.Rows.slot_tuple_getitem.lookup,ht.typeIs,?_⟩
 exact Vm ht hs pl pu (by rw [hlen]; exact hw) ⟨.ref a,H,I,rfl,q⟩
theorem Zh2:SlR X (rSl X.K):=by
 intro pins s σ H x v vl vu lo hi sl Q I rx hs pl pu h
 obtain ⟨ad,st,dx,d,st',S,hx,e,p⟩:=h
 unfold Ym at e
 split at e
 ·rename_i ds
  split at e
  ·rename_i hw
   cases e
   obtain ⟨a,xs,rfl,ha,r⟩:=hx.ofTup
   refine Zcg pins s σ H _ v vl vu lo hi sl Q I rx hs pl pu ⟨a,xs,rfl,ha.sq,?_,p.at S hx⟩
   rw [r.length,←Y3,←Y3]
   exact hw
  ·rename_i hw
   cases e
   obtain ⟨a,xs,rfl,ha,r⟩:=hx.ofTup
   refine sl_tup pins s σ H _ v vl vu lo hi sl Q I rx hs pl pu ⟨a,xs,rfl,(ha).sq,?_,fun q hq=>p _ ad _ (Ext.laid hq) (S.laid hq) (.tup (.inl upd_same) ((Zb1 r).mono (Ext.laid hq)))⟩
   rw [r.length,←Y3,←Y3]
   exact hw
 ·split at e
  ·rename_i q0
   cases e
   obtain ⟨a,rfl,ha⟩:=hx.ofLst
   obtain ⟨xs,r,sq⟩:=S.list ha q0
   refine sl_list pins s σ H _ v vl vu lo hi sl Q I rx hs pl pu ⟨a,xs,rfl,sq,fun q hq=>p _ (ad++[q]) _ (Ext.push hq) (S.push hq (Zb1 r)) (.lst ?_)⟩
   rw [←S.len]
   exact Zu
  ·cases e
 ·cases e
theorem W5 {ad:List Addr}{H:Hp}{vs:List V}{d:D} (h:Dens X.K ad H vs [d]):∃ v,vs=[v]∧Den X.K ad H v d:=by
 cases h with
 | cons h r=>cases r; exact ⟨_,rfl,h⟩
theorem Zd5 {ad:List Addr}{H:Hp}{vs:List V}{d e:D} (h:Dens X.K ad H vs [d,e]):∃ v w,vs=[v,w]∧Den X.K ad H v d∧Den X.K ad H w e:=by
 cases h with
 | cons h r=>
  cases r with
  | cons h' r=>cases r; exact ⟨_,_,rfl,h,h'⟩
theorem Yu {g:D→Za→Res}{ds:List D}{st:Za}{r:D×Za} (h:on1 g ds st=some r):∃ d,ds=[d]∧g d st=some r:=by
 unfold on1 at h
 split at h
 ·exact ⟨_,rfl,h⟩
 ·cases h
theorem VC {g:D→D→Za→Res}{ds:List D}{st:Za}{r:D×Za} (h:on2 g ds st=some r):∃ d e,ds=[d,e]∧g d e st=some r:=by
 unfold on2 at h
 split at h
 ·exact ⟨_,_,rfl,h⟩
 ·cases h
theorem J3:CallR X (.builtin "len") (rC X.K (on1 J7)):=by
 intro pins s σ H xs us Q I r h
 obtain ⟨ad,st,ds,d,st',S,hd,e,p⟩:=h
 obtain ⟨x,rfl,e1⟩:=Yu e
 have e:=e1
 obtain ⟨v,rfl,hv⟩:=W5 hd
 unfold J7 at e
 split at e
 ·rename_i n q
  cases e
  unfold Zfg at q
  split at q
  ·cases q
   obtain ⟨a,ys,rfl,ha,rr⟩:=hv.ofTup
   refine call_len_seq pins s σ H _ us Q I r ⟨a,ys,rfl,.inr ((ha).sq),?_⟩
   rw [rr.length]
   exact p.at S (.int _)
  ·split at q
   ·rename_i q0
    cases q
    obtain ⟨a,rfl,ha⟩:=hv.ofLst
    obtain ⟨ys,rr,sq⟩:=S.list ha q0
    refine call_len_seq pins s σ H _ us Q I r ⟨a,ys,rfl,.inl sq,?_⟩
    rw [rr.length]
    exact p.at S (.int _)
   ·cases q
  ·cases q
   obtain ⟨a,o,its,n,rfl,h1,h2,h3,h4,h5⟩:=hv.ofKt
   refine call_len_seq pins s σ H _ us Q I r ⟨a,_,rfl,.inr (.inr ⟨o,its,n,h1,h2.1,h3,h4,h5⟩),?_⟩
   rw [List.length_map]
   exact p.at S (.int _)
  ·cases q
 ·cases e
theorem U0:CallR X (.type "tuple") (rC X.K (on1 Wg)):=by
 intro pins s σ H xs us Q I r h
 obtain ⟨ad,st,ds,d,st',S,hd,e,p⟩:=h
 obtain ⟨x,rfl,e1⟩:=Yu e
 have e:=e1
 obtain ⟨v,rfl,hv⟩:=W5 hd
 unfold Wg at e
 split at e
 ·cases e
  obtain ⟨a,ys,rfl,ha,rr⟩:=hv.ofTup
  exact call_tuple_of pins s σ H _ us Q I r ⟨a,ys,rfl,.inr ⟨(ha).sq,p.at S hv⟩⟩
 ·split at e
  ·rename_i q0
   cases e
   obtain ⟨a,rfl,ha⟩:=hv.ofLst
   obtain ⟨ys,rr,sq⟩:=S.list ha q0
   exact call_tuple_of pins s σ H _ us Q I r ⟨a,ys,rfl,.inl ⟨sq,fun l hl=>p _ ad _ (Ext.laid hl) (S.laid hl) (.tup (.inl upd_same) (rr.mono (Ext.laid hl)))⟩⟩
  ·cases e
 ·cases e
theorem Ji:CallR X (.type "list") (rC X.K (on1 VQ)):=by
 intro pins s σ H xs us Q I r h
 obtain ⟨ad,st,ds,d,st',S,hd,e,p⟩:=h
 obtain ⟨x,rfl,e1⟩:=Yu e
 have e:=e1
 obtain ⟨v,rfl,hv⟩:=W5 hd
 unfold VQ at e
 split at e
 ·cases e
  obtain ⟨a,ys,rfl,ha,rr⟩:=hv.ofTup
  refine call_list_of pins s σ H _ us Q I r ⟨a,ys,rfl,.inr ((ha).sq),fun l hl=>p _ (ad++[l]) _ (Ext.push hl) (S.push hl rr) (.lst ?_)⟩
  rw [←S.len]
  exact Zu
 ·split at e
  ·rename_i q0
   cases e
   obtain ⟨a,rfl,ha⟩:=hv.ofLst
   obtain ⟨ys,rr,sq⟩:=S.list ha q0
   refine call_list_of pins s σ H _ us Q I r ⟨a,ys,rfl,.inl sq,fun l hl=>p _ (ad++[l]) _ (Ext.push hl) (S.push hl rr) (.lst ?_)⟩
   rw [←S.len]
   exact Zu
  ·cases e
 ·cases e
theorem Zah (hc:X.calm=true):CallR X (.builtin "min") (rC X.K (on2 Zdb)):=by
 intro pins s σ H xs us Q I r h
 obtain ⟨ad,st,ds,d,st',S,hd,e,p⟩:=h
 obtain ⟨x,y,rfl,e1⟩:=VC e
 have e:=e1
 obtain ⟨v,w,rfl,hv,hw⟩:=Zd5 hd
 unfold Zdb at e
 split at e
 ·cases e; cases hv; cases hw
  exact call_min2 hc pins s σ H _ us Q I r ⟨_,_,rfl,p.at S (.int _)⟩
 ·cases e
theorem J8 (hc:X.calm=true):CallR X (.builtin "max") (rC X.K (on2 ZcY)):=by
 intro pins s σ H xs us Q I r h
 obtain ⟨ad,st,ds,d,st',S,hd,e,p⟩:=h
 obtain ⟨x,y,rfl,e1⟩:=VC e
 have e:=e1
 obtain ⟨v,w,rfl,hv,hw⟩:=Zd5 hd
 unfold ZcY at e
 split at e
 ·cases e; cases hv; cases hw
  exact call_max2 hc pins s σ H _ us Q I r ⟨_,_,rfl,p.at S (.int _)⟩
 ·cases e
noncomputable def tyN:Ty→String
 | .int => "int"
 | .bool => "bool"
 | .str => "str"
 | .tuple => "tuple"
noncomputable def Zby:D→String
 | .int _ => "int"
 | .bl _ => "bool"
 | .str _ => "str"
 | .tup _ => "tuple"
 | .non => "NoneType"
 | _ => "list"
theorem Zbl (K:PySem.W.Frag) {T:Ty}{d:D}{k:Bool} (h:UQ T d=some k):PySem.W.kitOne K (.type (Zby d)) (.type (tyN T))=some k:=by
 unfold UQ at h
 split at h<;>first | (cases h; rfl) | cases h
theorem Zgj {K:PySem.W.Frag}{ad:List Addr}{H:Hp}{v:V}{d:D}{T:Ty}{k:Bool} (h:UQ T d=some k) (hv:Den K ad H v d):TyOf K H v (.type (Zby d))∨∃ a xs,v=.ref a∧SqT K H a xs∧Zby d = "tuple":=by
 cases hv with
 | non=>exact .inl .non
 | bl b=>exact .inl (.bl b)
 | int i=>exact .inl (.int i)
 | str x=>exact .inl (.str x)
 | tup e r=>exact .inr ⟨_,_,rfl,e.sq,rfl⟩
 | lst e=>cases T<;>simp [UQ] at h
 | dct _ _ _ _ _=>cases T<;>simp [UQ] at h
 | obj _ _=>cases T<;>simp [UQ] at h
 | kt _ _ _ _ _ _=>cases T<;>simp [UQ] at h
theorem Zbr {T:Ty}:CallR X (.builtin "isinstance") (fun vs H Q=>∃ v,vs=[v,.ty (tyN T)]∧rC X.K (on1 (Zac T)) [v] H Q):=by
 intro pins s σ H xs us Q I r h
 obtain ⟨v,rfl,ad,st,ds,d,st',S,hd,e,p⟩:=h
 obtain ⟨x,rfl,e1⟩:=Yu e
 have e:=e1
 obtain ⟨w,hw,hv⟩:=W5 hd
 cases hw
 unfold Zac at e
 split at e
 ·rename_i k q
  cases e
  cases r with
  | cons r1 r2=>
   cases r2 with
   | cons r3 r4=>
    cases r4
    cases r3
    rcases Zgj q hv with ty | ⟨a,zs,rfl,sq,kd⟩
    ·exact isinst_ok I r1 ty (Zbl X.K q) fun tk=>⟨.bl k,H,I.tok _,rfl,p.at S (.bl k)⟩
    ·have kt:=Zbl X.K q
     rw [kd] at kt
     cases r1
     obtain ⟨its,_,pp,_⟩:=I.tuple sq
     obtain ⟨o,h1,h2,_⟩:=pp
     exact PySem.W.kia_one PySem.W.kitx_tuple I.kIn ⟨o,h1,h2⟩ kt (fun z=>nomatch z) fun tk=>⟨.bl k,H,I.tok _,rfl,p.at S (.bl k)⟩
 ·cases e
end
section
variable {X:Cx}
theorem ZbG {i j:Int}{ns:List Int} (h1:ns.Perm [i,j]) (h2:ns.Pairwise (·≤·)):ns=if j < i then [j,i] else [i,j]:=by
 have hl:=h1.length_eq
 match ns,hl with
 | [a,b],_=>
  have ha:a=i∨a=j:=by
   have:=h1.subset (List.mem_cons_self (a:=a) (l:=[b]))
   simpa using this
  have hle:a≤b:=by simpa using h2
  rcases ha with rfl | rfl
  ·have hb:b=j:=by
    have:=List.perm_singleton.mp (h1.cons_inv)
    simpa using this
   subst hb
   split
   ·have:a=b:=by omega
    subst this; rfl
   ·rfl
  ·have hb:b=i:=by
    have:=List.perm_singleton.mp ((h1.trans (List.Perm.swap a i [])).cons_inv)
    simpa using this
   subst hb
   split
   ·rfl
   ·have:a=b:=by omega
    subst this; rfl
theorem Vp:∀ {its:List Value}{ns:List Int},IntsAre its ns→Vals (ns.map V.int) its
 | _,_,.nil=>.nil
 | _,_,.cons n t r=>.cons ⟨t,rfl⟩ (Vp r)
theorem Q5:CallR X (.builtin "sorted") (rC X.K (on1 (rsD true))):=by
 intro pins s σ H xs us Q I r h
 obtain ⟨ad,st,ds,d,st',S,hd,e,p⟩:=h
 obtain ⟨x,rfl,e1⟩:=Yu e
 obtain ⟨v,rfl,hv⟩:=W5 hd
 unfold rsD at e1
 split at e1
 ·split at e1
  ·rename_i c zs q0
   split at e1
   ·rename_i ys q1
    cases e1
    obtain ⟨a,rfl,ha⟩:=hv.ofLst
    obtain ⟨vs,rr,sq⟩:=S.list ha q0
    have q1:QQ zs=some ys:=q1
    unfold QQ at q1
    split at q1
    ·rename_i i j hq
     cases q1
     obtain ⟨its,rv,pl,hz⟩:=I.list sq
     cases rr with
     | cons d1 rr=>
     cases d1
     cases rr with
     | cons d2 rr=>
     cases d2
     cases rr
     cases rv with
     | cons g1 rv=>
     obtain ⟨t1,rfl⟩:=g1
     cases rv with
     | cons g2 rv=>
     obtain ⟨t2,rfl⟩:=g2
     cases rv
     obtain ⟨u,rfl,ru⟩:=r.one
     cases ru
     refine sorted_ints (vs:=[.int i t1,.int j t2]) pl.isList (.cons i t1 (.cons j t2 .nil)) (by simp) fun out ns' a1 a2 a3=>?_
     obtain ⟨en,he⟩:=sortedAll_at s.heap [.int i t1,.int j t2] out
     have en2:=ZbG a2 a3
     have fr:H (s.heap.objs.size+1)=none:=I.hok.fresh (Nat.le_succ _)
     have vv:=Vp a1
     have ll:(ns'.map V.int).length≤sizeLine:=by
      rw [en2]
      split<;>(show (2:Nat)≤sizeLine; decide)
     have dd:Dens X.K ad H (ns'.map V.int) (if j < i then [.int j,.int i] else [.int i,.int j]):=by
      rw [en2]
      split
      ·exact .cons (.int _) (.cons (.int _) .nil)
      ·exact .cons (.int _) (.cons (.int _) .nil)
     refine ⟨.ref (s.heap.objs.size+1),_,I.laid (t':=s.toks) (o:=.lst (ns'.map V.int)) (fun b u q=>sortedAll_old q) (Nat.le_succ _) ⟨ll,out.toList,en,vv,he⟩,rfl,?_⟩
     refine p _ (ad++[s.heap.objs.size+1]) _ (Ext.push fr) (S.push fr dd) (.lst ?_)
     rw [←S.len]
     exact Zu
    ·cases q1
   ·cases e1
  ·cases e1
 ·cases e1
theorem Qa (n:Nat):sliceRange ((n:Int) - 1) (-1) (-1)=(List.range n).map fun k=>n - 1 - k:=by
 unfold sliceRange
 rw [if_neg (by omega)]
 have e:(if (n:Int) - 1 > -1 then ((n:Int) - 1 - -1 - -1 - 1) / (- -1) else 0).toNat=n:=by
  split
  ·have:((n:Int) - 1 - -1 - -1 - 1) / (- -1)=(n:Int):=by
    rw [show (- -1:Int)=1 by omega,Int.ediv_one]; omega
   rw [this]; simp
  ·have:n=0:=by omega
   subst this; rfl
 show List.map (fun (k:Nat)=>((n:Int) - 1+-1 * (k:Int)).toNat) (List.range (if (n:Int) - 1 > -1 then ((n:Int) - 1 - -1 - -1 - 1) / (- -1) else 0).toNat)=_
 rw [e]
 apply List.map_congr_left
 intro k hk
 omega
theorem Za4 (its:List Value):∀ (L:List Nat),(∀ k∈L,k < its.length)→L.filterMap (its.toArray[·]?)=L.map fun k=>its.getD k .none
 | [],_=>rfl
 | k :: L,h=>by
  have hk:=h k (List.mem_cons_self ..)
  have e:its.toArray[k]?=some (its.getD k .none):=by
   rw [List.getElem?_toArray,List.getD_eq_getElem?_getD,List.getElem?_eq_getElem hk]; rfl
  rw [List.filterMap_cons,e,List.map_cons,Za4 its L fun k' h'=>h k' (List.mem_cons_of_mem _ h')]
theorem Zca (its:List Value):slicePick its.toArray none none (some (-1))=its.reverse.toArray:=by
 unfold slicePick
 have b:sliceBounds none none (some (-1)) its.toArray.size=((its.length:Int) - 1,-1,-1):=by
  simp [sliceBounds]
 rw [b]
 show ((sliceRange ((its.length:Int) - 1) (-1) (-1)).filterMap (its.toArray[·]?)).toArray=_
 rw [Qa,Za4 its _ (fun k hk=>by
  obtain ⟨j,hj,rfl⟩:=List.mem_map.mp hk
  have:=List.mem_range.mp hj
  omega)]
 congr 1
 apply List.ext_getElem
 ·simp
 ·intro k h1 h2
  have hk:k < its.length:=by simpa using h1
  simp only [List.getElem_map,List.getElem_range,List.getElem_reverse]
  rw [List.getD_eq_getElem?_getD,List.getElem?_eq_getElem (by omega)]
  rfl
noncomputable def ZhE (K:PySem.W.Frag):V→Hp→VK→Prop:=fun x H Q=>∃ a xs,x=.ref a∧SqL K H a xs∧∀ p,H p=none→Q (.ref p) (upd H p (.lst xs.reverse))
noncomputable def ZgE (K:PySem.W.Frag) (te ts:TE):TE:=fun σ H Q=>te σ H fun x H1=>ts σ H1 fun y H2=>y=.int (-1)∧ZhE K x H2 Q
theorem Qx:∀ {xs:List V}{its:List Value},Vals xs its→Vals xs.reverse its.reverse
 | _,_,.nil=>.nil
 | _,_,.cons a r=>by
  rw [List.reverse_cons,List.reverse_cons]
  exact (Qx r).append (.cons a .nil)
theorem Qk {K:PySem.W.Frag}{ad:List Addr}{H:Hp}:∀ {xs:List V}{ds:List D},Dens K ad H xs ds→Dens K ad H xs.reverse ds.reverse
 | _,_,.nil=>.nil
 | _,_,.cons a r=>by
  rw [List.reverse_cons,List.reverse_cons]
  exact (Qk r).append (.cons a .nil)
theorem ZfD {e es:Expr}{te ts:TE}{p2 pos:Pos} (he:PE X e te) (hs:PE X es ts):PE X (.Subscript e (.Slice none none (some es) p2) pos) (ZgE X.K te ts):=by
 intro pins s σ H Q I h
 refine Subscript_ (thn (he pins s σ H _ I h) fun v s1 ⟨x,H1,I1,r1,q1⟩=>?_)
 refine wpAny_Slice ?_
 rw [evalPart_none]
 refine wpAny_pure ?_
 refine wpAny_pure ?_
 rw [evalPart_some]
 refine thn (hs pins s1 σ H1 _ I1 q1) fun vs s3 ⟨y,H3,I3,r3,q3⟩=>?_
 obtain ⟨rfl,a,xs,rfl,sq,q⟩:=q3
 obtain ⟨t,rfl⟩:=r3
 cases r1
 have I4:Inv X pins σ H3 { s3 with heap:=s3.heap.push { cls:=.type "slice",data:=.fields #[.none,.none,.int (-1) t] } }:=I3.kept (t':=s3.toks) fun b ob q=>Heap.get?_push_of_some _ q
 obtain ⟨its,r,ht,hz⟩:=I4.list sq
 have hlen:=r.length
 show wpAny (model X.prog X.w) X.A (subscriptTail e (.Slice none none (some es) p2) (.ref a) (.ref s3.heap.objs.size)) (EP X pins σ Q) X.xe { s3 with heap:=s3.heap.push { cls:=.type "slice",data:=.fields #[.none,.none,.int (-1) t] } }
 refine tail_any (ops:=[.ref a,.ref s3.heap.objs.size]) ht.isList.typeIs slot_list_getitem.lookup ?_ (by with_unfolding_all rfl)
 refine wpAny_getItem_list_slice ht.isList (Heap.IsSliceOf.new ..) .none .none (.int (-1) t) (by simp) ?_ (by rw [List.size_toArray]<;>omega)
 rw [Zca]
 refine ⟨.ref _,_,I4.laid (t':=s3.toks) (o:=.lst xs.reverse) (fun b ob q=>Heap.get?_push_of_some _ q) (Nat.le_refl _) ?_,rfl,q _ (I4.hok.fresh (Nat.le_refl _))⟩
 exact ⟨by rw [List.length_reverse]; exact hz,_,0,Qx r,Heap.get?_push_size _ rfl⟩
end
end Dp



namespace Dp
open PySem PySem.Spec PyProof.Rows L2
variable [ClsTab]
section
open PySem.SeqAt PySem.MeetsSeq PySem.MeetsSeq2 PySem.MeetsSeq3 PySem.SeqRoads2
open AutoSeq1 (wpAny_loadPart')
noncomputable def LtAt (A:Around) (s:Shared) (y x:Value) (b:Bool):Prop:=
 ∀ (prog:Program) (w:World) (E:Value→Shared→Prop) (Q:Value→Shared→Prop),Q (.bool b) s→wpAny (model prog w) A (richCompare .Lt y x) Q E s
noncomputable def ltR (e lt:Nat→Bool) (f:Bool):List Nat→Bool
 | []=>f
 | j :: r=>if e j=true then ltR e lt f r else lt j
theorem Jg (l b:Addr) (items items2:Array Value) (n n2:Nat) (dd dd2:Option Addr) (sl sl2:Array (Option Value)) (e lt:Nat→Bool) :
  Meets (Builtin.«tuple.__lt__» ⟨[.ref l,.ref b],[]⟩)
   (fun A R s=>s.heap.get? l=some { cls:=.type "tuple",dict:=dd,data:=.seq items n,slots:=sl }∧s.heap.get? b=some { cls:=.type "tuple",dict:=dd2,data:=.seq items2 n2,slots:=sl2 } ∧
    (∀ j (h1:j < items.size) (h2:j < items2.size),EqAt A.in1 s items[j] items2[j] (e j))∧(∀ j (h1:j < items.size) (h2:j < items2.size),(∀ i,i < j→e i=true)→e j=false→LtAt A.in1 s items[j] items2[j] (lt j)) ∧
    R (.ok (.ret (.bool (ltR e lt (decide (items.size < items2.size)) (List.range (min items.size items2.size)))))) s):=
 .of_wp fun prog w A R s h=>by
  obtain ⟨hp,g,d,tk,os⟩:=s; obtain ⟨hl,hb,he,hq,h⟩:=h
  have f2:=AutoSeq1.sub_tuple_tuple
  have hZ:(items.toList.zip items2.toList).length=min items.size items2.size:=by simp
  wp_walk using wpAny_loadPart' hl,wpAny_loadPart' hb,wpAny_forIn_list _ (fun rest b s'=>b.1=none∧s'=⟨hp,g,d,tk,os⟩∧∃ i,rest=(items.toList.zip items2.toList).drop i∧(∀ k,k < i→e k=true) ∧
   R (.ok (.ret (.bool (ltR e lt (decide (items.size < items2.size)) ((List.range (min items.size items2.size)).drop i))))) ⟨hp,g,d,tk,os⟩) _
  case turn=>
   rintro ⟨y,x⟩ rest b s' ⟨hb',rfl,i,hz,hk,hR⟩
   have hlt:i < (items.toList.zip items2.toList).length:=by
    rcases Nat.lt_or_ge i (items.toList.zip items2.toList).length with h' | h'
    ·exact h'
    ·rw [List.drop_of_length_le h'] at hz; cases hz
   have hm:i < min items.size items2.size:=hZ ▸ hlt
   have h1:i < items.size:=Nat.lt_of_lt_of_le hm (Nat.min_le_left _ _)
   have h2:i < items2.size:=Nat.lt_of_lt_of_le hm (Nat.min_le_right _ _)
   rw [List.drop_eq_getElem_cons hlt] at hz
   injection hz with hyx hrest
   have hy:y=items[i]:=by have:=congrArg Prod.fst hyx; simpa using this
   have hx:x=items2[i]:=by have:=congrArg Prod.snd hyx; simpa using this
   subst hy hx
   have hd:(List.range (min items.size items2.size)).drop i=i :: (List.range (min items.size items2.size)).drop (i+1):=by simp [List.drop_eq_getElem_cons,hm]
   rw [hd] at hR
   have hR:R (.ok (.ret (.bool (if e i=true then ltR e lt (decide (items.size < items2.size)) ((List.range (min items.size items2.size)).drop (i+1)) else lt i)))) ⟨hp,g,d,tk,os⟩:=hR
   refine wpAny_bind (he i h1 h2 prog w _ _ ?_)
   cases hy:e i with
   | true=>
    rw [hy] at hR
    wp_walk
    refine ⟨rfl,rfl,i+1,hrest,fun k hk'=>?_,by simpa using hR⟩
    rcases Nat.lt_or_ge k i with h | h
    ·exact hk k h
    ·rw [show k=i by omega]; exact hy
   | false=>
    rw [hy] at hR
    have hz:∀ (E:Value→Shared→Prop) (Q:Value→Shared→Prop),Q (.bool (lt i)) ⟨hp,g,d,tk,os⟩→wpAny (model prog w) A.in1 (richCompare .Lt items[i] items2[i]) Q E ⟨hp,g,d,tk,os⟩:=fun E Q=>hq i h1 h2 hk hy prog w E Q
    generalize richCompare .Lt items[i] items2[i]=rc at hz ⊢
    wp_walk using hz _ _
    exact ⟨_,rfl,by simpa using hR⟩
  case fin=>
   rintro ⟨b1,b2⟩ s' ⟨hb',rfl,i,hz,_,hR⟩
   simp only at hb'
   subst hb'
   have hge:min items.size items2.size≤i:=by
    rcases Nat.lt_or_ge i (items.toList.zip items2.toList).length with h' | h'
    ·rw [List.drop_eq_getElem_cons h'] at hz; cases hz
    ·exact hZ ▸ h'
   rw [List.drop_of_length_le (by simpa using hge)] at hR
   wp_walk
   exact ⟨_,rfl,by simpa [Builtin.Tuple.tupleCompareSizes,ltR] using hR⟩
  case h=>
   exact ⟨rfl,rfl,0,rfl,fun k hk=>absurd hk (by omega),by simpa using h⟩
theorem LtAt.tuples {A:Around}{s:Shared}{l b:Addr}{items items2:Array Value}{e lt:Nat→Bool} (hl:s.heap.IsTuple l items) (hb:s.heap.IsTuple b items2) (hu:A.units < cLine)
  (he:∀ j (h1:j < items.size) (h2:j < items2.size),EqAt A.in1 s items[j] items2[j] (e j)) (hq:∀ j (h1:j < items.size) (h2:j < items2.size),(∀ i,i < j→e i=true)→e j=false→LtAt A.in1 s items[j] items2[j] (lt j)):LtAt A s (.ref l) (.ref b) (ltR e lt (decide (items.size < items2.size)) (List.range (min items.size items2.size))):=fun prog w E Q h=>by
 obtain ⟨⟨cls,dd,data,sl⟩,ho,hc,n,hd⟩:=id hl
 obtain ⟨⟨cls2,dd2,data2,sl2⟩,ho2,hc2,n2,hd2⟩:=id hb
 simp only at hc hd hc2 hd2
 subst hc hd hc2 hd2
 exact richCompare_meets_room (op:=.Lt) ⟨_,ho,rfl⟩ ⟨_,ho2,rfl⟩ F.slot_tuple_lt F.entry_tuple_lt (F.args_tuple_lt_2 _ _) (Jg l b items items2 n n2 dd dd2 sl sl2 e lt)
  ⟨ho,ho2,he,hq,show Value.bool (ltR e lt (decide (items.size < items2.size)) (List.range (min items.size items2.size)))≠Value.notImplemented∧Q (.bool (ltR e lt (decide (items.size < items2.size)) (List.range (min items.size items2.size)))) s from ⟨(fun x=>nomatch x),h⟩⟩ hu
theorem JY (l b:Addr) (items items2:Array Value) (n n2:Nat) (dd dd2:Option Addr) (sl sl2:Array (Option Value)) (e lt:Nat→Bool) (k:Nat) :
  ∀ i:Nat,min items.size items2.size - i=k→Meets (Builtin.«list.__eq__.loop» ⟨[.ref l,.ref b,rawInt i,rawInt 0],[]⟩)
   (fun A R s=>s.heap.get? l=some { cls:=.type "list",dict:=dd,data:=.seq items n,slots:=sl }∧s.heap.get? b=some { cls:=.type "list",dict:=dd2,data:=.seq items2 n2,slots:=sl2 } ∧
    (∀ j (h1:j < items.size) (h2:j < items2.size),EqAt A.in1 s items[j] items2[j] (e j))∧(∀ j (h1:j < items.size) (h2:j < items2.size),(∀ i,i < j→e i=true)→e j=false→LtAt A.in1 s items[j] items2[j] (lt j))∧(∀ j,j < i→e j=true) ∧
    R (.ok (.ret (.bool (ltR e lt (decide (items.size < items2.size)) ((List.range (min items.size items2.size)).drop i))))) s):=by
 induction k with
 | zero=>
  intro i hk prog w A R s h
  obtain ⟨hp,g,d,tk,os⟩:=s; obtain ⟨hl,hb,he,hq,hi,h⟩:=h
  wp_walk using wpAny_loadPart' hl,wpAny_loadPart' hb
  have hd:(List.range (min items.size items2.size)).drop i=[]:=by simp; omega
  rw [hd] at h
  have hz:items[((i:Nat):Int).toNat]?=none∨items2[((i:Nat):Int).toNat]?=none:=by
   by_cases c:items.size≤i
   ·left; simp; omega
   ·right; simp; omega
  rcases hz with hz | hz
  ·rw [hz]
   wp_walk using wpAny_loadPart' hl,wpAny_loadPart' hb
   exact h
  ·rw [hz]
   cases items[((i:Nat):Int).toNat]? with
   | none=>
    wp_walk using wpAny_loadPart' hl,wpAny_loadPart' hb
    exact h
   | some x=>
    wp_walk using wpAny_loadPart' hl,wpAny_loadPart' hb
    exact h
 | succ k ih=>
  intro i hk prog w A R s h
  obtain ⟨hp,g,d,tk,os⟩:=s; obtain ⟨hl,hb,he,hq,hi,h⟩:=h
  wp_walk using wpAny_loadPart' hl,wpAny_loadPart' hb
  have hlt:i < items.size:=by omega
  have hlt2:i < items2.size:=by omega
  have hm:i < min items.size items2.size:=by omega
  have hi1:items[((i:Nat):Int).toNat]?=some items[i]:=by simp [hlt]
  have hi2:items2[((i:Nat):Int).toNat]?=some items2[i]:=by simp [hlt2]
  have hd:(List.range (min items.size items2.size)).drop i=i :: (List.range (min items.size items2.size)).drop (i+1):=by simp [List.drop_eq_getElem_cons,hm]
  have hc:((i:Int)+1)=((i+1:Nat):Int):=by push_cast; rfl
  rw [hd] at h
  have h:R (.ok (.ret (.bool (if e i=true then ltR e lt (decide (items.size < items2.size)) ((List.range (min items.size items2.size)).drop (i+1)) else lt i)))) ⟨hp,g,d,tk,os⟩:=h
  rw [hi1,hi2]
  refine wpAny_bind (he i hlt hlt2 prog w _ _ ?_)
  cases hb':e i with
  | true=>
   rw [hb'] at h
   wp_walk
   rw [hc]
   exact ⟨plainId_quiet plain_eq_loop _,codeAny_builtin entry_eq_loop (by
    rw [Around.under_plainId plain_eq_loop _]
    refine ih (i+1) (by omega) prog w A R _ ⟨hl,hb,he,hq,fun j hj=>?_,by simpa using h⟩
    rcases Nat.lt_or_ge j i with z | z
    ·exact hi j z
    ·rw [show j=i by omega]; exact hb')⟩
  | false=>
   rw [hb'] at h
   have hz:∀ (E:Value→Shared→Prop) (Q:Value→Shared→Prop),Q (.bool (lt i)) ⟨hp,g,d,tk,os⟩→wpAny (model prog w) A.in1 (richCompare .Lt items[i] items2[i]) Q E ⟨hp,g,d,tk,os⟩:=fun E Q=>hq i hlt hlt2 hi hb' prog w E Q
   wp_walk using wpAny_loadPart' hl,wpAny_loadPart' hb
   rw [hi1,hi2]
   refine wpAny_bind (hz _ _ ?_)
   wp_walk
   simpa using h
theorem Zaf (l b:Addr) (items items2:Array Value) (n n2:Nat) (dd dd2:Option Addr) (sl sl2:Array (Option Value)) (e lt:Nat→Bool) :
  Meets (Builtin.«list.__lt__» ⟨[.ref l,.ref b],[]⟩)
   (fun A R s=>s.heap.get? l=some { cls:=.type "list",dict:=dd,data:=.seq items n,slots:=sl }∧s.heap.get? b=some { cls:=.type "list",dict:=dd2,data:=.seq items2 n2,slots:=sl2 } ∧
    (∀ j (h1:j < items.size) (h2:j < items2.size),EqAt A.in1 s items[j] items2[j] (e j))∧(∀ j (h1:j < items.size) (h2:j < items2.size),(∀ i,i < j→e i=true)→e j=false→LtAt A.in1 s items[j] items2[j] (lt j)) ∧
    R (.ok (.ret (.bool (ltR e lt (decide (items.size < items2.size)) (List.range (min items.size items2.size)))))) s):=by
 intro prog w A R s h
 obtain ⟨hp,g,d,tk,os⟩:=s; obtain ⟨hl,hb,he,hq,h⟩:=h
 have f3:=AutoSeq1.sub_list_list
 wp_walk using wpAny_loadPart' hl,wpAny_loadPart' hb
 exact ⟨plainId_quiet plain_eq_loop _,codeAny_builtin entry_eq_loop (by
  rw [Around.under_plainId plain_eq_loop _]
  exact JY l b items items2 n n2 dd dd2 sl sl2 e lt _ 0 rfl prog w A R _ ⟨hl,hb,he,hq,fun j hj=>absurd hj (by omega),by simpa using h⟩)⟩
theorem LtAt.lists {A:Around}{s:Shared}{l b:Addr}{items items2:Array Value}{e lt:Nat→Bool} (hl:s.heap.IsList l items) (hb:s.heap.IsList b items2) (hu:A.units < cLine)
  (he:∀ j (h1:j < items.size) (h2:j < items2.size),EqAt A.in1 s items[j] items2[j] (e j)) (hq:∀ j (h1:j < items.size) (h2:j < items2.size),(∀ i,i < j→e i=true)→e j=false→LtAt A.in1 s items[j] items2[j] (lt j)):LtAt A s (.ref l) (.ref b) (ltR e lt (decide (items.size < items2.size)) (List.range (min items.size items2.size))):=fun prog w E Q h=>by
 obtain ⟨⟨cls,dd,data,sl⟩,ho,hc,n,hd⟩:=id hl
 obtain ⟨⟨cls2,dd2,data2,sl2⟩,ho2,hc2,n2,hd2⟩:=id hb
 simp only at hc hd hc2 hd2
 subst hc hd hc2 hd2
 exact richCompare_meets_room (op:=.Lt) ⟨_,ho,rfl⟩ ⟨_,ho2,rfl⟩ F.slot_list_lt F.entry_list_lt (F.args_list_lt_2 _ _) (Zaf l b items items2 n n2 dd dd2 sl sl2 e lt)
  ⟨ho,ho2,he,hq,show Value.bool (ltR e lt (decide (items.size < items2.size)) (List.range (min items.size items2.size)))≠Value.notImplemented∧Q (.bool (ltR e lt (decide (items.size < items2.size)) (List.range (min items.size items2.size)))) s from ⟨(fun x=>nomatch x),h⟩⟩ hu
end
noncomputable def eF (ds es:List D) (i:Nat):Bool:=ZI ((ds[i]?).getD .non) ((es[i]?).getD .non)
noncomputable def lF (ds es:List D) (i:Nat):Bool:=match ds[i]?,es[i]? with
 | some (.int a),some (.int b)=>decide (a < b)
 | some (.str a),some (.str b)=>decide (a.cps.toList < b.cps.toList)
 | _,_=>false
theorem Jw {e lt:Nat→Bool}{f:Bool}:∀ {l:List Nat},ltR e lt f (l.map Nat.succ)=ltR (fun i=>e (i+1)) (fun i=>lt (i+1)) f l
 | []=>rfl
 | i :: l=>by
  show (if e (i+1)=true then ltR e lt f (l.map Nat.succ) else lt (i+1))=_
  rw [Jw]
  rfl
theorem Zck:∀ {ds es:List D}{k:Bool},Wz ds es=some k→ltR (eF ds es) (lF ds es) (decide (ds.length < es.length)) (List.range (min ds.length es.length))=k
 | [],[],k,h=>by cases h; rfl
 | [],y :: ys,k,h=>by
  have h:some (decide (0 < ys.length+1))=some k:=h
  cases h
  simp [ltR]
 | x :: xs,[],k,h=>by cases h; simp [ltR]
 | x :: xs,y :: ys,k,h=>by
  have e:min (x :: xs).length (y :: ys).length=min xs.length ys.length+1:=by simp only [List.length_cons]; omega
  rw [e,List.range_succ_eq_map]
  show (if ZI x y=true then ltR (eF (x :: xs) (y :: ys)) (lF (x :: xs) (y :: ys)) _ ((List.range (min xs.length ys.length)).map Nat.succ) else lF (x :: xs) (y :: ys) 0)=k
  unfold Wz at h
  by_cases c:ZI x y=true
  ·rw [if_pos c] at h ⊢
   rw [Jw,show decide ((x :: xs).length < (y :: ys).length)=decide (xs.length < ys.length) by simp]
   exact Zck h
  ·rw [if_neg c] at h ⊢
   split at h
   ·cases h; rfl
   ·cases h; rfl
   ·cases h
theorem JF:∀ {ds es:List D}{k:Bool}{j:Nat},Wz ds es=some k→j < ds.length→j < es.length→(∀ i,i < j→eF ds es i=true)→eF ds es j=false→(∃ a b,ds[j]?=some (.int a)∧es[j]?=some (.int b))∨(∃ a b,ds[j]?=some (.str a)∧es[j]?=some (.str b))
 | [],_,_,_,_,h1,_,_,_=>absurd h1 (by simp)
 | _ :: _,[],_,_,_,_,h2,_,_=>absurd h2 (by simp)
 | x :: xs,y :: ys,k,0,h,_,_,_,e=>by
  have e:ZI x y=false:=e
  unfold Wz at h
  rw [if_neg (by rw [e]; simp)] at h
  split at h
  ·exact .inl ⟨_,_,rfl,rfl⟩
  ·exact .inr ⟨_,_,rfl,rfl⟩
  ·cases h
 | x :: xs,y :: ys,k,j+1,h,h1,h2,hk,e=>by
  have c:ZI x y=true:=hk 0 (by omega)
  unfold Wz at h
  rw [if_pos c] at h
  exact JF (j:=j) h (by simpa using h1) (by simpa using h2) (fun i hi=>hk (i+1) (by omega)) e
open PySem.SeqAt in
theorem ZdW {X:Cx}{H:Hp}{ad:List Addr}{s:Shared}{A:Around}{xs ys:List V}{ds es:List D}{its its':List Value}{k:Bool} (r:Dens X.K ad H xs ds) (r':Dens X.K ad H ys es) (rv:Vals xs its) (rv':Vals ys its') (h:Wz ds es=some k) :
  ∀ j (h1:j < its.toArray.size) (h2:j < its'.toArray.size),(∀ i,i < j→eF ds es i=true)→eF ds es j=false→LtAt A s its.toArray[j] its'.toArray[j] (lF ds es j):=fun j h1 h2 hk hj=>by
 have e1:its.toArray.size=ds.length:=by rw [List.size_toArray,←rv.length,r.length]
 have e2:its'.toArray.size=es.length:=by rw [List.size_toArray,←rv'.length,r'.length]
 have get:∀ {xs:List V}{ds:List D}{its:List Value}{d:D} (h1:j < its.toArray.size),Dens X.K ad H xs ds→Vals xs its→ds[j]?=some d→∃ v,Den X.K ad H v d∧RelV v its.toArray[j]:=fun {xs ds its d} h1 r rv g=>by
  obtain ⟨v,q1,d1⟩:=r.get g
  obtain ⟨u,w1,r1⟩:=rv.get q1
  have f1:its.toArray[j]=u:=by
   have:its[j]?=some (its[j]'(by simpa using h1)):=List.getElem?_eq_getElem _
   rw [w1] at this
   simpa using (Option.some.inj this).symm
  exact ⟨v,d1,by rw [f1]; exact r1⟩
 rcases JF h (by omega) (by omega) hk hj with ⟨i,i',g1,g2⟩ | ⟨i,i',g1,g2⟩
 ·obtain ⟨v1,d1,r1⟩:=get h1 r rv g1
  obtain ⟨v2,d2,r2⟩:=get h2 r' rv' g2
  cases d1; cases d2
  obtain ⟨t1,z1⟩:=r1
  obtain ⟨t2,z2⟩:=r2
  rw [z1,z2]
  intro prog w E Q hq
  have hq:Q (.bool (lF ds es j)) s:=hq
  unfold lF at hq
  rw [g1,g2] at hq
  exact lt_int hq
 ·obtain ⟨v1,d1,r1⟩:=get h1 r rv g1
  obtain ⟨v2,d2,r2⟩:=get h2 r' rv' g2
  cases d1; cases d2
  obtain ⟨t1,z1⟩:=r1
  obtain ⟨t2,z2⟩:=r2
  rw [z1,z2]
  intro prog w E Q hq
  have hq:Q (.bool (lF ds es j)) s:=hq
  unfold lF at hq
  rw [g1,g2] at hq
  exact lt_str hq
open PySem.SeqAt in
theorem Zdo {X:Cx}{H:Hp}{ad:List Addr}{pins:List (Addr×Obj)}{σ:L2.St}{s:Shared} (I:Inv X pins σ H s) {n:Nat}{A:Around}{a b:Addr}{xs ys:List V}{ds es:List D}{k:Bool} (hx:Yt n ds=true) (hy:Yt n es=true) (hu:A.units+n+1 < cLine)
  (e:TupAt X.K H a xs) (r:Dens X.K ad H xs ds) (e':TupAt X.K H b ys) (r':Dens X.K ad H ys es) (h:Wz ds es=some k):LtAt A s (.ref a) (.ref b) k:=by
 obtain ⟨its,rv,p,_⟩:=I.tuple (e.sq)
 obtain ⟨its',rv',p',_⟩:=I.tuple (e'.sq)
 have e1:its.toArray.size=ds.length:=by rw [List.size_toArray,←rv.length,r.length]
 have e2:its'.toArray.size=es.length:=by rw [List.size_toArray,←rv'.length,r'.length]
 have q:=LtAt.tuples (A:=A) (s:=s) (e:=eF ds es) (lt:=lF ds es) p p' (by omega) (fun j h1 h2=>Ug (a:=a) (b:=b) I hx hy hu r r' rv rv' j h1 h2) (ZdW r r' rv rv' h)
 rw [e1,e2,Zck h] at q
 exact q
section
variable {X:Cx}
theorem Za5 {ad:List Addr}{H:Hp}{k:Int}:∀ {xs:List V}{ds:List D}{b:Bool},Dens X.K ad H xs ds→Xa k ds=some b→xs.all flatV=true∧inV (.int k) xs=b
 | _,_,_,.nil,e=>by cases e; exact ⟨rfl,rfl⟩
 | _,_,b,.cons (d:=d) h r,e=>by
  cases d with
  | int i=>
   cases h
   unfold Xa at e
   cases q:Xa k _ with
   | none=>rw [q] at e; cases e
   | some b'=>
    rw [q] at e
    cases e
    obtain ⟨h1,h2⟩:=Za5 r q
    refine ⟨by rw [List.all_cons,h1]; rfl,?_⟩
    show ((i==k)||inV (.int k) _)=(decide (i=k)||b')
    rw [h2]
    rfl
  | _=>simp [Xa] at e
theorem QY {ad:List Addr}{H:Hp}{k:Str}:∀ {xs:List V}{ds:List D}{b:Bool},Dens X.K ad H xs ds→Y9 k ds=some b→xs.all flatV=true∧inV (.str k) xs=b
 | _,_,_,.nil,e=>by cases e; exact ⟨rfl,rfl⟩
 | _,_,b,.cons (d:=d) h r,e=>by
  cases d with
  | str i=>
   cases h
   unfold Y9 at e
   cases q:Y9 k _ with
   | none=>rw [q] at e; cases e
   | some b'=>
    rw [q] at e
    cases e
    obtain ⟨h1,h2⟩:=QY r q
    refine ⟨by rw [List.all_cons,h1]; rfl,?_⟩
    show ((i==k)||inV (.str k) _)=(decide (i=k)||b')
    rw [h2]
    congr 1
  | _=>simp [Y9] at e
theorem ZfX (hu:X.A.units+64 < cLine) {pins:List (Addr×Obj)}{s:Shared}{σ:L2.St}{H:Hp}{x y:V}{v u:Value}{Q:VK}{ad:List Addr}{st:Za}{dx dy:D}{k:Bool} (I:Inv X pins σ H s) (rx:RelV x v) (ry:RelV y u) (S:StOk X.K ad H st) (hx:Den X.K ad H x dx) (hy:Den X.K ad H y dy)
  (e:eqD dx dy=some k):(Q (.bl k) H→wpAny (model X.prog X.w) X.A (compareOp .Eq v u) (EP X pins σ Q) X.xe s)∧(Q (.bl (!k)) H→wpAny (model X.prog X.w) X.A (compareOp .NotEq v u) (EP X pins σ Q) X.xe s):=by
 have sc:scal x y=true→(decide (x=y))=k→(Q (.bl k) H→wpAny (model X.prog X.w) X.A (compareOp .Eq v u) (EP X pins σ Q) X.xe s)∧(Q (.bl (!k)) H→wpAny (model X.prog X.w) X.A (compareOp .NotEq v u) (EP X pins σ Q) X.xe s):=fun h1 h2=>by
  subst h2
  exact ⟨fun q=>op_eq pins s σ H x y v u Q I rx ry ⟨h1,q⟩,fun q=>op_ne pins s σ H x y v u Q I rx ry ⟨h1,q⟩⟩
 unfold eqD at e
 split at e
 all_goals first
  | (cases e; cases hx; cases hy; exact sc rfl dec_bl)
  | (cases e; cases hx; cases hy; exact sc rfl (by simp))
  | (cases e; cases hx; cases hy; exact sc rfl (by rw [Bool.eq_iff_iff]; simp))
  | skip
 ·split at e
  ·rename_i ds es hok
   cases e
   rw [Bool.and_eq_true] at hok
   obtain ⟨a,xs,rfl,ha,r1⟩:=hx.ofTup
   obtain ⟨b,ys,rfl,hb,r2⟩:=hy.ofTup
   cases rx; cases ry
   obtain ⟨g1,g2⟩:=ZcL (ad:=ad) (A:=X.A) I (n:=7) hok.1 hok.2 (by omega) ha r1 hb r2
   exact ⟨fun q=>g1 X.prog X.w X.xe _ ⟨.bl _,H,I,rfl,q⟩,fun q=>g2 X.prog X.w X.xe _ ⟨.bl _,H,I,rfl,q⟩⟩
  ·cases e
 ·cases e
open PySem.SeqAt in
theorem Zc3 {X:Cx}{H:Hp}{ad:List Addr}{pins:List (Addr×Obj)}{σ:L2.St}{s:Shared} (I:Inv X pins σ H s) {n:Nat}{A:Around}{a b:Addr}{xs ys:List V}{ds es:List D}{its its':List Value} (hx:Yt n ds=true) (hy:Yt n es=true) (hu:A.units+n+1 < cLine)
  (r:Dens X.K ad H xs ds) (r':Dens X.K ad H ys es) (rv:Vals xs its) (rv':Vals ys its') (p:s.heap.IsList a its.toArray) (p':s.heap.IsList b its'.toArray):RcAt A s (.ref a) (.ref b) (Z1 ds es)∧RcNeAt A s (.ref a) (.ref b) (!Z1 ds es):=by
 have e1:its.toArray.size=ds.length:=by rw [List.size_toArray,←rv.length,r.length]
 have e2:its'.toArray.size=es.length:=by rw [List.size_toArray,←rv'.length,r'.length]
 by_cases hl:ds.length=es.length
 ·have it:=fun j h1 h2=>Ug (a:=a) (b:=b) I hx hy hu r r' rv rv' j h1 h2
  have q:=RcAt.lists (A:=A) (s:=s) (e:=fun i=>ZI ((ds[i]?).getD .non) ((es[i]?).getD .non)) p p' (by omega) (by omega) it
  have q':=RcNeAt.lists (A:=A) (s:=s) (e:=fun i=>ZI ((ds[i]?).getD .non) ((es[i]?).getD .non)) p p' (by omega) (by omega) it
  rw [e1] at q q'
  rw [YW,show min ds.length es.length=ds.length by omega,show (ds.length==es.length)=true by simpa using hl,Bool.and_true]
  exact ⟨q,q'⟩
 ·have q:=RcAt.lists_lengths (A:=A) (s:=s) p p' (by rw [e1,e2]; simpa using hl) (by omega)
  have q':=RcNeAt.lists_lengths (A:=A) (s:=s) p p' (by rw [e1,e2]; simpa using hl) (by omega)
  rw [YW,show (ds.length==es.length)=false by simpa using hl,Bool.and_false]
  exact ⟨q,q'⟩
open PySem.SeqAt in
theorem ZhL (hu:X.A.units+64 < cLine) {pins:List (Addr×Obj)}{s:Shared}{σ:L2.St}{H:Hp}{x y:V}{v u:Value}{Q:VK}{ad:List Addr}{st:Za}{ds es:List D}{k:Bool} (I:Inv X pins σ H s) (rx:RelV x v) (ry:RelV y u) (S:StOk X.K ad H st) (hx:Den X.K ad H x (.tup ds)) (hy:Den X.K ad H y (.tup es))
  (e:JC st ds es=some k):(Q (.bl k) H→wpAny (model X.prog X.w) X.A (compareOp .Eq v u) (EP X pins σ Q) X.xe s)∧(Q (.bl (!k)) H→wpAny (model X.prog X.w) X.A (compareOp .NotEq v u) (EP X pins σ Q) X.xe s):=by cases e
theorem ZfY (hu:X.A.units+64 < cLine) {pins:List (Addr×Obj)}{s:Shared}{σ:L2.St}{H:Hp}{x y:V}{v u:Value}{Q:VK}{ad:List Addr}{st:Za}{dx dy:D}{k:Bool} (I:Inv X pins σ H s) (rx:RelV x v) (ry:RelV y u) (S:StOk X.K ad H st) (hx:Den X.K ad H x dx) (hy:Den X.K ad H y dy)
  (e:eqS st dx dy=some k):(Q (.bl k) H→wpAny (model X.prog X.w) X.A (compareOp .Eq v u) (EP X pins σ Q) X.xe s)∧(Q (.bl (!k)) H→wpAny (model X.prog X.w) X.A (compareOp .NotEq v u) (EP X pins σ Q) X.xe s):=by
 have sc:scal x y=true→(decide (x=y))=k→(Q (.bl k) H→wpAny (model X.prog X.w) X.A (compareOp .Eq v u) (EP X pins σ Q) X.xe s)∧(Q (.bl (!k)) H→wpAny (model X.prog X.w) X.A (compareOp .NotEq v u) (EP X pins σ Q) X.xe s):=fun h1 h2=>by
  subst h2
  exact ⟨fun q=>op_eq pins s σ H x y v u Q I rx ry ⟨h1,q⟩,fun q=>op_ne pins s σ H x y v u Q I rx ry ⟨h1,q⟩⟩
 unfold eqS at e
 split at e
 ·obtain ⟨a,rfl,ha⟩:=hx.ofLst
  obtain ⟨b,rfl,hb⟩:=hy.ofLst
  cases rx; cases ry
  have two:∀ {ba bb:Bool}{xs ys:List D},st[_]?=some (ba,xs)→st[_]?=some (bb,ys)→(xs=[]∨ys=[])→(xs.isEmpty&&ys.isEmpty)=k→(Q (.bl k) H→wpAny (model X.prog X.w) X.A (compareOp .Eq (.ref a) (.ref b)) (EP X pins σ Q) X.xe s)∧(Q (.bl (!k)) H→wpAny (model X.prog X.w) X.A (compareOp .NotEq (.ref a) (.ref b)) (EP X pins σ Q) X.xe s):=fun {ba bb xs ys} q1 q2 hz hk=>by
   obtain ⟨vs,r1,s1⟩:=S.list ha q1
   obtain ⟨ws,r2,s2⟩:=S.list hb q2
   obtain ⟨its,rv,p1,_⟩:=I.list s1
   obtain ⟨its',rv',p2,_⟩:=I.list s2
   have l1:its.toArray.size=xs.length:=by rw [List.size_toArray,←rv.length,r1.length]
   have l2:its'.toArray.size=ys.length:=by rw [List.size_toArray,←rv'.length,r2.length]
   by_cases hl:xs.length=ys.length
   ·have z1:xs=[]:=by
     rcases hz with z | z
     ·exact z
     ·rw [z] at hl; exact List.length_eq_zero_iff.mp hl
    have z2:ys=[]:=by rw [z1] at hl; exact List.length_eq_zero_iff.mp hl.symm
    subst z1 z2
    cases hk
    have f:its=[]:=List.length_eq_zero_iff.mp (by simpa using l1)
    have f':its'=[]:=List.length_eq_zero_iff.mp (by simpa using l2)
    subst f f'
    refine ⟨fun q=>SeqAt.RcAt.lists (e:=fun _=>true) p1.isList p2.isList rfl (by omega) (fun j h1 _=>absurd h1 (by simp)) X.prog X.w X.xe _ ⟨.bl true,H,I,rfl,q⟩,fun q=>SeqAt.RcNeAt.lists (e:=fun _=>true) p1.isList p2.isList rfl (by omega) (fun j h1 _=>absurd h1 (by simp)) X.prog X.w X.xe _ ⟨.bl false,H,I,rfl,q⟩⟩
   ·have hk':k=false:=by
     rw [←hk]
     rcases hz with z | z
     ·subst z
      cases ys with
      | nil=>exact absurd rfl hl
      | cons _ _=>rfl
     ·subst z
      cases xs with
      | nil=>exact absurd rfl hl
      | cons _ _=>rfl
    subst hk'
    have hne:(its.toArray.size != its'.toArray.size)=true:=by rw [l1,l2]; simpa using hl
    exact ⟨fun q=>SeqAt.RcAt.lists_lengths p1.isList p2.isList hne (by omega) X.prog X.w X.xe _ ⟨.bl false,H,I,rfl,q⟩,fun q=>SeqAt.RcNeAt.lists_lengths p1.isList p2.isList hne (by omega) X.prog X.w X.xe _ ⟨.bl true,H,I,rfl,q⟩⟩
  split at e
  ·rename_i q1 q2
   cases e
   exact two q1 q2 (.inr rfl) (by simp)
  ·rename_i _ q1 q2
   cases e
   exact two q1 q2 (.inl rfl) (by simp)
  ·rename_i q1 q2
   split at e
   ·rename_i hok
    cases e
    rw [Bool.and_eq_true] at hok
    obtain ⟨vs,r1,s1⟩:=S.list ha q1
    obtain ⟨ws,r2,s2⟩:=S.list hb q2
    obtain ⟨its,rv,p1,_⟩:=I.list s1
    obtain ⟨its',rv',p2,_⟩:=I.list s2
    obtain ⟨g1,g2⟩:=Zc3 (ad:=ad) (A:=X.A) I hok.1 hok.2 (by omega) r1 r2 rv rv' p1.isList p2.isList
    exact ⟨fun q=>g1 X.prog X.w X.xe _ ⟨.bl _,H,I,rfl,q⟩,fun q=>g2 X.prog X.w X.xe _ ⟨.bl _,H,I,rfl,q⟩⟩
   ·cases e
  ·cases e
 ·rename_i ds es
  split at e
  ·rename_i k' q
   cases e
   exact ZfX hu I rx ry S hx hy q
  ·exact ZhL hu I rx ry S hx hy e
 ·exact ZfX hu I rx ry S hx hy e
open Classical in
noncomputable def Zii (K:PySem.W.Frag) (ad:List Addr) (H:Hp) (d:D) (u:Value):Bool:=decide (∃ y e,RelV y u∧Den K ad H y e∧okD 8 e=true∧ZI e d=true)
theorem Xw (hu:X.A.units+64 < cLine) {op:CmpOp}:OpR X (compareOp op) (rD X.K (WC op)):=by
 intro pins s σ H x y v u Q I rx ry h
 obtain ⟨ad,st,dx,dy,d,st',S,hx,hy,e,p⟩:=h
 unfold WC at e
 split at e
 ·rename_i k q
  cases e
  have pk:=p.at S (.bl k)
  have iv:∀ {k:Bool},inS st dx dy=some k→(Q (.bl k) H→wpAny (model X.prog X.w) X.A (compareOp .In v u) (EP X pins σ Q) X.xe s)∧((∀ ks vs,dy≠.dct ks vs)→Q (.bl (!k)) H→wpAny (model X.prog X.w) X.A (compareOp .NotIn v u) (EP X pins σ Q) X.xe s):=fun {k} q=>by
   unfold inS at q
   split at q
   ·split at q
    ·rename_i q0
     obtain ⟨a,rfl,ha⟩:=hy.ofLst
     cases hx
     obtain ⟨xs,r,sq⟩:=S.list ha q0
     obtain ⟨h1,h2⟩:=Za5 r q
     exact ⟨fun pk=>op_in_seq pins s σ H _ _ v u Q I rx ry ⟨a,xs,rfl,.inl sq,rfl,h1,by rw [h2]; exact pk⟩,fun _ pk=>op_notIn_seq pins s σ H _ _ v u Q I rx ry ⟨a,xs,rfl,.inl sq,rfl,h1,by rw [h2]; exact pk⟩⟩
    ·cases q
   ·split at q
    ·rename_i q0
     obtain ⟨a,rfl,ha⟩:=hy.ofLst
     cases hx
     obtain ⟨xs,r,sq⟩:=S.list ha q0
     obtain ⟨h1,h2⟩:=QY r q
     exact ⟨fun pk=>op_in_seq pins s σ H _ _ v u Q I rx ry ⟨a,xs,rfl,.inl sq,rfl,h1,by rw [h2]; exact pk⟩,fun _ pk=>op_notIn_seq pins s σ H _ _ v u Q I rx ry ⟨a,xs,rfl,.inl sq,rfl,h1,by rw [h2]; exact pk⟩⟩
    ·cases q
   ·obtain ⟨a,xs,rfl,ha,r⟩:=hy.ofTup
    cases hx
    obtain ⟨h1,h2⟩:=Za5 r q
    exact ⟨fun pk=>op_in_seq pins s σ H _ _ v u Q I rx ry ⟨a,xs,rfl,.inr ((ha).sq),rfl,h1,by rw [h2]; exact pk⟩,fun _ pk=>op_notIn_seq pins s σ H _ _ v u Q I rx ry ⟨a,xs,rfl,.inr ((ha).sq),rfl,h1,by rw [h2]; exact pk⟩⟩
   ·obtain ⟨a,xs,rfl,ha,r⟩:=hy.ofTup
    cases hx
    obtain ⟨h1,h2⟩:=QY r q
    exact ⟨fun pk=>op_in_seq pins s σ H _ _ v u Q I rx ry ⟨a,xs,rfl,.inr ((ha).sq),rfl,h1,by rw [h2]; exact pk⟩,fun _ pk=>op_notIn_seq pins s σ H _ _ v u Q I rx ry ⟨a,xs,rfl,.inr ((ha).sq),rfl,h1,by rw [h2]; exact pk⟩⟩
   ·obtain ⟨a,vs,rfl,ha,hl,r⟩:=hy.ofDct
    cases hx
    cases q
    refine ⟨fun pk=>op_in_dct pins s σ H _ _ v u Q I rx ry ⟨a,_,Sum.inr _,rfl,rfl,ha,?_⟩,fun z=>absurd rfl (z _ _)⟩
    rcases XS r hl with ⟨w,d0,e1,e2,e3⟩ | ⟨e1,e2⟩
    ·rw [e1]; rw [e2] at pk; exact pk
    ·rw [e1]; rw [e2] at pk; exact pk
   ·cases q
  have sv:∀ {k:Bool},isD dx dy=some k→(Q (.bl k) H→wpAny (model X.prog X.w) X.A (compareOp .Is v u) (EP X pins σ Q) X.xe s)∧(Q (.bl (!k)) H→wpAny (model X.prog X.w) X.A (compareOp .IsNot v u) (EP X pins σ Q) X.xe s):=fun {k} q=>by
   unfold isD at q
   split at q
   ·cases hy
    have fin:decide (x=V.non)=k→(Q (.bl k) H→wpAny (model X.prog X.w) X.A (compareOp .Is v u) (EP X pins σ Q) X.xe s)∧(Q (.bl (!k)) H→wpAny (model X.prog X.w) X.A (compareOp .IsNot v u) (EP X pins σ Q) X.xe s):=fun z=>
     ⟨fun pk=>op_isN pins s σ H _ _ v u Q I rx ry ⟨rfl,by rw [z]; exact pk⟩,fun pk=>op_notN pins s σ H _ _ v u Q I rx ry ⟨rfl,by rw [z]; exact pk⟩⟩
    cases hx<;>first | (cases q; exact fin (by simp)) | cases q
   ·unfold isB at q
    split at q
    ·cases q
     cases hx; cases hy
     cases rx; cases ry
     have e:∀ a b:Bool,(Value.bool a==Value.bool b)=(a==b):=fun a b=>by cases a<;>cases b<;>rfl
     exact ⟨fun pk=>wpAny_is_plain rfl (by rw [e]; exact ⟨.bl _,H,I,rfl,pk⟩),fun pk=>wpAny_isNot_plain rfl (by rw [e]; exact ⟨.bl _,H,I,rfl,pk⟩)⟩
    ·cases q
   ·cases q
  have ov:∀ {f:Int→Int→Bool},QE f dx dy=some k→∃ i j,x=.int i∧y=.int j∧f i j=k:=fun {f} q=>by
   unfold QE at q
   split at q
   ·cases q; cases hx; cases hy; exact ⟨_,_,rfl,rfl,rfl⟩
   ·cases q
  have nv:∀ {o:Option Bool},o.map not=some k→∃ k',o=some k'∧(!k')=k:=fun {o} q=>by
   cases o with
   | none=>cases q
   | some k'=>cases q; exact ⟨k',rfl,rfl⟩
  cases op with
  | Lt=>
   have q:ltD dx dy=some k:=q
   unfold ltD at q
   split at q
   ·split at q
    ·rename_i ds es hok
     rw [Bool.and_eq_true] at hok
     obtain ⟨a,xs,rfl,ha,r1⟩:=hx.ofTup
     obtain ⟨b,ys,rfl,hb,r2⟩:=hy.ofTup
     cases rx; cases ry
     exact Zdo (ad:=ad) (A:=X.A) I (n:=7) hok.1 hok.2 (by omega) ha r1 hb r2 q X.prog X.w X.xe _ ⟨.bl _,H,I,rfl,pk⟩
    ·cases q
   obtain ⟨i,j,rfl,rfl,z⟩:=ov q
   exact op_lt pins s σ H _ _ v u Q I rx ry ⟨_,_,rfl,rfl,by cases z; exact pk⟩
  | LtE=>
   obtain ⟨i,j,rfl,rfl,z⟩:=ov q
   exact op_le pins s σ H _ _ v u Q I rx ry ⟨_,_,rfl,rfl,by cases z; exact pk⟩
  | Gt=>
   obtain ⟨i,j,rfl,rfl,z⟩:=ov q
   exact op_gt pins s σ H _ _ v u Q I rx ry ⟨_,_,rfl,rfl,by cases z; exact pk⟩
  | GtE=>
   obtain ⟨i,j,rfl,rfl,z⟩:=ov q
   exact op_ge pins s σ H _ _ v u Q I rx ry ⟨_,_,rfl,rfl,by cases z; exact pk⟩
  | Eq=>exact (ZfY hu I rx ry S hx hy q).1 pk
  | NotEq=>
   obtain ⟨k',q',rfl⟩:=nv q
   exact (ZfY hu I rx ry S hx hy q').2 pk
  | In=>exact (iv q).1 pk
  | NotIn=>
   have q:niS st dx dy=some k:=q
   unfold niS at q
   split at q
   ·cases q
   ·rename_i hn
    obtain ⟨k',q',rfl⟩:=nv q
    exact (iv q').2 hn pk
  | Is=>exact (sv q).1 pk
  | IsNot=>
   obtain ⟨k',q',rfl⟩:=nv q
   exact (sv q').2 pk
 ·cases e
end
end Dp



namespace Dp
open PySem PySem.Spec PyProof.Rows L2
variable [ClsTab]
noncomputable def Zh:Expr→Bool
 | .Starred ..=>false
 | .Set ..=>false
 | .Slice ..=>false
 | _=>true
theorem Zm {G:Gs}{n:Nat}{sc:Scope}{N:List Str}{e:Expr}{c:CE} (h:cE G n sc N e=some c):Zh e=true:=by
 cases n with
 | zero=>exact nomatch (show (none:Option CE)=some c from h)
 | succ n=>cases e<;>first | rfl | exact nomatch (show (none:Option CE)=some c from h)
theorem Ze {e:Expr}{es:List Expr}{env:PySem.Env} (h:Zh e=true):starEach (e :: es) env=(false,eval e env) :: starEach es env:=by
 cases e<;>first | rfl | cases h
theorem Wr {op:CmpOp}{b:Expr} (h:Zh b=true):behindInMarks op b=false:=by
 cases b<;>first | rfl | cases h
theorem UL {b:Expr} (h:Zh b=true):PlainIx b:=by
 cases b<;>first | (intro o i; rfl) | cases h
theorem YV {pos:Pos}{env:PySem.Env}:∀ {es:List Expr},es.all Zh=true→(backTo pos (starEach es env)).any (·.1)=false
 | [],_=>rfl
 | e :: es,h=>by
  rw [List.all_cons,Bool.and_eq_true] at h
  rw [Ze h.1]
  show (false||(backTo pos (starEach es env)).any (·.1))=false
  rw [YV h.2]
  rfl
inductive EsOk (Pm:Params) (K:PySem.W.Frag):List DictEntry→List Str→List D→Prop where
 | nil:EsOk Pm K [] [] []
 | cons {e:DictEntry}{es:List DictEntry}{k:Str}{ks:List Str}{d:D}{ds:List D}{v:V}{t:Tok} (h1:e.hash=PyData.keyHash Pm k) (h2:e.key=.str k t) (h3:RelV v e.val) (h4:∀ ad H,Den K ad H v d) (r:EsOk Pm K es ks ds):EsOk Pm K (e :: es) (k :: ks) (d :: ds)
noncomputable def JL (Pm:Params) (K:PySem.W.Frag) (mg:Str→Option Value) (x:Str) (ks:List Str) (ds:List D):Prop:=
 ∃ A o es ep,mg x=some (.ref A)∧K.lookup A=some o∧o.ExactDict∧o.data=.dict es ep∧(A==sysModules)=false∧ks.Nodup∧EsOk Pm K es.toList ks ds
theorem EsOk.open {w:World}{P:Program}{K:PySem.W.Frag}:∀ {es:List DictEntry}{ks:List Str}{ds:List D},EsOk w.params K es ks ds→∃ kvs:List (Key×Value),Pairs (mixKind P w) es kvs∧kvs.map (·.1)=ks.map Sum.inr∧(∀ e∈es,∃ k,(mixKind P w).is k e.key=true∧e.hash=(mixKind P w).hash k) ∧
  ∀ k d,ZF ks ds k=some d→∃ u v,valueAt kvs (Sum.inr k)=some u∧RelV v u∧∀ ad H,Den K ad H v d
 | _,_,_,.nil=>⟨[],.nil,rfl,(fun _ h=>nomatch h),fun k d h=>by simp [ZF] at h⟩
 | e :: es,k0 :: ks,d0 :: ds,.cons (v:=v) (t:=t) h1 h2 h3 h4 r=>by
  obtain ⟨kvs,a1,a2,a3,a4⟩:=EsOk.open (P:=P) r
  have hk:(mixKind P w).is (Sum.inr k0) e.key=true:=by rw [h2]; exact mixKind_str P w k0 t
  refine ⟨(Sum.inr k0,e.val) :: kvs,.cons hk rfl a1,by rw [List.map_cons,List.map_cons,a2],fun x hx=>?_,fun k d h=>?_⟩
  ·rcases List.mem_cons.mp hx with rfl | hx
   ·exact ⟨Sum.inr k0,hk,h1⟩
   ·exact a3 x hx
  ·unfold valueAt
   by_cases c:k0=k
   ·subst c
    have h:ZF (k0 :: ks) (d0 :: ds) k0=some d:=h
    simp only [ZF,if_pos] at h
    cases h
    exact ⟨e.val,v,by simp,h3,h4⟩
   ·have h:ZF ks ds k=some d:=by
     simp only [ZF,if_neg c] at h
     exact h
    obtain ⟨u,v',b1,b2,b3⟩:=a4 k d h
    refine ⟨u,v',?_,b2,b3⟩
    have nk:¬(Sum.inr k0:Key)=Sum.inr k:=fun z=>c (Sum.inr.inj z)
    rw [List.find?_cons_of_neg (by simpa using nk)]
    exact b1
structure SubOk (K:PySem.W.Frag) (C B:Addr):Prop where
 cl:Cls K C
 ha:PySem.W.findIn K (.ref C) "__class__"=some (some (.builtin "object.__class__"))
 hn:PySem.W.specialIn K (.builtin "object.__class__") "__get__"=some (some (.builtin "getset_descriptor.__get__"))
 ht:PySem.W.takesIn K (.builtin "object.__class__")=some true
 hm:PySem.W.mroIn K C (.type "object")=some true
 kit:PySem.W.kitOne K (.ref C) (.ref B)=some true
structure NewOk (K:PySem.W.Frag) (C:Addr):Prop where
 makes:PySem.W.makesIn K C=true
 init:PySem.W.findIn K (.ref C) "__init__"=some (some (.builtin "object.__init__"))
 kp:PySem.W.keepIn K (.ref C)=true
 cl:Cls K C
noncomputable def GOk (P:Program) (w:World) (K:PySem.W.Frag) (mg:Str→Option Value) (base:Heap) (A:Around) (F:Nat→Fn) (x:Str):GV→Prop
 | .cst d=>∃ v u,mg x=some u∧RelV v u∧∀ ad H,Den K ad H v d
 | .blt=>mg x=none
 | .dct ks ds=>JL w.params K mg x ks ds
 | .cls i ms subs=>mg x=some (.ref (ClsTab.ca i))∧NewOk K (ClsTab.ca i)∧(∀ i',subs.contains i'=true→SubOk K (ClsTab.ca i') (ClsTab.ca i)) ∧
   ∀ m j ps,ms.lookup m=some (j,ps)→∃ (k:Nat) (f:Addr) (fd:FuncData) (pn:List Str),FnOk P w K mg base CX0 k f fd pn (spD K (F j))∧Room k A∧Meth K (ClsTab.ca i) m f∧Binds K fd pn []
 | .fn i ps ds=>∃ (k:Nat) (f:Addr) (fd:FuncData) (pn:List Str),FnOk P w K mg base CX0 k f fd pn (spD K (F i))∧Room k A∧mg x=some (.ref f)∧PySem.W.keepIn K (.ref f)=true ∧
   ∀ m,m≤ds.length→∃ dvs us,(∀ ad H,Dens K ad H dvs (ds.drop m))∧Vals dvs us∧Binds K fd pn us
structure Cxt (X:Cx) (G:Gs) (F:Nat→Fn) (sc:Scope) (N:List Str):Prop where
 hN:X.N=N
 vis:∀ x,Y0 sc x=true→Vis X.env.scope x
 glb:∀ x,ZA sc x=true→Gl X x
 calm:X.calm=true
 hu:X.A.units+64 < cLine
 gl:∀ x g,G.lookup x=some g→GOk X.prog X.w X.K X.mg X.base X.A F x g
 cel:∀ x,Vd sc x=true→X.env.scope.names.lookup x=some .cell∨X.env.scope.names.lookup x=some .free
 nx:X.xe=fun _ _=>False
theorem XM {N:List Str}{x:Str}{i:Nat} (h:N.idxOf? x=some i):N[i]?=some x:=by
 unfold List.idxOf? at h
 rw [List.findIdx?_eq_some_iff_getElem] at h
 obtain ⟨hi,h1,_⟩:=h
 rw [List.getElem?_eq_getElem hi]
 rw [beq_iff_eq.mp h1]
theorem VZ {sc:Scope}{x:Str} (h:Y0 sc x=true):(x==("__debug__":Str))=false∧(x==("__classdict__":Str))=false:=by
 unfold Y0 at h
 rw [Bool.and_eq_true,Bool.and_eq_true,Bool.not_eq_true',Bool.not_eq_true'] at h
 exact h.1
theorem YT {sc:Scope}{x:Str} (h:ZA sc x=true):(x==("__debug__":Str))=false:=by
 unfold ZA at h
 rw [Bool.and_eq_true,Bool.not_eq_true'] at h
 exact h.1
section
variable {X:Cx}{F:Nat→Fn}
theorem Zf4 {e:Expr}{f:Ev} (h:PE X e (tE X.K f)) (he:∀ whole,isTrue e X.env whole=(do let v ←whole; standAt e.pos; holding [v] (truthy v)):=by intro _; rfl):PT X e (tT X.K f):=Wa (pt_val h he) QZ
theorem ZeI {c a b:Expr}{fc fa fb:Ev}{pos:Pos} (hc:PT X c (tT X.K fc)) (ha:PT X a (tT X.K fa)) (hb:PT X b (tT X.K fb)):PT X (.IfExp c a b pos) (tT X.K (Xf fc fa fb)):=by
 intro pins s σ H Q I h
 obtain ⟨ad,ρ,st,d,st',E,S,e,p⟩:=h
 obtain ⟨k,st1,q,e⟩:=Yd e
 show wpAny _ _ (isTrue c X.env (eval c X.env) >>= fun t=>if t then isTrue a X.env (eval a X.env) else isTrue b X.env (eval b X.env)) _ _ s
 refine wpAny_bind (thn (hc pins s σ H (fun k' H1=>k'=k∧∃ ad1,Ext ad H ad1 H1∧StOk X.K ad1 H1 st1) I ⟨ad,ρ,st,k,st1,E,S,q,fun ad1 H1 x1 S1=>⟨rfl,ad1,x1,S1⟩⟩) fun t s1 ⟨H1,I1,et,ad1,x1,S1⟩=>?_)
 subst et
 cases t with
 | true=>
  rw [if_pos rfl] at e ⊢
  exact ha pins s1 σ H1 Q I1 ⟨ad1,ρ,st1,d,st',E.mono x1,S1,e,fun ad2 H2 x2 S2=>p ad2 H2 (x1.trans x2) S2⟩
 | false=>
  rw [if_neg Bool.false_ne_true] at e ⊢
  exact hb pins s1 σ H1 Q I1 ⟨ad1,ρ,st1,d,st',E.mono x1,S1,e,fun ad2 H2 x2 S2=>p ad2 H2 (x1.trans x2) S2⟩
noncomputable def Zad:CE→Prop
 | .anil=>True
 | .acons _ _=>True
 | _=>False
theorem WD {c:CE} (h:Zad c) {ρ:Env}{st st':Za}{d:D} (e:ev F c ρ st=some (d,st')):∃ ds,d=.tup ds∧ds.length≤1000:=by
 cases c with
 | anil=>cases e; exact ⟨[],rfl,by decide⟩
 | acons a r=>
  have e:Z2 (ev F a) (ev F r) Wp ρ st=some (d,st'):=e
  unfold Z2 at e
  split at e
  ·split at e
   ·rename_i y st2 _
    cases y with
    | tup zs=>
     have e:(if zs.length < 1000 then some (D.tup (_ :: zs),st2) else none)=some (d,st'):=e
     split at e
     ·rename_i hz
      cases e
      exact ⟨_,rfl,hz⟩
     ·cases e
    | _=>simp [Wp] at e
   ·cases e
  ·cases e
 | _=>exact False.elim h
structure SE (X:Cx) (F:Nat→Fn) (e:Expr) (c:CE):Prop where
 pe:PE X e (tE X.K (ev F c))
 pt:PT X e (tT X.K (ev F c))
theorem SE.of {e:Expr}{c:CE} (h:PE X e (tE X.K (ev F c))) (he:∀ whole,isTrue e X.env whole=(do let v ←whole; standAt e.pos; holding [v] (truthy v)):=by intro _; rfl):SE X F e c:=⟨h,Zf4 h he⟩
theorem UR {op:BoolOp}{es:List Expr}{pos:Pos}{t:TT} (h:PT X (.BoolOp op es pos) t):PW X (.BoolOp op es pos) t:=fun _ pins s σ H Q I q=>h pins s σ H Q I q
end
section
variable {ad:List Addr}{H:Hp}{p:Addr}{o:HO}
theorem ZfA {ks:List Str}{vs:List V} (h:ks≠[]) (hl:ks.length=vs.length):((ks.zip vs).map fun p=>((Sum.inr p.1:Key),p.2))≠[]:=by
 cases ks with
 | nil=>exact absurd rfl h
 | cons k ks=>cases vs with
  | nil=>simp at hl
  | cons v vs=>simp
mutual
theorem Den.wrK {K:PySem.W.Frag} (hp:H p=some (.dK [])):∀ {v:V}{d:D},Den K ad H v d→Den K ad (upd H p o) v d
 | _,_,.non=>.non
 | _,_,.bl b=>.bl b
 | _,_,.int i=>.int i
 | _,_,.str y=>.str y
 | _,_,.tup h r=>.tup (h.upd hp (by intro xs z; cases z)) (Dens.wrK hp r)
 | _,_,.lst h=>.lst h
 | _,_,.dct h hk nd hl r=>.dct (by rw [upd_ne (ne_of h hp (by intro z; injection z with z; exact ZfA nd.2 hl (hk.symm.trans z)))]; exact h) hk nd hl (Dens.wrK hp r)
 | _,_,.kt l c g e z r=>.kt l c g e z r
 | _,_,.obj h n=>.obj (by rw [upd_ne (ne_of h hp (by intro z; cases z))]; exact h) n
theorem Dens.wrK {K:PySem.W.Frag} (hp:H p=some (.dK [])):∀ {vs:List V}{ds:List D},Dens K ad H vs ds→Dens K ad (upd H p o) vs ds
 | _,_,.nil=>.nil
 | _,_,.cons h r=>.cons (Den.wrK hp h) (Dens.wrK hp r)
end
theorem StOk.wrK {K:PySem.W.Frag}{st:Za} (S:StOk K ad H st) (hp:H p=some (.dK [])) (hn:p∉ad):StOk K ad (upd H p o) st:=
 ⟨S.len,S.nd,fun i c e=>by
  obtain ⟨a,h,zs,r,q⟩:=S.cell i c e
  have ne:a≠p:=fun z=>hn (by rw [←z]; exact List.mem_of_getElem? h)
  refine ⟨a,h,zs,r.wrK hp,?_⟩
  rcases q with ⟨b,q⟩ | ⟨b,⟨o,q⟩ | q⟩
  ·exact .inl ⟨b,by rw [upd_ne ne]; exact q⟩
  ·exact .inr ⟨b,.inl ⟨o,by rw [upd_ne ne]; exact q⟩⟩
  ·exact .inr ⟨b,.inr q⟩⟩
theorem Ext.wrK {ad0:List Addr}{H0:Hp} (x:Ext ad0 H0 ad H) (h0:H0 p=none):Ext ad0 H0 ad (upd H p o):=by
 refine ⟨x.pre,fun b zs h=>?_,fun b zs h=>?_,fun b o h n=>?_,x.new⟩
 ·rw [upd_ne (ne_of_none h h0)]; exact x.tup b zs h
 ·rw [upd_ne (ne_of_none h h0)]; exact x.dk b zs h
 ·rw [upd_ne (ne_of_none h h0)]; exact x.keep b o h n
end
theorem VU:∀ (kvs acc:List (Key×V)),(∀ p∈kvs,∀ q∈acc,q.1≠p.1)→(kvs.map (·.1)).Nodup→mergeK acc kvs=acc++kvs
 | [],acc,_,_=>by show acc=acc++[]; rw [List.append_nil]
 | p :: r,acc,h,n=>by
  rw [List.map_cons,List.nodup_cons] at n
  have e:putK acc p.1 p.2=acc++[p]:=by
   unfold putK
   rw [if_neg]
   intro z
   rw [List.any_eq_true] at z
   obtain ⟨q,hq,z⟩:=z
   exact h p (List.mem_cons_self ..) q hq (of_decide_eq_true z)
  show mergeK (putK acc p.1 p.2) r=_
  rw [e,VU r (acc++[p]) (fun x hx q hq=>?_) n.2,List.append_assoc]; rfl
  rcases List.mem_append.mp hq with hq | hq
  ·exact h x (List.mem_cons_of_mem _ hx) q hq
  ·rw [List.mem_singleton] at hq
   subst hq
   intro z
   exact n.1 (by rw [z]; exact List.mem_map_of_mem hx)
theorem WW:∀ {ks:List Str}{vs:List V},ks.Nodup→(((ks.zip vs).map fun p=>((Sum.inr p.1:Key),p.2)).map (·.1)).Nodup
 | [],_,_=>by simp
 | _ :: _,[],_=>by simp
 | k :: ks,v :: vs,h=>by
  rw [List.nodup_cons] at h
  show ((Sum.inr k:Key) :: ((ks.zip vs).map fun p=>((Sum.inr p.1:Key),p.2)).map (·.1)).Nodup
  rw [List.nodup_cons]
  refine ⟨fun z=>h.1 ?_,WW h.2⟩
  rw [List.map_map,List.mem_map] at z
  obtain ⟨q,hq,e⟩:=z
  have e:(Sum.inr q.1:Key)=Sum.inr k:=e
  rw [←Sum.inr.inj e]
  exact (List.of_mem_zip hq).1
theorem X4:∀ {keys:List (Option Expr)}{ks:List Str},ZV keys=some ks→keys.length=ks.length∧keys.all (·.isSome)=true
 | [],_,h=>by cases h; exact ⟨rfl,rfl⟩
 | some (.Constant (.str k) a b) :: r,ks,h=>by
  have h:(ZV r).map (k :: ·)=some ks:=h
  cases q:ZV r with
  | none=>rw [q] at h; cases h
  | some ks'=>
   rw [q] at h
   cases h
   obtain ⟨h1,h2⟩:=X4 q
   exact ⟨by rw [List.length_cons,List.length_cons,h1],by rw [List.all_cons,h2]; rfl⟩
 | none :: _,_,h=>by simp [ZV] at h
 | some e :: r,ks,h=>by
  cases e with
  | Constant v a b=>cases v with
   | str k=>
    have h:(ZV r).map (k :: ·)=some ks:=h
    cases q:ZV r with
    | none=>rw [q] at h; cases h
    | some ks'=>
     rw [q] at h
     cases h
     obtain ⟨h1,h2⟩:=X4 q
     exact ⟨by rw [List.length_cons,List.length_cons,h1],by rw [List.all_cons,h2]; rfl⟩
   | _=>simp [ZV] at h
  | _=>simp [ZV] at h
section
variable {X:Cx}{F:Nat→Fn}{pos:Pos}{f:Expr→Option CE}
theorem Za9 (hf:∀ e c,f e=some c→PE X e (tE X.K (ev F c))):∀ {vals:List Expr}{keys:List (Option Expr)}{ks:List Str}{c:CE},ZV keys=some ks→cVs f vals=some c→ks.length=vals.length→
  Zad c∧∃ trs,PPs X pos keys vals trs∧∀ σ H (Q:List (V×V)→Hp→Prop),tA X.K (ev F c) σ H (fun vs H'=>Q ((ks.zip vs).map fun p=>(V.str p.1,p.2)) H')→tPairs trs σ H Q
 | [],keys,ks,c,hk,hc,hl=>by
  cases hc
  cases ks with
  | cons _ _=>simp at hl
  | nil=>
   have h0:=(X4 hk).1
   cases keys with
   | cons _ _=>simp at h0
   | nil=>exact ⟨trivial,[],pps_nil,fun σ H Q h=>Vb σ H _ h⟩
 | v :: vals,keys,ks,c,hk,hc,hl=>by
  cases ks with
  | nil=>simp at hl
  | cons k ks=>
   have hc:(match f v,cVs f vals with
    | some x,some r=>some (CE.acons x r)
    | _,_=>none)=some c:=hc
   split at hc
   ·rename_i x r hx hr
    cases hc
    cases keys with
    | nil=>cases hk
    | cons key keys=>
     cases key with
     | none=>simp [ZV] at hk
     | some e=>
      cases e with
      | Constant cv a b=>
       cases cv with
       | str k'=>
        have hk:(ZV keys).map (k' :: ·)=some (k :: ks):=hk
        cases q:ZV keys with
        | none=>rw [q] at hk; cases hk
        | some ks'=>
         rw [q] at hk
         cases hk
         obtain ⟨_,trs,h1,h2⟩:=Za9 hf q hr (by simpa using hl)
         refine ⟨trivial,(tC (.str k),tE X.K (ev F x)) :: trs,pps_cons pe_str (hf v x hx) h1,fun σ H Q h=>?_⟩
         have h:=VP σ H _ h
         obtain ⟨ad,ρ,st,d,st',E,S,e,p⟩:=h
         exact ⟨ad,ρ,st,d,st',E,S,e,fun v ad' H' x1 S1 d1=>h2 σ H' _ (p v ad' H' x1 S1 d1)⟩
       | _=>simp [ZV] at hk
      | _=>simp [ZV] at hk
   ·cases hc
theorem ZaC (hf:∀ e c,f e=some c→PE X e (tE X.K (ev F c))) {vals:List Expr}{keys:List (Option Expr)}{ks:List Str}{c:CE} (hk:ZV keys=some ks) (hc:cVs f vals=some c) (hl:keys.length=vals.length) (h0:keys≠[]) (h15:keys.length≤15) :
  PE X (.Dict keys vals pos) (tE X.K (ev F (.dict ks c))):=by
 obtain ⟨k1,k2⟩:=X4 hk
 obtain ⟨ha,trs,h1,h2⟩:=Za9 (pos:=pos) hf hk hc (by omega)
 refine Zq (pe_disp h1 k2 hl h0 h15) fun σ H Q h=>?_
 obtain ⟨ad,ρ,st,d,st',E,S,e,p⟩:=h
 have e:ZE (ev F c) (Qg ks) ρ st=some (d,st'):=e
 unfold ZE at e
 split at e
 ·rename_i y st1 q1
  obtain ⟨ds,rfl,_⟩:=WD ha q1
  have e:(if ks.length=ds.length∧(ks.Nodup∧ks≠[])∧ks.length≤15 then some (D.dct ks ds,st1) else none)=some (d,st'):=e
  split at e
  ·rename_i cc
   cases e
   intro a ha0 hK0
   refine h2 σ _ _ ⟨ad,ρ,st,ds,_,E.mono (Ext.laid ha0),S.laid ha0,q1,fun vs ad1 H1 x1 S1 d1=>?_⟩
   have hH:H1 a=some (.dK []):=x1.dk a [] upd_same
   have hlv:ks.length=vs.length:=by rw [d1.length]; exact cc.1
   have hna:a∉ad1:=fun z=>by
    rcases x1.new a z with z | z
    ·obtain ⟨i,hi⟩:=List.mem_iff_getElem?.mp z
     have hlen:i < st.length:=by
      rw [←S.len]; exact (List.getElem?_eq_some_iff.mp hi).1
     obtain ⟨a',h',zs,r,q⟩:=S.cell i _ (List.getElem?_eq_getElem hlen)
     have:a'=a:=by rw [h'] at hi; exact Option.some.inj hi
     subst this
     rcases q with ⟨b,q⟩ | ⟨b,⟨o,q⟩ | q⟩
     ·rw [ha0] at q; cases q
     ·rw [ha0] at q; cases q
     ·obtain ⟨o,its,n,⟨h1,_⟩,_⟩:=q
      exact hK0 o h1
    ·rw [upd_same] at z; cases z
   refine ⟨hH,(ks.zip vs).map fun p=>((Sum.inr p.1:Key),p.2),by rw [List.map_map]; rfl,by rw [List.length_map,List.length_zip]; omega,?_⟩
   rw [VU _ [] (fun _ _ q hq=>nomatch hq) (WW cc.2.1.1),List.nil_append]
   exact p _ ad1 _ ((((Ext.laid ha0).trans x1)).wrK ha0) (S1.wrK hH hna) (.dct upd_same rfl cc.2.1 hlv (d1.wrK hH))
  ·cases e
 ·cases e
end
end Dp



namespace Dp
open PySem PySem.Spec PyProof.Rows L2
variable [ClsTab]
theorem UP:bootBuiltins "tuple"=some (.type "tuple"):=by decide +kernel
theorem JM:bootBuiltins "list"=some (.type "list"):=by decide +kernel
theorem Zfj:bootBuiltins "int"=some (.type "int"):=by decide +kernel
theorem Zdf:bootBuiltins "bool"=some (.type "bool"):=by decide +kernel
theorem Zei:bootBuiltins "str"=some (.type "str"):=by decide +kernel
theorem ZeQ:bootBuiltins "min"=some (.builtin "min"):=by decide +kernel
theorem Zej:bootBuiltins "max"=some (.builtin "max"):=by decide +kernel
theorem XC:bootBuiltins "isinstance"=some (.builtin "isinstance"):=by decide +kernel
theorem Zaq:bootBuiltins "sorted"=some (.builtin "sorted"):=by decide +kernel
theorem Zeh:bootBuiltins "len"=some (.builtin "len"):=by decide +kernel
section
variable {G:Gs}{F:Nat→Fn}
noncomputable def ZO (G:Gs) (F:Nat→Fn) (n:Nat):Prop:=∀ X sc N,Cxt X G F sc N→∀ e c,cE G n sc N e=some c→SE X F e c
noncomputable def XR (G:Gs) (F:Nat→Fn) (n:Nat):Prop:=∀ X sc N,Cxt X G F sc N→∀ es c,cEs G n sc N es=some c→PA X es (tA X.K (ev F c))∧Zad c∧es.all Zh=true∧(es=[]→c=.anil)
noncomputable def QR (G:Gs) (F:Nat→Fn) (n:Nat):Prop:=∀ X sc N,Cxt X G F sc N→∀ e c,cO G n sc N e=some c→PO X e (tO X.K (ev F c))

theorem Zb2 {X:Cx}{v:Const}{k:Nat}{pos:Pos}{c:CE} (h:CE.ofConst v=some c):SE X F (.Constant v k pos) c:=by
 cases v with
 | none=>cases h; exact .of (Zq pe_non (Qp fun _ _=>.non))
 | bool b=>cases h; exact .of (Zq pe_bl (Qp fun _ _=>.bl b))
 | int i=>cases h; exact .of (Zq pe_int (Qp fun _ _=>.int i))
 | str x=>cases h; exact .of (Zq pe_str (Qp fun _ _=>.str x))
 | _=>cases h
theorem Zdv {X:Cx}{sc:Scope}{N:List Str}{x:Str}{pos:Pos}{c:CE} (K:Cxt X G F sc N)
  (h:Jz G sc N x=some c):SE X F (.Name x pos) c:=by
 unfold Jz at h
 split at h
 ·rename_i hl
  cases q:N.idxOf? x with
  | none=>rw [q] at h; cases h
  | some i=>
   rw [q] at h
   cases h
   obtain ⟨h1,h2⟩:=VZ hl
   exact .of (Zq (pe_var (i:=i) (by rw [K.hN]; exact XM q) (K.vis x hl) h1 h2) Zds)
 ·split at h
  ·rename_i hg
   split at h
   ·rename_i d q
    cases h
    obtain ⟨v,u,hm,r,hd⟩:=K.gl x _ q
    exact .of (Zq (pe_glob (K.glb x hg) hm r (YT hg)) (Qp hd))
   ·cases h
  ·cases h
theorem pa1 {X:Cx}{a:Expr}{t:TE} (hp:Zh a=true) (ha:PE X a t):PA X [a] (tCons t tNil):=pa_cons ha pa_nil (Ze hp)
theorem pa2 {X:Cx}{a b:Expr}{t u:TE} (hp:Zh a=true) (hq:Zh b=true) (ha:PE X a t) (hb:PE X b u):PA X [a,b] (tCons t (tCons u tNil)):=pa_cons ha (pa1 hq hb) (Ze hp)
theorem Zc1 {X:Cx}{sc:Scope}{N:List Str}{f:Str}{a:Expr}{x c:CE}{p pos:Pos} (K:Cxt X G F sc N) (hg:ZA sc f=true) (hm:X.mg f=none) (hp:Zh a=true) (A:PE X a (tE X.K (ev F x))) (h:Zfs f x=some c) :
  PE X (.Call (.Name f p) [a] [] pos) (tE X.K (ev F c)):=by 
 have hG:=K.glb f hg
 unfold Zfs at h
 split at h
 ·rename_i e; subst e; cases h
  exact Zq (pe_callB J3 hG hm Zeh (pa1 hp A) (by decide) (by decide) (Ze hp) rfl) X8
 ·split at h
  ·rename_i e; subst e; cases h
   exact Zq (pe_callTy U0 hG hm UP (pa1 hp A) (by decide) (by decide) (Ze hp) rfl) X8
  ·split at h
   ·rename_i e; subst e; cases h
    exact Zq (pe_callTy Ji hG hm JM (pa1 hp A) (by decide) (by decide) (Ze hp) rfl) X8
   ·split at h
    ·rename_i e; subst e; cases h
     exact Zq (pe_callB Q5 hG hm Zaq (pa1 hp A) (by decide) (by decide) (Ze hp) rfl) X8
    ·cases h
theorem Vx {F:Nat→Fn}{y:CE} (h:Ud y=true) {ρ:Env}{st st':Za}{d:D} (e:ev F y ρ st=some (d,st')):st'=st:=by
 unfold Ud at h
 split at h
 ·rename_i i j
  have e:Z2 (Yw i) (evC (.int j)) ixR ρ st=some (d,st'):=e
  unfold Z2 at e
  split at e
  ·rename_i x st1 q1
   unfold Yw at q1
   split at q1
   ·cases q1
    have e:ixR x (.int j) st=some (d,st'):=e
    unfold ixR at e
    split at e
    ·cases e; rfl
    ·cases e
   ·cases q1
  ·cases e
 ·have e:Yw _ ρ st=some (d,st'):=e
  unfold Yw at e
  split at e
  ·cases e; rfl
  ·cases e
 ·cases h
theorem Jf {op:CmpOp}{x y d:D}{st st':Za} (h:WC op x y st=some (d,st')):∃ k,d=.bl k∧st'=st:=by
 unfold WC at h
 split at h
 ·cases h; exact ⟨_,rfl,rfl⟩
 ·cases h
theorem Vv {K:PySem.W.Frag}{op op2:CmpOp}{fa fb fc:Ev} (hb:∀ ρ st st' d,fb ρ st=some (d,st')→st'=st) (σ:L2.St) (H:Hp) (Q:VK) (h:tE K (Xf (Z2 fa fb (WC op)) (Z2 fb fc (WC op2)) (evC (.bl false))) σ H Q) :
  tChain (rD K (WC op)) (rD K (WC op2)) (tE K fa) (tE K fb) (tE K fc) σ H Q:=by
 obtain ⟨ad,ρ,st,d,st',E,S,e,p⟩:=h
 obtain ⟨k,st1,q,e⟩:=Yd e
 unfold Z2 at q
 split at q
 ·rename_i x s1 q1
  split at q
  ·rename_i y s2 q2
   have z:=hb _ _ _ _ q2
   subst z
   obtain ⟨k',ek,es⟩:=Jf q
   subst es
   refine ⟨ad,ρ,st,x,_,E,S,q1,fun v1 ad1 H1 x1 S1 d1=>⟨ad1,ρ,_,y,_,E.mono x1,S1,q2,fun v2 ad2 H2 x2 S2 d2=>⟨ad2,_,x,y,.bl k,_,S2,d1.mono x2,d2,q,fun v3 ad3 H3 x3 S3 d3=>⟨k,d3.ofBl,?_⟩⟩⟩⟩
   cases k with
   | false=>
    rw [if_neg Bool.false_ne_true] at e ⊢
    cases e
    exact (p.later (x1.trans (x2.trans x3))).at S3 (.bl false)
   | true=>
    rw [if_pos rfl] at e ⊢
    unfold Z2 at e
    rw [q2] at e
    split at e
    ·rename_i y' s3 qq
     cases qq
     split at e
     ·rename_i z s4 q4
      exact ⟨ad3,ρ,_,z,s4,E.mono (x1.trans (x2.trans x3)),S3,q4,fun v4 ad4 H4 x4 S4 d4=>⟨ad4,s4,y,z,d,st',S4,d2.mono (x3.trans x4),d4,e,p.later (x1.trans (x2.trans (x3.trans x4)))⟩⟩
     ·cases e
    ·cases e
  ·cases q
 ·cases q
theorem Zdc {K:PySem.W.Frag}{F:Nat→Fn}{fa:Ev} (σ:L2.St) (H:Hp) (Q:VK) (h:tE K (ZE fa (rsD false)) σ H Q):ZgE K (tE K fa) (tE K (ev F (.neg (.cst (.int 1))))) σ H Q:=by
 obtain ⟨ad,ρ,st,d,st',E,S,e,p⟩:=h
 unfold ZE at e
 split at e
 ·rename_i x st1 q1
  refine ⟨ad,ρ,st,x,st1,E,S,q1,fun v1 ad1 H1 x1 S1 d1=>⟨ad1,ρ,st1,.int (-1),st1,E.mono x1,S1,rfl,fun v2 ad2 H2 x2 S2 d2=>⟨d2.ofInt,?_⟩⟩⟩
  unfold rsD at e
  split at e
  ·split at e
   ·rename_i c zs q0
    cases e
    obtain ⟨a,rfl,ha⟩:=(d1.mono x2).ofLst
    obtain ⟨ys,rr,sq⟩:=S2.list ha q0
    refine ⟨a,ys,rfl,sq,fun l hl=>p.later (x1.trans x2) _ (ad2++[l]) _ (Ext.push hl) (S2.push hl (Qk rr)) (.lst ?_)⟩
    rw [←S2.len]
    exact Zu
   ·cases e
  ·cases e
 ·cases e
theorem ZaA {X:Cx}{b:Expr}{pos:Pos} (hq:Zh b=true):(backTo pos (starEach [b] X.env)).any (·.1)=false:=YV (by rw [List.all_cons,hq]; rfl)
theorem ZcF {X:Cx}{sc:Scope}{N:List Str}{f:Str}{a b:Expr}{x y c:CE}{p pos:Pos} (K:Cxt X G F sc N) (hg:ZA sc f=true) (hm:X.mg f=none) (hp:Zh a=true) (hq:Zh b=true) (A:PE X a (tE X.K (ev F x))) (B:PE X b (tE X.K (ev F y)))
  (h:ZfL f x y=some c):PE X (.Call (.Name f p) [a,b] [] pos) (tE X.K (ev F c)):=by
 have hG:=K.glb f hg
 unfold ZfL at h
 split at h
 ·rename_i e; subst e; cases h
  exact Zq (pe_callB (Zah K.calm) hG hm ZeQ (pa2 hp hq A B) (by decide) (by decide) (Ze hp) (ZaA hq)) Qr
 ·split at h
  ·rename_i e; subst e; cases h
   exact Zq (pe_callB (J8 K.calm) hG hm Zej (pa2 hp hq A B) (by decide) (by decide) (Ze hp) (ZaA hq)) Qr
  ·cases h
theorem ZcK {K:PySem.W.Frag}{T:Ty}{fa:Ev} (σ:L2.St) (H:Hp) (Q:VK) (h:tE K (ZE fa (Zac T)) σ H Q) :
  tCB (fun vs H Q=>∃ v,vs=[v,.ty (tyN T)]∧rC K (on1 (Zac T)) [v] H Q) (tCons (tE K fa) (tCons (tC (.ty (tyN T))) tNil)) σ H Q:=by
 obtain ⟨ad,ρ,st,d,st',E,S,e,p⟩:=h
 unfold ZE at e
 split at e
 ·rename_i x st1 q1
  exact ⟨ad,ρ,st,x,st1,E,S,q1,fun v1 ad1 H1 x1 S1 d1=>⟨v1,rfl,ad1,st1,[x],d,st',S1,.cons d1 .nil,e,p.later x1⟩⟩
 ·cases e
theorem ZaB {X:Cx}{sc:Scope}{N:List Str}{b:Expr}{T:Ty} (K:Cxt X G F sc N) (h:JK G sc b=some T):Zh b=true∧PE X b (tC (.ty (tyN T))):=by
 cases b with
 | Name t p=>
  have h2:ZeH G sc t=some T:=h
  clear h
  unfold ZeH at h2
  split at h2
  ·rename_i hg
   rw [Bool.and_eq_true] at hg
   have hm:X.mg t=none:=by
    have z:=hg.2
    unfold Xd at z
    split at z
    ·rename_i q; exact K.gl t _ q
    ·cases z
   have hG:=K.glb t hg.1
   refine ⟨rfl,?_⟩
   unfold Zge at h2
   split at h2
   ·rename_i e; subst e; cases h2
    exact pe_bltn hG hm Zfj rfl
   ·split at h2
    ·rename_i e; subst e; cases h2
     exact pe_bltn hG hm Zdf rfl
    ·split at h2
     ·rename_i e; subst e; cases h2
      exact pe_bltn hG hm Zei rfl
     ·split at h2
      ·rename_i e; subst e; cases h2
       exact pe_bltn hG hm UP rfl
      ·cases h2
  ·cases h2
 | _=>simp [JK] at h
theorem ZeC {X:Cx}{sc:Scope}{N:List Str}{a b:Expr}{x:CE}{T:Ty}{p pos:Pos} (K:Cxt X G F sc N) (hg:ZA sc "isinstance"=true) (hm:X.mg "isinstance"=none) (hp:Zh a=true) (A:PE X a (tE X.K (ev F x))) (hT:JK G sc b=some T) :
  PE X (.Call (.Name "isinstance" p) [a,b] [] pos) (tE X.K (ev F (.isi T x))):=by
 obtain ⟨hq,B⟩:=ZaB K hT
 exact Zq (pe_callB (Zbr (T:=T)) (K.glb _ hg) hm XC (pa2 hp hq A B) (by decide) (by decide) (Ze hp) (ZaA hq)) ZcK
theorem ZcN {X:Cx}{sc:Scope}{N:List Str}{f:Str}{as:List Expr}{cs:CE}{i ps:Nat}{ds:List D}{p pos:Pos} (K:Cxt X G F sc N) (hg:ZA sc f=true) (hG:G.lookup f=some (.fn i ps ds)) (hl:as.length≤ps∧ps≤as.length+ds.length)
  (A:PA X as (tA X.K (ev F cs))∧Zad cs∧as.all Zh=true∧(as=[]→cs=.anil)):PE X (.Call (.Name f p) as [] pos) (tE X.K (ev F (.call i cs (ds.drop (as.length+ds.length - ps))))):=by
 obtain ⟨k,fa,fd,pn,Fk,hr,hm,hk,hb⟩:=K.gl f _ hG
 obtain ⟨dvs,us,hd,hv,hbn⟩:=hb (as.length+ds.length - ps) (by omega)
 obtain ⟨PAs,_,hp,hn⟩:=A
 cases as with
 | nil=>
  refine Zq (pe_call0 (E:=E0) Fk hr (K.glb f hg) hm hk hbn hv pass0 (YT hg)) fun σ H Q h=>?_
  rw [hn rfl] at h
  exact Vb σ H _ (UO (E:=E0) hd σ H Q h)
 | cons e es=>
  rw [List.all_cons,Bool.and_eq_true] at hp
  exact Zq (pe_call (E:=E0) Fk hr (K.glb f hg) hm hk hbn hv pass0 PAs (YT hg) (Ze hp.1) (YV hp.2)) (UO hd)
theorem Zea {X:Cx}{sc:Scope}{N:List Str}{a b e:Expr}{x y:CE}{op:CmpOp}{ng:Bool}{pos:Pos} (K:Cxt X G F sc N) (hb:Z3 G sc b=some e) (hg:Zfr op=some ng) (hp:Zh e=true) (A:PE X a (tE X.K (ev F x))) (B:PE X e (tE X.K (ev F y))):SE X F (.Compare a [op] [b] pos) (.inR ng x y):=by cases hg
theorem Ze5 {X:Cx}{sc:Scope}{N:List Str}{f:Str}{a e:Expr}{o:Option CE}{c:CE}{p pos:Pos} (K:Cxt X G F sc N) (hg:ZA sc f=true) (hm:X.mg f=none) (hb:ZaU G sc f a=some e) (B:∀ c,o=some c→Zh e=true∧PE X e (tE X.K (ev F c))) (h:o.map CE.tupR=some c):SE X F (.Call (.Name f p) [a] [] pos) c:=by cases hb
noncomputable def rLk (K:PySem.W.Frag) (A:Addr) (ks:List Str) (ds:List D):R2:=fun x y H Q=>x=.ref A∧∃ k d,y=.str k∧ZF ks ds k=some d∧∀ v,(∀ ad H,Den K ad H v d)→Q v H
theorem Zgt {X:Cx}{A:Addr}{o:Obj}{es:Array DictEntry}{ep:Nat}{ks:List Str}{ds:List D} (lk:X.K.lookup A=some o) (ex:o.ExactDict) (hd:o.data=.dict es ep) (hm:(A==sysModules)=false) (nd:ks.Nodup) (eo:EsOk X.w.params X.K es.toList ks ds):IxR X (rLk X.K A ks ds):=by
 intro value slice pins s σ H x y v u Q I rx ry h hs
 obtain ⟨rfl,k,d,rfl,he,q⟩:=h
 cases rx
 obtain ⟨kvs,pr,kn,kk,val⟩:=eo.open (P:=X.prog)
 have dd:s.heap.DictOf (mixKind X.prog X.w) A kvs:=by
  refine ⟨o,es,ep,I.kIn A o lk,ex,hd,fun e he=>kk e (by simpa using he),pr,?_⟩
  rw [kn]
  exact List.pairwise_map.mpr (nd.imp fun h z=>h (Sum.inr.inj z))
 obtain ⟨w,z,hw,rw',dn⟩:=val k d he
 exact tail_any dd.typeIs PySem.F.slot_dict_getitem.lookup (wpAny_getItem_of (kV_is (k:=Sum.inr k) ry) dd.mapOf hw ⟨z,H,I.tok _,rw',q z dn⟩) hs
theorem Za7 {K:PySem.W.Frag}{A:Addr}{ks:List Str}{ds:List D}{fa:Ev} (σ:L2.St) (H:Hp) (Q:VK) (h:tE K (ZE fa (VJ ks ds)) σ H Q):tOp (rLk K A ks ds) (tC (.ref A)) (tE K fa) σ H Q:=by
 obtain ⟨ad,ρ,st,d,st',E,S,e,p⟩:=h
 unfold ZE at e
 split at e
 ·rename_i x st1 q1
  unfold VJ at e
  split at e
  ·rename_i k
   split at e
   ·rename_i d' hl
    cases e
    exact ⟨ad,ρ,st,.str k,_,E,S,q1,fun v ad1 H1 x1 S1 d1=>⟨rfl,k,d,d1.ofStr,hl,fun w dn=>p w ad1 H1 x1 S1 (dn ad1 H1)⟩⟩
   ·cases e
  ·cases e
 ·cases e
theorem Qz {X:Cx}{e e':Expr}{te te':TE}{p pos:Pos}{pins:List (Addr×Obj)}{s:Shared}{σ:L2.St}{H:Hp}{Qv:Value→Shared→Prop} (hg:Gl X "range") (hm:X.mg "range"=none) (hp:Zh e=true) (hp':Zh e'=true) (he:PE X e te) (he':PE X e' te') (I:L2.Inv X pins σ H s)
  (h:tCons te (tCons te' tNil) σ H fun vs H1=>∃ a b:Int,vs=[.int a,.int b]∧∀ s2 r t u v,L2.Inv X pins σ H1 s2→IsRange s2.heap r a b 1 t u v→Qv (.ref r) s2):wpAny (model X.prog X.w) X.A (eval (.Call (.Name "range" p) [e,e'] [] pos) X.env) Qv X.xe s:=by
 have hs2:starEach [e'] X.env=[(false,eval e' X.env)]:=Ze hp'
 have hs:starEach [e,e'] X.env=[(false,eval e X.env),(false,eval e' X.env)]:=by rw [Ze hp,hs2]
 refine Call_ (ld_blt I hg hm boot_range (PyProof.Rows.callWith_type1 (thn (pa2 hp hp' he he' pos pins s σ H _ I h) fun us s1 ⟨vs,H1,I1,r1,q1⟩=>?_) (by rw [hs,hs2]) (by rw [hs2]; rfl)))
 obtain ⟨a,b,rfl,q⟩:=q1
 cases r1 with
 | cons r rr=>
  cases rr with
  | cons r' rr=>
   cases rr
   obtain ⟨t,rfl⟩:=r
   obtain ⟨t',rfl⟩:=r'
   exact call_range_2 (q _ _ _ _ _ (I1.kept (t':=_) fun b o e=>Heap.get?_push_of_some _ e) (IsRange.new ..))
theorem QC {fx fy:Ev}{ρ:Env}{st st':Za}{d:D} (e:Z2 fx fy UZ ρ st=some (d,st')):∃ a b st1 st2,fx ρ st=some (.int a,st1)∧fy ρ st1=some (.int b,st2)∧(ZR a b 1=true∧b - a≤1000)∧d=.lst st2.length∧st'=st2++[(true,(Z7 a b 1).map .int)]:=by
 unfold Z2 at e
 split at e
 ·rename_i dx st1 q1
  split at e
  ·rename_i dy st2 q2
   unfold UZ at e
   split at e
   ·split at e
    ·rename_i c
     cases e
     exact ⟨_,_,_,_,q1,q2,c,rfl,rfl⟩
    ·cases e
   ·cases e
  ·cases e
 ·cases e
theorem QI {a b:Int} (h:ZR a b 1=true):Builtin.Range.rangeSize a b 1=((ZM a b 1:Nat):Int)∧Builtin.Range.small a b 1=true∧((ZM a b 1:Nat):Int)=if a < b then b - a else 0:=by
 have h:=of_decide_eq_true h
 obtain ⟨⟨h1,h2⟩,⟨h3,h4⟩,h5⟩:=h
 unfold ZM Builtin.Range.small Builtin.Range.rangeSize
 simp only [Builtin.Range.rangeFitsLong,Bool.and_eq_true,Bool.or_eq_true,decide_eq_true_eq,beq_iff_eq,gt_iff_lt,Int.neg_neg,Int.ediv_one]
 refine ⟨?_,?_,?_⟩
 ·split
  ·split<;>omega
  ·split<;>omega
 ·refine ⟨⟨by omega,?_⟩,.inr ?_⟩
  ·constructor
   ·repeat' split
    all_goals omega
   ·repeat' split
    all_goals omega
  ·simp
   omega
 ·split
  ·split<;>omega
  ·omega
theorem Wx {a:Int}:∀ {m k:Nat}{us:List Value},us.length=m→(∀ (i:Nat) v,us[i]?=some v→∃ t,v=.int (a+((k+i:Nat):Int) * 1) t)→Vals ((List.range' k m).map fun (k:Nat)=>V.int (a+(k:Int) * 1)) us
 | 0,k,us,hl,h=>by
  cases us with
  | nil=>exact .nil
  | cons _ _=>cases hl
 | m+1,k,us,hl,h=>by
  cases us with
  | nil=>cases hl
  | cons u us=>
   obtain ⟨t,rfl⟩:=h 0 u rfl
   refine .cons ⟨t,rfl⟩ (Wx (k:=k+1) (Nat.succ.inj hl) fun i v e=>?_)
   obtain ⟨t,q⟩:=h (i+1) v e
   exact ⟨t,by rw [q,show k+1+i=k+(i+1) by omega]⟩
theorem Wo {K:PySem.W.Frag}{ad:List Addr}{H:Hp}{a:Int}:∀ l:List Nat,Dens K ad H (l.map fun (k:Nat)=>V.int (a+(k:Int) * 1)) ((l.map fun (k:Nat)=>a+(k:Int) * 1).map D.int)
 | []=>.nil
 | k :: l=>.cons (.int _) (Wo l)
theorem ZcT {X:Cx}{sc:Scope}{N:List Str}{f:Str}{a u v:Expr}{x y:CE}{p pos:Pos} (K:Cxt X G F sc N) (hg:ZA sc f=true) (hm:X.mg f=none) (hb:QM G sc f a=some (u,v)) (hu:Zh u=true) (hv:Zh v=true) (A:PE X u (tE X.K (ev F x))) (B:PE X v (tE X.K (ev F y))):PE X (.Call (.Name f p) [a] [] pos) (tE X.K (ev F (.lstR x y))):=by
 unfold QM at hb
 split at hb
 ·rename_i g pg x0 y0 pos'
  split at hb
  ·rename_i hc
   obtain ⟨rfl,rfl,hg1,hb1⟩:=hc
   cases hb
   have hm1:X.mg "range"=none:=by
    unfold Xd at hb1
    split at hb1
    ·rename_i q; exact K.gl _ _ q
    ·cases hb1
   intro pins s σ H Q I h
   obtain ⟨ad,ρ,st,d,st',En,S,e1,pq⟩:=h
   obtain ⟨a,b,st1,st2,q1,q2,hn,rfl,rfl⟩:=QC e1
   obtain ⟨z1,z2,z3⟩:=QI hn.1
   have hs:starEach [.Call (.Name "range" pg) [u,v] [] pos'] X.env=[(false,eval (.Call (.Name "range" pg) [u,v] [] pos') X.env)]:=Ze rfl
   refine Call_ (ld_blt I (K.glb _ hg) hm JM (PyProof.Rows.callWith_type1 ?_ hs rfl))
   rw [hs]
   refine Calls.spliced_cons (Qz (K.glb _ hg1) hm1 hu hv A B I ⟨ad,ρ,st,_,st1,En,S,q1,fun v1 ad1 H1 x1 S1 d1=>⟨ad1,ρ,st1,_,st2,En.mono x1,S1,q2,fun v2 ad2 H2 x2 S2 d2=>⟨a,b,by rw [d1.ofInt,d2.ofInt],fun s2 r t u w I2 hr=>?_⟩⟩⟩)
   refine Calls.spliced_nil ?_
   have hz:ZM a b 1≤1000:=by
    have:=hn.2
    split at z3<;>omega
   refine call_list_range (n:=ZM a b 1) (I2.ok.hd K.calm) hr z2 z1 (by omega) fun h' tk acc c' hk hS hacc=>?_
   have hv:Vals ((List.range (ZM a b 1)).map fun (k:Nat)=>V.int (a+(k:Int) * 1)) acc.toList:=by
    rw [List.range_eq_range']
    refine Wx (by rw [Array.length_toList,hacc.1]) fun i v e=>?_
    obtain ⟨t,z⟩:=hacc.2 i v (by rw [←e]; simp)
    exact ⟨t,by rw [z]; simp⟩
   have hf:=I2.hok.fresh (Nat.le_refl _)
   refine ⟨.ref s2.heap.objs.size,upd H2 s2.heap.objs.size (.lst ((List.range (ZM a b 1)).map fun (k:Nat)=>V.int (a+(k:Int) * 1))),I2.laid (t':=tk) hk (Nat.le_refl _) (show ObjOk X.prog X.w _ _ _ (.lst _) from ⟨?_,acc.toList,c',hv,?_⟩),rfl,pq _ (ad2++[s2.heap.objs.size]) _ ((x1.trans x2).trans (Ext.push hf)) (S2.push hf (Wo _)) (.lst ?_)⟩
   ·rw [List.length_map,List.length_range,sizeLine_eq]; omega
   ·rw [Array.toArray_toList]
    exact hS
   ·rw [←S2.len]
    exact Zu
  ·cases hb
 ·cases hb
theorem ZdL {X:Cx}{sc:Scope}{N:List Str}{a b:Expr}{y:CE}{ks:List Str}{ds:List D}{pos:Pos} (K:Cxt X G F sc N) (hn:JI G sc a=some (ks,ds)) (hp:Zh b=true) (B:PE X b (tE X.K (ev F y))):PE X (.Subscript a b pos) (tE X.K (ev F (.look ks ds y))):=by
 unfold JI at hn
 split at hn
 ·split at hn
  ·rename_i hg
   split at hn
   ·rename_i q
    cases hn
    obtain ⟨A,o,es,ep,hm,lk,ex,hd,hs,nd,eo⟩:=K.gl _ _ q
    exact Zq (pe_ix (Zgt lk ex hd hs nd eo) (pe_glob (K.glb _ hg) hm (show RelV (.ref A) (.ref A) from rfl) (YT hg)) B (UL hp)) Za7
   ·cases hn
  ·cases hn
 ·cases hn
noncomputable def ZgF:V→List V→Hp→VK→Prop:=fun x vs H Q=>∃ p kvs k dv,x=.ref p∧vs=[kV k,dv]∧H p=some (.dK kvs)∧Q ((valV kvs k).getD dv) H
theorem Zeu {X:Cx}:MtM X "dict.get" ZgF:=by
 intro pins s σ H x vs v us Q I rx rv h
 obtain ⟨p,kvs,k,dv,rfl,rfl,hq,q⟩:=h
 cases rx
 obtain ⟨u1,u2,rfl,r1,r2⟩:=rv.two
 obtain ⟨zz,hd,ws,rel,dd⟩:=dk_of I.hok hq
 refine call_meetsIn PySem.F.slot_dict_get dd.typeIs PySem.F.entry_dict_get (PySem.F.args_dict_get_3 _ _ _) (meets_dict_get_default (mixKind X.prog X.w) p (kV_is r1) hd u2) ⟨_,dd.mapOf,?_⟩
 have rr:=rel.val k
 cases e1:valV kvs k with
 | none=>
  cases e2:valueAt ws k with
  | none=>rw [e1] at q; exact ⟨dv,H,I.tok _,r2,q⟩
  | some w=>rw [e1,e2] at rr; exact rr.elim
 | some z=>
  cases e2:valueAt ws k with
  | none=>rw [e1,e2] at rr; exact rr.elim
  | some w=>rw [e1] at q; rw [e1,e2] at rr; exact ⟨z,H,I.tok _,rr,q⟩
theorem Zbe {X:Cx}{fa fk fd:Ev} (σ:L2.St) (H:Hp) (Q:VK) (h:tE X.K (W0 fa fk fd getD) σ H Q):tBM X.K "dict" ZgF (tE X.K fa) (tCons (tE X.K fk) (tCons (tE X.K fd) tNil)) σ H Q:=by
 obtain ⟨ad,ρ,st,d,st',E,S,e,p⟩:=h
 unfold W0 at e
 split at e
 ·rename_i x st1 q1
  split at e
  ·rename_i y st2 q2
   split at e
   ·rename_i z st3 q3
    unfold getD at e
    split at e
    ·rename_i ks vs k
     cases e
     refine ⟨ad,ρ,st,_,st1,E,S,q1,fun v1 ad1 H1 x1 S1 d1=>?_⟩
     obtain ⟨a,ws,rfl,ha,hl,rw'⟩:=d1.ofDct
     refine ⟨.inr (.inr (.inl ⟨rfl,.inl ⟨_,ha⟩⟩)),ad1,ρ,st1,_,st2,E.mono x1,S1,q2,fun v2 ad2 H2 x2 S2 d2=>⟨ad2,ρ,st2,_,_,E.mono (x1.trans x2),S2,q3,fun v3 ad3 H3 x3 S3 d3=>?_⟩⟩
     obtain ⟨a',ws',ea,ha',hl',rw2⟩:=(d1.mono (x2.trans x3)).ofDct
     cases ea
     have ek:=(d2.mono x3).ofStr
     refine ⟨a,_,Sum.inr k,v3,rfl,by rw [ek]; rfl,ha',?_⟩
     rcases XS (k:=k) rw2 hl' with ⟨u,d0,e1,e2,e3⟩ | ⟨e1,e2⟩
     ·rw [e1]
      rw [e2] at p
      exact p _ ad3 H3 (x1.trans (x2.trans x3)) S3 e3
     ·rw [e1]
      rw [e2] at p
      exact p _ ad3 H3 (x1.trans (x2.trans x3)) S3 d3
    ·cases e
   ·cases e
  ·cases e
 ·cases e
theorem Zcy {X:Cx}{sc:Scope}{N:List Str}{ks:List (Option Expr)}{vs:List Expr}{a b:Expr}{x y z:CE}{dp ap cp:Pos} (K:Cxt X G F sc N) (hline:(ap.endLine==cp.line)=true) (hp:Zh a=true) (hq:Zh b=true) (D:PE X (.Dict ks vs dp) (tE X.K (ev F x))) (A:PE X a (tE X.K (ev F y))) (B:PE X b (tE X.K (ev F z))) :
  PE X (.Call (.Attribute (.Dict ks vs dp) "get" ap) [a,b] [] cp) (tE X.K (ev F (.dget x y z))):=by
 refine Zq (pe_bm PySem.F.plainAttrs_dict PySem.F.slot_dict_get PySem.F.type_dict_get Zeu D (pa2 hp hq A B) rfl ?_ hline (Ze hp) (ZaA hq)) Zbe
 rw [Ze hp,Ze hq]
 rfl
theorem ZaQ {prog:Program}{w:World}{A:Around}{K:PySem.W.Frag}{C:Addr}{s:Shared}{R:Result→Shared→Prop} (X:K.In s.heap) (hm:PySem.W.makesIn K C=true) (hi:PySem.W.findIn K (.ref C) "__init__"=some (some (.builtin "object.__init__")))
  (h:R (.ok (.ret (.ref (s.heap.objs.size+1)))) { s with heap:=(s.heap.push PySem.W.emptyDict).push (PySem.W.instObj C s.heap.objs.size) }):codeAny (model prog w) A (.call (.ref C) ⟨[],[]⟩) R s:=by
 obtain ⟨hh,g,d,t,os⟩:=s
 have Y:=PySem.W.makes_of (M:=model prog w) X hm
 have hx:((hh.push PySem.W.emptyDict).push (PySem.W.instObj C hh.objs.size)).get? (hh.objs.size+1)=some (PySem.W.instObj C hh.objs.size):=by
  have:=Heap.get?_push_size (hh.push PySem.W.emptyDict) (o:=PySem.W.instObj C hh.objs.size) rfl
  rwa [Heap.size_push] at this
 refine PySem.W.make_core Y (PySem.W.looks_findIn X hi) (fun self=>PySem.W.Looks.of_pure (PySem.W.oi_bind self)) (.inr ⟨rfl,rfl⟩) ?_
 have t1:PySem.W.Looks (model prog w) ((hh.push PySem.W.emptyDict).push (PySem.W.instObj C hh.objs.size)) (typeOf (.ref (hh.objs.size+1))) (.ref C):=(PySem.W.Looks.ld hx).andThen .now
 have t2:PySem.W.Looks (model prog w) ((hh.push PySem.W.emptyDict).push (PySem.W.instObj C hh.objs.size)) (isInstance (.ref (hh.objs.size+1)) (.type "object")) true:=t1.andThen (Y.top.keeps fun b o e=>Heap.get?_push_of_some _ (Heap.get?_push_of_some _ e))
 refine codeAny_call_builtin PySem.W.oi_plain PySem.W.entry_oi (@PySem.W.check_slot (model prog w) _ _ _ "object.__init__" "object" "__init__" (.ref (hh.objs.size+1)) [] [] _ PySem.W.oi_kind PySem.W.oi_split t2 (PySem.W.oi_args (.ref (hh.objs.size+1))) ?_)
 rw [PySem.W.oi_run]
 exact wpAny_pure (And.intro rfl h)
theorem Zcd {X:Cx}{pins:List (Addr×Obj)}{σ:L2.St}{H:Hp}{s:Shared}{ad:List Addr}{st:Za} (I:L2.Inv X pins σ H s) (S:StOk X.K ad H st) {a:Addr} (h:s.heap.objs.size≤a):a∉ad:=fun hm=>by
 obtain ⟨i,hi⟩:=List.getElem?_of_mem hm
 have hl:i < st.length:=by rw [←S.len]; exact (List.getElem?_eq_some_iff.mp hi).1
 obtain ⟨a',h1,xs,_,q⟩:=S.cell i _ (List.getElem?_eq_getElem hl)
 rw [hi] at h1; cases h1
 have hn:H a=none:=I.hok.fresh h
 rcases q with ⟨_,q⟩ | ⟨_,⟨o,q⟩ | ⟨o,_,_,⟨q,_⟩,_⟩⟩
 ·rw [hn] at q; cases q
 ·rw [hn] at q; cases q
 ·exact absurd (Heap.lt_size (I.kIn a o q)) (Nat.not_lt.mpr h)
theorem ZfN {X:Cx}{sc:Scope}{N:List Str}{f:Str}{i:Nat}{ms:List (Str×Nat×Nat)}{subs:List Nat}{p pos:Pos} (K:Cxt X G F sc N) (hg:ZA sc f=true) (hG:G.lookup f=some (.cls i ms subs)):PE X (.Call (.Name f p) [] [] pos) (tE X.K (ev F (.new i))):=by
 obtain ⟨hm,nw,_,_⟩:=K.gl f _ hG
 intro pins s σ H Q I h
 obtain ⟨ad,ρ,st,d,st',E,S,e,q⟩:=h
 have e:some (D.obj i,st)=some (d,st'):=e
 cases e
 refine wpAny_Call_Name_kw (ld_glob I (K.glb f hg) hm ?_ (YT hg))
 refine PySem.W.callWith_K0 I.kIn nw.kp (wpAny_call (ZaQ I.kIn nw.makes nw.init ?_))
 have h1:H s.heap.objs.size=none:=I.hok.fresh (Nat.le_refl _)
 have h2:upd H s.heap.objs.size (.own (s.heap.objs.size+1)) (s.heap.objs.size+1)=none:=by
  rw [upd_ne (Nat.ne_of_gt (Nat.lt_succ_self _))]
  exact I.hok.fresh (Nat.le_succ _)
 exact ⟨.ref (s.heap.objs.size+1),_,I.made,rfl,q _ ad _ ((Ext.laid h1).trans (Ext.laid h2)) ((S.laid h1).laid h2) (.obj upd_same (Zcd I S (Nat.le_succ _)))⟩
theorem ZbJ {X:Cx}{l:List Nat}{B:Addr} (hs:∀ i,l.contains i=true→SubOk X.K (ClsTab.ca i) B):CallR X (.builtin "isinstance") (fun vs H Q=>∃ v,vs=[v,.ref B]∧rC X.K (on1 (QD l)) [v] H Q):=by
 intro pins s σ H xs us Q I r h
 obtain ⟨v,rfl,ad,st,ds,d,st',S,hd,e,p⟩:=h
 obtain ⟨x,rfl,e1⟩:=Yu e
 obtain ⟨w,hw,hv⟩:=W5 hd
 cases hw
 unfold QD at e1
 split at e1
 ·split at e1
  ·rename_i i c
   cases e1
   cases r with
   | cons r1 r2=>
    cases r2 with
    | cons r3 r4=>
     cases r4
     cases r3
     obtain ⟨a,dx,rfl,ha⟩:=hv.ofObj
     have so:=hs i c
     exact isinst_ok I r1 (.ins ha so.cl so.ha so.hn so.ht so.hm) so.kit fun tk=>⟨.bl true,H,I.tok _,rfl,p.at S (.bl true)⟩
  ·cases e1
 ·cases e1
theorem ZcX {K:PySem.W.Frag}{l:List Nat}{B:Addr}{fa:Ev} (σ:L2.St) (H:Hp) (Q:VK) (h:tE K (ZE fa (QD l)) σ H Q) :
  tCB (fun vs H Q=>∃ v,vs=[v,.ref B]∧rC K (on1 (QD l)) [v] H Q) (tCons (tE K fa) (tCons (tC (.ref B)) tNil)) σ H Q:=by
 obtain ⟨ad,ρ,st,d,st',E,S,e,p⟩:=h
 unfold ZE at e
 split at e
 ·rename_i x st1 q1
  exact ⟨ad,ρ,st,x,st1,E,S,q1,fun v1 ad1 H1 x1 S1 d1=>⟨v1,rfl,ad1,st1,[x],d,st',S1,.cons d1 .nil,e,p.later x1⟩⟩
 ·cases e
theorem ZeM {X:Cx}{sc:Scope}{N:List Str}{a b:Expr}{x:CE}{l:List Nat}{p pos:Pos} (K:Cxt X G F sc N) (hg:ZA sc "isinstance"=true) (hm:X.mg "isinstance"=none) (hp:Zh a=true) (A:PE X a (tE X.K (ev F x))) (hT:Jb G sc b=some l) :
  PE X (.Call (.Name "isinstance" p) [a,b] [] pos) (tE X.K (ev F (.isc l x))):=by
 cases b with
 | Name t tp=>
  have h2:ZaE G sc t=some l:=hT
  clear hT
  unfold ZaE at h2
  split at h2
  ·rename_i hg2
   split at h2
   ·rename_i i ms subs hG
    cases h2
    obtain ⟨hm2,_,hs,_⟩:=K.gl t _ hG
    have B:PE X (.Name t tp) (tC (.ref (ClsTab.ca i))):=pe_glob (K.glb t hg2) hm2 rfl (YT hg2)
    exact Zq (pe_callB (ZbJ hs) (K.glb _ hg) hm XC (pa2 hp rfl A B) (by decide) (by decide) (Ze hp) (ZaA rfl)) ZcX
   ·cases h2
  ·cases h2
 | _=>simp [Jb] at hT
theorem Zga {α:Type}:∀ {us:List α},us.length=1→∃ a,us=[a]
 | [a],_=>⟨a,rfl⟩
theorem Vt {pos:Pos}{env:PySem.Env}{as:List Expr} (h:as.all Zh=true) (hl:as.length < 20):((backTo pos (starEach as env)).all (fun x=>!x.1)&&(backToKw pos (keywordEach [] env)).all (fun x=>x.1.isSome)
  &&decide (as.length+([]:List Keyword).length+(if ([]:List Keyword).isEmpty then 0 else 1) < 30))=true:=by
 have a:=YV (pos:=pos) (env:=env) h
 have b:(backTo pos (starEach as env)).all (fun x=>!x.1)=true:=by
  rw [List.all_eq_true]
  intro x hx
  have:=List.any_eq_false.mp a x hx
  simpa using this
 rw [b,decide_eq_true (show as.length+([]:List Keyword).length+(if ([]:List Keyword).isEmpty then 0 else 1) < 30 by simp; omega)]
 rfl
theorem ZcC {X:Cx}{o:Expr}{name:Str}{apos pos:Pos}{args:List Expr}{Q:Value→Shared→Prop}{s:Shared} (hbase:attributeBase o name X.env (eval o X.env)=eval o X.env)
  (hfew:((backTo pos (starEach args X.env)).all (fun x=>!x.1)&&(backToKw pos (keywordEach [] X.env)).all (fun x=>x.1.isSome)&&decide (args.length+([]:List Keyword).length+(if ([]:List Keyword).isEmpty then 0 else 1) < 30))=true) (hline:(apos.endLine==pos.line)=true)
  (h:wpAny (model X.prog X.w) X.A (eval o X.env) (fun ov s₁=>∀ pl,wpAny (model X.prog X.w) X.A (getMethod ov name pl) (fun fx s₂=>wpAny (model X.prog X.w) X.A (callWith pos fx.1 fx.2 (backTo pos (starEach args X.env)) (backToKw pos (keywordEach [] X.env))) Q X.xe s₂) X.xe s₁) X.xe s) :
  wpAny (model X.prog X.w) X.A (eval (.Call (.Attribute o name apos) args [] pos) X.env) Q X.xe s:=by
 rw [arm_eval_Call,hbase]
 refine wpAny_bind (wpAny_mono h (fun ov s₁ h₁=>?_) fun _ _ e=>e)
 refine wpAny_bind (wpAny_standAt ?_)
 have hform:methodCallForm (args.length+([]:List Keyword).length) (backTo pos (starEach args X.env)) (backToKw pos (keywordEach [] X.env))=true:=hfew
 have hpos:methodCallPos true o X.env apos pos=pure pos:=by unfold methodCallPos; simp [hline]
 unfold methodCall
 rw [hform]
 refine wpAny_bind (wpAny_holding ?_)
 exact wpAny_mono (h₁ _) (fun fx s₂ h₂=>wpAny_bind (wpAny_of_eq hpos h₂)) fun _ _ e=>e
theorem Zfq {m:Str}{k i j:Nat} (h:(Y5 m k G).lookup i=some j):∃ x ms subs,G.lookup x=some (.cls i ms subs)∧ms.lookup m=some (j,k+1):=by
 have hm:(i,j)∈Y5 m k G:=by
  generalize Y5 m k G=l at h
  induction l with
  | nil=>cases h
  | cons p l ih=>
   obtain ⟨a,b⟩:=p
   rw [List.lookup_cons] at h
   split at h
   ·rename_i z
    cases h
    rw [beq_iff_eq.mp z]
    exact List.mem_cons_self
   ·exact List.mem_cons_of_mem _ (ih h)
 obtain ⟨x,_,hx⟩:=List.mem_filterMap.mp hm
 unfold Zd7 at hx
 split at hx
 ·rename_i i' ms subs q
  split at hx
  ·rename_i j' ps q2
   split at hx
   ·rename_i e
    subst e
    cases hx
    exact ⟨x,ms,subs,q,q2⟩
   ·cases hx
  ·cases hx
 ·cases hx
section
open PySem.SeqAt PySem.MeetsSeq PySem.MeetsSeq2 PySem.MeetsSeq3 PySem.SeqRoads2
theorem UC {prog:Program}{w:World}{A:Around}{E:Value→Shared→Prop}{s:Shared}{items:Array Value}{x:Value}{e:Value→Bool}{j:Nat} (hj:j < items.size)
  (hit:e items[j]=true) (hno:∀ m (hm:m < items.size),m < j→e items[m]=false) (he:∀ y,y∈items→EqAt A s y x (e y)):∀ (k i:Nat) (Q:Option Fin×Unit→Shared→Prop),i≤j→i+k=items.size→Q (some (.done (.ret (.int j s.toks))),()) { s with toks:=s.toks+1 }→
  wpAny (model prog w) A (forIn (List.range' i k) ((none,()):Option Fin×Unit) fun (i:Nat) __s=>
      match items[i]? with
      | some y=>do
       let __do_lift ←eqBool y x
       if __do_lift=true then do
         let __do_lift ←retInt (i:Int)
         pure (ForInStep.done (some __do_lift,()))
        else pure (ForInStep.yield (none,()))
      | x=>pure (ForInStep.yield (none,()))) Q E s
 | 0,i,Q,h1,h2,_=>by omega
 | k+1,i,Q,h1,h2,hQ=>by
  have hlt:i < items.size:=by omega
  rw [List.range'_succ,List.forIn_cons]
  refine wpAny_bind ?_
  rw [Array.getElem?_eq_getElem hlt]
  refine wpAny_bind (he _ (Array.getElem_mem hlt) prog w _ _ ?_)
  by_cases hij:i=j
  ·subst hij
   rw [hit]
   wp_walk
   exact hQ
  ·rw [hno i hlt (by omega)]
   wp_walk
   exact UC hj hit hno he k (i+1) Q (by omega) (by omega) hQ
theorem Vi (l:Addr) (items:Array Value) (n:Nat) (o:Obj) (x:Value) (e:Value→Bool) (j:Nat) (hj:j < items.size)
  (hit:e items[j]=true) (hno:∀ m (hm:m < items.size),m < j→e items[m]=false) (hd:o.data=.seq items n) :
  Meets (Builtin.«tuple.index» ⟨[.ref l,x],[]⟩)
   (fun A R s=>s.heap.get? l=some o∧(∀ y,y∈items→EqAt A.in1 s y x (e y))∧R (.ok (.ret (.int j s.toks))) { s with toks:=s.toks+1 }):=by
 refine .of_wp fun prog w A R s h=>?_
 obtain ⟨hp,g,d,tk,os⟩:=s; obtain ⟨hl,he,h⟩:=h
 obtain ⟨oc,od,dt,osl⟩:=o
 cases hd
 unfold Builtin.«tuple.index»
 simp only [Std.Legacy.Range.forIn_eq_forIn_range',Std.Legacy.Range.size,Nat.sub_zero,Nat.add_sub_cancel,Nat.div_one]
 wp_walk using wpAny_loadPart' hl
 refine UC hj hit hno he (min items.size items.size - 0) 0 _ (Nat.zero_le _) (by simp) ?_
 exact wpAny_pure ⟨_,rfl,h⟩
end
theorem ZaG {k:Str}{tk:Tok}{i:Nat}:∀ {ks:List Str}{us:List Value},Vals (ks.map V.str) us→V3 k ks=some i→∃ h:i < us.length,(fun y:Value=>match y with
   | .str a _=>a==k
   | _=>false) us[i]=true∧∀ m (hm:m < us.length),m < i→(fun y:Value=>match y with
   | .str a _=>a==k
   | _=>false) us[m]=false:=by
 intro ks
 induction ks generalizing i with
 | nil=>intro us _ h; cases h
 | cons a ks ih=>
  intro us r h
  cases r with
  | @cons v u vs us' r1 r2=>
   obtain ⟨t,rfl⟩:=r1
   have h:(if a=k then some 0 else (V3 k ks).map (·+1))=some i:=h
   split at h
   ·rename_i e
    cases h
    refine ⟨by simp,by simpa using e,fun m _ hm=>absurd hm (Nat.not_lt_zero m)⟩
   ·rename_i e
    cases q:V3 k ks with
    | none=>rw [q] at h; cases h
    | some i'=>
     rw [q] at h
     cases h
     obtain ⟨h1,h2,h3⟩:=ih r2 q
     refine ⟨by simpa using h1,by simpa using h2,fun m hm hl=>?_⟩
     cases m with
     | zero=>simpa using e
     | succ m=>
      have hl:m+1 < i'+1:=hl
      simpa using h3 m (by simpa using hm) (by omega)
theorem ZaV {ks:List Str}{us:List Value} (r:Vals (ks.map V.str) us):∀ y∈us,∃ a t,y=.str a t:=by
 induction ks generalizing us with
 | nil=>cases r; intro y hy; exact nomatch hy
 | cons a ks ih=>
  cases r with
  | @cons v u vs us' r1 r2=>
   intro y hy
   rcases List.mem_cons.mp hy with rfl | hy
   ·obtain ⟨t,rfl⟩:=r1; exact ⟨a,t,rfl⟩
   ·exact ih r2 y hy
theorem Zel {X:Cx}{sc:Scope}{N:List Str}{y:Str}{yp ap cp:Pos}{as:List Expr}{x cs:CE} (K:Cxt X G F sc N) (hline:(ap.endLine==cp.line)=true) (hlen:as.length=1) (B:PE X (.Name y yp) (tE X.K (ev F x)))
  (A:PA X as (tA X.K (ev F cs))∧Zad cs∧as.all Zh=true∧(as=[]→cs=.anil)):PE X (.Call (.Attribute (.Name y yp) "index" ap) as [] cp) (tE X.K (ev F (.tix x cs))):=by
 obtain ⟨PAs,_,hp,_⟩:=A
 obtain ⟨e0,rfl⟩:=Zga hlen
 intro pins s σ H Q I h
 obtain ⟨ad,ρ,st,d,st',E,S,e,p⟩:=h
 replace e:Z2 (ev F x) (ev F cs) Zc2 ρ st=some (d,st'):=e
 unfold Z2 at e
 split at e
 ·rename_i dx st1 q1
  split at e
  ·rename_i dy st2 q2
   unfold Zc2 at e
   split at e
   ·rename_i ks k
    split at e
    ·rename_i i hi
     cases e
     rw [List.all_cons,Bool.and_eq_true] at hp
     refine wpAny_Call_method_late rfl (Vt (by rw [List.all_cons,hp.1]; rfl) (by simp)) hline rfl (thn (B pins s σ H (fun v H1=>∃ ad1,Ext ad H ad1 H1∧StOk X.K ad1 H1 st1∧Den X.K ad1 H1 v (.kt ks)) I ⟨ad,ρ,st,.kt ks,st1,E,S,q1,fun v ad1 H1 x1 S1 d1=>⟨ad1,x1,S1,d1⟩⟩) fun u s1 ⟨v,H1,I1,rv,ad1,x1,S1,d1⟩=>?_)
     obtain ⟨a,o,its,n,rfl,h1,h2,h3,h4,h5⟩:=d1.ofKt
     cases (show u=Value.ref a from rv)
     have ga:s1.heap.get? a=some o:=I1.kIn a o h1
     refine ⟨"tuple", "tuple.index",PySem.F.plainAttrs_tuple,PySem.F.slot_tuple_index,PySem.F.type_tuple_index,⟨o,ga,h2.1⟩,fun b eb=>by cases eb; exact ⟨o,ga,h2.2⟩,?_⟩
     have hA:=PAs cp pins s1 σ H1 (fun vs H2=>∃ ad2,Ext ad1 H1 ad2 H2∧StOk X.K ad2 H2 st'∧Dens X.K ad2 H2 vs [.str k]) I1 ⟨ad1,ρ,st1,[.str k],st',E.mono x1,S1,q2,fun vs ad2 H2 x2 S2 d2=>⟨ad2,x2,S2,d2⟩⟩
     rw [Ze hp.1] at hA ⊢
     refine Calls.callWith_builtin rfl (Calls.evalArgs_plain (thn hA fun us s2 ⟨vs,H2,I2,r2,ad2,x2,S2,d2⟩=>?_))
     obtain ⟨w,rfl,dw⟩:=W5 d2
     cases dw
     obtain ⟨u1,rfl,tu,rfl⟩:=r2.one
     have ga2:s2.heap.get? a=some o:=I2.kIn a o h1
     obtain ⟨hj,hit,hno⟩:=ZaG (k:=k) (tk:=tu) h5 hi
     have sz:its.toList.length=its.size:=Array.length_toList
     refine call_meets PySem.F.slot_tuple_index ⟨o,ga2,h2.1⟩ PySem.F.entry_tuple_index (PySem.F.args_tuple_index_2 _ _) (Vi a its n o (.str k tu) (fun y:Value=>match y with
      | .str a _=>a==k
      | _=>false) i (by rw [←sz]; exact hj) (by simpa using hit) (fun m hm hl=>by
      have z:=hno m (by rw [sz]; exact hm) hl
      simp only [Array.getElem_toList] at z
      exact z) h3) ⟨ga2,fun y hy=>?_,?_⟩
     ·obtain ⟨b,t,rfl⟩:=ZaV h5 y (by simpa using hy)
      exact PySem.SeqAt.EqAt.str_str b t k tu
     ·exact ⟨.int (i:Int),H2,I2.tok _,⟨_,rfl⟩,p.later (x1.trans x2) _ ad2 H2 (Ext.refl _ _) S2 (.int _)⟩
    ·cases e
   ·cases e
  ·cases e
 ·cases e
theorem ZcI {X:Cx}{sc:Scope}{N:List Str}{y m:Str}{yp ap cp:Pos}{as:List Expr}{x cs:CE} (K:Cxt X G F sc N) (hline:(ap.endLine==cp.line)=true) (hlen:as.length < 20) (B:PE X (.Name y yp) (tE X.K (ev F x)))
  (A:PA X as (tA X.K (ev F cs))∧Zad cs∧as.all Zh=true∧(as=[]→cs=.anil)):PE X (.Call (.Attribute (.Name y yp) m ap) as [] cp) (tE X.K (ev F (.meth (Y5 m as.length G) x cs))):=by
 obtain ⟨PAs,_,hp,hn⟩:=A
 intro pins s σ H Q I h
 obtain ⟨ad,ρ,st,d,st',E,S,e,p⟩:=h
 replace e:Z2 (ev F x) (ev F cs) (JO F (Y5 m as.length G)) ρ st=some (d,st'):=e
 unfold Z2 at e
 split at e
 ·rename_i dx st1 q1
  split at e
  ·rename_i dy st2 q2
   unfold JO at e
   split at e
   ·rename_i i xs
    split at e
    ·rename_i j hj
     obtain ⟨cx,ms,subs,hG,hl⟩:=Zfq hj
     obtain ⟨_,nw,_,hms⟩:=K.gl cx _ hG
     obtain ⟨k,f,fd,pn,Fk,hr,hme,hb⟩:=hms m j _ hl
     refine ZcC rfl (Vt hp hlen) hline (thn (B pins s σ H (fun v H1=>∃ ad1,Ext ad H ad1 H1∧StOk X.K ad1 H1 st1∧Den X.K ad1 H1 v (.obj i)) I ⟨ad,ρ,st,.obj i,st1,E,S,q1,fun v ad1 H1 x1 S1 d1=>⟨ad1,x1,S1,d1⟩⟩) fun u s1 ⟨v,H1,I1,rv,ad1,x1,S1,d1⟩ pl=>?_)
     obtain ⟨a,dx,rfl,ha⟩:=d1.ofObj
     cases (show u=Value.ref a from rv)
     refine getmeth_ok I1 ha nw.cl hme rfl ?_
     cases as with
     | nil=>
      have hc:=hn rfl
      subst hc
      have q2:some (D.tup [],st1)=some (.tup xs,st2):=q2
      cases q2
      exact PySem.W.callWith_K0 (first:=[.ref a]) I1.kIn hme.kp (run_fn (us:=[.ref a]) (vs:=[.ref a]) (E:=E0) Fk hr hb .nil pass0 I1 (.cons rfl .nil) ⟨ad1,[.obj i],st1,d,st',S1,.cons d1 .nil,e,p.later x1⟩)
     | cons e0 es=>
      rw [List.all_cons,Bool.and_eq_true] at hp
      refine PySem.W.callWith_K (first:=[.ref a]) (h₀:=X.base) I.ok.mod.kin hme.kp (thn (PAs cp pins s1 σ H1 _ I1 ⟨ad1,ρ,st1,xs,st2,E.mono x1,S1,q2,fun vs ad2 H2 x2 S2 d2=>(show (fun vs H2=>∃ ad2,Ext ad1 H1 ad2 H2∧StOk X.K ad2 H2 st2∧Dens X.K ad2 H2 vs xs) vs H2 from ⟨ad2,x2,S2,d2⟩)⟩) fun us s2 ⟨vs,H2,I2,r,ad2,x2,S2,d2⟩=>⟨I2.kIn,?_⟩) (Ze hp.1) (YV hp.2)
      refine run_fn (us:=.ref a :: us) (vs:=.ref a :: vs) (E:=E0) Fk hr hb .nil pass0 I2 (.cons rfl r) ?_
      rw [List.append_nil]
      exact ⟨ad2,.obj i :: xs,st2,d,st',S2,.cons (d1.mono x2) d2,e,p.later (x1.trans x2)⟩
    ·cases e
   ·cases e
  ·cases e
 ·cases e
theorem Q1 {n:Nat} (ihE:ZO G F n) (ihA:XR G F n) (ihO:QR G F n)
  (hcomp:∀ X sc N,Cxt X G F sc N→∀ elt gens sc2 pos c,cE G (n+1) sc N (.ListComp elt gens sc2 pos)=some c→SE X F (.ListComp elt gens sc2 pos) c):ZO G F (n+1):=by
 intro X sc N K e c h
 cases e with
 | Constant v k pos=>exact Zb2 (show CE.ofConst v=some c from h)
 | Name x pos=>exact Zdv K (show Jz G sc N x=some c from h)
 | BinOp a op b pos=>
  replace h:(match cE G n sc N a,cE G n sc N b with
   | some x,some y=>some (CE.bin op x y)
   | _,_=>none)=some c:=h
  split at h
  ·rename_i x y hx hy
   cases h
   exact .of (Zq (pe_op Zdi (ihE X sc N K a x hx).pe (ihE X sc N K b y hy).pe) Um)
  ·cases h
 | UnaryOp op a pos=>
  cases op with
  | Not=>
   replace h:(cE G n sc N a).map CE.not=some c:=h
   cases q:cE G n sc N a with
   | none=>rw [q] at h; cases h
   | some x=>
    rw [q] at h
    cases h
    exact ⟨Zq (pe_not (ihE X sc N K a x q).pe) Zbn,Wa (pt_not (ihE X sc N K a x q).pt) ZaO⟩
  | USub=>
   replace h:(cE G n sc N a).map CE.neg=some c:=h
   cases q:cE G n sc N a with
   | none=>rw [q] at h; cases h
   | some x=>
    rw [q] at h
    cases h
    exact .of (Zq (pe_un ZcD (ihE X sc N K a x q).pe) ZbQ)
  | Invert=>
   replace h:(cE G n sc N a).map CE.inv=some c:=h
   cases q:cE G n sc N a with
   | none=>rw [q] at h; cases h
   | some x=>
    rw [q] at h
    cases h
    exact .of (Zq (pe_un ZcQ (ihE X sc N K a x q).pe) ZbQ)
  | _=>exact nomatch (show (none:Option CE)=some c from h)
 | Compare a ops bs pos=>
  match ops,bs,h with
  | [op],[b],h=>
   replace h:(match Z3 G sc b with
    | some e=>(match Zfr op,cE G n sc N a,cE G n sc N e with
     | some ng,some x,some y=>some (CE.inR ng x y)
     | _,_,_=>none)
    | none=>(match cE G n sc N a,cE G n sc N b with
     | some x,some y=>some (CE.cmp op x y)
     | _,_=>none))=some c:=h
   split at h
   ·rename_i e he
    split at h
    ·rename_i ng x y hg hx hy
     cases h
     exact Zea K he hg (Zm hy) (ihE X sc N K a x hx).pe (ihE X sc N K e y hy).pe
    ·cases h
   ·split at h
    ·rename_i x y hx hy
     cases h
     have A:=ihE X sc N K a x hx
     have B:=ihE X sc N K b y hy
     have hm:=Wr (op:=op) (Zm hy)
     exact ⟨Zq (pe_cmpR (Xw K.hu) A.pe B.pe hm) Um,Wa (pt_cmpR (Xw K.hu) A.pe B.pe hm) fun σ H Q q=>Um σ H _ (QZ σ H Q q)⟩
    ·cases h
  | [op,op2],[b,b2],h=>
   replace h:(match cE G n sc N a,cE G n sc N b,cE G n sc N b2 with
    | some x,some y,some z=>if Ud y=true then some (CE.and (CE.cmp op x y) (CE.cmp op2 y z)) else none
    | _,_,_=>none)=some c:=h
   split at h
   ·rename_i x y z hx hy hz
    split at h
    ·rename_i hr
     cases h
     have A:=ihE X sc N K a x hx
     have B:=ihE X sc N K b y hy
     have C:=ihE X sc N K b2 z hz
     have hm:lastMarks [op,op2] [b,b2]=false:=Wr (op:=op2) (Zm hz)
     exact ⟨Zq (pe_chain (Xw K.hu) (Xw K.hu) A.pe B.pe C.pe hm) (Vv fun _ _ _ _=>Vx hr),Wa (pt_chain (Xw K.hu) (Xw K.hu) A.pe B.pe C.pe hm) fun σ H Q q=>Vv (fun _ _ _ _=>Vx hr) σ H _ (QZ σ H Q q)⟩
    ·cases h
   ·cases h
  | [],_,h=>exact nomatch (show (none:Option CE)=some c from h)
  | [_],[],h=>exact nomatch (show (none:Option CE)=some c from h)
  | [_],_ :: _ :: _,h=>exact nomatch (show (none:Option CE)=some c from h)
  | [_,_],[],h=>exact nomatch (show (none:Option CE)=some c from h)
  | [_,_],[_],h=>exact nomatch (show (none:Option CE)=some c from h)
  | [_,_],_ :: _ :: _ :: _,h=>exact nomatch (show (none:Option CE)=some c from h)
  | _ :: _ :: _ :: _,_,h=>exact nomatch (show (none:Option CE)=some c from h)
 | BoolOp op vs pos=>
  match vs,h with
  | [],h=>cases op<;>exact nomatch (show (none:Option CE)=some c from h)
  | [a],h=>
   have h:cE G n sc N a=some c:=by cases op<;>exact h
   have A:=ihE X sc N K a c h
   refine ⟨pe_one A.pe,?_⟩
   cases op with
   | And=>exact (pw_and1 A.pt).pt
   | Or=>exact (pw_or1 A.pt).pt
  | a :: b :: r,h=>
   cases op with
   | And=>
    replace h:(match cE G n sc N a,cE G n sc N (.BoolOp .And (b :: r) pos) with
   | some x,some y=>some (CE.and x y)
   | _,_=>none)=some c:=h
    split at h
    ·rename_i x y hx hy
     cases h
     have A:=ihE X sc N K a x hx
     have B:=ihE X sc N K _ y hy
     exact ⟨Zq (pe_and A.pe B.pe) ZaZ,Wa (pw_and A.pt (UR B.pt)).pt ZaK⟩
    ·cases h
   | Or=>
    replace h:(match cE G n sc N a,cE G n sc N (.BoolOp .Or (b :: r) pos) with
   | some x,some y=>some (CE.or x y)
   | _,_=>none)=some c:=h
    split at h
    ·rename_i x y hx hy
     cases h
     have A:=ihE X sc N K a x hx
     have B:=ihE X sc N K _ y hy
     exact ⟨Zq (pe_or A.pe B.pe) ZdG,Wa (pw_or A.pt (UR B.pt)).pt ZcS⟩
    ·cases h
 | IfExp t a b pos=>
  replace h:(match cE G n sc N t,cE G n sc N a,cE G n sc N b with
   | some z,some x,some y=>some (CE.ife z x y)
   | _,_,_=>none)=some c:=h
  split at h
  ·rename_i z x y hz hx hy
   cases h
   have T:=ihE X sc N K t z hz
   have A:=ihE X sc N K a x hx
   have B:=ihE X sc N K b y hy
   exact ⟨Zq (pe_ifExp T.pt A.pe B.pe) Zfe,ZeI T.pt A.pt B.pt⟩
  ·cases h
 | Tuple es k pos=>
  replace h:(cEs G n sc N es).map CE.tupE=some c:=h
  cases q:cEs G n sc N es with
  | none=>rw [q] at h; cases h
  | some x=>
   rw [q] at h
   cases h
   obtain ⟨A,hA,_,_⟩:=ihA X sc N K es x q
   exact .of (Zq (pe_tup A) (Zdn (fun ρ st ds st' e=>by obtain ⟨ds',z,hz⟩:=WD hA e; cases z; exact hz) fun ρ st d st' e=>by obtain ⟨ds',z,hz⟩:=WD hA e; exact ⟨ds',z⟩))
 | List es pos=>
  replace h:(cEs G n sc N es).map CE.lstE=some c:=h
  cases q:cEs G n sc N es with
  | none=>rw [q] at h; cases h
  | some x=>
   rw [q] at h
   cases h
   obtain ⟨A,hA,_,_⟩:=ihA X sc N K es x q
   exact .of (Zq (pe_lst A) (Zdw fun ρ st ds st' e=>by obtain ⟨ds',z,hz⟩:=WD hA e; cases z; exact hz))
 | Dict keys vals pos=>
  replace h:(match ZV keys,cVs (cE G n sc N) vals with
   | some ks,some c=>if keys.length=vals.length∧keys≠[]∧keys.length≤15 then some (CE.dict ks c) else none
   | _,_=>none)=some c:=h
  split at h
  ·rename_i ks cs hk hc
   split at h
   ·rename_i cc
    cases h
    exact .of (ZaC (fun e c h=>(ihE X sc N K e c h).pe) hk hc cc.1 cc.2.1 cc.2.2)
   ·cases h
  ·cases h
 | Subscript a b pos=>
  replace h:(match Ut b with
   | some (lo,hi)=>match cE G n sc N a,cO G n sc N lo,cO G n sc N hi with
    | some x,some l,some h=>some (CE.slice x l h)
    | _,_,_=>none
   | none=>match Zcn b with
    | some s=>(match cE G n sc N a,cE G n sc N s with
     | some x,some y=>if Zfl y=true then some (CE.rs false x) else none
     | _,_=>none)
    | none=>match JI G sc a with
     | some (ks,ds)=>(cE G n sc N b).map (CE.look ks ds)
     | none=>(match cE G n sc N a,cE G n sc N b with
      | some x,some y=>some (CE.ix x y)
      | _,_=>none))=some c:=h
  split at h
  ·rename_i lo hi q
   have hb:∃ p2,b=.Slice lo hi none p2:=by
    unfold Ut at q
    split at q
    ·cases q; exact ⟨_,rfl⟩
    ·cases q
   obtain ⟨p2,rfl⟩:=hb
   split at h
   ·rename_i x l u hx hl hu
    cases h
    exact .of (Zq (pe_slice Zh2 (ihE X sc N K a x hx).pe (ihO X sc N K lo l hl) (ihO X sc N K hi u hu)) J0)
   ·cases h
  ·split at h
   ·rename_i s q
    have hb:∃ p2,b=.Slice none none (some s) p2:=by
     unfold Zcn at q
     split at q
     ·cases q; exact ⟨_,rfl⟩
     ·cases q
    obtain ⟨p2,rfl⟩:=hb
    split at h
    ·rename_i x y hx hy
     split at h
     ·rename_i m1
      cases h
      have hy1:y=.neg (.cst (.int 1)):=by
       unfold Zfl at m1
       split at m1
       ·rfl
       ·cases m1
      subst hy1
      exact .of (Zq (ZfD (ihE X sc N K a x hx).pe (ihE X sc N K s _ hy).pe) Zdc)
     ·cases h
    ·cases h
   ·split at h
    ·rename_i ks ds hn
     cases hy:cE G n sc N b with
     | none=>rw [hy] at h; cases h
     | some y=>
      rw [hy] at h
      cases h
      exact .of (ZdL K hn (Zm hy) (ihE X sc N K b y hy).pe)
    ·split at h
     ·rename_i x y hx hy
      cases h
      exact .of (Zq (pe_ix Zhz (ihE X sc N K a x hx).pe (ihE X sc N K b y hy).pe (UL (Zm hy))) Um)
     ·cases h
 | Call f as kws pos=>
  cases f with
  | Attribute ob m ap=>
   cases ob with
   | Dict ks vs dp=>
    cases kws with
    | cons _ _=>exact nomatch (show (none:Option CE)=some c from (by rcases as with _ | ⟨a,_ | ⟨b,_ | ⟨d,r⟩⟩⟩<;>exact h))
    | nil=>
     rcases as with _ | ⟨a,_ | ⟨b,_ | ⟨d,r⟩⟩⟩
     ·exact nomatch (show (none:Option CE)=some c from h)
     ·exact nomatch (show (none:Option CE)=some c from h)
     ·replace h:(if m = "get"∧(ap.endLine==pos.line)=true then (match cE G n sc N (.Dict ks vs dp),cE G n sc N a,cE G n sc N b with
       | some x,some y,some z=>some (CE.dget x y z)
       | _,_,_=>none) else none)=some c:=h
      split at h
      ·rename_i hc
       obtain ⟨rfl,hline⟩:=hc
       split at h
       ·rename_i x y z hx hy hz
        cases h
        exact .of (Zcy K hline (Zm hy) (Zm hz) (ihE X sc N K _ x hx).pe (ihE X sc N K a y hy).pe (ihE X sc N K b z hz).pe)
       ·cases h
      ·cases h
     ·exact nomatch (show (none:Option CE)=some c from h)
   | Name y yp=>
    cases kws with
    | cons _ _=>exact nomatch (show (none:Option CE)=some c from h)
    | nil=>
     replace h:(if (ap.endLine==pos.line)=true∧as.length < 20 then (match cE G n sc N (.Name y yp),cEs G n sc N as with
       | some x,some c=>if m = "index" then (if as.length=1 then some (CE.tix x c) else none) else some (CE.meth (Y5 m as.length G) x c)
       | _,_=>none) else none)=some c:=h
     split at h
     ·rename_i hc
      split at h
      ·rename_i x cs hx hcs
       by_cases hm:m = "index"
       ·subst hm
        rw [if_pos rfl] at h
        split at h
        ·rename_i h1
         cases h
         exact .of (Zel K hc.1 h1 (ihE X sc N K _ x hx).pe (ihA X sc N K as cs hcs))
        ·cases h
       rw [if_neg hm] at h
       cases h
       exact .of (ZcI K hc.1 hc.2 (ihE X sc N K _ x hx).pe (ihA X sc N K as cs hcs))
      ·cases h
     ·cases h
   | _=>exact nomatch (show (none:Option CE)=some c from h)
  | Name f p=>
   cases kws with
   | cons _ _=>exact nomatch (show (none:Option CE)=some c from h)
   | nil=>
    replace h:Zbt G sc f as (cEs G n sc N as) (cE G n sc N)=some c:=h
    unfold Zbt at h
    split at h
    ·rename_i hg
     split at h
     ·rename_i i ps ds hG
      split at h
      ·rename_i cs hcs
       split at h
       ·rename_i hl
        cases h
        exact .of (ZcN K hg hG hl (ihA X sc N K as cs hcs))
       ·cases h
      ·cases h
     ·rename_i hG
      have hm:X.mg f=none:=K.gl f _ hG
      rcases as with _ | ⟨a,_ | ⟨b,_ | ⟨d,r⟩⟩⟩
      ·cases h
      ·dsimp only at h
       split at h
       ·rename_i e he
        exact Ze5 K hg hm he (fun c hc=>⟨Zm hc,(ihE X sc N K e c hc).pe⟩) h
       ·split at h
        ·rename_i u v hl
         split at h
         ·rename_i x y hx hy
          cases h
          exact .of (ZcT K hg hm hl (Zm hx) (Zm hy) (ihE X sc N K u x hx).pe (ihE X sc N K v y hy).pe)
         ·cases h
        ·split at h
         ·rename_i x hx
          exact .of (Zc1 K hg hm (Zm hx) (ihE X sc N K a x hx).pe h)
         ·cases h
      ·dsimp only at h
       split at h
       ·rename_i ei
        subst ei
        split at h
        ·rename_i l hl
         cases q:cE G n sc N a with
         | none=>rw [q] at h; cases h
         | some x=>
          rw [q] at h
          cases h
          exact .of (ZeM K hg hm (Zm q) (ihE X sc N K a x q).pe hl)
        ·split at h
         ·rename_i x T hx hT
          cases h
          exact .of (ZeC K hg hm (Zm hx) (ihE X sc N K a x hx).pe hT)
         ·cases h
       ·split at h
        ·rename_i x y hx hy
         exact .of (ZcF K hg hm (Zm hx) (Zm hy) (ihE X sc N K a x hx).pe (ihE X sc N K b y hy).pe h)
        ·cases h
      ·cases h
     ·rename_i i ms subs hG
      cases as with
      | cons _ _=>cases h
      | nil=>
       cases h
       exact .of (ZfN K hg hG)
     ·cases h
    ·cases h
  | _=>exact nomatch (show (none:Option CE)=some c from h)
 | ListComp elt gens sc2 pos=>exact hcomp X sc N K elt gens sc2 pos c h
 | _=>exact nomatch (show (none:Option CE)=some c from h)
theorem Qq {n:Nat} (ihE:ZO G F n) (ihA:XR G F n):XR G F (n+1):=by
 intro X sc N K es c h
 cases es with
 | nil=>
  simp only [cEs] at h
  cases h
  exact ⟨Zb0 pa_nil Vb,trivial,rfl,fun _=>rfl⟩
 | cons e es=>
  simp only [cEs] at h
  split at h
  ·rename_i x r hx hr
   cases h
   obtain ⟨A,hA,hp,_⟩:=ihA X sc N K es r hr
   exact ⟨Zb0 (pa_cons (ihE X sc N K e x hx).pe A (Ze (Zm hx))) VP,trivial,by rw [List.all_cons,hp,Zm hx]; rfl,fun z=>nomatch z⟩
  ·cases h
theorem Qy {n:Nat} (ihE:ZO G F n):QR G F (n+1):=by
 intro X sc N K e c h
 cases e with
 | none=>
  simp only [cO] at h
  cases h
  exact Zbd po_none Zdm
 | some e=>
  simp only [cO] at h
  cases q:cE G n sc N e with
  | none=>rw [q] at h; cases h
  | some x=>
   rw [q] at h
   cases h
   refine Zbd (po_some (ihE X sc N K e x q).pe) fun σ H Q hq=>?_
   obtain ⟨ad,ρ,st,d,st',E,S,e1,p⟩:=hq
   have e1:ZE (ev F x) Js ρ st=some (d,st'):=e1
   unfold ZE at e1
   split at e1
   ·rename_i y st1 q1
    cases y with
    | int i=>
     cases e1
     rcases p with ⟨z,_⟩ | ⟨j,z,p⟩
     ·cases z
     ·cases z
      exact ⟨ad,ρ,st,.int i,_,E,S,q1,fun v ad' H' x S' d'=>⟨i,d'.ofInt,p ad' H' x S'⟩⟩
    | _=>simp [Js] at e1
   ·cases e1
end
end Dp



namespace Dp
open PySem PySem.Spec PyProof.Rows L2
variable [ClsTab]
theorem Zd3 {X:Cx}{s:Stmt}{t u:TS} (h1:PS X s t) (h2:PS X s u):PS X s (fun D σ H=>t D σ H∨u D σ H):=fun pins s σ H D I q=>q.elim (h1 pins s σ H D I) (h2 pins s σ H D I)
theorem Wv {e:Expr}{tg:Option Expr}{l:Nat}{env:PySem.Env} (h:Xh e=false):swapsWith e tg l env=pure false:=by
 cases e<;>first | rfl | cases h
theorem WY {e tg:Expr}{l:Nat}{env:PySem.Env} (h:Xh e=false):swapsWithSole [tg] e l env=pure false:=Wv h
theorem QT {o k:Expr}{p:Pos}{env:PySem.Env} (h:Zh k=true):∀ v,assign (.Subscript o k p) env v=(do
   let ov ←holding [v] (eval o env)
   let iv ←holding [v,ov] (eval k env)
   standAt p
   holding [v,ov,iv] (setItem ov iv v)
   release [v,ov,iv] []):=by
 cases k<;>first | (intro _; rfl) | cases h
theorem Jj {o k e:Expr}{p:Pos}{env:PySem.Env}:swappedStores [.Subscript o k p] e env=pure none:=by
 cases e<;>rfl
theorem Z5 {e:Expr}{env:PySem.Env} (h:Zh e=true):∀ x,foldedSetIterable e env x=pure x:=by
 cases e<;>first | (intro _; rfl) | cases h
structure CxtS (X:Cx) (G:Gs) (F:Nat→Fn) (sc:Scope) (N:List Str):Prop extends Cxt X G F sc N where
 nd:N.Nodup
 loc:∀ x∈N,Loc X.env.scope x
 fn:∀ x,X.fn x=true
section
variable {G:Gs}{F:Nat→Fn}
noncomputable def QH (G:Gs) (F:Nat→Fn) (n:Nat):Prop:=∀ X sc N,CxtS X G F sc N→∀ s c,cS G n sc N s=some c→PS X s (tS X.K (ex F c))
noncomputable def ZS (G:Gs) (F:Nat→Fn) (n:Nat):Prop:=∀ X sc N,CxtS X G F sc N→∀ s c,cSs G n sc N s=some c→PSs X s (tS X.K (ex F c))
theorem V1 {N:List Str}{x:Str}{i:Nat} (h:N.idxOf? x=some i):x∈N:=List.mem_of_getElem? (XM h)
theorem Xe {X:Cx}{sc:Scope}{N:List Str}{x:Str}{i:Nat}{p:Pos} (K:CxtS X G F sc N) (h:N.idxOf? x=some i):PG X (.Name x p) (gName i):=
 pg_name (by rw [K.hN]; exact K.nd) (by rw [K.hN]; exact XM h) (K.loc x (V1 h)) (.inl (K.fn x))
theorem XE {X:Cx}{sc:Scope}{N:List Str} (K:CxtS X G F sc N):PassesOwn (model X.prog X.w) X.A X.env X.xe:=by
 rw [K.nx]; exact PassesOwn.never
theorem ZaF {X:Cx}{sc:Scope}{N:List Str}{x:Str}{i:Nat}{p:Pos} (K:Cxt X G F sc N) (hl:Y0 sc x=true) (hi:N.idxOf? x=some i):PE X (.Name x p) (tVar i):=
 pe_var (by rw [K.hN]; exact XM hi) (K.vis _ hl) (VZ hl).1 (VZ hl).2
theorem Wu {X:Cx}{sc:Scope}{N:List Str}{it a tg:Expr}{x:CE} (K:Cxt X G F sc N) (h:Z3 G sc it=some a) (hp:Zh a=true) (A:PE X a (tE X.K (ev F x))):Zh it=true∧PI X tg it (iRng1 (tCons (tE X.K (ev F x)) tNil)):=by
 unfold Z3 at h
 split at h
 ·split at h
  ·rename_i hc
   obtain ⟨rfl,hg,hb⟩:=hc
   cases h
   have hm:X.mg "range"=none:=by
    unfold Xd at hb
    split at hb
    ·rename_i q; exact K.gl _ _ q
    ·cases hb
   exact ⟨rfl,pi_range1 (K.glb _ hg) hm (pa1 hp A) (Ze hp)⟩
  ·cases h
 ·cases h
noncomputable def V0 (G:Gs) (F:Nat→Fn) (n:Nat):Prop:=∀ X sc N,CxtS X G F sc N→∀ (x:Str) (i:Nat) (p:Pos) elt gens sc2 epos (pos:Pos) c,N.idxOf? x=some i→cE G n sc N (.ListComp elt gens sc2 epos)=some c→
 swapsWith (.ListComp elt gens sc2 epos) (some (.Name x p)) pos.line X.env=pure true→PS X (.Assign [.Name x p] (.ListComp elt gens sc2 epos) pos) (tAsg (tE X.K (ev F c)) (gName i))
theorem QK {elt:Expr}{gens:List Comprehension}{sc2:Scope}{epos p:Pos}{x:Str}{l:Nat}{env:PySem.Env}:∃ b:Bool,swapsWith (.ListComp elt gens sc2 epos) (some (.Name x p)) l env=pure b:=⟨_,rfl⟩
theorem Za3 {n:Nat}{sc:Scope}{N:List Str}{e:Expr}{c:CE} (h:cE G n sc N e=some c):Xh e=false∨∃ elt gens sc2 epos,e=.ListComp elt gens sc2 epos:=by
 cases n with
 | zero=>exact nomatch (show (none:Option CE)=some c from h)
 | succ n=>cases e<;>first | exact .inl rfl | exact .inr ⟨_,_,_,_,rfl⟩ | exact nomatch (show (none:Option CE)=some c from h)
theorem Zef {n:Nat} (ihE:ZO G F n) (ihS:ZS G F n) (hA:V0 G F n) {X:Cx}{sc:Scope}{N:List Str} (K:CxtS X G F sc N) {c:CS}{x:Str}{e:Expr}{p pos:Pos} (h:(match N.idxOf? x,cE G n sc N e with
   | some i,some c=>some (CS.set i c)
   | _,_=>none)=some c):PS X (.Assign [.Name x p] e pos) (tS X.K (ex F c)):=by
 split at h
 ·rename_i i x hi hx
  cases h
  have pl:∀ hs,PS X (.Assign [.Name _ p] e pos) (tAsg (tE X.K (ev F x)) (gName i)):=fun hs=>ps_set (by rw [K.hN]; exact K.nd) (by rw [K.hN]; exact XM hi) (K.loc _ (V1 hi)) (ihE X sc N K.toCxt _ x hx).pe hs (.inl (K.fn _))
  rcases Za3 hx with hc | ⟨elt,gens,sc2,epos,rfl⟩
  ·exact Z0 (pl (Wv hc)) Ue
  ·obtain ⟨b,hb⟩:=QK (elt:=elt) (gens:=gens) (sc2:=sc2) (epos:=epos) (p:=p) (x:=_) (l:=pos.line) (env:=X.env)
   cases b with
   | false=>exact Z0 (pl hb) Ue
   | true=>exact Z0 (hA X sc N K _ i p elt gens sc2 epos pos x hi hx hb) Ue
 ·cases h
theorem QV {ts:List Expr}{k:Nat}{tp:Pos}{e:Expr}{env:PySem.Env} (h:Jn e=false):swappedStores [.Tuple ts k tp] e env=pure none:=by
 cases e with
 | Tuple=>cases h
 | _=>rfl
theorem Zc9 {n:Nat} (ihE:ZO G F n) {X:Cx}{sc:Scope}{N:List Str} (K:CxtS X G F sc N) {c:CS}{x y:Str}{e:Expr}{p p2 tp pos:Pos}{ctx:Nat} (h:(if Xh e||Jn e then none else match N.idxOf? x,N.idxOf? y,cE G n sc N e with
   | some i,some j,some c=>if i=j then none else some (CS.set2 i j c)
   | _,_,_=>none)=some c):PS X (.Assign [.Tuple [.Name x p,.Name y p2] ctx tp] e pos) (tS X.K (ex F c)):=by
 split at h
 ·cases h
 ·rename_i hc
  have hc:(Xh e||Jn e)=false:=by simpa using hc
  rw [Bool.or_eq_false_iff] at hc
  split at h
  ·rename_i i j ce hi hj hx
   split at h
   ·cases h
   ·cases h
    exact Z0 (ps_asg (ihE X sc N K.toCxt _ ce hx).pe (pg_tup K.calm (pgs_cons (Xe K hi) (pgs_cons (Xe K hj) pgs_nil))) (WY hc.1) (QV hc.2)) ZbW
  ·cases h
theorem Zev {n:Nat} (ihE:ZO G F n) (ihS:ZS G F n) {X:Cx}{sc:Scope}{N:List Str} (K:CxtS X G F sc N) {c:CS}{x:Str}{k e:Expr}{p q pos:Pos} (h:(if Xh e then none else (if Zgp k then none else match N.idxOf? x,cE G n sc N k,cE G n sc N e with
    | some i,some ck,some c=>if Y0 sc x then some (CS.put i ck c) else none
    | _,_,_=>none))=some c):PS X (.Assign [.Subscript (.Name x p) k q] e pos) (tS X.K (ex F c)):=by
 split at h
 ·cases h
 ·rename_i hc
  split at h
  ·cases h
  ·rename_i hk
   split at h
   ·rename_i i ck x hi hck hx
    split at h
    ·rename_i hl0
     cases h
     exact Z0 (ps_asg (ihE X sc N K.toCxt _ x hx).pe (pg_sub (ZaF K.toCxt hl0 hi) (ihE X sc N K.toCxt _ ck hck).pe set_list (QT (Zm hck))) (WY (by simpa using hc)) Jj) Zc8
    ·cases h
   ·cases h
theorem ZfH {n:Nat} (ihE:ZO G F n) (ihS:ZS G F n) {X:Cx}{sc:Scope}{N:List Str} (K:CxtS X G F sc N) {c:CS}{e:Expr}{pos:Pos} (h:(cE G n sc N e).map CS.ret=some c):PS X (.Return (some e) pos) (tS X.K (ex F c)):=by
 cases q:cE G n sc N e with
 | none=>rw [q] at h; cases h
 | some x=>
  rw [q] at h
  cases h
  exact Z0 (ps_ret (ihE X sc N K.toCxt _ x q).pe) ZcM
theorem Zgl {n:Nat} (ihE:ZO G F n) (ihS:ZS G F n) {X:Cx}{sc:Scope}{N:List Str} (K:CxtS X G F sc N) {c:CS}{e:Expr}{a b:List Stmt}{pos:Pos} (h:(match cE G n sc N e,cSs G n sc N a,cSs G n sc N b with
   | some cc,some ca,some cb=>some (CS.ite cc ca cb)
   | _,_,_=>none)=some c):PS X (.If e a b pos) (tS X.K (ex F c)):=by
 split at h
 ·rename_i cc ca cb hc ha hb
  cases h
  exact Z0 (ps_if (ihE X sc N K.toCxt _ cc hc).pt (ihS X sc N K _ ca ha) (ihS X sc N K _ cb hb)) Zc6
 ·cases h
theorem JR {P:Program}{w:World}{K:PySem.W.Frag}{tg:Expr} (it:Addr) (lo c:Int) (n:Nat):Turn P w K tg (Its lo c n) [it] it (fun i h=>IsRangeIter h it (lo+(i:Nat) * c) ((n:Int) - (i:Nat)) c) where
 mem:=by simp
 obj:=fun i h st b hb=>by
  have e:b=it:=by simpa using hb
  subst e
  exact ⟨_,st,fun v z=>by
   have z':Data.fields _=Data.cell v:=z
   cases z'⟩
 keep:=fun i h h' st k=>k it (by simp) _ st
 item:=by
  intro X hP hw hK hc i pins s σ H E I hf st hg
  subst hP hw hK
  obtain ⟨f0,f1,f2,f3,f4,f5⟩:=hf it (by simp)
  have W:=Walks.range (prog:=X.prog) (w:=X.w) (I.ok.hd hc) it lo c n
  refine W.item i s _ _ hg st fun v h' tk hv st' kk=>?_
  obtain ⟨t,rfl⟩:=hv
  have I1:L2.Inv X pins σ H { s with heap:=h',toks:=tk }:=I.turned (fun b o hb e=>kk b o (by simpa using hb) e) f0 f1 f3 f4 f5
  exact ⟨_,rfl,go_of (s:={ s with heap:=h',toks:=tk }) (n := "range_iterator") st' rfl rfl (by decide) ⟨.int (lo+i * c),H,I1,⟨t,rfl⟩,⟨rfl,rfl⟩,st',fun b hb=>(hf b hb).1⟩⟩
 done:=by
  intro X hP hw hK hc i pins s σ H E I hf st hg
  subst hP hw hK
  obtain ⟨f0,f1,f2,f3,f4,f5⟩:=hf it (by simp)
  exact wpAny_pyNext_range_end (I.ok.hd hc) st (by have:n≤i:=hg; omega) fun h' eb=>⟨rfl,I.turned (t':=s.toks) (fun b o hb e=>eb b o hb e) f0 f1 f3 f4 f5⟩
 self:=fun _ _ _ _ _ st h=>wpAny_pyIter_rangeiter st h
theorem Ws {a b c:Int} (h:ZR a b c=true):((ZM a b c:Nat):Int)=Builtin.Range.rangeSize a b c∧Builtin.Range.small a b c=true∧c≠0∧c.natAbs < 1073741824:=by
 have h:=of_decide_eq_true h
 obtain ⟨⟨h1,h2⟩,⟨h3,h4⟩,h5⟩:=h
 unfold ZM Builtin.Range.small Builtin.Range.rangeSize
 rcases h5 with rfl | rfl | rfl | rfl | rfl
 all_goals
  simp only [Builtin.Range.rangeFitsLong,Bool.and_eq_true,Bool.or_eq_true,decide_eq_true_eq,beq_iff_eq,gt_iff_lt,Int.neg_neg,Int.ediv_one]
  refine ⟨?_,?_,by decide,by decide⟩
  ·split
   ·split<;>omega
   ·split<;>omega
  ·refine ⟨⟨by omega,?_⟩,.inr ?_⟩
   ·constructor
    ·repeat' split
     all_goals omega
    ·repeat' split
     all_goals omega
   ·simp
    omega
theorem VL {X:Cx}{tg:Expr}{pins:List (Addr×Obj)}{σ:L2.St}{H:Hp}{s:Shared}{R:It→Hp→Prop}{E:Value→Shared→Prop}{lo hi c:Int}{t u v:Tok}{tk:Nat} (I:L2.Inv X pins σ H s) (ok:ZR lo hi c=true)
  (q:R (Its lo c (ZM lo hi c)) H):wpAny (model X.prog X.w) X.A (pyIter (.ref s.heap.objs.size)) (PIE X pins σ tg R) E { s with heap:=s.heap.push { cls:=.type "range",data:=.fields #[.int lo t,.int hi u,.int c v] },toks:=tk }:=by
 obtain ⟨z1,z2,_,_⟩:=Ws ok
 refine wpAny_pyIter_range (IsRange.new ..) z2 ?_
 have I1:L2.Inv X pins σ H { s with heap:=s.heap.push { cls:=.type "range",data:=.fields #[.int lo t,.int hi u,.int c v] },toks:=tk }:=I.kept fun b o e=>Heap.get?_push_of_some _ e
 refine ⟨(s.heap.push { cls:=.type "range",data:=.fields #[.int lo t,.int hi u,.int c v] }).objs.size,[(s.heap.push { cls:=.type "range",data:=.fields #[.int lo t,.int hi u,.int c v] }).objs.size],_,_,H,rfl,
  I1.kept (t':=tk) fun b o e=>Heap.get?_push_of_some _ e,JR _ lo c (ZM lo hi c),?_,fun b hb=>?_,q⟩
 ·have e1:lo+((0:Nat):Int) * c=lo:=by simp
  have e2:((ZM lo hi c:Nat):Int) - ((0:Nat):Int)=Builtin.Range.rangeSize lo hi c:=by rw [z1]; simp
  show IsRangeIter _ _ (lo+((0:Nat):Int) * c) (((ZM lo hi c:Nat):Int) - ((0:Nat):Int)) c
  rw [e1,e2]
  exact Heap.get?_push_size _ rfl
 ·have e:b=(s.heap.push { cls:=.type "range",data:=.fields #[.int lo t,.int hi u,.int c v] }).objs.size:=by simpa using hb
  subst e
  exact I1.fpOk (Nat.le_refl _) (I1.hok.fresh (Nat.le_refl _))
theorem Zar {X:Cx}{tg:Expr}{as:List Expr}{ta:TA}{p pos:Pos} (hg:Gl X "range") (hm:X.mg "range"=none) (ha:PA X as ta) (hp:as.all Zh=true) (hl:(∃ a b,as=[a,b])∨∃ a b c,as=[a,b,c]):PI X tg (.Call (.Name "range" p) as [] pos) (ZdY ta):=by
 intro pins s σ H R I h
 have fin:∀ {us:List Value}{s1:Shared}{vs:List V}{H1:Hp},L2.Inv X pins σ H1 s1→Vals vs us→(∃ (i j c:Int),(vs=[.int i,.int j]∧c=1∨vs=[.int i,.int j,.int c])∧ZR i j c=true∧R (Its i c (ZM i j c)) H1)→
   wpAny (model X.prog X.w) X.A (call (.type "range") us) (fun v s2=>wpAny (model X.prog X.w) X.A (pyIter v) (PIE X pins σ tg R) X.xe s2) X.xe s1:=fun {us s1 vs H1} I1 r1 q1=>by
  obtain ⟨i,j,c,e,ok,q⟩:=q1
  rcases e with ⟨rfl,rfl⟩ | rfl
  ·cases r1 with
   | cons r rr=>
    cases rr with
    | cons r' rr=>
     cases rr
     obtain ⟨t,rfl⟩:=r
     obtain ⟨t',rfl⟩:=r'
     exact call_range_2 (VL I1 ok q)
  ·cases r1 with
   | cons r rr=>
    cases rr with
    | cons r' rr=>
     cases rr with
     | cons r2 rr=>
      cases rr
      obtain ⟨t,rfl⟩:=r
      obtain ⟨t',rfl⟩:=r'
      obtain ⟨t2,rfl⟩:=r2
      obtain ⟨_,_,z3,z4⟩:=Ws ok
      exact call_range_3 z3 (VL I1 ok q) (.inl (PyProof.noPylong_small z4))
 rcases hl with ⟨a,b,rfl⟩ | ⟨a,b,c,rfl⟩
 ·rw [List.all_cons,List.all_cons,Bool.and_eq_true,Bool.and_eq_true] at hp
  have hs2:starEach [b] X.env=[(false,eval b X.env)]:=Ze hp.2.1
  have hs:starEach [a,b] X.env=[(false,eval a X.env),(false,eval b X.env)]:=by rw [Ze hp.1,hs2]
  exact Call_ (ld_blt I hg hm boot_range (PyProof.Rows.callWith_type1 (thn (ha pos pins s σ H _ I h) fun us s1 ⟨vs,H1,I1,r1,q1⟩=>fin I1 r1 q1) (by rw [hs,hs2]) (by rw [hs2]; rfl)))
 ·rw [List.all_cons,List.all_cons,List.all_cons,Bool.and_eq_true,Bool.and_eq_true,Bool.and_eq_true] at hp
  have hs3:starEach [c] X.env=[(false,eval c X.env)]:=Ze hp.2.2.1
  have hs2:starEach [b,c] X.env=[(false,eval b X.env),(false,eval c X.env)]:=by rw [Ze hp.2.1,hs3]
  have hs:starEach [a,b,c] X.env=[(false,eval a X.env),(false,eval b X.env),(false,eval c X.env)]:=by rw [Ze hp.1,hs2]
  exact Call_ (ld_blt I hg hm boot_range (PyProof.Rows.callWith_type1 (thn (ha pos pins s σ H _ I h) fun us s1 ⟨vs,H1,I1,r1,q1⟩=>fin I1 r1 q1) (by rw [hs,hs2]) (by rw [hs2]; rfl)))
theorem WA {X:Cx}{sc:Scope}{N:List Str}{it:Expr}{as:List Expr} (K:Cxt X G F sc N) (h:YX G sc it=some as):∃ p pos,it=.Call (.Name "range" p) as [] pos∧Gl X "range"∧X.mg "range"=none∧((∃ a b,as=[a,b])∨∃ a b c,as=[a,b,c]):=by
 have go:∀ {f:Str},f = "range"∧ZA sc f=true∧Xd G f=true→Gl X "range"∧X.mg "range"=none:=fun {f} hc=>by
  obtain ⟨rfl,hg,hb⟩:=hc
  refine ⟨K.glb _ hg,?_⟩
  unfold Xd at hb
  split at hb
  ·rename_i q; exact K.gl _ _ q
  ·cases hb
 unfold YX at h
 split at h
 ·split at h
  ·rename_i hc
   cases h
   obtain ⟨g1,g2⟩:=go hc
   obtain ⟨rfl,_,_⟩:=hc
   exact ⟨_,_,rfl,g1,g2,.inl ⟨_,_,rfl⟩⟩
  ·cases h
 ·split at h
  ·rename_i hc
   cases h
   obtain ⟨g1,g2⟩:=go hc
   obtain ⟨rfl,_,_⟩:=hc
   exact ⟨_,_,rfl,g1,g2,.inr ⟨_,_,_,rfl⟩⟩
  ·cases h
 ·cases h
theorem Zc7 {n:Nat} (ihA:XR G F n) (ihS:ZS G F n) {X:Cx}{sc:Scope}{N:List Str} (K:CxtS X G F sc N) {c:CS}{x:Str}{it:Expr}{as:List Expr}{b:List Stmt}{p pos:Pos} (hr:YX G sc it=some as) (h:(match N.idxOf? x,cEs G n sc N as,cSs G n sc N b with
    | some i,some ci,some cb=>some (CS.for3 i ci cb)
    | _,_,_=>none)=some c):PS X (.For (.Name x p) it b [] pos) (tS X.K (ex F c)):=by
 split at h
 ·rename_i i ci cb hi hc hb
  cases h
  obtain ⟨p1,p2,rfl,hg,hm,hl⟩:=WA K.toCxt hr
  obtain ⟨A,_,pl,_⟩:=ihA X sc N K.toCxt as ci hc
  exact Z0 (ps_for (XE K) K.calm (Zar hg hm A pl hl) (Xe K hi) (ihS X sc N K _ cb hb) (Z5 rfl)) ZbN
 ·cases h
theorem Zc0 {n:Nat} (ihE:ZO G F n) (ihS:ZS G F n) {X:Cx}{sc:Scope}{N:List Str} (K:CxtS X G F sc N) {c:CS}{x:Str}{it:Expr}{b:List Stmt}{p pos:Pos} (h:(match N.idxOf? x,(match Z3 G sc it with
     | some a=>(cE G n sc N a).map fun c=>(true,c)
     | none=>(cE G n sc N it).map fun c=>(false,c)),cSs G n sc N b with
   | some i,some (r,ci),some cb=>some (CS.for1 i r ci cb)
   | _,_,_=>none)=some c):PS X (.For (.Name x p) it b [] pos) (tS X.K (ex F c)):=by
 split at h
 ·rename_i i r ci cb hi hr hb
  cases h
  split at hr
  ·rename_i a ha
   cases q:cE G n sc N a with
   | none=>rw [q] at hr; cases hr
   | some x=>
    rw [q] at hr
    cases hr
    obtain ⟨hp,pi⟩:=Wu K.toCxt ha (Zm q) (ihE X sc N K.toCxt a _ q).pe
    exact Z0 (ps_for (XE K) K.calm pi (Xe K hi) (ihS X sc N K _ cb hb) (Z5 hp)) Zaz
  ·cases q:cE G n sc N it with
   | none=>rw [q] at hr; cases hr
   | some x=>
    rw [q] at hr
    cases hr
    have A:=(ihE X sc N K.toCxt _ _ q).pe
    have hf:=Z5 (env:=X.env) (Zm q)
    exact Z0 (Zd3 (ps_for (XE K) K.calm (pi_tup A) (Xe K hi) (ihS X sc N K _ cb hb) hf) (ps_for (XE K) K.calm (pi_list A) (Xe K hi) (ihS X sc N K _ cb hb) hf)) Zb7
 ·cases h
theorem U9 {X:Cx}{pins:List (Addr×Obj)}{σ:L2.St}{H:Hp}{s:Shared}{h':Heap}{t':Nat}{wr:List Addr} (I:L2.Inv X pins σ H s) (hf:∀ b∈wr,FpOk X pins H b)
  (k:∀ b o,b∉wr→s.heap.get? b=some o→h'.get? b=some o):L2.Inv X pins σ H { s with heap:=h',toks:=t' }:=by
 have nw:∀ b u,H b=some u→b∉wr:=fun b u e hb=>by have:=(hf b hb).1; rw [e] at this; cases this
 refine I.step (g':=s.gens) (d':=s.drawn) (ch:=wr) (fun b hb=>⟨(hf b hb).2.2.2.1,(hf b hb).2.1,(hf b hb).2.2.2.2.1,(hf b hb).2.2.2.2.2⟩) (fun b o _ _ hc e _=>k b o hc e) (fun b o _ _ hc e _=>⟨o.slots,k b o hc e⟩)
  (fun b o _ e n=>n) (fun b o hc e=>⟨o,k b o hc e⟩) (fun b ys e=>e) (fun b o u e=>e) (fun b ps e=>⟨#[],by rw [e]; simp⟩) (fun m hm=>?_) (fun b u e=>?_) I.bare
 ·obtain ⟨o,es,ep,ho,r⟩:=hm
  exact ⟨o,es,ep,k _ o (fun z=>(hf _ z).2.1 rfl) ho,r⟩
 ·refine (I.hok b u e).stay (fun c v hc q=>k c v ?_ q) (fun c q=>q) fun c ys q=>q
  rcases hc with z | z
  ·rw [z]; exact nw b u e
  ·exact nw c _ z
theorem Vk {X:Cx}{pins:List (Addr×Obj)}{σ:L2.St}{H:Hp}{s:Shared}{h':Heap}{t':Nat}{wr:List Addr}{T:Addr}{xs:List V} (I:L2.Inv X pins σ H s) (hf:∀ b∈wr,FpOk X pins H b)
  (k:∀ b o,b∉wr→s.heap.get? b=some o→h'.get? b=some o) (hT:s.heap.objs.size≤T) (new:ObjOk X.prog X.w (upd H T (.tup xs)) h' T (.tup xs)):L2.Inv X pins σ (upd H T (.tup xs)) { s with heap:=h',toks:=t' }:=by
 have hn:H T=none:=I.hok.fresh hT
 have nT:∀ b u,s.heap.get? b=some u→b≠T:=fun b u e=>Nat.ne_of_lt (Nat.lt_of_lt_of_le (Heap.lt_size e) hT)
 have nw:∀ b u,H b=some u→b∉wr:=fun b u e hb=>by have:=(hf b hb).1; rw [e] at this; cases this
 refine I.step (g':=s.gens) (d':=s.drawn) (ch:=wr) (fun b hb=>⟨(hf b hb).2.2.2.1,(hf b hb).2.1,(hf b hb).2.2.2.2.1,(hf b hb).2.2.2.2.2⟩) (fun b o _ _ hc e _=>k b o hc e) (fun b o _ _ hc e _=>⟨o.slots,k b o hc e⟩)
  (fun b o _ e n=>by rw [upd_ne (nT b o e)]; exact n) (fun b o hc e=>⟨o,k b o hc e⟩) (fun b ys e=>by rw [upd_ne (ne_of_none e hn)]; exact e) (fun b o u e=>by rw [upd_ne (ne_of_none e hn)]; exact e) (fun b ps e=>⟨#[],by rw [upd_ne (ne_of_none e hn),e]; simp⟩) (fun m hm=>?_) (fun b u e=>?_) I.bare
 ·obtain ⟨o,es,ep,ho,r⟩:=hm
  exact ⟨o,es,ep,k _ o (fun z=>(hf _ z).2.1 rfl) ho,r⟩
 ·by_cases hb:b=T
  ·subst hb; rw [upd_same] at e; cases e; exact new
  ·rw [upd_ne hb] at e
   refine (I.hok b u e).stay (fun c v hc q=>k c v ?_ q) (fun c q=>by rw [upd_ne (ne_of_none q hn)]; exact q) fun c ys q=>by rw [upd_ne (ne_of_none q hn)]; exact q
   rcases hc with z | z
   ·rw [z]; exact nw b u e
   ·exact nw c _ z
theorem ZdC {X:Cx}{pins:List (Addr×Obj)}{σ:L2.St}{H:Hp}{s:Shared}{a:Addr}{xs ys:List V} (I:L2.Inv X pins σ H s) (h1:SqL X.K H a xs) (h2:SqL X.K H a ys):ys=xs:=by
 obtain ⟨i1,r1,⟨o1,n1,g1,_,_,d1⟩,_⟩:=I.list h1
 obtain ⟨i2,r2,⟨o2,n2,g2,_,_,d2⟩,_⟩:=I.list h2
 rw [g1] at g2
 cases g2
 rw [d1] at d2
 have e:i1.toArray=i2.toArray:=by injection d2
 have e:i1=i2:=by simpa using e
 subst e
 exact Vals.inj r2 r1
theorem Zcc {a b:String}{p:Prop} (h:Value.type a=Value.type b) (n:¬a=b):p:=by
 injection h with h
 exact absurd h n
section
variable {prog:Program}{w:World}{A:Around}{E:Value→Shared→Prop}{s:Shared}
open Sem (wp)
open AutoSeq1 (wpAny_loadPart')
theorem Qb {it l:Addr}{i:Nat}{items:Array Value}{Q:Value→Shared→Prop} (hh:A.handled=none) (hit:s.heap.IsTupleIter it l i) (hl:s.heap.IsTuple l items)
  (hQ:∀ x h',items[i]?=some x→h'.IsTupleIter it l (i+1)→Heap.SameBut it s.heap h'→Q x { s with heap:=h' })
  (hE:items[i]?=none→∀ h' e,Heap.ExtBut it s.heap h'→(∃ o,h'.get? e=some o∧o.cls=.type "StopIteration")→E (.ref e) { s with heap:=h' }) :
  wpAny (model prog w) A (Builtin.SmallTypes.nextOf (.ref it)) Q E s:=by
 obtain ⟨o,ho,hc,hd⟩:=id hit
 obtain ⟨ol,hol,_,nl,hdl⟩:=hl
 unfold Builtin.SmallTypes.nextOf
 refine wpAny_bind (wpAny_callSpecial?_slot (name:=Str.ofString "__next__") hit.typeIs PySem.F.slot_tuple_iterator_next
  (wpAny_call_entry PySem.F.slot_tuple_iterator_next hit.typeIs PySem.F.entry_tuple_iterator_next ?_ (PySem.F.args_tuple_iterator_next_1 _)))
 show wpAny _ _ (field (.ref it) 0 >>= _) _ _ s
 refine wpAny_bind (wpAny_field ho hd (x:=.ref l) rfl ?_)
 show wpAny _ _ (if (Value.ref l==Value.none)=true then _ else _) _ _ s
 rw [if_neg (show ¬((Value.ref l==Value.none)=true) from Bool.false_ne_true)]
 show wpAny _ _ (field (.ref it) 1 >>= _) _ _ s
 refine wpAny_bind (wpAny_field ho hd (x:=.int i 0) rfl ?_)
 show wpAny _ _ (seqItems? (.ref l) >>= _) _ _ s
 refine wpAny_bind (wpAny_seqItems hol hdl ?_)
 cases hx:items[i]? with
 | some x=>
  simp only [Int.toNat_natCast,hx]
  refine wpAny_bind (wpAny_setField ho hd (by simp) (wpAny_pure ⟨x,rfl,wpAny_pure (hQ _ _ hx ?_ (Heap.SameBut.update ..))⟩))
  exact ⟨_,Heap.get?_update_self _ ho (Obj.isFreed_of_fields (Obj.data_mapFields hd _)),(Obj.cls_mapFields ..).trans hc,by
   rw [Obj.data_mapFields hd]; simp [rawInt]⟩
 | none=>
  simp only [Int.toNat_natCast,hx]
  refine wpAny_bind (wpAny_rule (wpAny_bind (wpAny_setField ho hd (by simp) ?_)))
  show wpAny _ _ (newExc (.type "StopIteration") [] >>= _) _ _ _
  refine wpAny_bind ?_
  simp only [newExc,newTuple]
  refine wpAny_bind (wpAny_newObj_type ?_ (by size_fits))
  refine wpAny_bind (m:=firstArgMember _ _) (wpAny_of_eq (a:=Value.none) (by first | rfl | (simp only [firstArgMember]; rfl)) ?_)
  refine wpAny_newObj_type ?_ (by size_fits)
  simp only [raiseNew]
  refine wpAny_bind (wpAny_handled ?_)
  first | rw [show A.in1.handled=none from hh] | rw [hh]
  refine wpAny_bind (wpAny_pure (wpAny_throw ?_))
  exact hE hx _ _ (((Heap.SameBut.update ..).extBut.push _).push _) ⟨_,Heap.get?_push_size _ rfl,rfl⟩
theorem Zau (hh:A.handled=none) (it l:Addr) (hne:l≠it) (items:Array Value) :
  Draws prog w A it [it,l] items.size (fun i v=>items[i]?=some v) (fun i h=>h.IsTupleIter it l i∧h.IsTuple l items) where
 live:=fun _ _ st=>let ⟨o,ho,_⟩:=st.1; ⟨o,ho⟩
 frame:=fun _ _ _ st hk=>⟨st.1.at fun o e=>hk it (by simp) o e,st.2.at fun o e=>hk l (by simp) o e⟩
 item:=fun i s Q E hi st hQ=>Qb hh st.1 st.2 (fun x h' e hit' hs'=>hQ x h' s.toks e ⟨hit',st.2.extBut hs'.extBut hne⟩ hs') fun e=>absurd e (by simp [hi])
 done:=fun s Q E st hE=>Qb hh st.1 st.2 (fun x h' e=>absurd e (by simp)) fun _=>hE
theorem WS (l:Addr) (items:Array Value) (n:Nat) (dct:Option Addr) (sl:Array (Option Value)) :
  Meets (Builtin.«enumerate.__new__» ⟨[.type "enumerate",.ref l],[]⟩) (fun _ R s=>s.heap.get? l=some { cls:=.type "tuple",dict:=dct,data:=.seq items n,slots:=sl } ∧
   R (.ok (.ret (.ref (s.heap.push { cls:=.type "tuple_iterator",data:=.fields #[.ref l,.int 0 0] }).objs.size)))
    { s with heap:=(s.heap.push { cls:=.type "tuple_iterator",data:=.fields #[.ref l,.int 0 0] }).push { cls:=.type "enumerate",data:=.fields #[.none,.bool false,.ref s.heap.objs.size,rawInt 0,.none,.none] } }):=
 .of_wp fun prog w A R s h=>by
  obtain ⟨hp,g,d,tk,os⟩:=s; obtain ⟨hl,h⟩:=h
  have hsub:=sub_enumerate
  have hL:Heap.IsTuple (Shared.heap ⟨hp,g,d,tk,os⟩) l items:=⟨_,hl,rfl,n,rfl⟩
  wp_walk using wpAny_loadPart' hl
  refine wpAny_stack_any fun st=>wpAny_pure ?_
  split
  ·rename_i c _ _ _ _ _
   cases (c==Value.type "enumerate")
   ·wp_walk using wpAny_loadPart' hl,wpAny_pyIter_tuple hL
    exact ⟨_,rfl,h⟩
   ·wp_walk using wpAny_loadPart' hl,wpAny_pyIter_tuple hL
    exact ⟨_,rfl,h⟩
  ·wp_walk using wpAny_loadPart' hl,wpAny_pyIter_tuple hL
   exact ⟨_,rfl,h⟩
theorem Vh {l:Addr}{items:Array Value}{Q:Value→Shared→Prop} (hL:s.heap.IsTuple l items)
  (h:∀ h',IsEnum h' (s.heap.objs.size+1) s.heap.objs.size 0 .none→h'.IsTupleIter s.heap.objs.size l 0→h'.objs.size=s.heap.objs.size+2→
   (∀ b o,s.heap.get? b=some o→h'.get? b=some o)→Q (.ref (s.heap.objs.size+1)) { s with heap:=h' }) :
  wpAny (model prog w) A (call (.type "enumerate") [.ref l]) Q E s:=by
 obtain ⟨⟨c,dct,dt,sl⟩,hl,hc,n,hd⟩:=hL
 replace hc:c=.type "tuple":=hc
 replace hd:dt=.seq items n:=hd
 subst hc hd
 refine callType_new PySem.F.called_enumerate (by decide) (PySem.F.typeCall_enumerate_1 _) (PySem.F.newCall_enumerate_1 _) (fun obj=>PySem.F.args_object_init_2 obj _) PySem.F.entry_enumerate_new
  (WS l items n dct sl) ⟨hl,?_⟩
 have hz:(s.heap.push { cls:=.type "tuple_iterator",data:=.fields #[.ref l,.int 0 0] }).objs.size=s.heap.objs.size+1:=Heap.size_push ..
 show _∧_
 rw [hz]
 have he:IsEnum ((s.heap.push { cls:=.type "tuple_iterator",data:=.fields #[.ref l,.int 0 0] }).push
   { cls:=.type "enumerate",data:=.fields #[.none,.bool false,.ref s.heap.objs.size,rawInt 0,.none,.none] }) (s.heap.objs.size+1) s.heap.objs.size 0 .none:=by
  have:=Heap.get?_push_size (s.heap.push { cls:=.type "tuple_iterator",data:=.fields #[.ref l,.int 0 0] })
   (o:={ cls:=.type "enumerate",data:=.fields #[.none,.bool false,.ref s.heap.objs.size,rawInt 0,.none,.none] }) rfl
  rw [hz] at this; exact this
 refine ⟨⟨_,he,rfl⟩,h _ he ⟨_,Heap.get?_push_of_some _ (Heap.get?_push_size _ rfl),rfl,rfl⟩ (by rw [Heap.size_push,hz]) fun b o x=>Heap.get?_push_of_some _ (Heap.get?_push_of_some _ x)⟩
end
noncomputable def Ite (sq:Hp→List V→Prop):It:=
 ⟨fun i H=>∃ xs x,sq H xs∧xs[i]?=some x,fun i H v H'=>∃ T x,v=.ref T∧H T=none∧H'=upd H T (.tup [.int (i:Int),x])∧∀ xs,sq H xs→xs[i]?=some x,fun i H=>∃ xs,sq H xs∧xs.length=i⟩
noncomputable def ZaJ (K:PySem.W.Frag) (ta:TA):TI:=fun σ H R=>ta σ H fun vs H1=>∃ a,vs=[.ref a]∧(((∃ xs,SqL K H1 a xs)∧R (Ite fun H=>SqL K H a) H1)∨((∃ xs,SqT K H1 a xs)∧R (Ite fun H=>SqT K H a) H1))
theorem VH {P:Program}{w:World}{K:PySem.W.Frag}{elts:List Expr}{kk:Nat}{pos:Pos}{sq:Hp→List V→Prop}{it1:Nat→Heap→Prop} (e it a:Addr) (d:e≠it)
  (hi:∀ i h,it1 i h→∃ o,h.get? it=some o∧∀ v,o.data≠.cell v) (hk:∀ i h h',it1 i h→(∀ o,h.get? it=some o→h'.get? it=some o)→it1 i h')
  (hD:∀ (X:Cx),X.prog=P→X.w=w→X.K=K→X.calm=true→∀ (pins:List (Addr×Obj)) (s:Shared) (σ:L2.St) (H:Hp) (i:Nat) (xs:List V),L2.Inv X pins σ H s→(∃ old,IsEnum s.heap e it i old)→it1 i s.heap→sq H xs→
   (∀ ys,sq H ys→ys=xs)∧∃ (its:List Value) (ob:Heap→Prop),Vals xs its∧a≠e∧ob s.heap∧Draws P w X.A.in1 it [it,a] its.toArray.size (fun i v=>its.toArray[i]?=some v) (fun i h=>it1 i h∧ob h)) :
  Turn P w K (.Tuple elts kk pos) (Ite sq) [e,it] e (fun i h=>(∃ old,IsEnum h e it i old)∧it1 i h) where
 mem:=by simp
 obj:=fun i h st c hc=>by
  obtain ⟨⟨old,he⟩,h1⟩:=st
  simp only [List.mem_cons,List.not_mem_nil,or_false] at hc
  rcases hc with rfl | rfl
  ·exact ⟨_,he,fun v q=>by cases (show Data.fields _=Data.cell v from q)⟩
  ·exact hi i h h1
 keep:=fun i h h' st k=>by
  obtain ⟨⟨old,he⟩,h1⟩:=st
  exact ⟨⟨old,k e (by simp) _ he⟩,hk i h h' h1 fun o g=>k it (by simp) o g⟩
 item:=by
  intro X hP hw hK hc i pins s σ H E I hf st hg
  obtain ⟨xs,x,hs,ex⟩:=hg
  obtain ⟨hone,its,ob,r,ne,o0,D⟩:=hD X hP hw hK hc pins s σ H i xs I st.1 st.2 hs
  subst hP hw hK
  have W:=WalksT.enumerateD D e d (by simp only [List.mem_cons,List.not_mem_nil,or_false]; exact fun q=>q.elim d fun q=>ne q.symm) (by simp)
  have l1:=r.length
  have ix:i < xs.length:=(List.getElem?_eq_some_iff.mp ex).1
  refine W.item i s _ _ (by simp; omega) ⟨st.1,st.2,o0⟩ fun T vals h' tk hv hT tup mid k1=>?_
  obtain ⟨t,u,eu,rfl⟩:=hv
  refine ⟨.ref T,rfl,W.go elts kk pos i T _ _ _ mid fun h2' st2 k2=>?_⟩
  have nT:=W.apart i T h' mid
  have ru:RelV x u:=by
   obtain ⟨u',e1,e2⟩:=r.get ex
   have:its[i]?=some u:=by simpa using eu
   rw [this] at e1; cases e1; exact e2
  have tup2:h2'.IsTuple T #[.int i t,u]:=tup.at fun o g=>k2 T o nT g
  have I2:L2.Inv X pins σ (upd H T (.tup [.int (i:Int),x])) { s with heap:=h2',toks:=tk }:=Vk (wr:=[e,it]) I hf (fun c o hcn g=>k2 c o hcn (k1 c o hcn g)) hT ⟨show 2≤sizeLine by decide,[.int i t,u],.cons ⟨t,rfl⟩ (.cons ru .nil),tup2⟩
  refine ⟨.ref T,_,I2,rfl,⟨T,x,rfl,I.hok.fresh hT,rfl,fun xs' q=>by rw [hone _ q]; exact ex⟩,⟨st2.1,st2.2.1⟩,fun c hcm=>?_⟩
  have:c≠T:=fun q=>by
   have lt:∀ {o},s.heap.get? c=some o→False:=fun g=>absurd (Heap.lt_size g) (Nat.not_lt.mpr (by rw [q]; exact hT))
   obtain ⟨⟨_,he⟩,h1⟩:=st
   obtain ⟨_,g,_⟩:=hi _ _ h1
   simp only [List.mem_cons,List.not_mem_nil,or_false] at hcm
   rcases hcm with rfl | rfl
   ·exact lt he
   ·exact lt g
  rw [upd_ne this]
  exact (hf c hcm).1
 done:=by
  intro X hP hw hK hc i pins s σ H E I hf st hg
  obtain ⟨xs,hs,hle⟩:=hg
  obtain ⟨hone,its,ob,r,ne,o0,D⟩:=hD X hP hw hK hc pins s σ H i xs I st.1 st.2 hs
  subst hP hw hK
  have W:=WalksT.enumerateD D e d (by simp only [List.mem_cons,List.not_mem_nil,or_false]; exact fun q=>q.elim d fun q=>ne q.symm) (by simp)
  have l1:=r.length
  have e1:i=its.toArray.size:=by simp; omega
  subst e1
  exact W.done s _ _ ⟨st.1,st.2,o0⟩ fun h' tk k=>⟨rfl,U9 (wr:=[e,it]) I hf k⟩
 self:=fun _ _ _ _ _ st h=>let ⟨⟨_,he⟩,_⟩:=st; wpAny_pyIter_enum he h
theorem U6 {h:Heap}{e it:Addr}{i:Int}{old:Value}{a:Addr}{o:Obj}{n:String} (he:IsEnum h e it i old) (g:h.get? a=some o) (c:o.cls=.type n) (hn:¬n = "enumerate"):a≠e:=fun q=>by
 subst q
 have he:h.get? a=some _:=he
 rw [g] at he; cases he; exact Zcc c fun z=>hn z.symm
theorem U2 {h:Heap}{a b:Addr}{o u:Obj}{n m:String} (g:h.get? a=some o) (c:o.cls=.type n) (g2:h.get? b=some u) (c2:u.cls=.type m) (hn:¬n=m):a≠b:=fun q=>by
 subst q
 rw [g] at g2; cases g2; rw [c] at c2; exact Zcc c2 hn
theorem Zdd:bootBuiltins "enumerate"=some (.type "enumerate"):=by decide +kernel
theorem ZcZ {X:Cx}{elts:List Expr}{kk:Nat}{tp:Pos}{x:Expr}{ta:TA}{p pos:Pos} (hg:Gl X "enumerate") (hm:X.mg "enumerate"=none) (ha:PA X [x] ta) (hs:starEach [x] X.env=[(false,eval x X.env)]):PI X (.Tuple elts kk tp) (.Call (.Name "enumerate" p) [x] [] pos) (ZaJ X.K ta):=by
 intro pins s σ H R I h
 refine Call_ (ld_blt I hg hm Zdd (PyProof.Rows.callWith_type1 (thn (ha pos pins s σ H _ I h) fun us s1 ⟨vs,H1,I1,r1,q1⟩=>?_) hs rfl))
 obtain ⟨a,rfl,q⟩:=q1
 have fo:∀ c∈[s1.heap.objs.size+1,s1.heap.objs.size],FpOk X pins H1 c:=fun c hcm=>by
  have hc:s1.heap.objs.size≤c:=by
   simp only [List.mem_cons,List.not_mem_nil,or_false] at hcm
   rcases hcm with rfl | rfl
   ·exact Nat.le_add_right _ _
   ·exact Nat.le_refl _
  exact I1.fpOk hc (I1.hok.fresh hc)
 cases r1 with
 | cons r rr=>
  cases rr
  cases r
  rcases q with ⟨⟨xs,sq⟩,q⟩ | ⟨⟨xs,sq⟩,q⟩
  ·obtain ⟨its,_,p1,_⟩:=I1.list sq
   refine call_enumerate_list p1.isList fun h' he h1 hsz k=>wpAny_pyIter_enum he ?_
   refine ⟨s1.heap.objs.size+1,[s1.heap.objs.size+1,s1.heap.objs.size],_,_,H1,rfl,I1.kept (t':=s1.toks) k,VH (it1:=fun i h=>h.IsListIter _ a i) _ _ a (Nat.succ_ne_self _) (fun i h st=>?_) (fun i h h' st k=>st.at k) (fun X hP hw hK hc pins s σ H i xs I he h1 sq=>?_),⟨⟨_,he⟩,h1⟩,fo,q⟩
   ·obtain ⟨o,g,_,f⟩:=st
    exact ⟨o,g,fun v q=>by rw [f] at q; cases q⟩
   ·rw [←hP,←hw]
    rw [←hK] at sq ⊢
    obtain ⟨its,r,p,_⟩:=I.list sq
    obtain ⟨⟨_,he⟩,⟨o2,g2,c2,_⟩⟩:=And.intro he h1
    obtain ⟨o,g,c,_⟩:=p.isList
    exact ⟨fun ys hy=>ZdC I sq hy,its,fun h=>h.IsList a its.toArray,r,U6 he g c (by decide),p.isList,Draws.list (show X.A.in1.handled=none from I.ok.hd hc) _ a (U2 g c g2 c2 (by decide)) its.toArray⟩
  ·obtain ⟨its,_,p1,_⟩:=I1.tuple sq
   refine Vh (show s1.heap.IsTuple a its.toArray from p1) fun h' he h1 hsz k=>wpAny_pyIter_enum he ?_
   refine ⟨s1.heap.objs.size+1,[s1.heap.objs.size+1,s1.heap.objs.size],_,_,H1,rfl,I1.kept (t':=s1.toks) k,VH (it1:=fun i h=>h.IsTupleIter _ a i) _ _ a (Nat.succ_ne_self _) (fun i h st=>?_) (fun i h h' st k=>st.at k) (fun X hP hw hK hc pins s σ H i xs I he h1 sq=>?_),⟨⟨_,he⟩,h1⟩,fo,q⟩
   ·obtain ⟨o,g,_,f⟩:=st
    exact ⟨o,g,fun v q=>by rw [f] at q; cases q⟩
   ·rw [←hP,←hw]
    rw [←hK] at sq ⊢
    obtain ⟨its,r,p,_⟩:=I.tuple sq
    have p:s.heap.IsTuple a its.toArray:=p
    obtain ⟨⟨_,he⟩,⟨o2,g2,c2,_⟩⟩:=And.intro he h1
    obtain ⟨o,g,c,_⟩:=id p
    exact ⟨fun ys hy=>I.tuple_inj hy sq,its,fun h=>h.IsTuple a its.toArray,r,U6 he g c (by decide),p,Zau (show X.A.in1.handled=none from I.ok.hd hc) _ a (U2 g c g2 c2 (by decide)) its.toArray⟩
theorem VR:∀ {xs:List D}{k i:Nat}{x:D},xs[i]?=some x→(YZ k xs)[i]?=some (.int ((k+i:Nat):Int),x)
 | [],_,_,_,h=>nomatch h
 | x :: xs,k,0,_,h=>by cases h; rfl
 | x :: xs,k,i+1,y,h=>by
  show (YZ (k+1) xs)[i]?=_
  rw [VR (show xs[i]?=some y from h),show k+1+i=k+(i+1) by omega]
theorem We:∀ {xs:List D}{k:Nat},(YZ k xs).length=xs.length
 | [],_=>rfl
 | x :: xs,k=>congrArg (·+1) We
theorem Zb9 {K:PySem.W.Frag}{fi:Ev}{f:Ex}{i j:Nat} (E:Ends) (σ:L2.St) (H:Hp) (h:tS K (VO i j fi f) E σ H):tFor (ZaJ K (tCons (tE K fi) tNil)) (gTup K 2 (gCons (gName i) (gCons (gName j) gNil))) (tS K f) E σ H:=by
 obtain ⟨ad,ρ,st,r,st',En,S,e,p⟩:=Yl h
 unfold VO at e
 split at e
 ·rename_i x st1 q1
  split at e
  ·rename_i xs ok hw
   generalize hB:(fun (x y:D) (ρ:Env) (s:Za)=>f (ZB (ZB ρ i x) j y) s)=B at e
   have core:∀ {sq:Hp→List V→Prop}{ad1:List Addr}{H1:Hp} (Good:List Addr→Hp→Prop),(∀ ad H ad' H',Ext ad H ad' H'→Good ad H→Good ad' H')→Good ad1 H1→
     (∀ ad H st,Good ad H→StOk K ad H st→ok st→∃ vs,Dens K ad H vs xs∧sq H vs)→EnvOk K ad1 H1 σ ρ→StOk K ad1 H1 st1→PostS K ad1 H1 r st' E→
     ∃ W:Nat→Nat→L2.St→Hp→Prop,(∃ m,W 0 m σ H1)∧∀ i' m σ H,W i' m σ H→((Ite sq).stop i' H∧E.nx σ H)∨((Ite sq).go i' H∧∃ N:L2.St→Hp→Prop,(∀ σ' H',N σ' H'→∃ m',m' < m∧W (i'+1) m' σ' H')∧∀ x H',(Ite sq).yld i' H x H'→gTup K 2 (gCons (gName i) (gCons (gName j) gNil)) x σ H' fun σ2 H2=>tS K f { E with nx:=N,ct:=N,bk:=E.nx } σ2 H2):=fun {sq ad1 H1} Good gm g1 hv E1 S1 p1=>by
    refine ⟨fun k m σ' H'=>k+m=xs.length∧∃ ad2 ρ2 st2,(EnvOk K ad2 H' σ' ρ2∧StOk K ad2 H' st2∧Good ad2 H')∧Yr ok B ((YZ 0 xs).drop k) ρ2 st2=some (r,st')∧PostS K ad2 H' r st' E,⟨xs.length,by omega,ad1,ρ,st1,⟨E1,S1,g1⟩,e,p1⟩,?_⟩
    rintro k m σ' H' ⟨hkm,ad2,ρ2,st2,⟨En2,S2,g2⟩,e2,p2⟩
    have ok2:ok st2:=by
     unfold Yr at e2
     split at e2
     ·split at e2
      ·assumption
      ·cases e2
     ·split at e2
      ·assumption
      ·cases e2
    obtain ⟨us2,ru2,squ2⟩:=hv ad2 H' st2 g2 S2 ok2
    by_cases hk:xs.length≤k
    ·rw [List.drop_eq_nil_of_le (by rw [We]; exact hk)] at e2
     unfold Yr at e2
     rw [if_pos ok2] at e2
     cases e2
     exact .inl ⟨⟨us2,squ2,by rw [ru2.length]; omega⟩,p2 σ' ad2 H' (Ext.refl _ _) S2 En2⟩
    ·have hk':k < xs.length:=by omega
     have hg:=List.getElem?_eq_getElem hk'
     have hq:(YZ 0 xs).drop k=(.int (k:Int),xs[k]) :: (YZ 0 xs).drop (k+1):=by
      have hl:k < (YZ 0 xs).length:=by rw [We]; exact hk'
      rw [List.drop_eq_getElem_cons hl]
      have z:=VR (k:=0) hg
      rw [List.getElem?_eq_getElem hl,Nat.zero_add] at z
      rw [Option.some.inj z]
     rw [hq] at e2
     unfold Yr at e2
     rw [if_pos ok2] at e2
     obtain ⟨w1,ew1,dw1⟩:=ru2.get hg
     generalize xs[k]=d1 at e2 dw1
     refine .inr ⟨⟨us2,w1,squ2,ew1⟩,fun σ3 H3=>(k+1)+(m - 1)=xs.length∧∃ ad3 ρ3 st3,(EnvOk K ad3 H3 σ3 ρ3∧StOk K ad3 H3 st3∧Good ad3 H3)∧Yr ok B ((YZ 0 xs).drop (k+1)) ρ3 st3=some (r,st')∧PostS K ad3 H3 r st' E,fun σ3 H3 h3=>⟨m - 1,by omega,h3⟩,fun x H3 hx=>?_⟩
     obtain ⟨pt,y1,rfl,hpt,rfl,hy1⟩:=hx
     have z1:=hy1 us2 squ2
     rw [ew1] at z1; cases z1
     have xt:Ext ad2 H' ad2 (upd H' pt (.tup [.int (k:Int),w1])):=Ext.laid hpt
     have En3:=((En2.mono xt).set i (show Den K ad2 (upd H' pt (.tup [.int (k:Int),w1])) (.int (k:Int)) (.int (k:Int)) from .int _)).set j (dw1.mono xt)
     have S3:StOk K ad2 (upd H' pt (.tup [.int (k:Int),w1])) st2:=S2.laid hpt
     have fin:∀ {rr:Fl}{s3:Za}{E':Ends},B (.int (k:Int)) d1 ρ2 st2=some (rr,s3)→PostS K ad2 (upd H' pt (.tup [.int (k:Int),w1])) rr s3 E'→gTup K 2 (gCons (gName i) (gCons (gName j) gNil)) (.ref pt) σ' (upd H' pt (.tup [.int (k:Int),w1])) fun σ2 H2=>tS K f E' σ2 H2:=fun {rr s3 E'} q pp=>by
      rw [←hB] at q
      exact ⟨pt,_,rfl,SqT.of upd_same,rfl,_,_,rfl,_,_,rfl,rfl,Yg En3 S3 q pp⟩
     have nxt:∀ {ρ3:Env}{st3:Za} (e3:Yr ok B ((YZ 0 xs).drop (k+1)) ρ3 st3=some (r,st')) (σ4:L2.St) (ad4:List Addr) (H4:Hp),Ext ad2 (upd H' pt (.tup [.int (k:Int),w1])) ad4 H4→StOk K ad4 H4 st3→EnvOk K ad4 H4 σ4 ρ3→(k+1)+(m - 1)=xs.length∧∃ ad3 ρ3 st3,(EnvOk K ad3 H4 σ4 ρ3∧StOk K ad3 H4 st3∧Good ad3 H4)∧Yr ok B ((YZ 0 xs).drop (k+1)) ρ3 st3=some (r,st')∧PostS K ad3 H4 r st' E:=fun {ρ3 st3} e3 σ4 ad4 H4 x4 S4 E4=>
      ⟨by omega,ad4,ρ3,st3,⟨E4,S4,gm _ _ _ _ (xt.trans x4) g2⟩,e3,p2.later (xt.trans x4)⟩
     split at e2
     ·rename_i ρ3 st3 q
      exact fin q (nxt e2)
     ·rename_i ρ3 st3 q
      exact fin q (nxt e2)
     ·rename_i ρ3 st3 q
      cases e2
      exact fin q fun σ4 ad4 H4 x4 S4 E4=>p2 σ4 ad4 H4 (xt.trans x4) S4 E4
     ·rename_i d st3 q
      cases e2
      exact fin q (p2.later xt)
     ·cases e2
   refine ⟨ad,ρ,st,x,st1,En,S,q1,fun v ad1 H1 x1 S1 d1=>?_⟩
   cases x with
   | tup ys=>
    cases hw
    obtain ⟨a,vs,rfl,ha,rv⟩:=d1.ofTup
    exact ⟨a,rfl,.inr ⟨⟨vs,ha.sq⟩,core (fun ad H=>TupAt K H a vs∧Dens K ad H vs xs) (fun _ _ _ _ x g=>⟨g.1.mono x,g.2.mono x⟩) ⟨ha,rv⟩ (fun ad H st g _ _=>⟨vs,g.2,g.1.sq⟩) (En.mono x1) S1 (p.later x1)⟩⟩
   | lst l=>
    have hw:(match st1[l]? with
     | some c=>some (c.2,fun s=>s[l]?=some c)
     | none=>none)=some (xs,ok):=hw
    cases hc:st1[l]? with
    | none=>rw [hc] at hw; cases hw
    | some c=>
     rw [hc] at hw
     cases hw
     obtain ⟨a,rfl,ha⟩:=d1.ofLst
     obtain ⟨vs,rv,sq⟩:=S1.list ha (show st1[l]?=some (c.1,c.2) from hc)
     exact ⟨a,rfl,.inl ⟨⟨vs,sq⟩,core (fun ad _=>ad[l]?=some a) (fun _ _ _ _ x g=>x.pre _ _ g) ha (fun ad H st g S e=>S.list g (show st[l]?=some (c.1,c.2) from e)) (En.mono x1) S1 (p.later x1)⟩⟩
   | _=>cases hw
  ·cases e
 ·cases e
theorem QB {X:Cx}{sc:Scope}{N:List Str}{it a:Expr}{elts:List Expr}{kk:Nat}{tp:Pos}{x:CE} (K:Cxt X G F sc N) (h:XT G sc it=some a) (hp:Zh a=true) (A:PE X a (tE X.K (ev F x))):Zh it=true∧PI X (.Tuple elts kk tp) it (ZaJ X.K (tCons (tE X.K (ev F x)) tNil)):=by
 unfold XT at h
 split at h
 ·split at h
  ·rename_i hc
   obtain ⟨rfl,hg,hb⟩:=hc
   cases h
   have hm:X.mg "enumerate"=none:=by
    unfold Xd at hb
    split at hb
    ·rename_i q; exact K.gl _ _ q
    ·cases hb
   exact ⟨rfl,ZcZ (K.glb _ hg) hm (pa1 hp A) (Ze hp)⟩
  ·cases h
 ·cases h
theorem Zdp {n:Nat} (ihA:XR G F n) (ihS:ZS G F n) {X:Cx}{sc:Scope}{N:List Str} (K:CxtS X G F sc N) {c:CS}{x y:Str}{it:Expr}{as:List Expr}{b:List Stmt}{p p2 pos tp:Pos}{ctx:Nat} (hz:UA G sc it=some as) (h:(match N.idxOf? x,N.idxOf? y,cEs G n sc N as,cSs G n sc N b with
    | some i,some j,some ci,some cb=>if i=j then none else some (CS.forP i j ci cb)
    | _,_,_,_=>none)=some c):PS X (.For (.Tuple [.Name x p,.Name y p2] ctx tp) it b [] pos) (tS X.K (ex F c)):=by cases hz
theorem ZdU {n:Nat} (ihE:ZO G F n) (ihS:ZS G F n) {X:Cx}{sc:Scope}{N:List Str} (K:CxtS X G F sc N) {c:CS}{x y:Str}{it e:Expr}{b:List Stmt}{p p2 pos tp:Pos}{ctx:Nat} (hz:V8 G sc it=some e) (h:(match N.idxOf? x,N.idxOf? y,cE G n sc N e,cSs G n sc N b with
    | some i,some j,some ci,some cb=>if i=j then none else some (CS.forE i j ci cb)
    | _,_,_,_=>none)=some c):PS X (.For (.Tuple [.Name x p,.Name y p2] ctx tp) it b [] pos) (tS X.K (ex F c)):=by
 split at h
 ·rename_i i j ci cb hi hj hc hb
  split at h
  ·cases h
  ·cases h
   obtain ⟨pl,A⟩:=QB (elts:=[.Name x p,.Name y p2]) (kk:=ctx) (tp:=tp) K.toCxt hz (Zm hc) (ihE X sc N K.toCxt _ ci hc).pe
   exact Z0 (ps_for (XE K) K.calm A (pg_tup K.calm (pgs_cons (Xe K hi) (pgs_cons (Xe K hj) pgs_nil))) (ihS X sc N K _ cb hb) (Z5 pl)) Zb9
 ·cases h
theorem Zdy {n:Nat} (ihE:ZO G F n) (ihS:ZS G F n) {X:Cx}{sc:Scope}{N:List Str} (K:CxtS X G F sc N) {c:CS}{x y z:Str}{it:Expr}{b:List Stmt}{p p2 p3 pos tp:Pos}{ctx:Nat} (h:(match N.idxOf? x,N.idxOf? y,N.idxOf? z,cE G n sc N it,cSs G n sc N b with
   | some i,some j,some l,some ci,some cb=>some (CS.for4 i j l ci cb)
   | _,_,_,_,_=>none)=some c):PS X (.For (.Tuple [.Name x p,.Name y p2,.Name z p3] ctx tp) it b [] pos) (tS X.K (ex F c)):=by
 split at h
 ·rename_i i j l ci cb hi hj hl hc hb
  cases h
  exact fun pins s σ H D I q=>by
   obtain ⟨_,_,_,_,_,_,_,e,_⟩:=Yl q
   cases e
 ·cases h
theorem ZcH {n:Nat} (ihE:ZO G F n) (ihS:ZS G F n) {X:Cx}{sc:Scope}{N:List Str} (K:CxtS X G F sc N) {c:CS}{x y:Str}{it:Expr}{b:List Stmt}{p p2 pos tp:Pos}{ctx:Nat} (h:(match N.idxOf? x,N.idxOf? y,cE G n sc N it,cSs G n sc N b with
   | some i,some j,some ci,some cb=>if i=j then none else some (CS.for2 i j ci cb)
   | _,_,_,_=>none)=some c):PS X (.For (.Tuple [.Name x p,.Name y p2] ctx tp) it b [] pos) (tS X.K (ex F c)):=by
 split at h
 ·rename_i i j ci cb hi hj hc hb
  split at h
  ·cases h
  ·cases h
   have A:=(ihE X sc N K.toCxt _ ci hc).pe
   have hf:=Z5 (env:=X.env) (Zm hc)
   exact Z0 (Zd3 (ps_for (XE K) K.calm (pi_tup A) (pg_tup K.calm (pgs_cons (Xe K hi) (pgs_cons (Xe K hj) pgs_nil))) (ihS X sc N K _ cb hb) hf) (ps_for (XE K) K.calm (pi_list A) (pg_tup K.calm (pgs_cons (Xe K hi) (pgs_cons (Xe K hj) pgs_nil))) (ihS X sc N K _ cb hb) hf)) Zbk
 ·cases h
theorem Zfw {n:Nat} (ihE:ZO G F n) (ihS:ZS G F n) {X:Cx}{sc:Scope}{N:List Str} (K:CxtS X G F sc N) {c:CS}{x m:Str}{e:Expr}{p ap cp pos:Pos} (h:(if m = "append"∧Y0 sc x=true∧(ap.endLine==cp.line)=true then (match N.idxOf? x,cE G n sc N e with
   | some i,some c=>some (CS.app i c)
   | _,_=>none) else if m = "extend"∧Y0 sc x=true∧(ap.endLine==cp.line)=true then (match N.idxOf? x,cE G n sc N e with
   | some i,some c=>some (CS.ext i c)
   | _,_=>none) else none)=some c):PS X (.Expr (.Call (.Attribute (.Name x p) m ap) [e] [] cp) pos) (tS X.K (ex F c)):=by
 split at h
 ·rename_i hc
  obtain ⟨rfl,hl,hline⟩:=hc
  split at h
  ·rename_i i x hi hx
   cases h
   have hp:=Zm hx
   refine Z0 (ps_expr (pe_bm PySem.F.plainAttrs_list PySem.F.slot_list_append PySem.F.type_list_append mt_append (ZaF K.toCxt hl hi) (pa1 hp (ihE X sc N K.toCxt _ x hx).pe) rfl ?_ hline (Ze hp) rfl) rfl) ZdD
   rw [Ze hp]
   rfl
  ·cases h
 ·split at h
  ·rename_i hc
   obtain ⟨rfl,hl,hline⟩:=hc
   split at h
   ·rename_i i x hi hx
    cases h
    have hp:=Zm hx
    refine Z0 (ps_expr (pe_bm PySem.F.plainAttrs_list PySem.F.slot_list_extend PySem.F.type_list_extend mt_extend (ZaF K.toCxt hl hi) (pa1 hp (ihE X sc N K.toCxt _ x hx).pe) rfl ?_ hline (Ze hp) rfl) rfl) Zdu
    rw [Ze hp]
    rfl
   ·cases h
  ·cases h
theorem Qo {n:Nat} (ihE:ZO G F n) (ihA:XR G F n) (ihS:ZS G F n) (hA:V0 G F n):QH G F (n+1):=by
 intro X sc N K s c h
 have no:∀ {P:Prop},(none:Option CS)=some c→P:=fun z=>nomatch z
 cases s with
 | Assign tgs e pos=>
  cases tgs with
  | nil=>exact no h
  | cons t ts=>
   cases ts with
   | cons _ _=>cases t with
    | Subscript o k p=>cases o<;>exact no h
    | Tuple es ctx tp=>cases es with
     | nil=>exact no h
     | cons a es=>cases a with
      | Name _ _=>cases es with
       | nil=>exact no h
       | cons b es=>cases b with
        | Name _ _=>cases es<;>exact no h
        | _=>exact no h
      | _=>exact no h
    | _=>exact no h
   | nil=>cases t with
    | Name x p=>exact Zef ihE ihS hA K h
    | Tuple es ctx tp=>cases es with
     | nil=>exact no h
     | cons a es=>cases a with
      | Name _ _=>cases es with
       | nil=>exact no h
       | cons b es=>cases b with
        | Name _ _=>cases es with
         | nil=>exact Zc9 ihE K h
         | cons _ _=>exact no h
        | _=>exact no h
      | _=>exact no h
    | Subscript o k p=>cases o with
     | Name x q=>exact Zev ihE ihS K h
     | _=>exact no h
    | _=>exact no h
 | Return e pos=>cases e with
  | none=>exact no h
  | some e=>exact ZfH ihE ihS K h
 | If e a b pos=>exact Zgl ihE ihS K h
 | For t it b oe pos=>
  cases t with
  | Name x p=>cases oe with
   | nil=>
    replace h:(match YX G sc it with
     | some as=>(match N.idxOf? x,cEs G n sc N as,cSs G n sc N b with
      | some i,some ci,some cb=>some (CS.for3 i ci cb)
      | _,_,_=>none)
     | none=>(match N.idxOf? x,(match Z3 G sc it with
       | some a=>(cE G n sc N a).map fun c=>(true,c)
       | none=>(cE G n sc N it).map fun c=>(false,c)),cSs G n sc N b with
      | some i,some (r,ci),some cb=>some (CS.for1 i r ci cb)
      | _,_,_=>none))=some c:=h
    split at h
    ·rename_i as hr
     exact Zc7 ihA ihS K hr h
    ·exact Zc0 ihE ihS K h
   | cons _ _=>exact no h
  | Tuple es ctx tp=>
   cases es with
   | nil=>exact no h
   | cons a es=>
    cases a with
    | Name x p=>cases es with
     | nil=>exact no h
     | cons b2 es=>cases b2 with
      | Name y p2=>cases es with
       | nil=>cases oe with
        | nil=>
         replace h:(match UA G sc it with
          | some as=>(match N.idxOf? x,N.idxOf? y,cEs G n sc N as,cSs G n sc N b with
           | some i,some j,some ci,some cb=>if i=j then none else some (CS.forP i j ci cb)
           | _,_,_,_=>none)
          | none=>match V8 G sc it with
           | some e=>(match N.idxOf? x,N.idxOf? y,cE G n sc N e,cSs G n sc N b with
            | some i,some j,some ci,some cb=>if i=j then none else some (CS.forE i j ci cb)
            | _,_,_,_=>none)
           | none=>(match N.idxOf? x,N.idxOf? y,cE G n sc N it,cSs G n sc N b with
            | some i,some j,some ci,some cb=>if i=j then none else some (CS.for2 i j ci cb)
            | _,_,_,_=>none))=some c:=h
         split at h
         ·rename_i as hz
          exact Zdp ihA ihS K hz h
         ·split at h
          ·rename_i e hz
           exact ZdU ihE ihS K hz h
          ·exact ZcH ihE ihS K h
        | cons _ _=>exact no h
       | cons c2 es=>cases c2 with
        | Name z p3=>cases es with
         | nil=>cases oe with
          | nil=>exact Zdy ihE ihS K h
          | cons _ _=>exact no h
         | cons _ _=>exact no h
        | _=>exact no h
      | _=>exact no h
    | _=>exact no h
  | _=>exact no h
 | Expr v pos=>cases v with
  | Call f as kw cp=>cases f with
   | Attribute o m ap=>cases o with
    | Name x p=>cases as with
     | nil=>exact no h
     | cons e es=>cases es with
      | nil=>cases kw with
       | nil=>exact Zfw ihE ihS K h
       | cons _ _=>exact no h
      | cons _ _=>exact no h
    | _=>exact no h
   | _=>exact no h
  | _=>exact no h
 | Pass pos=>
  have h:some CS.skip=some c:=h
  cases h
  exact Z0 ps_pass US
 | Break pos=>
  have h:some CS.brk=some c:=h
  cases h
  exact Z0 ps_break ZdI
 | Raise a b pos=>
  have h:some CS.stop=some c:=h
  cases h
  exact fun pins s σ H D I q=>by
   obtain ⟨_,_,_,_,_,_,_,e,_⟩:=Yl q
   cases e
 | Continue pos=>
  have h:some CS.cont=some c:=h
  cases h
  exact Z0 ps_continue Za0
 | _=>exact no h
theorem Uh {n:Nat} (ihS:QH G F n) (ihSs:ZS G F n):ZS G F (n+1):=by
 intro X sc N K s c h
 cases s with
 | nil=>
  simp only [cSs] at h
  cases h
  exact Jv pss_nil US
 | cons s r=>
  simp only [cSs] at h
  split at h
  ·rename_i a b ha hb
   cases h
   exact Jv (pss_cons (ihS X sc N K s a ha) (ihSs X sc N K r b hb)) Zdz
  ·cases h
end
end Dp



namespace Dp
open PySem PySem.Spec PyProof.Rows L2
variable [ClsTab]
noncomputable def XD (G:Gs) (F:Nat→Fn):Prop:=∀ n,ZO G F n→(∀ X sc N,Cxt X G F sc N→∀ elt gens sc2 pos c,cE G (n+1) sc N (.ListComp elt gens sc2 pos)=some c→SE X F (.ListComp elt gens sc2 pos) c)∧V0 G F (n+1)
theorem Vq {G:Gs}{F:Nat→Fn} (hc:XD G F):∀ n,(ZO G F n∧XR G F n∧QR G F n)∧QH G F n∧ZS G F n∧V0 G F n
 | 0=>⟨⟨fun X sc N K e c h=>(nomatch (show (none:Option CE)=some c from h)),fun X sc N K e c h=>(nomatch (show (none:Option CE)=some c from h)),fun X sc N K e c h=>(nomatch (show (none:Option CE)=some c from h))⟩,fun X sc N K e c h=>(nomatch (show (none:Option CS)=some c from h)),fun X sc N K e c h=>(nomatch (show (none:Option CS)=some c from h)),fun X sc N K x i p elt gens sc2 epos pos c _ h=>(nomatch (show (none:Option CE)=some c from h))⟩
 | n+1=>by
  obtain ⟨⟨hE,hA,hO⟩,hS,hSs,hCA⟩:=Vq hc n
  exact ⟨⟨Q1 hE hA hO (hc n hE).1,Qq hE hA,Qy hE⟩,Qo hE hA hSs hCA,Uh hS hSs,(hc n hE).2⟩
noncomputable def Zbw (K:PySem.W.Frag) (G:Gs) (T:Nat→Option FD) (x y:Str) (i:Nat) (f:Addr) (fd:FuncData) (pn N:List Str):Prop:=∃ (st:Stmt) (oc:Value) (od:Option Addr) (dV kV doc pm:Value) (an:Option Addr) (cdv ct:Value) (osl:Array (Option Value)) (code:CS),
  fd=PySem.W.fnOf x y (defArgs st) (defBody st) (defScope st) dV kV doc pm an cdv ct∧K.lookup f=some ⟨oc,od,.func fd,osl⟩∧PySem.W.codeIn K cdv y=true∧FnScope N pn (defScope st)∧(∀ y∈N,Loc (defScope st) y) ∧
  cSs G 60 (defScope st) N (defBody st)=some code∧T i=some ⟨pn.length,N.length,code⟩
structure DefOk (K:PySem.W.Frag) (mg:Str→Option Value) (G:Gs) (T:Nat→Option FD) (x:Str) (i:Nat) (ds:List D) (f:Addr) (fd:FuncData) (pn N:List Str):Prop where
 ob:Zbw K G T x x i f fd pn N
 kp:PySem.W.keepIn K (.ref f)=true
 at_:mg x=some (.ref f)
 bn:∀ m,m≤ds.length→∃ dvs us,(∀ ad H,Dens K ad H dvs (ds.drop m))∧Vals dvs us∧Binds K fd pn us
structure MethOk (K:PySem.W.Frag) (G:Gs) (T:Nat→Option FD) (C:Addr) (x y:Str) (i:Nat) (f:Addr) (fd:FuncData) (pn N:List Str):Prop where
 ob:Zbw K G T x y i f fd pn N
 mt:Meth K C x f
 bn:Binds K fd pn []
structure Text (Pm:Params) (K:PySem.W.Frag) (mg:Str→Option Value) (G:Gs) (T:Nat→Option FD):Prop where
 cst:∀ x d,G.lookup x=some (.cst d)→∃ v u,mg x=some u∧RelV v u∧∀ ad H,Den K ad H v d
 blt:∀ x,G.lookup x=some .blt→mg x=none
 dct:∀ x ks ds,G.lookup x=some (.dct ks ds)→JL Pm K mg x ks ds
 fn:∀ x i ps ds,G.lookup x=some (.fn i ps ds)→∃ f fd pn N,DefOk K mg G T x i ds f fd pn N
 cls:∀ x i ms subs,G.lookup x=some (.cls i ms subs)→(mg x=some (.ref (ClsTab.ca i))∧NewOk K (ClsTab.ca i)∧∀ i',subs.contains i'=true→SubOk K (ClsTab.ca i') (ClsTab.ca i)) ∧
  ∀ m j ps,ms.lookup m=some (j,ps)→∃ y f fd pn N,MethOk K G T (ClsTab.ca i) m y j f fd pn N
section
variable {P:Program}{w:World}{K:PySem.W.Frag}{mg:Str→Option Value}{base:Heap}{G:Gs}{T:Nat→Option FD}
theorem Zbf {sc:Scope}{x:Str} (h:Y0 sc x=true):Vis sc x:=by
 unfold Y0 at h
 rw [Bool.and_eq_true] at h
 have h:=h.2
 split at h
 ·rename_i q; exact .inl q
 ·rename_i q; exact .inr (.inl q)
 ·rename_i q; exact .inr (.inr q)
 ·cases h
theorem Jt {sc:Scope}{x:Str} (h:ZA sc x=true):sc.names.lookup x=some .globalImplicit:=by
 unfold ZA at h
 rw [Bool.and_eq_true] at h
 have h:=h.2
 split at h
 ·rename_i q; exact q
 ·cases h
theorem JB {sc:Scope}{x:Str} (h:Vd sc x=true):sc.names.lookup x=some .cell∨sc.names.lookup x=some .free:=by
 unfold Vd at h
 split at h
 ·rename_i q; exact .inl q
 ·rename_i q; exact .inr q
 ·cases h
theorem Zam {K:PySem.W.Frag}{ad:List Addr}{H:Hp}{N:List Str}{vs:List V}{ds:List D} (h:Dens K ad H vs ds) (hl:ds.length≤N.length):EnvOk K ad H (L2.start N vs) (ds.map some++List.replicate (N.length - ds.length) none):=by
 have e:=h.length
 refine ⟨by unfold L2.start; simp [e],fun i d q=>?_⟩
 by_cases hi:i < ds.length
 ·rw [List.getElem?_append_left (by simpa using hi),List.getElem?_map,List.getElem?_eq_getElem hi] at q
  have q':ds[i]=d:=by simpa using q
  have g:ds[i]?=some d:=by rw [List.getElem?_eq_getElem hi,q']
  obtain ⟨v,e1,e2⟩:=h.get g
  refine ⟨v,?_,e2⟩
  unfold L2.start
  rw [List.getElem?_append_left (by simpa [e] using hi),List.getElem?_map,e1]
  rfl
 ·rw [List.getElem?_append_right (by simpa using hi),List.getElem?_replicate] at q
  split at q<;>cases q
theorem Zeo {n:Nat} (hc:∀ n,XD G (run T n)) (gl:∀ A,Room n A→∀ y g,G.lookup y=some g→GOk P w K mg base A (run T n) y g) {x y:Str}{i:Nat}{f:Addr}{fd:FuncData}{pn N:List Str} (ob:Zbw K G T x y i f fd pn N):FnOk P w K mg base CX0 (n+1) f fd pn (spD K (run T (n+1) i)):=by
 obtain ⟨st,oc,od,dV,kV,doc,pm,an,cdv,ct,osl,code,rfl,lk,hcd,S,hloc,hcode,hT⟩:=ob
 have hrun:run T (n+1) i=fnD (run T n) ⟨pn.length,N.length,code⟩:=by
  show (match T i with | some f=>fnD (run T n) f | none=>fun _ _=>none)=_
  rw [hT]
 refine fn_of lk hcd S (fun vs H Q E h=>?_) (fun A outer s H vs Q E hr h=>?_)
 ·obtain ⟨ad,es,st,d,st',_,hd,e,_⟩:=h
  rw [hrun] at e
  unfold fnD at e
  split at e
  ·rename_i hl
   rw [hd.length]
   exact hl
  ·cases e
 ·obtain ⟨ad,es,s0,d,st',S0,hd,e,p⟩:=h
  rw [hrun] at e
  unfold fnD at e
  split at e
  ·rename_i hl
   have C:CxtS (cxOf CX0 P w K mg base N y (defScope st) f cdv A outer s H E).nox G (run T n) (defScope st) N:={
    hN:=rfl
    vis:=fun y hy=>Zbf hy
    glb:=fun y hy=>Jt hy
    calm:=rfl
    hu:=hr.units
    gl:=gl _ hr
    cel:=fun y hy=>JB hy
    nx:=rfl
    nd:=S.nd
    loc:=hloc
    fn:=fun _=>rfl }
   have B:=(Vq (hc n) 60).2.2.1 _ _ _ C _ _ hcode
   have hpl:pn.length≤N.length:=by have:=congrArg List.length S.pre; rw [List.length_take] at this; omega
   have E0':=Zam (N:=N) hd (by rw [show es.length=pn.length from hl]; exact hpl)
   refine ⟨_,B.nox,?_⟩
   split at e
   ·rename_i d' st1 q
    cases e
    exact Yg E0' S0 q p
   ·rename_i ρ st1 q
    cases e
    exact Yg E0' S0 q fun σ1 ad1 H1 x1 S1 E1=>(p.later x1).at S1 .non
   ·cases e
  ·cases e
theorem ZcG {i:Nat}{f:Addr}{fd:FuncData}{pn:List Str}:FnOk P w K mg base CX0 0 f fd pn (spD K (run T 0 i)):=by
 refine ⟨fun vs H Q E h=>?_,fun A outer s H args us vs Q E _ _ _ _ h=>?_⟩
 ·obtain ⟨_,_,_,_,_,_,_,e,_⟩:=h; cases e
 ·obtain ⟨_,_,_,_,_,_,_,e,_⟩:=h; cases e
theorem Zgz {n:Nat} (X:Text w.params K mg G T) (F1:∀ {x y:Str}{i:Nat}{f:Addr}{fd:FuncData}{pn N:List Str},Zbw K G T x y i f fd pn N→FnOk P w K mg base CX0 n f fd pn (spD K (run T n i))) (A:Around) (hr:Room n A):∀ y g,G.lookup y=some g→GOk P w K mg base A (run T n) y g:=fun y g hg=>by
 cases g with
 | cst d=>exact X.cst y d hg
 | blt=>exact X.blt y hg
 | dct ks ds=>exact X.dct y ks ds hg
 | fn j qs es=>
  obtain ⟨f,fd,pn,N,Dk⟩:=X.fn y j qs es hg
  exact ⟨n,f,fd,pn,F1 Dk.ob,hr,Dk.at_,Dk.kp,Dk.bn⟩
 | cls i ms subs=>
  obtain ⟨⟨h1,h2,h3⟩,h4⟩:=X.cls y i ms subs hg
  refine ⟨h1,h2,h3,fun m j ps hm=>?_⟩
  obtain ⟨z,f,fd,pn,N,Mk⟩:=h4 m j ps hm
  exact ⟨n,f,fd,pn,F1 Mk.ob,hr,Mk.mt,Mk.bn⟩
theorem ZaN (hc:∀ n,XD G (run T n)) (X:Text w.params K mg G T):∀ (n:Nat) {x y:Str}{i:Nat}{f:Addr}{fd:FuncData}{pn N:List Str},Zbw K G T x y i f fd pn N→FnOk P w K mg base CX0 n f fd pn (spD K (run T n i))
 | 0,_,_,_,_,_,_,_,_=>ZcG
 | n+1,_,_,_,_,_,_,_,ob=>Zeo hc (fun A hr=>Zgz X (fun ob=>ZaN hc X n ob) A hr) ob
end
end Dp



namespace Dp
open PySem PySem.Spec PyProof.Rows L2
variable [ClsTab]
section
variable {ad:List Addr}{H:Hp}{p:Addr}{xs ys:List V}
mutual
theorem Den.wr {K:PySem.W.Frag} (hp:H p=some (.lst xs)):∀ {v:V}{d:D},Den K ad H v d→Den K ad (upd H p (.lst ys)) v d
 | _,_,.non=>.non
 | _,_,.bl b=>.bl b
 | _,_,.int i=>.int i
 | _,_,.str y=>.str y
 | _,_,.tup h r=>.tup (h.upd hp (by intro xs z; cases z)) (Dens.wr hp r)
 | _,_,.lst h=>.lst h
 | _,_,.dct h hk nd hl r=>.dct (by rw [upd_ne (ne_of h hp (by intro z; cases z))]; exact h) hk nd hl (Dens.wr hp r)
 | _,_,.kt l c g e z r=>.kt l c g e z r
 | _,_,.obj h n=>.obj (by rw [upd_ne (ne_of h hp (by intro z; cases z))]; exact h) n
theorem Dens.wr {K:PySem.W.Frag} (hp:H p=some (.lst xs)):∀ {vs:List V}{ds:List D},Dens K ad H vs ds→Dens K ad (upd H p (.lst ys)) vs ds
 | _,_,.nil=>.nil
 | _,_,.cons h r=>.cons (Den.wr hp h) (Dens.wr hp r)
end
theorem EnvOk.wr {K:PySem.W.Frag}{σ:L2.St}{ρ:Env} (hp:H p=some (.lst xs)) (h:EnvOk K ad H σ ρ):EnvOk K ad (upd H p (.lst ys)) σ ρ:=⟨h.len,fun i d e=>let ⟨v,e1,e2⟩:=h.at_ i d e; ⟨v,e1,e2.wr hp⟩⟩
theorem StOk.wr {K:PySem.W.Frag}{st:Za} (S:StOk K ad H st) (hp:H p=some (.lst xs)) (hn:p∉ad):StOk K ad (upd H p (.lst ys)) st:=
 ⟨S.len,S.nd,fun i c e=>by
  obtain ⟨a,h,zs,r,q⟩:=S.cell i c e
  have ne:a≠p:=fun z=>hn (by rw [←z]; exact List.mem_of_getElem? h)
  refine ⟨a,h,zs,r.wr hp,?_⟩
  rcases q with ⟨b,q⟩ | ⟨b,⟨o,q⟩ | q⟩
  ·exact .inl ⟨b,by rw [upd_ne ne]; exact q⟩
  ·exact .inr ⟨b,.inl ⟨o,by rw [upd_ne ne]; exact q⟩⟩
  ·exact .inr ⟨b,.inr q⟩⟩
theorem Ext.wr {ad0:List Addr}{H0:Hp} (x:Ext ad0 H0 ad H) (hp:H p=some (.lst xs)) (h0:H0 p=none):Ext ad0 H0 ad (upd H p (.lst ys)):=by
 refine ⟨x.pre,fun b zs h=>?_,fun b zs h=>?_,fun b o h n=>?_,x.new⟩
 ·rw [upd_ne (ne_of_none h h0)]; exact x.tup b zs h
 ·rw [upd_ne (ne_of_none h h0)]; exact x.dk b zs h
 ·rw [upd_ne (ne_of_none h h0)]; exact x.keep b o h n
end
theorem W3 {c:Str→NameKind→Bool}:∀ {l:List (Str×NameKind)}{y:Str},(l.map fun (n,k)=>if c n k=true then (n,NameKind.cell) else (n,k)).lookup y=(l.lookup y).map fun k=>if c y k=true then NameKind.cell else k
 | [],_=>rfl
 | (n,k) :: r,y=>by
  have ih:=@W3 c r y
  rw [List.map_cons]
  have e:(if c n k=true then (n,NameKind.cell) else (n,k))=(n,if c n k=true then NameKind.cell else k):=by split<;>rfl
  show List.lookup y ((if c n k=true then (n,NameKind.cell) else (n,k)) :: _)=_
  rw [e,List.lookup_cons,List.lookup_cons]
  cases q:y==n with
  | true=>rw [beq_iff_eq.mp q]; rfl
  | false=>exact ih
theorem YH {sc:Scope}{env:PySem.Env}{y:Str}:(relabel sc env).names.lookup y=(sc.names.lookup y).map fun k=>if (k==NameKind.free&&env.scope.kind==.function&&env.kindOf y==some .cell)=true then NameKind.cell else k:=
 W3 (c:=fun n k=>k==NameKind.free&&env.scope.kind==.function&&env.kindOf n==some .cell)
theorem YS {sc:Scope}{env:PySem.Env}{y:Str}{k:NameKind} (h:sc.names.lookup y=some k) (hk:k≠.free):(relabel sc env).names.lookup y=some k:=by
 rw [YH,h]
 have:(k==NameKind.free)=false:=by simpa using hk
 show some (if (k==NameKind.free&&_&&_)=true then NameKind.cell else k)=some k
 rw [this,Bool.false_and,Bool.false_and,if_neg Bool.false_ne_true]
theorem Xb {sc:Scope}{env:PySem.Env}{y:Str} (h:sc.names.lookup y=some .free):(relabel sc env).names.lookup y=some .cell∨(relabel sc env).names.lookup y=some .free:=by
 rw [YH,h]
 show (some (if _ then NameKind.cell else NameKind.free))=_∨(some (if _ then NameKind.cell else NameKind.free))=_
 split
 ·exact .inl rfl
 ·exact .inr rfl
theorem Ub {sc:Scope}{env:PySem.Env}{y:Str} (hc:∀ p∈sc.names,p.2≠.cell) (h:(relabel sc env).names.lookup y=some .cell∨(relabel sc env).names.lookup y=some .free):sc.names.lookup y=some .free:=by
 rw [YH] at h
 cases q:sc.names.lookup y with
 | none=>rw [q] at h; rcases h with h | h<;>cases h
 | some k=>
  rw [q] at h
  cases k with
  | free=>rfl
  | cell=>
   have:∀ {l:List (Str×NameKind)},l.lookup y=some .cell→∃ p∈l,p.2=.cell:=fun {l} e=>by
    induction l with
    | nil=>cases e
    | cons a l ih=>
     obtain ⟨n,k⟩:=a
     rw [List.lookup_cons] at e
     split at e
     ·cases e; exact ⟨_,List.mem_cons_self,rfl⟩
     ·obtain ⟨p,hp,e'⟩:=ih e; exact ⟨p,List.mem_cons_of_mem _ hp,e'⟩
   obtain ⟨p,hp,e⟩:=this q
   exact absurd e (hc p hp)
  | _=>rcases h with h | h<;>simp at h
theorem XJ {env:PySem.Env}:∀ (l:List (Str×NameKind)) (acc:List (Str×Addr)),(∀ p∈l,p.2=.free→∃ c,env.cells.lookup p.1=some c)→
  ∃ cl,(forIn l acc fun (x:Str×NameKind) (r:List (Str×Addr))=>(do
   if (x.2==NameKind.free)=true then
    let a ←cellOf env x.1
    pure (ForInStep.yield ((x.1,a) :: r))
   else pure (ForInStep.yield r):Sem (ForInStep (List (Str×Addr)))))=pure cl ∧
   (∀ y c,cl.lookup y=some c→acc.lookup y=some c∨((y,NameKind.free)∈l∧env.cells.lookup y=some c))∧(∀ y,(y,NameKind.free)∈l∨(acc.lookup y).isSome→(cl.lookup y).isSome)
 | [],acc,_=>⟨acc,by simp only [List.forIn_nil],fun y c h=>.inl h,fun y h=>by simpa using h⟩
 | (n,k) :: l,acc,h=>by
  by_cases hk:k=.free
  ·subst hk
   obtain ⟨c0,hc0⟩:=h (n,.free) List.mem_cons_self rfl
   obtain ⟨cl,e,h1,h2⟩:=XJ (env:=env) l ((n,c0) :: acc) fun p hp=>h p (List.mem_cons_of_mem _ hp)
   refine ⟨cl,?_,fun y c q=>?_,fun y q=>?_⟩
   ·rw [List.forIn_cons]
    simp only [beq_self_eq_true,if_true]
    have:cellOf env n=pure c0:=by unfold cellOf; rw [hc0]
    simp only [this,pure_bind]
    exact e
   ·rcases h1 y c q with z | ⟨z1,z2⟩
    ·rw [List.lookup_cons] at z
     split at z
     ·rename_i hy
      cases z
      rw [beq_iff_eq.mp hy]
      exact .inr ⟨List.mem_cons_self,hc0⟩
     ·exact .inl z
    ·exact .inr ⟨List.mem_cons_of_mem _ z1,z2⟩
   ·refine h2 y ?_
    rcases q with q | q
    ·rcases List.mem_cons.mp q with z | z
     ·cases z
      exact .inr (by rw [List.lookup_cons]; simp)
     ·exact .inl z
    ·refine .inr ?_
     rw [List.lookup_cons]
     split
     ·rfl
     ·exact q
  ·obtain ⟨cl,e,h1,h2⟩:=XJ (env:=env) l acc fun p hp=>h p (List.mem_cons_of_mem _ hp)
   refine ⟨cl,?_,fun y c q=>?_,fun y q=>?_⟩
   ·rw [List.forIn_cons]
    have:(k==NameKind.free)=false:=by simpa using hk
    simp only [this,Bool.false_eq_true,if_false,pure_bind]
    exact e
   ·rcases h1 y c q with z | ⟨z1,z2⟩
    ·exact .inl z
    ·exact .inr ⟨List.mem_cons_of_mem _ z1,z2⟩
   ·refine h2 y ?_
    rcases q with q | q
    ·rcases List.mem_cons.mp q with z | z
     ·cases z; exact absurd rfl hk
     ·exact .inl z
    ·exact .inr q
theorem Qc {env:PySem.Env}{sc:Scope} (h:∀ p∈sc.names,p.2=.free→∃ c,env.cells.lookup p.1=some c):∃ cl,closureFor sc env=pure cl∧(∀ y c,cl.lookup y=some c→env.cells.lookup y=some c)∧∀ y,(y,NameKind.free)∈sc.names→(cl.lookup y).isSome:=by
 obtain ⟨cl,e,h1,h2⟩:=XJ (env:=env) sc.names [] h
 refine ⟨cl,?_,fun y c q=>?_,fun y q=>h2 y (.inl q)⟩
 ·unfold closureFor
  rw [show (fun (x:Str×NameKind) (r:List (Str×Addr))=>_)=_ from rfl] at e
  first | exact (by simp only [e,pure_bind]) | (simp only [bind_pure] at *; exact e) | exact e
 ·rcases h1 y c q with z | ⟨_,z⟩
  ·cases z
  ·exact z
end Dp



namespace Dp
open PySem PySem.Spec PyProof.Rows L2
variable [ClsTab]
theorem Qu {prog:Program}{w:World}{A:Around}{R:Result→Shared→Prop}{s:Shared}{elt target iter:Expr}{ifs:List Expr}{scope:Scope}{pos:Pos}{it acc:Value}{env:PySem.Env} (I:Nat→Shared→Prop)
  (turn:∀ n s,I n s→wpAny (model prog w) A (pyNext it) (fun r s₁=>match r with
   | none=>R (.ok .next) s₁
   | some v=>wpAny (model prog w) A (letOwnedTupleGo target it v) (fun _ s₁'=>wpAny (model prog w) A (assign target env v) (fun _ s₂=>
     wpAny (model prog w) A (forIn ifs true fun c r=>if r=true then do let ok ←isTrue c env (eval c env); pure (ForInStep.yield ok) else pure (ForInStep.yield r)) (fun ok s₃=>
      if ok=true then wpAny (model prog w) A (eval elt env) (fun x s₄=>
       wpAny (model prog w) A (call (.builtin "list.append") [acc,x]) (fun _ s₅=>∃ m,m < n∧I m s₅) (notedBy (model prog w) A env fun e s'=>R (.error e) s') s₄) (notedBy (model prog w) A env fun e s'=>R (.error e) s') s₃
      else ∃ m,m < n∧I m s₃) (notedBy (model prog w) A env fun e s'=>R (.error e) s') s₂) (notedBy (model prog w) A env fun e s'=>R (.error e) s') s₁') (notedBy (model prog w) A env fun e s'=>R (.error e) s') s₁) (notedBy (model prog w) A env fun e s'=>R (.error e) s') s)
  (n:Nat) (h:I n s):codeAny (model prog w) A (.compLoop (.ListComp elt [⟨target,iter,ifs,0⟩] scope pos) 0 it acc env) R s:=by
 refine codeAny_loop rfl I (fun n s hI=>?_) n h
 show wpAny _ A ((compTurn (.ListComp elt [⟨target,iter,ifs,0⟩] scope pos) 0 it acc env).onRaise (fun x=>do noteFrame x env; theTreesLotGoes x)) _ _ s
 refine wpAny_noted ?_
 rw [compTurn_list]
 refine wpAny_bind (wpAny_standAt (wpAny_bind (wpAny_mono (turn n s hI) (fun r s₁ h₁=>?_) fun _ _ h'=>h')))
 cases r with
 | none=>exact wpAny_pure h₁
 | some v=>
  refine wpAny_bind (wpAny_mono h₁ (fun _ s₁' h₁=>?_) fun _ _ h'=>h')
  refine wpAny_bind (wpAny_mono h₁ (fun _ s₂ h₂=>wpAny_bind (wpAny_mono h₂ (fun ok s₃ h₃=>?_) fun _ _ h'=>h')) fun _ _ h'=>h')
  cases ok with
  | false=>exact wpAny_pure ⟨rfl,h₃⟩
  | true=>
   exact wpAny_bind (wpAny_bind (wpAny_mono h₃ (fun x s₄ h₄=>wpAny_bind (wpAny_mono h₄ (fun _ s₅ h₅=>wpAny_pure (wpAny_pure ⟨rfl,h₅⟩)) fun _ _ h'=>h')) fun _ _ h'=>h'))
noncomputable def cxC (X:Cx) (N:List Str) (env:PySem.Env) (s3:Shared) (H3:Hp) (fp:List Addr) (pins:List (Addr×Obj)):Cx:=
 { X with N:=N,s₀:=s3,H₀:=H3,env:=env,outer:=X.stack,ex:=fp,fn:=fun _=>false,pn:=X.pn++pins,xe:=fun _ _=>False }
section
variable {X:Cx}{pins:List (Addr×Obj)}{σ:L2.St}{H H3:Hp}{s3:Shared}{sc2:Scope}{cl:List (Str×Addr)}{fp:List Addr}{N:List Str}
theorem ZbV (I3:L2.Inv X pins σ H3 s3) {m0:Str→Option Value}{h4:Heap}{tk:Nat}{σ':L2.St} (hk:sc2.kind=.function) (hcell:∀ p∈sc2.names,p.2≠.cell)
  (hns:h4.Ns s3.heap.objs.size m0) (up:∀ b u,s3.heap.get? b=some u→h4.get? b=some u)
  (c1:∀ y c,cl.lookup y=some c→X.env.cells.lookup y=some c) (c2:∀ y,sc2.names.lookup y=some .free→(cl.lookup y).isSome)
  (f3:∀ b∈fp,FpOk X pins H3 b) (fb:∀ b∈fp,b < s3.heap.objs.size)
  (hσ:∀ (i:Nat) (y:Str) (v:V),N[i]?=some y→σ'[i]?=some (some v)→∃ j:Nat,X.N[j]?=some y∧σ[j]?=some (some v)∧sc2.names.lookup y=some .free∧(X.env.scope.names.lookup y=some .cell∨X.env.scope.names.lookup y=some .free)) (hl:σ'.length=N.length) :
  L2.Inv (cxC X N (compEnvC sc2 cl s3.heap.objs.size X.env) s3 H3 fp pins) [] σ' H3 { s3 with heap:=h4,toks:=tk } where
 ok:={
  mod:=I3.ok.mod
  kind:=hk
  glob:=I3.ok.glob
  blt:=I3.ok.blt
  above:=Nat.le_refl _
  inj:=fun x y c e e'=>I3.ok.inj x y c (c1 _ _ e) (c1 _ _ e')
  has:=fun x h=>by
   have e:=Ub (env:=X.env) hcell h
   have:=c2 x e
   cases q:cl.lookup x with
   | none=>rw [q] at this; cases this
   | some c=>exact ⟨c,q⟩
  cab:=fun x c h=>nomatch h
  hd:=I3.ok.hd
  frames:=I3.ok.frames
  stk:=.inl rfl
  exf:=fun b hb=>⟨Nat.ne_of_lt (fb b hb),fun x c e=>(f3 b hb).2.2.2.2.1 x c (c1 _ _ e)⟩
  bs:=I3.bs
  bsz:=Nat.le_trans I3.ok.bsz I3.sz
  noex:=fun b o e hb=>by
   rcases (f3 b hb).2.2.2.1 with z | z
   ·exact I3.ok.noex b o e z
   ·exact absurd (Nat.lt_of_lt_of_le (Heap.lt_size e) (Nat.le_trans I3.ok.bsz z)) (Nat.lt_irrefl _)
  exfs:=fun b hb hs=>by
   rcases List.mem_cons.mp (I3.stkSub b hs) with z | z
   ·exact (f3 b hb).2.1 z
   ·exact (f3 b hb).2.2.1 z
  funs:=I3.stack
  frf:=I3.stkFree }
 os:=rfl
 bare:=I3.bare
 base:=Un.kept up
 loc:=⟨m0,hns,fun i y v e1 e2 e3=>by
  obtain ⟨j,g1,g2,g3,g4⟩:=hσ i y v e1 e2
  obtain ⟨m,hn,hl'⟩:=I3.loc
  obtain ⟨u,r,l⟩:=hl' j y v g1 g2 (.inr g4)
  refine ⟨u,r,.inr ⟨Xb g3,?_⟩⟩
  rcases l with ⟨z,_⟩ | ⟨_,c,e,z⟩
  ·have z':X.env.scope.names.lookup y=some .local:=z
   rcases g4 with w | w<;>(rw [z'] at w; cases w)
  ·have q:=c2 y g3
   cases q':cl.lookup y with
   | none=>rw [q'] at q; cases q
   | some c'=>
    have:=c1 _ _ q'
    rw [e] at this; cases this
    obtain ⟨o,ho,hd⟩:=z
    exact ⟨c,q',o,up c o ho,hd⟩⟩
 cell:=fun y c e=>by
  obtain ⟨v,o,ho,hd⟩:=I3.cell y c (c1 _ _ e)
  exact ⟨v,o,up c o ho,hd⟩
 free:=I3.hok.fresh (Nat.le_refl _)
 freeC:=fun y c e=>I3.freeC y c (c1 _ _ e)
 pin:=fun p hp=>by
  have hp':p∈X.pn++pins:=by simpa [cxC] using hp
  obtain ⟨e,n,ne,nf,d⟩:=I3.pin p hp'
  refine ⟨up _ _ e,n,Nat.ne_of_lt (Heap.lt_size e),fun hs=>?_,d⟩
  rcases List.mem_cons.mp (I3.stkSub _ hs) with z | z
  ·exact ne z
  ·exact nf z
 hok:=I3.hok.kept up
 len:=hl
theorem Zch (I3:L2.Inv X pins σ H3 s3) {env:PySem.Env}{pins':List (Addr×Obj)}{σ':L2.St}{H':Hp}{s':Shared}{h':Heap} (hC:env.locals=s3.heap.objs.size) (I':L2.Inv (cxC X N env s3 H3 fp pins) pins' σ' H' s') (sb:Heap.SameBut s3.heap.objs.size s'.heap h')
  (f3:∀ b∈fp,FpOk X pins H3 b):L2.Inv X pins σ H' { s' with heap:=h' }:=by
 have u:Un (frs X.stack) fp H3 H' s3.heap s'.heap:=I'.base
 have ne:∀ b o,s3.heap.get? b=some o→b≠s3.heap.objs.size:=fun b o e=>Nat.ne_of_lt (Heap.lt_size e)
 have fr:H' s3.heap.objs.size=none:=by have:=I'.free; rw [show (cxC X N env s3 H3 fp pins).env.locals=s3.heap.objs.size from hC] at this; exact this
 refine I3.call' (s':={ s' with heap:=h' }) (ch:=fp) I'.os ⟨fun b o e n hb hx=>?_,fun b o e n hb hx=>?_,u.free,fun b o e hx=>?_,u.tups,u.frzs,u.tbls⟩ (fun b ob e=>?_) I'.bare (fun b hb=>?_)
 ·exact (sb.2 b (ne b o e)).trans (u.keep b o e n hb hx)
 ·obtain ⟨sl,e1⟩:=u.slot b o e n hb hx
  exact ⟨sl,(sb.2 b (ne b o e)).trans e1⟩
 ·obtain ⟨o',e1⟩:=u.there b o e hx
  exact ⟨o',(sb.2 b (ne b o e)).trans e1⟩
 ·refine (I'.hok b ob e).stay (fun c w' hc q=>(sb.2 c ?_).trans q) (fun _ q=>q) fun _ _ q=>q
  rintro rfl
  rcases hc with rfl | hc
  ·rw [fr] at e; cases e
  ·rw [fr] at hc; cases hc
 ·exact ⟨(f3 b hb).2.2.2.1,(f3 b hb).2.1,(f3 b hb).2.2.2.2.1,(f3 b hb).2.2.2.2.2⟩
end
end Dp



namespace Dp
open PySem PySem.Spec PyProof.Rows L2
variable [ClsTab]
theorem W9 {N:List Str}:∀ {l:List Str}{fr:List Nat},X9 N l=some fr→fr.length=l.length∧∀ (i:Nat) (k:Nat),fr[i]?=some k→∃ y,l[i]?=some y∧N[k]?=some y
 | [],fr,h=>by cases h; exact ⟨rfl,fun i k e=>by simp at e⟩
 | x :: r,fr,h=>by
  unfold X9 at h
  split at h
  ·rename_i a as e1 e2
   cases h
   obtain ⟨h1,h2⟩:=W9 e2
   refine ⟨by simp [h1],fun i k e=>?_⟩
   cases i with
   | zero=>simp at e; subst e; exact ⟨x,rfl,XM e1⟩
   | succ i=>exact h2 i k (by simpa using e)
  ·cases h
theorem StOk.lt {X:Cx}{pins:List (Addr×Obj)}{σ:L2.St}{H:Hp}{s:Shared}{ad:List Addr}{st:Za}{a:Addr} (I:L2.Inv X pins σ H s) (S:StOk X.K ad H st) (h:a∈ad):a < s.heap.objs.size:=by
 obtain ⟨i,hi,e⟩:=List.getElem_of_mem h
 have hi':i < st.length:=by rw [←S.len]; exact hi
 obtain ⟨a',e',xs,r,q⟩:=S.cell i _ (List.getElem?_eq_getElem hi')
 rw [List.getElem?_eq_getElem hi,e] at e'
 cases e'
 rcases q with ⟨_,q⟩ | ⟨_,⟨o,q⟩ | ⟨o,its,n,⟨h1,_⟩,_⟩⟩
 ·exact I.hok.lt q
 ·exact I.hok.lt q
 ·exact Heap.lt_size (I.kIn a o h1)
theorem ZaX {K:PySem.W.Frag}{ad:List Addr}{H:Hp}{σ bs:L2.St}{ρ:Env}{fr:List Nat}{b:D→List (Option D)}{d:D} (E:EnvOk K ad H σ ρ) (hd:EnvOk K ad H bs (b d)):EnvOk K ad H (bs++fr.map fun i=>(σ[i]?).join) (YJ b ρ fr d):=by
 refine ⟨by simp [YJ,hd.len],fun i e h=>?_⟩
 unfold YJ at h
 by_cases hi:i < (b d).length
 ·rw [List.getElem?_append_left hi] at h
  rw [List.getElem?_append_left (by rw [hd.len]; exact hi)]
  exact hd.at_ i e h
 ·have hi:(b d).length≤i:=Nat.le_of_not_lt hi
  rw [List.getElem?_append_right hi,List.getElem?_map] at h
  rw [List.getElem?_append_right (by rw [hd.len]; exact hi),List.getElem?_map,hd.len]
  cases q:fr[i - (b d).length]? with
  | none=>rw [q] at h; cases h
  | some k=>
   rw [q] at h
   have h:(ρ[k]?).join=some e:=by simpa using h
   have h2:ρ[k]?=some (some e):=by
    cases z:ρ[k]? with
    | none=>rw [z] at h; cases h
    | some o=>rw [z] at h; rw [show o=some e from h]
   obtain ⟨w,e1,e2⟩:=E.at_ k e h2
   exact ⟨w,by simp [e1],e2⟩
noncomputable def Ja (K:PySem.W.Frag) (tg:Expr) (xs:List Str) (b:D→List (Option D)) (ds:List D):Prop:=
 ∀ X:Cx,X.K=K→X.calm=true→X.N.Nodup→(∀ (i:Nat) x,xs[i]?=some x→X.N[i]?=some x)→(∀ y∈xs,X.env.scope.names.lookup y=some .local)→∀ (pins:List (Addr×Obj)) (s:Shared) (os fv:L2.St) (H:Hp) (ad:List Addr) (v:V) (u:Value) (d:D),os.length=xs.length→L2.Inv X pins (os++fv) H s→RelV v u→Den K ad H v d→d∈ds→
  wpAny (model X.prog X.w) X.A (assign tg X.env u) (fun _ s'=>∃ bs,bs.length=xs.length∧EnvOk K ad H bs (b d)∧L2.Inv X pins (bs++fv) H s') X.xe s
theorem ZbF {K:PySem.W.Frag}{x:Str}{px:Pos}{ds:List D}:Ja K (.Name x px) [x] one ds:=by
 intro X hK hc hN hx hl pins s os fv H ad v u d ho I r dv _
 obtain ⟨o,rfl⟩:∃ o,os=[o]:=by match os,ho with | [o],_=>exact ⟨o,rfl⟩
 have lx:=hl x List.mem_cons_self
 have pg:PG X (.Name x px) (gName 0):=pg_name hN (hx 0 x rfl) (.inl lx) (.inr lx)
 refine thn (pg pins s _ H v u (fun σ' H'=>σ'=[some v]++fv∧H'=H) I r ⟨rfl,rfl⟩) fun _ s' ⟨σ',H',I',e,e'⟩=>?_
 subst e; subst e'
 exact ⟨[some v],rfl,⟨rfl,fun i e h=>by
  cases i with
  | zero=>cases h; exact ⟨v,rfl,dv⟩
  | succ i=>exact nomatch (show (none:Option (Option D))=some (some e) from h)⟩,I'⟩
section
variable {X:Cx}{G:Gs}{F:Nat→Fn}{sc sc2:Scope}{N xs:List Str}
theorem Y8 (h:Wb sc sc2 xs=true):sc2.kind=.function∧(∀ p∈sc2.names,p.2≠.cell)∧(∀ x∈xs,sc2.names.lookup x=some .local)∧(∀ p∈sc2.names,p.2=.local→sc2.names.lookup p.1=some .local)∧(xs++Yc sc2).Nodup∧∀ y∈Yc sc2,Vd sc y=true∧sc2.names.lookup y=some .free:=by
 unfold Wb at h
 simp only [Bool.and_eq_true,decide_eq_true_eq,List.all_eq_true,Bool.or_eq_true,Bool.not_eq_true',decide_eq_false_iff_not] at h
 obtain ⟨⟨⟨⟨⟨h1,h2⟩,h3⟩,h4⟩,h5⟩,h6⟩:=h
 exact ⟨h1,h2,h3,fun p hp e=>(h4 p hp).elim (fun z=>absurd e z) id,h5,h6⟩
theorem mem_frees {y:Str}:y∈Yc sc2↔(y,NameKind.free)∈sc2.names:=by
 unfold Yc
 rw [List.mem_map]
 constructor
 ·rintro ⟨⟨n,k⟩,h,rfl⟩
  rw [List.mem_filter] at h
  have:k=.free:=of_decide_eq_true h.2
  rw [←this]; exact h.1
 ·intro h
  exact ⟨(y,.free),List.mem_filter.mpr ⟨h,by simp⟩,rfl⟩
theorem mem_of_lookup {y:Str}{k:NameKind}:∀ {l:List (Str×NameKind)},l.lookup y=some k→(y,k)∈l
 | [],h=>by cases h
 | (n,q) :: l,h=>by
  rw [List.lookup_cons] at h
  split at h
  ·rename_i e
   cases h
   rw [beq_iff_eq.mp e]
   exact List.mem_cons_self
  ·exact List.mem_cons_of_mem _ (mem_of_lookup h)
theorem ZbS (Kx:Cxt X G F sc N) (hsc:Wb sc sc2 xs=true) {cl:List (Str×Addr)}{C:Addr}{s3:Shared}{H3:Hp}{fp:List Addr}{pins:List (Addr×Obj)}:Cxt (cxC X (xs++Yc sc2) (compEnvC sc2 cl C X.env) s3 H3 fp pins) G F sc2 (xs++Yc sc2):=by
 obtain ⟨h1,h2,h3,h4,h5,h6⟩:=Y8 hsc
 exact {
  hN:=rfl
  vis:=fun y hy=>by
   rcases Zbf hy with z | z | z
   ·exact .inl (YS z (by intro q; cases q))
   ·exact absurd rfl (h2 _ (mem_of_lookup z))
   ·rcases Xb (env:=X.env) z with w | w
    ·exact .inr (.inl w)
    ·exact .inr (.inr w)
  glb:=fun y hy=>YS (Jt hy) (by intro q; cases q)
  calm:=Kx.calm
  hu:=Kx.hu
  gl:=Kx.gl
  cel:=fun y hy=>by
   rcases JB hy with z | z
   ·exact absurd rfl (h2 _ (mem_of_lookup z))
   ·exact Xb z
  nx:=rfl }
theorem ZbC {ok:Za→Prop}{f c:D→Za→Res}{xs:List D}{st:Za}{r:List D×Za} (h:Yx ok f c xs st=some r):ok st:=by
 unfold Yx at h
 split at h
 ·split at h
  ·assumption
  ·cases h
 ·split at h
  ·assumption
  ·cases h
theorem Zae (Kx:Cxt X G F sc N) {n:Nat} (ihE:ZO G F n) {elt iter tg:Expr}{pos:Pos}{ifs:List Expr}{fr:List Nat}{ce cc:CE} (hsc:Wb sc sc2 xs=true) (hfr:X9 N (Yc sc2)=some fr)
  {bd:D→List (Option D)} (hce:cE G n sc2 (xs++Yc sc2) elt=some ce) (hcc:(ifs=[]∧cc=.cst (.bl true))∨∃ e,ifs=[e]∧cE G n sc2 (xs++Yc sc2) e=some cc) {cl:List (Str×Addr)}
  (c1:∀ y c,cl.lookup y=some c→X.env.cells.lookup y=some c) (c2:∀ y,(y,NameKind.free)∈sc2.names→(cl.lookup y).isSome)
  {J:It}{fp:List Addr}{it:Addr}{tn:Nat→Heap→Prop}{ds:List D}{ok:Za→Prop}{use:Option (Value→Sem Unit)}{R0:Value→Shared→Prop} (Good:List Addr→Hp→Prop) (gm:∀ ad H ad' H',Ext ad H ad' H'→Good ad H→Good ad' H') (gw:∀ ad H p xs ys,H p=some (.lst xs)→Good ad H→Good ad (upd H p (.lst ys)))
  (go:∀ i ad H st,Good ad H→StOk X.K ad H st→ok st→i < ds.length→J.go i H) (stop:∀ i ad H st,Good ad H→StOk X.K ad H st→ok st→ds.length=i→J.stop i H) (yl:∀ i ad H st v H',Good ad H→StOk X.K ad H st→ok st→J.yld i H v H'→i < ds.length→Ext ad H ad H'∧StOk X.K ad H' st∧∃ d,ds[i]?=some d∧Den X.K ad H' v d)
  {pins:List (Addr×Obj)}{σ:L2.St}{H2:Hp}{s2:Shared}{Q:VK}{ad2:List Addr}{ρ:Env}{st1 st':Za}{ys:List D} (I2:L2.Inv X pins σ H2 s2) (B:Ja X.K tg xs bd ds) (T:Turn X.prog X.w X.K tg J fp it tn) (t2:tn 0 s2.heap) (f2:∀ b∈fp,FpOk X pins H2 b)
  (E2:EnvOk X.K ad2 H2 σ ρ) (S2:StOk X.K ad2 H2 st1) (g2:Good ad2 H2) (hcomp:Yx ok (fun d s=>ev F ce (YJ bd ρ fr d) s) (fun d s=>ev F cc (YJ bd ρ fr d) s) ds st1=some (ys,st')) (hz:ds.length≤1000) (hp:Post X.K ad2 H2 (.lst st'.length) (st'++[(true,ys)]) Q)
  (hend:∀ C dd s5 H5 m',s5.heap.Ns C m'→(∀ h',Heap.SameBut C s5.heap h'→L2.Inv X pins σ H5 { s5 with heap:=h' })→FpOk X pins H5 C→Q (.ref dd) H5→compPost (model X.prog X.w) X.A X.xe use R0 (.ref dd) C (.ok .next) s5) :
  wpAny (model X.prog X.w) X.A (newList []) (fun acc s₃=>wpAny (model X.prog X.w) X.A (newFunctionEnv sc2 X.env.globals cl [] X.env.qual none .none (some X.env)) (fun cenv s₄=>
   codeAny (model X.prog X.w) X.A (.compStart (.ListComp elt [⟨tg,iter,ifs,0⟩] sc2 pos) 0 (.ref it) acc { cenv with scope:=relabel sc2 X.env }) (compPost (model X.prog X.w) X.A X.xe use R0 acc cenv.locals) s₄) X.xe s₃) X.xe s2:=by
 obtain ⟨h1,h2,h3,h4,h5,h6⟩:=Y8 hsc
 have fb:∀ b∈fp,b < s2.heap.objs.size:=fun b hb=>let ⟨o,e,_⟩:=T.obj 0 _ t2 b hb; Heap.lt_size e
 refine wpAny_newObj_type (wpAny_newFunctionEnv h2 (by intro y hy; simp at hy) (fun h₁ hns₁ hsb₁=>?_) h1)
 dsimp only at hns₁ hsb₁ ⊢
 have I3:L2.Inv X pins σ (upd H2 s2.heap.objs.size (.lst [])) { s2 with heap:=s2.heap.push { cls:=.type "list",dict:=none,data:=.seq ([]:List Value).toArray } }:=I2.lnew (its:=[]) (t':=s2.toks) .nil (Nat.zero_le _)
 have D0:H2 s2.heap.objs.size=none:=I2.hok.fresh (Nat.le_refl _)
 have DD:upd H2 s2.heap.objs.size (.lst []) s2.heap.objs.size=some (.lst []):=upd_same
 generalize hD:s2.heap.objs.size=dd at *
 generalize hs3:({ s2 with heap:=s2.heap.push { cls:=.type "list",dict:=none,data:=.seq ([]:List Value).toArray } }:Shared)=s3 at *
 have e3:s2.heap.push { cls:=.type "list",dict:=none,data:=.seq ([]:List Value).toArray }=s3.heap:=by rw [←hs3]
 have z3:s3.heap.objs.size=dd+1:=by rw [←hs3,←hD]; exact Heap.size_push ..
 rw [e3] at hns₁ hsb₁ ⊢
 have f3:∀ b∈fp,FpOk X pins (upd H2 dd (.lst [])) b:=fun b hb=>⟨by rw [upd_ne (Nat.ne_of_lt (fb b hb))]; exact (f2 b hb).1,(f2 b hb).2⟩
 have up:∀ b u,s3.heap.get? b=some u→h₁.get? b=some u:=fun b u e=>hsb₁.extBut b u (Nat.ne_of_lt (Heap.lt_size e)) (Heap.get?_push_of_some _ e)
 have up2:∀ b u,s2.heap.get? b=some u→h₁.get? b=some u:=fun b u e=>up b u (by rw [←hs3]; exact Heap.get?_push_of_some _ e)
 obtain ⟨fl,fg⟩:=W9 hfr
 have I4:=ZbV (N:=xs++Yc sc2) (cl:=cl) (fp:=fp) (tk:=s3.toks+([]:List (Str×Value)).length) (σ':=List.replicate xs.length none++fr.map fun i=>(σ[i]?).join) I3 h1 h2 hns₁ up c1 (fun y e=>c2 y (mem_of_lookup e)) f3 (fun b hb=>by rw [z3]; exact Nat.lt_succ_of_lt (fb b hb)) (fun i y v e1 e2=>by
  by_cases hi:i < xs.length
  ·rw [List.getElem?_append_left (by simpa using hi),List.getElem?_replicate,if_pos hi] at e2; cases e2
  ·have hi:xs.length≤i:=Nat.le_of_not_lt hi
   rw [List.getElem?_append_right (by simpa using hi),List.getElem?_map,List.length_replicate] at e2
   rw [List.getElem?_append_right hi] at e1
   cases q:fr[i - xs.length]? with
   | none=>rw [q] at e2; cases e2
   | some k=>
    rw [q] at e2
    have e2:(σ[k]?).join=some v:=by simpa using e2
    have e3:σ[k]?=some (some v):=by
     cases w:σ[k]? with
     | none=>rw [w] at e2; cases e2
     | some o=>rw [w] at e2; rw [show o=some v from e2]
    obtain ⟨y',g1,g2⟩:=fg _ k q
    rw [e1] at g1; cases g1
    obtain ⟨k1,k2⟩:=h6 y (List.mem_of_getElem? e1)
    exact ⟨k,by rw [Kx.hN]; exact g2,e3,k2,Kx.cel y k1⟩) (by simp [fl])
 have K':=ZbS (cl:=cl) (C:=s3.heap.objs.size) (s3:=s3) (H3:=upd H2 dd (.lst [])) (fp:=fp) (pins:=pins) Kx hsc
 generalize hX':cxC X (xs++Yc sc2) (compEnvC sc2 cl s3.heap.objs.size X.env) s3 (upd H2 dd (.lst [])) fp pins=X' at *
 have eP:X'.prog=X.prog:=by rw [←hX']; rfl
 have ew:X'.w=X.w:=by rw [←hX']; rfl
 have eA:X'.A=X.A:=by rw [←hX']; rfl
 have eK:X'.K=X.K:=by rw [←hX']; rfl
 have eE:X'.env=compEnvC sc2 cl s3.heap.objs.size X.env:=by rw [←hX']; rfl
 have exx:X'.xe=fun _ _=>False:=by rw [←hX']; rfl
 have eN:X'.N=xs++Yc sc2:=by rw [←hX']; rfl
 have fpk:∀ {H:Hp},(∀ b∈fp,H b=none)→∀ b∈fp,FpOk X' [] H b:=fun {H} hn b hb=>by
  rw [←hX']
  refine ⟨hn b hb,?_,fun hs=>?_,.inl hb,fun y c e=>(f2 b hb).2.2.2.2.1 y c (c1 _ _ e),fun p hp=>(f2 b hb).2.2.2.2.2 p (by simpa [cxC] using hp)⟩
  ·show b≠s3.heap.objs.size
   rw [z3]; exact Nat.ne_of_lt (Nat.lt_succ_of_lt (fb b hb))
  ·rcases List.mem_cons.mp (I3.stkSub b hs) with z | z
   ·exact (f2 b hb).2.1 z
   ·exact (f2 b hb).2.2.1 z
 have nad:dd∉ad2:=fun z=>by have:=S2.lt I2 z; rw [hD] at this; exact absurd this (Nat.lt_irrefl _)
 -- the loop
 have loop:∀ s₄:Shared,s₄={ s3 with heap:=h₁,toks:=s3.toks+([]:List (Str×Value)).length }→
   codeAny (model X.prog X.w) X.A (.compLoop (.ListComp elt [⟨tg,iter,ifs,0⟩] sc2 pos) 0 (.ref it) (.ref dd) (compEnvC sc2 cl s3.heap.objs.size X.env)) (compPost (model X.prog X.w) X.A X.xe use R0 (.ref dd) s3.heap.objs.size) s₄:=by
  rintro s₄ rfl
  refine Qu (fun m s=>∃ (i:Nat) (o0:L2.St) (H:Hp) (ad:List Addr) (st:Za) (vs:List V) (es zs:List D),(i+m=ds.length∧o0.length=xs.length)∧(L2.Inv X' [] (o0++fr.map fun i=>(σ[i]?).join) H s∧tn i s.heap∧∀ b∈fp,H b=none) ∧
   (EnvOk X.K ad H σ ρ∧StOk X.K ad H st∧Good ad H)∧(dd∉ad∧H dd=some (.lst vs)∧Dens X.K ad H vs es∧es.length≤i)∧(Yx ok (fun d s=>ev F ce (YJ bd ρ fr d) s) (fun d s=>ev F cc (YJ bd ρ fr d) s) (ds.drop i) st=some (zs,st')∧es++zs=ys)∧Ext ad2 H2 ad H) ?_ ds.length ?_
  ·rintro m s ⟨i,o0,H,ad,st,vs,es,zs,⟨him,hol⟩,⟨I,ti,fi⟩,⟨En,S,Gd⟩,⟨nd,hv,rv,hel⟩,⟨hcp,hys⟩,ex⟩
   have oks:=ZbC hcp
   by_cases hi:i < ds.length
   ·have hd:ds.drop i=ds[i] :: ds.drop (i+1):=List.drop_eq_getElem_cons hi
    have di:ds[i]?=some ds[i]:=List.getElem?_eq_getElem hi
    have itm:=T.item X' eP ew eK K'.calm i [] s _ H (notedBy (model X.prog X.w) X.A (compEnvC sc2 cl s3.heap.objs.size X.env) fun e s'=>compPost (model X.prog X.w) X.A X.xe use R0 (.ref dd) s3.heap.objs.size (.error e) s') I (fpk fi) ti (go i ad H st Gd S oks hi)
    rw [eA] at itm
    refine thn itm fun r s5 ⟨u,hr,h5'⟩=>?_
    subst hr
    refine thn h5' fun _ s6 ⟨v,H',I6,r6,y6,t6,f6⟩=>?_
    obtain ⟨x6,S6,d,ed,dv⟩:=yl i ad H st v H' Gd S oks y6 hi
    replace hv:=x6.keep dd _ hv nd
    replace rv:=rv.mono x6
    replace Gd:=gm _ _ _ _ x6 Gd
    replace En:=En.mono x6
    replace ex:=ex.trans x6
    replace S:=S6
    rw [di] at ed; cases ed
    have I6p:=I6.pinned (fpk f6) (T.obj _ _ t6)
    have none_of:∀ {E:Value→Shared→Prop}{α:Type}{t:Sem α}{R:α→Shared→Prop}{s0:Shared},wpAny (model X.prog X.w) X.A t R X'.xe s0→wpAny (model X.prog X.w) X.A t R E s0:=fun {E α t R s0} h=>by
     rw [exx] at h
     exact wpAny_mono h (fun _ _ q=>q) fun _ _ q=>q.elim
    have pg1:=B X' eK K'.calm (by rw [eN]; exact h5) (fun i x e=>by rw [eN,List.getElem?_append_left (List.getElem?_eq_some_iff.mp e).1]; exact e) (fun y hy=>by rw [eE]; exact YS (h3 y hy) (by intro q; cases q)) _ s6 o0 _ H' ad v u _ hol I6p r6 dv (List.getElem_mem hi)
    rw [eP,ew,eA,eE] at pg1
    refine thn (none_of pg1) fun _ s7 ⟨bs,lb,Eb,I7⟩=>?_
    have En7:=ZaX (fr:=fr) En Eb
    -- behind the item's turn
    have again:∀ {H9:Hp}{s9:Shared}{ad9:List Addr}{st9:Za}{vs9:List V}{es9 zs9:List D},L2.Inv X' ([]++pinsAt fp s6.heap) (bs++fr.map fun i=>(σ[i]?).join) H9 s9→EnvOk X.K ad9 H9 σ ρ→StOk X.K ad9 H9 st9→Good ad9 H9→dd∉ad9→H9 dd=some (.lst vs9)→Dens X.K ad9 H9 vs9 es9→es9.length≤i+1→
      Yx ok (fun d s=>ev F ce (YJ bd ρ fr d) s) (fun d s=>ev F cc (YJ bd ρ fr d) s) (ds.drop (i+1)) st9=some (zs9,st')→es9++zs9=ys→Ext ad2 H2 ad9 H9→
      ∃ m',m' < m∧∃ (i:Nat) (o0:L2.St) (H':Hp) (ad:List Addr) (st:Za) (vs:List V) (es zs:List D),(i+m'=ds.length∧o0.length=xs.length)∧(L2.Inv X' [] (o0++fr.map fun i=>(σ[i]?).join) H' s9∧tn i s9.heap∧∀ b∈fp,H' b=none) ∧
       (EnvOk X.K ad H' σ ρ∧StOk X.K ad H' st∧Good ad H')∧(dd∉ad∧H' dd=some (.lst vs)∧Dens X.K ad H' vs es∧es.length≤i)∧(Yx ok (fun d s=>ev F ce (YJ bd ρ fr d) s) (fun d s=>ev F cc (YJ bd ρ fr d) s) (ds.drop i) st=some (zs,st')∧es++zs=ys)∧Ext ad2 H2 ad H':=
     fun {H9 s9 ad9 st9 vs9 es9 zs9} I9 En9 S9 G9 n9 v9 r9 l9 c9 y9 x9=>by
      refine ⟨m - 1,by omega,i+1,bs,H9,ad9,st9,vs9,es9,zs9,⟨by omega,lb⟩,⟨I9.unpinned,T.keep _ _ _ t6 fun b hb o e=>(I9.pin (b,o) (List.mem_append_right _ (List.mem_append_right _ (mem_pinsAt hb e)))).1,fun b hb=>?_⟩,⟨En9,S9,G9⟩,⟨n9,v9,r9,l9⟩,⟨c9,y9⟩,x9⟩
      obtain ⟨o,e,_⟩:=T.obj _ _ t6 b hb
      exact (I9.pin (b,o) (List.mem_append_right _ (List.mem_append_right _ (mem_pinsAt hb e)))).2.1
    rw [hd] at hcp
    -- the tests
    have tests:∀ {k:Bool}{st2:Za},ev F cc (YJ bd ρ fr ds[i]) st=some (.bl k,st2)→∀ {R:Bool→Shared→Prop}{E:Value→Shared→Prop},(∀ s8 H8 ad8,L2.Inv X' ([]++pinsAt fp s6.heap) (bs++fr.map fun i=>(σ[i]?).join) H8 s8→Ext ad H' ad8 H8→StOk X.K ad8 H8 st2→R k s8)→
      wpAny (model X.prog X.w) X.A (forIn ifs true fun c r=>if r=true then do let ok ←isTrue c (compEnvC sc2 cl s3.heap.objs.size X.env) (eval c (compEnvC sc2 cl s3.heap.objs.size X.env)); pure (ForInStep.yield ok) else pure (ForInStep.yield r)) R E s7:=fun {k st2} q {R E} hR=>by
     rcases hcc with ⟨rfl,rfl⟩ | ⟨e,rfl,he⟩
     ·cases q
      exact wpAny_tests_nil (hR s7 H' ad I7 (Ext.refl _ _) S)
     ·refine wpAny_tests_one ?_
      have pt:=(ihE X' sc2 _ K' e cc he).pt _ s7 _ H' (fun k' H8=>k'=k∧∃ ad8,Ext ad H' ad8 H8∧StOk X.K ad8 H8 st2) I7 ⟨ad,YJ bd ρ fr ds[i],st,k,st2,by rw [eK]; exact En7,by rw [eK]; exact S,q,fun ad' H' x S'=>⟨rfl,ad',x,by rw [←eK]; exact S'⟩⟩
      rw [eP,ew,eA,eE] at pt
      exact thn (none_of pt) fun k' s8 ⟨H8,I8,e8,ad8,x8,S8⟩=>by subst e8; exact hR s8 H8 ad8 I8 x8 S8
    unfold Yx at hcp
    rw [if_pos oks] at hcp
    split at hcp
    ·rename_i st2 q1
     split at hcp
     ·rename_i y st3 q2
      split at hcp
      ·rename_i zs' st4 q3
       cases hcp
       refine tests q1 fun s8 H8 ad8 I8 x8 S8=>?_
       rw [if_pos rfl]
       have pe:=(ihE X' sc2 _ K' elt ce hce).pe _ s8 _ H8 (fun v8 H9=>∃ ad9,Ext ad8 H8 ad9 H9∧StOk X.K ad9 H9 st3∧Den X.K ad9 H9 v8 y) I8 ⟨ad8,YJ bd ρ fr ds[i],st2,y,st3,by rw [eK]; exact En7.mono x8,by rw [eK]; exact S8,q2,fun v8 ad' H' x S' dn=>⟨ad',x,by rw [←eK]; exact S',by rw [←eK]; exact dn⟩⟩
       rw [eP,ew,eA,eE] at pe
       refine thn (none_of pe) fun u9 s9 ⟨v9,H9,I9,r9,ad9,x9,S9,d9⟩=>?_
       have x89:=x8.trans x9
       have hv9:H9 dd=some (.lst vs):=x89.keep dd _ hv nd
       have nd9:dd∉ad9:=fun z=>(x89.new dd z).elim nd fun w=>by rw [hv] at w; cases w
       have hlen:vs.length=es.length:=rv.length
       have mt:=mt_append (X:=X') _ s9 _ H9 (.ref dd) [v9] (.ref dd) [u9] (fun _ H10=>H10=upd H9 dd (.lst (vs++[v9]))) I9 rfl (.cons r9 .nil) ⟨dd,vs,v9,rfl,rfl,hv9,Nat.lt_of_le_of_lt (show vs.length≤1000 by omega) (by decide),rfl⟩
       rw [eP,ew,eA] at mt
       refine thn (none_of mt) fun u10 s10 ⟨v10,H10,I10,r10,e10⟩=>?_
       subst e10
       exact again (vs9:=vs++[v9]) (es9:=es++[y]) (zs9:=zs') I10 ((En.mono x89).wr hv9) (S9.wr hv9 nd9) (gw _ _ _ _ _ hv9 (gm _ _ _ _ x89 Gd)) nd9 upd_same (((rv.mono x89).append (.cons d9 .nil)).wr hv9) (by rw [List.length_append,List.length_singleton]; omega) q3 (by rw [←hys,List.append_assoc]; rfl) ((ex.trans x89).wr hv9 D0)
      ·cases hcp
     ·cases hcp
    ·rename_i st2 q1
     refine tests q1 fun s8 H8 ad8 I8 x8 S8=>?_
     rw [if_neg Bool.false_ne_true]
     have nd8:dd∉ad8:=fun z=>(x8.new dd z).elim nd fun w=>by rw [hv] at w; cases w
     exact again (vs9:=vs) (es9:=es) (zs9:=zs) I8 (En.mono x8) S8 (gm _ _ _ _ x8 Gd) nd8 (x8.keep dd _ hv nd) (rv.mono x8) (by omega) hcp hys (ex.trans x8)
    ·cases hcp
   ·have hi':ds.length≤i:=by omega
    have dn:=T.done X' eP ew eK K'.calm i [] s _ H (notedBy (model X.prog X.w) X.A (compEnvC sc2 cl s3.heap.objs.size X.env) fun e s'=>compPost (model X.prog X.w) X.A X.xe use R0 (.ref dd) s3.heap.objs.size (.error e) s') I (fpk fi) ti (stop i ad H st Gd S oks (by omega))
    rw [eA] at dn
    refine thn dn fun r s5 ⟨hr,I5⟩=>?_
    subst hr
    rw [List.drop_eq_nil_of_le hi'] at hcp
    unfold Yx at hcp
    rw [if_pos oks] at hcp
    cases hcp
    rw [List.append_nil] at hys
    subst hys
    obtain ⟨m',hn,_⟩:=I5.loc
    rw [eE] at hn
    rw [←hX'] at I5
    refine hend s3.heap.objs.size dd s5 H m' hn (fun h' sb=>Zch I3 rfl I5 sb f3) (I3.fpOk (Nat.le_refl _) I5.free) (hp (.ref dd) (ad++[dd]) H ⟨fun j a e=>ZL (ex.pre j a e),ex.tup,ex.dk,ex.keep,fun b hb=>?_⟩ (S.adopt hv nd rv) (.lst (by rw [←S.len]; exact Zu)))
    ·rcases List.mem_append.mp hb with z | z
     ·exact ex.new b z
     ·rw [List.mem_singleton.mp z]; exact .inr D0
  ·refine ⟨0,List.replicate xs.length none,upd H2 dd (.lst []),ad2,st1,[],[],ys,⟨by omega,by simp⟩,⟨I4,T.keep _ _ _ t2 fun b _ o e=>up2 b o e,fun b hb=>(f3 b hb).1⟩,⟨E2.mono (Ext.laid D0),S2.laid D0,gm _ _ _ _ (Ext.laid D0) g2⟩,⟨nad,DD,.nil,Nat.le_refl _⟩,⟨hcomp,rfl⟩,Ext.laid D0⟩
 have es:({ heap:=h₁,gens:=s2.gens,drawn:=s2.drawn,toks:=s2.toks+([]:List (Str×Value)).length,os:=s2.os }:Shared)={ s3 with heap:=h₁,toks:=s3.toks+([]:List (Str×Value)).length }:=by rw [←hs3]
 exact codeAny_compStart_list (loop _ es) (T.self X.A 0 _ _ _ (T.keep _ _ _ t2 fun b _ o e=>up2 b o e) (loop _ es))
end
end Dp



namespace Dp
open PySem PySem.Spec PyProof.Rows L2
variable [ClsTab]
noncomputable def ZcJ (X:Cx) (σ:L2.St) (ρ:Env) (ds:List D) (ok:Za→Prop) (st1 st2:Za) (ys:List D) (Q:VK) (J:It) (H1:Hp):Prop:=
 ∃ (ad1:List Addr) (Good:List Addr→Hp→Prop),(∀ ad H ad' H',Ext ad H ad' H'→Good ad H→Good ad' H')∧(∀ ad H p xs ys,H p=some (.lst xs)→Good ad H→Good ad (upd H p (.lst ys))) ∧
  (∀ i ad H st,Good ad H→StOk X.K ad H st→ok st→i < ds.length→J.go i H)∧(∀ i ad H st,Good ad H→StOk X.K ad H st→ok st→ds.length=i→J.stop i H)∧(∀ i ad H st v H',Good ad H→StOk X.K ad H st→ok st→J.yld i H v H'→i < ds.length→Ext ad H ad H'∧StOk X.K ad H' st∧∃ d,ds[i]?=some d∧Den X.K ad H' v d) ∧
  EnvOk X.K ad1 H1 σ ρ∧StOk X.K ad1 H1 st1∧Good ad1 H1∧Post X.K ad1 H1 (.lst st2.length) (st2++[(true,ys)]) Q
theorem ZbY {X:Cx}{σ:L2.St}{ρ:Env}{ds:List D}{st st1 st2:Za}{ys:List D}{Q:VK}{H:Hp}{ad:List Addr}{f:Ev} (E:EnvOk X.K ad H σ ρ) (S:StOk X.K ad H st) (q:f ρ st=some (.tup ds,st1)) (p:Post X.K ad H (.lst st2.length) (st2++[(true,ys)]) Q) :
  iTup X.K (tE X.K f) σ H (ZcJ X σ ρ ds (fun _=>True) st1 st2 ys Q):=by
 refine ⟨ad,ρ,st,.tup ds,st1,E,S,q,fun v ad1 H1 x1 S1 d1=>?_⟩
 obtain ⟨a,vs,rfl,ha,rv⟩:=d1.ofTup
 refine ⟨a,rfl,⟨vs,(ha).sq⟩,ad1,fun ad H=>TupAt X.K H a vs∧Dens X.K ad H vs ds,fun _ _ _ _ x g=>⟨g.1.mono x,g.2.mono x⟩,fun _ H p xs ys hp g=>⟨g.1.upd hp (by intro xs z; cases z),g.2.wr hp⟩,fun i ad H st g _ _ hi=>?_,fun i ad H st g _ _ hi=>⟨vs,(g.1).sq,by rw [g.2.length]; exact Nat.le_of_eq hi⟩,
  fun i ad H st v H' g S _ y hi=>?_,E.mono x1,S1,⟨ha,rv⟩,p.later x1⟩
 ·obtain ⟨v,e,_⟩:=g.2.get (List.getElem?_eq_getElem hi)
  exact ⟨vs,v,(g.1).sq,e⟩
 ·obtain ⟨w,e,dw⟩:=g.2.get (List.getElem?_eq_getElem hi)
  have:=y.2 vs ((g.1).sq)
  rw [e] at this; cases this
  cases y.1
  exact ⟨Ext.refl _ _,S,_,List.getElem?_eq_getElem hi,dw⟩
theorem ZaR {X:Cx}{σ:L2.St}{ρ:Env}{n:Int}{st st1 st2:Za}{ys:List D}{Q:VK}{H:Hp}{ad:List Addr}{f:Ev} (hn:n < 2 ^ 62∧-(2 ^ 62)≤n) (E:EnvOk X.K ad H σ ρ) (S:StOk X.K ad H st) (q:f ρ st=some (.int n,st1)) (p:Post X.K ad H (.lst st2.length) (st2++[(true,ys)]) Q) :
  iRng1 (tCons (tE X.K f) tNil) σ H (ZcJ X σ ρ ((List.range n.toNat).map fun (k:Nat)=>D.int (k:Int)) (fun _=>True) st1 st2 ys Q):=by
 refine ⟨ad,ρ,st,.int n,st1,E,S,q,fun v ad1 H1 x1 S1 d1=>?_⟩
 cases d1.ofInt
 refine ⟨n,rfl,hn.2,hn.1,ad1,fun _ _=>True,fun _ _ _ _ _ _=>trivial,fun _ _ _ _ _ _ _=>trivial,fun i ad H st _ _ _ hi=>(show i < n.toNat by simpa using hi),fun i ad H st _ _ _ hi=>(show n.toNat≤i by simpa using Nat.le_of_eq hi),fun i ad H st v H' _ S _ y hi=>?_,E.mono x1,S1,trivial,p.later x1⟩
 cases y.1
 have hi':i < n.toNat:=by simpa using hi
 refine ⟨Ext.refl _ _,S,.int (i:Int),?_,?_⟩
 ·rw [List.getElem?_map,List.getElem?_range hi']; rfl
 ·rw [y.2,Int.zero_add]; exact .int _
theorem Zcb {X:Cx}{σ:L2.St}{ρ:Env}{l:Nat}{c:Zag}{st st1 st2:Za}{ys:List D}{Q:VK}{H:Hp}{ad:List Addr}{f:Ev} (E:EnvOk X.K ad H σ ρ) (S:StOk X.K ad H st) (q:f ρ st=some (.lst l,st1)) (hc:st1[l]?=some c) (p:Post X.K ad H (.lst st2.length) (st2++[(true,ys)]) Q) :
  iList X.K (tE X.K f) σ H (ZcJ X σ ρ c.2 (fun s=>s[l]?=some c) st1 st2 ys Q):=by
 refine ⟨ad,ρ,st,.lst l,st1,E,S,q,fun v ad1 H1 x1 S1 d1=>?_⟩
 obtain ⟨a,rfl,ha⟩:=d1.ofLst
 obtain ⟨vs,rv,sq⟩:=S1.list ha (show st1[l]?=some (c.1,c.2) from hc)
 refine ⟨a,rfl,⟨vs,sq⟩,ad1,fun ad _=>ad[l]?=some a,fun _ _ _ _ x g=>x.pre _ _ g,fun _ _ _ _ _ _ g=>g,fun i ad H st g S e hi=>?_,fun i ad H st g S e hi=>?_,fun i ad H st v H' g S e y hi=>?_,E.mono x1,S1,ha,p.later x1⟩
 ·obtain ⟨vs,rv,sq⟩:=S.list g (show st[l]?=some (c.1,c.2) from e)
  obtain ⟨v,e,_⟩:=rv.get (List.getElem?_eq_getElem hi)
  exact ⟨vs,v,sq,e⟩
 ·obtain ⟨vs,rv,sq⟩:=S.list g (show st[l]?=some (c.1,c.2) from e)
  exact ⟨vs,sq,by rw [rv.length]; exact Nat.le_of_eq hi⟩
 ·obtain ⟨vs,rv,sq⟩:=S.list g (show st[l]?=some (c.1,c.2) from e)
  obtain ⟨w,e,dw⟩:=rv.get (List.getElem?_eq_getElem hi)
  have:=y.2 vs sq
  rw [e] at this; cases this
  cases y.1
  exact ⟨Ext.refl _ _,S,_,List.getElem?_eq_getElem hi,dw⟩
theorem J2 {tg:Expr}{xs:List Str} (h:tgN tg=some xs):∃ x px,tg=.Name x px∧xs=[x]:=by
 unfold tgN at h
 split at h
 ·cases h; exact ⟨_,_,rfl,rfl⟩
 ·cases h
theorem Jp {G:Gs}{F:Nat→Fn}{n:Nat} (ihE:ZO G F n) {X:Cx}{sc:Scope}{N:List Str} (Kx:Cxt X G F sc N) {elt:Expr}{gens:List Comprehension}{sc2:Scope}{pos:Pos}{c:CE} (h:cE G (n+1) sc N (.ListComp elt gens sc2 pos)=some c)
  {pins:List (Addr×Obj)}{s:Shared}{σ:L2.St}{H:Hp}{Q:VK} (I:L2.Inv X pins σ H s) (hq:tE X.K (ev F c) σ H Q) {use:Option (Value→Sem Unit)}{R0:Value→Shared→Prop}
  (hend:∀ C dd s5 H5 m',s5.heap.Ns C m'→(∀ h',Heap.SameBut C s5.heap h'→L2.Inv X pins σ H5 { s5 with heap:=h' })→FpOk X pins H5 C→Q (.ref dd) H5→compPost (model X.prog X.w) X.A X.xe use R0 (.ref dd) C (.ok .next) s5) :
  ∃ tg it ifs,gens=[⟨tg,it,ifs,0⟩]∧∀ pos',wpAny (model X.prog X.w) X.A (comprehension (.ListComp elt [⟨tg,it,ifs,0⟩] sc2 pos) sc2 X.env pos' (newList []) false (eval it X.env) use) R0 X.xe s:=by
 have sh:∃ tg it ifs,gens=[⟨tg,it,ifs,0⟩]:=by
  cases gens with
  | nil=>exact nomatch (show (none:Option CE)=some c from h)
  | cons g gs=>
   obtain ⟨tg,it,ifs,k⟩:=g
   have no:∀ {P:Prop},(none:Option CE)=some c→P:=fun z=>nomatch z
   cases k with
   | negSucc _=>cases gs<;>exact no h
   | ofNat m=>cases m with
    | succ _=>cases gs<;>exact no h
    | zero=>cases gs with
     | cons _ _=>exact no h
     | nil=>exact ⟨_,_,_,rfl⟩
 obtain ⟨tg,it,ifs,rfl⟩:=sh
 refine ⟨tg,it,ifs,rfl,fun pos'=>?_⟩
 replace h:(match tgN tg with
   | none=>none
   | some xs=>if Wb sc sc2 xs then
    (match X9 N (Yc sc2),(match xs with
     | [_]=>(match Z3 G sc it with
      | some a=>(cE G n sc N a).map fun c=>(some (some true),c)
      | none=>(cE G n sc N it).map fun c=>(some (some false),c))
     | _=>(match XT G sc it with
      | some a=>(cE G n sc N a).map fun c=>(some none,c)
      | none=>(cE G n sc N it).map fun c=>(none,c))),cE G n sc2 (xs++Yc sc2) elt,(match ifs with
     | []=>some (CE.cst (.bl true))
     | [c]=>cE G n sc2 (xs++Yc sc2) c
     | _=>none) with
    | some fr,some (r,ci),some ce,some cc=>some (mkC r fr ci ce cc)
    | _,_,_,_=>none) else none)=some c:=h
 split at h
 ·cases h
 ·rename_i xs htg
  split at h
  ·rename_i hsc
   split at h
   ·rename_i fr rng ci ce cc hfr hi hce hcc
    cases h
    obtain ⟨h1,h2,h3,h4,h5,h6⟩:=Y8 hsc
    have hcc':(ifs=[]∧cc=.cst (.bl true))∨∃ e,ifs=[e]∧cE G n sc2 (xs++Yc sc2) e=some cc:=by
     split at hcc
     ·cases hcc; exact .inl ⟨rfl,rfl⟩
     ·exact .inr ⟨_,rfl,hcc⟩
     ·cases hcc
    obtain ⟨ad,ρ,st,d,st',E,S,e,p⟩:=hq
    obtain ⟨cl,ec,c1,c2⟩:=Qc (env:=X.env) (sc:=sc2) (fun y hy hf=>by
     have hm:(y.1,NameKind.free)∈sc2.names:=by rw [←hf]; exact hy
     have hk:=Kx.cel y.1 (h6 y.1 (mem_frees.mpr hm)).1
     exact I.ok.has y.1 hk)
    have go:∀ {bd:D→List (Option D)}{ds:List D}{ok:Za→Prop}{st1 st2:Za}{ys:List D},Ja X.K tg xs bd ds→ds.length≤1000→Yx ok (fun d s=>ev F ce (YJ bd ρ fr d) s) (fun d s=>ev F cc (YJ bd ρ fr d) s) ds st1=some (ys,st2)→
      (Zh it=true∧wpAny (model X.prog X.w) X.A (eval it X.env) (fun v s1=>wpAny (model X.prog X.w) X.A (pyIter v) (PIE X pins σ tg (ZcJ X σ ρ ds ok st1 st2 ys Q)) X.xe s1) X.xe s)→
      wpAny (model X.prog X.w) X.A (comprehension (.ListComp elt [⟨tg,it,ifs,0⟩] sc2 pos) sc2 X.env pos' (newList []) false (eval it X.env) use) R0 X.xe s:=fun {bd ds ok st1 st2 ys} B hz q3 pi=>by
     refine wpAny_comprehension_free (use:=use) rfl (Z5 pi.1) ec h1 h4 (thn pi.2 fun v s1 h1'=>thn h1' fun itv s2 h2'=>?_)
     obtain ⟨ita,fp,tn,J,H2,rfl,I2,T,t2,f2,ad1,Good,gm,gw,go,stop,yl,E2,S2,g2,p2⟩:=h2'
     exact Zae Kx ihE hsc hfr hce hcc' c1 c2 Good gm gw go stop yl I2 B T t2 f2 E2 S2 g2 q3 hz p2 hend
    obtain ⟨x,px,rfl,rfl⟩:=J2 htg
    ·replace hi:(match Z3 G sc it with
      | some a=>(cE G n sc N a).map fun c=>(some (some true),c)
      | none=>(cE G n sc N it).map fun c=>(some (some false),c))=some (rng,ci):=hi
     obtain ⟨rb,rfl⟩:∃ b,rng=some (some b):=by
      split at hi
      ·rename_i a _
       cases q:cE G n sc N a with
       | none=>rw [q] at hi; cases hi
       | some ca=>rw [q] at hi; cases hi; exact ⟨_,rfl⟩
      ·cases q:cE G n sc N it with
       | none=>rw [q] at hi; cases hi
       | some ca=>rw [q] at hi; cases hi; exact ⟨_,rfl⟩
     have e:X3 one (UN rb) fr (ev F ci) (ev F ce) (ev F cc) ρ st=some (d,st'):=e
     unfold X3 at e
     split at e
     ·rename_i x0 st1 q1
      split at e
      ·rename_i ds ok q2
       split at e
       ·rename_i hz
        split at e
        ·rename_i ys st2 q3
         cases e
         refine go ZbF hz q3 ?_
         split at hi
         ·rename_i a ha
          cases q:cE G n sc N a with
          | none=>rw [q] at hi; cases hi
          | some ca=>
           rw [q] at hi
           cases hi
           obtain ⟨hp,pi⟩:=Wu (tg:=.Name x px) Kx ha (Zm q) (ihE X sc N Kx a _ q).pe
           refine ⟨hp,pi pins s σ H _ I ?_⟩
           cases x0 with
           | int k=>
            have q2:(match (if k < 2 ^ 62∧-(2 ^ 62)≤k then some ((List.range k.toNat).map fun (k:Nat)=>D.int (k:Int)) else none) with
             | some xs=>some (xs,fun _=>True)
             | none=>none)=some (ds,ok):=q2
            by_cases hk:k < 2 ^ 62∧-(2 ^ 62)≤k
            ·rw [if_pos hk] at q2
             cases q2
             exact ZaR hk E S q1 p
            ·rw [if_neg hk] at q2
             cases q2
           | _=>cases q2
         ·cases q:cE G n sc N it with
          | none=>rw [q] at hi; cases hi
          | some ca=>
           rw [q] at hi
           cases hi
           refine ⟨Zm q,?_⟩
           cases x0 with
           | tup xs=>cases q2; exact pi_tup (ihE X sc N Kx it _ q).pe pins s σ H _ I (ZbY E S q1 p)
           | lst l=>
            have q2:(match st1[l]? with
             | some c=>some (c.2,fun s=>s[l]?=some c)
             | none=>none)=some (ds,ok):=q2
            cases q4:st1[l]? with
            | none=>rw [q4] at q2; cases q2
            | some c0=>
             rw [q4] at q2
             cases q2
             exact pi_list (ihE X sc N Kx it _ q).pe pins s σ H _ I (Zcb E S q1 q4 p)
           | _=>cases q2
        ·cases e
       ·cases e
      ·cases e
     ·cases e
   ·cases h
  ·cases h
theorem Zdq {G:Gs}{F:Nat→Fn}:XD G F:=by
 intro n ihE
 refine ⟨fun X sc N Kx elt gens sc2 pos c h=>SE.of ?_,fun X sc N K y i p elt gens sc2 epos pos c hi h hsw=>?_⟩
 ·intro pins s σ H Q I hq
  obtain ⟨tg,it,ifs,rfl,go⟩:=Jp ihE Kx h I hq (use:=none) (R0:=EP X pins σ Q) fun C dd s5 H5 m' hn hI _ q=>⟨m',hn,fun h' sb=>⟨.ref dd,H5,hI h' sb,rfl,q⟩⟩
  rw [eval_ListComp]
  exact go _
 ·intro pins s σ H D I hq
  obtain ⟨tg,it,ifs,rfl,go⟩:=Jp ihE K.toCxt h I hq (use:=some (assign (.Name y p) X.env)) (R0:=fun _ s'=>SP X pins D .next s') fun C dd s5 H5 m' hn hI fo q=>by
   have I5:=hI s5.heap (Heap.SameBut.refl _ _)
   show wpAny _ X.A (assign (.Name y p) X.env (.ref dd)) _ _ s5
   refine wpAny_assign_Name (store_ok2 (v:=.ref dd) I5 (by rw [K.hN]; exact K.nd) (by rw [K.hN]; exact XM hi) (K.loc _ (V1 hi)) rfl (fun s6 I6 ⟨a,sb,ha⟩=>?_) (.inl (K.fn _)))
   have ne:C≠a:=by
    rcases ha with z | z
    ·rw [z]; exact fo.2.1
    ·exact fun w=>fo.2.2.2.2.1 _ _ z w.symm
   exact ⟨m',hn.sameBut sb ne,fun h3 sb3=>⟨_,H5,I6.turned (t':=s6.toks) (fun b o hb e=>sb3.extBut b o hb e) fo.1 fo.2.1 fo.2.2.2.1 fo.2.2.2.2.1 fo.2.2.2.2.2,q⟩⟩
  rw [exec_Assign_Name_used _ _ _ _ hsw]
  refine wpAny_bind (wpAny_standAt (wpAny_bind ?_))
  show wpAny _ X.A (do let _ ←comprehension (.ListComp elt [⟨tg,it,ifs,0⟩] sc2 epos) sc2 X.env _ (newList []) false (eval it X.env) (some (assign (.Name y p) X.env))) _ _ s
  exact wpAny_bind (wpAny_mono (go _) (fun _ s' hq=>wpAny_pure (wpAny_pure hq)) fun _ _ e=>e)
end Dp


namespace Dp
open PySem

inductive P where
 | non | bl (b:Bool) | int (i:Int) | str (x:Str) | tup (xs:List P) | lst (m:Bool) (xs:List P) | dct (ks:List Str) (vs:List P) | obj (i:Nat) | kt (ks:List Str)

mutual
noncomputable def noL:P→Bool
 | .tup xs=>Qi xs
 | .lst _ _=>false
 | .dct _ vs=>Qi vs
 | _=>true
noncomputable def Qi:List P→Bool
 | []=>true
 | x :: xs=>noL x&&Qi xs
end
mutual
noncomputable def ofD:D→Option P
 | .non=>some .non
 | .bl b=>some (.bl b)
 | .int i=>some (.int i)
 | .str x=>some (.str x)
 | .tup xs=>(Wd xs).map .tup
 | .kt ks=>some (.kt ks)
 | _=>none
noncomputable def Wd:List D→Option (List P)
 | []=>some []
 | x :: xs=>match ofD x,Wd xs with
  | some y,some ys=>some (y :: ys)
  | _,_=>none
end
mutual
noncomputable def Wl:P→P→Bool
 | .non,.non=>true
 | .bl a,.bl b=>a==b
 | .int a,.int b=>decide (a=b)
 | .str a,.str b=>decide (a=b)
 | .tup a,.tup b=>Xj a b
 | _,_=>false
noncomputable def Xj:List P→List P→Bool
 | [],[]=>true
 | x :: xs,y :: ys=>Wl x y&&Xj xs ys
 | _,_=>false
end
mutual
noncomputable def okP:Nat→P→Bool
 | _,.non=>true
 | _,.int _=>true
 | _,.str _=>true
 | n+1,.tup xs=>Vf n xs
 | _,_=>false
noncomputable def Vf:Nat→List P→Bool
 | _,[]=>true
 | n,x :: xs=>okP n x&&Vf n xs
end
noncomputable def Zbj (_ _:List P):Option Bool:=none
noncomputable def eqP:P→P→Option Bool
 | .bl a,.bl b=>some (a==b)
 | .bl _,.str _=>some false
 | .str _,.bl _=>some false
 | .bl _,.non=>some false
 | .non,.bl _=>some false
 | .non,.non=>some true
 | .non,.int _=>some false
 | .non,.str _=>some false
 | .int _,.non=>some false
 | .str _,.non=>some false
 | .int a,.int b=>some (decide (a=b))
 | .str a,.str b=>some (decide (a=b))
 | .int _,.str _=>some false
 | .str _,.int _=>some false
 | .tup xs,.tup ys=>if okP 8 (.tup xs)&&okP 8 (.tup ys) then some (Xj xs ys) else Zbj xs ys
 | .lst _ xs,.lst _ []=>some xs.isEmpty
 | .lst _ [],.lst _ ys=>some ys.isEmpty
 | .lst _ xs,.lst _ ys=>if Vf 7 xs&&Vf 7 ys then some (Xj xs ys) else none
 | _,_=>none
noncomputable def Y4 (op:Operator) (x y:P):Option P:=
 match x,y with
 | .int i,.int j=>match Zct op i j with
  | some k=>some (.int k)
  | none=>none
 | .tup xs,.tup ys=>if Vc op=true∧xs.length+ys.length≤Zi then some (.tup (xs++ys)) else none
 | .tup [x],.int j=>if UF op=true∧(j≤1000∧-1000≤j) then some (.tup (List.replicate j.toNat x)) else none
 | .lst _ xs,.lst _ ys=>if Vc op=true∧xs.length+ys.length≤Zi then some (.lst true (xs++ys)) else none
 | .lst true [x],.int j=>if UF op=true∧(j≤1000∧-1000≤j) then some (.lst true (List.replicate j.toNat x)) else none
 | _,_=>none
noncomputable def inP:Int→List P→Option Bool
 | _,[]=>some false
 | k,.int i :: r=>(inP k r).map fun b=>decide (i=k)||b
 | _,_=>none
noncomputable def X1:Str→List P→Option Bool
 | _,[]=>some false
 | k,.str i :: r=>(X1 k r).map fun b=>decide (i=k)||b
 | _,_=>none
noncomputable def YC:List Str→List P→Str→Option P
 | k :: ks,v :: vs,x=>if k=x then some v else YC ks vs x
 | _,_,_=>none
noncomputable def ZaH (f:Int→Int→Bool):P→P→Option Bool
 | .int i,.int j=>some (f i j)
 | _,_=>none
noncomputable def Zba:List P→List P→Option Bool
 | x :: xs,y :: ys=>if Wl x y=true then Zba xs ys else match x,y with
  | .int i,.int j=>some (decide (i < j))
  | .str a,.str b=>some (decide (a.cps.toList < b.cps.toList))
  | _,_=>none
 | [],ys=>some (decide (0 < ys.length))
 | _ :: _,[]=>some false
noncomputable def ltP (x y:P):Option Bool:=match x,y with
 | .tup xs,.tup ys=>if okP 8 (.tup xs)&&okP 8 (.tup ys) then Zba xs ys else none
 | x,y=>ZaH (fun i j=>decide (i < j)) x y
noncomputable def Zf2 (x y:P):Option Bool:=ltP x y
noncomputable def Zer (x y:P):Option Bool:=match x,y with
 | .int k,.lst _ xs=>inP k xs
 | .str k,.lst _ xs=>X1 k xs
 | .int k,.tup xs=>inP k xs
 | .str k,.tup xs=>X1 k xs
 | .str k,.dct ks vs=>some (YC ks vs k).isSome
 | _,_=>none
noncomputable def niP (x y:P):Option Bool:=match y with
 | .dct _ _=>none
 | y=>(Zer x y).map not
noncomputable def Zhh:P→Option Bool
 | .non=>some true
 | .int _=>some false
 | .str _=>some false
 | .bl _=>some false
 | .tup _=>some false
 | .lst _ _=>some false
 | .dct _ _=>none
 | .obj _=>none
 | .kt _=>none
noncomputable def ZhY (b:Bool):P→Option Bool
 | .bl a=>some (a==b)
 | _=>none
noncomputable def ZeO (x:P):P→Option Bool
 | .non=>Zhh x
 | .bl b=>ZhY b x
 | _=>none
noncomputable def Zfz (op:CmpOp) (x y:P):Option Bool:=
 match op with
 | .Lt=>Zf2 x y
 | .LtE=>ZaH (fun i j=>decide (i≤j)) x y
 | .Gt=>ZaH (fun i j=>decide (j < i)) x y
 | .GtE=>ZaH (fun i j=>decide (j≤i)) x y
 | .Eq=>eqP x y
 | .NotEq=>(eqP x y).map not
 | .In=>Zer x y
 | .NotIn=>niP x y
 | .Is=>ZeO x y
 | .IsNot=>(ZeO x y).map not
noncomputable def atP (xs:List P) (i:Int):Option P:=(ixN xs.length i).bind fun j=>xs[j]?
noncomputable def ixP:P→P→Option P
 | .tup xs,.int i=>atP xs i
 | .lst _ xs,.int i=>atP xs i
 | .dct ks vs,.str k=>YC ks vs k
 | .kt ks,.int i=>atP (ks.map .str) i
 | _,_=>none
noncomputable def WP (xs:List P) (lo hi:Option Int):List P:=(xs.drop (sIx xs.length 0 lo)).take (sIx xs.length xs.length hi - sIx xs.length 0 lo)
noncomputable def ZP (x:P) (lo hi:Option Int):Option P:=
 match x with
 | .tup xs=>if sIx xs.length 0 lo=0∧sIx xs.length xs.length hi=xs.length then some (.tup xs) else some (.tup (WP xs lo hi))
 | .lst _ xs=>some (.lst true (WP xs lo hi))
 | _=>none
noncomputable def Xp:P→P→P→Option P
 | x,.non,.non=>ZP x none none
 | x,.int i,.non=>ZP x (some i) none
 | x,.non,.int j=>ZP x none (some j)
 | x,.int i,.int j=>ZP x (some i) (some j)
 | _,_,_=>none
noncomputable def Q3:P→Option P
 | .tup xs=>some (.int xs.length)
 | .lst _ xs=>some (.int xs.length)
 | .kt ks=>some (.int ks.length)
 | _=>none
noncomputable def X6:Ty→P→Option P
 | .int,.int _=>some (.bl true)
 | .int,.bl _=>some (.bl true)
 | .int,.str _=>some (.bl false)
 | .int,.tup _=>some (.bl false)
 | .int,.non=>some (.bl false)
 | .bool,.bl _=>some (.bl true)
 | .bool,.int _=>some (.bl false)
 | .bool,.str _=>some (.bl false)
 | .bool,.tup _=>some (.bl false)
 | .bool,.non=>some (.bl false)
 | .str,.str _=>some (.bl true)
 | .str,.int _=>some (.bl false)
 | .str,.bl _=>some (.bl false)
 | .str,.tup _=>some (.bl false)
 | .str,.non=>some (.bl false)
 | .tuple,.tup _=>some (.bl true)
 | .tuple,.int _=>some (.bl false)
 | .tuple,.bl _=>some (.bl false)
 | .tuple,.str _=>some (.bl false)
 | .tuple,.non=>some (.bl false)
 | _,_=>none
noncomputable def JV:P→Option P
 | .int i=>some (.int (-i))
 | _=>none
noncomputable def Zak:P→Option P
 | .bl k=>some (.bl (!k))
 | _=>none
noncomputable def YE (op:CmpOp) (x y:P):Option P:=(Zfz op x y).map .bl
noncomputable def Q4:P→Option P
 | .tup xs=>some (.lst true xs)
 | _=>none
noncomputable def VT:P→P→Option P
 | x,.tup xs=>if xs.length < 1000 then some (.tup (x :: xs)) else none
 | _,_=>none
noncomputable def Vu:P→Option P
 | .int i=>some (.int i)
 | _=>none
noncomputable def X7 (F:Nat→List P→Option P) (tab:List (Nat×Nat)):P→P→Option P
 | .obj i,.tup xs=>match tab.lookup i with
  | some j=>F j (.obj i :: xs)
  | none=>none
 | _,_=>none
noncomputable def Zdh:P→P→Option P
 | .kt ks,.tup [.str k]=>match V3 k ks with
  | some i=>some (.int (i:Int))
  | none=>none
 | _,_=>none
noncomputable def Zdk (l:List Nat):P→Option P
 | .obj i=>if l.contains i=true then some (.bl true) else none
 | _=>none
noncomputable def WZ (g:List P→Option P) (ds:List D):P→Option P
 | .tup xs=>match Wd ds with
  | some es=>g (xs++es)
  | none=>none
 | _=>none
noncomputable def Wc:P→Option P
 | .tup xs=>some (.tup xs)
 | .lst _ xs=>some (.tup xs)
 | _=>none
noncomputable def UH:P→Option P
 | .tup xs=>some (.lst true xs)
 | .lst _ xs=>some (.lst true xs)
 | _=>none
noncomputable def Zig:P→Option P
 | .int i=>some (.int i)
 | .bl true=>some (.int 1)
 | .bl false=>some (.int 0)
 | _=>none
noncomputable def Zai:P→P→Option P
 | .int i,.int j=>some (.int (if j < i then j else i))
 | _,_=>none
noncomputable def JQ:P→P→Option P
 | .int i,.int j=>some (.int (if j > i then j else i))
 | _,_=>none
noncomputable def QS:List P→Option (List P)
 | [.int i,.int j]=>some (if j < i then [.int j,.int i] else [.int i,.int j])
 | _=>none
noncomputable def Zaw (k:Bool) (xs:List P):Option (List P):=if k then QS xs else some xs.reverse
noncomputable def rsP (k:Bool):P→Option P
 | .lst _ xs=>(Zaw k xs).map fun ys=>.lst true ys
 | _=>none
noncomputable def ZcW:P→Option P
 | .int i=>some (.int (-i - 1))
 | _=>none
noncomputable def ZdA (ng:Bool):P→P→Option P
 | .int x,.int n=>if -(2 ^ 62)≤n∧n < 2 ^ 62 then some (.bl (ng != decide (0≤x∧x < n))) else none
 | _,_=>none
noncomputable def U8:P→P→Option P
 | .int a,.int b=>if ZR a b 1=true∧b - a≤1000 then some (.lst true ((Z7 a b 1).map .int)) else none
 | _,_=>none
noncomputable def Uz (ks:List Str) (ds:List D):P→Option P
 | .str k=>(ZF ks ds k).bind ofD
 | _=>none
noncomputable def ZcV:P→P→P→Option P
 | .dct ks vs,.str k,d=>some ((YC ks vs k).getD d)
 | _,_,_=>none
noncomputable def VD (ks:List Str):P→Option P
 | .tup vs=>if ks.length=vs.length∧(ks.Nodup∧ks≠[])∧ks.length≤15 then some (.dct ks vs) else none
 | _=>none
noncomputable def Z8 (n:Int):List P:=(List.range n.toNat).map fun (k:Nat)=>P.int (k:Int)
noncomputable def W7 (rng:Bool) (x:P):Option (List P):=
 match rng,x with
 | true,.int n=>if n < 2 ^ 62∧-(2 ^ 62)≤n then some (Z8 n) else none
 | false,.tup xs=>some xs
 | _,_=>none
noncomputable def Y1 (f c:P→Option P):List P→Option (List P)
 | []=>some []
 | x :: xs=>match c x with
  | some (.bl true)=>match f x with
   | some y=>match Y1 f c xs with
    | some ys=>some (y :: ys)
    | none=>none
   | none=>none
  | some (.bl false)=>Y1 f c xs
  | _=>none
noncomputable def WG:P→Option (List Int)
 | .tup [.int a,.int b]=>if ZR a b 1 then some (Z7 a b 1) else none
 | .tup [.int a,.int b,.int c]=>if ZR a b c then some (Z7 a b c) else none
 | _=>none
noncomputable def YL (rng:Bool) (x:P):Option (List P):=match W7 rng x with
 | some xs=>some xs
 | none=>match rng,x with
  | false,.lst _ xs=>some xs
  | _,_=>none
noncomputable abbrev Zo:=List (Option P)
noncomputable abbrev PEv:=Zo→Option P
noncomputable def pq1 (fa:PEv) (g:P→Option P):PEv:=fun π=>match fa π with
 | some x=>g x
 | none=>none
noncomputable def pq2 (fa fb:PEv) (g:P→P→Option P):PEv:=fun π=>match fa π with
 | some x=>match fb π with
  | some y=>g x y
  | none=>none
 | none=>none
noncomputable def pq3 (fa fb fc:PEv) (g:P→P→P→Option P):PEv:=fun π=>match fa π with
 | some x=>match fb π with
  | some y=>match fc π with
   | some z=>g x y z
   | none=>none
  | none=>none
 | none=>none
noncomputable def Yq (fc ft ff:PEv):PEv:=fun π=>match fc π with
 | some (.bl true)=>ft π
 | some (.bl false)=>ff π
 | _=>none
noncomputable def Xx (i:Nat):PEv:=fun π=>match π[i]? with
 | some (some p)=>some p
 | _=>none
noncomputable def YO (π:Zo) (fr:List Nat) (p:P):Zo:=some p :: fr.map fun i=>(π[i]?).join
noncomputable def ZbD (p:P):List (Option P):=[some p]
noncomputable def QX:P→List (Option P)
 | .tup [a,b]=>[some a,some b]
 | _=>[]
noncomputable def Uq:Nat→List P→List P
 | _,[]=>[]
 | k,x :: xs=>.tup [.int (k:Int),x] :: Uq (k+1) xs
noncomputable def Uf:P→Option (List P)
 | .tup xs=>some (Uq 0 xs)
 | .lst _ xs=>some (Uq 0 xs)
 | _=>none
noncomputable def ZbK:P→Bool
 | .tup [_,_]=>true
 | _=>false
noncomputable def Uu:P→Option (List P)
 | .tup xs=>if xs.all ZbK=true then some xs else none
 | _=>none
noncomputable def Yz (b:P→List (Option P)) (π:Zo) (fr:List Nat) (p:P):Zo:=b p++fr.map fun i=>(π[i]?).join
noncomputable def ZU (b:P→List (Option P)) (w:P→Option (List P)) (fr:List Nat) (fi fe fc:PEv):PEv:=fun π=>match fi π with
 | some x=>match w x with
  | some xs=>if xs.length≤1000 then
    match Y1 (fun p=>fe (Yz b π fr p)) (fun p=>fc (Yz b π fr p)) xs with
    | some ys=>some (.lst true ys)
    | none=>none
   else none
  | none=>none
 | none=>none
noncomputable def pe (F:Nat→List P→Option P):CE→PEv
 | .var i=>Xx i
 | .cst d=>fun _=>ofD d
 | .bin op a b=>pq2 (pe F a) (pe F b) (Y4 op)
 | .neg a=>pq1 (pe F a) JV
 | .cmp op a b=>pq2 (pe F a) (pe F b) (YE op)
 | .not a=>pq1 (pe F a) Zak
 | .and a b=>Yq (pe F a) (pe F b) (fun _=>some (.bl false))
 | .or a b=>Yq (pe F a) (fun _=>some (.bl true)) (pe F b)
 | .ife c a b=>Yq (pe F c) (pe F a) (pe F b)
 | .tupE a=>pe F a
 | .lstE a=>pq1 (pe F a) Q4
 | .anil=>fun _=>some (.tup [])
 | .acons a r=>pq2 (pe F a) (pe F r) VT
 | .ix a b=>pq2 (pe F a) (pe F b) ixP
 | .slice a lo hi=>pq3 (pe F a) (pe F lo) (pe F hi) Xp
 | .nop=>fun _=>some .non
 | .part a=>pq1 (pe F a) Vu
 | .call f a ds=>pq1 (pe F a) (WZ (F f) ds)
 | .len a=>pq1 (pe F a) Q3
 | .tupleOf a=>pq1 (pe F a) Wc
 | .listOf a=>pq1 (pe F a) UH
 | .intOf _=>fun _=>none
 | .min a b=>pq2 (pe F a) (pe F b) Zai
 | .max a b=>pq2 (pe F a) (pe F b) JQ
 | .isi T a=>pq1 (pe F a) (X6 T)
 | .rs k a=>pq1 (pe F a) (rsP k)
 | .inv a=>pq1 (pe F a) ZcW
 | .tupR _=>fun _=>none
 | .look ks ds a=>pq1 (pe F a) (Uz ks ds)
 | .dget a k d=>pq3 (pe F a) (pe F k) (pe F d) ZcV
 | .inR ng a b=>pq2 (pe F a) (pe F b) (ZdA ng)
 | .all _=>fun _=>none
 | .any _=>fun _=>none
 | .comp rng fr it elt cnd=>ZU ZbD (YL rng) fr (pe F it) (pe F elt) (pe F cnd)
 | .comp2 fr it elt cnd=>ZU QX Uf fr (pe F it) (pe F elt) (pe F cnd)
 | .compT fr it elt cnd=>ZU QX Uu fr (pe F it) (pe F elt) (pe F cnd)
 | .lstR a b=>pq2 (pe F a) (pe F b) U8
 | .new i=>fun _=>some (.obj i)
 | .meth tab o a=>pq2 (pe F o) (pe F a) (X7 F tab)
 | .isc l a=>pq1 (pe F a) (Zdk l)
 | .tix o a=>pq2 (pe F o) (pe F a) Zdh
 | .dict ks a=>pq1 (pe F a) (VD ks)

noncomputable def noM (M:List Nat):CE→Bool
 | .var i=>!M.contains i
 | .cst _=>true
 | .bin _ a b=>noM M a&&noM M b
 | .neg a=>noM M a
 | .cmp _ a b=>noM M a&&noM M b
 | .not a=>noM M a
 | .and a b=>noM M a&&noM M b
 | .or a b=>noM M a&&noM M b
 | .ife c a b=>noM M c&&(noM M a&&noM M b)
 | .tupE a=>noM M a
 | .lstE a=>noM M a
 | .anil=>true
 | .acons a r=>noM M a&&noM M r
 | .ix a b=>noM M a&&noM M b
 | .slice a lo hi=>noM M a&&(noM M lo&&noM M hi)
 | .nop=>true
 | .part a=>noM M a
 | .call _ a _=>noM M a
 | .len a=>noM M a
 | .tupleOf a=>noM M a
 | .listOf a=>noM M a
 | .intOf a=>noM M a
 | .min a b=>noM M a&&noM M b
 | .max a b=>noM M a&&noM M b
 | .isi _ a=>noM M a
 | .rs _ a=>noM M a
 | .inv a=>noM M a
 | .tupR a=>noM M a
 | .look _ _ a=>noM M a
 | .dget a k d=>noM M a&&(noM M k&&noM M d)
 | .inR _ a b=>noM M a&&noM M b
 | .all a=>noM M a
 | .any a=>noM M a
 | .comp _ fr it _ _=>noM M it&&fr.all fun i=>!M.contains i
 | .comp2 fr it _ _=>noM M it&&fr.all fun i=>!M.contains i
 | .compT fr it _ _=>noM M it&&fr.all fun i=>!M.contains i
 | .lstR a b=>noM M a&&noM M b
 | .new _=>true
 | .meth _ o a=>noM M o&&noM M a
 | .isc _ a=>noM M a
 | .tix o a=>noM M o&&noM M a
 | .dict _ a=>noM M a
noncomputable def WT (i:Nat):Bool:=i==125
noncomputable def WE:CE→Bool
 | .call f _ _=>WT f
 | .bin _ _ _=>true
 | .lstE _=>true
 | .slice _ _ _=>true
 | .listOf _=>true
 | .rs _ _=>true
 | .comp ..=>true
 | .comp2 ..=>true
 | .compT ..=>true
 | .lstR ..=>true
 | _=>false
noncomputable def Z9:CS→List Nat
 | .seq a b=>Z9 a++Z9 b
 | .app i _=>[i]
 | .ext i _=>[i]
 | .put i _ _=>[i]
 | .ite _ a b=>Z9 a++Z9 b
 | .for1 _ _ _ b=>Z9 b
 | .for3 _ _ b=>Z9 b
 | .forP _ _ _ b=>Z9 b
 | .forE _ _ _ b=>Z9 b
 | .for4 _ _ _ _ b=>Z9 b
 | .for2 _ _ _ b=>Z9 b
 | .whl _ b=>Z9 b
 | _=>[]
noncomputable def mvT:CE→List Nat
 | .var j=>[j]
 | _=>[]
noncomputable def Zz:CS→List Nat
 | .seq a b=>Zz a++Zz b
 | .app i _=>[i]
 | .ext i _=>[i]
 | .put i _ _=>[i]
 | .set i e=>i :: mvT e
 | .set2 i j _=>[i,j]
 | .ite _ a b=>Zz a++Zz b
 | .for1 i _ _ b=>i :: Zz b
 | .for3 i _ b=>i :: Zz b
 | .forP i j _ b=>i :: j :: Zz b
 | .forE i j _ b=>i :: j :: Zz b
 | .for4 i j l _ b=>i :: j :: l :: Zz b
 | .for2 i j _ b=>i :: j :: Zz b
 | .whl _ b=>Zz b
 | _=>[]
inductive PFl where
 | nx (π:Zo) | rt (p:P) | bk (π:Zo) | ct (π:Zo)
noncomputable abbrev PEx:=Zo→Option PFl
noncomputable def Zt (π:Zo) (i:Nat) (p:P):Zo:=π.set i (some p)
noncomputable def ZD (body:P→Zo→Option PFl):List P→Zo→Option PFl
 | [],π=>some (.nx π)
 | d :: ds,π=>match body d π with
  | some (.nx π')=>ZD body ds π'
  | some (.ct π')=>ZD body ds π'
  | some (.bk π')=>some (.nx π')
  | some (.rt v)=>some (.rt v)
  | none=>none
noncomputable def WR (f g:PEx):PEx:=fun π=>match f π with
 | some (.nx π')=>g π'
 | r=>r
noncomputable def QO (f:PEv):PEx:=fun π=>match f π with
 | some d=>some (.rt d)
 | none=>none
noncomputable def Zv (M:List Nat) (e:CE) (p:P):Bool:=noM M e||noL p
noncomputable def WI (M:List Nat) (e:CE) (p:P):Bool:=match p with
 | .lst true xs=>WE e&&(noM M e||Qi xs)
 | _=>false
noncomputable def mvP (M:List Nat) (i:Nat) (e:CE) (p:P) (π:Zo):Option PFl:=match e with
 | .var j=>if M.contains j&&!M.contains i then some (.nx (Zt (π.set j none) i p)) else none
 | _=>none
noncomputable def Ul (M:List Nat) (i:Nat) (e:CE) (f:PEv):PEx:=fun π=>match f π with
 | some p=>if (if M.contains i then WI M e p else Zv M e p) then some (.nx (Zt π i p)) else mvP M i e p π
 | none=>none
noncomputable def UI (M:List Nat) (i j:Nat) (e:CE) (f:PEv):PEx:=fun π=>match f π with
 | some (.tup [x,y])=>if !M.contains i&&!M.contains j&&Zv M e (.tup [x,y]) then some (.nx (Zt (Zt π i x) j y)) else none
 | _=>none
noncomputable def Je (M:List Nat) (i:Nat) (e:CE) (f:PEv):PEx:=fun π=>match π[i]? with
 | some (some (.lst true xs))=>match f π with
  | some p=>if M.contains i&&Zv M e p&&decide (xs.length < Zi) then some (.nx (Zt π i (.lst true (xs++[p])))) else none
  | none=>none
 | _=>none
noncomputable def QF (M:List Nat) (i:Nat) (e:CE) (f:PEv):PEx:=fun π=>match π[i]? with
 | some (some (.lst true xs))=>match f π with
  | some (.lst true ys)=>if M.contains i&&noM M e&&decide (xs.length+ys.length≤Zi) then some (.nx (Zt π i (.lst true (xs++ys)))) else none
  | _=>none
 | _=>none
noncomputable def Zcs (M:List Nat) (i:Nat) (e:CE) (k f:PEv):PEx:=fun π=>match f π with
 | some p=>match π[i]? with
  | some (some (.lst true xs))=>match k π with
   | some (.int j)=>match ixN xs.length j with
    | some q=>if M.contains i&&Zv M e p then some (.nx (Zt π i (.lst true (xs.set q p)))) else none
    | none=>none
   | _=>none
  | _=>none
 | none=>none
noncomputable def QA (c:PEv) (f g:PEx):PEx:=fun π=>match c π with
 | some (.bl true)=>f π
 | some (.bl false)=>g π
 | _=>none
noncomputable def Xk (M T:List Nat) (e:CE) (xs:List P):Bool:=noM M e||(WE e&&Qi xs)||(match e with
 | .var j=>!T.contains j
 | _=>false)
noncomputable def Uw (M T:List Nat) (i:Nat) (rng:Bool) (e:CE) (it:PEv) (b:PEx):PEx:=fun π=>match it π with
 | some x=>match W7 rng x with
  | some xs=>if !M.contains i&&(rng||Zv M e x) then ZD (fun d π=>b (Zt π i d)) xs π else none
  | none=>match rng,x with
   | false,.lst _ xs=>if !M.contains i&&Xk M T e xs then ZD (fun d π=>b (Zt π i d)) xs π else none
   | _,_=>none
 | none=>none
noncomputable def W1 (M:List Nat) (i:Nat) (it:PEv) (b:PEx):PEx:=fun π=>match it π with
 | some x=>match WG x with
  | some xs=>if !M.contains i then ZD (fun d π=>b (Zt π i d)) (xs.map .int) π else none
  | none=>none
 | none=>none
noncomputable def XB (i j:Nat) (b:PEx) (d:P) (π:Zo):Option PFl:=match d with
 | .tup [x,y]=>b (Zt (Zt π i x) j y)
 | _=>none
noncomputable def WV (M T:List Nat) (i j:Nat) (e:CE) (it:PEv) (b:PEx):PEx:=fun π=>match it π with
 | some (.lst _ xs)=>if !M.contains i&&!M.contains j&&Xk M T e xs then ZD (XB i j b) xs π else none
 | some (.tup xs)=>if !M.contains i&&!M.contains j&&Zv M e (.tup xs) then ZD (XB i j b) xs π else none
 | _=>none
noncomputable def YN (body:P→P→Zo→Option PFl):List (P×P)→Zo→Option PFl
 | [],π=>some (.nx π)
 | p :: ps,π=>match body p.1 p.2 π with
  | some (.nx π')=>YN body ps π'
  | some (.ct π')=>YN body ps π'
  | some (.bk π')=>some (.nx π')
  | some (.rt v)=>some (.rt v)
  | none=>none
noncomputable def Wk:Nat→List P→List (P×P)
 | _,[]=>[]
 | k,x :: xs=>(.int (k:Int),x) :: Wk (k+1) xs
noncomputable def ZaP:P→Option (List P)
 | .tup xs=>some xs
 | .lst _ xs=>some xs
 | _=>none
noncomputable def WO (M:List Nat) (i j:Nat) (e:CE) (it:PEv) (b:PEx):PEx:=fun π=>match it π with
 | some x=>match ZaP x with
  | some xs=>if !M.contains i&&!M.contains j&&noM M e then YN (fun x y π=>b (Zt (Zt π i x) j y)) (Wk 0 xs) π else none
  | none=>none
 | none=>none
noncomputable def px (F:Nat→List P→Option P) (M:List Nat):CS→PEx
 | .skip=>fun π=>some (.nx π)
 | .seq a b=>WR (px F M a) (px F M b)
 | .ret e=>QO (pe F e)
 | .set i e=>Ul M i e (pe F e)
 | .set2 i j e=>UI M i j e (pe F e)
 | .app i e=>Je M i e (pe F e)
 | .ext i e=>QF M i e (pe F e)
 | .put i k e=>Zcs M i e (pe F k) (pe F e)
 | .ite c a b=>QA (pe F c) (px F M a) (px F M b)
 | .for1 i rng it b=>Uw M (Zz b) i rng it (pe F it) (px F M b)
 | .forP _ _ _ _=>fun _=>none
 | .forE i j it b=>WO M i j it (pe F it) (px F M b)
 | .for3 i it b=>W1 M i (pe F it) (px F M b)
 | .for4 _ _ _ _ _=>fun _=>none
 | .for2 i j it b=>WV M (Zz b) i j it (pe F it) (px F M b)
 | .whl _ _=>fun _=>none
 | .brk=>fun π=>some (.bk π)
 | .cont=>fun π=>some (.ct π)
 | .stop=>fun _=>none
noncomputable def fnP (F:Nat→List P→Option P) (f:FD):List P→Option P:=fun ds=>
 if ds.length=f.ps∧(Z9 f.body).all (fun i=>decide (f.ps≤i))=true then
  match px F (Z9 f.body) f.body (ds.map some++List.replicate (f.ns - ds.length) none) with
  | some (.rt d)=>some d
  | some (.nx _)=>some .non
  | _=>none
 else none
noncomputable def YA:CS→Bool
 | .seq a b=>YA a&&YA b
 | .ret _=>false
 | .ite _ a b=>YA a&&YA b
 | .for1 _ _ _ b=>YA b
 | .for3 _ _ b=>YA b
 | .forP _ _ _ b=>YA b
 | .forE _ _ _ b=>YA b
 | .for4 _ _ _ _ b=>YA b
 | .for2 _ _ _ b=>YA b
 | .whl _ b=>YA b
 | _=>true
noncomputable def X5 (M:List Nat):CS→Bool
 | .seq (.ret (.var j)) .skip=>M.contains j
 | .seq a b=>YA a&&X5 M b
 | _=>false
noncomputable def XN (f:FD):Bool:=X5 (Z9 f.body) f.body
noncomputable def Zn (T:Nat→Option FD):Nat→Nat→List P→Option P
 | 0,_=>fun _=>none
 | n+1,i=>match T i with
  | some f=>if (WT i&&!XN f)=true then fun _=>none else fnP (Zn T n) f
  | none=>fun _=>none
end Dp


namespace Dp
open PySem
noncomputable abbrev Fz:=Nat→Prop
mutual
inductive Rel (fz:Fz) (st:Za):P→D→Prop where
 | non:Rel fz st .non .non
 | bl (b:Bool):Rel fz st (.bl b) (.bl b)
 | int (i:Int):Rel fz st (.int i) (.int i)
 | str (x:Str):Rel fz st (.str x) (.str x)
 | tup {ps:List P}{ds:List D} (r:Rels fz st ps ds):Rel fz st (.tup ps) (.tup ds)
 | lst {j:Nat}{m:Bool}{ps:List P}{ds:List D} (hz:fz j) (h:st[j]?=some (m,ds)) (r:Rels fz st ps ds):Rel fz st (.lst m ps) (.lst j)
 | dct {ks:List Str}{ps:List P}{ds:List D} (r:Rels fz st ps ds):Rel fz st (.dct ks ps) (.dct ks ds)
 | obj (i:Nat):Rel fz st (.obj i) (.obj i)
 | kt (ks:List Str):Rel fz st (.kt ks) (.kt ks)
inductive Rels (fz:Fz) (st:Za):List P→List D→Prop where
 | nil:Rels fz st [] []
 | cons {p:P}{d:D}{ps:List P}{ds:List D} (h:Rel fz st p d) (r:Rels fz st ps ds):Rels fz st (p :: ps) (d :: ds)
end
section
variable {fz fz':Fz}{st st':Za}
mutual
theorem Rel.mono (h1:∀ i,fz i→fz' i) (h2:∀ i,fz i→st'[i]?=st[i]?):∀ {p:P}{d:D},Rel fz st p d→Rel fz' st' p d
 | _,_,.non=>.non
 | _,_,.bl b=>.bl b
 | _,_,.int i=>.int i
 | _,_,.str x=>.str x
 | _,_,.tup r=>.tup (Rels.mono h1 h2 r)
 | _,_,.lst hz h r=>.lst (h1 _ hz) (by rw [h2 _ hz]; exact h) (Rels.mono h1 h2 r)
 | _,_,.dct r=>.dct (Rels.mono h1 h2 r)
 | _,_,.obj i=>.obj i
 | _,_,.kt i=>.kt i
theorem Rels.mono (h1:∀ i,fz i→fz' i) (h2:∀ i,fz i→st'[i]?=st[i]?):∀ {ps:List P}{ds:List D},Rels fz st ps ds→Rels fz' st' ps ds
 | _,_,.nil=>.nil
 | _,_,.cons h r=>.cons (Rel.mono h1 h2 h) (Rels.mono h1 h2 r)
end
mutual
theorem Rel.ofNoL:∀ {p:P}{d:D},noL p=true→Rel fz st p d→Rel fz' st' p d
 | _,_,_,.non=>.non
 | _,_,_,.bl b=>.bl b
 | _,_,_,.int i=>.int i
 | _,_,_,.str x=>.str x
 | _,_,h,.tup r=>.tup (Rels.ofNoL h r)
 | _,_,h,.lst _ _ _=>by cases h
 | _,_,h,.dct r=>.dct (Rels.ofNoL h r)
 | _,_,_,.obj i=>.obj i
 | _,_,_,.kt i=>.kt i
theorem Rels.ofNoL:∀ {ps:List P}{ds:List D},Qi ps=true→Rels fz st ps ds→Rels fz' st' ps ds
 | _,_,_,.nil=>.nil
 | p :: ps,_,h,.cons a r=>by
  have h:(noL p&&Qi ps)=true:=h
  rw [Bool.and_eq_true] at h
  exact .cons (Rel.ofNoL h.1 a) (Rels.ofNoL h.2 r)
end
theorem Rels.length:∀ {ps:List P}{ds:List D},Rels fz st ps ds→ps.length=ds.length
 | _,_,.nil=>rfl
 | _,_,.cons _ r=>congrArg (·+1) (Rels.length r)
theorem Rels.get:∀ {ps:List P}{ds:List D}{i:Nat}{p:P},Rels fz st ps ds→ps[i]?=some p→∃ d,ds[i]?=some d∧Rel fz st p d
 | _,_,_,_,.nil,e=>by simp at e
 | _,_,0,_,.cons h _,e=>by simp at e; subst e; exact ⟨_,rfl,h⟩
 | _,_,i+1,p,.cons _ r,e=>by
  obtain ⟨v,h1,h2⟩:=Rels.get (i:=i) (p:=p) r (by simpa using e)
  exact ⟨v,by simpa using h1,h2⟩
theorem Rels.append:∀ {ps qs:List P}{ds es:List D},Rels fz st ps ds→Rels fz st qs es→Rels fz st (ps++qs) (ds++es)
 | _,_,_,_,.nil,s=>s
 | _,_,_,_,.cons h r,s=>.cons h (Rels.append r s)
theorem Rels.take:∀ {ps:List P}{ds:List D} (n:Nat),Rels fz st ps ds→Rels fz st (ps.take n) (ds.take n)
 | _,_,0,_=>.nil
 | _,_,_+1,.nil=>.nil
 | _,_,n+1,.cons h r=>.cons h (Rels.take n r)
theorem Rels.drop:∀ {ps:List P}{ds:List D} (n:Nat),Rels fz st ps ds→Rels fz st (ps.drop n) (ds.drop n)
 | _,_,0,r=>r
 | _,_,_+1,.nil=>.nil
 | _,_,n+1,.cons _ r=>Rels.drop n r
theorem Rels.set {p:P}{d:D} (h:Rel fz st p d):∀ {ps:List P}{ds:List D} (n:Nat),Rels fz st ps ds→Rels fz st (ps.set n p) (ds.set n d)
 | _,_,_,.nil=>.nil
 | _,_,0,.cons _ r=>.cons h r
 | _,_,n+1,.cons q r=>.cons q (Rels.set h n r)
theorem Rels.rep {p:P}{d:D} (h:Rel fz st p d):∀ n:Nat,Rels fz st (List.replicate n p) (List.replicate n d)
 | 0=>.nil
 | n+1=>.cons h (Rels.rep h n)
mutual
theorem Rel.ofConst:∀ {d:D}{p:P},ofD d=some p→Rel fz st p d
 | .non,p,h=>by cases h; exact .non
 | .bl b,p,h=>by cases h; exact .bl b
 | .int i,p,h=>by cases h; exact .int i
 | .str x,p,h=>by cases h; exact .str x
 | .tup xs,p,h=>by
  have h:(Wd xs).map P.tup=some p:=h
  cases q:Wd xs with
  | none=>rw [q] at h; cases h
  | some ys=>rw [q] at h; cases h; exact .tup (Rels.ofConst q)
 | .lst _,p,h=>by cases h
 | .dct _ _,p,h=>by cases h
 | .obj _,p,h=>by cases h
 | .kt ks,p,h=>by cases h; exact .kt ks
theorem Rels.ofConst:∀ {ds:List D}{ps:List P},Wd ds=some ps→Rels fz st ps ds
 | [],ps,h=>by cases h; exact .nil
 | d :: ds,ps,h=>by
  have h:(match ofD d,Wd ds with
   | some y,some ys=>some (y :: ys)
   | _,_=>none)=some ps:=h
  split at h
  ·rename_i y ys h1 h2
   cases h
   exact .cons (Rel.ofConst h1) (Rels.ofConst h2)
  ·cases h
end
end
noncomputable def Bd (fz:Fz) (st:Za):Prop:=∀ i,fz i→i < st.length
structure Next (fz:Fz) (st:Za) (fz':Fz) (st':Za):Prop where
 old:∀ i,i < st.length→st'[i]?=st[i]?
 len:st.length≤st'.length
 sub:∀ i,fz i→fz' i
 new:∀ i,fz' i→fz i∨st.length≤i
 bd:Bd fz' st'
section
variable {fz fz' fz1 fz2:Fz}{st st' st1 st2:Za}
theorem Next.refl (b:Bd fz st):Next fz st fz st:=⟨fun _ _=>rfl,Nat.le_refl _,fun _ h=>h,fun _ h=>.inl h,b⟩
theorem Next.trans (x:Next fz st fz1 st1) (y:Next fz1 st1 fz2 st2):Next fz st fz2 st2:=
 ⟨fun i h=>(y.old i (Nat.lt_of_lt_of_le h x.len)).trans (x.old i h),Nat.le_trans x.len y.len,fun i h=>y.sub i (x.sub i h),fun i h=>(y.new i h).elim (x.new i) fun z=>.inr (Nat.le_trans x.len z),y.bd⟩
theorem Next.small (b:Bd fz st) (x:Next fz1 st fz' st'):Next fz st fz st':=⟨x.old,x.len,fun _ h=>h,fun _ h=>.inl h,fun i h=>Nat.lt_of_lt_of_le (b i h) x.len⟩
theorem Rel.next {p:P}{d:D} (b:Bd fz st) (x:Next fz st fz' st') (r:Rel fz st p d):Rel fz' st' p d:=r.mono x.sub fun i h=>x.old i (b i h)
theorem Rels.next {p:List P}{d:List D} (b:Bd fz st) (x:Next fz st fz' st') (r:Rels fz st p d):Rels fz' st' p d:=r.mono x.sub fun i h=>x.old i (b i h)
theorem ZdZ {α:Type}{l:List α}{x:α}:(l++[x])[l.length]?=some x:=by simp
theorem Zcq {m:Bool}{ds:List D} (b:Bd fz st):Next fz st fz (st++[(m,ds)]):=
 ⟨fun i h=>by rw [List.getElem?_append_left h],by simp,fun _ h=>h,fun _ h=>.inl h,fun i h=>by have:=b i h; simp; omega⟩
theorem QG {m:Bool}{ds:List D} (b:Bd fz st):Next fz st (fun i=>fz i∨i=st.length) (st++[(m,ds)]):=
 ⟨fun i h=>by rw [List.getElem?_append_left h],by simp,fun _ h=>.inl h,fun i h=>h.elim .inl fun z=>.inr (by omega),fun i h=>by
  rcases h with h | h
  ·have:=b i h; simp; omega
  ·simp; omega⟩
theorem UV {m:Bool}{ps:List P}{ds:List D} (b:Bd fz st) (r:Rels fz st ps ds):Rel (fun i=>fz i∨i=st.length) (st++[(m,ds)]) (.lst m ps) (.lst st.length):=
 .lst (.inr rfl) ZdZ (r.next b (QG b))
end
noncomputable abbrev Gives (fz:Fz) (st:Za) (r:Res) (p:P):Prop:=∃ d st' fz',r=some (d,st')∧Next fz st fz' st'∧Rel fz' st' p d
noncomputable def Op1 (o:D→Za→Res) (O:P→Option P):Prop:=∀ fz st x dx p,Bd fz st→Rel fz st x dx→O x=some p→Gives fz st (o dx st) p
noncomputable def Op2 (o:D→D→Za→Res) (O:P→P→Option P):Prop:=∀ fz st x y dx dy p,Bd fz st→Rel fz st x dx→Rel fz st y dy→O x y=some p→Gives fz st (o dx dy st) p
noncomputable def Op3 (o:D→D→D→Za→Res) (O:P→P→P→Option P):Prop:=∀ fz st x y z dx dy dz p,Bd fz st→Rel fz st x dx→Rel fz st y dy→Rel fz st z dz→O x y z=some p→Gives fz st (o dx dy dz st) p
noncomputable abbrev Makes (fz:Fz) (st:Za) (r:Res) (m:Bool) (ps:List P):Prop:=∃ ds,r=some (.lst st.length,st++[(m,ds)])∧Rels fz st ps ds
noncomputable def Zc5 (o:D→Za→Res) (O:P→Option P):Prop:=∀ fz st x dx m ps,Bd fz st→Rel fz st x dx→O x=some (.lst m ps)→Makes fz st (o dx st) m ps
noncomputable def Zes (o:D→D→Za→Res) (O:P→P→Option P):Prop:=∀ fz st x y dx dy m ps,Bd fz st→Rel fz st x dx→Rel fz st y dy→O x y=some (.lst m ps)→Makes fz st (o dx dy st) m ps
noncomputable def Zgx (o:D→D→D→Za→Res) (O:P→P→P→Option P):Prop:=∀ fz st x y z dx dy dz m ps,Bd fz st→Rel fz st x dx→Rel fz st y dy→Rel fz st z dz→O x y z=some (.lst m ps)→Makes fz st (o dx dy dz st) m ps
theorem Gives.same {fz:Fz}{st:Za}{p:P}{d:D} (b:Bd fz st) (r:Rel fz st p d):Gives fz st (some (d,st)) p:=⟨d,st,fz,rfl,Next.refl b,r⟩
theorem Makes.gives {fz:Fz}{st:Za}{r:Res}{m:Bool}{ps:List P} (b:Bd fz st) (h:Makes fz st r m ps):Gives fz st r (.lst m ps):=by
 obtain ⟨ds,e,rr⟩:=h
 exact ⟨_,_,_,e,QG b,UV b rr⟩
section
mutual
theorem Ve {fz:Fz}{st:Za}:∀ {n:Nat}{p:P}{d:D},Rel fz st p d→okP n p=okD n d
 | n,_,_,.non=>by cases n<;>rfl
 | n,_,_,.bl b=>by cases n<;>rfl
 | n,_,_,.int i=>by cases n<;>rfl
 | n,_,_,.str x=>by cases n<;>rfl
 | 0,_,_,.tup r=>rfl
 | n+1,_,_,.tup r=>WH r
 | n,_,_,.lst _ _ _=>by cases n<;>rfl
 | n,_,_,.dct _=>by cases n<;>rfl
 | n,_,_,.obj _=>by cases n<;>rfl
 | n,_,_,.kt _=>by cases n<;>rfl
theorem WH {fz:Fz}{st:Za}:∀ {n:Nat}{p:List P}{d:List D},Rels fz st p d→Vf n p=Yt n d
 | _,_,_,.nil=>rfl
 | n,p :: ps,d :: ds,.cons h r=>by
  show (okP n p&&Vf n ps)=(okD n d&&Yt n ds)
  rw [Ve h,WH r]
end
mutual
theorem Jm {fz:Fz}{st:Za}:∀ {p q:P}{d e:D},Rel fz st p d→Rel fz st q e→Wl p q=ZI d e
 | _,_,_,_,.non,h=>by cases h<;>rfl
 | _,_,_,_,.bl b,h=>by cases h<;>rfl
 | _,_,_,_,.int i,h=>by cases h<;>rfl
 | _,_,_,_,.str x,h=>by cases h<;>rfl
 | _,_,_,_,.tup r,h=>by
  cases h with
  | tup r'=>exact X2 r r'
  | _=>rfl
 | _,_,_,_,.lst _ _ _,h=>by cases h<;>rfl
 | _,_,_,_,.dct _,h=>by cases h<;>rfl
 | _,_,_,_,.obj _,h=>by cases h<;>rfl
 | _,_,_,_,.kt _,h=>by cases h<;>rfl
theorem X2 {fz:Fz}{st:Za}:∀ {p q:List P}{d e:List D},Rels fz st p d→Rels fz st q e→Xj p q=Z1 d e
 | _,_,_,_,.nil,h=>by cases h<;>rfl
 | p :: ps,_,d :: ds,_,.cons a r,h=>by
  cases h with
  | nil=>rfl
  | @cons q e qs es a' r'=>
   show (Wl p q&&Xj ps qs)=(ZI d e&&Z1 ds es)
   rw [Jm a a',X2 r r']
end
theorem ZdX {fz:Fz}{st:Za}{ps:List P}{ds:List D} (r:Rels fz st ps ds):ps.isEmpty=ds.isEmpty:=by cases r<;>rfl
theorem Za1 {fz:Fz}{st:Za}{ps qs:List P}{ds es:List D}{k:Bool} (r:Rels fz st ps ds) (s:Rels fz st qs es) (h:Zbj ps qs=some k):JC st ds es=some k:=by cases h
theorem Zcm {fz:Fz}{st:Za}{p q:P}{d e:D}{k:Bool} (r:Rel fz st p d) (s:Rel fz st q e) (h:eqP p q=some k):eqS st d e=some k:=by
 cases r with
 | non=>cases s<;>first | exact h | cases h
 | bl b=>cases s<;>first | exact h | cases h
 | int i=>cases s<;>first | exact h | cases h
 | str x=>cases s<;>first | exact h | cases h
 | @tup ps ds r=>
  cases s with
  | @tup qs es r'=>
   have h:(if okP 8 (.tup ps)&&okP 8 (.tup qs) then some (Xj ps qs) else Zbj ps qs)=some k:=h
   show (match (if okD 8 (.tup ds)&&okD 8 (.tup es) then some (Z1 ds es) else none) with
    | some k=>some k
    | none=>JC st ds es)=some k
   rw [Ve (.tup r),Ve (.tup r'),X2 r r'] at h
   by_cases c:(okD 8 (.tup ds)&&okD 8 (.tup es))=true
   ·rw [if_pos c] at h ⊢
    exact h
   ·rw [if_neg c] at h ⊢
    exact Za1 r r' h
  | _=>cases h
 | @lst j m ps ds hz hs r=>
  cases s with
  | @lst j' m' qs es hz' hs' r'=>
   show (match st[j]?,st[j']? with
    | some (_,xs),some (_,[])=>some xs.isEmpty
    | some (_,[]),some (_,ys)=>some ys.isEmpty
    | some (_,xs),some (_,ys)=>if Yt 7 xs&&Yt 7 ys then some (Z1 xs ys) else none
    | _,_=>none)=some k
   rw [hs,hs']
   cases r' with
   | nil=>
    have h:some ps.isEmpty=some k:=by
     cases ps<;>exact h
    rw [ZdX r] at h
    exact h
   | cons a b=>
    cases r with
    | nil=>exact h
    | cons a2 b2=>
     have h:(if Vf 7 (_ :: _)&&Vf 7 (_ :: _) then some (Xj (_ :: _) (_ :: _)) else none)=some k:=h
     rw [WH (.cons a2 b2),WH (.cons a b),X2 (.cons a2 b2) (.cons a b)] at h
     exact h
  | _=>cases h
 | dct r=>cases s<;>cases h
 | obj i=>cases s<;>cases h
 | kt i=>cases s<;>cases h
theorem QP {fz:Fz}{st:Za}{i:Int}:∀ {ps:List P}{ds:List D}{k:Bool},Rels fz st ps ds→inP i ps=some k→Xa i ds=some k
 | _,_,_,.nil,h=>h
 | p :: ps,d :: ds,k,.cons a r,h=>by
  cases a with
  | int j=>
   have h:(inP i ps).map (fun b=>decide (j=i)||b)=some k:=h
   show (Xa i ds).map (fun b=>decide (j=i)||b)=some k
   cases q:inP i ps with
   | none=>rw [q] at h; cases h
   | some k'=>rw [q] at h; rw [QP r q]; exact h
  | _=>cases h
theorem Uk {fz:Fz}{st:Za}{i:Str}:∀ {ps:List P}{ds:List D}{k:Bool},Rels fz st ps ds→X1 i ps=some k→Y9 i ds=some k
 | _,_,_,.nil,h=>h
 | p :: ps,d :: ds,k,.cons a r,h=>by
  cases a with
  | str j=>
   have h:(X1 i ps).map (fun b=>decide (j=i)||b)=some k:=h
   show (Y9 i ds).map (fun b=>decide (j=i)||b)=some k
   cases q:X1 i ps with
   | none=>rw [q] at h; cases h
   | some k'=>rw [q] at h; rw [Uk r q]; exact h
  | _=>cases h
theorem Q0 {fz:Fz}{st:Za}{i:Int}{ps:List P}{ds:List D}{p:P} (r:Rels fz st ps ds) (h:atP ps i=some p):∃ d,atD ds i=some d∧Rel fz st p d:=by
 unfold atP at h
 unfold atD
 rw [←r.length]
 cases q:ixN ps.length i with
 | none=>rw [q] at h; cases h
 | some j=>
  rw [q] at h
  exact r.get h
theorem JE {fz:Fz}{st:Za}{lo hi:Option Int}{ps:List P}{ds:List D} (r:Rels fz st ps ds):Rels fz st (WP ps lo hi) (J6 ds lo hi):=by
 unfold WP J6
 rw [←r.length]
 exact (r.drop _).take _
end
section
theorem Zgo:Op1 ZdB JV:=by
 intro fz st x dx p b r h
 cases r<;>first | (cases h; exact .same b (.int _)) | cases h
theorem ZfV:Op1 J9 Zak:=by
 intro fz st x dx p b r h
 cases r<;>first | (cases h; exact .same b (.bl _)) | cases h
theorem ZeK:Op1 Js Vu:=by
 intro fz st x dx p b r h
 cases r<;>first | (cases h; exact .same b (.int _)) | cases h
theorem Zew:Op1 J7 Q3:=by
 intro fz st x dx p b r h
 cases r with
 | @tup ps ds r=>
  cases h
  rw [r.length]
  exact .same b (.int _)
 | @lst j m ps ds hz hs r=>
  cases h
  have e:J7 (.lst j) st=some (.int ds.length,st):=by unfold J7 Zfg; simp only [hs]
  rw [e,r.length]
  exact .same b (.int _)
 | kt ks=>
  cases h
  exact .same b (.int _)
 | _=>cases h
theorem ZgK (T:Ty):Op1 (Zac T) (X6 T):=by
 intro fz st x dx p b r h
 cases r<;>cases T<;>first | (cases h; exact .same b (.bl _)) | cases h
theorem Zd0:Zc5 Zbx Q4:=by
 intro fz st x dx m ps b r h
 cases r with
 | @tup ps ds r=>cases h; exact ⟨ds,rfl,r⟩
 | _=>cases h
theorem Zf8:Op1 Zbx Q4:=by
 intro fz st x dx p b r h
 cases r with
 | @tup ps ds r=>cases h; exact (Zd0 fz st _ _ true ps b (.tup r) rfl).gives b
 | _=>cases h
theorem Q8:Zc5 VQ UH:=by
 intro fz st x dx m ps b r h
 cases r with
 | @tup ps ds r=>cases h; exact ⟨ds,rfl,r⟩
 | @lst j m ps ds hz hs r=>
  cases h
  exact ⟨ds,by unfold VQ; simp only [hs],r⟩
 | _=>cases h
theorem Zed:Op1 VQ UH:=by
 intro fz st x dx p b r h
 cases r with
 | @tup ps ds r=>cases h; exact (Q8 fz st _ _ true ps b (.tup r) rfl).gives b
 | @lst j m ps ds hz hs r=>cases h; exact (Q8 fz st _ _ true ps b (.lst hz hs r) rfl).gives b
 | _=>cases h
theorem ZdR:Op1 Wg Wc:=by
 intro fz st x dx p b r h
 cases r with
 | @tup ps ds r=>cases h; exact .same b (.tup r)
 | @lst j m ps ds hz hs r=>
  cases h
  have e:Wg (.lst j) st=some (.tup ds,st):=by unfold Wg; simp only [hs]
  rw [e]
  exact .same b (.tup r)
 | _=>cases h
theorem Zfh (ks:List Str):Op1 (Qg ks) (VD ks):=by
 intro fz st x dx p b r h
 cases r with
 | @tup ps ds r=>
  have h:(if ks.length=ps.length∧(ks.Nodup∧ks≠[])∧ks.length≤15 then some (P.dct ks ps) else none)=some p:=h
  split at h
  ·rename_i c
   cases h
   have e:Qg ks (.tup ds) st=some (.dct ks ds,st):=by unfold Qg; simp only; rw [r.length] at c; rw [if_pos c]
   rw [e]
   exact .same b (.dct r)
  ·cases h
 | _=>cases h
theorem ZfF:Op2 Wp VT:=by
 intro fz st x y dx dy p b r s h
 cases s with
 | @tup ps ds s=>
  have h:(if ps.length < 1000 then some (P.tup (x :: ps)) else none)=some p:=h
  split at h
  ·rename_i c
   cases h
   have e:Wp dx (.tup ds) st=some (.tup (dx :: ds),st):=by unfold Wp; simp only; rw [s.length] at c; rw [if_pos c]
   rw [e]
   exact .same b (.tup (.cons r s))
  ·cases h
 | _=>cases h
theorem ZgO:Op2 Zdb Zai:=by
 intro fz st x y dx dy p b r s h
 cases r with
 | int i=>
  cases s with
  | int j=>cases h; exact .same b (.int _)
  | _=>cases h
 | _=>cases h
theorem ZgJ:Op2 ZcY JQ:=by
 intro fz st x y dx dy p b r s h
 cases r with
 | int i=>
  cases s with
  | int j=>cases h; exact .same b (.int _)
  | _=>cases h
 | _=>cases h
theorem Xv {fz:Fz}{st:Za}{k:Str}:∀ {ks:List Str}{ps:List P}{ds:List D},Rels fz st ps ds→(∃ p d,YC ks ps k=some p∧ZF ks ds k=some d∧Rel fz st p d)∨(YC ks ps k=none∧ZF ks ds k=none)
 | [],_,_,_=>.inr ⟨by simp [YC],by simp [ZF]⟩
 | _ :: _,_,_,.nil=>.inr ⟨by simp [YC],by simp [ZF]⟩
 | x :: ks,_,_,.cons h r=>by
  by_cases e:x=k
  ·exact .inl ⟨_,_,by simp [YC,e],by simp [ZF,e],h⟩
  ·have ih:=Xv (k:=k) (ks:=ks) r
   simp only [YC,ZF,if_neg e]
   exact ih
theorem U5 {fz:Fz}{st:Za}:∀ l:List Str,Rels fz st (l.map P.str) (l.map D.str)
 | []=>.nil
 | k :: l=>.cons (.str _) (U5 l)
theorem Zhj:Op2 ixR ixP:=by
 intro fz st x y dx dy p b r s h
 cases r with
 | @tup ps ds r=>
  cases s with
  | int j=>
   obtain ⟨d,e,q⟩:=Q0 r h
   have e:ixR (.tup ds) (.int j) st=some (d,st):=by unfold ixR ixD; simp only [e]
   rw [e]; exact .same b q
  | _=>cases h
 | @lst k m ps ds hz hs r=>
  cases s with
  | int j=>
   obtain ⟨d,e,q⟩:=Q0 r h
   have e:ixR (.lst k) (.int j) st=some (d,st):=by unfold ixR ixD; simp only [hs,e]
   rw [e]; exact .same b q
  | _=>cases h
 | @dct ks ps ds r=>
  cases s with
  | str z=>
   rcases Xv (k:=z) (ks:=ks) r with ⟨p',d,e1,e2,q⟩ | ⟨e1,_⟩
   ·have h:YC ks ps z=some p:=h
    rw [e1] at h; cases h
    have e:ixR (.dct ks ds) (.str z) st=some (d,st):=by unfold ixR ixD; simp only [e2]
    rw [e]; exact .same b q
   ·have h:YC ks ps z=some p:=h
    rw [e1] at h; cases h
  | _=>cases h
 | kt ks=>
  cases s with
  | int j=>
   obtain ⟨d,e,q⟩:=Q0 (U5 (fz:=fz) (st:=st) ks) h
   have e:ixR (.kt ks) (.int j) st=some (d,st):=by unfold ixR ixD; simp only [e]
   rw [e]; exact .same b q
  | _=>cases h
 | _=>cases h
theorem V9 {f:Int→Int→Bool}{fz:Fz}{st:Za}{x y:P}{dx dy:D}{k:Bool} (r:Rel fz st x dx) (s:Rel fz st y dy) (h:ZaH f x y=some k):QE f dx dy=some k:=by
 cases r with
 | int i=>
  cases s with
  | int j=>exact h
  | _=>cases h
 | _=>cases h
theorem JG {fz:Fz}{st:Za}{k:Bool}:∀ {ps qs:List P}{ds es:List D},Rels fz st ps ds→Rels fz st qs es→Zba ps qs=some k→Wz ds es=some k
 | _,_,_,_,.nil,.nil,h=>h
 | _,_,_,_,.nil,.cons _ r,h=>by
  have h:some (decide (0 < _+1))=some k:=h
  show some (decide (0 < _+1))=some k
  rw [←h]; simp
 | _,_,_,_,.cons _ _,.nil,h=>h
 | p :: ps,q :: qs,d :: ds,e :: es,.cons a r,.cons b r',h=>by
  unfold Zba at h
  unfold Wz
  rw [←Jm a b]
  by_cases c:Wl p q=true
  ·rw [if_pos c] at h ⊢
   exact JG r r' h
  ·rw [if_neg c] at h ⊢
   cases a with
   | int i=>cases b<;>first | exact h | cases h
   | str x=>cases b<;>first | exact h | cases h
   | _=>cases h
theorem Zff {fz:Fz}{st:Za}{x y:P}{dx dy:D}{k:Bool} (r:Rel fz st x dx) (s:Rel fz st y dy) (h:ltP x y=some k):ltD dx dy=some k:=by
 cases r with
 | int i=>
  cases s with
  | int j=>exact h
  | _=>cases h
 | @tup ps ds r=>
  cases s with
  | @tup qs es r'=>
   have h:(if okP 8 (.tup ps)&&okP 8 (.tup qs) then Zba ps qs else none)=some k:=h
   show (if okD 8 (.tup ds)&&okD 8 (.tup es) then Wz ds es else none)=some k
   rw [Ve (.tup r),Ve (.tup r')] at h
   split at h
   ·rename_i c
    rw [if_pos c]
    exact JG r r' h
   ·cases h
  | _=>cases h
 | _=>cases s<;>cases h
theorem Zdt {fz:Fz}{st:Za}{x y:P}{dx dy:D}{k:Bool} (r:Rel fz st x dx) (s:Rel fz st y dy) (h:Zf2 x y=some k):ltS st dx dy=some k:=by exact Zff r s h
theorem Up {a b:Option Bool}{f:Bool→Bool}{k:Bool} (h:∀ k,a=some k→b=some k) (e:a.map f=some k):b.map f=some k:=by
 cases q:a with
 | none=>rw [q] at e; cases e
 | some k'=>rw [h k' q]; rw [q] at e; exact e
theorem Jo {fz:Fz}{st:Za}{x y:P}{dx dy:D}{k:Bool} (r:Rel fz st x dx) (s:Rel fz st y dy) (h:Zer x y=some k):inS st dx dy=some k:=by
 cases r with
 | int i=>
  cases s with
  | tup rr=>exact QP rr h
  | lst hz hs rr=>
   unfold inS
   simp only [hs]
   exact QP rr h
  | _=>cases h
 | str z=>
  cases s with
  | tup rr=>exact Uk rr h
  | lst hz hs rr=>
   unfold inS
   simp only [hs]
   exact Uk rr h
  | @dct ks _ _ rr=>
   have h:some (YC ks _ z).isSome=some k:=h
   show some (ZF ks _ z).isSome=some k
   rcases Xv (k:=z) (ks:=ks) rr with ⟨p',d,e1,e2,_⟩ | ⟨e1,e2⟩
   ·rw [e1] at h; rw [e2]; exact h
   ·rw [e1] at h; rw [e2]; exact h
  | _=>cases h
 | _=>cases h
theorem JH {fz:Fz}{st:Za}{x y:P}{dx dy:D}{k:Bool} (r:Rel fz st x dx) (s:Rel fz st y dy) (h:ZeO x y=some k):isD dx dy=some k:=by
 cases s with
 | non=>cases r<;>first | exact h | cases h
 | bl b=>cases r<;>first | exact h | cases h
 | _=>cases h
theorem Rels.rev {fz:Fz}{st:Za}:∀ {ps:List P}{ds:List D},Rels fz st ps ds→Rels fz st ps.reverse ds.reverse
 | _,_,.nil=>.nil
 | _,_,.cons a r=>by
  rw [List.reverse_cons,List.reverse_cons]
  exact (Rels.rev r).append (.cons a .nil)
theorem Zfk {fz:Fz}{st:Za}{k:Bool}{ps qs:List P}{ds:List D} (r:Rels fz st ps ds) (h:Zaw k ps=some qs):∃ es,rsL k ds=some es∧Rels fz st qs es:=by
 cases k with
 | false=>
  cases h
  exact ⟨_,rfl,r.rev⟩
 | true=>
  have h:QS ps=some qs:=h
  unfold QS at h
  split at h
  ·rename_i i j
   cases h
   cases r with
   | cons a r=>
    cases a
    cases r with
    | cons a r=>
     cases a
     cases r
     refine ⟨_,rfl,?_⟩
     split
     ·exact .cons (.int _) (.cons (.int _) .nil)
     ·exact .cons (.int _) (.cons (.int _) .nil)
  ·cases h
theorem ZgC (k:Bool):Zc5 (rsD k) (rsP k):=by
 intro fz st x dx m ps b r h
 cases r with
 | @lst j m0 ps0 ds hz hs r=>
  have h:(Zaw k ps0).map (fun ys=>P.lst true ys)=some (.lst m ps):=h
  cases q:Zaw k ps0 with
  | none=>rw [q] at h; cases h
  | some qs=>
   rw [q] at h
   cases h
   obtain ⟨es,e1,e2⟩:=Zfk r q
   exact ⟨es,by unfold rsD; simp only [hs,e1],e2⟩
 | _=>cases h
theorem Zh4 (k:Bool):Op1 (rsD k) (rsP k):=by
 intro fz st x dx p b r h
 cases r with
 | @lst j m ps0 ds hz hs r=>
  have h':(Zaw k ps0).map (fun ys=>P.lst true ys)=some p:=h
  cases q:Zaw k ps0 with
  | none=>rw [q] at h'; cases h'
  | some qs=>
   rw [q] at h'
   cases h'
   exact (ZgC k fz st _ _ true qs b (.lst hz hs r) h).gives b
 | _=>cases h
theorem Zgq:Op1 Zc4 ZcW:=by
 intro fz st x dx p b r h
 cases r<;>first | (cases h; exact .same b (.int _)) | cases h
theorem Vw {fz:Fz}{st:Za}:∀ l:List Int,Rels fz st (l.map P.int) (l.map D.int)
 | []=>.nil
 | k :: l=>.cons (.int _) (Vw l)
theorem Zbo:Zes UZ U8:=by
 intro fz st x y dx dy m ps b r s h
 cases r with
 | int i=>
  cases s with
  | int j=>
   have h:(if ZR i j 1=true∧j - i≤1000 then some (P.lst true ((Z7 i j 1).map .int)) else none)=some (.lst m ps):=h
   split at h
   ·rename_i c
    cases h
    exact ⟨_,if_pos c,Vw _⟩
   ·cases h
  | _=>cases h
 | _=>cases h
theorem ZfB:Op2 UZ U8:=by
 intro fz st x y dx dy p b r s h
 cases r with
 | int i=>
  cases s with
  | int j=>
   have h':(if ZR i j 1=true∧j - i≤1000 then some (P.lst true ((Z7 i j 1).map .int)) else none)=some p:=h
   split at h'
   ·cases h'
    exact (Zbo fz st _ _ _ _ true _ b (.int i) (.int j) h).gives b
   ·cases h'
  | _=>cases h
 | _=>cases h
theorem Zgs:Op2 Zc2 Zdh:=by
 intro fz st x y dx dy p b r s h
 cases r with
 | kt ks=>
  cases s with
  | @tup ps ds s=>
   cases s with
   | nil=>cases h
   | cons a s=>
    cases s with
    | cons _ _=>cases a<;>cases h
    | nil=>
     cases a with
     | str k=>
      have h:(match V3 k ks with
       | some i=>some (P.int (i:Int))
       | none=>none)=some p:=h
      show Gives fz st (match V3 k ks with
       | some i=>some (D.int (i:Int),st)
       | none=>none) p
      cases q:V3 k ks with
      | none=>rw [q] at h; cases h
      | some i=>rw [q] at h; cases h; exact .same b (.int _)
     | _=>cases h
  | _=>cases h
 | _=>cases h
theorem ZgW (l:List Nat):Op1 (QD l) (Zdk l):=by
 intro fz st x dx p b r h
 cases r with
 | obj i=>
  have h:(if l.contains i=true then some (P.bl true) else none)=some p:=h
  split at h
  ·rename_i c
   cases h
   have e:QD l (.obj i) st=some (.bl true,st):=if_pos c
   rw [e]
   exact .same b (.bl true)
  ·cases h
 | _=>cases h
theorem Zec (ks:List Str) (ds:List D):Op1 (VJ ks ds) (Uz ks ds):=by
 intro fz st x dx p b r h
 cases r with
 | str k=>
  have h:(ZF ks ds k).bind ofD=some p:=h
  cases q:ZF ks ds k with
  | none=>rw [q] at h; cases h
  | some d=>
   rw [q] at h
   have e:VJ ks ds (.str k) st=some (d,st):=by unfold VJ; simp only [q]
   rw [e]
   exact .same b (Rel.ofConst h)
 | _=>cases h
theorem ZfW:Op3 getD ZcV:=by
 intro fz st x y z dx dy dz p b r s t h
 cases r with
 | @dct ks ps ds r=>
  cases s with
  | str k=>
   have h:some ((YC ks ps k).getD z)=some p:=h
   have e:getD (.dct ks ds) (.str k) dz st=some ((ZF ks ds k).getD dz,st):=rfl
   rw [e]
   cases h
   rcases Xv (k:=k) (ks:=ks) r with ⟨p',d,e1,e2,q⟩ | ⟨e1,e2⟩
   ·rw [e1,e2]; exact .same b q
   ·rw [e1,e2]; exact .same b t
  | _=>cases h
 | _=>cases h
theorem ZgU (ng:Bool):Op2 (Zfu ng) (ZdA ng):=by
 intro fz st x y dx dy p b r s h
 cases r with
 | int i=>
  cases s with
  | int j=>
   have h:(if -(2 ^ 62)≤j∧j < 2 ^ 62 then some (P.bl (ng != decide (0≤i∧i < j))) else none)=some p:=h
   split at h
   ·rename_i c
    cases h
    have e:Zfu ng (.int i) (.int j) st=some (.bl (ng != decide (0≤i∧i < j)),st):=if_pos c
    rw [e]
    exact .same b (.bl _)
   ·cases h
  | _=>cases h
 | _=>cases h
theorem Zgu (op:CmpOp):Op2 (WC op) (YE op):=by
 intro fz st x y dx dy p b r s h
 have h:(Zfz op x y).map P.bl=some p:=h
 cases q:Zfz op x y with
 | none=>rw [q] at h; cases h
 | some k=>
  rw [q] at h; cases h
  have e:ZgR op dx dy st=some k:=by
   cases op with
   | Lt=>exact Zdt r s q
   | LtE=>exact V9 r s q
   | Gt=>exact V9 r s q
   | GtE=>exact V9 r s q
   | Eq=>exact Zcm r s q
   | NotEq=>exact Up (fun k=>Zcm r s) q
   | In=>exact Jo r s q
   | NotIn=>
    replace q:niP x y=some k:=q
    show niS st dx dy=some k
    cases s with
    | dct _=>cases q
    | _=>exact Up (fun k=>Jo r (by constructor<;>assumption)) q
   | Is=>exact JH r s q
   | IsNot=>exact Up (fun k=>JH r s) q
  have e2:WC op dx dy st=some (.bl k,st):=by unfold WC; rw [e]
  rw [e2]
  exact .same b (.bl k)
theorem Zb5 (op:Operator):Zes (Vl op) (Y4 op):=by
 intro fz st x y dx dy m ps b r s h
 unfold Y4 at h
 split at h
 ·split at h<;>cases h
 ·split at h<;>cases h
 ·split at h<;>cases h
 ·split at h
  ·rename_i xs ys c
   cases h
   cases r with
   | lst hz hs rr=>
    cases s with
    | lst hz' hs' rr'=>
     refine ⟨_,?_,rr.append rr'⟩
     unfold Vl Ze1
     simp only [hs,hs',c.1,if_true]
     rw [if_pos (by rw [←rr.length,←rr'.length]; exact c.2)]
  ·cases h
 ·split at h
  ·rename_i z j c
   cases h
   cases r with
   | lst hz hs rr=>
    cases s
    cases rr with
    | cons a rr=>
     cases rr
     refine ⟨_,?_,Rels.rep a _⟩
     unfold Vl Zep
     simp only [hs,c.1,if_true]
     rw [if_pos c.2]
  ·cases h
 ·cases h
theorem Zgv (op:Operator):Op2 (Vl op) (Y4 op):=by
 intro fz st x y dx dy p b r s h
 have h0:=h
 unfold Y4 at h
 split at h
 ·split at h
  ·rename_i k q
   cases h; cases r; cases s
   unfold Vl; simp only [q]; exact .same b (.int _)
  ·cases h
 ·split at h
  ·rename_i c; cases h
   cases r with
   | tup r1=>
    cases s with
    | tup s1=>
     unfold Vl; simp only; rw [if_pos ⟨c.1,by rw [←r1.length,←s1.length]; exact c.2⟩]; exact .same b (.tup (r1.append s1))
  ·cases h
 ·split at h
  ·rename_i c; cases h
   cases r with
   | tup r1=>
    cases s
    cases r1 with
    | cons a r1=>
     cases r1
     unfold Vl; simp only; rw [if_pos c]; exact .same b (.tup (Rels.rep a _))
  ·cases h
 ·split at h
  ·cases h; exact (Zb5 _ fz st _ _ _ _ _ _ b r s h0).gives b
  ·cases h
 ·split at h
  ·cases h; exact (Zb5 _ fz st _ _ _ _ _ _ b r s h0).gives b
  ·cases h
 ·cases h
theorem Jx {fz:Fz}{st:Za}{x:P}{dx:D}{lo hi:Option Int}{p:P} (b:Bd fz st) (r:Rel fz st x dx) (h:ZP x lo hi=some p):(∃ ps ds,p=.tup ps∧Ym dx lo hi st=some (.tup ds,st)∧Rels fz st ps ds)∨∃ ps,p=.lst true ps∧Makes fz st (Ym dx lo hi st) true ps:=by
 cases r with
 | @tup ps ds r=>
  have h:(if sIx ps.length 0 lo=0∧sIx ps.length ps.length hi=ps.length then some (P.tup ps) else some (P.tup (WP ps lo hi)))=some p:=h
  split at h
  ·rename_i c
   cases h
   refine .inl ⟨_,_,rfl,?_,r⟩
   unfold Ym
   simp only
   rw [if_pos (by rw [←r.length]; exact c)]
  ·rename_i c
   cases h
   refine .inl ⟨_,_,rfl,?_,JE r⟩
   unfold Ym
   simp only
   rw [if_neg (by rw [←r.length]; exact c)]
 | @lst j m ps ds hz hs r=>
  cases h
  refine .inr ⟨_,rfl,_,?_,JE r⟩
  unfold Ym
  simp only [hs]
 | _=>cases h
theorem ZbZ {fz:Fz}{st:Za}{x y z:P}{dx dy dz:D}{p:P} (s1:Rel fz st y dy) (s2:Rel fz st z dz) (h:Xp x y z=some p):∃ lo hi,ZP x lo hi=some p∧∀ dx,XF dx dy dz st=Ym dx lo hi st:=by
 unfold Xp at h
 split at h
 ·cases s1; cases s2; exact ⟨_,_,h,fun _=>rfl⟩
 ·cases s1; cases s2; exact ⟨_,_,h,fun _=>rfl⟩
 ·cases s1; cases s2; exact ⟨_,_,h,fun _=>rfl⟩
 ·cases s1; cases s2; exact ⟨_,_,h,fun _=>rfl⟩
 ·cases h
theorem ZdP:Op3 XF Xp:=by
 intro fz st x y z dx dy dz p b r s1 s2 h
 obtain ⟨lo,hi,h0,e⟩:=ZbZ (dx:=dx) s1 s2 h
 rw [e]
 rcases Jx b r h0 with ⟨ps,ds,rfl,e1,rr⟩ | ⟨ps,rfl,mk⟩
 ·rw [e1]; exact .same b (.tup rr)
 ·exact mk.gives b
theorem ZdJ:Zgx XF Xp:=by
 intro fz st x y z dx dy dz m ps b r s1 s2 h
 obtain ⟨lo,hi,h0,e⟩:=ZbZ (dx:=dx) s1 s2 h
 rw [e]
 rcases Jx b r h0 with ⟨ps,ds,z,e1,rr⟩ | ⟨ps,z,mk⟩
 ·cases z
 ·cases z; exact mk
end
end Dp


namespace Dp
open PySem
noncomputable abbrev PFn:=Nat→List P→Option P
noncomputable def ZbE (F:Fn) (G:List P→Option P):Prop:=∀ ps m xs,G ps=some (.lst m xs)→∀ fz st ds,Bd fz st→Rels fz st ps ds→∃ j es st' fz1,F ds st=some (.lst j,st')∧st'[j]?=some (m,es)∧Next fz st fz1 st'∧¬fz1 j∧st.length≤j∧Rels fz1 st' xs es
noncomputable def Ya (F:Nat→Fn) (G:PFn):Prop:=(∀ i ps p,G i ps=some p→∀ fz st ds,Bd fz st→Rels fz st ps ds→Gives fz st (F i ds st) p)∧∀ i,WT i=true→ZbE (F i) (G i)
noncomputable def EnvAll (fz:Fz) (st:Za) (π:Zo) (ρ:Env):Prop:=∀ (i:Nat) (p:P),π[i]?=some (some p)→∃ d,ρ[i]?=some (some d)∧Rel fz st p d
theorem EnvAll.next {fz fz':Fz}{st st':Za}{π:Zo}{ρ:Env} (b:Bd fz st) (x:Next fz st fz' st') (h:EnvAll fz st π ρ):EnvAll fz' st' π ρ:=fun i p e=>
 let ⟨d,e1,r⟩:=h i p e; ⟨d,e1,r.next b x⟩
noncomputable def SEP (f:Ev) (g:PEv):Prop:=∀ π p,g π=some p→∀ fz st ρ,Bd fz st→EnvAll fz st π ρ→Gives fz st (f ρ st) p
noncomputable def SFP (f:Ev) (g:PEv):Prop:=∀ π m ps,g π=some (.lst m ps)→∀ fz st ρ,Bd fz st→EnvAll fz st π ρ→∃ j ds st' fz1,f ρ st=some (.lst j,st')∧st'[j]?=some (m,ds)∧Next fz st fz1 st'∧¬fz1 j∧st.length≤j∧Rels fz1 st' ps ds
section
variable {f fa fb fc:Ev}{g ga gb gc:PEv}
theorem Makes.fresh {fz fz1:Fz}{st st1:Za}{r:Res}{m:Bool}{ps:List P} (x:Next fz st fz1 st1) (h:Makes fz1 st1 r m ps) :
  ∃ j ds st' fz2,r=some (.lst j,st')∧st'[j]?=some (m,ds)∧Next fz st fz2 st'∧¬fz2 j∧st.length≤j∧Rels fz2 st' ps ds:=by
 obtain ⟨ds,e,rr⟩:=h
 refine ⟨_,ds,_,fz1,e,ZdZ,x.trans (Zcq x.bd),fun z=>?_,x.len,rr.next x.bd (Zcq x.bd)⟩
 exact absurd (x.bd _ z) (by omega)
theorem s1 {o:D→Za→Res}{O:P→Option P} (h:SEP f g) (k:Op1 o O):SEP (ZE f o) (pq1 g O):=by
 intro π p e fz st ρ b E
 unfold pq1 at e
 split at e
 ·rename_i x q
  obtain ⟨d,st1,fz1,e1,n1,r1⟩:=h π x q fz st ρ b E
  obtain ⟨d2,st2,fz2,e2,n2,r2⟩:=k fz1 st1 x d p n1.bd r1 e
  exact ⟨d2,st2,fz2,by unfold ZE; rw [e1]; exact e2,n1.trans n2,r2⟩
 ·cases e
theorem s1F {o:D→Za→Res}{O:P→Option P} (h:SEP f g) (k:Zc5 o O):SFP (ZE f o) (pq1 g O):=by
 intro π m ps e fz st ρ b E
 unfold pq1 at e
 split at e
 ·rename_i x q
  obtain ⟨d,st1,fz1,e1,n1,r1⟩:=h π x q fz st ρ b E
  have mk:=k fz1 st1 x d m ps n1.bd r1 e
  have e3:ZE f o ρ st=o d st1:=by unfold ZE; rw [e1]
  rw [e3]
  exact mk.fresh n1
 ·cases e
theorem s2 {o:D→D→Za→Res}{O:P→P→Option P} (ha:SEP fa ga) (hb:SEP fb gb) (k:Op2 o O):SEP (Z2 fa fb o) (pq2 ga gb O):=by
 intro π p e fz st ρ b E
 unfold pq2 at e
 split at e
 ·rename_i x q
  split at e
  ·rename_i y q'
   obtain ⟨d,st1,fz1,e1,n1,r1⟩:=ha π x q fz st ρ b E
   obtain ⟨d2,st2,fz2,e2,n2,r2⟩:=hb π y q' fz1 st1 ρ n1.bd (E.next b n1)
   obtain ⟨d3,st3,fz3,e3,n3,r3⟩:=k fz2 st2 x y d d2 p n2.bd (r1.next n1.bd n2) r2 e
   exact ⟨d3,st3,fz3,by unfold Z2; rw [e1]; simp only [e2]; exact e3,(n1.trans n2).trans n3,r3⟩
  ·cases e
 ·cases e
theorem s2F {o:D→D→Za→Res}{O:P→P→Option P} (ha:SEP fa ga) (hb:SEP fb gb) (k:Zes o O):SFP (Z2 fa fb o) (pq2 ga gb O):=by
 intro π m ps e fz st ρ b E
 unfold pq2 at e
 split at e
 ·rename_i x q
  split at e
  ·rename_i y q'
   obtain ⟨d,st1,fz1,e1,n1,r1⟩:=ha π x q fz st ρ b E
   obtain ⟨d2,st2,fz2,e2,n2,r2⟩:=hb π y q' fz1 st1 ρ n1.bd (E.next b n1)
   have mk:=k fz2 st2 x y d d2 m ps n2.bd (r1.next n1.bd n2) r2 e
   have e3:Z2 fa fb o ρ st=o d d2 st2:=by unfold Z2; rw [e1]; simp only [e2]
   rw [e3]
   exact mk.fresh (n1.trans n2)
  ·cases e
 ·cases e
theorem s3 {o:D→D→D→Za→Res}{O:P→P→P→Option P} (ha:SEP fa ga) (hb:SEP fb gb) (hc:SEP fc gc) (k:Op3 o O):SEP (W0 fa fb fc o) (pq3 ga gb gc O):=by
 intro π p e fz st ρ b E
 unfold pq3 at e
 split at e
 ·rename_i x q
  split at e
  ·rename_i y q'
   split at e
   ·rename_i z q''
    obtain ⟨d,st1,fz1,e1,n1,r1⟩:=ha π x q fz st ρ b E
    obtain ⟨d2,st2,fz2,e2,n2,r2⟩:=hb π y q' fz1 st1 ρ n1.bd (E.next b n1)
    obtain ⟨d3,st3,fz3,e3,n3,r3⟩:=hc π z q'' fz2 st2 ρ n2.bd (E.next b (n1.trans n2))
    obtain ⟨d4,st4,fz4,e4,n4,r4⟩:=k fz3 st3 x y z d d2 d3 p n3.bd (r1.next n1.bd (n2.trans n3)) (r2.next n2.bd n3) r3 e
    exact ⟨d4,st4,fz4,by unfold W0; rw [e1]; simp only [e2,e3]; exact e4,((n1.trans n2).trans n3).trans n4,r4⟩
   ·cases e
  ·cases e
 ·cases e
theorem s3F {o:D→D→D→Za→Res}{O:P→P→P→Option P} (ha:SEP fa ga) (hb:SEP fb gb) (hc:SEP fc gc) (k:Zgx o O):SFP (W0 fa fb fc o) (pq3 ga gb gc O):=by
 intro π m ps e fz st ρ b E
 unfold pq3 at e
 split at e
 ·rename_i x q
  split at e
  ·rename_i y q'
   split at e
   ·rename_i z q''
    obtain ⟨d,st1,fz1,e1,n1,r1⟩:=ha π x q fz st ρ b E
    obtain ⟨d2,st2,fz2,e2,n2,r2⟩:=hb π y q' fz1 st1 ρ n1.bd (E.next b n1)
    obtain ⟨d3,st3,fz3,e3,n3,r3⟩:=hc π z q'' fz2 st2 ρ n2.bd (E.next b (n1.trans n2))
    have mk:=k fz3 st3 x y z d d2 d3 m ps n3.bd (r1.next n1.bd (n2.trans n3)) (r2.next n2.bd n3) r3 e
    have e4:W0 fa fb fc o ρ st=o d d2 d3 st3:=by unfold W0; rw [e1]; simp only [e2,e3]
    rw [e4]
    exact mk.fresh ((n1.trans n2).trans n3)
   ·cases e
  ·cases e
 ·cases e
theorem sC {p:P}{d:D} (h:∀ fz st,Rel fz st p d):SEP (evC d) (fun _=>some p):=by
 intro π q e fz st ρ b E
 cases e
 exact .same b (h fz st)
theorem ZbL (hc:SEP fc gc) (ha:SEP fa ga) (hb:SEP fb gb):SEP (Xf fc fa fb) (Yq gc ga gb):=by
 intro π p e fz st ρ b E
 unfold Yq at e
 split at e
 ·rename_i q
  obtain ⟨d,st1,fz1,e1,n1,r1⟩:=hc π _ q fz st ρ b E
  cases r1
  obtain ⟨d2,st2,fz2,e2,n2,r2⟩:=ha π p e fz1 st1 ρ n1.bd (E.next b n1)
  exact ⟨d2,st2,fz2,by unfold Xf; rw [e1]; exact e2,n1.trans n2,r2⟩
 ·rename_i q
  obtain ⟨d,st1,fz1,e1,n1,r1⟩:=hc π _ q fz st ρ b E
  cases r1
  obtain ⟨d2,st2,fz2,e2,n2,r2⟩:=hb π p e fz1 st1 ρ n1.bd (E.next b n1)
  exact ⟨d2,st2,fz2,by unfold Xf; rw [e1]; exact e2,n1.trans n2,r2⟩
 ·cases e
theorem ZhW (i:Nat):SEP (Yw i) (Xx i):=by
 intro π p e fz st ρ b E
 unfold Xx at e
 split at e
 ·rename_i q
  cases e
  obtain ⟨d,e1,r⟩:=E i _ q
  exact ⟨d,st,fz,by unfold Yw; rw [e1],Next.refl b,r⟩
 ·cases e
theorem ZgP {F:Fn}{G:List P→Option P}{ds:List D} (hF:∀ ps p,G ps=some p→∀ fz st es,Bd fz st→Rels fz st ps es→Gives fz st (F es st) p):Op1 (Qd F ds) (WZ G ds):=by
 intro fz st x dx p b r h
 cases r with
 | @tup ps es r=>
  have h:(match Wd ds with
   | some es=>G (ps++es)
   | none=>none)=some p:=h
  split at h
  ·rename_i qs q
   exact hF _ p h fz st (es++ds) b (r.append (Rels.ofConst q))
  ·cases h
 | _=>cases h
theorem ZgD {F:Nat→Fn}{G:Nat→List P→Option P}{tab:List (Nat×Nat)} (hF:∀ j ps p,G j ps=some p→∀ fz st es,Bd fz st→Rels fz st ps es→Gives fz st (F j es st) p):Op2 (JO F tab) (X7 G tab):=by
 intro fz st x y dx dy p b r s h
 cases r with
 | obj i=>
  cases s with
  | @tup ps ds s=>
   have h:(match tab.lookup i with
    | some j=>G j (.obj i :: ps)
    | none=>none)=some p:=h
   show Gives fz st (match tab.lookup i with
    | some j=>F j (.obj i :: ds) st
    | none=>none) p
   cases q:tab.lookup i with
   | none=>rw [q] at h; cases h
   | some j=>
    rw [q] at h
    exact hF j _ p h fz st _ b (.cons (.obj i) s)
  | _=>cases h
 | _=>cases h
theorem ZfM {F:Fn}{G:List P→Option P}{ds:List D}{fa:Ev}{ga:PEv} (ha:SEP fa ga) (hF:ZbE F G):SFP (ZE fa (Qd F ds)) (pq1 ga (WZ G ds)):=by
 intro π m ps h fz st ρ b E
 unfold pq1 at h
 split at h
 ·rename_i x q
  obtain ⟨d,st1,fz1,e1,n1,r1⟩:=ha π x q fz st ρ b E
  cases r1 with
  | @tup qs es r=>
   have h:(match Wd ds with
    | some es=>G (qs++es)
    | none=>none)=some (.lst m ps):=h
   split at h
   ·rename_i ws qq
    obtain ⟨j,us,st2,fz2,e2,f1,n2,f2,f3,f4⟩:=hF _ m ps h fz1 st1 (es++ds) n1.bd (r.append (Rels.ofConst qq))
    refine ⟨j,us,st2,fz2,?_,f1,n1.trans n2,f2,Nat.le_trans n1.len f3,f4⟩
    unfold ZE
    rw [e1]
    exact e2
   ·cases h
  | _=>cases h
 ·cases h
theorem Zaa {fz:Fz}{st:Za} (n:Nat):Rels fz st ((List.range n).map fun (k:Nat)=>P.int (k:Int)) ((List.range n).map fun (k:Nat)=>D.int (k:Int)):=by
 generalize List.range n=l
 induction l with
 | nil=>exact .nil
 | cons a l ih=>exact .cons (.int _) ih
theorem Vs {fz:Fz}{st:Za}{rng:Bool}{x:P}{dx:D}{xs:List P} (r:Rel fz st x dx) (h:W7 rng x=some xs):∃ ds,Xl rng dx=some ds∧Rels fz st xs ds:=by
 cases rng with
 | true=>
  cases r with
  | int n=>
   have h:(if n < 2 ^ 62∧-(2 ^ 62)≤n then some (Z8 n) else none)=some xs:=h
   split at h
   ·rename_i c
    cases h
    refine ⟨_,by unfold Xl; simp only; rw [if_pos c],Zaa _⟩
   ·cases h
  | _=>cases h
 | false=>
  cases r with
  | tup r=>cases h; exact ⟨_,rfl,r⟩
  | _=>cases h
theorem VM {fz:Fz}{st:Za}{rng:Bool}{x:P}{dx:D}{xs:List P} (b:Bd fz st) (r:Rel fz st x dx) (h:YL rng x=some xs):∃ ds ok,UN rng dx st=some (ds,ok)∧Rels fz st xs ds∧∀ fz' st',Next fz st fz' st'→ok st':=by
 unfold YL at h
 split at h
 ·rename_i ys q
  cases h
  obtain ⟨ds,e,rr⟩:=Vs r q
  exact ⟨ds,_,by unfold UN; rw [e],rr,fun _ _ _=>trivial⟩
 ·split at h
  ·cases h
   cases r with
   | @lst j m ps ds hz hs r=>
    rename_i m _; refine ⟨ds,fun s=>s[j]?=some (m,ds),?_,r,fun fz' st' n=>?_⟩
    ·unfold UN Xl
     simp only [hs]
    ·exact (n.old j (b j hz)).trans hs
  ·cases h
theorem Wm {fz:Fz}{st:Za}:∀ {xs:List P}{ds:List D}{k:Nat},Rels fz st xs ds→Rels fz st (Uq k xs) (U1 k ds)
 | _,_,_,.nil=>.nil
 | _,_,k,.cons a r=>.cons (.tup (.cons (.int _) (.cons a .nil))) (Wm r)
theorem Za8 {fz:Fz}{st:Za}:∀ {xs:List P}{ds:List D},Rels fz st xs ds→ds.all ZeD=xs.all ZbK
 | _,_,.nil=>rfl
 | _,_,.cons a r=>by
  rw [List.all_cons,List.all_cons,Za8 r]
  congr 1
  cases a with
  | tup s=>
   cases s with
   | nil=>rfl
   | cons _ s=>cases s with
    | nil=>rfl
    | cons _ s=>cases s<;>rfl
  | _=>rfl
theorem Vy {fz:Fz}{st:Za}{x:P}{dx:D}{xs:List P} (b:Bd fz st) (r:Rel fz st x dx) (h:Uu x=some xs):∃ ds ok,Zd2 dx st=some (ds,ok)∧Rels fz st xs ds∧∀ fz' st',Next fz st fz' st'→ok st':=by
 cases r with
 | @tup ps ds r=>
  have h:(if ps.all ZbK=true then some ps else none)=some xs:=h
  split at h
  ·rename_i c
   cases h
   refine ⟨ds,fun _=>True,?_,r,fun _ _ _=>trivial⟩
   show (if ds.all ZeD=true then some (ds,fun _=>True) else none)=_
   rw [if_pos (by rw [Za8 r]; exact c)]
  ·cases h
 | _=>cases h
theorem VE {fz:Fz}{st:Za}{x:P}{dx:D}{xs:List P} (b:Bd fz st) (r:Rel fz st x dx) (h:Uf x=some xs):∃ ds ok,Zbq dx st=some (ds,ok)∧Rels fz st xs ds∧∀ fz' st',Next fz st fz' st'→ok st':=by
 cases r with
 | @lst j m ps ds hz hs r=>
  cases h
  exact ⟨U1 0 ds,fun s=>s[j]?=some (_,ds),by unfold Zbq; simp only [hs],Wm r,fun fz' st' n=>(n.old j (b j hz)).trans hs⟩
 | tup r=>cases h; exact ⟨_,_,rfl,Wm r,fun _ _ _=>trivial⟩
 | _=>cases h
noncomputable def Vz (gb:P→List (Option P)) (bd:D→List (Option D)):Prop:=∀ fz st x d,Rel fz st x d→(gb x).length=(bd d).length∧EnvAll fz st (gb x) (bd d)
theorem Jr:Vz ZbD one:=fun fz st x d r=>⟨rfl,fun i p e=>by
 cases i with
 | zero=>cases e; exact ⟨d,rfl,r⟩
 | succ i=>exact nomatch (show (none:Option (Option P))=some (some p) from e)⟩
theorem WF:Vz QX two:=fun fz st x d r=>by
 have no:∀ {l:List (Option D)},EnvAll fz st [] l:=fun i p e=>nomatch (show (none:Option (Option P))=some (some p) from e)
 cases r with
 | tup r=>cases r with
  | nil=>exact ⟨rfl,no⟩
  | cons a r=>cases r with
   | nil=>exact ⟨rfl,no⟩
   | cons b r=>cases r with
    | cons c r=>exact ⟨rfl,no⟩
    | nil=>exact ⟨rfl,fun i p e=>by
     cases i with
     | zero=>cases e; exact ⟨_,rfl,a⟩
     | succ i=>cases i with
      | zero=>cases e; exact ⟨_,rfl,b⟩
      | succ i=>exact nomatch (show (none:Option (Option P))=some (some p) from e)⟩
 | _=>exact ⟨rfl,no⟩
theorem WM {gb:P→List (Option P)}{bd:D→List (Option D)} (hb:Vz gb bd) {ok:Za→Prop}{fe fc:Ev}{ge gc:PEv} (he:SEP fe ge) (hc:SEP fc gc) {fr:List Nat}{π:Zo}{ρ:Env}:∀ {xs:List P}{ds:List D}{ys:List P}{fz:Fz}{st:Za},Bd fz st→EnvAll fz st π ρ→Rels fz st xs ds→(∀ fz' st',Next fz st fz' st'→ok st')→
   Y1 (fun p=>ge (Yz gb π fr p)) (fun p=>gc (Yz gb π fr p)) xs=some ys→∃ es st' fz',Yx ok (fun d s=>fe (YJ bd ρ fr d) s) (fun d s=>fc (YJ bd ρ fr d) s) ds st=some (es,st')∧Next fz st fz' st'∧Rels fz' st' ys es
 | _,_,ys,fz,st,b,E,.nil,hok,h=>by cases h; exact ⟨[],st,fz,if_pos (hok _ _ (Next.refl b)),Next.refl b,.nil⟩
 | x :: xs,d :: ds,ys,fz,st,b,E,.cons a r,hok,h=>by
  have ok0:=hok _ _ (Next.refl b)
  obtain ⟨hl,hbe⟩:=hb fz st x d a
  have E1:EnvAll fz st (Yz gb π fr x) (YJ bd ρ fr d):=by
   intro i p e
   unfold Yz at e
   unfold YJ
   by_cases hi:i < (gb x).length
   ·rw [List.getElem?_append_left hi] at e
    rw [List.getElem?_append_left (by rw [←hl]; exact hi)]
    exact hbe i p e
   ·have hi:(gb x).length≤i:=Nat.le_of_not_lt hi
    rw [List.getElem?_append_right hi,List.getElem?_map] at e
    rw [List.getElem?_append_right (by rw [←hl]; exact hi),List.getElem?_map,←hl]
    cases q:fr[i - (gb x).length]? with
    | none=>rw [q] at e; cases e
    | some k=>
     rw [q] at e
     have e:(π[k]?).join=some p:=by simpa using e
     have e2:π[k]?=some (some p):=by
      cases q2:π[k]? with
      | none=>rw [q2] at e; cases e
      | some o=>rw [q2] at e; rw [show o=some p from e]
     obtain ⟨d',e3,r3⟩:=E k p e2
     exact ⟨d',by simp [e3],r3⟩
  unfold Y1 at h
  split at h
  ·rename_i q
   split at h
   ·rename_i y q1
    split at h
    ·rename_i zs q2
     cases h
     obtain ⟨dc,st1,fz1,e1,n1,r1⟩:=hc _ _ q fz st _ b E1
     cases r1
     obtain ⟨dy,st2,fz2,e2,n2,r2⟩:=he _ _ q1 fz1 st1 _ n1.bd (E1.next b n1)
     obtain ⟨es,st3,fz3,e3,n3,r3⟩:=WM hb he hc n2.bd (E.next b (n1.trans n2)) (r.next b (n1.trans n2)) (fun _ _ n=>hok _ _ ((n1.trans n2).trans n)) q2
     refine ⟨dy :: es,st3,fz3,?_,(n1.trans n2).trans n3,.cons (r2.next n2.bd n3) r3⟩
     unfold Yx
     rw [if_pos ok0]
     simp only [e1,e2,e3]
    ·cases h
   ·cases h
  ·rename_i q
   obtain ⟨dc,st1,fz1,e1,n1,r1⟩:=hc _ _ q fz st _ b E1
   cases r1
   obtain ⟨es,st3,fz3,e3,n3,r3⟩:=WM hb he hc n1.bd (E.next b n1) (r.next b n1) (fun _ _ n=>hok _ _ (n1.trans n)) h
   refine ⟨es,st3,fz3,?_,n1.trans n3,r3⟩
   unfold Yx
   rw [if_pos ok0]
   simp only [e1]
   exact e3
  ·cases h
theorem ZbO {gb:P→List (Option P)}{bd:D→List (Option D)} (hb:Vz gb bd) {gw:P→Option (List P)}{dw:D→Za→Option (List D×(Za→Prop))} (hw:∀ {fz:Fz}{st:Za}{x:P}{dx:D}{xs:List P},Bd fz st→Rel fz st x dx→gw x=some xs→∃ ds ok,dw dx st=some (ds,ok)∧Rels fz st xs ds∧∀ fz' st',Next fz st fz' st'→ok st') {fr:List Nat}{fi fe fc:Ev}{gi ge gc:PEv} (hi:SEP fi gi) (he:SEP fe ge) (hc:SEP fc gc) {π:Zo}{p:P} (e:ZU gb gw fr gi ge gc π=some p) {fz:Fz}{st:Za}{ρ:Env} (b:Bd fz st) (E:EnvAll fz st π ρ) :
  ∃ ps ds st1 fz1,p=.lst true ps∧X3 bd dw fr fi fe fc ρ st=some (.lst st1.length,st1++[(true,ds)])∧Next fz st fz1 st1∧Rels fz1 st1 ps ds:=by
 unfold ZU at e
 split at e
 ·rename_i x q
  split at e
  ·rename_i xs q1
   split at e
   ·rename_i c
    split at e
    ·rename_i ys q2
     cases e
     obtain ⟨d,st1,fz1,e1,n1,r1⟩:=hi π x q fz st ρ b E
     obtain ⟨ds,ok,e2,r2,hok⟩:=hw n1.bd r1 q1
     obtain ⟨es,st3,fz3,e3,n3,r3⟩:=WM hb he hc (fr:=fr) n1.bd (E.next b n1) r2 hok q2
     refine ⟨ys,es,st3,fz3,rfl,?_,n1.trans n3,r3⟩
     unfold X3
     simp only [e1,e2]
     rw [if_pos (by rw [←r2.length]; exact c)]
     simp only [e3]
    ·cases e
   ·cases e
  ·cases e
 ·cases e
theorem Zbs {gb:P→List (Option P)}{bd:D→List (Option D)} (hb:Vz gb bd) {gw:P→Option (List P)}{dw:D→Za→Option (List D×(Za→Prop))} (hw:∀ {fz:Fz}{st:Za}{x:P}{dx:D}{xs:List P},Bd fz st→Rel fz st x dx→gw x=some xs→∃ ds ok,dw dx st=some (ds,ok)∧Rels fz st xs ds∧∀ fz' st',Next fz st fz' st'→ok st') {fr:List Nat}{fi fe fc:Ev}{gi ge gc:PEv} (hi:SEP fi gi) (he:SEP fe ge) (hc:SEP fc gc):SEP (X3 bd dw fr fi fe fc) (ZU gb gw fr gi ge gc):=by
 intro π p e fz st ρ b E
 obtain ⟨ps,ds,st1,fz1,rfl,e1,n1,r1⟩:=ZbO hb hw hi he hc e b E
 exact ⟨_,_,_,e1,n1.trans (QG n1.bd),UV n1.bd r1⟩
theorem QU {gb:P→List (Option P)}{bd:D→List (Option D)} (hb:Vz gb bd) {gw:P→Option (List P)}{dw:D→Za→Option (List D×(Za→Prop))} (hw:∀ {fz:Fz}{st:Za}{x:P}{dx:D}{xs:List P},Bd fz st→Rel fz st x dx→gw x=some xs→∃ ds ok,dw dx st=some (ds,ok)∧Rels fz st xs ds∧∀ fz' st',Next fz st fz' st'→ok st') {fr:List Nat}{fi fe fc:Ev}{gi ge gc:PEv} (hi:SEP fi gi) (he:SEP fe ge) (hc:SEP fc gc):SFP (X3 bd dw fr fi fe fc) (ZU gb gw fr gi ge gc):=by
 intro π m qs e fz st ρ b E
 obtain ⟨ps,ds,st1,fz1,h,e1,n1,r1⟩:=ZbO hb hw hi he hc e b E
 cases h
 exact Makes.fresh n1 ⟨ds,e1,r1⟩
end
theorem Zb {F:Nat→Fn}{G:PFn} (hF:Ya F G):∀ e:CE,SEP (ev F e) (pe G e)
 | .var i=>ZhW i
 | .cst d=>by
  intro π p e fz st ρ b E
  exact .same b (Rel.ofConst e)
 | .bin op a b=>s2 (Zb hF a) (Zb hF b) (Zgv op)
 | .neg a=>s1 (Zb hF a) Zgo
 | .cmp op a b=>s2 (Zb hF a) (Zb hF b) (Zgu op)
 | .not a=>s1 (Zb hF a) ZfV
 | .and a b=>ZbL (Zb hF a) (Zb hF b) (sC fun _ _=>.bl false)
 | .or a b=>ZbL (Zb hF a) (sC fun _ _=>.bl true) (Zb hF b)
 | .ife c a b=>ZbL (Zb hF c) (Zb hF a) (Zb hF b)
 | .tupE a=>Zb hF a
 | .lstE a=>s1 (Zb hF a) Zf8
 | .anil=>sC fun _ _=>.tup .nil
 | .acons a r=>s2 (Zb hF a) (Zb hF r) ZfF
 | .ix a b=>s2 (Zb hF a) (Zb hF b) Zhj
 | .slice a lo hi=>s3 (Zb hF a) (Zb hF lo) (Zb hF hi) ZdP
 | .nop=>sC fun _ _=>.non
 | .part a=>s1 (Zb hF a) ZeK
 | .call f a ds=>s1 (Zb hF a) (ZgP (hF.1 f))
 | .len a=>s1 (Zb hF a) Zew
 | .tupleOf a=>s1 (Zb hF a) ZdR
 | .listOf a=>s1 (Zb hF a) Zed
 | .intOf _=>fun _ r e=>nomatch (show (none:Option P)=some r from e)
 | .min a b=>s2 (Zb hF a) (Zb hF b) ZgO
 | .max a b=>s2 (Zb hF a) (Zb hF b) ZgJ
 | .isi T a=>s1 (Zb hF a) (ZgK T)
 | .rs k a=>s1 (Zb hF a) (Zh4 k)
 | .inv a=>s1 (Zb hF a) Zgq
 | .tupR _=>fun _ r e=>nomatch (show (none:Option P)=some r from e)
 | .look ks ds a=>s1 (Zb hF a) (Zec ks ds)
 | .dget a k d=>s3 (Zb hF a) (Zb hF k) (Zb hF d) ZfW
 | .inR ng a b=>s2 (Zb hF a) (Zb hF b) (ZgU ng)
 | .all _=>fun _ r e=>nomatch (show (none:Option P)=some r from e)
 | .any _=>fun _ r e=>nomatch (show (none:Option P)=some r from e)
 | .comp rng fr it elt cnd=>Zbs Jr VM (Zb hF it) (Zb hF elt) (Zb hF cnd)
 | .comp2 fr it elt cnd=>Zbs WF VE (Zb hF it) (Zb hF elt) (Zb hF cnd)
 | .compT fr it elt cnd=>Zbs WF Vy (Zb hF it) (Zb hF elt) (Zb hF cnd)
 | .lstR a b=>s2 (Zb hF a) (Zb hF b) ZfB
 | .new i=>sC fun _ _=>.obj i
 | .meth tab o a=>s2 (Zb hF o) (Zb hF a) (ZgD fun j=>hF.1 j)
 | .isc l a=>s1 (Zb hF a) (ZgW l)
 | .tix o a=>s2 (Zb hF o) (Zb hF a) Zgs
 | .dict ks a=>s1 (Zb hF a) (Zfh ks)
theorem Qe {F:Nat→Fn}{G:PFn} (hF:Ya F G):∀ e:CE,WE e=true→SFP (ev F e) (pe G e)
 | .bin op a b,_=>s2F (Zb hF a) (Zb hF b) (Zb5 op)
 | .lstE a,_=>s1F (Zb hF a) Zd0
 | .call f a ds,h=>ZfM (Zb hF a) (hF.2 f h)
 | .slice a lo hi,_=>s3F (Zb hF a) (Zb hF lo) (Zb hF hi) ZdJ
 | .listOf a,_=>s1F (Zb hF a) Q8
 | .rs k a,_=>s1F (Zb hF a) (ZgC k)
 | .comp rng fr it elt cnd,_=>QU Jr VM (Zb hF it) (Zb hF elt) (Zb hF cnd)
 | .comp2 fr it elt cnd,_=>QU WF VE (Zb hF it) (Zb hF elt) (Zb hF cnd)
 | .compT fr it elt cnd,_=>QU WF Vy (Zb hF it) (Zb hF elt) (Zb hF cnd)
 | .lstR a b,_=>s2F (Zb hF a) (Zb hF b) Zbo
noncomputable def Y6 (M:List Nat) (π:Zo):Zo:=π.mapIdx fun i x=>if M.contains i then none else x
theorem XZ {M:List Nat}{π:Zo}{i:Nat} (h:M.contains i=false):(Y6 M π)[i]?=π[i]?:=by
 unfold Y6
 rw [List.getElem?_mapIdx]
 cases q:π[i]? with
 | none=>rfl
 | some x=>
  show some (if M.contains i then none else x)=some x
  rw [h]; rfl
theorem Zbg {M:List Nat}{π:Zo}{i:Nat}{p:P} (h:(Y6 M π)[i]?=some (some p)):M.contains i=false∧π[i]?=some (some p):=by
 unfold Y6 at h
 rw [List.getElem?_mapIdx] at h
 cases q:π[i]? with
 | none=>rw [q] at h; cases h
 | some x=>
  rw [q] at h
  have h:(if M.contains i then none else x)=some p:=by simpa using h
  split at h
  ·cases h
  ·rename_i c
   exact ⟨by simpa using c,by rw [h]⟩
theorem Zc {G:PFn}{M:List Nat}{π:Zo}:∀ e:CE,noM M e=true→pe G e (Y6 M π)=pe G e π
 | .var i,h=>by
  have h:(!M.contains i)=true:=h
  show Xx i _=Xx i _
  unfold Xx
  rw [XZ (by simpa using h)]
 | .cst d,_=>rfl
 | .bin op a b,h=>by
  have h:=(Bool.and_eq_true _ _).mp h
  show pq2 (pe G a) (pe G b) (Y4 op) _=pq2 (pe G a) (pe G b) (Y4 op) _
  unfold pq2; rw [Zc a h.1,Zc b h.2]
 | .neg a,h=>by
  show pq1 (pe G a) JV _=pq1 (pe G a) JV _
  unfold pq1; rw [Zc a h]
 | .cmp op a b,h=>by
  have h:=(Bool.and_eq_true _ _).mp h
  show pq2 (pe G a) (pe G b) (YE op) _=pq2 (pe G a) (pe G b) (YE op) _
  unfold pq2; rw [Zc a h.1,Zc b h.2]
 | .not a,h=>by
  show pq1 (pe G a) Zak _=pq1 (pe G a) Zak _
  unfold pq1; rw [Zc a h]
 | .and a b,h=>by
  have h:=(Bool.and_eq_true _ _).mp h
  show Yq (pe G a) (pe G b) _ _=Yq (pe G a) (pe G b) _ _
  unfold Yq; rw [Zc a h.1,Zc b h.2]
 | .or a b,h=>by
  have h:=(Bool.and_eq_true _ _).mp h
  show Yq (pe G a) _ (pe G b) _=Yq (pe G a) _ (pe G b) _
  unfold Yq; rw [Zc a h.1,Zc b h.2]
 | .ife c a b,h=>by
  have h:=(Bool.and_eq_true _ _).mp h
  have h2:=(Bool.and_eq_true _ _).mp h.2
  show Yq (pe G c) (pe G a) (pe G b) _=Yq (pe G c) (pe G a) (pe G b) _
  unfold Yq; rw [Zc c h.1,Zc a h2.1,Zc b h2.2]
 | .tupE a,h=>Zc a h
 | .lstE a,h=>by
  show pq1 (pe G a) Q4 _=pq1 (pe G a) Q4 _
  unfold pq1; rw [Zc a h]
 | .anil,_=>rfl
 | .acons a b,h=>by
  have h:=(Bool.and_eq_true _ _).mp h
  show pq2 (pe G a) (pe G b) VT _=pq2 (pe G a) (pe G b) VT _
  unfold pq2; rw [Zc a h.1,Zc b h.2]
 | .ix a b,h=>by
  have h:=(Bool.and_eq_true _ _).mp h
  show pq2 (pe G a) (pe G b) ixP _=pq2 (pe G a) (pe G b) ixP _
  unfold pq2; rw [Zc a h.1,Zc b h.2]
 | .slice c a b,h=>by
  have h:=(Bool.and_eq_true _ _).mp h
  have h2:=(Bool.and_eq_true _ _).mp h.2
  show pq3 (pe G c) (pe G a) (pe G b) _ _=pq3 (pe G c) (pe G a) (pe G b) _ _
  unfold pq3; rw [Zc c h.1,Zc a h2.1,Zc b h2.2]
 | .nop,_=>rfl
 | .part a,h=>by
  show pq1 (pe G a) Vu _=pq1 (pe G a) Vu _
  unfold pq1; rw [Zc a h]
 | .call f a ds,h=>by
  show pq1 (pe G a) (WZ (G f) ds) _=pq1 (pe G a) (WZ (G f) ds) _
  unfold pq1; rw [Zc a h]
 | .len a,h=>by
  show pq1 (pe G a) Q3 _=pq1 (pe G a) Q3 _
  unfold pq1; rw [Zc a h]
 | .tupleOf a,h=>by
  show pq1 (pe G a) Wc _=pq1 (pe G a) Wc _
  unfold pq1; rw [Zc a h]
 | .listOf a,h=>by
  show pq1 (pe G a) UH _=pq1 (pe G a) UH _
  unfold pq1; rw [Zc a h]
 | .intOf _,_=>rfl
 | .min a b,h=>by
  have h:=(Bool.and_eq_true _ _).mp h
  show pq2 (pe G a) (pe G b) Zai _=pq2 (pe G a) (pe G b) Zai _
  unfold pq2; rw [Zc a h.1,Zc b h.2]
 | .max a b,h=>by
  have h:=(Bool.and_eq_true _ _).mp h
  show pq2 (pe G a) (pe G b) JQ _=pq2 (pe G a) (pe G b) JQ _
  unfold pq2; rw [Zc a h.1,Zc b h.2]
 | .isi T a,h=>by
  show pq1 (pe G a) (X6 T) _=pq1 (pe G a) (X6 T) _
  unfold pq1; rw [Zc a h]
 | .rs k a,h=>by
  show pq1 (pe G a) (rsP k) _=pq1 (pe G a) (rsP k) _
  unfold pq1; rw [Zc a h]
 | .inv a,h=>by
  show pq1 (pe G a) ZcW _=pq1 (pe G a) ZcW _
  unfold pq1; rw [Zc a h]
 | .tupR _,_=>rfl
 | .look ks ds a,h=>by
  show pq1 (pe G a) (Uz ks ds) _=pq1 (pe G a) (Uz ks ds) _
  unfold pq1; rw [Zc a h]
 | .dget a k d,h=>by
  have h:=(Bool.and_eq_true _ _).mp h
  have h2:=(Bool.and_eq_true _ _).mp h.2
  show pq3 (pe G a) (pe G k) (pe G d) ZcV _=pq3 (pe G a) (pe G k) (pe G d) ZcV _
  unfold pq3; rw [Zc a h.1,Zc k h2.1,Zc d h2.2]
 | .inR ng a b,h=>by
  have h:=(Bool.and_eq_true _ _).mp h
  show pq2 (pe G a) (pe G b) (ZdA ng) _=pq2 (pe G a) (pe G b) (ZdA ng) _
  unfold pq2; rw [Zc a h.1,Zc b h.2]
 | .all _,_=>rfl
 | .any _,_=>rfl
 | .comp rng fr it elt cnd,h=>by
  have h:=(Bool.and_eq_true _ _).mp h
  have e:∀ b p,Yz b (Y6 M π) fr p=Yz b π fr p:=fun b p=>by
   unfold Yz
   congr 1
   refine List.map_congr_left fun i hi=>?_
   have:=List.all_eq_true.mp h.2 i hi
   rw [XZ (by simpa using this)]
  show ZU ZbD (YL rng) fr (pe G it) (pe G elt) (pe G cnd) _=ZU ZbD (YL rng) fr (pe G it) (pe G elt) (pe G cnd) _
  unfold ZU
  rw [Zc it h.1]
  simp only [e]
 | .comp2 fr it elt cnd,h=>by
  have h:=(Bool.and_eq_true _ _).mp h
  have e:∀ b p,Yz b (Y6 M π) fr p=Yz b π fr p:=fun b p=>by
   unfold Yz
   congr 1
   refine List.map_congr_left fun i hi=>?_
   have:=List.all_eq_true.mp h.2 i hi
   rw [XZ (by simpa using this)]
  show ZU QX Uf fr (pe G it) (pe G elt) (pe G cnd) _=ZU QX Uf fr (pe G it) (pe G elt) (pe G cnd) _
  unfold ZU
  rw [Zc it h.1]
  simp only [e]
 | .compT fr it elt cnd,h=>by
  have h:=(Bool.and_eq_true _ _).mp h
  have e:∀ b p,Yz b (Y6 M π) fr p=Yz b π fr p:=fun b p=>by
   unfold Yz
   congr 1
   refine List.map_congr_left fun i hi=>?_
   have:=List.all_eq_true.mp h.2 i hi
   rw [XZ (by simpa using this)]
  show ZU QX Uu fr (pe G it) (pe G elt) (pe G cnd) _=ZU QX Uu fr (pe G it) (pe G elt) (pe G cnd) _
  unfold ZU
  rw [Zc it h.1]
  simp only [e]
 | .new _,_=>rfl
 | .meth tab o a,h=>by
  have h:=(Bool.and_eq_true _ _).mp h
  show pq2 (pe G o) (pe G a) (X7 G tab) _=pq2 (pe G o) (pe G a) (X7 G tab) _
  unfold pq2; rw [Zc o h.1,Zc a h.2]
 | .tix o a,h=>by
  have h:=(Bool.and_eq_true _ _).mp h
  show pq2 (pe G o) (pe G a) Zdh _=pq2 (pe G o) (pe G a) Zdh _
  unfold pq2; rw [Zc o h.1,Zc a h.2]
 | .isc l a,h=>by
  show pq1 (pe G a) (Zdk l) _=pq1 (pe G a) (Zdk l) _
  unfold pq1; rw [Zc a h]
 | .lstR a b,h=>by
  have h:=(Bool.and_eq_true _ _).mp h
  show pq2 (pe G a) (pe G b) U8 _=pq2 (pe G a) (pe G b) U8 _
  unfold pq2; rw [Zc a h.1,Zc b h.2]
 | .dict ks a,h=>by
  show pq1 (pe G a) (VD ks) _=pq1 (pe G a) (VD ks) _
  unfold pq1; rw [Zc a h]
end Dp


namespace Dp
open PySem
structure Inv (n0:Nat) (M:List Nat) (fz:Fz) (st:Za) (π:Zo) (ρ:Env):Prop where
 bd:Bd fz st
 lo:n0≤st.length
 len:π.length=ρ.length
 fr:∀ (i:Nat) (p:P),M.contains i=false→π[i]?=some (some p)→∃ d,ρ[i]?=some (some d)∧Rel fz st p d
 mt:∀ (i:Nat) (p:P),M.contains i=true→π[i]?=some (some p)→∃ (j:Nat) (ps:List P) (ds:List D),p=.lst true ps∧ρ[i]?=some (some (.lst j))∧st[j]?=some (true,ds)∧¬fz j∧n0≤j∧Rels fz st ps ds
 ne:∀ (i i':Nat) (p p':P) (j:Nat),M.contains i=true→M.contains i'=true→π[i]?=some (some p)→π[i']?=some (some p')→ρ[i]?=some (some (.lst j))→ρ[i']?=some (some (.lst j))→i=i'
structure Later (n0:Nat) (fz:Fz) (st:Za) (fz':Fz) (st':Za):Prop where
 low:∀ i,i < n0→st'[i]?=st[i]?
 frz:∀ i,fz i→st'[i]?=st[i]?
 sub:∀ i,fz i→fz' i
 new:∀ i,fz' i→fz i∨n0≤i
 len:st.length≤st'.length
section
variable {n0:Nat}{M:List Nat}{fz fz' fz1 fz2:Fz}{st st' st1 st2:Za}{π:Zo}{ρ:Env}
theorem Later.refl:Later n0 fz st fz st:=⟨fun _ _=>rfl,fun _ _=>rfl,fun _ h=>h,fun _ h=>.inl h,Nat.le_refl _⟩
theorem Later.trans (x:Later n0 fz st fz1 st1) (y:Later n0 fz1 st1 fz2 st2):Later n0 fz st fz2 st2:=
 ⟨fun i h=>(y.low i h).trans (x.low i h),fun i h=>(y.frz i (x.sub i h)).trans (x.frz i h),fun i h=>y.sub i (x.sub i h),fun i h=>(y.new i h).elim (x.new i) .inr,Nat.le_trans x.len y.len⟩
theorem Next.later (h:n0≤st.length) (b:Bd fz st) (x:Next fz st fz' st'):Later n0 fz st fz' st':=
 ⟨fun i hi=>x.old i (Nat.lt_of_lt_of_le hi h),fun i hi=>x.old i (b i hi),x.sub,fun i hi=>(x.new i hi).elim .inl fun z=>.inr (Nat.le_trans h z),x.len⟩
theorem Z4 {α:Type}{l:List α}{i:Nat}{x:α} (h:l[i]?=some x):i < l.length:=(List.getElem?_eq_some_iff.mp h).1
theorem Inv.next (I:Inv n0 M fz st π ρ) (x:Next fz st fz' st'):Inv n0 M fz' st' π ρ:=
 ⟨x.bd,Nat.le_trans I.lo x.len,I.len,fun i p h e=>let ⟨d,e1,r⟩:=I.fr i p h e; ⟨d,e1,r.next I.bd x⟩,fun i p h e=>by
  obtain ⟨j,ps,ds,e1,e2,e3,e4,e5,r⟩:=I.mt i p h e
  have hj:=Z4 e3
  exact ⟨j,ps,ds,e1,e2,(x.old j hj).trans e3,fun z=>(x.new j z).elim e4 fun z=>absurd hj (by omega),e5,r.next I.bd x⟩,I.ne⟩
theorem Inv.erase (I:Inv n0 M fz st π ρ):EnvAll fz st (Y6 M π) ρ:=fun i p e=>let ⟨h1,h2⟩:=Zbg e; I.fr i p h1 h2
noncomputable def fzM (M:List Nat) (fz:Fz) (π:Zo) (ρ:Env):Fz:=fun i=>fz i∨∃ (k:Nat) (p:P),M.contains k=true∧π[k]?=some (some p)∧ρ[k]?=some (some (.lst i))
theorem Inv.bdM (I:Inv n0 M fz st π ρ):Bd (fzM M fz π ρ) st:=by
 rintro i (h | ⟨k,p,hk,e,e'⟩)
 ·exact I.bd i h
 ·obtain ⟨j,ps,ds,e1,e2,e3,e4,e5,r⟩:=I.mt k p hk e
  rw [e'] at e2; cases e2
  exact Z4 e3
theorem Inv.all (I:Inv n0 M fz st π ρ):EnvAll (fzM M fz π ρ) st π ρ:=by
 intro i p e
 cases h:M.contains i with
 | false=>
  obtain ⟨d,e1,r⟩:=I.fr i p h e
  exact ⟨d,e1,r.mono (fun _ z=>.inl z) fun _ _=>rfl⟩
 | true=>
  obtain ⟨j,ps,ds,e1,e2,e3,e4,e5,r⟩:=I.mt i p h e
  subst e1
  exact ⟨_,e2,.lst (.inr ⟨i,_,h,e,e2⟩) e3 (r.mono (fun _ z=>.inl z) fun _ _=>rfl)⟩
theorem ZW {F:Nat→Fn}{G:PFn} (hF:Ya F G) {e:CE}{p:P} (I:Inv n0 M fz st π ρ) (h:pe G e π=some p) (k:Zv M e p=true):Gives fz st (ev F e ρ st) p:=by
 unfold Zv at k
 rw [Bool.or_eq_true] at k
 rcases k with k | k
 ·rw [←Zc e k] at h
  exact Zb hF e _ p h fz st ρ I.bd I.erase
 ·obtain ⟨d,st',fz',e1,n1,r1⟩:=Zb hF e _ p h _ st ρ I.bdM I.all
  exact ⟨d,st',fz,e1,n1.small I.bd,r1.ofNoL k⟩
theorem UJ {F:Nat→Fn}{G:PFn} (hF:Ya F G) {e:CE}{m:Bool}{xs:List P} (I:Inv n0 M fz st π ρ) (h:pe G e π=some (.lst m xs)) (hf:WE e=true) (k:(noM M e||Qi xs)=true) :
  ∃ j ds st' fz1,ev F e ρ st=some (.lst j,st')∧st'[j]?=some (m,ds)∧Next fz st fz1 st'∧¬fz1 j∧st.length≤j∧Rels fz1 st' xs ds:=by
 rw [Bool.or_eq_true] at k
 rcases k with k | k
 ·rw [←Zc e k] at h
  exact Qe hF e hf _ m xs h fz st ρ I.bd I.erase
 ·obtain ⟨j,ds,st',fz1,e1,e2,n1,hn,hl,r⟩:=Qe hF e hf _ m xs h _ st ρ I.bdM I.all
  exact ⟨j,ds,st',fz,e1,e2,n1.small I.bd,fun z=>absurd (I.bd j z) (by omega),hl,r.ofNoL k⟩
theorem ZK {α:Type}{l:List (Option α)}{i k:Nat}{x y:α} (h:(l.set i (some x))[k]?=some (some y)):(k=i∧y=x∧i < l.length)∨(k≠i∧l[k]?=some (some y)):=by
 rw [List.getElem?_set] at h
 split at h
 ·rename_i e
  subst e
  split at h
  ·rename_i hl
   cases h
   exact .inl ⟨rfl,rfl,hl⟩
  ·cases h
 ·rename_i e
  exact .inr ⟨fun z=>e z.symm,h⟩
theorem WX {α:Type}{l:List (Option α)}{i:Nat}{x:α} (h:i < l.length):(l.set i (some x))[i]?=some (some x):=by rw [List.getElem?_set,if_pos rfl,if_pos h]
theorem Zf {α:Type}{l:List (Option α)}{i k:Nat}{x:α} (h:k≠i):(l.set i (some x))[k]?=l[k]?:=by rw [List.getElem?_set,if_neg (fun z=>h z.symm)]
theorem Inv.set {i:Nat}{p:P}{d:D} (I:Inv n0 M fz st π ρ) (h:M.contains i=false) (r:Rel fz st p d):Inv n0 M fz st (Zt π i p) (ZB ρ i d):=by
 unfold Zt ZB
 refine ⟨I.bd,I.lo,by rw [List.length_set,List.length_set]; exact I.len,fun k q hk e=>?_,fun k q hk e=>?_,fun k k' q q' j hk hk' e e' e1 e1'=>?_⟩
 ·rcases ZK e with ⟨rfl,rfl,hl⟩ | ⟨hn,e⟩
  ·exact ⟨d,WX (by rw [←I.len]; exact hl),r⟩
  ·rw [Zf hn]
   exact I.fr k q hk e
 ·rcases ZK e with ⟨rfl,rfl,hl⟩ | ⟨hn,e⟩
  ·rw [h] at hk; cases hk
  ·rw [Zf hn]
   exact I.mt k q hk e
 ·rcases ZK e with ⟨rfl,rfl,hl⟩ | ⟨hn,e⟩
  ·rw [h] at hk; cases hk
  ·rcases ZK e' with ⟨rfl,rfl,hl⟩ | ⟨hn',e'⟩
   ·rw [h] at hk'; cases hk'
   ·rw [Zf hn] at e1
    rw [Zf hn'] at e1'
    exact I.ne k k' q q' j hk hk' e e' e1 e1'
theorem Inv.setM {i j:Nat}{ps:List P}{ds:List D} (I:Inv n0 M fz st π ρ) (h:M.contains i=true) (hs:st[j]?=some (true,ds)) (hz:¬fz j) (hl:n0≤j) (r:Rels fz st ps ds)
  (hn:∀ (k:Nat) (p:P),M.contains k=true→π[k]?=some (some p)→ρ[k]?≠some (some (.lst j))):Inv n0 M fz st (Zt π i (.lst true ps)) (ZB ρ i (.lst j)):=by
 unfold Zt ZB
 refine ⟨I.bd,I.lo,by rw [List.length_set,List.length_set]; exact I.len,fun k q hk e=>?_,fun k q hk e=>?_,fun k k' q q' j' hk hk' e e' e1 e1'=>?_⟩
 ·rcases ZK e with ⟨rfl,rfl,hl⟩ | ⟨hn,e⟩
  ·rw [h] at hk; cases hk
  ·rw [Zf hn]
   exact I.fr k q hk e
 ·rcases ZK e with ⟨rfl,rfl,hl'⟩ | ⟨hn,e⟩
  ·exact ⟨j,ps,ds,rfl,WX (by rw [←I.len]; exact hl'),hs,hz,hl,r⟩
  ·rw [Zf hn]
   exact I.mt k q hk e
 ·rcases ZK e with ⟨a1,a2,a3⟩ | ⟨a1,a2⟩
  ·rcases ZK e' with ⟨b1,b2,b3⟩ | ⟨b1,b2⟩
   ·rw [a1,b1]
   ·rw [a1,WX (by rw [←I.len]; exact a3)] at e1
    cases e1
    rw [Zf b1] at e1'
    exact absurd e1' (hn k' q' hk' b2)
  ·rcases ZK e' with ⟨b1,b2,b3⟩ | ⟨b1,b2⟩
   ·rw [b1,WX (by rw [←I.len]; exact b3)] at e1'
    cases e1'
    rw [Zf a1] at e1
    exact absurd e1 (hn k q hk a2)
   ·rw [Zf a1] at e1
    rw [Zf b1] at e1'
    exact I.ne k k' q q' j' hk hk' a2 b2 e1 e1'
theorem Inv.write {i j:Nat}{p0:P}{ps:List P}{ds:List D} (I:Inv n0 M fz st π ρ) (h:M.contains i=true) (e0:π[i]?=some (some p0)) (ej:ρ[i]?=some (some (.lst j))) (hz:¬fz j) (hl:n0≤j) (hj:j < st.length) (r:Rels fz st ps ds) :
  Inv n0 M fz (st.set j (true,ds)) (Zt π i (.lst true ps)) ρ∧Later n0 fz st fz (st.set j (true,ds)):=by
 have same:∀ k,fz k→(st.set j (true,ds))[k]?=st[k]?:=fun k hk=>by
  rw [List.getElem?_set,if_neg (fun z=>hz (by rw [z]; exact hk))]
 have mono:∀ {q:P}{d:D},Rel fz st q d→Rel fz (st.set j (true,ds)) q d:=fun r=>r.mono (fun _ z=>z) same
 have monos:∀ {q:List P}{d:List D},Rels fz st q d→Rels fz (st.set j (true,ds)) q d:=fun r=>r.mono (fun _ z=>z) same
 refine ⟨⟨fun k hk=>by rw [List.length_set]; exact I.bd k hk,by rw [List.length_set]; exact I.lo,by unfold Zt; rw [List.length_set]; exact I.len,fun k q hk e=>?_,fun k q hk e=>?_,fun k k' q q' j' hk hk' e e' e1 e1'=>?_⟩,
  ⟨fun k hk=>by rw [List.getElem?_set,if_neg (by omega)],same,fun _ z=>z,fun _ z=>.inl z,by rw [List.length_set]; exact Nat.le_refl _⟩⟩
 ·unfold Zt at e
  rcases ZK e with ⟨rfl,rfl,_⟩ | ⟨hn,e⟩
  ·rw [h] at hk; cases hk
  ·obtain ⟨d,e1,r1⟩:=I.fr k q hk e
   exact ⟨d,e1,mono r1⟩
 ·unfold Zt at e
  rcases ZK e with ⟨rfl,rfl,_⟩ | ⟨hn,e⟩
  ·exact ⟨j,ps,ds,rfl,ej,by rw [List.getElem?_set,if_pos rfl,if_pos hj],hz,hl,monos r⟩
  ·obtain ⟨j',qs,es,f1,f2,f3,f4,f5,f6⟩:=I.mt k q hk e
   refine ⟨j',qs,es,f1,f2,?_,f4,f5,monos f6⟩
   rw [List.getElem?_set,if_neg (fun z=>hn (I.ne k i q p0 j hk h e e0 (by rw [z]; exact f2) ej))]
   exact f3
 ·unfold Zt at e e'
  have f:∀ {k:Nat}{q:P},(π.set i (some (P.lst true ps)))[k]?=some (some q)→∃ q',π[k]?=some (some q'):=fun {k q} e=>by
   rcases ZK e with ⟨rfl,_,_⟩ | ⟨_,e⟩
   ·exact ⟨_,e0⟩
   ·exact ⟨_,e⟩
  obtain ⟨_,g⟩:=f e
  obtain ⟨_,g'⟩:=f e'
  exact I.ne k k' _ _ j' hk hk' g g' e1 e1'
end
noncomputable def Zib (n0:Nat) (M:List Nat) (fz:Fz) (st:Za):PFl→Fl→Prop
 | .nx π,.nx ρ=>Inv n0 M fz st π ρ
 | .bk π,.bk ρ=>Inv n0 M fz st π ρ
 | .ct π,.ct ρ=>Inv n0 M fz st π ρ
 | .rt p,.rt d=>Rel fz st p d∧Bd fz st
 | _,_=>False
noncomputable def Kept (M T:List Nat) (π:Zo) (ρ:Env) (st:Za) (π':Zo) (ρ':Env) (st':Za):Prop:=
 ∀ (i:Nat),i∉T→M.contains i=true→π'[i]?=π[i]?∧ρ'[i]?=ρ[i]?∧∀ (j:Nat) (p:P),π[i]?=some (some p)→ρ[i]?=some (some (.lst j))→st'[j]?=st[j]?
noncomputable def KeptF (M T:List Nat) (π:Zo) (ρ:Env) (st:Za) (r:PFl) (r':Fl) (st':Za):Prop:=match r,r' with
 | .nx π',.nx ρ'=>Kept M T π ρ st π' ρ' st'
 | .bk π',.bk ρ'=>Kept M T π ρ st π' ρ' st'
 | .ct π',.ct ρ'=>Kept M T π ρ st π' ρ' st'
 | _,_=>True
theorem Kept.refl {M T:List Nat}{π:Zo}{ρ:Env}{st:Za}:Kept M T π ρ st π ρ st:=fun _ _ _=>⟨rfl,rfl,fun _ _ _ _=>rfl⟩
theorem Kept.trans {M T T1 T2:List Nat}{π π1 π2:Zo}{ρ ρ1 ρ2:Env}{st st1 st2:Za} (s1:∀ i,i∈T1→i∈T) (s2:∀ i,i∈T2→i∈T) (x:Kept M T1 π ρ st π1 ρ1 st1) (y:Kept M T2 π1 ρ1 st1 π2 ρ2 st2):Kept M T π ρ st π2 ρ2 st2:=fun i h hm=>by
 obtain ⟨a1,a2,a3⟩:=x i (fun z=>h (s1 i z)) hm
 obtain ⟨b1,b2,b3⟩:=y i (fun z=>h (s2 i z)) hm
 exact ⟨b1.trans a1,b2.trans a2,fun j p e e'=>(b3 j p (a1.trans e) (a2.trans e')).trans (a3 j p e e')⟩
theorem Kept.more {M T T1:List Nat}{π π1:Zo}{ρ ρ1:Env}{st st1:Za} (s1:∀ i,i∈T1→i∈T) (x:Kept M T1 π ρ st π1 ρ1 st1):Kept M T π ρ st π1 ρ1 st1:=fun i h hm=>x i (fun z=>h (s1 i z)) hm
theorem KeptF.trans {M T T1 T2:List Nat}{π π1:Zo}{ρ ρ1:Env}{st st1 st2:Za}{r:PFl}{r':Fl} (s1:∀ i,i∈T1→i∈T) (s2:∀ i,i∈T2→i∈T) (x:Kept M T1 π ρ st π1 ρ1 st1) (y:KeptF M T2 π1 ρ1 st1 r r' st2):KeptF M T π ρ st r r' st2:=by
 cases r<;>cases r'<;>first | trivial | exact Kept.trans s1 s2 x y
theorem KeptF.more {M T T1:List Nat}{π:Zo}{ρ:Env}{st st2:Za}{r:PFl}{r':Fl} (s1:∀ i,i∈T1→i∈T) (y:KeptF M T1 π ρ st r r' st2):KeptF M T π ρ st r r' st2:=by
 cases r<;>cases r'<;>first | trivial | exact Kept.more s1 y
theorem Next.kept {n0:Nat}{M T:List Nat}{fz fz':Fz}{st st':Za}{π:Zo}{ρ:Env} (I:Inv n0 M fz st π ρ) (x:Next fz st fz' st'):Kept M T π ρ st π ρ st':=fun i _ hm=>⟨rfl,rfl,fun j p e e'=>by
 obtain ⟨j',ps,ds,e1,e2,e3,e4,e5,r⟩:=I.mt i p hm e
 rw [e'] at e2; cases e2
 exact x.old j (Z4 e3)⟩
noncomputable abbrev Xm (n0:Nat) (M T:List Nat) (fz:Fz) (st:Za) (π:Zo) (ρ:Env) (x:Option (Fl×Za)) (r:PFl):Prop:=∃ r' st' fz',x=some (r',st')∧Later n0 fz st fz' st'∧Zib n0 M fz' st' r r'∧KeptF M T π ρ st r r' st'
noncomputable def SX (n0:Nat) (M T:List Nat) (f:Ex) (g:PEx):Prop:=∀ π r,g π=some r→∀ fz st ρ,Inv n0 M fz st π ρ→Xm n0 M T fz st π ρ (f ρ st) r
section
variable {n0:Nat}{M T T1 T2:List Nat}{f f1 f2:Ex}{g g1 g2:PEx}{F:Nat→Fn}{G:PFn}
theorem ZgY (h1:SX n0 M T1 f1 g1) (h2:SX n0 M T2 f2 g2):SX n0 M (T1++T2) (Vj f1 f2) (WR g1 g2):=by
 intro π r e fz st ρ I
 have s1:∀ i,i∈T1→i∈T1++T2:=fun i h=>List.mem_append.mpr (.inl h)
 have s2:∀ i,i∈T2→i∈T1++T2:=fun i h=>List.mem_append.mpr (.inr h)
 unfold WR at e
 split at e
 ·rename_i π1 q
  obtain ⟨r1,st1,fz1,e1,l1,R1,k1⟩:=h1 π _ q fz st ρ I
  cases r1 with
  | nx ρ1=>
   obtain ⟨r2,st2,fz2,e2,l2,R2,k2⟩:=h2 π1 r e fz1 st1 ρ1 R1
   exact ⟨r2,st2,fz2,by unfold Vj; rw [e1]; exact e2,l1.trans l2,R2,KeptF.trans s1 s2 k1 k2⟩
  | _=>exact R1.elim
 ·rename_i hn
  obtain ⟨r1,st1,fz1,e1,l1,R1,k1⟩:=h1 π _ e fz st ρ I
  refine ⟨r1,st1,fz1,?_,l1,R1,KeptF.more s1 k1⟩
  unfold Vj
  rw [e1]
  cases r with
  | nx π1=>exact absurd e (hn π1)
  | rt p=>cases r1<;>first | rfl | exact R1.elim
  | bk π1=>cases r1<;>first | rfl | exact R1.elim
  | ct π1=>cases r1<;>first | rfl | exact R1.elim
theorem Zgm (hF:Ya F G) (e:CE):SX n0 M T (Jk (ev F e)) (QO (pe G e)):=by
 intro π r h fz st ρ I
 unfold QO at h
 split at h
 ·rename_i p q
  cases h
  obtain ⟨d,st',fz',e1,n1,r1⟩:=Zb hF e _ p q _ st ρ I.bdM I.all
  refine ⟨.rt d,st',fz',by unfold Jk; rw [e1],⟨fun i hi=>n1.old i (Nat.lt_of_lt_of_le hi I.lo),fun i hi=>n1.old i (I.bd i hi),fun i hi=>n1.sub i (.inl hi),fun i hi=>?_,n1.len⟩,⟨r1,n1.bd⟩,trivial⟩
  rcases n1.new i hi with (z | ⟨k,p,hk,e,e'⟩) | z
  ·exact .inl z
  ·obtain ⟨j,ps,ds,f1,f2,f3,f4,f5,r⟩:=I.mt k p hk e
   rw [e'] at f2; cases f2
   exact .inr f5
  ·exact .inr (Nat.le_trans I.lo z)
 ·cases h
theorem Xt {α:Type}{l:List (Option α)}{j k:Nat}{x:α} (e:(l.set j none)[k]?=some (some x)):k≠j∧l[k]?=some (some x):=by
 by_cases h:k=j
 ·subst h
  rw [List.getElem?_set] at e
  simp only [if_true] at e
  split at e<;>cases e
 ·rw [List.getElem?_set,if_neg (fun z=>h z.symm)] at e
  exact ⟨h,e⟩
theorem ZhG {i j:Nat}{p:P}{π:Zo}{fz:Fz}{st:Za}{ρ:Env} (I:Inv n0 M fz st π ρ) (hj:M.contains j=true) (hi:M.contains i=false) (q:π[j]?=some (some p)) :
  ∃ d fz',ρ[j]?=some (some d)∧Later n0 fz st fz' st∧Inv n0 M fz' st (Zt (π.set j none) i p) (ZB ρ i d)∧Kept M [i,j] π ρ st (Zt (π.set j none) i p) (ZB ρ i d) st:=by
 obtain ⟨J,ps,ds,rfl,f2,f3,f4,f5,f6⟩:=I.mt j p hj q
 have sub:∀ k,fz k→(fz k∨k=J):=fun k h=>.inl h
 refine ⟨.lst J,fun k=>fz k∨k=J,f2,⟨fun _ _=>rfl,fun _ _=>rfl,sub,fun k h=>h.elim .inl fun z=>.inr (by rw [z]; exact f5),Nat.le_refl _⟩,?_,fun k hk hm=>?_⟩
 ·unfold Zt ZB
  refine ⟨fun k h=>h.elim (I.bd k) fun z=>by rw [z]; exact Z4 f3,I.lo,by rw [List.length_set,List.length_set,List.length_set]; exact I.len,fun k q' hk e=>?_,fun k q' hk e=>?_,fun k k' q' q'' j' hk hk' e e' e1 e1'=>?_⟩
  ·rcases ZK e with ⟨rfl,rfl,hl⟩ | ⟨hn,e⟩
   ·exact ⟨.lst J,WX (by rw [←I.len]; simpa using hl),.lst (.inr rfl) f3 (f6.mono sub fun _ _=>rfl)⟩
   ·rw [Zf hn]
    obtain ⟨d,e2,r⟩:=I.fr k q' hk (Xt e).2
    exact ⟨d,e2,r.mono sub fun _ _=>rfl⟩
  ·rcases ZK e with ⟨rfl,rfl,hl⟩ | ⟨hn,e⟩
   ·rw [hi] at hk; cases hk
   ·rw [Zf hn]
    obtain ⟨nj,e⟩:=Xt e
    obtain ⟨J',ps',ds',g1,g2,g3,g4,g5,g6⟩:=I.mt k q' hk e
    refine ⟨J',ps',ds',g1,g2,g3,fun z=>z.elim g4 fun z=>?_,g5,g6.mono sub fun _ _=>rfl⟩
    subst z
    exact nj (I.ne k j _ _ J' hk hj e q g2 f2)
  ·rcases ZK e with ⟨rfl,rfl,hl⟩ | ⟨hn,e⟩
   ·rw [hi] at hk; cases hk
   ·rcases ZK e' with ⟨rfl,rfl,hl⟩ | ⟨hn',e'⟩
    ·rw [hi] at hk'; cases hk'
    ·rw [Zf hn] at e1
     rw [Zf hn'] at e1'
     exact I.ne k k' _ _ j' hk hk' (Xt e).2 (Xt e').2 e1 e1'
 ·have n1:k≠i:=fun z=>hk (by rw [z]; exact List.mem_cons_self)
  have n2:k≠j:=fun z=>hk (by rw [z]; exact List.mem_cons_of_mem _ (List.mem_singleton.mpr rfl))
  refine ⟨?_,Zf n1,fun _ _ _ _=>rfl⟩
  unfold Zt
  rw [Zf n1,List.getElem?_set,if_neg (fun z=>n2 z.symm)]
theorem Zgg (hF:Ya F G) (i:Nat) (e:CE):SX n0 M (i :: mvT e) (UY i (ev F e)) (Ul M i e (pe G e)):=by
 intro π r h fz st ρ I
 have kp:∀ {fz':Fz}{st':Za}{d:D}{p:P},Next fz st fz' st'→Kept M (i :: mvT e) π ρ st (Zt π i p) (ZB ρ i d) st':=fun {fz' st' d p} x k hk hm=>by
  have hki:k≠i:=fun z=>hk (by rw [z]; exact List.mem_cons_self)
  have:=Next.kept (T:=i :: mvT e) I x k hk hm
  exact ⟨Zf hki,Zf hki,this.2.2⟩
 unfold Ul at h
 split at h
 ·rename_i p q
  cases hm:M.contains i with
  | true=>
   rw [hm] at h
   simp only [if_true] at h
   split at h
   ·rename_i c
    cases h
    unfold WI at c
    split at c
    ·rename_i xs
     rw [Bool.and_eq_true] at c
     obtain ⟨j,ds,st',fz1,e1,e2,n1,hn,hl,r⟩:=UJ hF I q c.1 c.2
     refine ⟨.nx (ZB ρ i (.lst j)),st',fz1,by unfold UY; rw [e1],n1.later I.lo I.bd,(I.next n1).setM hm e2 hn (Nat.le_trans I.lo hl) r fun k p hk e e'=>?_,kp n1⟩
     obtain ⟨j',ps,es,f1,f2,f3,f4,f5,_⟩:=I.mt k p hk e
     rw [e'] at f2; cases f2
     exact absurd (Z4 f3) (by omega)
    ·cases c
   ·unfold mvP at h
    split at h
    ·rw [hm,Bool.not_true,Bool.and_false] at h
     cases h
    ·cases h
  | false=>
   rw [hm] at h
   simp only [Bool.false_eq_true,if_false] at h
   split at h
   ·rename_i c
    cases h
    obtain ⟨d,st',fz',e1,n1,r1⟩:=ZW hF I q c
    exact ⟨.nx (ZB ρ i d),st',fz',by unfold UY; rw [e1],n1.later I.lo I.bd,(I.next n1).set hm r1,kp n1⟩
   ·unfold mvP at h
    split at h
    ·rename_i j _
     split at h
     ·rename_i c
      cases h
      rw [Bool.and_eq_true] at c
      have q:Xx j π=some p:=q
      unfold Xx at q
      split at q
      ·rename_i p' q'
       cases q
       obtain ⟨d,fz',e1,l1,I1,k1⟩:=ZhG I c.1 hm q'
       refine ⟨.nx (ZB ρ i d),st,fz',?_,l1,I1,k1⟩
       show UY i (Yw j) ρ st=_
       unfold UY Yw
       simp only [e1]
      ·cases q
     ·cases h
    ·cases h
 ·cases h
theorem ZeE (hF:Ya F G) (i j:Nat) (e:CE):SX n0 M [i,j] (Qw i j (ev F e)) (UI M i j e (pe G e)):=by
 intro π r h fz st ρ I
 have kp:∀ {fz':Fz}{st':Za}{d d':D}{p p':P},Next fz st fz' st'→Kept M [i,j] π ρ st (Zt (Zt π i p) j p') (ZB (ZB ρ i d) j d') st':=fun {fz' st' d d' p p'} x k hk hm=>by
  have hki:k≠i:=fun z=>hk (by rw [z]; exact List.mem_cons_self)
  have hkj:k≠j:=fun z=>hk (by rw [z]; exact List.mem_cons_of_mem _ List.mem_cons_self)
  have:=Next.kept (T:=[i,j]) I x k hk hm
  exact ⟨(Zf hkj).trans (Zf hki),(Zf hkj).trans (Zf hki),this.2.2⟩
 unfold UI at h
 split at h
 ·rename_i x y q
  split at h
  ·rename_i c
   cases h
   rw [Bool.and_eq_true,Bool.and_eq_true] at c
   have hi:M.contains i=false:=by simpa using c.1.1
   have hj:M.contains j=false:=by simpa using c.1.2
   obtain ⟨d,st',fz',e1,n1,r1⟩:=ZW hF I q c.2
   cases r1 with
   | tup rr=>
    cases rr with
    | cons a rr=>
     cases rr with
     | cons a' rr=>
      cases rr
      exact ⟨.nx _,st',fz',by unfold Qw; rw [e1],n1.later I.lo I.bd,((I.next n1).set hi a).set hj a',kp n1⟩
  ·cases h
 ·cases h
theorem ZgX (hF:Ya F G) (i:Nat) (e:CE):SX n0 M [i] (Zcl i (ev F e)) (Je M i e (pe G e)):=by
 intro π r h fz st ρ I
 unfold Je at h
 split at h
 ·rename_i xs q0
  split at h
  ·rename_i p q
   split at h
   ·rename_i c
    cases h
    rw [Bool.and_eq_true,Bool.and_eq_true] at c
    obtain ⟨⟨hm,hk⟩,hz⟩:=c
    have hz:=of_decide_eq_true hz
    obtain ⟨d,st',fz',e1,n1,r1⟩:=ZW hF I q hk
    have I1:=I.next n1
    obtain ⟨j,ps,ds,f1,f2,f3,f4,f5,f6⟩:=I1.mt i _ hm q0
    cases f1
    obtain ⟨I2,l2⟩:=I1.write hm q0 f2 f4 f5 (Z4 f3) (f6.append (.cons r1 .nil))
    refine ⟨.nx ρ,_,fz',?_,(n1.later I.lo I.bd).trans l2,I2,fun k hk2 hm2=>?_⟩
    ·unfold Zcl
     rw [f2]
     simp only [e1]
     unfold Zcw
     simp only [f3]
     rw [if_pos (by rw [←f6.length]; exact hz)]
    ·have hki:k≠i:=fun z=>hk2 (by rw [z]; exact List.mem_singleton.mpr rfl)
     have kk:=Next.kept (T:=[i]) I n1 k hk2 hm2
     refine ⟨Zf hki,rfl,fun j' p' e e'=>?_⟩
     rw [←kk.2.2 j' p' e e',List.getElem?_set,if_neg (fun z=>hki (I.ne k i p' _ j hm2 hm e q0 (by rw [z]; exact e') f2))]
   ·cases h
  ·cases h
 ·cases h
theorem ZgG (hF:Ya F G) (i:Nat) (e:CE):SX n0 M [i] (Za6 i (ev F e)) (QF M i e (pe G e)):=by
 intro π r h fz st ρ I
 unfold QF at h
 split at h
 ·rename_i xs q0
  split at h
  ·rename_i ys q
   split at h
   ·rename_i c
    cases h
    rw [Bool.and_eq_true,Bool.and_eq_true] at c
    obtain ⟨⟨hm,hk⟩,hz⟩:=c
    have hz:=of_decide_eq_true hz
    obtain ⟨d,st',fz',e1,n1,r1⟩:=ZW hF I q (show Zv M e _=true by unfold Zv; rw [hk,Bool.true_or])
    have I1:=I.next n1
    obtain ⟨j,ps,ds,f1,f2,f3,f4,f5,f6⟩:=I1.mt i _ hm q0
    cases f1
    cases r1 with
    | @lst jb _ _ db zb sb rb=>
     obtain ⟨I2,l2⟩:=I1.write hm q0 f2 f4 f5 (Z4 f3) (f6.append rb)
     refine ⟨.nx ρ,_,fz',?_,(n1.later I.lo I.bd).trans l2,I2,fun k hk2 hm2=>?_⟩
     ·unfold Za6
      rw [f2]
      simp only [e1]
      unfold Ze6
      simp only [f3,sb]
      rw [if_pos (by rw [←f6.length,←rb.length]; exact hz)]
     ·have hki:k≠i:=fun z=>hk2 (by rw [z]; exact List.mem_singleton.mpr rfl)
      have kk:=Next.kept (T:=[i]) I n1 k hk2 hm2
      refine ⟨Zf hki,rfl,fun j' p' e e'=>?_⟩
      rw [←kk.2.2 j' p' e e',List.getElem?_set,if_neg (fun z=>hki (I.ne k i p' _ j hm2 hm e q0 (by rw [z]; exact e') f2))]
   ·cases h
  ·cases h
 ·cases h
theorem ZgB (hF:Ya F G) (i:Nat) (e k:CE):SX n0 M [i] (ZbI i (ev F k) (ev F e)) (Zcs M i e (pe G k) (pe G e)):=by
 intro π r h fz st ρ I
 unfold Zcs at h
 split at h
 ·rename_i p q
  split at h
  ·rename_i xs q0
   split at h
   ·rename_i a qa
    split at h
    ·rename_i b qb
     split at h
     ·rename_i c
      cases h
      rw [Bool.and_eq_true] at c
      obtain ⟨hm,hk⟩:=c
      obtain ⟨d,st',fz',e1,n1,r1⟩:=ZW hF I q hk
      have I1:=I.next n1
      obtain ⟨d2,st2,fz2,e2,n2,r2⟩:=ZW hF I1 qa (by unfold Zv; rw [show noL (.int a)=true from rfl,Bool.or_true])
      cases r2
      have I2:=I1.next n2
      obtain ⟨j,ps,ds,f1,f2,f3,f4,f5,f6⟩:=I2.mt i _ hm q0
      cases f1
      obtain ⟨I3,l3⟩:=I2.write hm q0 f2 f4 f5 (Z4 f3) (f6.set (r1.next n1.bd n2) b)
      refine ⟨.nx ρ,_,fz2,?_,((n1.trans n2).later I.lo I.bd).trans l3,I3,fun k' hk2 hm2=>?_⟩
      ·unfold ZbI
       rw [e1]
       simp only [f2,e2]
       unfold Ui
       simp only [f3]
       rw [←f6.length,qb]
      ·have hki:k'≠i:=fun z=>hk2 (by rw [z]; exact List.mem_singleton.mpr rfl)
       have kk:=Next.kept (T:=[i]) I (n1.trans n2) k' hk2 hm2
       refine ⟨Zf hki,rfl,fun j' p' e e'=>?_⟩
       rw [←kk.2.2 j' p' e e',List.getElem?_set,if_neg (fun z=>hki (I.ne k' i p' _ j hm2 hm e q0 (by rw [z]; exact e') f2))]
     ·cases h
    ·cases h
   ·cases h
  ·cases h
 ·cases h
theorem Zgr (hF:Ya F G) (c:CE) (h1:SX n0 M T1 f1 g1) (h2:SX n0 M T2 f2 g2):SX n0 M (T1++T2) (Zav (ev F c) f1 f2) (QA (pe G c) g1 g2):=by
 intro π r e fz st ρ I
 have s1:∀ i,i∈T1→i∈T1++T2:=fun i h=>List.mem_append.mpr (.inl h)
 have s2:∀ i,i∈T2→i∈T1++T2:=fun i h=>List.mem_append.mpr (.inr h)
 unfold QA at e
 split at e
 ·rename_i q
  obtain ⟨d,st',fz',e1,n1,r1⟩:=ZW hF I q (by unfold Zv; rw [show noL (.bl true)=true from rfl,Bool.or_true])
  cases r1
  obtain ⟨r2,st2,fz2,e2,l2,R2,k2⟩:=h1 π r e fz' st' ρ (I.next n1)
  exact ⟨r2,st2,fz2,by unfold Zav; rw [e1]; exact e2,(n1.later I.lo I.bd).trans l2,R2,KeptF.trans (T1:=T1) s1 s1 (Next.kept I n1) k2⟩
 ·rename_i q
  obtain ⟨d,st',fz',e1,n1,r1⟩:=ZW hF I q (by unfold Zv; rw [show noL (.bl false)=true from rfl,Bool.or_true])
  cases r1
  obtain ⟨r2,st2,fz2,e2,l2,R2,k2⟩:=h2 π r e fz' st' ρ (I.next n1)
  exact ⟨r2,st2,fz2,by unfold Zav; rw [e1]; exact e2,(n1.later I.lo I.bd).trans l2,R2,KeptF.trans (T1:=T2) s2 s2 (Next.kept I n1) k2⟩
 ·cases e
noncomputable abbrev UX (n0:Nat) (M T:List Nat) (B:P→Zo→Option PFl) (B':D→Env→Za→Option (Fl×Za)):Prop:=∀ x d π r,B x π=some r→∀ fz st ρ,Inv n0 M fz st π ρ→Rel fz st x d→Xm n0 M T fz st π ρ (B' d ρ st) r
theorem Later.rels {fz fz':Fz}{st st':Za}{ps:List P}{ds:List D} (l:Later n0 fz st fz' st') (r:Rels fz st ps ds):Rels fz' st' ps ds:=r.mono l.sub l.frz
theorem Y2 {B:P→Zo→Option PFl}{B':D→Env→Za→Option (Fl×Za)} (h:UX n0 M T B B'):∀ {xs:List P}{ds:List D}{π:Zo}{r:PFl}{fz:Fz}{st:Za}{ρ:Env},Inv n0 M fz st π ρ→Rels fz st xs ds→ZD B xs π=some r→Xm n0 M T fz st π ρ (Yf B' ds ρ st) r
 | _,_,π,r,fz,st,ρ,I,.nil,e=>by cases e; exact ⟨.nx ρ,st,fz,rfl,Later.refl,I,Kept.refl⟩
 | x :: xs,d :: ds,π,r,fz,st,ρ,I,.cons a rs,e=>by
  unfold ZD at e
  split at e
  ·rename_i π1 q
   obtain ⟨r1,st1,fz1,e1,l1,R1,k1⟩:=h x d π _ q fz st ρ I a
   cases r1 with
   | nx ρ1=>
    obtain ⟨r2,st2,fz2,e2,l2,R2,k2⟩:=Y2 h (ρ:=ρ1) R1 (l1.rels rs) e
    exact ⟨r2,st2,fz2,by unfold Yf; rw [e1]; exact e2,l1.trans l2,R2,KeptF.trans (fun _ z=>z) (fun _ z=>z) k1 k2⟩
   | _=>exact R1.elim
  ·rename_i π1 q
   obtain ⟨r1,st1,fz1,e1,l1,R1,k1⟩:=h x d π _ q fz st ρ I a
   cases r1 with
   | ct ρ1=>
    obtain ⟨r2,st2,fz2,e2,l2,R2,k2⟩:=Y2 h (ρ:=ρ1) R1 (l1.rels rs) e
    exact ⟨r2,st2,fz2,by unfold Yf; rw [e1]; exact e2,l1.trans l2,R2,KeptF.trans (fun _ z=>z) (fun _ z=>z) k1 k2⟩
   | _=>exact R1.elim
  ·rename_i π1 q
   cases e
   obtain ⟨r1,st1,fz1,e1,l1,R1,k1⟩:=h x d π _ q fz st ρ I a
   cases r1 with
   | bk ρ1=>exact ⟨.nx ρ1,st1,fz1,by unfold Yf; rw [e1],l1,R1,k1⟩
   | _=>exact R1.elim
  ·rename_i v q
   cases e
   obtain ⟨r1,st1,fz1,e1,l1,R1,k1⟩:=h x d π _ q fz st ρ I a
   cases r1 with
   | rt d'=>exact ⟨.rt d',st1,fz1,by unfold Yf; rw [e1],l1,R1,trivial⟩
   | _=>exact R1.elim
  ·cases e
theorem Q2 {B':D→Env→Za→Option (Fl×Za)}{a n k:Nat}{ρ:Env}{st:Za}{m:Bool}{all:List D}{d:D} (h:st[a]?=some (m,all)) (hk:all[k]?=some d):ZN B' a (n+1) k ρ st=(match B' d ρ st with
  | some (.nx ρ',st')=>ZN B' a n (k+1) ρ' st'
  | some (.ct ρ',st')=>ZN B' a n (k+1) ρ' st'
  | some (.bk ρ',st')=>some (.nx ρ',st')
  | some (.rt v,st')=>some (.rt v,st')
  | none=>none):=by
 rw [ZN]; simp only [h,hk]<;>rfl
noncomputable abbrev Zgi (n0:Nat) (M T:List Nat) (a:Nat) (m:Bool) (all:List D) (J:Fz→Za→Zo→Env→Prop):Prop:=
 (∀ fz st π ρ,J fz st π ρ→st[a]?=some (m,all))∧∀ fz st π ρ fz' st' π' ρ',Later n0 fz st fz' st'→Kept M T π ρ st π' ρ' st'→J fz st π ρ→J fz' st' π' ρ'
theorem Xs {B:P→Zo→Option PFl}{B':D→Env→Za→Option (Fl×Za)} (h:UX n0 M T B B') {a:Nat}{m:Bool}{all:List D}{J:Fz→Za→Zo→Env→Prop} (hJ:Zgi n0 M T a m all J):∀ {xs:List P}{ds:List D}{k:Nat}{π:Zo}{r:PFl}{fz:Fz}{st:Za}{ρ:Env},
   Inv n0 M fz st π ρ→J fz st π ρ→all.drop k=ds→Rels fz st xs ds→ZD B xs π=some r→Xm n0 M T fz st π ρ (ZN B' a ds.length k ρ st) r
 | _,_,k,π,r,fz,st,ρ,I,j,hd,.nil,e=>by
  cases e
  refine ⟨.nx ρ,st,fz,?_,Later.refl,I,Kept.refl⟩
  show ZN B' a 0 k ρ st=_
  unfold ZN
  simp only [hJ.1 _ _ _ _ j]
  rw [if_pos (List.drop_eq_nil_iff.mp hd)]
 | x :: xs,d :: ds,k,π,r,fz,st,ρ,I,j,hd,.cons b rs,e=>by
  have hk:all[k]?=some d:=by
   have:=congrArg (fun l=>l[0]?) hd
   simpa using this
  have hd2:all.drop (k+1)=ds:=by
   have:=congrArg (fun l=>l.drop 1) hd
   simpa using this
  have start:∀ {y},B' d ρ st=some y→ZN B' a (d :: ds).length k ρ st=(match y with
    | (.nx ρ',st')=>ZN B' a ds.length (k+1) ρ' st'
    | (.ct ρ',st')=>ZN B' a ds.length (k+1) ρ' st'
    | (.bk ρ',st')=>some (.nx ρ',st')
    | (.rt v,st')=>some (.rt v,st')):=fun {y} ey=>by
   show ZN B' a (ds.length+1) k ρ st=_
   rw [Q2 (hJ.1 _ _ _ _ j) hk,ey]
   obtain ⟨f,s⟩:=y
   cases f<;>rfl
  unfold ZD at e
  split at e
  ·rename_i π1 q
   obtain ⟨r1,st1,fz1,e1,l1,R1,k1⟩:=h x d π _ q fz st ρ I b
   cases r1 with
   | nx ρ1=>
    obtain ⟨r2,st2,fz2,e2,l2,R2,k2⟩:=Xs h hJ (ρ:=ρ1) R1 (hJ.2 _ _ _ _ _ _ _ _ l1 k1 j) hd2 (l1.rels rs) e
    exact ⟨r2,st2,fz2,by rw [start e1]; exact e2,l1.trans l2,R2,KeptF.trans (fun _ z=>z) (fun _ z=>z) k1 k2⟩
   | _=>exact R1.elim
  ·rename_i π1 q
   obtain ⟨r1,st1,fz1,e1,l1,R1,k1⟩:=h x d π _ q fz st ρ I b
   cases r1 with
   | ct ρ1=>
    obtain ⟨r2,st2,fz2,e2,l2,R2,k2⟩:=Xs h hJ (ρ:=ρ1) R1 (hJ.2 _ _ _ _ _ _ _ _ l1 k1 j) hd2 (l1.rels rs) e
    exact ⟨r2,st2,fz2,by rw [start e1]; exact e2,l1.trans l2,R2,KeptF.trans (fun _ z=>z) (fun _ z=>z) k1 k2⟩
   | _=>exact R1.elim
  ·rename_i π1 q
   cases e
   obtain ⟨r1,st1,fz1,e1,l1,R1,k1⟩:=h x d π _ q fz st ρ I b
   cases r1 with
   | bk ρ1=>exact ⟨.nx ρ1,st1,fz1,by rw [start e1],l1,R1,k1⟩
   | _=>exact R1.elim
  ·rename_i v q
   cases e
   obtain ⟨r1,st1,fz1,e1,l1,R1,k1⟩:=h x d π _ q fz st ρ I b
   cases r1 with
   | rt d'=>exact ⟨.rt d',st1,fz1,by rw [start e1],l1,R1,trivial⟩
   | _=>exact R1.elim
  ·cases e
theorem ZaT {i:Nat} (hi:M.contains i=false) (h:SX n0 M T f g):UX n0 M (i :: T) (fun d π=>g (Zt π i d)) (fun d ρ s=>f (ZB ρ i d) s):=by
 intro x d π r e fz st ρ I a
 obtain ⟨r1,st1,fz1,e1,l1,R1,k1⟩:=h _ r e fz st _ (I.set hi a)
 refine ⟨r1,st1,fz1,e1,l1,R1,?_⟩
 refine KeptF.trans (T1:=i :: T) (T2:=T) (fun _ z=>z) (fun _ z=>List.mem_cons_of_mem _ z) (fun k hk hm=>?_) k1
 have hki:k≠i:=fun z=>hk (by rw [z]; exact List.mem_cons_self)
 exact ⟨Zf hki,Zf hki,fun _ _ _ _=>rfl⟩
theorem Zd8 {i j:Nat} (hi:M.contains i=false) (hj:M.contains j=false) (h:SX n0 M T f g):UX n0 M (i :: j :: T) (XB i j g) (UT i j f):=by
 intro x d π r e fz st ρ I a
 unfold XB at e
 split at e
 ·rename_i p q
  cases a with
  | tup a=>
   cases a with
   | cons a1 a=>
    cases a with
    | cons a2 a=>
     cases a
     obtain ⟨r1,st1,fz1,e1,l1,R1,k1⟩:=h _ r e fz st _ ((I.set hi a1).set hj a2)
     refine ⟨r1,st1,fz1,e1,l1,R1,?_⟩
     refine KeptF.trans (T1:=i :: j :: T) (T2:=T) (fun _ z=>z) (fun _ z=>List.mem_cons_of_mem _ (List.mem_cons_of_mem _ z)) (fun k hk hm=>?_) k1
     have hki:k≠i:=fun z=>hk (by rw [z]; exact List.mem_cons_self)
     have hkj:k≠j:=fun z=>hk (by rw [z]; exact List.mem_cons_of_mem _ List.mem_cons_self)
     exact ⟨(Zf hkj).trans (Zf hki),(Zf hkj).trans (Zf hki),fun _ _ _ _=>rfl⟩
 ·cases e
theorem Qf (hF:Ya F G) {B:P→Zo→Option PFl}{B':D→Env→Za→Option (Fl×Za)}{e:CE}{m:Bool}{xs:List P}{T0:List Nat} (h:UX n0 M T B B') (hT:∀ i,M.contains i=true→i∈T→i∈T0) {fz:Fz}{st:Za}{π:Zo}{ρ:Env}{r:PFl} (I:Inv n0 M fz st π ρ)
  (q:pe G e π=some (.lst m xs)) (c:Xk M T0 e xs=true) (el:ZD B xs π=some r):∃ a st1 mm ds,ev F e ρ st=some (.lst a,st1)∧st1[a]?=some (mm,ds)∧Xm n0 M T fz st π ρ (ZN B' a ds.length 0 ρ st1) r:=by
 have frozen:∀ {a:Nat}{st1:Za}{fz1:Fz}{ds:List D},ev F e ρ st=some (.lst a,st1)→Next fz st fz1 st1→fz1 a→st1[a]?=some (m,ds)→Rels fz1 st1 xs ds→∃ a st1 mm ds,ev F e ρ st=some (.lst a,st1)∧st1[a]?=some (mm,ds)∧Xm n0 M T fz st π ρ (ZN B' a ds.length 0 ρ st1) r:=fun {a st1 fz1 ds} e1 n1 hz hs rr=>by
  refine ⟨a,st1,m,ds,e1,hs,?_⟩
  obtain ⟨r1,st2,fz2,e2,l2,R2,k2⟩:=Xs h (a:=a) (m:=m) (all:=ds) (J:=fun fz st _ _=>fz a∧st[a]?=some (m,ds)) ⟨fun _ _ _ _ j=>j.2,fun _ _ _ _ _ _ _ _ l _ j=>⟨l.sub _ j.1,(l.frz _ j.1).trans j.2⟩⟩ (k:=0) (I.next n1) ⟨hz,hs⟩ rfl rr el
  exact ⟨r1,st2,fz2,e2,(n1.later I.lo I.bd).trans l2,R2,KeptF.trans (T1:=T) (fun _ z=>z) (fun _ z=>z) (Next.kept I n1) k2⟩
 unfold Xk at c
 rw [Bool.or_eq_true,Bool.or_eq_true] at c
 rcases c with (c | c) | c
 ·obtain ⟨d,st',fz',e1,n1,r1⟩:=ZW hF I q (by unfold Zv; rw [c]; rfl)
  cases r1 with
  | lst hz hs rr=>exact frozen e1 n1 hz hs rr
 ·rw [Bool.and_eq_true] at c
  obtain ⟨j,ds,st',fz1,e1,e2,n1,hn,hl,rr⟩:=UJ hF I q c.1 (by rw [c.2,Bool.or_true])
  have n2:Next fz st (fun i=>fz1 i∨i=j) st':=⟨n1.old,n1.len,fun i z=>.inl (n1.sub i z),fun i z=>z.elim (n1.new i) fun z=>.inr (by rw [z]; exact hl),fun i z=>z.elim (n1.bd i) fun z=>by rw [z]; exact Z4 e2⟩
  exact frozen e1 n2 (.inr rfl) e2 (rr.mono (fun _ z=>.inl z) fun _ _=>rfl)
 ·split at c
  ·rename_i i
   have c:i∉T0:=by
    intro z
    have:T0.contains i=true:=by simpa using z
    rw [this] at c; cases c
   have q:Xx i π=some (.lst m xs):=q
   unfold Xx at q
   split at q
   ·rename_i q0
    cases q
    cases hm:M.contains i with
    | false=>
     obtain ⟨d,st',fz',e1,n1,r1⟩:=ZW hF I (e:=.var i) (p:=.lst m xs) (by show Xx i π=_; unfold Xx; rw [q0]) (by unfold Zv noM; rw [hm]; rfl)
     cases r1 with
     | lst hz hs rr=>exact frozen e1 n1 hz hs rr
    | true=>
     obtain ⟨j,ps,ds,f1,f2,f3,f4,f5,f6⟩:=I.mt i _ hm q0
     cases f1
     refine ⟨j,st,true,ds,by show Yw i ρ st=_; unfold Yw; rw [f2],f3,?_⟩
     obtain ⟨r1,st2,fz2,e2,l2,R2,k2⟩:=Xs h (a:=j) (m:=true) (all:=ds) (J:=fun fz st π ρ=>(∃ p,π[i]?=some (some p))∧ρ[i]?=some (some (.lst j))∧st[j]?=some (true,ds)) ⟨fun _ _ _ _ j=>j.2.2,fun _ _ _ _ _ _ _ _ l k jj=>by
      obtain ⟨⟨p,jp⟩,j2,j3⟩:=jj
      obtain ⟨k1,k2,k3⟩:=k i (fun z=>c (hT i hm z)) hm
      exact ⟨⟨p,k1.trans jp⟩,k2.trans j2,(k3 j p jp j2).trans j3⟩⟩ (k:=0) I ⟨⟨_,q0⟩,f2,f3⟩ rfl f6 el
     exact ⟨r1,st2,fz2,e2,l2,R2,k2⟩
   ·cases q
  ·cases c
theorem ZgQ (hF:Ya F G) {i:Nat}{rng:Bool}{e:CE} (h:SX n0 M T f g):SX n0 M (i :: T) (UD i rng (ev F e) f) (Uw M T i rng e (pe G e) g):=by
 intro π r hp fz st ρ I
 unfold Uw at hp
 split at hp
 ·rename_i x q
  split at hp
  ·rename_i xs qi
   split at hp
   ·rename_i c
    rw [Bool.and_eq_true] at c
    have hi:M.contains i=false:=by simpa using c.1
    have kp:Zv M e x=true:=by
     cases rng with
     | false=>simpa using c.2
     | true=>
      cases x with
      | int n=>unfold Zv; rw [show noL (.int n)=true from rfl,Bool.or_true]
      | _=>cases qi
    obtain ⟨d,st',fz',e1,n1,r1⟩:=ZW hF I q kp
    obtain ⟨ds,e2,r2⟩:=Vs r1 qi
    obtain ⟨r3,st3,fz3,e3,l3,R3,k3⟩:=Y2 (ZaT hi h) (I.next n1) r2 hp
    exact ⟨r3,st3,fz3,by unfold UD; rw [e1]; simp only [e2]; exact e3,(n1.later I.lo I.bd).trans l3,R3,KeptF.trans (T1:=i :: T) (fun _ z=>z) (fun _ z=>z) (Next.kept I n1) k3⟩
   ·cases hp
  ·split at hp
   ·rename_i m xs _
    split at hp
    ·rename_i c
     rw [Bool.and_eq_true] at c
     have hi:M.contains i=false:=by simpa using c.1
     obtain ⟨a,st1,mm,ds,e1,e2,r3,st3,fz3,e3,l3,R3,k3⟩:=Qf hF (ZaT hi h) (T0:=T) (fun k hk hm=>by
      rcases List.mem_cons.mp hm with z | z
      ·rw [z] at hk; rw [hi] at hk; cases hk
      ·exact z) I q c.2 hp
     refine ⟨r3,st3,fz3,?_,l3,R3,k3⟩
     unfold UD
     rw [e1]
     simp only [Xl,e2]
     exact e3
    ·cases hp
   ·cases hp
 ·cases hp
theorem W4 {fz:Fz}{st:Za}{x:P}{dx:D}{xs:List Int} (r:Rel fz st x dx) (h:WG x=some xs):noL x=true∧VX dx=some xs:=by
 unfold WG at h
 split at h
 ·cases r with
  | tup r=>
   cases r with
   | cons a r=>
    cases r with
    | cons a' r=>cases r; cases a; cases a'; exact ⟨rfl,h⟩
 ·cases r with
  | tup r=>
   cases r with
   | cons a r=>
    cases r with
    | cons a' r=>
     cases r with
     | cons a2 r=>cases r; cases a; cases a'; cases a2; exact ⟨rfl,h⟩
 ·cases h
theorem Qj {fz:Fz}{st:Za}:∀ xs:List Int,Rels fz st (xs.map P.int) (xs.map D.int)
 | []=>.nil
 | x :: xs=>.cons (.int x) (Qj xs)
theorem Zez (hF:Ya F G) {i:Nat}{e:CE} (h:SX n0 M T f g):SX n0 M (i :: T) (Qm i (ev F e) f) (W1 M i (pe G e) g):=by
 intro π r hp fz st ρ I
 unfold W1 at hp
 split at hp
 ·rename_i x q
  split at hp
  ·rename_i xs qi
   split at hp
   ·rename_i c
    have hi:M.contains i=false:=by simpa using c
    have nl:noL x=true:=by
     obtain ⟨d,st',fz',e1,n1,r1⟩:=Zb hF e _ x q _ st ρ I.bdM I.all
     exact (W4 r1 qi).1
    obtain ⟨d,st',fz',e1,n1,r1⟩:=ZW hF I q (show Zv M e x=true by unfold Zv; rw [nl,Bool.or_true])
    obtain ⟨_,e2⟩:=W4 r1 qi
    obtain ⟨r3,st3,fz3,e3,l3,R3,k3⟩:=Y2 (ZaT hi h) (I.next n1) (Qj xs) hp
    exact ⟨r3,st3,fz3,by unfold Qm; rw [e1]; simp only [e2]; exact e3,(n1.later I.lo I.bd).trans l3,R3,KeptF.trans (T1:=i :: T) (fun _ z=>z) (fun _ z=>z) (Next.kept I n1) k3⟩
   ·cases hp
  ·cases hp
 ·cases hp
theorem Zfn (hF:Ya F G) {i j:Nat}{e:CE} (h:SX n0 M T f g):SX n0 M (i :: j :: T) (VS i j (ev F e) f) (WV M T i j e (pe G e) g):=by
 intro π r hp fz st ρ I
 unfold WV at hp
 split at hp
 ·rename_i m xs q
  split at hp
  ·rename_i c
   rw [Bool.and_eq_true,Bool.and_eq_true] at c
   have hi:M.contains i=false:=by simpa using c.1.1
   have hj:M.contains j=false:=by simpa using c.1.2
   obtain ⟨a,st1,mm,ds,e1,e2,r3,st3,fz3,e3,l3,R3,k3⟩:=Qf hF (Zd8 hi hj h) (T0:=T) (fun k hk hm=>by
    rcases List.mem_cons.mp hm with z | z
    ·rw [z] at hk; rw [hi] at hk; cases hk
    ·rcases List.mem_cons.mp z with z | z
     ·rw [z] at hk; rw [hj] at hk; cases hk
     ·exact z) I q c.2 hp
   refine ⟨r3,st3,fz3,?_,l3,R3,k3⟩
   unfold VS
   rw [e1]
   simp only [e2]
   exact e3
  ·cases hp
 ·rename_i xs q
  split at hp
  ·rename_i c
   rw [Bool.and_eq_true,Bool.and_eq_true] at c
   have hi:M.contains i=false:=by simpa using c.1.1
   have hj:M.contains j=false:=by simpa using c.1.2
   obtain ⟨d,st',fz',e1,n1,r1⟩:=ZW hF I q c.2
   cases r1 with
   | tup r2=>
    obtain ⟨r3,st3,fz3,e3,l3,R3,k3⟩:=Y2 (Zd8 hi hj h) (I.next n1) r2 hp
    exact ⟨r3,st3,fz3,by unfold VS; rw [e1]; exact e3,(n1.later I.lo I.bd).trans l3,R3,KeptF.trans (T1:=i :: j :: T) (fun _ z=>z) (fun _ z=>z) (Next.kept I n1) k3⟩
  ·cases hp
 ·cases hp
inductive RelsQ (fz:Fz) (st:Za):List (P×P)→List (D×D)→Prop where
 | nil:RelsQ fz st [] []
 | cons {p:P×P}{d:D×D}{ps:List (P×P)}{ds:List (D×D)} (h1:Rel fz st p.1 d.1) (h2:Rel fz st p.2 d.2) (r:RelsQ fz st ps ds):RelsQ fz st (p :: ps) (d :: ds)
theorem RelsQ.zip {fz:Fz}{st:Za}:∀ {xs ys:List P}{ds es:List D},Rels fz st xs ds→Rels fz st ys es→RelsQ fz st (xs.zip ys) (ds.zip es)
 | _,_,_,_,.nil,_=>.nil
 | _,_,_,_,.cons _ _,.nil=>.nil
 | _,_,_,_,.cons a r,.cons b s=>.cons a b (RelsQ.zip r s)
theorem RelsQ.mono {fz fz':Fz}{st st':Za} (l:Later n0 fz st fz' st'):∀ {ps:List (P×P)}{ds:List (D×D)},RelsQ fz st ps ds→RelsQ fz' st' ps ds
 | _,_,.nil=>.nil
 | _,_,.cons a b r=>.cons (a.mono l.sub l.frz) (b.mono l.sub l.frz) (RelsQ.mono l r)
theorem Xu {i j:Nat} (hi:M.contains i=false) (hj:M.contains j=false) (h:SX n0 M T f g) {ok:Za→Prop}:∀ {xs:List (P×P)}{ds:List (D×D)}{π:Zo}{r:PFl}{fz:Fz}{st:Za}{ρ:Env},Inv n0 M fz st π ρ→RelsQ fz st xs ds→(∀ fz' st',Later n0 fz st fz' st'→ok st')→
  YN (fun x y π=>g (Zt (Zt π i x) j y)) xs π=some r→Xm n0 M (i :: j :: T) fz st π ρ (Yr ok (fun x y ρ s=>f (ZB (ZB ρ i x) j y) s) ds ρ st) r
 | _,_,π,r,fz,st,ρ,I,.nil,hok,e=>by cases e; exact ⟨.nx ρ,st,fz,if_pos (hok _ _ Later.refl),Later.refl,I,Kept.refl⟩
 | x :: xs,d :: ds,π,r,fz,st,ρ,I,.cons a b rs,hok,e=>by
  have ok0:=hok _ _ Later.refl
  have tr:∀ {r1:PFl},g (Zt (Zt π i x.1) j x.2)=some r1→Xm n0 M (i :: j :: T) fz st π ρ (f (ZB (ZB ρ i d.1) j d.2) st) r1:=fun {r1} q=>by
   obtain ⟨r2,st2,fz2,e2,l2,R2,k2⟩:=h _ _ q fz st _ ((I.set hi a).set hj b)
   refine ⟨r2,st2,fz2,e2,l2,R2,?_⟩
   have kp:Kept M (i :: j :: T) π ρ st (Zt (Zt π i x.1) j x.2) (ZB (ZB ρ i d.1) j d.2) st:=fun k hk hm=>by
    have hki:k≠i:=fun z=>hk (by rw [z]; exact List.mem_cons_self)
    have hkj:k≠j:=fun z=>hk (by rw [z]; exact List.mem_cons_of_mem _ List.mem_cons_self)
    exact ⟨(Zf hkj).trans (Zf hki),(Zf hkj).trans (Zf hki),fun _ _ _ _=>rfl⟩
   exact KeptF.trans (T1:=i :: j :: T) (T2:=T) (fun _ z=>z) (fun _ z=>List.mem_cons_of_mem _ (List.mem_cons_of_mem _ z)) kp k2
  unfold YN at e
  split at e
  ·rename_i π1 q
   obtain ⟨r1,st1,fz1,e1,l1,R1,k1⟩:=tr q
   cases r1 with
   | nx ρ1=>
    obtain ⟨r2,st2,fz2,e2,l2,R2,k2⟩:=Xu hi hj h (ρ:=ρ1) R1 (rs.mono l1) (fun _ _ l=>hok _ _ (l1.trans l)) e
    exact ⟨r2,st2,fz2,by unfold Yr; rw [if_pos ok0]; simp only [e1]; exact e2,l1.trans l2,R2,KeptF.trans (fun _ z=>z) (fun _ z=>z) k1 k2⟩
   | _=>exact R1.elim
  ·rename_i π1 q
   obtain ⟨r1,st1,fz1,e1,l1,R1,k1⟩:=tr q
   cases r1 with
   | ct ρ1=>
    obtain ⟨r2,st2,fz2,e2,l2,R2,k2⟩:=Xu hi hj h (ρ:=ρ1) R1 (rs.mono l1) (fun _ _ l=>hok _ _ (l1.trans l)) e
    exact ⟨r2,st2,fz2,by unfold Yr; rw [if_pos ok0]; simp only [e1]; exact e2,l1.trans l2,R2,KeptF.trans (fun _ z=>z) (fun _ z=>z) k1 k2⟩
   | _=>exact R1.elim
  ·rename_i π1 q
   cases e
   obtain ⟨r1,st1,fz1,e1,l1,R1,k1⟩:=tr q
   cases r1 with
   | bk ρ1=>exact ⟨.nx ρ1,st1,fz1,by unfold Yr; rw [if_pos ok0]; simp only [e1],l1,R1,k1⟩
   | _=>exact R1.elim
  ·rename_i v q
   cases e
   obtain ⟨r1,st1,fz1,e1,l1,R1,k1⟩:=tr q
   cases r1 with
   | rt d'=>exact ⟨.rt d',st1,fz1,by unfold Yr; rw [if_pos ok0]; simp only [e1],l1,R1,trivial⟩
   | _=>exact R1.elim
  ·cases e
theorem RelsQ.enum {fz:Fz}{st:Za}:∀ {xs:List P}{ds:List D}{k:Nat},Rels fz st xs ds→RelsQ fz st (Wk k xs) (YZ k ds)
 | _,_,_,.nil=>.nil
 | _,_,k,.cons a r=>.cons (.int _) a (RelsQ.enum r)
theorem Zfi (hF:Ya F G) {i j:Nat}{e:CE} (h:SX n0 M T f g):SX n0 M (i :: j :: T) (VO i j (ev F e) f) (WO M i j e (pe G e) g):=by
 intro π r hp fz st ρ I
 unfold WO at hp
 split at hp
 ·rename_i x q
  split at hp
  ·rename_i xs hw
   split at hp
   ·rename_i c
    rw [Bool.and_eq_true,Bool.and_eq_true] at c
    have hi:M.contains i=false:=by simpa using c.1.1
    have hj:M.contains j=false:=by simpa using c.1.2
    obtain ⟨d,st',fz',e1,n1,r1⟩:=ZW hF I q (show Zv M e _=true by unfold Zv; rw [c.2,Bool.true_or])
    cases r1 with
    | tup rr=>
     cases hw
     obtain ⟨r3,st3,fz3,e3,l3,R3,k3⟩:=Xu (ok:=fun _=>True) hi hj h (I.next n1) (RelsQ.enum rr) (fun _ _ _=>trivial) hp
     exact ⟨r3,st3,fz3,by unfold VO; rw [e1]; exact e3,(n1.later I.lo I.bd).trans l3,R3,KeptF.trans (T1:=i :: j :: T) (fun _ z=>z) (fun _ z=>z) (Next.kept I n1) k3⟩
    | @lst ja m1 _ da za sa ra=>
     cases hw
     obtain ⟨r3,st3,fz3,e3,l3,R3,k3⟩:=Xu (ok:=fun s=>s[ja]?=some (m1,da)) hi hj h (I.next n1) (RelsQ.enum ra) (fun fz2 st2 l=>(l.frz ja za).trans sa) hp
     exact ⟨r3,st3,fz3,by unfold VO Zd6; rw [e1]; simp only [sa]; exact e3,(n1.later I.lo I.bd).trans l3,R3,KeptF.trans (T1:=i :: j :: T) (fun _ z=>z) (fun _ z=>z) (Next.kept I n1) k3⟩
    | _=>cases hw
   ·cases hp
  ·cases hp
 ·cases hp
theorem ZY (hF:Ya F G):∀ s:CS,SX n0 M (Zz s) (ex F s) (px G M s)
 | .skip=>fun π r e fz st ρ I=>by cases e; exact ⟨.nx ρ,st,fz,rfl,Later.refl,I,Kept.refl⟩
 | .brk=>fun π r e fz st ρ I=>by cases e; exact ⟨.bk ρ,st,fz,rfl,Later.refl,I,Kept.refl⟩
 | .cont=>fun π r e fz st ρ I=>by cases e; exact ⟨.ct ρ,st,fz,rfl,Later.refl,I,Kept.refl⟩
 | .stop=>fun π r e=>nomatch (show (none:Option PFl)=some r from e)
 | .seq a b=>ZgY (ZY hF a) (ZY hF b)
 | .ret e=>Zgm hF e
 | .set i e=>Zgg hF i e
 | .set2 i j e=>ZeE hF i j e
 | .app i e=>ZgX hF i e
 | .ext i e=>ZgG hF i e
 | .put i k e=>ZgB hF i e k
 | .ite c a b=>Zgr hF c (ZY hF a) (ZY hF b)
 | .for1 i rng it b=>ZgQ hF (ZY hF b)
 | .forP _ _ _ _=>fun _ r e=>nomatch (show (none:Option PFl)=some r from e)
 | .forE i j it b=>Zfi hF (ZY hF b)
 | .for3 i it b=>Zez hF (ZY hF b)
 | .for4 _ _ _ _ _=>fun _ r e=>nomatch (show (none:Option PFl)=some r from e)
 | .for2 i j it b=>Zfn hF (ZY hF b)
 | .whl _ _=>fun _ r e=>nomatch (show (none:Option PFl)=some r from e)
end
theorem inv_start {f:FD}{ps:List P}{fz:Fz}{st:Za}{ds:List D} (c:(Z9 f.body).all (fun i=>decide (ps.length≤i))=true) (b:Bd fz st) (r:Rels fz st ps ds) :
  Inv st.length (Z9 f.body) fz st (ps.map some++List.replicate (f.ns - ps.length) none) (ds.map some++List.replicate (f.ns - ds.length) none):=by
 have slot:∀ (i:Nat) (q:P),(ps.map some++List.replicate (f.ns - ps.length) none:Zo)[i]?=some (some q)→i < ps.length∧ps[i]?=some q:=fun i q h=>by
  by_cases hi:i < ps.length
  ·rw [List.getElem?_append_left (by simpa using hi),List.getElem?_map] at h
   refine ⟨hi,?_⟩
   cases z:ps[i]? with
   | none=>rw [z] at h; cases h
   | some y=>rw [z] at h; cases h; rfl
  ·rw [List.getElem?_append_right (by simpa using hi),List.getElem?_replicate] at h
   split at h<;>cases h
 have noM:∀ (i:Nat),i < ps.length→(Z9 f.body).contains i=false:=fun i hi=>by
  cases z:(Z9 f.body).contains i with
  | false=>rfl
  | true=>
   have:=List.all_eq_true.mp c i (by simpa using z)
   have:=of_decide_eq_true this
   omega
 refine ⟨b,Nat.le_refl _,by simp [r.length],fun i q hi h=>?_,fun i q hi h=>?_,fun i i' q q' j hi hi' h h' _ _=>?_⟩
 ·obtain ⟨h1,h2⟩:=slot i q h
  obtain ⟨d,e1,r1⟩:=r.get h2
  refine ⟨d,?_,r1⟩
  rw [List.getElem?_append_left (by simpa [←r.length] using h1),List.getElem?_map,e1]
  rfl
 ·rw [noM i (slot i q h).1] at hi; cases hi
 ·rw [noM i (slot i q h).1] at hi; cases hi
theorem Zfx {F:Nat→Fn}{G:PFn} (hF:Ya F G) (f:FD) {ps:List P}{p:P} (e:fnP G f ps=some p) {fz:Fz}{st:Za}{ds:List D} (b:Bd fz st) (r:Rels fz st ps ds):Gives fz st (fnD F f ds st) p:=by
 unfold fnP at e
 split at e
 ·rename_i c
  have I:Inv st.length (Z9 f.body) fz st (ps.map some++List.replicate (f.ns - ps.length) none) (ds.map some++List.replicate (f.ns - ds.length) none):=inv_start (by rw [c.1]; exact c.2) b r
  have hd:ds.length=f.ps:=by rw [←r.length]; exact c.1
  split at e
  ·rename_i d q
   cases e
   obtain ⟨r1,st1,fz1,e1,l1,R1,k1⟩:=ZY (n0:=st.length) hF f.body _ _ q fz st _ I
   cases r1 with
   | rt d'=>exact ⟨d',st1,fz1,by unfold fnD; rw [if_pos hd,e1],⟨l1.low,l1.len,l1.sub,l1.new,R1.2⟩,R1.1⟩
   | _=>exact R1.elim
  ·rename_i π' q
   cases e
   obtain ⟨r1,st1,fz1,e1,l1,R1,k1⟩:=ZY (n0:=st.length) hF f.body _ _ q fz st _ I
   cases r1 with
   | nx ρ'=>exact ⟨.non,st1,fz1,by unfold fnD; rw [if_pos hd,e1],⟨l1.low,l1.len,l1.sub,l1.new,R1.bd⟩,.non⟩
   | _=>exact R1.elim
  ·cases e
 ·cases e
theorem YD {B:P→Zo→Option PFl} (h:∀ d π v,B d π≠some (.rt v)):∀ (xs:List P) (π:Zo) (v:P),ZD B xs π≠some (.rt v)
 | [],π,v,e=>nomatch (show some (PFl.nx π)=some (.rt v) from e)
 | x :: xs,π,v,e=>by
  unfold ZD at e
  split at e
  ·exact YD h xs _ v e
  ·exact YD h xs _ v e
  ·cases e
  ·rename_i q; exact h _ _ _ q
  ·cases e
theorem Xq {B:P→P→Zo→Option PFl} (h:∀ x y π v,B x y π≠some (.rt v)):∀ (xs:List (P×P)) (π:Zo) (v:P),YN B xs π≠some (.rt v)
 | [],π,v,e=>nomatch (show some (PFl.nx π)=some (.rt v) from e)
 | x :: xs,π,v,e=>by
  unfold YN at e
  split at e
  ·exact Xq h xs _ v e
  ·exact Xq h xs _ v e
  ·cases e
  ·rename_i q; exact h _ _ _ _ q
  ·cases e
theorem Yh {F:PFn}{M:List Nat}:∀ (s:CS),YA s=true→∀ π v,px F M s π≠some (.rt v)
 | .skip,_,π,v,e=>nomatch (show some (PFl.nx π)=some (.rt v) from e)
 | .brk,_,π,v,e=>nomatch (show some (PFl.bk π)=some (.rt v) from e)
 | .cont,_,π,v,e=>nomatch (show some (PFl.ct π)=some (.rt v) from e)
 | .stop,_,π,v,e=>nomatch (show (none:Option PFl)=some (.rt v) from e)
 | .ret _,h,_,_,_=>nomatch h
 | .seq a b,h,π,v,e=>by
  have h:=(Bool.and_eq_true _ _).mp h
  have e:WR (px F M a) (px F M b) π=some (.rt v):=e
  unfold WR at e
  split at e
  ·exact Yh b h.2 _ v e
  ·exact Yh a h.1 _ v e
 | .set i x,_,π,v,e=>by
  have e:Ul M i x (pe F x) π=some (.rt v):=e
  unfold Ul mvP at e
  repeat' split at e
  all_goals cases e
 | .set2 i j x,_,π,v,e=>by
  have e:UI M i j x (pe F x) π=some (.rt v):=e
  unfold UI at e
  split at e
  ·split at e<;>cases e
  ·cases e
 | .app i x,_,π,v,e=>by
  have e:Je M i x (pe F x) π=some (.rt v):=e
  unfold Je at e
  split at e
  ·split at e
   ·split at e<;>cases e
   ·cases e
  ·cases e
 | .ext i x,_,π,v,e=>by
  have e:QF M i x (pe F x) π=some (.rt v):=e
  unfold QF at e
  split at e
  ·split at e
   ·split at e<;>cases e
   ·cases e
  ·cases e
 | .put i k x,_,π,v,e=>by
  have e:Zcs M i x (pe F k) (pe F x) π=some (.rt v):=e
  unfold Zcs at e
  repeat' split at e
  all_goals cases e
 | .ite c a b,h,π,v,e=>by
  have h:=(Bool.and_eq_true _ _).mp h
  have e:QA (pe F c) (px F M a) (px F M b) π=some (.rt v):=e
  unfold QA at e
  split at e
  ·exact Yh a h.1 _ v e
  ·exact Yh b h.2 _ v e
  ·cases e
 | .for1 i r it b,h,π,v,e=>by
  have e:Uw M (Zz b) i r it (pe F it) (px F M b) π=some (.rt v):=e
  unfold Uw at e
  repeat' split at e
  all_goals first | cases e | exact YD (fun d π v=>Yh b h _ v) _ _ v e
 | .for3 i it b,h,π,v,e=>by
  have e:W1 M i (pe F it) (px F M b) π=some (.rt v):=e
  unfold W1 at e
  repeat' split at e
  all_goals first | cases e | exact YD (fun d π v=>Yh b h _ v) _ _ v e
 | .forP i j it b,h,π,v,e=>nomatch (show (none:Option PFl)=some (.rt v) from e)
 | .forE i j it b,h,π,v,e=>by
  have e:WO M i j it (pe F it) (px F M b) π=some (.rt v):=e
  unfold WO at e
  repeat' split at e
  all_goals first | cases e | exact Xq (fun x y π v=>Yh b h _ v) _ _ v e
 | .for4 i j l it b,h,π,v,e=>nomatch (show (none:Option PFl)=some (.rt v) from e)
 | .for2 i j it b,h,π,v,e=>by
  have e:WV M (Zz b) i j it (pe F it) (px F M b) π=some (.rt v):=e
  unfold WV at e
  have pp:∀ d π v,XB i j (px F M b) d π≠some (.rt v):=fun d π v q=>by
   unfold XB at q
   split at q
   ·exact Yh b h _ v q
   ·cases q
  repeat' split at e
  all_goals first | cases e | exact YD pp _ _ v e
 | .whl c b,h,π,v,e=>nomatch (show (none:Option PFl)=some (.rt v) from e)
theorem ZaW {F:Nat→Fn}{G:PFn} (hF:Ya F G) {n0:Nat}{M:List Nat}:∀ (s:CS),X5 M s=true→∀ π p,px G M s π=some (.rt p)→∀ fz st ρ,Inv n0 M fz st π ρ→
  ∃ j ps ds st' fz',p=.lst true ps∧ex F s ρ st=some (.rt (.lst j),st')∧st'[j]?=some (true,ds)∧Later n0 fz st fz' st'∧Bd fz' st'∧¬fz' j∧n0≤j∧Rels fz' st' ps ds:=by
 have base:∀ (j:Nat),M.contains j=true→∀ π p,px G M (.seq (.ret (.var j)) .skip) π=some (.rt p)→∀ fz st ρ,Inv n0 M fz st π ρ→
  ∃ j' ps ds st' fz',p=.lst true ps∧ex F (.seq (.ret (.var j)) .skip) ρ st=some (.rt (.lst j'),st')∧st'[j']?=some (true,ds)∧Later n0 fz st fz' st'∧Bd fz' st'∧¬fz' j'∧n0≤j'∧Rels fz' st' ps ds:=fun j h π p e fz st ρ I=>by
  have e:WR (QO (Xx j)) (px G M .skip) π=some (.rt p):=e
  unfold WR QO Xx at e
  cases q:π[j]? with
  | none=>simp [q] at e
  | some o=>
   cases o with
   | none=>simp [q] at e
   | some x=>
    simp only [q] at e
    cases e
    obtain ⟨j',ps,ds,f1,f2,f3,f4,f5,f6⟩:=I.mt j _ h q
    refine ⟨j',ps,ds,st,fz,f1,?_,f3,Later.refl,I.bd,f4,f5,f6⟩
    show Vj (Jk (Yw j)) (ex F .skip) ρ st=_
    unfold Vj Jk Yw
    simp only [f2]
 have step:∀ a b:CS,YA a=true→(∀ π p,px G M b π=some (.rt p)→∀ fz st ρ,Inv n0 M fz st π ρ→∃ j ps ds st' fz',p=.lst true ps∧ex F b ρ st=some (.rt (.lst j),st')∧st'[j]?=some (true,ds)∧Later n0 fz st fz' st'∧Bd fz' st'∧¬fz' j∧n0≤j∧Rels fz' st' ps ds)→
  ∀ π p,px G M (.seq a b) π=some (.rt p)→∀ fz st ρ,Inv n0 M fz st π ρ→∃ j ps ds st' fz',p=.lst true ps∧ex F (.seq a b) ρ st=some (.rt (.lst j),st')∧st'[j]?=some (true,ds)∧Later n0 fz st fz' st'∧Bd fz' st'∧¬fz' j∧n0≤j∧Rels fz' st' ps ds:=fun a b ha hb π p e fz st ρ I=>by
  have e:WR (px G M a) (px G M b) π=some (.rt p):=e
  unfold WR at e
  split at e
  ·rename_i π1 q
   obtain ⟨r1,st1,fz1,e1,l1,R1,k1⟩:=ZY hF a π _ q fz st ρ I
   cases r1 with
   | nx ρ1=>
    obtain ⟨j,ps,ds,st2,fz2,f1,f2,f3,f4,f5,f6,f7,f8⟩:=hb π1 p e fz1 st1 ρ1 R1
    refine ⟨j,ps,ds,st2,fz2,f1,?_,f3,l1.trans f4,f5,f6,f7,f8⟩
    show Vj (ex F a) (ex F b) ρ st=_
    unfold Vj
    rw [e1]
    exact f2
   | _=>exact R1.elim
  ·exact absurd e (Yh a ha _ _)
 intro s
 induction s with
 | seq a b iha ihb=>
  intro h
  by_cases hr:∃ j,a=.ret (.var j)∧b=.skip
  ·obtain ⟨j,rfl,rfl⟩:=hr
   exact base j h
  ·have h:(YA a&&X5 M b)=true:=by
    unfold X5 at h
    split at h
    ·rename_i e; cases e; exact absurd ⟨_,rfl,rfl⟩ hr
    ·rename_i e; cases e; exact h
    ·rename_i h1 h2; exact absurd rfl (h2 _ _)
   rw [Bool.and_eq_true] at h
   exact step a b h.1 (ihb h.2)
 | _=>intro h; cases h
theorem ZeF {F:Nat→Fn}{G:PFn} (hF:Ya F G) (f:FD) (hn:XN f=true):ZbE (fnD F f) (fnP G f):=by
 intro ps m xs e fz st ds b r
 unfold fnP at e
 split at e
 ·rename_i c
  have I:Inv st.length (Z9 f.body) fz st (ps.map some++List.replicate (f.ns - ps.length) none) (ds.map some++List.replicate (f.ns - ds.length) none):=inv_start (by rw [c.1]; exact c.2) b r
  have hd:ds.length=f.ps:=by rw [←r.length]; exact c.1
  split at e
  ·rename_i d q
   cases e
   obtain ⟨j,qs,es,st1,fz1,f1,f2,f3,f4,f5,f6,f7,f8⟩:=ZaW hF f.body hn _ _ q fz st _ I
   cases f1
   exact ⟨j,es,st1,fz1,by unfold fnD; rw [if_pos hd,f2],f3,⟨f4.low,f4.len,f4.sub,f4.new,f5⟩,f6,f7,f8⟩
  ·cases e
  ·cases e
 ·cases e
theorem Wj {T:Nat→Option FD}{n i:Nat}{f:FD} (q:T i=some f):Zn T (n+1) i=if (WT i&&!XN f)=true then fun _=>none else fnP (Zn T n) f:=by
 show (match T i with | some f=>if (WT i&&!XN f)=true then (fun _=>none) else fnP (Zn T n) f | none=>fun _=>none)=_
 rw [q]
theorem VN {T:Nat→Option FD}{n i:Nat} (q:T i=none):Zn T (n+1) i=fun _=>none:=by
 show (match T i with | some f=>if (WT i&&!XN f)=true then (fun _=>none) else fnP (Zn T n) f | none=>fun _=>none)=_
 rw [q]
theorem Qs {T:Nat→Option FD}{n i:Nat}{f:FD} (q:T i=some f):run T (n+1) i=fnD (run T n) f:=by
 show (match T i with | some f=>fnD (run T n) f | none=>fun _ _=>none)=_
 rw [q]
theorem V7 (T:Nat→Option FD):∀ n,Ya (run T n) (Zn T n)
 | 0=>⟨(fun i ps p e=>nomatch (show (none:Option P)=some p from e)),(fun i _ ps m xs e=>nomatch (show (none:Option P)=some (.lst m xs) from e))⟩
 | n+1=>by
  refine ⟨fun i ps p e fz st ds b r=>?_,fun i hi ps m xs e fz st ds b r=>?_⟩
  ·cases q:T i with
   | none=>rw [VN q] at e; cases e
   | some f=>
    rw [Wj q] at e
    rw [Qs q]
    split at e
    ·cases e
    ·exact Zfx (V7 T n) f e b r
  ·cases q:T i with
   | none=>rw [VN q] at e; cases e
   | some f=>
    rw [Wj q] at e
    rw [Qs q]
    split at e
    ·cases e
    ·rename_i c
     have hn:XN f=true:=by
      rw [hi,Bool.true_and,Bool.not_eq_true',Bool.not_eq_false] at c
      exact c
     exact ZeF (V7 T n) f hn ps m xs e fz st ds b r
theorem ZcO {T:Nat→Option FD}{n i:Nat}{ns:List Int} (h:Zn T n i [.lst false (ns.map .int)]=some (.bl true)):∃ st',run T n i [.lst 0] [(false,ns.map .int)]=some (.bl true,st'):=by
 have r:∀ ns:List Int,Rels (fun i=>i=0) [(false,(ns.map D.int))] [] []:=fun _=>.nil
 have rs:∀ (st:Za) (ns:List Int),Rels (fun i=>i=0) st (ns.map P.int) (ns.map D.int):=fun st ns=>by
  induction ns with
  | nil=>exact .nil
  | cons a l ih=>exact .cons (.int a) ih
 obtain ⟨d,st',fz',e1,n1,r1⟩:=(V7 T n).1 i _ _ h (fun i=>i=0) [(false,ns.map D.int)] [.lst 0] (fun i hi=>by rw [hi]; exact Nat.zero_lt_one) (.cons (.lst rfl rfl (rs _ ns)) .nil)
 cases r1
 exact ⟨st',e1⟩
end Dp



namespace Dp
open PySem PySem.Spec PyProof.Rows L2
variable [ClsTab]
theorem Xz {α:Type}:∀ {us:List α},us.length=1→∃ a,us=[a]
 | [a],_=>⟨a,rfl⟩
theorem Zap {α:Type}:∀ {us:List α},us.length=2→∃ a b,us=[a,b]
 | [a,b],_=>⟨a,b,rfl⟩
theorem UB {α:Type}:∀ {us:List α},us.length=3→∃ a b c,us=[a,b,c]
 | [a,b,c],_=>⟨a,b,c,rfl⟩
noncomputable def Ux (K:PySem.W.Frag) (G:Gs) (T:Nat→Option FD) (C:Addr):List (Str×Nat×Nat)→Prop
 | []=>True
 | (m,j,_) :: r=>(∃ y f fd pn N,MethOk K G T C m y j f fd pn N)∧Ux K G T C r
noncomputable def V6 (K:PySem.W.Frag) (B:Addr):List Nat→Prop
 | []=>True
 | i :: r=>SubOk K (ClsTab.ca i) B∧V6 K B r
noncomputable def UU (Pm:Params) (K:PySem.W.Frag) (mg:Str→Option Value) (G:Gs) (T:Nat→Option FD):Gs→Prop
 | []=>True
 | (x,.cst d) :: r=>(∃ v u,mg x=some u∧RelV v u∧∀ ad H,Den K ad H v d)∧UU Pm K mg G T r
 | (x,.blt) :: r=>mg x=none∧UU Pm K mg G T r
 | (x,.dct ks ds) :: r=>JL Pm K mg x ks ds∧UU Pm K mg G T r
 | (x,.fn i _ ds) :: r=>(∃ f fd pn N,DefOk K mg G T x i ds f fd pn N)∧UU Pm K mg G T r
 | (x,.cls i ms subs) :: r=>((mg x=some (.ref (ClsTab.ca i))∧NewOk K (ClsTab.ca i)∧V6 K (ClsTab.ca i) subs)∧Ux K G T (ClsTab.ca i) ms)∧UU Pm K mg G T r
section
variable {P:Program}{w:World}{K:PySem.W.Frag}{mg:Str→Option Value}{base:Heap}{G:Gs}{T:Nat→Option FD}
noncomputable def Zet (Pm:Params) (K:PySem.W.Frag) (mg:Str→Option Value) (G:Gs) (T:Nat→Option FD) (x:Str):GV→Prop
 | .cst d=>∃ v u,mg x=some u∧RelV v u∧∀ ad H,Den K ad H v d
 | .blt=>mg x=none
 | .dct ks ds=>JL Pm K mg x ks ds
 | .fn i _ ds=>∃ f fd pn N,DefOk K mg G T x i ds f fd pn N
 | .cls i ms subs=>(mg x=some (.ref (ClsTab.ca i))∧NewOk K (ClsTab.ca i)∧V6 K (ClsTab.ca i) subs)∧Ux K G T (ClsTab.ca i) ms
theorem YU {Pm:Params}:∀ {l:Gs}{x:Str}{g:GV},UU Pm K mg G T l→l.lookup x=some g→Zet Pm K mg G T x g
 | [],_,_,_,h=>by cases h
 | (y,v) :: r,x,g,a,h=>by
  have tl:UU Pm K mg G T r∧Zet Pm K mg G T y v:=by
   cases v with
   | cst d=>exact ⟨a.2,a.1⟩
   | blt=>exact ⟨a.2,a.1⟩
   | dct ks ds=>exact ⟨a.2,a.1⟩
   | fn i ps ds=>exact ⟨a.2,a.1⟩
   | cls i ms subs=>exact ⟨a.2,a.1⟩
  rw [List.lookup_cons] at h
  cases e:x==y with
  | true=>
   rw [e] at h
   cases h
   rw [beq_iff_eq.mp e]
   exact tl.2
  | false=>
   rw [e] at h
   exact YU tl.1 h
theorem Ju {B:Addr}:∀ {l:List Nat},V6 K B l→∀ i,l.contains i=true→SubOk K (ClsTab.ca i) B
 | [],_,_,h=>by cases h
 | j :: r,a,i,h=>by
  rw [List.contains_cons,Bool.or_eq_true] at h
  rcases h with h | h
  ·rw [beq_iff_eq.mp h]; exact a.1
  ·exact Ju a.2 i h
theorem U4 {C:Addr}:∀ {l:List (Str×Nat×Nat)},Ux K G T C l→∀ m j ps,l.lookup m=some (j,ps)→∃ y f fd pn N,MethOk K G T C m y j f fd pn N
 | [],_,_,_,_,h=>by cases h
 | (m',j',ps') :: r,a,m,j,ps,h=>by
  rw [List.lookup_cons] at h
  cases e:m==m' with
  | true=>
   rw [e] at h
   cases h
   rw [beq_iff_eq.mp e]
   exact a.1
  | false=>
   rw [e] at h
   exact U4 a.2 m j ps h
theorem ZdS {Pm:Params} (h:UU Pm K mg G T G):Text Pm K mg G T:=
 ⟨fun _ _ e=>YU h e,fun _ e=>YU h e,fun _ _ _ e=>YU h e,fun _ _ _ _ e=>YU h e,fun x i ms subs e=>by
  have g:Zet Pm K mg G T x (.cls i ms subs):=YU h e
  exact ⟨⟨g.1.1,g.1.2.1,Ju g.1.2.2⟩,U4 g.2⟩⟩
theorem ZfE (hc:∀ n,XD G (run T n)) (X:Text w.params K mg G T) (n:Nat) {x:Str}{i:Nat}{ds:List D}{f:Addr}{fd:FuncData}{pn N:List Str} (Dk:DefOk K mg G T x i ds f fd pn N):FnOk P w K mg base CX0 n f fd pn (spD K (run T n i)):=ZaN hc X n Dk.ob
theorem Ze8 {H:Hp}{a:Addr}{ns:List Int}{n i:Nat} (hO:Only H) (hS:SqL K H a (ns.map V.int)) (h:Zn T n i [.lst false (ns.map .int)]=some (.bl true)):spD K (run T n i) [.ref a] H (fun v _=>v=.bl true) fun _ _ _=>False:=by
 obtain ⟨st',e⟩:=ZcO h
 have ds:∀ ns:List Int,Dens K [a] H (ns.map V.int) (ns.map D.int):=fun ns=>by
  induction ns with
  | nil=>exact .nil
  | cons n l ih=>exact .cons (.int n) ih
 refine ⟨[a],[.lst 0],[(false,ns.map .int)],.bl true,st',⟨rfl,fun i j b c d _ _ h3 _=>?_,fun i c hc=>?_⟩,.cons (.lst rfl) .nil,e,fun v ad' H' x S h=>h.ofBl⟩
 ·cases i with
  | zero=>simp at h3
  | succ i=>simp at h3
 ·cases i with
  | succ i=>simp at hc
  | zero=>
   have hc:(false,ns.map D.int)=c:=by simpa using hc
   subst hc
   refine ⟨a,rfl,ns.map V.int,ds ns,.inr ⟨rfl,?_⟩⟩
   rcases hS with (h | ⟨o,h⟩) | ⟨o,its,n,h1,h2,h3,h4,h5,h6⟩
   ·rcases hO a with z | ⟨o,xs,z⟩
    ·rw [h] at z; cases z
    ·rw [h] at z; cases z
   ·exact .inl ⟨o,h⟩
   ·exact .inr ⟨o,its,n,⟨h1,h2⟩,⟨h3,h4⟩,h5,h6⟩
end
omit [ClsTab] in
theorem Zcj {l:PySem.W.OpenLaw}{q:Program}{loose:List Str}{XP:(Str→Option Value)→Heap→Prop}{YP:World→Heap→Prop}{d:DefRec}{K:Params→PySem.W.Frag}{G:Gs}{T:Nat→Option FD}{n i:Nat}{x:Str}
  (hn:l.most=some 63) (hdf:d.params.defaults=[]) (hr:Room n callerA) (hY:∀ (w:World) (h:Heap),YP w h→(K w.params).In h) (hc:∀ [ClsTab] n,XD G (run T n))
  (F:∀ (w:World) (mg:Str→Option Value) (fa:Addr) (h:Heap),(K w.params).In h→h.Ns mainGlobals mg→mg d.name=some (.ref fa)→
   ∃ _:ClsTab,Text w.params (K w.params) mg G T∧∃ (fd:FuncData) (N:List Str),(∀ (s:Shared) (u:Value),BindsTo s fd ⟨[u],[]⟩ [(x,u)])∧DefOk (K w.params) mg G T d.name i [] fa fd [x] N)
  (L:∀ ns:List Int,ns.length≤63→Zn T n i [.lst false (ns.map .int)]=some (.bl true)) :
  PySem.W.WalkO q loose XP YP l.row.toRowW d [] (fun f vs=>PySem.call f vs):=
 L2.walk_of (n:=63) (k:=n) (x:=x) (CX:=fun _=>CX0) (sp:=fun w vs H Q E=>∀ c:ClsTab,@spD c (K w.params) (run T n i) vs H Q E) hn (by decide) hdf hr hY
  (fun w mg fa h KX G0 hmg=>by
   obtain ⟨c,X,fd,N,hb,Dk⟩:=F w mg fa h KX G0 hmg
   refine ⟨fd,hb,fun base _ _=>?_⟩
   have fo:=ZfE (P:=l.prog) (w:=w) (base:=base) (fun n=>hc n) X n Dk
   exact ⟨fun vs H Q E z=>fo.len vs H Q E (z c),fun A outer s H args us vs Q E a1 a2 a3 a4 z=>fo.run A outer s H args us vs Q E a1 a2 a3 a4 (z c)⟩)
  (fun w H a ns hl hO hS c=>Ze8 hO hS (L ns hl)) fun _ _ _ _ _ z=>z
end Dp


namespace Dp
open PySem
theorem XW:∀ {l m:List Char},l.map Char.toNat=m.map Char.toNat→l=m
 | [],[],_=>rfl
 | [],_ :: _,h=>by cases h
 | _ :: _,[],h=>by cases h
 | a :: l,b :: m,h=>by
  rw [List.map_cons,List.map_cons] at h
  injection h with h1 h2
  have:a=b:=by
   apply Char.ext
   apply UInt32.toNat_inj.mp
   exact h1
  rw [this,XW h2]
@[simp] theorem Zim {a b:String}:(Str.ofString a=Str.ofString b)=(a=b):=by
 apply propext
 constructor
 ·intro h
  rw [Str.ofString_eq_toList,Str.ofString_eq_toList] at h
  injection h with h
  have h2:=congrArg Array.toList h
  simp only [List.toList_toArray] at h2
  exact String.toList_inj.mp (XW h2)
 ·intro h; rw [h]
section
variable {F:PFn}{π:Zo}{a b c lo hi it elt cnd:CE}{M:List Nat}
noncomputable def UW (c:Option P) (x y:Option P):Option P:=match c with
 | some (.bl true)=>x
 | some (.bl false)=>y
 | _=>none
@[simp] theorem Zf5 {k:Bool}{x y:Option P}:UW (some (.bl k)) x y=if k=true then x else y:=by cases k<;>rfl
@[simp] theorem pe_var {i:Nat}:pe F (.var i) π=(π[i]?).join:=by
 show Xx i π=_
 unfold Xx
 cases π[i]? with
 | none=>rfl
 | some o=>cases o<;>rfl
@[simp] theorem QW {d:D}:pe F (.cst d) π=ofD d:=Eq.trans rfl rfl
@[simp] theorem Jl {i:Int}:ofD (.int i)=some (.int i):=Eq.trans rfl rfl
@[simp] theorem ZcP {i:Str}:ofD (.str i)=some (.str i):=Eq.trans rfl rfl
@[simp] theorem ZhH {i:Bool}:ofD (.bl i)=some (.bl i):=Eq.trans rfl rfl
@[simp] theorem Zb4:Wd []=some []:=Eq.trans rfl rfl
theorem YR {f:PEv}{g:P→Option P}:pq1 f g π=(f π).bind g:=by unfold pq1; cases f π<;>rfl
theorem XQ {f f':PEv}{g:P→P→Option P}:pq2 f f' g π=(f π).bind fun x=>(f' π).bind fun y=>g x y:=by unfold pq2; cases f π<;>cases f' π<;>rfl
theorem Zfo {f f' f'':PEv}{g:P→P→P→Option P}:pq3 f f' f'' g π=(f π).bind fun x=>(f' π).bind fun y=>(f'' π).bind fun z=>g x y z:=by unfold pq3; cases f π<;>cases f' π<;>cases f'' π<;>rfl
theorem U3 {f g h:PEv}:Yq f g h π=UW (f π) (g π) (h π):=by
 unfold Yq UW
 rfl
@[simp] theorem XH {op:Operator}:pe F (.bin op a b) π=(pe F a π).bind fun x=>(pe F b π).bind fun y=>Y4 op x y:=XQ
@[simp] theorem ZeW {op:CmpOp}:pe F (.cmp op a b) π=(pe F a π).bind fun x=>(pe F b π).bind fun y=>YE op x y:=XQ
@[simp] theorem Zh7:pe F (.neg a) π=(pe F a π).bind JV:=YR
@[simp] theorem pe_not:pe F (.not a) π=(pe F a π).bind Zak:=YR
@[simp] theorem pe_and:pe F (.and a b) π=UW (pe F a π) (pe F b π) (some (.bl false)):=U3
@[simp] theorem pe_or:pe F (.or a b) π=UW (pe F a π) (some (.bl true)) (pe F b π):=U3
@[simp] theorem ZdE:pe F (.tupE a) π=pe F a π:=Eq.trans rfl rfl
@[simp] theorem Zg3:pe F (.lstE a) π=(pe F a π).bind Q4:=YR
@[simp] theorem Jq:pe F .anil π=some (.tup []):=Eq.trans rfl rfl
@[simp] theorem Xo:pe F (.acons a b) π=(pe F a π).bind fun x=>(pe F b π).bind fun y=>VT x y:=XQ
@[simp] theorem pe_ix:pe F (.ix a b) π=(pe F a π).bind fun x=>(pe F b π).bind fun y=>ixP x y:=XQ
@[simp] theorem pe_slice:pe F (.slice a lo hi) π=(pe F a π).bind fun x=>(pe F lo π).bind fun y=>(pe F hi π).bind fun z=>Xp x y z:=Zfo
@[simp] theorem Zhu:pe F .nop π=some .non:=Eq.trans rfl rfl
@[simp] theorem Zhe:pe F (.part a) π=(pe F a π).bind Vu:=YR
@[simp] theorem pe_call {f:Nat}{ds:List D}:pe F (.call f a ds) π=(pe F a π).bind (WZ (F f) ds):=YR
@[simp] theorem ZhX:pe F (.len a) π=(pe F a π).bind Q3:=YR
@[simp] theorem ZeL:pe F (.tupleOf a) π=(pe F a π).bind Wc:=YR
@[simp] theorem Zex:pe F (.min a b) π=(pe F a π).bind fun x=>(pe F b π).bind fun y=>Zai x y:=XQ
@[simp] theorem Zht:pe F (.max a b) π=(pe F a π).bind fun x=>(pe F b π).bind fun y=>JQ x y:=XQ
@[simp] theorem ZhO {T:Ty}:pe F (.isi T a) π=(pe F a π).bind (X6 T):=YR
@[simp] theorem Zg8 {ks:List Str}:pe F (.dict ks a) π=(pe F a π).bind (VD ks):=YR
@[simp] theorem Zij {k:Bool}:pe F (.rs k a) π=(pe F a π).bind (rsP k):=YR
theorem V5 {rng:Bool}{fr:List Nat}:pe F (.comp rng fr it elt cnd) π=(pe F it π).bind fun x=>(YL rng x).bind fun xs=>if xs.length≤1000 then (Y1 (fun p=>pe F elt (YO π fr p)) (fun p=>pe F cnd (YO π fr p)) xs).bind (fun ys=>some (.lst true ys)) else none:=by
 show ZU ZbD (YL rng) fr (pe F it) (pe F elt) (pe F cnd) π=_
 unfold ZU
 cases pe F it π with
 | none=>rfl
 | some x=>
  simp only [Option.bind_some]
  cases YL rng x with
  | none=>rfl
  | some xs=>
   simp only [Option.bind_some]
   split
   ·show (match Y1 (fun p=>pe F elt (YO π fr p)) (fun p=>pe F cnd (YO π fr p)) xs with
     | some ys=>some (P.lst true ys)
     | none=>none)=_
    cases Y1 (fun p=>pe F elt (YO π fr p)) (fun p=>pe F cnd (YO π fr p)) xs<;>rfl
   ·rfl
@[simp] theorem Zgf {tab:List (Nat×Nat)}:pe F (.meth tab a b) π=(pe F a π).bind fun x=>(pe F b π).bind fun y=>X7 F tab x y:=XQ
variable {i j:Int}{xs ys:List P}{x y:P}{m:Bool}
@[simp] theorem JD:Y4 .Add (.int i) (.int j)=some (.int (i+j)):=Eq.trans rfl rfl
@[simp] theorem Zg6:Y4 .Sub (.int i) (.int j)=some (.int (i - j)):=Eq.trans rfl rfl
@[simp] theorem ZdM:Y4 .Mult (.int i) (.int j)=if YM i||YM j then some (.int (i * j)) else none:=by
 show (match (if YM i||YM j then some ((i * j)) else none:Option Int) with
  | some k=>some (P.int k)
  | none=>none)=_
 by_cases h:(YM i||YM j)=true
 ·rw [if_pos h,if_pos h]
 ·rw [if_neg h,if_neg h]
@[simp] theorem Zgw:Y4 .FloorDiv (.int i) (.int j)=if 0 < j∧j < 1073741824 then some (.int (i / j)) else if j < 0∧-1073741824 < j then some (.int (i.fdiv j)) else none:=by
 show (match (if 0 < j∧j < 1073741824 then some (i / j) else if j < 0∧-1073741824 < j then some (i.fdiv j) else none:Option Int) with
  | some k=>some (P.int k)
  | none=>none)=_
 by_cases h:0 < j∧j < 1073741824
 ·rw [if_pos h,if_pos h]
 ·rw [if_neg h,if_neg h]
  by_cases h':j < 0∧-1073741824 < j
  ·rw [if_pos h',if_pos h']
  ·rw [if_neg h',if_neg h']
@[simp] theorem Zg2:Y4 .Mod (.int i) (.int j)=if 0 < j then some (.int (i % j)) else if j < 0 then some (.int (i.fmod j)) else none:=by
 show (match (if 0 < j then some (i % j) else if j < 0 then some (i.fmod j) else none:Option Int) with
  | some k=>some (P.int k)
  | none=>none)=_
 by_cases h:0 < j
 ·rw [if_pos h,if_pos h]
 ·rw [if_neg h,if_neg h]
  by_cases h':j < 0
  ·rw [if_pos h',if_pos h']
  ·rw [if_neg h',if_neg h']
@[simp] theorem Zg0:Y4 .Add (.tup xs) (.tup ys)=if xs.length+ys.length≤Zi then some (.tup (xs++ys)) else none:=by
 show (if Vc .Add=true∧xs.length+ys.length≤Zi then some (P.tup (xs++ys)) else none)=_
 by_cases h:xs.length+ys.length≤Zi
 ·rw [if_pos ⟨rfl,h⟩,if_pos h]
 ·rw [if_neg (fun z=>h z.2),if_neg h]
@[simp] theorem Zf0 {m':Bool}:Y4 .Add (.lst m xs) (.lst m' ys)=if xs.length+ys.length≤Zi then some (.lst true (xs++ys)) else none:=by
 show (if Vc .Add=true∧xs.length+ys.length≤Zi then some (P.lst true (xs++ys)) else none)=_
 by_cases h:xs.length+ys.length≤Zi
 ·rw [if_pos ⟨rfl,h⟩,if_pos h]
 ·rw [if_neg (fun z=>h z.2),if_neg h]
@[simp] theorem Zhl:YE .Lt (.int i) (.int j)=some (.bl (decide (i < j))):=Eq.trans rfl rfl
@[simp] theorem Zh3:YE .Gt (.int i) (.int j)=some (.bl (decide (j < i))):=Eq.trans rfl rfl
@[simp] theorem Zha:YE .Eq (.int i) (.int j)=some (.bl (decide (i=j))):=Eq.trans rfl rfl
@[simp] theorem Zg4:YE .NotEq (.int i) (.int j)=some (.bl (!decide (i=j))):=Eq.trans rfl rfl
@[simp] theorem Zg9 {s t:Str}:YE .Eq (.str s) (.str t)=some (.bl (decide (s=t))):=Eq.trans rfl rfl
@[simp] theorem neg_int:JV (.int i)=some (.int (-i)):=Eq.trans rfl rfl
@[simp] theorem ZhC:Zak (.bl m)=some (.bl (!m)):=Eq.trans rfl rfl
@[simp] theorem Zg5:Q4 (.tup xs)=some (.lst true xs):=Eq.trans rfl rfl
@[simp] theorem Ql:VT x (.tup xs)=if xs.length < 1000 then some (.tup (x :: xs)) else none:=Eq.trans rfl rfl
@[simp] theorem ZfT:Vu (.int i)=some (.int i):=Eq.trans rfl rfl
@[simp] theorem ZgZ:Q3 (.tup xs)=some (.int xs.length):=Eq.trans rfl rfl
@[simp] theorem Zhg:Q3 (.lst m xs)=some (.int xs.length):=Eq.trans rfl rfl
@[simp] theorem ZfR:Wc (.lst m xs)=some (.tup xs):=Eq.trans rfl rfl
@[simp] theorem int_int:Zig (.int i)=some (.int i):=Eq.trans rfl rfl
@[simp] theorem Zg7:Zai (.int i) (.int j)=some (.int (if j < i then j else i)):=Eq.trans rfl rfl
@[simp] theorem Zhc:JQ (.int i) (.int j)=some (.int (if j > i then j else i)):=Eq.trans rfl rfl
@[simp] theorem ix_tup:ixP (.tup xs) (.int i)=atP xs i:=Eq.trans rfl rfl
@[simp] theorem Zic:ixP (.lst m xs) (.int i)=atP xs i:=Eq.trans rfl rfl
@[simp] theorem ZhJ:X6 .int (.int i)=some (.bl true):=Eq.trans rfl rfl
@[simp] theorem Zie:X6 .bool (.int i)=some (.bl false):=Eq.trans rfl rfl
@[simp] theorem ZhQ:X6 .tuple (.tup xs)=some (.bl true):=Eq.trans rfl rfl
@[simp] theorem Zhn:X6 .tuple (.int i)=some (.bl false):=Eq.trans rfl rfl
@[simp] theorem Zh1 {s:Str}:X6 .tuple (.str s)=some (.bl false):=Eq.trans rfl rfl
@[simp] theorem Zhs {s:Str}:X6 .str (.str s)=some (.bl true):=Eq.trans rfl rfl
@[simp] theorem Zh8:X6 .str (.int i)=some (.bl false):=Eq.trans rfl rfl
@[simp] theorem ZaI {g:List P→Option P}{ds:List D}:WZ g ds (.tup xs)=(Wd ds).bind fun es=>g (xs++es):=by
 show (match Wd ds with | some es=>g (xs++es) | none=>none)=_
 cases Wd ds<;>rfl
@[simp] theorem ZgN:Xp x (.int i) .non=ZP x (some i) none:=Eq.trans rfl rfl
@[simp] theorem ZgA:Xp x .non (.int j)=ZP x none (some j):=Eq.trans rfl rfl
theorem Yi {n:Nat} (h:i=(n:Int)):atP xs i=xs[n]?:=by
 subst h
 unfold atP ixN
 rw [if_pos (by omega)]
 by_cases hn:(n:Int) < xs.length
 ·rw [if_pos hn]; rfl
 ·rw [if_neg hn]
  rw [List.getElem?_eq_none (by omega)]
  rfl
@[simp] theorem Zg1 {n:Nat}:atP xs ((n:Nat):Int)=xs[n]?:=Yi rfl
@[simp] theorem Zit:atP xs 2=xs[2]?:=Yi rfl
@[simp] theorem Ziu:atP xs 3=xs[3]?:=Yi rfl
@[simp] theorem Zir:atP xs 4=xs[4]?:=Yi rfl
@[simp] theorem Zio:atP xs 5=xs[5]?:=Yi rfl
@[simp] theorem Zin:atP xs 6=xs[6]?:=Yi rfl
@[simp] theorem Zis:atP xs 7=xs[7]?:=Yi rfl
@[simp] theorem Zip:atP xs 0=xs[0]?:=Yi rfl
@[simp] theorem Ziq:atP xs 1=xs[1]?:=Yi rfl
@[simp] theorem Zih:atP xs (-1)=xs.getLast?:=by
 unfold atP ixN
 rw [if_neg (by omega)]
 cases xs with
 | nil=>rfl
 | cons x xs=>
  rw [if_pos (by simp only [List.length_cons]; omega),List.getLast?_eq_getElem?]
  show (x :: xs)[(-1+(((x :: xs).length:Nat):Int)).toNat]?=_
  have:(-1+(((x :: xs).length:Nat):Int)).toNat=(x :: xs).length - 1:=by omega
  rw [this]
variable {s t:CS}
noncomputable def Wt (x:Option PFl) (g:Zo→Option PFl):Option PFl:=match x with
 | some (.nx π')=>g π'
 | r=>r
@[simp] theorem Zg {g:PEx}:Wt (some (.nx π)) g=g π:=Eq.trans rfl rfl
@[simp] theorem Zhd {g:PEx}:Wt (some (.rt x)) g=some (.rt x):=Eq.trans rfl rfl
@[simp] theorem ZfQ {g:PEx}:Wt none g=none:=Eq.trans rfl rfl
@[simp] theorem ZgS {p:Prop} [Decidable p] {u v:Option PFl}{g:PEx}:Wt (if p then u else v) g=if p then Wt u g else Wt v g:=by split<;>rfl
noncomputable def Zco (c:Option P) (x y:Option PFl):Option PFl:=match c with
 | some (.bl true)=>x
 | some (.bl false)=>y
 | _=>none
@[simp] theorem XV {k:Bool}{x y:Option PFl}:Zco (some (.bl k)) x y=if k=true then x else y:=by cases k<;>rfl
@[simp] theorem ZQ:px F M .skip π=some (.nx π):=Eq.trans rfl rfl
@[simp] theorem Zj:px F M (.seq s t) π=Wt (px F M s π) (px F M t):=by
 show WR _ _ π=_
 unfold WR Wt
 rfl
@[simp] theorem Zbb:px F M (.ret a) π=(pe F a π).bind fun d=>some (.rt d):=by
 show QO _ π=_
 unfold QO
 cases pe F a π<;>rfl
@[simp] theorem WJ:px F M (.ite c s t) π=Zco (pe F c π) (px F M s π) (px F M t π):=by
 show QA _ _ _ π=_
 unfold QA Zco
 rfl
@[simp] theorem Zk {o:Option P}:Zt (o :: π) 0 x=some x :: π:=Eq.trans rfl rfl
@[simp] theorem Zl {o:Option P}{k:Nat}:Zt (o :: π) (k+1) x=o :: Zt π k x:=Eq.trans rfl rfl
theorem ZdN:∀ e:CE,noM [] e=true:=by
 intro e
 induction e<;>simp_all [noM]
theorem ZbA {e:CE}:Zv [] e x=true:=by unfold Zv; rw [ZdN]; rfl
@[simp] theorem ZcA {k:Nat}:px F [] (.set k a) π=(pe F a π).bind fun p=>some (.nx (Zt π k p)):=by
 show Ul _ _ _ _ π=_
 unfold Ul
 cases pe F a π with
 | none=>rfl
 | some p=>simp [ZbA]
theorem Zb3 {k:Nat}:px F M (.set k a) π=(pe F a π).bind fun p=>if (if M.contains k then WI M a p else Zv M a p) then some (.nx (Zt π k p)) else mvP M k a p π:=by
 show Ul _ _ _ _ π=_
 unfold Ul
 cases pe F a π<;>rfl
theorem Yn {k:Nat}{p:P} (h:pe F a π=some p) (hm:M.contains k=false) (hk:Zv M a p=true):px F M (.set k a) π=some (.nx (Zt π k p)):=by
 rw [Zb3,h,Option.bind_some,hm,if_neg Bool.false_ne_true,if_pos hk]
theorem Y7 {k:Nat}{p:P} (h:pe F a π=some p) (hm:M.contains k=true) (hk:WI M a p=true):px F M (.set k a) π=some (.nx (Zt π k p)):=by
 rw [Zb3,h,Option.bind_some,hm,if_pos rfl,if_pos hk]
theorem Jc {k:Nat} (h:π[k]?=some (some (.lst true xs))):px F M (.app k a) π=(pe F a π).bind fun p=>if M.contains k&&Zv M a p&&decide (xs.length < Zi) then some (.nx (Zt π k (.lst true (xs++[p])))) else none:=by
 show Je _ _ _ _ π=_
 unfold Je
 rw [h]
 cases pe F a π<;>rfl
theorem Ze2 {k:Nat} (h:π[k]?=some (some (.lst true xs))) (he:pe F a π=some (.lst true ys)) (hw:(M.contains k&&noM M a)=true) (hz:xs.length+ys.length≤Zi):px F M (.ext k a) π=some (.nx (Zt π k (.lst true (xs++ys)))):=by
 show QF _ _ _ _ π=_
 unfold QF
 simp only [h,he]
 rw [if_pos (by rw [Bool.and_eq_true]; exact ⟨hw,decide_eq_true hz⟩)]
theorem Zdx {k:Nat} (h:pe F it π=some (.lst m xs)) (hw:!M.contains k&&Xk M (Zz s) it xs=true):px F M (.for1 k false it s) π=ZD (fun d π=>px F M s (Zt π k d)) xs π:=by
 show Uw _ _ _ _ _ _ _ π=_
 unfold Uw
 rw [h]
 show (if !M.contains k&&Xk M (Zz s) it xs then ZD (fun d π=>px F M s (Zt π k d)) xs π else none)=_
 rw [if_pos (by simpa using hw)]
theorem Zdr {k:Nat}{n:Int} (h:pe F it π=some (.int n)) (h1:n < 2 ^ 62) (h2:-(2 ^ 62)≤n) (hw:M.contains k=false):px F M (.for1 k true it s) π=ZD (fun d π=>px F M s (Zt π k d)) (Z8 n) π:=by
 show Uw _ _ _ _ _ _ _ π=_
 unfold Uw
 rw [h]
 have e:W7 true (.int n)=some (Z8 n):=by
  show (if n < 2 ^ 62∧-(2 ^ 62)≤n then some (Z8 n) else none)=_
  rw [if_pos ⟨h1,h2⟩]
 simp only [e]
 rw [if_pos (by simpa using hw)]
theorem ZcB {k l:Nat}{x:P} (h:pe F it π=some x) (hx:ZaP x=some xs) (hw:(!M.contains k&&!M.contains l&&noM M it)=true):px F M (.forE k l it s) π=YN (fun x y π=>px F M s (Zt (Zt π k x) l y)) (Wk 0 xs) π:=by
 show WO _ _ _ _ _ _ π=_
 unfold WO
 rw [h]
 dsimp only
 rw [hx]
 show (if (!M.contains k&&!M.contains l&&noM M it)=true then _ else _)=_
 rw [if_pos hw]
theorem XY {k:Nat}{zs:List Int}{p:P} (h:pe F it π=some p) (hz:WG p=some zs) (hw:M.contains k=false):px F M (.for3 k it s) π=ZD (fun d π=>px F M s (Zt π k d)) (zs.map P.int) π:=by
 show W1 _ _ _ _ π=_
 unfold W1
 rw [h]
 simp only [hz]
 rw [if_pos (by simpa using hw)]
theorem ZcR {k l:Nat} (h:pe F it π=some (.lst m xs)) (hw:!M.contains k&&!M.contains l&&Xk M (Zz s) it xs=true):px F M (.for2 k l it s) π=ZD (XB k l (px F M s)) xs π:=by
 show WV _ _ _ _ _ _ _ π=_
 unfold WV
 rw [h]
 show (if !M.contains k&&!M.contains l&&Xk M (Zz s) it xs then ZD (XB k l (px F M s)) xs π else none)=_
 rw [if_pos (by simpa using hw)]
noncomputable def Qt (x:Option PFl) (g:Zo→Option PFl):Option PFl:=match x with
 | some (.nx π')=>g π'
 | some (.ct π')=>g π'
 | some (.bk π')=>some (.nx π')
 | some (.rt v)=>some (.rt v)
 | none=>none
@[simp] theorem ZC {g:PEx}:Qt (some (.nx π)) g=g π:=Eq.trans rfl rfl
theorem YB {B:P→Zo→Option PFl}:ZD B [] π=some (.nx π):=Eq.trans rfl rfl
theorem Zs {B:P→Zo→Option PFl}:ZD B (x :: xs) π=Qt (B x π) (ZD B xs):=by
 show (match B x π with
  | some (.nx π')=>ZD B xs π'
  | some (.ct π')=>ZD B xs π'
  | some (.bk π')=>some (.nx π')
  | some (.rt v)=>some (.rt v)
  | none=>none)=_
 unfold Qt
 rfl
@[simp] theorem Zci {k l:Nat}{b:PEx}:XB k l b (.tup [x,y]) π=b (Zt (Zt π k x) l y):=Eq.trans rfl rfl
theorem mem_range {n:Int}{p:P} (h:p∈Z8 n):∃ k:Nat,p=.int (k:Int)∧(k:Int) < n:=by
 obtain ⟨k,hk,rfl⟩:=List.mem_map.mp h
 exact ⟨k,rfl,by have:=List.mem_range.mp hk; omega⟩
noncomputable def Xi (x:Option PFl):Option P:=match x with
 | some (.rt d)=>some d
 | some (.nx _)=>some .non
 | _=>none
@[simp] theorem ZhA:Xi (some (.rt x))=some x:=Eq.trans rfl rfl
@[simp] theorem Zhf {p:Prop} [Decidable p] {u v:Option PFl}:Xi (if p then u else v)=if p then Xi u else Xi v:=by split<;>rfl
theorem Zfp {f:FD}{ds:List P} (hl:ds.length=f.ps) (hM:(Z9 f.body).all (fun i=>decide (f.ps≤i))=true):fnP F f ds=Xi (px F (Z9 f.body) f.body (ds.map some++List.replicate (f.ns - ds.length) none)):=by
 unfold fnP
 rw [if_pos ⟨hl,hM⟩]
 rfl
theorem Zy {T:Nat→Option FD}{n k:Nat}{f:FD}{ds:List P} (h:T k=some f) (hl:ds.length=f.ps) (hM:(Z9 f.body).all (fun i=>decide (f.ps≤i))=true) (hN:(WT k&&!XN f)=false:=by rfl) :
  Zn T (n+1) k ds=Xi (px (Zn T n) (Z9 f.body) f.body (ds.map some++List.replicate (f.ns - ds.length) none)):=by
 have:Zn T (n+1) k=fnP (Zn T n) f:=by rw [Wj h,if_neg (by rw [hN]; exact Bool.false_ne_true)]
 rw [this]
 exact Zfp hl hM
theorem Ww {f c:P→Option P}{p:P→Bool}{g:P→P}:∀ {xs:List P},(∀ x∈xs,c x=some (.bl (p x)))→(∀ x∈xs,p x=true→f x=some (g x))→Y1 f c xs=some ((xs.filter p).map g)
 | [],_,_=>rfl
 | x :: xs,hc,hf=>by
  have h1:=hc x List.mem_cons_self
  have ih:=Ww (fun y hy=>hc y (List.mem_cons_of_mem _ hy)) (fun y hy=>hf y (List.mem_cons_of_mem _ hy))
  unfold Y1
  rw [h1]
  cases q:p x with
  | true=>
   have h2:=hf x List.mem_cons_self q
   simp only [h2,ih,List.filter_cons,q,if_true,List.map_cons]
  | false=>
   simp only [ih,List.filter_cons,q,Bool.false_eq_true,if_false]
theorem ZfO {xs:List P}:YL false (.tup xs)=some xs:=rfl
theorem Zal {n:Int} (h1:n < 2 ^ 62) (h2:-(2 ^ 62)≤n):YL true (.int n)=some (Z8 n):=by
 have e:W7 true (.int n)=some (Z8 n):=by
  show (if n < 2 ^ 62∧-(2 ^ 62)≤n then some (Z8 n) else none)=_
  rw [if_pos ⟨h1,h2⟩]
 unfold YL
 rw [e]
theorem Q9 {n:Nat} (h:n≤100000):YL true (.int (n:Int))=some (Z8 (n:Int)):=
 Zal (Int.lt_of_le_of_lt (Int.ofNat_le.mpr h) (by decide)) (Int.le_trans (by decide) (Int.natCast_nonneg n))
theorem Uo {n:Int}:(Z8 n).length=n.toNat:=by simp [Z8]
theorem VG {B:P→Zo→Option PFl}{I:Nat→Zo→Prop}:∀ (j k:Nat),(∀ i,k≤i→i < k+j→∀ π,I i π→∃ π',B (.int (i:Int)) π=some (.nx π')∧I (i+1) π')→∀ π,I k π→∃ π',ZD B ((List.range' k j).map fun (i:Nat)=>P.int (i:Int)) π=some (.nx π')∧I (k+j) π'
 | 0,k,_,π,h=>⟨π,rfl,h⟩
 | j+1,k,hb,π,h=>by
  obtain ⟨π1,e1,i1⟩:=hb k (Nat.le_refl _) (by omega) π h
  obtain ⟨π2,e2,i2⟩:=VG j (k+1) (fun i h1 h2=>hb i (by omega) (by omega)) π1 i1
  refine ⟨π2,?_,by rw [show k+(j+1)=k+1+j by omega]; exact i2⟩
  rw [List.range'_succ,List.map_cons,Zs,e1]
  exact e2
theorem XL {B:P→Zo→Option PFl} (I:Nat→Zo→Prop) {m:Nat} (hb:∀ i,i < m→∀ π,I i π→∃ π',B (.int (i:Int)) π=some (.nx π')∧I (i+1) π') {π:Zo} (h:I 0 π):∃ π',ZD B (Z8 (m:Int)) π=some (.nx π')∧I m π':=by
 have:=VG (B:=B) (I:=I) m 0 (fun i _ h2=>hb i (by omega)) π h
 rw [Nat.zero_add] at this
 have e:Z8 (m:Int)=(List.range' 0 m).map fun (i:Nat)=>P.int (i:Int):=by
  unfold Z8
  rw [show ((m:Int)).toNat=m by omega,List.range_eq_range']
 rw [e]; exact this
theorem Us {k:Nat}{n:Nat} (h:pe F it π=some (.int (n:Int))) (h1:n≤100000) (hw:M.contains k=false):px F M (.for1 k true it s) π=ZD (fun d π=>px F M s (Zt π k d)) (Z8 (n:Int)) π:=
 Zdr h (Int.lt_of_le_of_lt (Int.ofNat_le.mpr h1) (by decide)) (Int.le_trans (by decide) (Int.natCast_nonneg n)) hw
mutual
theorem JW:∀ {n:Nat}{x:P},okP n x=true→Wl x x=true
 | _,.non,_=>rfl
 | _,.bl a,_=>by simp [Wl]
 | _,.int a,_=>by simp [Wl]
 | _,.str a,_=>by simp [Wl]
 | 0,.tup a,h=>by simp [okP] at h
 | n+1,.tup a,h=>W6 (n:=n) (x:=a) h
 | _,.lst a b,h=>by simp [okP] at h
 | _,.dct a b,h=>by simp [okP] at h
 | _,.obj a,h=>by simp [okP] at h
 | _,.kt a,h=>by simp [okP] at h
theorem W6:∀ {n:Nat}{x:List P},Vf n x=true→Xj x x=true
 | _,[],_=>rfl
 | n,a :: x,h=>by
  have h:(okP n a&&Vf n x)=true:=h
  rw [Bool.and_eq_true] at h
  show (Wl a a&&Xj x x)=true
  rw [JW h.1,W6 h.2]
  rfl
end
@[simp] theorem ZgT {m m':Bool}{xs:List P}:YE .Eq (.lst m xs) (.lst m' [])=some (.bl xs.isEmpty):=by
 cases xs<;>rfl
@[simp] theorem Zhb {m:Bool}{i j:Int}:rsP true (.lst m [.int i,.int j])=some (.lst true (if j < i then [.int j,.int i] else [.int i,.int j])):=Eq.trans rfl rfl
end
end Dp


namespace Dp
open PySem
noncomputable def c_around:FD:=⟨1,1,(.seq (.ret (.bin .Sub (.bin .Mod (.bin .Add (.var 0) (.cst (.int (1000000000)))) (.cst (.int (2000000000)))) (.cst (.int (1000000000)))))
 .skip)⟩
noncomputable def Zcv:FD:=⟨1,1,(.seq (.ret (.and (.isi .int (.var 0)) (.not (.isi .bool (.var 0)))))
 .skip)⟩
noncomputable def J1:FD:=⟨2,2,(.seq (.ite (.cmp .Eq (.var 1) (.cst (.int (0)))) (.seq (.ret (.cst (.int (0))))
 .skip) .skip)
 (.seq (.ret (.call 0 (.acons (.bin .FloorDiv (.var 0) (.var 1)) .anil) []))
 .skip))⟩
noncomputable def UM:FD:=⟨2,2,(.seq (.ite (.cmp .Eq (.var 1) (.cst (.int (0)))) (.seq (.ret (.var 0))
 .skip) .skip)
 (.seq (.ret (.bin .Sub (.var 0) (.bin .Mult (.var 1) (.bin .FloorDiv (.var 0) (.var 1)))))
 .skip))⟩
noncomputable def ZaM:FD:=⟨3,3,(.seq (.ite (.cmp .Eq (.var 1) (.cst (.str (S "+")))) (.seq (.ret (.call 0 (.acons (.bin .Add (.var 0) (.var 2)) .anil) []))
 .skip) .skip)
 (.seq (.ite (.cmp .Eq (.var 1) (.cst (.str (S "-")))) (.seq (.ret (.call 0 (.acons (.bin .Sub (.var 0) (.var 2)) .anil) []))
 .skip) .skip)
 (.seq (.ite (.cmp .Eq (.var 1) (.cst (.str (S "*")))) (.seq (.ret (.call 0 (.acons (.bin .Mult (.var 0) (.var 2)) .anil) []))
 .skip) .skip)
 (.seq (.ite (.cmp .Eq (.var 1) (.cst (.str (S "/")))) (.seq (.ret (.call 1 (.acons (.var 0) (.acons (.var 2) .anil)) []))
 .skip) .skip)
 (.seq (.ret (.call 2 (.acons (.var 0) (.acons (.var 2) .anil)) []))
 .skip)))))⟩
noncomputable def Zay:FD:=⟨1,2,(.seq (.set 1 (.lstE (.acons (.neg (.cst (.int (1000000000)))) (.acons (.neg (.cst (.int (999999999)))) (.acons (.neg (.cst (.int (2)))) (.acons (.neg (.cst (.int (1)))) (.acons (.cst (.int (0))) (.acons (.cst (.int (1))) (.acons (.cst (.int (2))) (.acons (.cst (.int (999999999))) .anil))))))))))
 (.seq (.ite (.cmp .Eq (.bin .Mod (.var 0) (.cst (.int (3)))) (.cst (.int (0)))) (.seq (.ret (.ix (.var 1) (.bin .Mod (.bin .FloorDiv (.var 0) (.cst (.int (3)))) (.cst (.int (8))))))
 .skip) .skip)
 (.seq (.ite (.cmp .Eq (.bin .Mod (.var 0) (.cst (.int (3)))) (.cst (.int (1)))) (.seq (.ret (.bin .Sub (.bin .Mod (.bin .FloorDiv (.var 0) (.cst (.int (3)))) (.cst (.int (13)))) (.cst (.int (6)))))
 .skip) .skip)
 (.seq (.ret (.bin .Sub (.bin .Mod (.bin .Mult (.bin .FloorDiv (.var 0) (.cst (.int (3)))) (.cst (.int (48271)))) (.cst (.int (2000000000)))) (.cst (.int (1000000000)))))
 .skip))))⟩
noncomputable def Zcu:FD:=⟨1,1,(.seq (.ret (.and (.call 17 (.acons (.var 0) .anil) []) (.and (.cmp .LtE (.neg (.cst (.int (1000000000)))) (.var 0)) (.cmp .LtE (.var 0) (.cst (.int (999999999)))))))
 .skip)⟩
noncomputable def Zcr:FD:=⟨2,2,(.seq (.ite (.cmp .Gt (.var 1) (.cst (.int (0)))) (.seq (.ret (.and (.cmp .LtE (.cst (.int (0))) (.var 0)) (.cmp .Lt (.var 0) (.var 1))))
 .skip) .skip)
 (.seq (.ret (.and (.cmp .Lt (.var 1) (.var 0)) (.cmp .LtE (.var 0) (.cst (.int (0))))))
 .skip))⟩
noncomputable def c_replaced:FD:=⟨3,3,(.seq (.ret (.bin .Add (.bin .Add (.slice (.var 0) .nop (.part (.var 1))) (.tupE (.acons (.var 2) .anil))) (.slice (.var 0) (.part (.bin .Add (.var 1) (.cst (.int (1))))) .nop)))
 .skip)⟩
noncomputable def JN:FD:=⟨3,3,(.seq (.ite (.cmp .Eq (.var 1) (.cst (.str (S "<")))) (.seq (.ret (.cmp .Lt (.var 0) (.var 2)))
 .skip) .skip)
 (.seq (.ite (.cmp .Eq (.var 1) (.cst (.str (S "<=")))) (.seq (.ret (.cmp .LtE (.var 0) (.var 2)))
 .skip) .skip)
 (.seq (.ite (.cmp .Eq (.var 1) (.cst (.str (S "=")))) (.seq (.ret (.cmp .Eq (.var 0) (.var 2)))
 .skip) .skip)
 (.seq (.ite (.cmp .Eq (.var 1) (.cst (.str (S ">=")))) (.seq (.ret (.cmp .GtE (.var 0) (.var 2)))
 .skip) .skip)
 (.seq (.ite (.cmp .Eq (.var 1) (.cst (.str (S ">")))) (.seq (.ret (.cmp .Gt (.var 0) (.var 2)))
 .skip) .skip)
 (.seq (.ret (.cmp .NotEq (.var 0) (.var 2)))
 .skip))))))⟩
noncomputable def ZdO:FD:=⟨2,2,(.seq (.ite (.cmp .Eq (.ix (.var 0) (.cst (.int (0)))) (.cst (.str (S "name")))) (.seq (.ret (.ix (.var 1) (.ix (.var 0) (.cst (.int (1))))))
 .skip) .skip)
 (.seq (.ret (.ix (.var 0) (.cst (.int (1)))))
 .skip))⟩
noncomputable def ZbX:FD:=⟨2,2,(.seq (.ret (.cmp .GtE (.ix (.var 1) (.cst (.int (0)))) (.len (.ix (.var 0) (.cst (.int (2)))))))
 .skip)⟩
noncomputable def Wy:FD:=⟨2,3,(.seq (.ite (.cmp .NotEq (.ix (.var 0) (.cst (.int (0)))) (.cst (.str (S "put")))) (.seq (.ret (.var 1))
 .skip) .skip)
 (.seq (.set 2 (.call 3 (.acons (.call 5 (.acons (.ix (.var 0) (.cst (.int (2)))) (.acons (.var 1) .anil)) []) (.acons (.ix (.var 0) (.cst (.int (3)))) (.acons (.call 5 (.acons (.ix (.var 0) (.cst (.int (4)))) (.acons (.var 1) .anil)) []) .anil))) []))
 (.seq (.ret (.call 42 (.acons (.var 1) (.acons (.ix (.var 0) (.cst (.int (1)))) (.acons (.var 2) .anil))) []))
 .skip)))⟩
noncomputable def WU:FD:=⟨3,3,(.seq (.ite (.cmp .Eq (.ix (.var 0) (.cst (.int (0)))) (.cst (.str (S "go")))) (.seq (.ret (.ix (.var 0) (.cst (.int (1)))))
 .skip) .skip)
 (.seq (.ite (.and (.cmp .Eq (.ix (.var 0) (.cst (.int (0)))) (.cst (.str (S "if")))) (.call 4 (.acons (.call 5 (.acons (.ix (.var 0) (.cst (.int (1)))) (.acons (.var 2) .anil)) []) (.acons (.ix (.var 0) (.cst (.int (2)))) (.acons (.call 5 (.acons (.ix (.var 0) (.cst (.int (3)))) (.acons (.var 2) .anil)) []) .anil))) [])) (.seq (.ret (.ix (.var 0) (.cst (.int (4)))))
 .skip) .skip)
 (.seq (.ret (.bin .Add (.var 1) (.cst (.int (1)))))
 .skip)))⟩
noncomputable def ZcU:FD:=⟨2,5,(.seq (.ite (.call 7 (.acons (.var 0) (.acons (.var 1) .anil)) []) (.seq (.ret (.tupE (.acons (.cst (.str (S "none"))) .anil)))
 .skip) .skip)
 (.seq (.set 2 (.ix (.var 1) (.cst (.int (0)))))
 (.seq (.set 3 (.ix (.var 1) (.cst (.int (1)))))
 (.seq (.set 4 (.ix (.ix (.var 0) (.cst (.int (2)))) (.var 2)))
 (.seq (.ite (.cmp .Eq (.ix (.var 4) (.cst (.int (0)))) (.cst (.str (S "tell")))) (.seq (.ret (.tupE (.acons (.cst (.str (S "told"))) (.acons (.call 5 (.acons (.ix (.var 4) (.cst (.int (1)))) (.acons (.var 3) .anil)) []) .anil))))
 .skip) .skip)
 (.seq (.ret (.tupE (.acons (.call 9 (.acons (.var 4) (.acons (.var 2) (.acons (.var 3) .anil))) []) (.acons (.call 8 (.acons (.var 4) (.acons (.var 3) .anil)) []) .anil))))
 .skip))))))⟩
noncomputable def Jd:CS:=(.seq (.set 1 (.bin .Mult (.var 1) (.cst (.int (2)))))
 .skip)
noncomputable def ZbT:FD:=⟨1,3,(.seq (.set 1 (.cst (.int (1))))
 (.seq (.for1 2 true (.var 0) Jd)
 (.seq (.ret (.var 1))
 .skip)))⟩
noncomputable def ZdT:FD:=⟨2,2,(.seq (.ret (.tupE (.acons (.cst (.int (0))) (.acons (.bin .Add (.var 1) (.bin .Mult (.tupE (.acons (.cst (.int (0))) .anil)) (.bin .Sub (.ix (.var 0) (.cst (.int (1)))) (.len (.var 1))))) .anil))))
 .skip)⟩
noncomputable def Uj:FD:=⟨1,1,(.seq (.ret (.isi .str (.ix (.var 0) (.cst (.int (0))))))
 .skip)⟩
noncomputable def Zan:CS:=(.seq (.set 6 (.call 10 (.acons (.var 0) (.acons (.var 3) .anil)) []))
 (.seq (.app 4 (.var 6))
 (.seq (.ite (.call 11 (.acons (.var 6) .anil) []) (.seq (.ret (.tupleOf (.var 4)))
 .skip) .skip)
 (.seq (.set 3 (.var 6))
 .skip))))
noncomputable def ZdK:FD:=⟨3,7,(.seq (.set 3 (.call 6 (.acons (.var 0) (.acons (.var 1) .anil)) []))
 (.seq (.set 4 (.lstE (.acons (.var 3) .anil)))
 (.seq (.for1 5 true (.var 2) Zan)
 (.seq (.app 4 (.ife (.call 7 (.acons (.var 0) (.acons (.var 3) .anil)) []) (.tupE (.acons (.cst (.str (S "none"))) .anil)) (.tupE (.acons (.cst (.str (S "late"))) .anil))))
 (.seq (.ret (.tupleOf (.var 4)))
 .skip)))))⟩
noncomputable def Zao:FD:=⟨3,3,(.seq (.ret (.ix (.call 12 (.acons (.var 0) (.acons (.var 1) (.acons (.var 2) .anil))) []) (.neg (.cst (.int (1))))))
 .skip)⟩
noncomputable def WB:CE:=(.comp false [] (.var 1) (.ix (.var 0) (.cst (.int (0)))) (.cst (.bl true)))
noncomputable def Vn:FD:=⟨1,2,(.seq (.set 1 (.slice (.var 0) .nop (.part (.neg (.cst (.int (1)))))))
 (.seq (.ite (.cmp .NotEq (.ix (.ix (.var 0) (.neg (.cst (.int (1))))) (.cst (.int (0)))) (.cst (.str (S "told")))) (.seq (.set 1 (.slice (.var 1) .nop (.part (.neg (.cst (.int (1)))))))
 .skip) .skip)
 (.seq (.ret WB)
 .skip)))⟩
noncomputable def U7:CS:=(.seq (.set 1 (.bin .BitOr (.var 1) (.call 43 (.acons (.var 2) .anil) [])))
 .skip)
noncomputable def Zat:FD:=⟨1,3,(.seq (.set 1 (.cst (.int (0))))
 (.seq (.for1 2 false (.call 14 (.acons (.var 0) .anil) []) U7)
 (.seq (.ret (.var 1))
 .skip)))⟩
noncomputable def Zfm:FD:=⟨3,3,(.seq (.ret (.call 44 (.acons (.call 12 (.acons (.var 0) (.acons (.var 1) (.acons (.var 2) .anil))) []) .anil) []))
 .skip)⟩
noncomputable def Vg:FD:=⟨2,2,(.seq (.ret (.and (.cmp .Eq (.ix (.var 0) (.cst (.int (0)))) (.cst (.str (S "number")))) (.cmp .Eq (.ix (.var 1) (.cst (.int (0)))) (.cst (.str (S "number"))))))
 .skip)⟩
noncomputable def WL:FD:=⟨3,3,(.seq (.ite (.cmp .Lt (.ix (.var 0) (.var 2)) (.ix (.var 0) (.var 1))) (.seq (.ret (.call 42 (.acons (.call 42 (.acons (.var 0) (.acons (.var 1) (.acons (.ix (.var 0) (.var 2)) .anil))) []) (.acons (.var 2) (.acons (.ix (.var 0) (.var 1)) .anil))) []))
 .skip) .skip)
 (.seq (.ret (.var 0))
 .skip))⟩
noncomputable def W2:FD:=⟨1,1,(.seq (.ite (.and (.cmp .Eq (.ix (.var 0) (.cst (.int (3)))) (.cst (.str (S "-")))) (.cmp .Eq (.ix (.ix (.var 0) (.cst (.int (4)))) (.cst (.int (0)))) (.cst (.str (S "number"))))) (.seq (.ret (.bin .Add (.slice (.var 0) .nop (.part (.cst (.int (3))))) (.tupE (.acons (.cst (.str (S "+"))) (.acons (.tupE (.acons (.cst (.str (S "number"))) (.acons (.call 0 (.acons (.neg (.ix (.ix (.var 0) (.cst (.int (4)))) (.cst (.int (1))))) .anil) []) .anil))) .anil)))))
 .skip) .skip)
 (.seq (.ret (.var 0))
 .skip))⟩
noncomputable def XA:FD:=⟨1,4,(.seq (.set 1 (.ix (.var 0) (.cst (.int (2)))))
 (.seq (.set 2 (.ix (.var 0) (.cst (.int (3)))))
 (.seq (.set 3 (.ix (.var 0) (.cst (.int (4)))))
 (.seq (.ite (.or (.and (.cmp .Eq (.var 2) (.cst (.str (S "*")))) (.cmp .Eq (.var 3) (.cst (.tup [(.str (S "number")),(.int (0))])))) (.or (.and (.cmp .Eq (.var 2) (.cst (.str (S "mod")))) (.cmp .Eq (.var 3) (.cst (.tup [(.str (S "number")),(.int (1))])))) (.and (.cmp .Eq (.var 2) (.cst (.str (S "-")))) (.cmp .Eq (.var 1) (.var 3))))) (.seq (.ret (.tupE (.acons (.cst (.str (S "put"))) (.acons (.ix (.var 0) (.cst (.int (1)))) (.acons (.cst (.tup [(.str (S "number")),(.int (0))])) (.acons (.cst (.str (S "+"))) (.acons (.cst (.tup [(.str (S "number")),(.int (0))])) .anil)))))))
 .skip) .skip)
 (.seq (.ite (.and (.cmp .In (.var 2) (.tupE (.acons (.cst (.str (S "*"))) (.acons (.cst (.str (S "/"))) .anil)))) (.cmp .Eq (.var 3) (.cst (.tup [(.str (S "number")),(.int (1))])))) (.seq (.ret (.tupE (.acons (.cst (.str (S "put"))) (.acons (.ix (.var 0) (.cst (.int (1)))) (.acons (.var 1) (.acons (.cst (.str (S "+"))) (.acons (.cst (.tup [(.str (S "number")),(.int (0))])) .anil)))))))
 .skip) .skip)
 (.seq (.ret (.var 0))
 .skip))))))⟩
noncomputable def Q7:FD:=⟨1,1,(.seq (.ite (.call 73 (.acons (.ix (.var 0) (.cst (.int (2)))) (.acons (.ix (.var 0) (.cst (.int (4)))) .anil)) []) (.seq (.ret (.tupE (.acons (.cst (.str (S "put"))) (.acons (.ix (.var 0) (.cst (.int (1)))) (.acons (.tupE (.acons (.cst (.str (S "number"))) (.acons (.call 3 (.acons (.ix (.ix (.var 0) (.cst (.int (2)))) (.cst (.int (1)))) (.acons (.ix (.var 0) (.cst (.int (3)))) (.acons (.ix (.ix (.var 0) (.cst (.int (4)))) (.cst (.int (1)))) .anil))) []) .anil))) (.acons (.cst (.str (S "+"))) (.acons (.cst (.tup [(.str (S "number")),(.int (0))])) .anil)))))))
 .skip) .skip)
 (.seq (.set 0 (.call 75 (.acons (.var 0) .anil) []))
 (.seq (.ite (.cmp .In (.ix (.var 0) (.cst (.int (3)))) (.tupE (.acons (.cst (.str (S "+"))) (.acons (.cst (.str (S "*"))) .anil)))) (.seq (.set 0 (.call 74 (.acons (.var 0) (.acons (.cst (.int (2))) (.acons (.cst (.int (4))) .anil))) []))
 .skip) .skip)
 (.seq (.set 0 (.call 76 (.acons (.var 0) .anil) []))
 (.seq (.ite (.cmp .Eq (.var 0) (.tupE (.acons (.cst (.str (S "put"))) (.acons (.ix (.var 0) (.cst (.int (1)))) (.acons (.tupE (.acons (.cst (.str (S "name"))) (.acons (.ix (.var 0) (.cst (.int (1)))) .anil))) (.acons (.cst (.str (S "+"))) (.acons (.cst (.tup [(.str (S "number")),(.int (0))])) .anil))))))) (.seq (.ret (.cst (.tup [(.str (S "skip"))])))
 .skip) .skip)
 (.seq (.ret (.var 0))
 .skip))))))⟩
noncomputable def X0:FD:=⟨1,1,(.seq (.ite (.cmp .Eq (.ix (.var 0) (.cst (.int (2)))) (.cst (.str (S ">")))) (.seq (.ret (.tupE (.acons (.cst (.str (S "if"))) (.acons (.ix (.var 0) (.cst (.int (3)))) (.acons (.cst (.str (S "<"))) (.acons (.ix (.var 0) (.cst (.int (1)))) (.acons (.ix (.var 0) (.cst (.int (4)))) .anil)))))))
 .skip) .skip)
 (.seq (.ite (.cmp .Eq (.ix (.var 0) (.cst (.int (2)))) (.cst (.str (S ">=")))) (.seq (.ret (.tupE (.acons (.cst (.str (S "if"))) (.acons (.ix (.var 0) (.cst (.int (3)))) (.acons (.cst (.str (S "<="))) (.acons (.ix (.var 0) (.cst (.int (1)))) (.acons (.ix (.var 0) (.cst (.int (4)))) .anil)))))))
 .skip) .skip)
 (.seq (.ret (.var 0))
 .skip)))⟩
noncomputable def V2:FD:=⟨1,1,(.seq (.ret (.or (.call 73 (.acons (.ix (.var 0) (.cst (.int (1)))) (.acons (.ix (.var 0) (.cst (.int (3)))) .anil)) []) (.cmp .Eq (.ix (.var 0) (.cst (.int (1)))) (.ix (.var 0) (.cst (.int (3)))))))
 .skip)⟩
noncomputable def Zax:FD:=⟨1,2,(.seq (.set 1 (.call 4 (.acons (.ix (.ix (.var 0) (.cst (.int (1)))) (.cst (.int (1)))) (.acons (.ix (.var 0) (.cst (.int (2)))) (.acons (.ix (.ix (.var 0) (.cst (.int (3)))) (.cst (.int (1)))) .anil))) []))
 (.seq (.ret (.ife (.var 1) (.tupE (.acons (.cst (.str (S "go"))) (.acons (.ix (.var 0) (.cst (.int (4)))) .anil))) (.cst (.tup [(.str (S "skip"))]))))
 .skip))⟩
noncomputable def WN:FD:=⟨1,3,(.seq (.set 1 (.ix (.var 0) (.cst (.int (1)))))
 (.seq (.set 2 (.ix (.var 0) (.cst (.int (3)))))
 (.seq (.ite (.cmp .NotEq (.ix (.var 0) (.cst (.int (2)))) (.cst (.str (S "<=")))) (.seq (.ret (.var 0))
 .skip) .skip)
 (.seq (.ite (.and (.cmp .Eq (.ix (.var 2) (.cst (.int (0)))) (.cst (.str (S "number")))) (.cmp .Lt (.ix (.var 2) (.cst (.int (1)))) (.cst (.int (999999999))))) (.seq (.ret (.tupE (.acons (.cst (.str (S "if"))) (.acons (.var 1) (.acons (.cst (.str (S "<"))) (.acons (.tupE (.acons (.cst (.str (S "number"))) (.acons (.bin .Add (.ix (.var 2) (.cst (.int (1)))) (.cst (.int (1)))) .anil))) (.acons (.ix (.var 0) (.cst (.int (4)))) .anil)))))))
 .skip) .skip)
 (.seq (.ite (.and (.cmp .Eq (.ix (.var 1) (.cst (.int (0)))) (.cst (.str (S "number")))) (.cmp .Gt (.ix (.var 1) (.cst (.int (1)))) (.cst (.int (-1000000000))))) (.seq (.ret (.tupE (.acons (.cst (.str (S "if"))) (.acons (.tupE (.acons (.cst (.str (S "number"))) (.acons (.bin .Sub (.ix (.var 1) (.cst (.int (1)))) (.cst (.int (1)))) .anil))) (.acons (.cst (.str (S "<"))) (.acons (.var 2) (.acons (.ix (.var 0) (.cst (.int (4)))) .anil)))))))
 .skip) .skip)
 (.seq (.ret (.var 0))
 .skip))))))⟩
noncomputable def JP:FD:=⟨2,2,(.seq (.ite (.cmp .Eq (.ix (.var 0) (.cst (.int (4)))) (.bin .Add (.var 1) (.cst (.int (1))))) (.seq (.ret (.cst (.tup [(.str (S "skip"))])))
 .skip) .skip)
 (.seq (.set 0 (.call 78 (.acons (.var 0) .anil) []))
 (.seq (.ite (.call 79 (.acons (.var 0) .anil) []) (.seq (.ret (.call 80 (.acons (.var 0) .anil) []))
 .skip) .skip)
 (.seq (.ite (.cmp .In (.ix (.var 0) (.cst (.int (2)))) (.tupE (.acons (.cst (.str (S "="))) (.acons (.cst (.str (S "!="))) .anil)))) (.seq (.set 0 (.call 74 (.acons (.var 0) (.acons (.cst (.int (1))) (.acons (.cst (.int (3))) .anil))) []))
 .skip) .skip)
 (.seq (.ret (.call 81 (.acons (.var 0) .anil) []))
 .skip)))))⟩
noncomputable def Jh:FD:=⟨2,2,(.seq (.ite (.cmp .Eq (.ix (.var 0) (.cst (.int (0)))) (.cst (.str (S "put")))) (.seq (.ret (.call 77 (.acons (.var 0) .anil) []))
 .skip) .skip)
 (.seq (.ite (.cmp .Eq (.ix (.var 0) (.cst (.int (0)))) (.cst (.str (S "if")))) (.seq (.ret (.call 82 (.acons (.var 0) (.acons (.var 1) .anil)) []))
 .skip) .skip)
 (.seq (.ite (.cmp .Eq (.var 0) (.tupE (.acons (.cst (.str (S "go"))) (.acons (.bin .Add (.var 1) (.cst (.int (1)))) .anil)))) (.seq (.ret (.cst (.tup [(.str (S "skip"))])))
 .skip) .skip)
 (.seq (.ret (.var 0))
 .skip))))⟩
noncomputable def c__law_cell_at_k25:FD:=⟨2,2,(.seq (.ite (.cmp .Lt (.var 1) (.len (.var 0))) (.seq (.ret (.ix (.var 0) (.var 1)))
 .skip) .skip)
 (.seq (.ret (.cst (.int (0))))
 .skip))⟩
noncomputable def c__law_number_by_k25:FD:=⟨1,1,(.seq (.ite (.cmp .Eq (.bin .Mod (.var 0) (.cst (.int (3)))) (.cst (.int (0)))) (.seq (.ret (.ix (.lstE (.acons (.neg (.cst (.int (1000000000)))) (.acons (.cst (.int (999999999))) (.acons (.neg (.cst (.int (1)))) (.acons (.cst (.int (0))) (.acons (.cst (.int (1))) (.acons (.cst (.int (2))) (.acons (.neg (.cst (.int (999999999)))) (.acons (.cst (.int (999999998))) .anil))))))))) (.bin .Mod (.bin .FloorDiv (.var 0) (.cst (.int (3)))) (.cst (.int (8))))))
 .skip) .skip)
 (.seq (.ret (.bin .Sub (.bin .Mod (.bin .Mult (.bin .FloorDiv (.var 0) (.cst (.int (3)))) (.cst (.int (48271)))) (.cst (.int (2000000000)))) (.cst (.int (1000000000)))))
 .skip))⟩
noncomputable def c__law_operand_by:FD:=⟨2,2,(.seq (.ite (.and (.cmp .Gt (.var 1) (.cst (.int (0)))) (.cmp .Lt (.bin .Mod (.var 0) (.cst (.int (5)))) (.cst (.int (3))))) (.seq (.ret (.tupE (.acons (.cst (.str (S "name"))) (.acons (.bin .Mod (.bin .FloorDiv (.var 0) (.cst (.int (5)))) (.var 1)) .anil))))
 .skip) .skip)
 (.seq (.ret (.tupE (.acons (.cst (.str (S "number"))) (.acons (.call 18 (.acons (.bin .FloorDiv (.var 0) (.cst (.int (5)))) .anil) []) .anil))))
 .skip))⟩
noncomputable def XO:FD:=⟨2,5,(.seq (.set 2 (.call 71 (.acons (.ix (.var 0) (.cst (.int (1)))) (.acons (.var 1) .anil)) []))
 (.seq (.set 3 (.call 71 (.acons (.ix (.var 0) (.cst (.int (2)))) (.acons (.var 1) .anil)) []))
 (.seq (.set 4 (.bin .Mod (.bin .FloorDiv (.ix (.var 0) (.cst (.int (3)))) (.cst (.int (65)))) (.cst (.int (6)))))
 (.seq (.ite (.cmp .Eq (.var 4) (.cst (.int (1)))) (.seq (.ret (.tupE (.acons (.var 2) (.acons (.var 2) .anil))))
 .skip) .skip)
 (.seq (.ite (.and (.cmp .Eq (.var 4) (.cst (.int (3)))) (.cmp .Gt (.var 1) (.cst (.int (0))))) (.seq (.ret (.tupE (.acons (.tupE (.acons (.cst (.str (S "name"))) (.acons (.bin .Mod (.bin .Mod (.ix (.var 0) (.cst (.int (3)))) (.cst (.int (5)))) (.var 1)) .anil))) (.acons (.tupE (.acons (.cst (.str (S "number"))) (.acons (.bin .Mod (.ix (.var 0) (.cst (.int (2)))) (.cst (.int (2)))) .anil))) .anil))))
 .skip) .skip)
 (.seq (.ite (.cmp .Eq (.var 4) (.cst (.int (4)))) (.seq (.ret (.tupE (.acons (.var 2) (.acons (.tupE (.acons (.cst (.str (S "number"))) (.acons (.bin .Mod (.ix (.var 0) (.cst (.int (2)))) (.cst (.int (2)))) .anil))) .anil))))
 .skip) .skip)
 (.seq (.ite (.cmp .Eq (.var 4) (.cst (.int (5)))) (.seq (.ret (.tupE (.acons (.tupE (.acons (.cst (.str (S "number"))) (.acons (.bin .Mod (.ix (.var 0) (.cst (.int (1)))) (.cst (.int (2)))) .anil))) (.acons (.var 3) .anil))))
 .skip) .skip)
 (.seq (.ret (.tupE (.acons (.var 2) (.acons (.var 3) .anil))))
 .skip))))))))⟩
noncomputable def Vo:FD:=⟨4,8,(.seq (.set2 4 5 (.call 84 (.acons (.var 0) (.acons (.var 1) .anil)) []))
 (.seq (.set 6 (.bin .Mod (.bin .FloorDiv (.ix (.var 0) (.cst (.int (3)))) (.cst (.int (5)))) (.bin .Add (.var 2) (.cst (.int (1))))))
 (.seq (.ite (.cmp .Eq (.bin .Mod (.bin .FloorDiv (.ix (.var 0) (.cst (.int (3)))) (.cst (.int (65)))) (.cst (.int (6)))) (.cst (.int (2)))) (.seq (.set 6 (.bin .Add (.var 3) (.cst (.int (1)))))
 .skip) .skip)
 (.seq (.set 7 (.bin .FloorDiv (.ix (.var 0) (.cst (.int (0)))) (.cst (.int (8)))))
 (.seq (.ite (.and (.cmp .Lt (.bin .Mod (.ix (.var 0) (.cst (.int (0)))) (.cst (.int (8)))) (.cst (.int (3)))) (.cmp .Gt (.var 1) (.cst (.int (0))))) (.seq (.ret (.tupE (.acons (.cst (.str (S "put"))) (.acons (.bin .Mod (.bin .Mod (.ix (.var 0) (.cst (.int (3)))) (.cst (.int (5)))) (.var 1)) (.acons (.var 4) (.acons (.ix (.lstE (.acons (.cst (.str (S "+"))) (.acons (.cst (.str (S "-"))) (.acons (.cst (.str (S "*"))) (.acons (.cst (.str (S "/"))) (.acons (.cst (.str (S "mod"))) .anil)))))) (.bin .Mod (.var 7) (.cst (.int (5))))) (.acons (.var 5) .anil)))))))
 .skip) .skip)
 (.seq (.ite (.cmp .Lt (.bin .Mod (.ix (.var 0) (.cst (.int (0)))) (.cst (.int (8)))) (.cst (.int (5)))) (.seq (.ret (.tupE (.acons (.cst (.str (S "if"))) (.acons (.var 4) (.acons (.ix (.lstE (.acons (.cst (.str (S "<"))) (.acons (.cst (.str (S "<="))) (.acons (.cst (.str (S "="))) (.acons (.cst (.str (S ">="))) (.acons (.cst (.str (S ">"))) (.acons (.cst (.str (S "!="))) .anil))))))) (.bin .Mod (.var 7) (.cst (.int (6))))) (.acons (.var 5) (.acons (.var 6) .anil)))))))
 .skip) .skip)
 (.seq (.ite (.cmp .Eq (.bin .Mod (.ix (.var 0) (.cst (.int (0)))) (.cst (.int (8)))) (.cst (.int (5)))) (.seq (.ret (.tupE (.acons (.cst (.str (S "go"))) (.acons (.var 6) .anil))))
 .skip) .skip)
 (.seq (.ite (.cmp .Eq (.bin .Mod (.ix (.var 0) (.cst (.int (0)))) (.cst (.int (8)))) (.cst (.int (6)))) (.seq (.ret (.tupE (.acons (.cst (.str (S "tell"))) (.acons (.var 4) .anil))))
 .skip) .skip)
 (.seq (.ret (.tupE (.acons (.cst (.str (S "skip"))) .anil)))
 .skip)))))))))⟩
noncomputable def Ye:CE:=(.comp true [1,0] (.len (.var 1)) (.var 0) (.not (.call 36 (.acons (.ix (.var 2) (.var 0)) (.acons (.ix (.var 1) (.var 0)) .anil)) [])))
noncomputable def c__law_alike_k26:FD:=⟨2,2,(.seq (.ite (.isi .tuple (.var 1)) (.seq (.ite (.or (.not (.isi .tuple (.var 0))) (.cmp .NotEq (.len (.var 0)) (.len (.var 1)))) (.seq (.ret (.cst (.bl false)))
 .skip) .skip)
 (.seq (.ret (.cmp .Eq Ye (.lstE .anil)))
 .skip)) .skip)
 (.seq (.ite (.isi .str (.var 1)) (.seq (.ret (.and (.isi .str (.var 0)) (.cmp .Eq (.var 0) (.var 1))))
 .skip) .skip)
 (.seq (.ret (.and (.isi .int (.var 0)) (.and (.not (.isi .bool (.var 0))) (.cmp .Eq (.var 0) (.var 1)))))
 .skip)))⟩
noncomputable def c_operand_places:FD:=⟨1,1,(.seq (.ret (.look [(S "put"),(S "if"),(S "tell"),(S "go"),(S "skip")] [(.tup [(.int (2)),(.int (4))]),(.tup [(.int (1)),(.int (3))]),(.tup [(.int (1))]),(.tup []),(.tup [])] (.ix (.var 0) (.cst (.int (0))))))
 .skip)⟩
noncomputable def c_Step_word:FD:=⟨1,1,(.seq (.ret (.cst (.str (S "none"))))
 .skip)⟩
noncomputable def c_Step_turned:FD:=⟨3,3,(.seq (.ret (.tupE .anil))
 .skip)⟩
noncomputable def c_More_word:FD:=⟨1,1,(.seq (.ret (.cst (.str (S "more"))))
 .skip)⟩
noncomputable def Yp:CS:=(.seq (.ite (.cmp .Eq (.ix (.ix (.var 1) (.var 4)) (.cst (.int (0)))) (.cst (.str (S "number")))) (.seq (.app 3 (.call 42 (.acons (.var 1) (.acons (.var 4) (.acons (.tupE (.acons (.cst (.str (S "number"))) (.acons (.call 0 (.acons (.bin .Add (.ix (.ix (.var 1) (.var 4)) (.cst (.int (1)))) (.cst (.int (1)))) .anil) []) .anil))) .anil))) []))
 .skip) .skip)
 .skip)
noncomputable def c_More_turned:FD:=⟨3,5,(.seq (.set 3 (.lstE .anil))
 (.seq (.for1 4 false (.call 113 (.acons (.var 1) .anil) []) Yp)
 (.seq (.ret (.tupleOf (.var 3)))
 .skip)))⟩
noncomputable def c_Out_word:FD:=⟨1,1,(.seq (.ret (.cst (.str (S "out"))))
 .skip)⟩
noncomputable def c_Out_turned:FD:=⟨3,3,(.seq (.ite (.cmp .Eq (.ix (.var 1) (.cst (.int (0)))) (.cst (.str (S "skip")))) (.seq (.ret (.tupE .anil))
 .skip) .skip)
 (.seq (.ret (.tupE (.acons (.tupE (.acons (.cst (.str (S "skip"))) .anil)) .anil)))
 .skip))⟩
noncomputable def c_Turn_word:FD:=⟨1,1,(.seq (.ret (.cst (.str (S "turn"))))
 .skip)⟩
noncomputable def c_Turn_turned:FD:=⟨3,3,(.seq (.ite (.cmp .NotEq (.ix (.var 1) (.cst (.int (0)))) (.cst (.str (S "if")))) (.seq (.ret (.tupE .anil))
 .skip) .skip)
 (.seq (.ret (.tupE (.acons (.call 42 (.acons (.var 1) (.acons (.cst (.int (2))) (.acons (.look [(S "<"),(S ">="),(S "<="),(S ">"),(S "="),(S "!=")] [(.str (S ">=")),(.str (S "<")),(.str (S ">")),(.str (S "<=")),(.str (S "!=")),(.str (S "="))] (.ix (.var 1) (.cst (.int (2))))) .anil))) []) .anil)))
 .skip))⟩
noncomputable def c_Swap_word:FD:=⟨1,1,(.seq (.ret (.cst (.str (S "swap"))))
 .skip)⟩
noncomputable def c_Swap_turned:FD:=⟨3,3,(.seq (.ite (.and (.cmp .Eq (.ix (.var 1) (.cst (.int (0)))) (.cst (.str (S "put")))) (.cmp .NotEq (.ix (.var 1) (.cst (.int (2)))) (.ix (.var 1) (.cst (.int (4)))))) (.seq (.ret (.tupE (.acons (.tupE (.acons (.cst (.str (S "put"))) (.acons (.ix (.var 1) (.cst (.int (1)))) (.acons (.ix (.var 1) (.cst (.int (4)))) (.acons (.ix (.var 1) (.cst (.int (3)))) (.acons (.ix (.var 1) (.cst (.int (2)))) .anil)))))) .anil)))
 .skip) .skip)
 (.seq (.ite (.and (.cmp .Eq (.ix (.var 1) (.cst (.int (0)))) (.cst (.str (S "if")))) (.cmp .NotEq (.ix (.var 1) (.cst (.int (1)))) (.ix (.var 1) (.cst (.int (3)))))) (.seq (.ret (.tupE (.acons (.tupE (.acons (.cst (.str (S "if"))) (.acons (.ix (.var 1) (.cst (.int (3)))) (.acons (.ix (.var 1) (.cst (.int (2)))) (.acons (.ix (.var 1) (.cst (.int (1)))) (.acons (.ix (.var 1) (.cst (.int (4)))) .anil)))))) .anil)))
 .skip) .skip)
 (.seq (.ret (.tupE .anil))
 .skip)))⟩
noncomputable def c_Far_word:FD:=⟨1,1,(.seq (.ret (.cst (.str (S "far"))))
 .skip)⟩
noncomputable def c_Far_turned:FD:=⟨3,3,(.seq (.ite (.or (.cmp .NotIn (.ix (.var 1) (.cst (.int (0)))) (.tupE (.acons (.cst (.str (S "go"))) (.acons (.cst (.str (S "if"))) .anil)))) (.cmp .GtE (.ix (.var 1) (.neg (.cst (.int (1))))) (.var 2))) (.seq (.ret (.tupE .anil))
 .skip) .skip)
 (.seq (.ret (.tupE (.acons (.bin .Add (.slice (.var 1) .nop (.part (.neg (.cst (.int (1)))))) (.tupE (.acons (.bin .Add (.ix (.var 1) (.neg (.cst (.int (1))))) (.cst (.int (1)))) .anil))) .anil)))
 .skip))⟩
noncomputable def c__law_row_by_k22:FD:=⟨3,7,(.seq (.set 3 (.call 71 (.acons (.ix (.var 0) (.cst (.int (1)))) (.acons (.var 1) .anil)) []))
 (.seq (.set 4 (.call 71 (.acons (.ix (.var 0) (.cst (.int (2)))) (.acons (.var 1) .anil)) []))
 (.seq (.set 5 (.bin .Mod (.bin .FloorDiv (.ix (.var 0) (.cst (.int (3)))) (.cst (.int (5)))) (.bin .Add (.var 2) (.cst (.int (1))))))
 (.seq (.ite (.cmp .Eq (.bin .Mod (.bin .FloorDiv (.ix (.var 0) (.cst (.int (3)))) (.cst (.int (65)))) (.cst (.int (6)))) (.cst (.int (1)))) (.seq (.set 4 (.var 3))
 .skip) .skip)
 (.seq (.ite (.cmp .Eq (.bin .Mod (.bin .FloorDiv (.ix (.var 0) (.cst (.int (3)))) (.cst (.int (65)))) (.cst (.int (6)))) (.cst (.int (2)))) (.seq (.set 5 (.var 2))
 .skip) .skip)
 (.seq (.set 6 (.bin .FloorDiv (.ix (.var 0) (.cst (.int (0)))) (.cst (.int (8)))))
 (.seq (.ite (.and (.cmp .Lt (.bin .Mod (.ix (.var 0) (.cst (.int (0)))) (.cst (.int (8)))) (.cst (.int (3)))) (.cmp .Gt (.var 1) (.cst (.int (0))))) (.seq (.ret (.tupE (.acons (.cst (.str (S "put"))) (.acons (.bin .Mod (.bin .Mod (.ix (.var 0) (.cst (.int (3)))) (.cst (.int (5)))) (.var 1)) (.acons (.var 3) (.acons (.ix (.lstE (.acons (.cst (.str (S "+"))) (.acons (.cst (.str (S "-"))) (.acons (.cst (.str (S "*"))) (.acons (.cst (.str (S "/"))) (.acons (.cst (.str (S "mod"))) .anil)))))) (.bin .Mod (.var 6) (.cst (.int (5))))) (.acons (.var 4) .anil)))))))
 .skip) .skip)
 (.seq (.ite (.cmp .Lt (.bin .Mod (.ix (.var 0) (.cst (.int (0)))) (.cst (.int (8)))) (.cst (.int (5)))) (.seq (.ret (.tupE (.acons (.cst (.str (S "if"))) (.acons (.var 3) (.acons (.ix (.lstE (.acons (.cst (.str (S "<"))) (.acons (.cst (.str (S "<="))) (.acons (.cst (.str (S "="))) (.acons (.cst (.str (S ">="))) (.acons (.cst (.str (S ">"))) (.acons (.cst (.str (S "!="))) .anil))))))) (.bin .Mod (.var 6) (.cst (.int (6))))) (.acons (.var 4) (.acons (.var 5) .anil)))))))
 .skip) .skip)
 (.seq (.ite (.cmp .Eq (.bin .Mod (.ix (.var 0) (.cst (.int (0)))) (.cst (.int (8)))) (.cst (.int (5)))) (.seq (.ret (.tupE (.acons (.cst (.str (S "go"))) (.acons (.var 5) .anil))))
 .skip) .skip)
 (.seq (.ite (.cmp .Eq (.bin .Mod (.ix (.var 0) (.cst (.int (0)))) (.cst (.int (8)))) (.cst (.int (6)))) (.seq (.ret (.tupE (.acons (.cst (.str (S "tell"))) (.acons (.var 3) .anil))))
 .skip) .skip)
 (.seq (.ret (.tupE (.acons (.cst (.str (S "skip"))) .anil)))
 .skip)))))))))))⟩
noncomputable def c_behind:FD:=⟨2,2,(.seq (.ret (.ix (.var 0) (.bin .Mod (.bin .Add (.tix (.var 0) (.acons (.var 1) .anil)) (.cst (.int (1)))) (.len (.var 0)))))
 .skip)⟩
noncomputable def c_Sign_word:FD:=⟨1,1,(.seq (.ret (.cst (.str (S "sign"))))
 .skip)⟩
noncomputable def c_Sign_turned:FD:=⟨3,3,(.seq (.ite (.cmp .Eq (.ix (.var 1) (.cst (.int (0)))) (.cst (.str (S "put")))) (.seq (.ret (.tupE (.acons (.call 42 (.acons (.var 1) (.acons (.cst (.int (3))) (.acons (.call 70 (.acons (.cst (.kt [(S "+"),(S "-"),(S "*"),(S "/"),(S "mod")])) (.acons (.ix (.var 1) (.cst (.int (3)))) .anil)) []) .anil))) []) .anil)))
 .skip) .skip)
 (.seq (.ite (.cmp .Eq (.ix (.var 1) (.cst (.int (0)))) (.cst (.str (S "if")))) (.seq (.ret (.tupE (.acons (.call 42 (.acons (.var 1) (.acons (.cst (.int (2))) (.acons (.call 70 (.acons (.cst (.kt [(S "<"),(S "<="),(S "="),(S ">="),(S ">"),(S "!=")])) (.acons (.ix (.var 1) (.cst (.int (2)))) .anil)) []) .anil))) []) .anil)))
 .skip) .skip)
 (.seq (.ret (.tupE .anil))
 .skip)))⟩
noncomputable def Vr:CE:=(.comp false [4,6] (.meth [(146,148),(169,171),(149,151),(157,159),(152,154),(160,162),(163,165)] (.var 6) (.acons (.var 5) (.acons (.len (.var 1)) .anil))) (.tupE (.acons (.var 1) (.acons (.meth [(146,147),(169,170),(149,150),(157,158),(152,153),(160,161),(163,164)] (.var 2) .anil) (.acons (.var 0) .anil)))) (.cst (.bl true)))
noncomputable def Xr:CS:=(.seq (.ext 3 Vr)
 .skip)
noncomputable def YY:CS:=(.seq (.for1 6 false (.var 2) Xr)
 .skip)
noncomputable def c_fakes:FD:=⟨1,7,(.seq (.set 1 (.ix (.var 0) (.cst (.int (2)))))
 (.seq (.set 2 (.lstE (.acons (.new 169) (.acons (.new 149) (.acons (.new 157) (.acons (.new 152) (.acons (.new 160) (.acons (.new 163) .anil))))))))
 (.seq (.set 3 (.lstE .anil))
 (.seq (.forE 4 5 (.var 1) YY)
 (.seq (.ret (.tupleOf (.var 3)))
 .skip)))))⟩
noncomputable def ZZ:CE:=(.comp true [3,0] (.cst (.int (4))) (.call 27 (.acons (.var 2) (.acons (.bin .Add (.bin .Add (.cst (.int (4))) (.bin .Mult (.cst (.int (4))) (.var 1))) (.var 0)) .anil)) []) (.cst (.bl true)))
noncomputable def ZH:CS:=(.seq (.app 6 (.call 72 (.acons ZZ (.acons (.var 1) (.acons (.var 5) .anil))) []))
 .skip)
noncomputable def ZJ:CS:=(.seq (.set 4 (.rs true (.lstE (.acons (.call 18 (.acons (.call 27 (.acons (.var 0) (.acons (.bin .Add (.var 3) (.cst (.int (1)))) .anil)) []) .anil) []) (.acons (.call 18 (.acons (.bin .FloorDiv (.call 27 (.acons (.var 0) (.acons (.bin .Add (.var 3) (.cst (.int (1)))) .anil)) []) (.cst (.int (24)))) .anil) []) .anil)))))
 (.seq (.app 2 (.tupE (.acons (.ix (.var 4) (.cst (.int (0)))) (.acons (.ix (.var 4) (.cst (.int (1)))) .anil))))
 .skip))
noncomputable def c__law_program_k23:FD:=⟨1,7,(.seq (.set 1 (.bin .Mod (.call 27 (.acons (.var 0) (.acons (.cst (.int (0))) .anil)) []) (.cst (.int (6)))))
 (.seq (.set 2 (.lstE .anil))
 (.seq (.for1 3 true (.min (.var 1) (.bin .Mod (.bin .FloorDiv (.call 27 (.acons (.var 0) (.acons (.cst (.int (0))) .anil)) []) (.cst (.int (6)))) (.cst (.int (4))))) ZJ)
 (.seq (.set 5 (.min (.cst (.int (12))) (.bin .FloorDiv (.bin .Sub (.max (.len (.var 0)) (.cst (.int (4)))) (.cst (.int (1)))) (.cst (.int (4))))))
 (.seq (.set 6 (.lstE .anil))
 (.seq (.for1 3 true (.var 5) ZH)
 (.seq (.ret (.tupE (.acons (.tupleOf (.var 2)) (.acons (.var 1) (.acons (.tupleOf (.var 6)) .anil)))))
 .skip)))))))⟩
noncomputable def W8:CS:=(.seq (.ite (.cmp .Eq (.ix (.var 1) (.bin .Sub (.var 2) (.cst (.int (1))))) (.var 0)) (.seq (.ret (.ix (.var 1) (.var 2)))
 .skip) .skip)
 .skip)
noncomputable def c__law_later:FD:=⟨2,3,(.seq (.for1 2 true (.len (.var 1)) W8)
 (.seq (.ret (.var 0))
 .skip))⟩
noncomputable def c__law_sign:FD:=⟨1,1,(.seq (.ite (.cmp .Eq (.ix (.var 0) (.cst (.int (0)))) (.cst (.str (S "put")))) (.seq (.ret (.lstE (.acons (.tupE (.acons (.cst (.str (S "sign"))) (.acons (.bin .Add (.slice (.var 0) .nop (.part (.cst (.int (3))))) (.tupE (.acons (.call 173 (.acons (.ix (.var 0) (.cst (.int (3)))) (.acons (.lstE (.acons (.cst (.str (S "+"))) (.acons (.cst (.str (S "-"))) (.acons (.cst (.str (S "*"))) (.acons (.cst (.str (S "/"))) (.acons (.cst (.str (S "mod"))) .anil)))))) .anil)) []) (.acons (.ix (.var 0) (.cst (.int (4)))) .anil)))) .anil))) .anil)))
 .skip) .skip)
 (.seq (.ite (.cmp .Eq (.ix (.var 0) (.cst (.int (0)))) (.cst (.str (S "if")))) (.seq (.ret (.lstE (.acons (.tupE (.acons (.cst (.str (S "sign"))) (.acons (.bin .Add (.bin .Add (.slice (.var 0) .nop (.part (.cst (.int (2))))) (.tupE (.acons (.call 173 (.acons (.ix (.var 0) (.cst (.int (2)))) (.acons (.lstE (.acons (.cst (.str (S "<"))) (.acons (.cst (.str (S "<="))) (.acons (.cst (.str (S "="))) (.acons (.cst (.str (S ">="))) (.acons (.cst (.str (S ">"))) (.acons (.cst (.str (S "!="))) .anil))))))) .anil)) []) .anil))) (.slice (.var 0) (.part (.cst (.int (3)))) .nop)) .anil))) .anil)))
 .skip) .skip)
 (.seq (.ret (.lstE .anil))
 .skip)))⟩
noncomputable def Zr:CS:=(.seq (.ite (.and (.isi .tuple (.ix (.var 0) (.var 2))) (.cmp .Eq (.ix (.ix (.var 0) (.var 2)) (.cst (.int (0)))) (.cst (.str (S "number"))))) (.seq (.set 3 (.bin .Sub (.bin .Mod (.bin .Add (.ix (.ix (.var 0) (.var 2)) (.cst (.int (1)))) (.cst (.int (1000000001)))) (.cst (.int (2000000000)))) (.cst (.int (1000000000)))))
 (.seq (.app 1 (.tupE (.acons (.cst (.str (S "more"))) (.acons (.bin .Add (.bin .Add (.slice (.var 0) .nop (.part (.var 2))) (.tupE (.acons (.tupE (.acons (.cst (.str (S "number"))) (.acons (.var 3) .anil))) .anil))) (.slice (.var 0) (.part (.bin .Add (.var 2) (.cst (.int (1))))) .nop)) .anil))))
 .skip)) .skip)
 .skip)
noncomputable def c__law_more_k23:FD:=⟨1,4,(.seq (.set 1 (.lstE .anil))
 (.seq (.for3 2 (.acons (.cst (.int (1))) (.acons (.len (.var 0)) .anil)) Zr)
 (.seq (.ret (.var 1))
 .skip)))⟩
noncomputable def c__law_turn_and_out:FD:=⟨1,3,(.seq (.set 1 (.lstE .anil))
 (.seq (.ite (.cmp .Eq (.ix (.var 0) (.cst (.int (0)))) (.cst (.str (S "if")))) (.seq (.set 2 (.dict [(S "<"),(S "<="),(S "="),(S ">="),(S ">"),(S "!=")] (.acons (.cst (.str (S ">="))) (.acons (.cst (.str (S ">"))) (.acons (.cst (.str (S "!="))) (.acons (.cst (.str (S "<"))) (.acons (.cst (.str (S "<="))) (.acons (.cst (.str (S "="))) .anil))))))))
 (.seq (.app 1 (.tupE (.acons (.cst (.str (S "turn"))) (.acons (.bin .Add (.bin .Add (.slice (.var 0) .nop (.part (.cst (.int (2))))) (.tupE (.acons (.ix (.var 2) (.ix (.var 0) (.cst (.int (2))))) .anil))) (.slice (.var 0) (.part (.cst (.int (3)))) .nop)) .anil))))
 .skip)) .skip)
 (.seq (.ite (.cmp .NotEq (.var 0) (.tupE (.acons (.cst (.str (S "skip"))) .anil))) (.seq (.app 1 (.tupE (.acons (.cst (.str (S "out"))) (.acons (.tupE (.acons (.cst (.str (S "skip"))) .anil)) .anil))))
 .skip) .skip)
 (.seq (.ret (.var 1))
 .skip))))⟩
noncomputable def c__law_swap_and_far:FD:=⟨2,3,(.seq (.set 2 (.lstE .anil))
 (.seq (.ite (.and (.cmp .Eq (.ix (.var 0) (.cst (.int (0)))) (.cst (.str (S "put")))) (.cmp .NotEq (.ix (.var 0) (.cst (.int (2)))) (.ix (.var 0) (.cst (.int (4)))))) (.seq (.app 2 (.tupE (.acons (.cst (.str (S "swap"))) (.acons (.tupE (.acons (.ix (.var 0) (.cst (.int (0)))) (.acons (.ix (.var 0) (.cst (.int (1)))) (.acons (.ix (.var 0) (.cst (.int (4)))) (.acons (.ix (.var 0) (.cst (.int (3)))) (.acons (.ix (.var 0) (.cst (.int (2)))) .anil)))))) .anil))))
 .skip) .skip)
 (.seq (.ite (.and (.cmp .Eq (.ix (.var 0) (.cst (.int (0)))) (.cst (.str (S "if")))) (.cmp .NotEq (.ix (.var 0) (.cst (.int (1)))) (.ix (.var 0) (.cst (.int (3)))))) (.seq (.app 2 (.tupE (.acons (.cst (.str (S "swap"))) (.acons (.tupE (.acons (.ix (.var 0) (.cst (.int (0)))) (.acons (.ix (.var 0) (.cst (.int (3)))) (.acons (.ix (.var 0) (.cst (.int (2)))) (.acons (.ix (.var 0) (.cst (.int (1)))) (.acons (.ix (.var 0) (.cst (.int (4)))) .anil)))))) .anil))))
 .skip) .skip)
 (.seq (.ite (.and (.cmp .In (.ix (.var 0) (.cst (.int (0)))) (.lstE (.acons (.cst (.str (S "go"))) (.acons (.cst (.str (S "if"))) .anil)))) (.cmp .Lt (.ix (.var 0) (.neg (.cst (.int (1))))) (.var 1))) (.seq (.app 2 (.tupE (.acons (.cst (.str (S "far"))) (.acons (.bin .Add (.slice (.var 0) .nop (.part (.neg (.cst (.int (1)))))) (.tupE (.acons (.bin .Add (.ix (.var 0) (.neg (.cst (.int (1))))) (.cst (.int (1)))) .anil))) .anil))))
 .skip) .skip)
 (.seq (.ret (.var 2))
 .skip)))))⟩
noncomputable def YK:CS:=(.seq (.app 3 (.tupE (.acons (.var 4) (.acons (.var 6) (.acons (.var 7) .anil)))))
 .skip)
noncomputable def YQ:CS:=(.seq (.set 5 (.bin .Add (.bin .Add (.call 174 (.acons (.ix (.var 2) (.var 4)) .anil) []) (.call 156 (.acons (.ix (.var 2) (.var 4)) .anil) [])) (.call 175 (.acons (.ix (.var 2) (.var 4)) .anil) [])))
 (.seq (.for2 6 7 (.bin .Add (.var 5) (.call 176 (.acons (.ix (.var 2) (.var 4)) (.acons (.len (.var 2)) .anil)) [])) YK)
 .skip))
noncomputable def c_law_k23:FD:=⟨1,8,(.seq (.set 1 (.call 30 (.acons (.var 0) .anil) []))
 (.seq (.set 2 (.ix (.var 1) (.cst (.int (2)))))
 (.seq (.set 3 (.lstE .anil))
 (.seq (.for1 4 true (.len (.var 2)) YQ)
 (.seq (.ret (.call 36 (.acons (.call 172 (.acons (.var 1) .anil) []) (.acons (.tupleOf (.var 3)) .anil)) []))
 .skip)))))⟩
end Dp

namespace Dp
open PySem
noncomputable def ZG (x:Int):Int:=(x+1000000000) % 2000000000 - 1000000000
theorem JT {x:Int}:-1000000000≤ZG x:=by unfold ZG; omega
theorem Zas {x:Int}:ZG x≤999999999:=by unfold ZG; omega
noncomputable def Sm (a:Int):Prop:=-1000000000≤a∧a≤999999999
instance {a:Int}:Decidable (Sm a):=inferInstanceAs (Decidable (_∧_))
theorem Sm.around {x:Int}:Sm (ZG x):=⟨JT,Zas⟩
structure NumT (T:Nat→Option FD):Prop where
 t0:T 0=some c_around
 t1:T 1=some J1
 t2:T 2=some UM
 t3:T 3=some ZaM
section
variable {T:Nat→Option FD}{n:Nat}{a b x:Int}{s:Str}
end
end Dp


namespace Dp
open PySem
theorem r8 (c:Int):c % 8=0∨c % 8=1∨c % 8=2∨c % 8=3∨c % 8=4∨c % 8=5∨c % 8=6∨c % 8=7:=by omega
section
variable {T:Nat→Option FD}{n:Nat}{a b c x:Int}{s:Str}
end
end Dp


namespace Dp
open PySem
inductive Opd where
 | name (i:Nat) | num (c:Int)
inductive Row where
 | put (x:Nat) (y:Opd) (s:Str) (z:Opd) | ifr (y:Opd) (s:Str) (z:Opd) (t:Nat) | go (t:Nat) | tell (y:Opd) | skip
noncomputable def Zp:Opd→P
 | .name i=>.tup [.str (S "name"),.int (i:Int)]
 | .num c=>.tup [.str (S "number"),.int c]
noncomputable def Zd:Row→P
 | .put x y s z=>.tup [.str (S "put"),.int (x:Int),Zp y,.str s,Zp z]
 | .ifr y s z t=>.tup [.str (S "if"),Zp y,.str s,Zp z,.int (t:Int)]
 | .go t=>.tup [.str (S "go"),.int (t:Int)]
 | .tell y=>.tup [.str (S "tell"),Zp y]
 | .skip=>.tup [.str (S "skip")]
structure Prog where
 takes:P
 many:Nat
 rows:List Row
noncomputable def Wn (p:Prog):P:=.tup [p.takes,.int (p.many:Int),.tup (p.rows.map Zd)]
noncomputable abbrev StM:=Nat×List Int
inductive Out where
 | none | told (v:Int) | late
noncomputable def UK (m:Nat):Opd→Prop
 | .name i=>i < m
 | .num c=>Sm c
noncomputable def Zgb (m n:Nat):Row→Prop
 | .put x y _ z=>x < m∧UK m y∧UK m z
 | .ifr y _ z t=>UK m y∧UK m z∧t≤n
 | .go t=>t≤n
 | .tell y=>UK m y
 | .skip=>True
structure ProgOk (p:Prog):Prop where
 rows:∀ r∈p.rows,Zgb p.many p.rows.length r
 many:p.many≤100
 size:p.rows.length≤100
structure VsOk (m:Nat) (vs:List Int):Prop where
 len:vs.length=m
 sm:∀ v∈vs,Sm v
inductive Thing where
 | st (s:StM) | out (o:Out)
structure StOkM (p:Prog) (s:StM):Prop where
 k:s.1≤p.rows.length
 vs:VsOk p.many s.2
structure MoveT (T:Nat→Option FD):Prop where
 num:NumT T
 t4:T 4=some JN
 t5:T 5=some ZdO
 t7:T 7=some ZbX
 t8:T 8=some Wy
 t9:T 9=some WU
 t10:T 10=some ZcU
 t42:T 42=some c_replaced
structure MachT (T:Nat→Option FD):Prop extends MoveT T where
 t6:T 6=some ZdT
section
variable {T:Nat→Option FD}{n:Nat}{p:Prog}{s:StM}{vs:List Int}{o:Opd}{r:Row}{k m:Nat}{ins:List Int}
theorem ZeV {xs:List P}{x:Nat} (h:x≤xs.length):WP xs Option.none (some (x:Int))=xs.take x:=by
 unfold WP
 have e:sIx xs.length xs.length (some (x:Int))=x:=by
  show (if (x:Int) < 0 then ((x:Int)+(xs.length:Int)).toNat else Nat.min ((x:Int)).toNat xs.length)=_
  rw [if_neg (by omega)]
  exact Nat.min_eq_left h
 rw [e]
 rfl
theorem Zey {xs:List P}{x:Nat} (h:x≤xs.length):WP xs (some (x:Int)) Option.none=xs.drop x:=by
 unfold WP
 have e:sIx xs.length 0 (some (x:Int))=x:=by
  show (if (x:Int) < 0 then ((x:Int)+(xs.length:Int)).toNat else Nat.min ((x:Int)).toNat xs.length)=_
  rw [if_neg (by omega)]
  exact Nat.min_eq_left h
 rw [e]
 show ((xs.drop x).take (xs.length - x))=_
 rw [List.take_of_length_le (by simp)]
theorem ZbM {xs:List P}{x:Nat} (h:x < xs.length):ZP (.tup xs) Option.none (some (x:Int))=some (.tup (xs.take x)):=by
 show (if sIx xs.length 0 Option.none=0∧sIx xs.length xs.length (some (x:Int))=xs.length then some (P.tup xs) else some (P.tup (WP xs Option.none (some (x:Int)))))=_
 have e:sIx xs.length xs.length (some (x:Int))=x:=by
  show (if (x:Int) < 0 then ((x:Int)+(xs.length:Int)).toNat else Nat.min ((x:Int)).toNat xs.length)=_
  rw [if_neg (by omega)]
  exact Nat.min_eq_left (by omega)
 rw [if_neg (by rw [e]; omega),ZeV (by omega)]
theorem ZbH {xs:List P}{x:Nat} (h:x < xs.length):ZP (.tup xs) (some ((x:Int)+1)) Option.none=some (.tup (xs.drop (x+1))):=by
 rw [show (x:Int)+1=((x+1:Nat):Int) by omega]
 show (if sIx xs.length 0 (some ((x+1:Nat):Int))=0∧sIx xs.length xs.length Option.none=xs.length then some (P.tup xs) else some (P.tup (WP xs (some ((x+1:Nat):Int)) Option.none)))=_
 have e:sIx xs.length 0 (some ((x+1:Nat):Int))=x+1:=by
  show (if ((x+1:Nat):Int) < 0 then (((x+1:Nat):Int)+(xs.length:Int)).toNat else Nat.min (((x+1:Nat):Int)).toNat xs.length)=_
  rw [if_neg (by omega)]
  exact Nat.min_eq_left (by omega)
 rw [if_neg (by rw [e]; omega),Zey (by omega)]
structure TrailT (T:Nat→Option FD):Prop extends MachT T where
 t11:T 11=some Uj
 t12:T 12=some ZdK
structure SeenT (T:Nat→Option FD):Prop extends TrailT T where
 t13:T 13=some Zao
 t14:T 14=some Vn
 t15:T 15=some Zfm
 t43:T 43=some ZbT
 t44:T 44=some Zat
end
end Dp


namespace Dp
open PySem
end Dp


namespace Dp
open PySem
noncomputable def eqO:Opd→Opd→Bool
 | .name i,.name j=>decide (i=j)
 | .num c,.num d=>decide (c=d)
 | _,_=>false
theorem nn:(S "name"=S "number")=False:=by simp
theorem Zgc {a b:Opd}:Wl (Zp a) (Zp b)=eqO a b:=by
 cases a<;>cases b<;>simp [Zp,eqO,Wl,Xj]
 omega
theorem Wq {F:PFn}{M:List Nat}{c e:CE}{r:CS}{π:Zo}{v:P} (h:pe F c π=some (.bl true)) (he:pe F e π=some v):px F M (.seq (.ite c (.seq (.ret e) .skip) .skip) r) π=some (.rt v):=by
 rw [Zj,WJ,h,XV,if_pos rfl,Zj,Zbb,he]; rfl
theorem ZX {F:PFn}{M:List Nat}{c:CE}{a r:CS}{π:Zo} (h:pe F c π=some (.bl false)):px F M (.seq (.ite c a .skip) r) π=px F M r π:=by
 rw [Zj,WJ,h,XV,if_neg Bool.false_ne_true,ZQ,Zg]
theorem Jy {F:PFn}{k:Nat}{e:CE}{r:CS}{π:Zo}{v:P} (h:pe F e π=some v):px F [] (.seq (.set k e) r) π=px F [] r (Zt π k v):=by
 rw [Zj,ZcA,h,Option.bind_some,Zg]
theorem Z6 {F:PFn}{M:List Nat}{e:CE}{r:CS}{π:Zo}{v:P} (h:pe F e π=some v):px F M (.seq (.ret e) r) π=some (.rt v):=by
 rw [Zj,Zbb,h]; rfl
structure MadeT (T:Nat→Option FD):Prop where
 num:NumT T
 t4:T 4=some JN
 t42:T 42=some c_replaced
 t73:T 73=some Vg
 t74:T 74=some WL
 t75:T 75=some W2
 t76:T 76=some XA
 t77:T 77=some Q7
 t78:T 78=some X0
 t79:T 79=some V2
 t80:T 80=some Zax
 t81:T 81=some WN
 t82:T 82=some JP
 t83:T 83=some Jh
section
variable {T:Nat→Option FD}{n:Nat}{y z:Opd}{s:Str}{x t k:Nat}
theorem Zfa:Zd (.put x y s z)=.tup [.str (S "put"),.int (x:Int),Zp y,.str s,Zp z]:=rfl
theorem Zd4:Zd (.ifr y s z t)=.tup [.str (S "if"),Zp y,.str s,Zp z,.int (t:Int)]:=rfl
noncomputable def PSg (s:Str):Prop:=s=S "+"∨s=S "-"∨s=S "*"∨s=S "/"∨s=S "mod"
noncomputable def ISg (s:Str):Prop:=s=S "<"∨s=S "<="∨s=S "="∨s=S ">="∨s=S ">"∨s=S "!="
end
end Dp


namespace Dp
open PySem
noncomputable def nbI (c:Int):Int:=if c % 3=0 then ([-1000000000,999999999,-1,0,1,2,-999999999,999999998]:List Int).getD (c / 3 % 8).toNat 0 else c / 3 * 48271 % 2000000000 - 1000000000
noncomputable def sgA (i:Int):Str:=([S "+",S "-",S "*",S "/",S "mod"]:List Str).getD i.toNat (S "+")
noncomputable def sgB (i:Int):Str:=([S "<",S "<=",S "=",S ">=",S ">",S "!="]:List Str).getD i.toNat (S "<")
theorem Zfd (i:Int):PSg (sgA i):=by
 unfold sgA
 rcases h:i.toNat with _ | _ | _ | _ | _ | k
 ·exact .inl rfl
 ·exact .inr (.inl rfl)
 ·exact .inr (.inr (.inl rfl))
 ·exact .inr (.inr (.inr (.inl rfl)))
 ·exact .inr (.inr (.inr (.inr rfl)))
 ·exact .inl (by simp [List.getD])
theorem ZfG (i:Int):ISg (sgB i):=by
 unfold sgB
 rcases h:i.toNat with _ | _ | _ | _ | _ | _ | k
 ·exact .inl rfl
 ·exact .inr (.inl rfl)
 ·exact .inr (.inr (.inl rfl))
 ·exact .inr (.inr (.inr (.inl rfl)))
 ·exact .inr (.inr (.inr (.inr (.inl rfl))))
 ·exact .inr (.inr (.inr (.inr (.inr rfl))))
 ·exact .inl (by simp [List.getD])
structure RowT (T:Nat→Option FD):Prop where
 t18:T 18=some c__law_number_by_k25
 t27:T 27=some c__law_cell_at_k25
 t71:T 71=some c__law_operand_by
 t84:T 84=some XO
 t72:T 72=some Vo
section
variable {T:Nat→Option FD}{n:Nat}{c c0 c1 c2 c3:Int}{m many at_:Nat}{b:Bool}
theorem ZfU (h:T 18=some c__law_number_by_k25):Zn T (n+1) 18 [.int c]=some (.int (nbI c)):=by
 rw [Zy (f:=c__law_number_by_k25) h rfl rfl]
 unfold nbI
 simp [c__law_number_by_k25,Z9,YM]
 split
 ·rcases r8 (c / 3) with h | h | h | h | h | h | h | h<;>rw [h]<;>simp
 ·rfl
theorem r5 (c:Int):c % 5=0∨c % 5=1∨c % 5=2∨c % 5=3∨c % 5=4:=by omega
theorem r6 (c:Int):c % 6=0∨c % 6=1∨c % 6=2∨c % 6=3∨c % 6=4∨c % 6=5:=by omega
theorem ZhN:atP [.str (S "+"),.str (S "-"),.str (S "*"),.str (S "/"),.str (S "mod")] (c % 5)=some (.str (sgA (c % 5))):=by
 rcases r5 c with h | h | h | h | h<;>rw [h]<;>rfl
theorem ZhR:atP [.str (S "<"),.str (S "<="),.str (S "="),.str (S ">="),.str (S ">"),.str (S "!=")] (c % 6)=some (.str (sgB (c % 6))):=by
 rcases r6 c with h | h | h | h | h | h<;>rw [h]<;>rfl
noncomputable def ZT (ns:List Int) (k:Nat):Int:=if k < ns.length then ns.getD k 0 else 0
theorem Zde {ns:List Int}{k:Nat} (h:T 27=some c__law_cell_at_k25):Zn T (n+1) 27 [.lst false (ns.map .int),.int (k:Int)]=some (.int (ZT ns k)):=by
 rw [Zy (f:=c__law_cell_at_k25) h rfl rfl]
 unfold ZT
 by_cases q:k < ns.length
 ·have e:(ns.map P.int)[k]?=some (.int (ns.getD k 0)):=by
   rw [List.getElem?_map,List.getD_eq_getElem?_getD,List.getElem?_eq_getElem q]; rfl
  have h':(k:Int) < (ns.length:Int):=by omega
  rw [if_pos q]
  simp [c__law_cell_at_k25,Z9,h',q,e]
 ·have h':¬(k:Int) < (ns.length:Int):=by omega
  rw [if_neg q]
  simp [c__law_cell_at_k25,Z9,h']
end
end Dp


namespace Dp
open PySem
section
variable {T:Nat→Option FD}{n:Nat}{a:Int}{s:Str}{y:Opd}
theorem Uv (h:T 36=some c__law_alike_k26):Zn T (n+1) 36 [.str s,.str s]=some (.bl true):=by
 rw [Zy (f:=c__law_alike_k26) h rfl rfl]
 simp [c__law_alike_k26,Z9]
theorem Ua (h:T 36=some c__law_alike_k26):Zn T (n+1) 36 [.int a,.int a]=some (.bl true):=by
 rw [Zy (f:=c__law_alike_k26) h rfl rfl]
 simp [c__law_alike_k26,Z9]
theorem Zcx {F:PFn}{xs:List P} (hl:xs.length≤100) (h:∀ x∈xs,F 36 [x,x]=some (.bl true)):pe F Ye [some (.tup xs),some (.tup xs)]=some (.lst true []):=by
 unfold Ye
 rw [V5,show pe F (.len (.var 1)) [some (.tup xs),some (.tup xs)]=some (.int (xs.length:Int)) by simp,Option.bind_some,Q9 (by omega),Option.bind_some,Uo,if_pos (by omega)]
 rw [Ww (p:=fun _=>false) (g:=id) (fun x hx=>by
  obtain ⟨j,rfl,hj⟩:=mem_range hx
  have hj:j < xs.length:=by omega
  have hp:YO [some (.tup xs),some (.tup xs)] [1,0] (.int (j:Int))=[some (.int (j:Int)),some (.tup xs),some (.tup xs)]:=rfl
  have g:=List.getElem?_eq_getElem hj
  have q:=h _ (List.getElem_mem hj)
  have at_:atP xs (j:Int)=some xs[j]:=by rw [Yi rfl,g]
  rw [hp]
  simp [at_,q]) (fun _ _ z=>by cases z)]
 simp
theorem Xc (h36:T 36=some c__law_alike_k26) {xs:List P} (hl:xs.length≤100) (h:∀ x∈xs,Zn T (n+1) 36 [x,x]=some (.bl true)):Zn T (n+2) 36 [.tup xs,.tup xs]=some (.bl true):=by
 rw [Zy (f:=c__law_alike_k26) h36 rfl rfl]
 have e:=Zcx (F:=Zn T (n+1)) hl h
 simp [c__law_alike_k26,Z9,e]
theorem Ze0 (h36:T 36=some c__law_alike_k26):Zn T (n+2) 36 [Zp y,Zp y]=some (.bl true):=by
 cases y with
 | name i=>
  exact Xc h36 (by simp) fun x hx=>by
   simp only [List.mem_cons,List.not_mem_nil,or_false] at hx
   rcases hx with rfl | rfl
   ·exact Uv h36
   ·exact Ua h36
 | num c=>
  exact Xc h36 (by simp) fun x hx=>by
   simp only [List.mem_cons,List.not_mem_nil,or_false] at hx
   rcases hx with rfl | rfl
   ·exact Uv h36
   ·exact Ua h36
theorem ZfI (h36:T 36=some c__law_alike_k26) {r:Row}:Zn T (n+3) 36 [Zd r,Zd r]=some (.bl true):=by
 have st:∀ {w:Str},Zn T (n+2) 36 [.str w,.str w]=some (.bl true):=Uv (n:=n+1) h36
 have it:∀ {w:Int},Zn T (n+2) 36 [.int w,.int w]=some (.bl true):=Ua (n:=n+1) h36
 have op:∀ {w:Opd},Zn T (n+2) 36 [Zp w,Zp w]=some (.bl true):=Ze0 (n:=n) h36
 cases r with
 | put x y s z=>
  exact Xc h36 (by simp) fun q hq=>by
   simp only [List.mem_cons,List.not_mem_nil,or_false] at hq
   rcases hq with rfl | rfl | rfl | rfl | rfl<;>first | exact st | exact it | exact op
 | ifr y s z t=>
  exact Xc h36 (by simp) fun q hq=>by
   simp only [List.mem_cons,List.not_mem_nil,or_false] at hq
   rcases hq with rfl | rfl | rfl | rfl | rfl<;>first | exact st | exact it | exact op
 | go t=>
  exact Xc h36 (by simp) fun q hq=>by
   simp only [List.mem_cons,List.not_mem_nil,or_false] at hq
   rcases hq with rfl | rfl<;>first | exact st | exact it | exact op
 | tell y=>
  exact Xc h36 (by simp) fun q hq=>by
   simp only [List.mem_cons,List.not_mem_nil,or_false] at hq
   rcases hq with rfl | rfl<;>first | exact st | exact it | exact op
 | skip=>
  exact Xc h36 (by simp) fun q hq=>by
   simp only [List.mem_cons,List.not_mem_nil,or_false] at hq
   rcases hq with rfl
   exact st
end
end Dp


namespace Dp
open PySem
noncomputable def num:List (Str×Nat):=[(S "replaced",42),(S "operand_places",113),(S "around",0),(S "behind",70),(S "Step",146),(S "Step.word",147),(S "Step.turned",148),(S "Sign",169),(S "Sign.word",170),(S "Sign.turned",171),(S "More",149),(S "More.word",150),(S "More.turned",151),(S "Turn",157),(S "Turn.word",158),(S "Turn.turned",159),(S "Out",152),(S "Out.word",153),(S "Out.turned",154),(S "Swap",160),(S "Swap.word",161),(S "Swap.turned",162),(S "Far",163),(S "Far.word",164),(S "Far.turned",165),(S "fakes",172),(S "_law_cell_at",27),(S "_law_alike",36),(S "_law_number_by",18),(S "_law_operand_by",71),(S "_law_row_by",72),(S "_law_program",30),(S "_law_later",173),(S "_law_sign",174),(S "_law_more",156),(S "_law_turn_and_out",175),(S "_law_swap_and_far",176),(S "law",16)]
noncomputable def T:Nat→Option FD
 | 42=>some c_replaced
 | 113=>some c_operand_places
 | 0=>some c_around
 | 70=>some c_behind
 | 147=>some c_Step_word
 | 148=>some c_Step_turned
 | 170=>some c_Sign_word
 | 171=>some c_Sign_turned
 | 150=>some c_More_word
 | 151=>some c_More_turned
 | 158=>some c_Turn_word
 | 159=>some c_Turn_turned
 | 153=>some c_Out_word
 | 154=>some c_Out_turned
 | 161=>some c_Swap_word
 | 162=>some c_Swap_turned
 | 164=>some c_Far_word
 | 165=>some c_Far_turned
 | 172=>some c_fakes
 | 27=>some c__law_cell_at_k25
 | 36=>some c__law_alike_k26
 | 18=>some c__law_number_by_k25
 | 71=>some c__law_operand_by
 | 72=>some c__law_row_by_k22
 | 30=>some c__law_program_k23
 | 173=>some c__law_later
 | 174=>some c__law_sign
 | 156=>some c__law_more_k23
 | 175=>some c__law_turn_and_out
 | 176=>some c__law_swap_and_far
 | 16=>some c_law_k23
 | _=>none
end Dp


namespace Dp
open PySem
section
variable {n:Nat}{F:PFn}{m many:Nat}{c0 c1 c2 c3:Int}{r:Row}{y z:Opd}{s:Str}{x t:Nat}
noncomputable def XG:Row→Prop
 | .put _ _ s _=>PSg s
 | .ifr _ s _ _=>ISg s
 | _=>True
theorem ZgV {c:Int}:∃ o,Zn T (n+2) 71 [.int c,.int (m:Int)]=some (Zp o):=by
 rw [Zy (f:=c__law_operand_by) rfl rfl rfl]
 have nb:Zn T (n+1) 18 [.int (c / 5)]=some (.int (nbI (c / 5))):=ZfU rfl
 by_cases h:0 < m∧c % 5 < 3
 ·obtain ⟨h1,h2⟩:=h
  have e:((c / 5 % (m:Int)).toNat:Int)=c / 5 % (m:Int):=by
   have:=Int.emod_nonneg (c / 5) (show (m:Int)≠0 by omega)
   omega
  refine ⟨.name (c / 5 % (m:Int)).toNat,?_⟩
  simp [c__law_operand_by,Z9,h1,h2,Zp,e]
 ·refine ⟨.num (nbI (c / 5)),?_⟩
  by_cases h1:0 < m
  ·have h2:¬c % 5 < 3:=fun z=>h ⟨h1,z⟩
   simp [c__law_operand_by,Z9,h1,h2,nb,Zp]
  ·have h3:m=0:=by omega
   subst h3
   simp [c__law_operand_by,Z9,nb,Zp]
theorem Zf9 {b:Bool}:∃ r,XG r∧Zn T (n+3) 72 [.lst b [.int c0,.int c1,.int c2,.int c3],.int (m:Int),.int (many:Int)]=some (Zd r):=by
 rw [Zy (f:=c__law_row_by_k22) rfl rfl rfl]
 obtain ⟨y,ey⟩:=ZgV (n:=n) (m:=m) (c:=c1)
 obtain ⟨z0,ez⟩:=ZgV (n:=n) (m:=m) (c:=c2)
 obtain ⟨t0,et⟩:∃ t:Nat,c3 / 5 % ((many:Int)+1)=(t:Int):=⟨(c3 / 5 % ((many:Int)+1)).toNat,by
  have:=Int.emod_nonneg (c3 / 5) (show (many:Int)+1≠0 by omega)
  omega⟩
 show ∃ r,XG r∧Xi (px (Zn T (n+2)) [] c__law_row_by_k22.body [some (.lst b [.int c0,.int c1,.int c2,.int c3]),some (.int (m:Int)),some (.int (many:Int)),none,none,none,none])=_
 unfold c__law_row_by_k22
 rw [Jy (v:=Zp y) (by first | rfl | simp [ey])]
 simp only [Zk,Zl]
 rw [Jy (v:=Zp z0) (by first | rfl | simp [ez])]
 simp only [Zk,Zl]
 rw [Jy (v:=.int (t0:Int)) (by first | rfl | simp [et,show (0:Int) < (many:Int)+1 by omega])]
 simp only [Zk,Zl]
 obtain ⟨z,e1⟩:∃ z,px (Zn T (n+2)) [] (.ite (.cmp .Eq (.bin .Mod (.bin .FloorDiv (.ix (.var 0) (.cst (.int (3)))) (.cst (.int (65)))) (.cst (.int (6)))) (.cst (.int (1)))) (.seq (.set 4 (.var 3)) .skip) .skip) [some (.lst b [.int c0,.int c1,.int c2,.int c3]),some (.int (m:Int)),some (.int (many:Int)),some (Zp y),some (Zp z0),some (.int (t0:Int)),none]=some (.nx [some (.lst b [.int c0,.int c1,.int c2,.int c3]),some (.int (m:Int)),some (.int (many:Int)),some (Zp y),some (Zp z),some (.int (t0:Int)),none]):=by
  by_cases h:c3 / 65 % 6=1
  ·exact ⟨y,by simp [h]⟩
  ·exact ⟨z0,by simp [h]⟩
 obtain ⟨t,e2⟩:∃ t:Nat,px (Zn T (n+2)) [] (.ite (.cmp .Eq (.bin .Mod (.bin .FloorDiv (.ix (.var 0) (.cst (.int (3)))) (.cst (.int (65)))) (.cst (.int (6)))) (.cst (.int (2)))) (.seq (.set 5 (.var 2)) .skip) .skip) [some (.lst b [.int c0,.int c1,.int c2,.int c3]),some (.int (m:Int)),some (.int (many:Int)),some (Zp y),some (Zp z),some (.int (t0:Int)),none]=some (.nx [some (.lst b [.int c0,.int c1,.int c2,.int c3]),some (.int (m:Int)),some (.int (many:Int)),some (Zp y),some (Zp z),some (.int (t:Int)),none]):=by
  by_cases h:c3 / 65 % 6=2
  ·exact ⟨many,by simp [h]⟩
  ·exact ⟨t0,by simp [h]⟩
 rw [Zj,e1,Zg,Zj,e2,Zg,Jy (v:=.int (c0 / 8)) (by first | rfl | simp)]
 simp only [Zk,Zl]
 have ia:∀ {i:Int},atP [.str (S "+"),.str (S "-"),.str (S "*"),.str (S "/"),.str (S "mod")] (i % 5)=some (.str (sgA (i % 5))):=ZhN
 have ib:∀ {i:Int},atP [.str (S "<"),.str (S "<="),.str (S "="),.str (S ">="),.str (S ">"),.str (S "!=")] (i % 6)=some (.str (sgB (i % 6))):=ZhR
 by_cases h1:c0 % 8 < 3∧0 < m
 ·obtain ⟨x,ex⟩:∃ x:Nat,c3 % 5 % (m:Int)=(x:Int):=⟨(c3 % 5 % (m:Int)).toNat,by
   have:=Int.emod_nonneg (c3 % 5) (show (m:Int)≠0 by omega)
   omega⟩
  refine ⟨.put x y (sgA (c0 / 8 % 5)) z,Zfd _,?_⟩
  rw [Wq (v:=Zd (.put x y (sgA (c0 / 8 % 5)) z)) (by first | rfl | simp [h1.1,h1.2]) (by first | rfl | simp [ia,ex,h1.2,Zd])]
  rfl
 rw [ZX (by
  by_cases h2:c0 % 8 < 3
  ·have h3:m=0:=by omega
   subst h3
   simp [h2]
  ·simp [h2])]
 by_cases h2:c0 % 8 < 5
 ·refine ⟨.ifr y (sgB (c0 / 8 % 6)) z t,ZfG _,?_⟩
  rw [Wq (v:=Zd (.ifr y (sgB (c0 / 8 % 6)) z t)) (by first | rfl | simp [h2]) (by first | rfl | simp [ib,Zd])]
  rfl
 rw [ZX (by first | rfl | simp [h2])]
 by_cases h3:c0 % 8=5
 ·refine ⟨.go t,trivial,?_⟩
  rw [Wq (v:=Zd (.go t)) (by first | rfl | simp [h3]) (by first | rfl | simp [Zd])]
  rfl
 rw [ZX (by first | rfl | simp [h3])]
 by_cases h4:c0 % 8=6
 ·refine ⟨.tell y,trivial,?_⟩
  rw [Wq (v:=Zd (.tell y)) (by first | rfl | simp [h4]) (by first | rfl | simp [Zd])]
  rfl
 rw [ZX (by first | rfl | simp [h4])]
 refine ⟨.skip,trivial,?_⟩
 rw [Z6 (v:=Zd .skip) (by first | rfl | simp [Zd])]
 rfl
noncomputable def nxA (s:Str):Str:=if s=S "+" then S "-" else if s=S "-" then S "*" else if s=S "*" then S "/" else if s=S "/" then S "mod" else S "+"
noncomputable def nxB (s:Str):Str:=if s=S "<" then S "<=" else if s=S "<=" then S "=" else if s=S "=" then S ">=" else if s=S ">=" then S ">" else if s=S ">" then S "!=" else S "<"
noncomputable def YG:Row→List Row
 | .put x y s z=>[.put x y (nxA s) z]
 | .ifr y s z t=>[.ifr y (nxB s) z t]
 | _=>[]
theorem Zil (h:PSg s):Zn T (n+1) 70 [.kt [S "+",S "-",S "*",S "/",S "mod"],.str s]=some (.str (nxA s)):=by
 rw [Zy (f:=c_behind) rfl rfl rfl]
 rcases h with rfl | rfl | rfl | rfl | rfl<;>rfl
theorem Ziv (h:ISg s):Zn T (n+1) 70 [.kt [S "<",S "<=",S "=",S ">=",S ">",S "!="],.str s]=some (.str (nxB s)):=by
 rw [Zy (f:=c_behind) rfl rfl rfl]
 rcases h with rfl | rfl | rfl | rfl | rfl | rfl<;>rfl
theorem Zfb (h:XG r):Zn T (n+2) 171 [.obj 169,Zd r,.int (many:Int)]=some (.tup ((YG r).map Zd)):=by
 cases r with
 | put x y s z=>
  rcases (h:PSg s) with rfl | rfl | rfl | rfl | rfl<;>rfl
 | ifr y s z t=>
  rcases (h:ISg s) with rfl | rfl | rfl | rfl | rfl | rfl<;>rfl
 | _=>rfl
noncomputable def Ys:Opd→List Opd
 | .name _=>[]
 | .num c=>[.num (ZG (c+1))]
noncomputable def Yj:Row→List Row
 | .put x y s z=>(Ys y).map (fun y'=>.put x y' s z)++(Ys z).map (fun z'=>.put x y s z')
 | .ifr y s z t=>(Ys y).map (fun y'=>.ifr y' s z t)++(Ys z).map (fun z'=>.ifr y s z' t)
 | .tell y=>(Ys y).map .tell
 | _=>[]
theorem Yv:(Ys y).length≤1:=by cases y<;>simp [Ys]
theorem Wf:(Yj r).length≤2:=by
 cases r with
 | put x y s z=>have:=Yv (y:=y); have:=Yv (y:=z); simp [Yj]; omega
 | ifr y s z t=>have:=Yv (y:=y); have:=Yv (y:=z); simp [Yj]; omega
 | tell y=>have:=Yv (y:=y); simp [Yj]; omega
 | go t=>simp [Yj]
 | skip=>simp [Yj]
theorem ZfP {x0 x2:Option P}{xs rs:List P}{i:Nat}{o:Opd} (h0:∀ a:Int,F 0 [.int a]=some (.int (ZG a))) (h42:∀ q:P,F 42 [.tup xs,.int (i:Int),q]=some (.tup (xs.set i q))) (hi:xs[i]?=some (Zp o)) (hr:rs.length≤10) :
  px F [3] Yp [x0,some (.tup xs),x2,some (.lst true rs),some (.int (i:Int))]=some (.nx [x0,some (.tup xs),x2,some (.lst true (rs++(Ys o).map fun o'=>.tup (xs.set i (Zp o')))),some (.int (i:Int))]):=by
 have ai:atP xs (i:Int)=some (Zp o):=by rw [Yi rfl,hi]
 have z:rs.length < Zi:=by unfold Zi; omega
 unfold Yp
 cases o with
 | name k=>
  rw [ZX (by first | rfl | simp [ai,Zp])]
  simp [Ys]
 | num c=>
  have c1:pe F (.cmp .Eq (.ix (.ix (.var 1) (.var 4)) (.cst (.int (0)))) (.cst (.str (S "number")))) [x0,some (.tup xs),x2,some (.lst true rs),some (.int (i:Int))]=some (.bl true):=by simp [ai,Zp]
  rw [Zj,WJ,c1,XV,if_pos rfl,Zj,Jc (xs:=rs) rfl]
  simp [ai,Zp,h0,h42,Zv,noM,z,Ys]
theorem ZeJ:Zn T (n+2) 151 [.obj 149,Zd r,.int (many:Int)]=some (.tup ((Yj r).map Zd)):=by
 cases r with
 | put x y s z=>cases y<;>cases z<;>rfl
 | ifr y s z t=>cases y<;>cases z<;>rfl
 | tell y=>cases y<;>rfl
 | _=>rfl
noncomputable def XI:Row→List Row
 | .skip=>[]
 | _=>[.skip]
theorem Zgy:Zn T (n+1) 154 [.obj 152,Zd r,.int (many:Int)]=some (.tup ((XI r).map Zd)):=by
 cases r<;>rfl
noncomputable def Zeb (s:Str):Str:=if s=S "<" then S ">=" else if s=S ">=" then S "<" else if s=S ">" then S "<=" else if s=S "<=" then S ">" else if s=S "=" then S "!=" else S "="
noncomputable def YF:Row→List Row
 | .ifr y s z t=>[.ifr y (Zeb s) z t]
 | _=>[]
theorem ZeP (h:XG r):Zn T (n+2) 159 [.obj 157,Zd r,.int (many:Int)]=some (.tup ((YF r).map Zd)):=by
 cases r with
 | ifr y s z t=>
  rcases (h:ISg s) with rfl | rfl | rfl | rfl | rfl | rfl<;>rfl
 | _=>rfl
theorem ne_O:YE .NotEq (Zp y) (Zp z)=some (.bl (!eqO y z)):=by
 have e:YE .NotEq (Zp y) (Zp z)=some (.bl (!Wl (Zp y) (Zp z))):=by
  cases y<;>cases z<;>rfl
 rw [e,Zgc]
noncomputable def Yb:Row→List Row
 | .put x y s z=>if eqO y z=true then [] else [.put x z s y]
 | .ifr y s z t=>if eqO y z=true then [] else [.ifr z s y t]
 | _=>[]
theorem WQ:(Yb r).length≤1:=by
 cases r<;>simp [Yb]
 all_goals split<;>simp
theorem ZeN:Zn T (n+1) 162 [.obj 160,Zd r,.int (many:Int)]=some (.tup ((Yb r).map Zd)):=by
 cases r with
 | put x y s z=>
  rw [Zy (f:=c_Swap_turned) rfl rfl rfl]
  show Xi (px (Zn T n) [] c_Swap_turned.body [some (.obj 160),some (Zd (.put x y s z)),some (.int (many:Int))])=_
  unfold c_Swap_turned
  cases q:eqO y z
  ·rw [Wq (v:=.tup [Zd (.put x z s y)]) (by exact ne_O.trans (by rw [q]; rfl)) (by rfl)]
   simp only [Yb,q]
   rfl
  ·rw [ZX (by exact ne_O.trans (by rw [q]; rfl)),ZX (by rfl),Z6 (v:=.tup []) (by rfl)]
   simp only [Yb,q]
   rfl
 | ifr y s z t=>
  rw [Zy (f:=c_Swap_turned) rfl rfl rfl]
  show Xi (px (Zn T n) [] c_Swap_turned.body [some (.obj 160),some (Zd (.ifr y s z t)),some (.int (many:Int))])=_
  unfold c_Swap_turned
  cases q:eqO y z
  ·rw [ZX (by rfl),Wq (v:=.tup [Zd (.ifr z s y t)]) (by exact ne_O.trans (by rw [q]; rfl)) (by rfl)]
   simp only [Yb,q]
   rfl
  ·rw [ZX (by rfl),ZX (by exact ne_O.trans (by rw [q]; rfl)),Z6 (v:=.tup []) (by rfl)]
   simp only [Yb,q]
   rfl
 | _=>rfl
noncomputable def YI (many:Nat):Row→List Row
 | .go t=>if t < many then [.go (t+1)] else []
 | .ifr y s z t=>if t < many then [.ifr y s z (t+1)] else []
 | _=>[]
theorem V4:(YI many r).length≤1:=by
 cases r<;>simp [YI]
 all_goals split<;>simp
theorem sl2 {a b:P}:ZP (.tup [a,b]) Option.none (some (-1))=some (.tup [a]):=rfl
theorem sl5 {a b c d e:P}:ZP (.tup [a,b,c,d,e]) Option.none (some (-1))=some (.tup [a,b,c,d]):=rfl
theorem ZgH:Zn T (n+1) 165 [.obj 163,Zd r,.int (many:Int)]=some (.tup ((YI many r).map Zd)):=by
 cases r with
 | go t=>
  rw [Zy (f:=c_Far_turned) rfl rfl rfl]
  show Xi (px (Zn T n) [] c_Far_turned.body [some (.obj 163),some (Zd (.go t)),some (.int (many:Int))])=_
  unfold c_Far_turned
  by_cases q:t < many
  ·rw [ZX (by show some (P.bl (decide ((t:Int)≥(many:Int))))=_; rw [decide_eq_false (by omega)]),Z6 (v:=.tup [Zd (.go (t+1))]) (by rfl)]
   simp only [YI,q]
   rfl
  ·rw [Wq (v:=.tup []) (by show some (P.bl (decide ((t:Int)≥(many:Int))))=_; rw [decide_eq_true (by omega)]) (by rfl)]
   simp only [YI,q]
   rfl
 | ifr y s z t=>
  rw [Zy (f:=c_Far_turned) rfl rfl rfl]
  show Xi (px (Zn T n) [] c_Far_turned.body [some (.obj 163),some (Zd (.ifr y s z t)),some (.int (many:Int))])=_
  unfold c_Far_turned
  by_cases q:t < many
  ·rw [ZX (by show some (P.bl (decide ((t:Int)≥(many:Int))))=_; rw [decide_eq_false (by omega)]),Z6 (v:=.tup [Zd (.ifr y s z (t+1))]) (by rfl)]
   simp only [YI,q]
   rfl
  ·rw [Wq (v:=.tup []) (by show some (P.bl (decide ((t:Int)≥(many:Int))))=_; rw [decide_eq_true (by omega)]) (by rfl)]
   simp only [YI,q]
   rfl
 | _=>rfl
noncomputable def Zx (w:Str) (r:Row):P:=.tup [.str w,Zd r]
theorem ZfS (h:PSg s):Zn T (n+1) 173 [.str s,.lst true [.str (S "+"),.str (S "-"),.str (S "*"),.str (S "/"),.str (S "mod")]]=some (.str (nxA s)):=by
 rw [Zy (f:=c__law_later) rfl rfl rfl]
 rcases h with rfl | rfl | rfl | rfl | rfl<;>rfl
theorem Zgk (h:ISg s):Zn T (n+1) 173 [.str s,.lst true [.str (S "<"),.str (S "<="),.str (S "="),.str (S ">="),.str (S ">"),.str (S "!=")]]=some (.str (nxB s)):=by
 rw [Zy (f:=c__law_later) rfl rfl rfl]
 rcases h with rfl | rfl | rfl | rfl | rfl | rfl<;>rfl
theorem q3s {a b c d e:P}:ZP (.tup [a,b,c,d,e]) Option.none (some 3)=some (.tup [a,b,c]):=rfl
theorem q2s {a b c d e:P}:ZP (.tup [a,b,c,d,e]) Option.none (some 2)=some (.tup [a,b]):=rfl
theorem q3h {a b c d e:P}:ZP (.tup [a,b,c,d,e]) (some 3) Option.none=some (.tup [d,e]):=rfl
theorem Zgd {k:Nat} (h:k≤10):k≤Zi:=by unfold Zi; omega
theorem Zeg (h:XG r):Zn T (n+2) 174 [Zd r]=some (.lst true ((YG r).map (Zx (S "sign")))):=by
 cases r with
 | put x y s z=>
  rcases (h:PSg s) with rfl | rfl | rfl | rfl | rfl<;>rfl
 | ifr y s z t=>
  rcases (h:ISg s) with rfl | rfl | rfl | rfl | rfl | rfl<;>rfl
 | _=>rfl
theorem ZeB {xs rs:List P}{i:Nat}{o:Opd}{x3:Option P} (hi:xs[i]?=some (Zp o)) (hx:xs.length≤10) (hr:rs.length≤10) :
  ∃ y3,px F [1] Zr [some (.tup xs),some (.lst true rs),some (.int (i:Int)),x3]=some (.nx [some (.tup xs),some (.lst true (rs++(Ys o).map fun o'=>.tup [.str (S "more"),.tup (xs.set i (Zp o'))])),some (.int (i:Int)),y3]):=by
 have ai:atP xs (i:Int)=some (Zp o):=by rw [Yi rfl,hi]
 have z:rs.length < Zi:=by unfold Zi; omega
 have li:i < xs.length:=(List.getElem?_eq_some_iff.mp hi).1
 have l1:=ZbM li
 have l2:=ZbH li
 unfold Zr
 cases o with
 | name k=>
  refine ⟨x3,?_⟩
  rw [ZX (by first | rfl | simp [ai,Zp])]
  simp [Ys]
 | num c=>
  have ar:(c+1000000001) % 2000000000 - 1000000000=ZG (c+1):=by
   unfold ZG
   rw [show c+1+1000000000=c+1000000001 by omega]
  have c1:pe F (.and (.isi .tuple (.ix (.var 0) (.var 2))) (.cmp .Eq (.ix (.ix (.var 0) (.var 2)) (.cst (.int (0)))) (.cst (.str (S "number"))))) [some (.tup xs),some (.lst true rs),some (.int (i:Int)),x3]=some (.bl true):=by simp [ai,Zp]
  have c2:pe F (.bin .Sub (.bin .Mod (.bin .Add (.ix (.ix (.var 0) (.var 2)) (.cst (.int (1)))) (.cst (.int (1000000001)))) (.cst (.int (2000000000)))) (.cst (.int (1000000000)))) [some (.tup xs),some (.lst true rs),some (.int (i:Int)),x3]=some (.int (ZG (c+1))):=by
   rw [←ar]
   simp [ai,Zp]
  have sz:∀ k,k≤30→k≤Zi:=fun k h=>by unfold Zi; omega
  have c3:pe F (.tupE (.acons (.cst (.str (S "more"))) (.acons (.bin .Add (.bin .Add (.slice (.var 0) .nop (.part (.var 2))) (.tupE (.acons (.tupE (.acons (.cst (.str (S "number"))) (.acons (.var 3) .anil))) .anil))) (.slice (.var 0) (.part (.bin .Add (.var 2) (.cst (.int (1))))) .nop)) .anil))) [some (.tup xs),some (.lst true rs),some (.int (i:Int)),some (.int (ZG (c+1)))]=some (.tup [.str (S "more"),.tup (xs.set i (Zp (.num (ZG (c+1)))))]):=by
   have e1:(xs.take i).length+1≤Zi:=sz _ (by rw [List.length_take]; omega)
   have e2:(xs.take i++[Zp (.num (ZG (c+1)))]).length+(xs.drop (i+1)).length≤Zi:=sz _ (by simp; omega)
   have e3:(if xs.take i++[Zp (.num (ZG (c+1)))]=[] then xs.drop (i+1) else xs.take i++[Zp (.num (ZG (c+1)))]++xs.drop (i+1))=xs.set i (Zp (.num (ZG (c+1)))):=by
    rw [if_neg (by first | rfl | simp),List.set_eq_take_append_cons_drop,if_pos li,List.append_assoc]; rfl
   rw [List.set_eq_take_append_cons_drop,if_pos li]
   rw [List.length_take,Nat.min_eq_left (Nat.le_of_lt li)] at e1
   simp only [List.length_append,List.length_take,List.length_drop,List.length_singleton,Nat.min_eq_left (Nat.le_of_lt li)] at e2
   simp [l1,l2,Zp,e1,e2,Nat.min_eq_left (Nat.le_of_lt li)]
  refine ⟨some (.int (ZG (c+1))),?_⟩
  rw [Zj,WJ,c1,XV,if_pos rfl,Zj,Yn c2 rfl rfl,Zg]
  simp only [Zk,Zl]
  rw [Zj,Jc (xs:=rs) rfl,c3,Option.bind_some,if_pos (by rw [decide_eq_true z,Bool.and_true]; rfl),Zg,ZQ,Zg,ZQ]
  rfl
theorem Zdj {xs rs:List P}{i:Nat}{p:P}{x3:Option P} (hi:xs[i]?=some p) (hp:X6 .tuple p=some (.bl false)) :
  px F [1] Zr [some (.tup xs),some (.lst true rs),some (.int (i:Int)),x3]=some (.nx [some (.tup xs),some (.lst true rs),some (.int (i:Int)),x3]):=by
 have ai:atP xs (i:Int)=some p:=by rw [Yi rfl,hi]
 unfold Zr
 rw [ZX (by first | rfl | simp [ai,hp])]
 rfl
theorem ZeS:Zn T (n+1) 156 [Zd r]=some (.lst true ((Yj r).map (Zx (S "more")))):=by
 rw [Zy (f:=c__law_more_k23) rfl rfl rfl]
 show Xi (px (Zn T n) [1] (.seq (.set 1 (.lstE .anil)) (.seq (.for3 2 (.acons (.cst (.int (1))) (.acons (.len (.var 0)) .anil)) Zr) (.seq (.ret (.var 1)) .skip))) [some (Zd r),none,none,none])=_
 rw [Zj,Y7 (p:=.lst true []) (by first | rfl | simp) rfl rfl,Zg]
 simp only [Zk,Zl]
 have ty:∀ {xs rs:List P}{i:Nat}{o:Opd}{x2 x3:Option P},xs[i]?=some (Zp o)→xs.length≤10→rs.length≤10→∃ y3,px (Zn T n) [1] Zr (Zt [some (.tup xs),some (.lst true rs),x2,x3] 2 (.int (i:Int)))=some (.nx [some (.tup xs),some (.lst true (rs++(Ys o).map fun o'=>.tup [.str (S "more"),.tup (xs.set i (Zp o'))])),some (.int (i:Int)),y3]):=fun h1 h2 h3=>ZeB h1 h2 h3
 have tn:∀ {xs rs:List P}{i:Nat}{p:P}{x2 x3:Option P},xs[i]?=some p→X6 .tuple p=some (.bl false)→px (Zn T n) [1] Zr (Zt [some (.tup xs),some (.lst true rs),x2,x3] 2 (.int (i:Int)))=some (.nx [some (.tup xs),some (.lst true rs),some (.int (i:Int)),x3]):=fun h1 h2=>Zdj h1 h2
 have hl:∀ {y:Opd}{g:Opd→P},([]++(Ys y).map g).length≤10:=fun {y g}=>by
  have:=Yv (y:=y); simp; omega
 cases r with
 | put x y s z=>
  rw [Zfa,Zj,XY (zs:=[((1:Nat):Int),((2:Nat):Int),((3:Nat):Int),((4:Nat):Int)]) (p:=.tup [.int 1,.int 5]) (by first | rfl | simp) (by rfl) rfl]
  simp only [List.map_cons,List.map_nil]
  rw [Zs,tn (p:=.int (x:Int)) rfl rfl,ZC,Zs]
  obtain ⟨y3,e⟩:=ty (xs:=[.str (S "put"),.int (x:Int),Zp y,.str s,Zp z]) (rs:=[]) (i:=2) (o:=y) (x2:=some (.int ((1:Nat):Int))) (x3:=none) rfl (by first | rfl | simp) (by first | rfl | simp)
  rw [e,ZC,Zs,tn (p:=.str s) rfl rfl,ZC,Zs]
  obtain ⟨y4,e⟩:=ty (xs:=[.str (S "put"),.int (x:Int),Zp y,.str s,Zp z]) (rs:=[]++(Ys y).map fun o'=>.tup [.str (S "more"),.tup ([.str (S "put"),.int (x:Int),Zp y,.str s,Zp z].set 2 (Zp o'))]) (i:=4) (o:=z) (x2:=some (.int ((3:Nat):Int))) (x3:=y3) rfl (by first | rfl | simp) hl
  rw [e,ZC,YB,Zg,Z6 rfl]
  simp [Yj,Zd,Zx,Function.comp_def]
 | ifr y s z t=>
  rw [Zd4,Zj,XY (zs:=[((1:Nat):Int),((2:Nat):Int),((3:Nat):Int),((4:Nat):Int)]) (p:=.tup [.int 1,.int 5]) (by first | rfl | simp) (by rfl) rfl]
  simp only [List.map_cons,List.map_nil]
  rw [Zs]
  obtain ⟨y3,e⟩:=ty (xs:=[.str (S "if"),Zp y,.str s,Zp z,.int (t:Int)]) (rs:=[]) (i:=1) (o:=y) (x2:=none) (x3:=none) rfl (by first | rfl | simp) (by first | rfl | simp)
  rw [e,ZC,Zs,tn (p:=.str s) rfl rfl,ZC,Zs]
  obtain ⟨y4,e⟩:=ty (xs:=[.str (S "if"),Zp y,.str s,Zp z,.int (t:Int)]) (rs:=[]++(Ys y).map fun o'=>.tup [.str (S "more"),.tup ([.str (S "if"),Zp y,.str s,Zp z,.int (t:Int)].set 1 (Zp o'))]) (i:=3) (o:=z) (x2:=some (.int ((2:Nat):Int))) (x3:=y3) rfl (by first | rfl | simp) hl
  rw [e,ZC,Zs,tn (p:=.int (t:Int)) rfl rfl,ZC,YB,Zg,Z6 rfl]
  simp [Yj,Zd,Zx,Function.comp_def]
 | tell y=>
  rw [show Zd (.tell y)=.tup [.str (S "tell"),Zp y] from rfl,Zj,XY (zs:=[((1:Nat):Int)]) (p:=.tup [.int 1,.int 2]) (by first | rfl | simp) (by rfl) rfl]
  simp only [List.map_cons,List.map_nil]
  rw [Zs]
  obtain ⟨y3,e⟩:=ty (xs:=[.str (S "tell"),Zp y]) (rs:=[]) (i:=1) (o:=y) (x2:=none) (x3:=none) rfl (by first | rfl | simp) (by first | rfl | simp)
  rw [e,ZC,YB,Zg,Z6 rfl]
  simp [Yj,Zd,Zx,Function.comp_def]
 | go t=>
  rw [show Zd (.go t)=.tup [.str (S "go"),.int (t:Int)] from rfl,Zj,XY (zs:=[((1:Nat):Int)]) (p:=.tup [.int 1,.int 2]) (by first | rfl | simp) (by rfl) rfl]
  simp only [List.map_cons,List.map_nil]
  rw [Zs,tn (p:=.int (t:Int)) rfl rfl,ZC,YB,Zg,Z6 rfl]
  rfl
 | skip=>
  rw [show Zd .skip=.tup [.str (S "skip")] from rfl,Zj,XY (zs:=[]) (p:=.tup [.int 1,.int 1]) (by first | rfl | simp) (by rfl) rfl]
  simp only [List.map_nil]
  rw [YB,Zg,Z6 rfl]
  rfl
theorem JJ:YE .NotEq (Zd r) (.tup [.str (S "skip")])=some (.bl (match r with
  | .skip=>false
  | _=>true)):=by
 cases r with
 | put x y s z=>cases y<;>cases z<;>rfl
 | ifr y s z t=>cases y<;>cases z<;>rfl
 | go t=>rfl
 | tell y=>cases y<;>rfl
 | skip=>rfl
theorem XU {M:List Nat}{k:Nat}{e:CE}{q:CS}{π:Zo}{p:P}{xs:List P} (h:π[k]?=some (some (.lst true xs))) (he:pe F e π=some p) (hk:(M.contains k&&Zv M e p)=true) (hl:xs.length≤1000):px F M (.seq (.app k e) q) π=px F M q (Zt π k (.lst true (xs++[p]))):=by
 have z:xs.length < Zi:=by unfold Zi; omega
 rw [Zj,Jc h,he,Option.bind_some,if_pos (by rw [hk,decide_eq_true z]; rfl),Zg]
theorem Zaj {M:List Nat}{c:CE}{a b q:CS}{π π':Zo} (h:pe F c π=some (.bl true)) (ha:px F M a π=some (.nx π')):px F M (.seq (.ite c a b) q) π=px F M q π':=by
 rw [Zj,WJ,h,XV,if_pos rfl,ha,Zg]
theorem XX {π:Zo}{xs:List P}{x2:Option P} (hx:xs.length≤10) (hr:r≠.skip):px F [1,1] (.seq (.ite (.cmp .NotEq (.var 0) (.tupE (.acons (.cst (.str (S "skip"))) .anil))) (.seq (.app 1 (.tupE (.acons (.cst (.str (S "out"))) (.acons (.tupE (.acons (.cst (.str (S "skip"))) .anil)) .anil)))) .skip) .skip) (.seq (.ret (.var 1)) .skip)) [some (Zd r),some (.lst true xs),x2]=some (.rt (.lst true (xs++[Zx (S "out") .skip]))):=by
 have nk:=JJ (r:=r)
 rw [Zaj (π':=[some (Zd r),some (.lst true (xs++[Zx (S "out") .skip])),x2]) (by
  simp only [ZeW,pe_var,ZdE,Xo,Jq,QW,List.getElem?_cons_zero,Option.join_some,Option.bind_some,ZcP,Ql,List.length_nil,show (0:Nat) < 1000 by omega,if_true,nk]
  first
   | done
   | (cases r<;>first | rfl | exact absurd rfl hr)) (by
  rw [XU (xs:=xs) (p:=Zx (S "out") .skip) rfl (by first | rfl | simp [Zx,Zd]) rfl (by omega),ZQ]
  rfl),Z6 rfl]
theorem ZgM (h:XG r):Zn T (n+1) 175 [Zd r]=some (.lst true ((YF r).map (Zx (S "turn"))++(XI r).map (Zx (S "out")))):=by
 rw [Zy (f:=c__law_turn_and_out) rfl rfl rfl]
 have nk:=JJ (r:=r)
 have hz:∀ k,k≤10→k≤Zi:=fun k h=>Zgd h
 have ixd:∀ (ks:List Str) (vs:List P) (k:Str),ixP (.dct ks vs) (.str k)=YC ks vs k:=fun _ _ _=>rfl
 show Xi (px (Zn T n) [1,1] c__law_turn_and_out.body [some (Zd r),none,none])=_
 unfold c__law_turn_and_out
 rw [Zj,Y7 (p:=.lst true []) (by first | rfl | simp) rfl rfl,Zg]
 simp only [Zk,Zl]
 cases r with
 | put x y s z=>
  rw [ZX (by first | rfl | simp [Zd]),XX (π:=[]) (by first | rfl | simp) (by first | rfl | simp)]
  rfl
 | ifr y s z t=>
  have h:ISg s:=h
  have e2:pe (Zn T n) (.dict [(S "<"),(S "<="),(S "="),(S ">="),(S ">"),(S "!=")] (.acons (.cst (.str (S ">="))) (.acons (.cst (.str (S ">"))) (.acons (.cst (.str (S "!="))) (.acons (.cst (.str (S "<"))) (.acons (.cst (.str (S "<="))) (.acons (.cst (.str (S "="))) .anil))))))) [some (Zd (.ifr y s z t)),some (.lst true []),none]=some (.dct [(S "<"),(S "<="),(S "="),(S ">="),(S ">"),(S "!=")] [.str (S ">="),.str (S ">"),.str (S "!="),.str (S "<"),.str (S "<="),.str (S "=")]):=by
   simp [VD]
  rw [Zaj (π':=[some (Zd (.ifr y s z t)),some (.lst true [Zx (S "turn") (.ifr y (Zeb s) z t)]),some (.dct [(S "<"),(S "<="),(S "="),(S ">="),(S ">"),(S "!=")] [.str (S ">="),.str (S ">"),.str (S "!="),.str (S "<"),.str (S "<="),.str (S "=")])]) (by first | rfl | simp [Zd]) (by
   rw [Zj,Yn e2 rfl rfl,Zg]
   simp only [Zk,Zl]
   rw [XU (xs:=[]) (p:=Zx (S "turn") (.ifr y (Zeb s) z t)) rfl (by
    rw [Zd4]
    rcases h with rfl | rfl | rfl | rfl | rfl | rfl<;>rfl) rfl (by first | rfl | simp),ZQ]
   rfl),XX (π:=[]) (by first | rfl | simp) (by first | rfl | simp)]
  rfl
 | go t=>
  rw [ZX (by first | rfl | simp [Zd]),XX (π:=[]) (by first | rfl | simp) (by first | rfl | simp)]
  rfl
 | tell y=>
  rw [ZX (by first | rfl | simp [Zd]),XX (π:=[]) (by first | rfl | simp) (by first | rfl | simp)]
  rfl
 | skip=>
  rw [show Zd .skip=.tup [.str (S "skip")] from rfl] at nk ⊢
  rw [ZX (by first | rfl | simp),ZX (by first | rfl | simp [nk]),Z6 rfl]
  rfl
noncomputable def sf3:CS:=(.seq (.ite (.and (.cmp .In (.ix (.var 0) (.cst (.int (0)))) (.lstE (.acons (.cst (.str (S "go"))) (.acons (.cst (.str (S "if"))) .anil)))) (.cmp .Lt (.ix (.var 0) (.neg (.cst (.int (1))))) (.var 1))) (.seq (.app 2 (.tupE (.acons (.cst (.str (S "far"))) (.acons (.bin .Add (.slice (.var 0) .nop (.part (.neg (.cst (.int (1)))))) (.tupE (.acons (.bin .Add (.ix (.var 0) (.neg (.cst (.int (1))))) (.cst (.int (1)))) .anil))) .anil))))
 .skip) .skip)
 (.seq (.ret (.var 2))
 .skip))
theorem Yy {xs:List P} (hx:xs.length≤10):px F [2,2,2] sf3 [some (Zd r),some (.int (many:Int)),some (.lst true xs)]=some (.rt (.lst true (xs++(YI many r).map (Zx (S "far"))))):=by
 have hz:∀ k,k≤10→k≤Zi:=fun k h=>Zgd h
 have i1:∀ w:Str,YE .In (.str w) (.lst true [.str (S "go"),.str (S "if")])=(X1 w [.str (S "go"),.str (S "if")]).map .bl:=fun _=>rfl
 unfold sf3
 cases r with
 | ifr y s z t=>
  by_cases k:t < many
  ·rw [Zaj (π':=[some (Zd (.ifr y s z t)),some (.int (many:Int)),some (.lst true (xs++[Zx (S "far") (.ifr y s z (t+1))]))]) (by first | rfl | simp [Zd,i1,X1,k]) (by
    rw [XU (xs:=xs) (p:=Zx (S "far") (.ifr y s z (t+1))) rfl (by first | rfl | simp [Zd,Zx,sl5,hz]) rfl (by omega),ZQ]
    rfl),Z6 rfl]
   simp [YI,k]
  ·rw [ZX (by first | rfl | simp [Zd,i1,X1,k]),Z6 rfl]
   simp [YI,k]
 | go t=>
  by_cases k:t < many
  ·rw [Zaj (π':=[some (Zd (.go t)),some (.int (many:Int)),some (.lst true (xs++[Zx (S "far") (.go (t+1))]))]) (by first | rfl | simp [Zd,i1,X1,k]) (by
    rw [XU (xs:=xs) (p:=Zx (S "far") (.go (t+1))) rfl (by first | rfl | simp [Zd,Zx,sl2,hz]) rfl (by omega),ZQ]
    rfl),Z6 rfl]
   simp [YI,k]
  ·rw [ZX (by first | rfl | simp [Zd,i1,X1,k]),Z6 rfl]
   simp [YI,k]
 | put x y s z=>
  rw [ZX (by first | rfl | simp [Zd,i1,X1]),Z6 rfl]
  simp [YI]
 | tell y=>
  rw [ZX (by first | rfl | simp [Zd,i1,X1]),Z6 rfl]
  simp [YI]
 | skip=>
  rw [ZX (by first | rfl | simp [Zd,i1,X1]),Z6 rfl]
  simp [YI]
theorem Zgn:Zn T (n+1) 176 [Zd r,.int (many:Int)]=some (.lst true ((Yb r).map (Zx (S "swap"))++(YI many r).map (Zx (S "far")))):=by
 rw [Zy (f:=c__law_swap_and_far) rfl rfl rfl]
 show Xi (px (Zn T n) [2,2,2] (.seq (.set 2 (.lstE .anil)) (.seq (.ite _ (.seq (.app 2 _) .skip) .skip) (.seq (.ite _ (.seq (.app 2 _) .skip) .skip) sf3))) [some (Zd r),some (.int (many:Int)),none])=_
 rw [Zj,Y7 (p:=.lst true []) (by first | rfl | simp) rfl rfl,Zg]
 simp only [Zk,Zl]
 cases r with
 | put x y s z=>
  cases q:eqO y z
  ·rw [Zaj (π':=[some (Zd (.put x y s z)),some (.int (many:Int)),some (.lst true [Zx (S "swap") (.put x z s y)])]) (by first | rfl | simp [Zd,ne_O,q]) (by
    rw [XU (xs:=[]) (p:=Zx (S "swap") (.put x z s y)) rfl (by first | rfl | simp [Zd,Zx]) rfl (by first | rfl | simp),ZQ]
    rfl),ZX (by first | rfl | simp [Zd]),Yy (by first | rfl | simp)]
   simp [Yb,q]
  ·rw [ZX (by first | rfl | simp [Zd,ne_O,q]),ZX (by first | rfl | simp [Zd]),Yy (by first | rfl | simp)]
   simp [Yb,q]
 | ifr y s z t=>
  cases q:eqO y z
  ·rw [ZX (by first | rfl | simp [Zd]),Zaj (π':=[some (Zd (.ifr y s z t)),some (.int (many:Int)),some (.lst true [Zx (S "swap") (.ifr z s y t)])]) (by first | rfl | simp [Zd,ne_O,q]) (by
    rw [XU (xs:=[]) (p:=Zx (S "swap") (.ifr z s y t)) rfl (by first | rfl | simp [Zd,Zx]) rfl (by first | rfl | simp),ZQ]
    rfl),Yy (by first | rfl | simp)]
   simp [Yb,q]
  ·rw [ZX (by first | rfl | simp [Zd]),ZX (by first | rfl | simp [Zd,ne_O,q]),Yy (by first | rfl | simp)]
   simp [Yb,q]
 | go t=>
  rw [ZX (by first | rfl | simp [Zd]),ZX (by first | rfl | simp [Zd]),Yy (by first | rfl | simp)]
  simp [Yb]
 | tell y=>
  rw [ZX (by first | rfl | simp [Zd]),ZX (by first | rfl | simp [Zd]),Yy (by first | rfl | simp)]
  simp [Yb]
 | skip=>
  rw [ZX (by first | rfl | simp [Zd]),ZX (by first | rfl | simp [Zd]),Yy (by first | rfl | simp)]
  simp [Yb]
noncomputable def fkR (many:Nat) (r:Row):List (Str×Row):=
 (YG r).map (S "sign",·)++((Yj r).map (S "more",·)++((YF r).map (S "turn",·)++((XI r).map (S "out",·)++((Yb r).map (S "swap",·)++(YI many r).map (S "far",·)))))
noncomputable def Xg (k:Nat) (q:Str×Row):P:=.tup [.int (k:Int),.str q.1,Zd q.2]
noncomputable def Yk (many:Nat):Nat→List Row→List P
 | _,[]=>[]
 | k,r :: rs=>(fkR many r).map (Xg k)++Yk many (k+1) rs
theorem Uc:(fkR many r).length≤8:=by
 have h1:(YG r).length≤1:=by cases r<;>simp [YG]
 have h2:=Wf (r:=r)
 have h3:(YF r).length≤1:=by cases r<;>simp [YF]
 have h4:(XI r).length≤1:=by cases r<;>simp [XI]
 have h5:=WQ (r:=r)
 have h6:=V4 (many:=many) (r:=r)
 simp [fkR]
 omega
theorem Wi:∀ (rs:List Row) (k:Nat),(Yk many k rs).length≤8 * rs.length
 | [],_=>Nat.le_refl _
 | r :: rs,k=>by
  have h1:=Uc (many:=many) (r:=r)
  have h2:=Wi rs (k+1)
  simp only [Yk,List.length_append,List.length_map,List.length_cons]
  omega
theorem VI {r:Row}:∀ (rs:List Row) (k:Nat),Yk many k (rs++[r])=Yk many k rs++(fkR many r).map (Xg (k+rs.length))
 | [],k=>by simp [Yk]
 | q :: rs,k=>by
  rw [List.cons_append,Yk,Yk,VI rs (k+1),List.append_assoc,List.length_cons,show k+1+rs.length=k+(rs.length+1) by omega]
theorem VF:∀ {rs:List Row}{k:Nat}{p:P},p∈Yk many k rs→∃ j q,p=Xg j q
 | [],_,_,h=>nomatch h
 | r :: rs,k,p,h=>by
  rcases List.mem_append.mp h with h | h
  ·obtain ⟨q,_,rfl⟩:=List.mem_map.mp h
   exact ⟨k,q,rfl⟩
  ·exact VF h
theorem J4 {π:Zo}{fr:List Nat}{it elt:CE}{rs:List Row}{g:Row→P} (hi:pe F it π=some (.tup (rs.map Zd))) (hl:rs.length≤1000) (hf:∀ r,pe F elt (YO π fr (Zd r))=some (g r)):pe F (.comp false fr it elt (.cst (.bl true))) π=some (.lst true (rs.map g)):=by
 have cr:∀ rs:List Row,Y1 (fun p=>pe F elt (YO π fr p)) (fun p=>pe F (.cst (.bl true)) (YO π fr p)) (rs.map Zd)=some (rs.map g):=fun rs=>by
  induction rs with
  | nil=>rfl
  | cons r rs ih=>
   rw [List.map_cons]
   unfold Y1
   rw [show pe F (.cst (.bl true)) (YO π fr (Zd r))=some (.bl true) from rfl,hf]
   simp only
   rw [ih]
   rfl
 rw [V5,hi,Option.bind_some,show YL false (.tup (rs.map Zd))=some (rs.map Zd) from rfl,Option.bind_some,if_pos (by rw [List.length_map]; exact hl),cr]
 rfl
noncomputable def ZeR:List (Nat×Nat):=[(146,148),(169,171),(149,151),(157,159),(152,154),(160,162),(163,165)]
noncomputable def ZfJ:List (Nat×Nat):=[(146,147),(169,170),(149,150),(157,158),(152,153),(160,161),(163,164)]
theorem Zdl {x0 x2:Option P}{rows told:List P}{k i:Nat}{rs:List Row}{w:Str} (hT:X7 F ZeR (.obj i) (.tup [Zd r,.int (rows.length:Int)])=some (.tup (rs.map Zd))) (hW:X7 F ZfJ (.obj i) (.tup [])=some (.str w)) (hr:rs.length≤10) (ht:told.length≤200) :
  px F [3] Xr [x0,some (.tup rows),x2,some (.lst true told),some (.int (k:Int)),some (Zd r),some (.obj i)]=some (.nx [x0,some (.tup rows),x2,some (.lst true (told++rs.map fun q=>Xg k (w,q))),some (.int (k:Int)),some (Zd r),some (.obj i)]):=by
 unfold ZeR at hT
 unfold ZfJ at hW
 have e:pe F Vr [x0,some (.tup rows),x2,some (.lst true told),some (.int (k:Int)),some (Zd r),some (.obj i)]=some (.lst true (rs.map fun q=>Xg k (w,q))):=
  J4 (by first | rfl | simp [hT]) (by omega) fun q=>by
   show pe F _ [some (Zd q),some (.int (k:Int)),some (.obj i)]=_
   simp [hW,Xg]
 unfold Xr
 rw [Zj,Ze2 (xs:=told) (ys:=rs.map fun q=>Xg k (w,q)) rfl e rfl (by rw [List.length_map]; unfold Zi; omega),Zg,ZQ]
 rfl
theorem Zfy {x0 x6:Option P}{rows told:List P}{k:Nat} (hS:F 171 [.obj 169,Zd r,.int (rows.length:Int)]=some (.tup ((YG r).map Zd))) (hM:F 151 [.obj 149,Zd r,.int (rows.length:Int)]=some (.tup ((Yj r).map Zd))) (hU:F 159 [.obj 157,Zd r,.int (rows.length:Int)]=some (.tup ((YF r).map Zd)))
  (hO:F 154 [.obj 152,Zd r,.int (rows.length:Int)]=some (.tup ((XI r).map Zd))) (hP:F 162 [.obj 160,Zd r,.int (rows.length:Int)]=some (.tup ((Yb r).map Zd))) (hA:F 165 [.obj 163,Zd r,.int (rows.length:Int)]=some (.tup ((YI rows.length r).map Zd)))
  (w1:F 170 [.obj 169]=some (.str (S "sign"))) (w2:F 150 [.obj 149]=some (.str (S "more"))) (w3:F 158 [.obj 157]=some (.str (S "turn"))) (w4:F 153 [.obj 152]=some (.str (S "out"))) (w5:F 161 [.obj 160]=some (.str (S "swap"))) (w6:F 164 [.obj 163]=some (.str (S "far"))) (ht:told.length≤150) :
  px F [3] YY [x0,some (.tup rows),some (.lst true [.obj 169,.obj 149,.obj 157,.obj 152,.obj 160,.obj 163]),some (.lst true told),some (.int (k:Int)),some (Zd r),x6]=some (.nx [x0,some (.tup rows),some (.lst true [.obj 169,.obj 149,.obj 157,.obj 152,.obj 160,.obj 163]),some (.lst true (told++(fkR rows.length r).map (Xg k))),some (.int (k:Int)),some (Zd r),some (.obj 163)]):=by
 have h1:(YG r).length≤1:=by cases r<;>simp [YG]
 have h2:=Wf (r:=r)
 have h3:(YF r).length≤1:=by cases r<;>simp [YF]
 have h4:(XI r).length≤1:=by cases r<;>simp [XI]
 have h5:=WQ (r:=r)
 have h6:=V4 (many:=rows.length) (r:=r)
 have st:∀ {told:List P}{i:Nat}{rs:List Row}{w:Str}{x6:Option P},X7 F ZeR (.obj i) (.tup [Zd r,.int (rows.length:Int)])=some (.tup (rs.map Zd))→X7 F ZfJ (.obj i) (.tup [])=some (.str w)→rs.length≤10→told.length≤200→
   px F [3] Xr (Zt [x0,some (.tup rows),some (.lst true [.obj 169,.obj 149,.obj 157,.obj 152,.obj 160,.obj 163]),some (.lst true told),some (.int (k:Int)),some (Zd r),x6] 6 (.obj i))=some (.nx [x0,some (.tup rows),some (.lst true [.obj 169,.obj 149,.obj 157,.obj 152,.obj 160,.obj 163]),some (.lst true (told++rs.map fun q=>Xg k (w,q))),some (.int (k:Int)),some (Zd r),some (.obj i)]):=fun a b c d=>Zdl a b c d
 unfold YY
 rw [Zj,Zdx (m:=true) (xs:=[.obj 169,.obj 149,.obj 157,.obj 152,.obj 160,.obj 163]) (by first | rfl | simp) (by rfl)]
 rw [Zs,st (i:=169) (rs:=YG r) (w:=S "sign") hS w1 (by omega) (by omega),ZC]
 rw [Zs,st (i:=149) (rs:=Yj r) (w:=S "more") hM w2 (by omega) (by simp; omega),ZC]
 rw [Zs,st (i:=157) (rs:=YF r) (w:=S "turn") hU w3 (by omega) (by simp; omega),ZC]
 rw [Zs,st (i:=152) (rs:=XI r) (w:=S "out") hO w4 (by omega) (by simp; omega),ZC]
 rw [Zs,st (i:=160) (rs:=Yb r) (w:=S "swap") hP w5 (by omega) (by simp; omega),ZC]
 rw [Zs,st (i:=163) (rs:=YI rows.length r) (w:=S "far") hA w6 (by omega) (by simp; omega),ZC,YB,Zg,ZQ]
 simp only [fkR,List.map_append,List.map_map,List.append_assoc,Function.comp_def]
theorem J5 {B:P→P→Zo→Option PFl}{x y:P}{ps:List (P×P)}{π:Zo}:YN B ((x,y) :: ps) π=Qt (B x y π) (YN B ps):=by
 show (match B x y π with
  | some (.nx π')=>YN B ps π'
  | some (.ct π')=>YN B ps π'
  | some (.bk π')=>some (.nx π')
  | some (.rt v)=>some (.rt v)
  | none=>none)=_
 unfold Qt
 rfl
theorem JA {x0:Option P}{rows:List P}{st:P} (row:∀ (r:Row) (told:List P) (k:Nat) (x6:Option P),XG r→told.length≤150→px F [3] YY [x0,some (.tup rows),some st,some (.lst true told),some (.int (k:Int)),some (Zd r),x6]=some (.nx [x0,some (.tup rows),some st,some (.lst true (told++(fkR rows.length r).map (Xg k))),some (.int (k:Int)),some (Zd r),some (.obj 163)])) :
  ∀ (rs:List Row) (k:Nat) (told:List P) (x4 x5 x6:Option P),(∀ r∈rs,XG r)→told.length+8 * rs.length≤150→
  ∃ y4 y5 y6,YN (fun x y π=>px F [3] YY (Zt (Zt π 4 x) 5 y)) (Wk k (rs.map Zd)) [x0,some (.tup rows),some st,some (.lst true told),x4,x5,x6]=some (.nx [x0,some (.tup rows),some st,some (.lst true (told++Yk rows.length k rs)),y4,y5,y6])
 | [],k,told,x4,x5,x6,_,_=>⟨x4,x5,x6,by rw [Yk,List.append_nil]; rfl⟩
 | r :: rs,k,told,x4,x5,x6,h,hl=>by
  have hr:=Uc (many:=rows.length) (r:=r)
  rw [List.length_cons] at hl
  obtain ⟨y4,y5,y6,e⟩:=JA row rs (k+1) (told++(fkR rows.length r).map (Xg k)) (some (.int (k:Int))) (some (Zd r)) (some (.obj 163)) (fun q hq=>h q (List.mem_cons_of_mem _ hq)) (by simp; omega)
  refine ⟨y4,y5,y6,?_⟩
  show YN _ ((.int (k:Int),Zd r) :: Wk (k+1) (rs.map Zd)) _=_
  rw [J5]
  simp only [Zk,Zl]
  rw [row r told k x6 (h r List.mem_cons_self) (by omega),ZC,e,Yk,List.append_assoc]
theorem ZcE {p:Prog} (hg:∀ r∈p.rows,XG r) (hl:p.rows.length≤12):Zn T (n+4) 172 [Wn p]=some (.tup (Yk p.rows.length 0 p.rows)):=by
 rw [Zy (f:=c_fakes) rfl rfl rfl]
 show Xi (px (Zn T (n+3)) [3] c_fakes.body [some (Wn p),none,none,none,none,none,none])=_
 have el:(p.rows.map Zd).length=p.rows.length:=List.length_map ..
 obtain ⟨y4,y5,y6,e⟩:=JA (F:=Zn T (n+3)) (x0:=some (Wn p)) (rows:=p.rows.map Zd) (st:=.lst true [.obj 169,.obj 149,.obj 157,.obj 152,.obj 160,.obj 163]) (fun r told k x6 h hl=>
  Zfy (Zfb (n:=n+1) h) (ZeJ (n:=n+1)) (ZeP (n:=n+1) h) (Zgy (n:=n+2)) (ZeN (n:=n+2)) (ZgH (n:=n+2)) rfl rfl rfl rfl rfl rfl hl) p.rows 0 [] none none none hg (by simp; omega)
 rw [el,List.nil_append] at e
 unfold c_fakes
 rw [Zj,Yn (p:=.tup (p.rows.map Zd)) (by first | rfl | simp [Wn]) rfl rfl,Zg]
 simp only [Zk,Zl]
 rw [Zj,Yn (p:=.lst true [.obj 169,.obj 149,.obj 157,.obj 152,.obj 160,.obj 163]) (by first | rfl | simp) rfl rfl,Zg]
 simp only [Zk,Zl]
 rw [Zj,Y7 (p:=.lst true []) (by first | rfl | simp) rfl rfl,Zg]
 simp only [Zk,Zl]
 rw [Zj,ZcB (x:=.tup (p.rows.map Zd)) (xs:=p.rows.map Zd) (by first | rfl | simp) rfl rfl,e,Zg,Z6 (v:=.tup (Yk p.rows.length 0 p.rows)) (by first | rfl | simp)]
 rfl
theorem Zdg {ns:List Int}{k:Nat}{x1 x2 x4 x5 x6:Option P} (h27:∀ k:Nat,F 27 [.lst false (ns.map .int),.int (k:Int)]=some (.int (ZT ns k))):∃ c0 c1 c2 c3,pe F ZZ [some (.lst false (ns.map .int)),x1,x2,some (.int (k:Int)),x4,x5,x6]=some (.lst true [.int c0,.int c1,.int c2,.int c3]):=by
 have l4:YM 4=true:=by decide
 have one:∀ j:Nat,pe F (.call 27 (.acons (.var 2) (.acons (.bin .Add (.bin .Add (.cst (.int (4))) (.bin .Mult (.cst (.int (4))) (.var 1))) (.var 0)) .anil)) []) (YO [some (.lst false (ns.map .int)),x1,x2,some (.int (k:Int)),x4,x5,x6] [3,0] (.int (j:Int)))=some (.int (ZT ns (4+4 * k+j))):=fun j=>by
  have e:=h27 (4+4 * k+j)
  have hp:YO [some (.lst false (ns.map .int)),x1,x2,some (.int (k:Int)),x4,x5,x6] [3,0] (.int (j:Int))=[some (.int (j:Int)),some (.int (k:Int)),some (.lst false (ns.map .int))]:=rfl
  rw [show ((4+4 * k+j:Nat):Int)=4+4 * (k:Int)+(j:Int) by omega] at e
  rw [hp]
  have e4:pe F (.bin .Mult (.cst (.int (4))) (.var 1)) [some (.int (j:Int)),some (.int (k:Int)),some (.lst false (ns.map .int))]=some (.int (4 * (k:Int))):=by
   rw [XH,QW,Jl,Option.bind_some,pe_var]
   show (some (P.int (k:Int))).bind (fun y=>Y4 .Mult (.int 4) y)=_
   rw [Option.bind_some,ZdM,l4,Bool.true_or,if_pos rfl]
  have e5:pe F (.bin .Add (.bin .Add (.cst (.int (4))) (.bin .Mult (.cst (.int (4))) (.var 1))) (.var 0)) [some (.int (j:Int)),some (.int (k:Int)),some (.lst false (ns.map .int))]=some (.int (4+4 * (k:Int)+(j:Int))):=by
   rw [XH,XH,e4,QW,Jl,Option.bind_some,Option.bind_some,JD,Option.bind_some,pe_var]
   show (some (P.int (j:Int))).bind (fun y=>Y4 .Add (.int (4+4 * (k:Int))) y)=_
   rw [Option.bind_some,JD]
  rw [pe_call,Xo,Xo,e5]
  simp [e]
 refine ⟨ZT ns (4+4 * k+0),ZT ns (4+4 * k+1),ZT ns (4+4 * k+2),ZT ns (4+4 * k+3),?_⟩
 unfold ZZ
 rw [V5]
 show ((some (P.int 4)).bind fun x=>_)=_
 rw [Option.bind_some,show YL true (.int 4)=some [.int ((0:Nat):Int),.int ((1:Nat):Int),.int ((2:Nat):Int),.int ((3:Nat):Int)] from rfl,Option.bind_some,if_pos (by first | rfl | simp)]
 have t:∀ p:P,pe F (.cst (.bl true)) (YO [some (.lst false (ns.map .int)),x1,x2,some (.int (k:Int)),x4,x5,x6] [3,0] p)=some (.bl true):=fun _=>rfl
 simp only [Y1,t,one,Option.bind_some]
theorem ZgL {ns:List Int}{size k:Nat}{x2 x4:Option P}{rs:List Row} (h27:∀ k:Nat,F 27 [.lst false (ns.map .int),.int (k:Int)]=some (.int (ZT ns k))) (h72:∀ c0 c1 c2 c3,∃ r,XG r∧F 72 [.lst true [.int c0,.int c1,.int c2,.int c3],.int (m:Int),.int (size:Int)]=some (Zd r)) (hl:rs.length≤100) :
  ∃ r,XG r∧px F [2,6] ZH [some (.lst false (ns.map .int)),some (.int (m:Int)),x2,some (.int (k:Int)),x4,some (.int (size:Int)),some (.lst true (rs.map Zd))]=some (.nx [some (.lst false (ns.map .int)),some (.int (m:Int)),x2,some (.int (k:Int)),x4,some (.int (size:Int)),some (.lst true ((rs++[r]).map Zd))]):=by
 obtain ⟨c0,c1,c2,c3,ce⟩:=Zdg (F:=F) (ns:=ns) (k:=k) (x1:=some (.int (m:Int))) (x2:=x2) (x4:=x4) (x5:=some (.int (size:Int))) (x6:=some (.lst true (rs.map Zd))) h27
 obtain ⟨r,hr,er⟩:=h72 c0 c1 c2 c3
 refine ⟨r,hr,?_⟩
 unfold ZH
 rw [XU (xs:=rs.map Zd) (p:=Zd r) rfl (by rw [pe_call,Xo,ce]; simp [er]) rfl (by rw [List.length_map]; omega),ZQ,List.map_append]
 rfl
theorem ZfC {ns:List Int}{k:Nat}{x1 x4 x5 x6:Option P}{ts:List P} (h27:∀ k:Nat,F 27 [.lst false (ns.map .int),.int (k:Int)]=some (.int (ZT ns k))) (h18:∀ c,F 18 [.int c]=some (.int (nbI c))) (hl:ts.length≤100) :
  ∃ q y4,px F [2,6] ZJ [some (.lst false (ns.map .int)),x1,some (.lst true ts),some (.int (k:Int)),x4,x5,x6]=some (.nx [some (.lst false (ns.map .int)),x1,some (.lst true (ts++[q])),some (.int (k:Int)),y4,x5,x6]):=by
 have ec:=h27 (k+1)
 rw [show ((k+1:Nat):Int)=(k:Int)+1 by omega] at ec
 have e8:pe F (.rs true (.lstE (.acons (.call 18 (.acons (.call 27 (.acons (.var 0) (.acons (.bin .Add (.var 3) (.cst (.int (1)))) .anil)) []) .anil) []) (.acons (.call 18 (.acons (.bin .FloorDiv (.call 27 (.acons (.var 0) (.acons (.bin .Add (.var 3) (.cst (.int (1)))) .anil)) []) (.cst (.int (24)))) .anil) []) .anil)))) [some (.lst false (ns.map .int)),x1,some (.lst true ts),some (.int (k:Int)),x4,x5,x6]=some (.lst true (if nbI (ZT ns (k+1) / 24) < nbI (ZT ns (k+1)) then [.int (nbI (ZT ns (k+1) / 24)),.int (nbI (ZT ns (k+1)))] else [.int (nbI (ZT ns (k+1))),.int (nbI (ZT ns (k+1) / 24))])):=by
  simp [ec,h18]
 obtain ⟨a,b,hab⟩:∃ a b:Int,(if nbI (ZT ns (k+1) / 24) < nbI (ZT ns (k+1)) then [P.int (nbI (ZT ns (k+1) / 24)),.int (nbI (ZT ns (k+1)))] else [.int (nbI (ZT ns (k+1))),.int (nbI (ZT ns (k+1) / 24))])=[.int a,.int b]:=by
  split<;>exact ⟨_,_,rfl⟩
 rw [hab] at e8
 refine ⟨.tup [.int a,.int b],some (.lst true [.int a,.int b]),?_⟩
 unfold ZJ
 rw [Zj,Yn e8 rfl rfl,Zg]
 simp only [Zk,Zl]
 rw [XU (xs:=ts) (p:=.tup [.int a,.int b]) rfl (by first | rfl | simp) rfl (by omega),ZQ]
 rfl
theorem Ze3 {ns:List Int}{x1 x2 x3 x4 x5 x6:Option P}:∃ size:Nat,size≤12∧pe F (.min (.cst (.int (12))) (.bin .FloorDiv (.bin .Sub (.max (.len (.var 0)) (.cst (.int (4)))) (.cst (.int (1)))) (.cst (.int (4))))) [some (.lst false (ns.map .int)),x1,x2,x3,x4,x5,x6]=some (.int (size:Int)):=by
 obtain ⟨size,es,hs⟩:∃ size:Nat,(if ((if (4:Int) > (ns.length:Int) then (4:Int) else (ns.length:Int)) - 1) / 4 < 12 then ((if (4:Int) > (ns.length:Int) then (4:Int) else (ns.length:Int)) - 1) / 4 else 12)=(size:Int)∧size≤12:=by
  refine ⟨(if ((if (4:Int) > (ns.length:Int) then (4:Int) else (ns.length:Int)) - 1) / 4 < 12 then ((if (4:Int) > (ns.length:Int) then (4:Int) else (ns.length:Int)) - 1) / 4 else 12).toNat,?_,?_⟩<;>split<;>split<;>omega
 refine ⟨size,hs,?_⟩
 rw [←es]
 have e:pe F (.max (.len (.var 0)) (.cst (.int (4)))) [some (.lst false (ns.map .int)),x1,x2,x3,x4,x5,x6]=some (.int (if (4:Int) > (ns.length:Int) then (4:Int) else (ns.length:Int))):=by simp
 rw [Zex,XH,XH,e]
 generalize (if (4:Int) > (ns.length:Int) then (4:Int) else (ns.length:Int))=v
 simp
theorem ZeG {ns:List Int}:∃ p:Prog,(∀ r∈p.rows,XG r)∧p.rows.length≤12∧Zn T (n+5) 30 [.lst false (ns.map .int)]=some (Wn p):=by
 rw [Zy (f:=c__law_program_k23) rfl rfl rfl]
 have h27:∀ k:Nat,Zn T (n+4) 27 [.lst false (ns.map .int),.int (k:Int)]=some (.int (ZT ns k)):=fun k=>Zde rfl
 have h18:∀ c,Zn T (n+4) 18 [.int c]=some (.int (nbI c)):=fun c=>ZfU rfl
 have e0:Zn T (n+4) 27 [.lst false (ns.map .int),.int 0]=some (.int (ZT ns 0)):=h27 0
 generalize ZT ns 0=c0 at e0
 obtain ⟨m,em,hm⟩:∃ m:Nat,c0 % 6=(m:Int)∧m≤5:=⟨(c0 % 6).toNat,by omega,by omega⟩
 obtain ⟨tk,et,ht⟩:∃ tk:Nat,(if c0 / 6 % 4 < (m:Int) then c0 / 6 % 4 else (m:Int))=(tk:Int)∧tk≤3:=by
  refine ⟨(if c0 / 6 % 4 < (m:Int) then c0 / 6 % 4 else (m:Int)).toNat,?_,?_⟩<;>split<;>omega
 show ∃ p:Prog,(∀ r∈p.rows,XG r)∧p.rows.length≤12∧Xi (px (Zn T (n+4)) [2,6] c__law_program_k23.body [some (.lst false (ns.map .int)),none,none,none,none,none,none])=some (Wn p)
 obtain ⟨π,e1,ts,y3,y4,hl1,rfl⟩:=XL (B:=fun d π=>px (Zn T (n+4)) [2,6] ZJ (Zt π 3 d)) (fun i π=>∃ (ts:List P) (y3 y4:Option P),ts.length=i∧π=[some (.lst false (ns.map .int)),some (.int (m:Int)),some (.lst true ts),y3,y4,none,none]) (m:=tk) (fun i hi π hπ=>by
  obtain ⟨ts,y3,y4,hl,rfl⟩:=hπ
  obtain ⟨q,z4,e⟩:=ZfC (F:=Zn T (n+4)) (ns:=ns) (k:=i) (ts:=ts) (x1:=some (.int (m:Int))) (x4:=y4) (x5:=none) (x6:=none) h27 h18 (by omega)
  exact ⟨_,e,_,some (.int (i:Int)),z4,by simp [hl],rfl⟩) (π:=[some (.lst false (ns.map .int)),some (.int (m:Int)),some (.lst true []),none,none,none,none]) ⟨[],none,none,rfl,rfl⟩
 obtain ⟨size,hs,es⟩:=Ze3 (F:=Zn T (n+4)) (ns:=ns) (x1:=some (.int (m:Int))) (x2:=some (.lst true ts)) (x3:=y3) (x4:=y4) (x5:=none) (x6:=none)
 have h72:∀ c0 c1 c2 c3,∃ r,XG r∧Zn T (n+4) 72 [.lst true [.int c0,.int c1,.int c2,.int c3],.int (m:Int),.int (size:Int)]=some (Zd r):=fun c0 c1 c2 c3=>Zf9 (n:=n+1)
 obtain ⟨π,e2,rs,z3,hl2,hr2,rfl⟩:=XL (B:=fun d π=>px (Zn T (n+4)) [2,6] ZH (Zt π 3 d)) (fun i π=>∃ (rs:List Row) (y3:Option P),rs.length=i∧(∀ r∈rs,XG r)∧π=[some (.lst false (ns.map .int)),some (.int (m:Int)),some (.lst true ts),y3,y4,some (.int (size:Int)),some (.lst true (rs.map Zd))]) (m:=size) (fun i hi π hπ=>by
  obtain ⟨rs,y3,hl,hr,rfl⟩:=hπ
  obtain ⟨r,gr,e⟩:=ZgL (F:=Zn T (n+4)) (ns:=ns) (m:=m) (size:=size) (k:=i) (rs:=rs) (x2:=some (.lst true ts)) (x4:=y4) h27 h72 (by omega)
  refine ⟨_,e,rs++[r],some (.int (i:Int)),by simp [hl],fun q hq=>?_,rfl⟩
  rcases List.mem_append.mp hq with z | z
  ·exact hr q z
  ·rw [List.mem_singleton.mp z]; exact gr) (π:=[some (.lst false (ns.map .int)),some (.int (m:Int)),some (.lst true ts),y3,y4,some (.int (size:Int)),some (.lst true [])]) ⟨[],y3,rfl,(fun _ z=>nomatch z),rfl⟩
 refine ⟨⟨.tup ts,m,rs⟩,hr2,by show rs.length≤12; omega,?_⟩
 unfold c__law_program_k23
 rw [Zj,Yn (p:=.int (m:Int)) (by first | rfl | simp [e0,em]) rfl rfl,Zg]
 simp only [Zk,Zl]
 rw [Zj,Y7 (p:=.lst true []) (by first | rfl | simp) rfl rfl,Zg]
 simp only [Zk,Zl]
 rw [Zj,Us (n:=tk) (by rw [←et]; simp [e0]) (by omega) rfl,e1,Zg]
 rw [Zj,Yn (p:=.int (size:Int)) es rfl rfl,Zg]
 simp only [Zk,Zl]
 rw [Zj,Y7 (p:=.lst true []) (by first | rfl | simp) rfl rfl,Zg]
 simp only [Zk,Zl]
 rw [Zj,Us (n:=size) (by first | rfl | simp) (by omega) rfl,e2,Zg]
 rw [Z6 (v:=Wn ⟨.tup ts,m,rs⟩) (by first | rfl | simp [Wn])]
 rfl
theorem Qh {x0 x1 x2 x5:Option P}{k:Nat}:∀ (ps:List (Str×Row)) (due:List P) (x6 x7:Option P),due.length+ps.length≤900→
  ∃ y6 y7,ZD (XB 6 7 (px F [3] YK)) (ps.map fun q=>Zx q.1 q.2) [x0,x1,x2,some (.lst true due),some (.int (k:Int)),x5,x6,x7]=some (.nx [x0,x1,x2,some (.lst true (due++ps.map (Xg k))),some (.int (k:Int)),x5,y6,y7])
 | [],due,x6,x7,_=>⟨x6,x7,by rw [List.map_nil,List.map_nil,List.append_nil]; exact YB⟩
 | q :: ps,due,x6,x7,h=>by
  rw [List.length_cons] at h
  obtain ⟨y6,y7,e⟩:=Qh ps (due++[Xg k q]) (some (.str q.1)) (some (Zd q.2)) (by simp; omega)
  refine ⟨y6,y7,?_⟩
  rw [List.map_cons,List.map_cons,Zs]
  unfold Zx
  rw [Zci]
  simp only [Zk,Zl]
  have o:px F [3] YK [x0,x1,x2,some (.lst true due),some (.int (k:Int)),x5,some (.str q.1),some (Zd q.2)]=some (.nx [x0,x1,x2,some (.lst true (due++[Xg k q])),some (.int (k:Int)),x5,some (.str q.1),some (Zd q.2)]):=by
   unfold YK
   rw [XU (xs:=due) (p:=Xg k q) rfl (by first | rfl | simp [Xg]) rfl (by omega),ZQ]
   rfl
  rw [o,ZC]
  show ZD _ (ps.map fun q=>Zx q.1 q.2) _=_
  rw [e,List.append_assoc]
  rfl
theorem ZbU {ps:Prog}{x0 x1 x5 x6 x7:Option P}{due:List P}{k:Nat} (hk:k < ps.rows.length) (hd:due.length≤200) (hs:F 174 [Zd ps.rows[k]]=some (.lst true ((YG ps.rows[k]).map (Zx (S "sign"))))) (hm:F 156 [Zd ps.rows[k]]=some (.lst true ((Yj ps.rows[k]).map (Zx (S "more")))))
  (ht:F 175 [Zd ps.rows[k]]=some (.lst true ((YF ps.rows[k]).map (Zx (S "turn"))++(XI ps.rows[k]).map (Zx (S "out"))))) (hf:F 176 [Zd ps.rows[k],.int (ps.rows.length:Int)]=some (.lst true ((Yb ps.rows[k]).map (Zx (S "swap"))++(YI ps.rows.length ps.rows[k]).map (Zx (S "far"))))) :
  ∃ y5 y6 y7,px F [3] YQ [x0,x1,some (.tup (ps.rows.map Zd)),some (.lst true due),some (.int (k:Int)),x5,x6,x7]=some (.nx [x0,x1,some (.tup (ps.rows.map Zd)),some (.lst true (due++(fkR ps.rows.length ps.rows[k]).map (Xg k))),some (.int (k:Int)),y5,y6,y7]):=by
 have ak:atP (ps.rows.map Zd) (k:Int)=some (Zd ps.rows[k]):=by
  rw [Yi rfl,List.getElem?_map,List.getElem?_eq_getElem hk]; rfl
 have hlen:=Uc (many:=ps.rows.length) (r:=ps.rows[k])
 generalize ps.rows[k]=r at *
 have h1:(YG r).length≤1:=by cases r<;>simp [YG]
 have h2:=Wf (r:=r)
 have h3:(YF r).length≤1:=by cases r<;>simp [YF]
 have h4:(XI r).length≤1:=by cases r<;>simp [XI]
 have h5:=WQ (r:=r)
 have h6:=V4 (many:=ps.rows.length) (r:=r)
 have ix:pe F (.ix (.var 2) (.var 4)) [x0,x1,some (.tup (ps.rows.map Zd)),some (.lst true due),some (.int (k:Int)),x5,x6,x7]=some (Zd r):=by
  simp [ak]
 have sz:∀ k,k≤30→k≤Zi:=fun k h=>by unfold Zi; omega
 have ad:∀ {xs ys:List P},xs.length+ys.length≤30→Y4 .Add (.lst true xs) (.lst true ys)=some (.lst true (xs++ys)):=fun {xs ys} h=>by
  have:=sz _ h
  simp [this]
 have e5:pe F (.bin .Add (.bin .Add (.call 174 (.acons (.ix (.var 2) (.var 4)) .anil) []) (.call 156 (.acons (.ix (.var 2) (.var 4)) .anil) [])) (.call 175 (.acons (.ix (.var 2) (.var 4)) .anil) [])) [x0,x1,some (.tup (ps.rows.map Zd)),some (.lst true due),some (.int (k:Int)),x5,x6,x7]=some (.lst true ((YG r).map (Zx (S "sign"))++(Yj r).map (Zx (S "more"))++((YF r).map (Zx (S "turn"))++(XI r).map (Zx (S "out"))))):=by
  simp only [XH,pe_call,Xo,Jq,ix,Option.bind_some,Ql,List.length_nil,show (0:Nat) < 1000 by omega,if_true,ZaI,Zb4,List.append_nil,hs,hm,ht]
  rw [ad (by simp; omega),Option.bind_some,ad (by simp; omega)]
 have tot:((YG r).map (Zx (S "sign"))++(Yj r).map (Zx (S "more"))++((YF r).map (Zx (S "turn"))++(XI r).map (Zx (S "out"))))++((Yb r).map (Zx (S "swap"))++(YI ps.rows.length r).map (Zx (S "far")))=(fkR ps.rows.length r).map fun q=>Zx q.1 q.2:=by
  simp only [fkR,List.map_append,List.map_map,List.append_assoc,Function.comp_def]
 unfold YQ
 rw [Zj,Yn e5 rfl rfl,Zg]
 simp only [Zk,Zl]
 generalize hA:(YG r).map (Zx (S "sign"))++(Yj r).map (Zx (S "more"))++((YF r).map (Zx (S "turn"))++(XI r).map (Zx (S "out")))=A at *
 have lA:A.length≤6:=by rw [←hA]; simp; omega
 have e2:pe F (.bin .Add (.var 5) (.call 176 (.acons (.ix (.var 2) (.var 4)) (.acons (.len (.var 2)) .anil)) [])) [x0,x1,some (.tup (ps.rows.map Zd)),some (.lst true due),some (.int (k:Int)),some (.lst true A),x6,x7]=some (.lst true ((fkR ps.rows.length r).map fun q=>Zx q.1 q.2)):=by
  have c:pe F (.call 176 (.acons (.ix (.var 2) (.var 4)) (.acons (.len (.var 2)) .anil)) []) [x0,x1,some (.tup (ps.rows.map Zd)),some (.lst true due),some (.int (k:Int)),some (.lst true A),x6,x7]=some (.lst true ((Yb r).map (Zx (S "swap"))++(YI ps.rows.length r).map (Zx (S "far")))):=by
   simp [ak,hf]
  rw [XH,c,←tot]
  show (some (P.lst true A)).bind (fun x=>(some _).bind fun y=>Y4 .Add x y)=_
  rw [Option.bind_some,Option.bind_some,ad (by simp; omega)]
 obtain ⟨y6,y7,e⟩:=Qh (F:=F) (x0:=x0) (x1:=x1) (x2:=some (.tup (ps.rows.map Zd))) (x5:=some (.lst true A)) (k:=k) (fkR ps.rows.length r) due x6 x7 (by omega)
 refine ⟨some (.lst true A),y6,y7,?_⟩
 rw [Zj,ZcR (m:=true) e2 rfl,e,Zg,ZQ]
theorem Zgh {p:P}{j:Nat}{q:Str×Row} (h:p=Xg j q):Zn T (n+4) 36 [p,p]=some (.bl true):=by
 subst h
 exact Xc (n:=n+2) rfl (by first | rfl | simp) fun x hx=>by
  simp only [List.mem_cons,List.not_mem_nil,or_false] at hx
  rcases hx with rfl | rfl | rfl
  ·exact Ua (n:=n+2) rfl
  ·exact Uv (n:=n+2) rfl
  ·exact ZfI (n:=n) rfl
theorem JS {n:Nat}{ns:List Int} (hn:ns.length≤63):Zn T (n+10) 16 [.lst false (ns.map .int)]=some (.bl true):=by
 rw [Zy (f:=c_law_k23) rfl rfl rfl]
 obtain ⟨p,hg,hl,e30⟩:=ZeG (n:=n+4) (ns:=ns)
 have f1:=ZcE (n:=n+5) hg hl
 have fl:=Wi (many:=p.rows.length) p.rows 0
 have al:Zn T (n+9) 36 [.tup (Yk p.rows.length 0 p.rows),.tup (Yk p.rows.length 0 p.rows)]=some (.bl true):=Xc (n:=n+7) rfl (by omega) fun x hx=>by
  obtain ⟨j,q,h⟩:=VF hx
  exact Zgh (n:=n+4) h
 obtain ⟨π,e,y4,y5,y6,y7,rfl⟩:=XL (B:=fun d π=>px (Zn T (n+9)) [3] YQ (Zt π 4 d)) (fun i π=>∃ y4 y5 y6 y7,π=[some (.lst false (ns.map .int)),some (Wn p),some (.tup (p.rows.map Zd)),some (.lst true (Yk p.rows.length 0 (p.rows.take i))),y4,y5,y6,y7]) (m:=p.rows.length) (fun i hi π hπ=>by
  obtain ⟨y4,y5,y6,y7,rfl⟩:=hπ
  have hr:=hg _ (List.getElem_mem hi)
  have dl:=Wi (many:=p.rows.length) (p.rows.take i) 0
  rw [List.length_take] at dl
  obtain ⟨z5,z6,z7,e⟩:=ZbU (F:=Zn T (n+9)) (ps:=p) (x0:=some (.lst false (ns.map .int))) (x1:=some (Wn p)) (x5:=y5) (x6:=y6) (x7:=y7) (due:=Yk p.rows.length 0 (p.rows.take i)) (k:=i) hi (by omega) (Zeg (n:=n+7) hr) (ZeS (n:=n+8)) (ZgM (n:=n+8) hr) (Zgn (n:=n+8))
  refine ⟨_,e,some (.int (i:Int)),z5,z6,z7,?_⟩
  have tk:p.rows.take (i+1)=p.rows.take i++[p.rows[i]]:=by simp
  rw [tk,VI,List.length_take,Nat.min_eq_left (Nat.le_of_lt hi),Nat.zero_add]) (π:=[some (.lst false (ns.map .int)),some (Wn p),some (.tup (p.rows.map Zd)),some (.lst true []),none,none,none,none]) ⟨none,none,none,none,rfl⟩
 rw [List.take_length] at e
 show Xi (px (Zn T (n+9)) [3] c_law_k23.body [some (.lst false (ns.map .int)),none,none,none,none,none,none,none])=_
 unfold c_law_k23
 rw [Zj,Yn (p:=Wn p) (by first | rfl | simp [e30]) rfl rfl,Zg]
 simp only [Zk,Zl]
 rw [Zj,Yn (p:=.tup (p.rows.map Zd)) (by first | rfl | simp [Wn]) rfl rfl,Zg]
 simp only [Zk,Zl]
 rw [Zj,Y7 (p:=.lst true []) (by first | rfl | simp) rfl rfl,Zg]
 simp only [Zk,Zl]
 rw [Zj,Us (n:=p.rows.length) (by first | rfl | simp) (by omega) rfl,e,Zg,Z6 (v:=.bl true) (by first | rfl | simp [f1,al])]
 rfl
end
end Dp


noncomputable def PySem.W.Fast.tw10088269686485504794:Nat:=0
noncomputable def PySem.W.Fast.tw10091334114653637294:Nat:=0
noncomputable def PySem.W.Fast.tw10330649288385161461:Nat:=0
noncomputable def PySem.W.Fast.tw10502715395935310662:Nat:=0
noncomputable def PySem.W.Fast.tw10550778445943299843:Nat:=0
noncomputable def PySem.W.Fast.tw10648582624221689721:Nat:=0
noncomputable def PySem.W.Fast.tw1070719227269924343:Nat:=0
noncomputable def PySem.W.Fast.tw10810305072916498697:Nat:=0
noncomputable def PySem.W.Fast.tw10854789795272965834:Nat:=0
noncomputable def PySem.W.Fast.tw10879468364947945775:Nat:=0
noncomputable def PySem.W.Fast.tw10972739583781929341:Nat:=0
noncomputable def PySem.W.Fast.tw1100033325780352916:Nat:=0
noncomputable def PySem.W.Fast.tw11300421748489630199:Nat:=0
noncomputable def PySem.W.Fast.tw11831548611975617504:Nat:=0
noncomputable def PySem.W.Fast.tw12032705480322697804:Nat:=0
noncomputable def PySem.W.Fast.tw12144036026603439621:Nat:=0
noncomputable def PySem.W.Fast.tw12726076087980283894:Nat:=0
noncomputable def PySem.W.Fast.tw12864730276768398013:Nat:=0
noncomputable def PySem.W.Fast.tw13124351111438915456:Nat:=0
noncomputable def PySem.W.Fast.tw13269957184669054439:Nat:=0
noncomputable def PySem.W.Fast.tw13313892447026460966:Nat:=0
noncomputable def PySem.W.Fast.tw13332541657871398395:Nat:=0
noncomputable def PySem.W.Fast.tw13372209124607772011:Nat:=0
noncomputable def PySem.W.Fast.tw13376173804997543147:Nat:=0
noncomputable def PySem.W.Fast.tw13546983686170332041:Nat:=0
noncomputable def PySem.W.Fast.tw13557305503350889869:Nat:=0
noncomputable def PySem.W.Fast.tw13569349664913744765:Nat:=0
noncomputable def PySem.W.Fast.tw13811435266675132073:Nat:=0
noncomputable def PySem.W.Fast.tw14040686457551588021:Nat:=0
noncomputable def PySem.W.Fast.tw14160853868622686414:Nat:=0
noncomputable def PySem.W.Fast.tw14217730261167634527:Nat:=0
noncomputable def PySem.W.Fast.tw14392998422732473226:Nat:=0
noncomputable def PySem.W.Fast.tw14393591853849015207:Nat:=0
noncomputable def PySem.W.Fast.tw14446262433786714036:Nat:=0
noncomputable def PySem.W.Fast.tw14501226312972607283:Nat:=0
noncomputable def PySem.W.Fast.tw1451320174019585464:Nat:=0
noncomputable def PySem.W.Fast.tw14606148265856438164:Nat:=0
noncomputable def PySem.W.Fast.tw15340600085125358703:Nat:=0
noncomputable def PySem.W.Fast.tw15442931290723219603:Nat:=0
noncomputable def PySem.W.Fast.tw156814087439444935:Nat:=0
noncomputable def PySem.W.Fast.tw16037823609587973692:Nat:=0
noncomputable def PySem.W.Fast.tw16065312267810307543:Nat:=0
noncomputable def PySem.W.Fast.tw16306508023672608939:Nat:=0
noncomputable def PySem.W.Fast.tw16395249654282672762:Nat:=0
noncomputable def PySem.W.Fast.tw1644687291734732218:Nat:=0
noncomputable def PySem.W.Fast.tw16499721263801693572:Nat:=0
noncomputable def PySem.W.Fast.tw16770840761393028471:Nat:=0
noncomputable def PySem.W.Fast.tw16821558548058724129:Nat:=0
noncomputable def PySem.W.Fast.tw16944778028273043322:Nat:=0
noncomputable def PySem.W.Fast.tw17014170270381918394:Nat:=0
noncomputable def PySem.W.Fast.tw17045495695504409620:Nat:=0
noncomputable def PySem.W.Fast.tw17092618963226372520:Nat:=0
noncomputable def PySem.W.Fast.tw17142653407837631317:Nat:=0
noncomputable def PySem.W.Fast.tw17178390414513937486:Nat:=0
noncomputable def PySem.W.Fast.tw17454368512780349711:Nat:=0
noncomputable def PySem.W.Fast.tw17526058020172890824:Nat:=0
noncomputable def PySem.W.Fast.tw17640545640977945991:Nat:=0
noncomputable def PySem.W.Fast.tw17843752115069162943:Nat:=0
noncomputable def PySem.W.Fast.tw18097144968871653083:Nat:=0
noncomputable def PySem.W.Fast.tw18309207226570923762:Nat:=0
noncomputable def PySem.W.Fast.tw18365778296687900702:Nat:=0
noncomputable def PySem.W.Fast.tw2064028274260588102:Nat:=0
noncomputable def PySem.W.Fast.tw2337250511891785938:Nat:=0
noncomputable def PySem.W.Fast.tw2366049539798420644:Nat:=0
noncomputable def PySem.W.Fast.tw2442800129027522476:Nat:=0
noncomputable def PySem.W.Fast.tw276900154118943824:Nat:=0
noncomputable def PySem.W.Fast.tw2862271871127078070:Nat:=0
noncomputable def PySem.W.Fast.tw3385400148630326591:Nat:=0
noncomputable def PySem.W.Fast.tw3480695909517262549:Nat:=0
noncomputable def PySem.W.Fast.tw3677784084395339090:Nat:=0
noncomputable def PySem.W.Fast.tw3775024324276915767:Nat:=0
noncomputable def PySem.W.Fast.tw3807047815214918311:Nat:=0
noncomputable def PySem.W.Fast.tw4111530479904834132:Nat:=0
noncomputable def PySem.W.Fast.tw4395107564113569110:Nat:=0
noncomputable def PySem.W.Fast.tw4550135889468672159:Nat:=0
noncomputable def PySem.W.Fast.tw4676515661308849194:Nat:=0
noncomputable def PySem.W.Fast.tw5336820447981963313:Nat:=0
noncomputable def PySem.W.Fast.tw5412067897245701951:Nat:=0
noncomputable def PySem.W.Fast.tw5529868500724116010:Nat:=0
noncomputable def PySem.W.Fast.tw6069114008384268261:Nat:=0
noncomputable def PySem.W.Fast.tw6219647623153687223:Nat:=0
noncomputable def PySem.W.Fast.tw6265175011167485505:Nat:=0
noncomputable def PySem.W.Fast.tw6272863234550573305:Nat:=0
noncomputable def PySem.W.Fast.tw6305105413839206665:Nat:=0
noncomputable def PySem.W.Fast.tw642073093009675181:Nat:=0
noncomputable def PySem.W.Fast.tw6430286255783920556:Nat:=0
noncomputable def PySem.W.Fast.tw6762719906512086664:Nat:=0
noncomputable def PySem.W.Fast.tw6797088455099411008:Nat:=0
noncomputable def PySem.W.Fast.tw7234940373818239607:Nat:=0
noncomputable def PySem.W.Fast.tw7262963390199045870:Nat:=0
noncomputable def PySem.W.Fast.tw7279427340974157993:Nat:=0
noncomputable def PySem.W.Fast.tw7417717661496498239:Nat:=0
noncomputable def PySem.W.Fast.tw7476378222849525530:Nat:=0
noncomputable def PySem.W.Fast.tw7529227738135062150:Nat:=0
noncomputable def PySem.W.Fast.tw7558168505911692820:Nat:=0
noncomputable def PySem.W.Fast.tw7588278328208454179:Nat:=0
noncomputable def PySem.W.Fast.tw7697146483904172411:Nat:=0
noncomputable def PySem.W.Fast.tw8014599927588059183:Nat:=0
noncomputable def PySem.W.Fast.tw8150516814582399493:Nat:=0
noncomputable def PySem.W.Fast.tw8771670125917115235:Nat:=0
noncomputable def PySem.W.Fast.tw8804607620226832903:Nat:=0
noncomputable def PySem.W.Fast.tw8949336656855702323:Nat:=0
noncomputable def PySem.W.Fast.tw9195674778469084104:Nat:=0
noncomputable def PySem.W.Fast.tw9318351907107623331:Nat:=0
noncomputable def PySem.W.Fast.tw9342052013249659996:Nat:=0
noncomputable def PySem.W.Fast.tw9535667781411353917:Nat:=0
noncomputable def PySem.W.Fast.tw9594008627942591438:Nat:=0
noncomputable def PySem.W.Fast.tw981238905126698624:Nat:=0
noncomputable def PySem.W.Fast.tw9994505266852995305:Nat:=0
namespace Dp
open PySem L2
noncomputable def top (i:Nat):Stmt:=PySem.Challenge.pw_fakehunt_k23_fakes_in_order.main.body.getD i (.Pass ⟨0,0,0,0⟩)
noncomputable def G:Gs:=[(S "Step",GV.cls 146 [(S "word",147,1),(S "turned",148,3)] [146,169,149,157,152,160,163]),(S "Sign",GV.cls 169 [(S "word",170,1),(S "turned",171,3)] [169]),(S "More",GV.cls 149 [(S "word",150,1),(S "turned",151,3)] [149]),(S "Turn",GV.cls 157 [(S "word",158,1),(S "turned",159,3)] [157]),(S "Out",GV.cls 152 [(S "word",153,1),(S "turned",154,3)] [152]),(S "Swap",GV.cls 160 [(S "word",161,1),(S "turned",162,3)] [160]),(S "Far",GV.cls 163 [(S "word",164,1),(S "turned",165,3)] [163]),(S "OPERAND_PLACES",GV.dct [(S "put"),(S "if"),(S "tell"),(S "go"),(S "skip")] [(.tup [(.int (2)),(.int (4))]),(.tup [(.int (1)),(.int (3))]),(.tup [(.int (1))]),(.tup []),(.tup [])]),(S "replaced",GV.fn 42 3 []),(S "operand_places",GV.fn 113 1 []),(S "HALF",GV.cst (.int (1000000000))),(S "RING",GV.cst (.int (2000000000))),(S "PUT_SIGNS",GV.cst (.kt [(S "+"),(S "-"),(S "*"),(S "/"),(S "mod")])),(S "IF_SIGNS",GV.cst (.kt [(S "<"),(S "<="),(S "="),(S ">="),(S ">"),(S "!=")])),(S "around",GV.fn 0 1 []),(S "CONTRARIES",GV.dct [(S "<"),(S ">="),(S "<="),(S ">"),(S "="),(S "!=")] [(.str (S ">=")),(.str (S "<")),(.str (S ">")),(.str (S "<=")),(.str (S "!=")),(.str (S "="))]),(S "behind",GV.fn 70 2 []),(S "fakes",GV.fn 172 1 []),(S "_law_cell_at",GV.fn 27 2 []),(S "_law_alike",GV.fn 36 2 []),(S "_law_number_by",GV.fn 18 1 []),(S "_law_operand_by",GV.fn 71 2 []),(S "_law_row_by",GV.fn 72 3 []),(S "_law_program",GV.fn 30 1 []),(S "_law_later",GV.fn 173 2 []),(S "_law_sign",GV.fn 174 1 []),(S "_law_more",GV.fn 156 1 []),(S "_law_turn_and_out",GV.fn 175 1 []),(S "_law_swap_and_far",GV.fn 176 2 []),(S "law",GV.fn 16 1 []),(S "len",GV.blt),(S "range",GV.blt),(S "tuple",GV.blt),(S "list",GV.blt),(S "int",GV.blt),(S "bool",GV.blt),(S "str",GV.blt),(S "min",GV.blt),(S "max",GV.blt),(S "isinstance",GV.blt),(S "all",GV.blt),(S "any",GV.blt),(S "zip",GV.blt),(S "sorted",GV.blt),(S "enumerate",GV.blt)]
noncomputable abbrev n_2:List Str:=[S "things",S "i",S "thing"]
noncomputable abbrev n_3:List Str:=[S "row"]
noncomputable abbrev n_9:List Str:=[S "number"]
noncomputable abbrev Zf6:List Str:=[S "ring",S "sign"]
noncomputable abbrev Zif:List Str:=[S "program",S "rows",S "steps",S "told",S "k",S "row",S "step"]
noncomputable abbrev Zhr:List Str:=[S "program"]
noncomputable abbrev ZfZ:List Str:=[S "_law_script",S "_law_k"]
noncomputable abbrev ZgI:List Str:=[S "_law_found",S "_law_due"]
noncomputable abbrev Zf3:List Str:=[S "_law_cell"]
noncomputable abbrev Zf1:List Str:=[S "_law_cell",S "_law_names"]
noncomputable abbrev Zhq:List Str:=[S "_law_cells",S "_law_names",S "_law_many",S "_law_y",S "_law_z",S "_law_t",S "_law_sign_here"]
noncomputable abbrev ZhK:List Str:=[S "_law_cells",S "_law_names",S "_law_many"]
noncomputable abbrev ZhU:List Str:=[S "_law_script",S "_law_names",S "_law_takes",S "_law_k",S "_law_ends",S "_law_many",S "_law_rows"]
noncomputable abbrev ZhP:List Str:=[S "_law_script"]
noncomputable abbrev Zhy:List Str:=[S "_law_sign_here",S "_law_ring",S "_law_k"]
noncomputable abbrev ZhF:List Str:=[S "_law_sign_here",S "_law_ring"]
noncomputable abbrev Zf7:List Str:=[S "_law_row"]
noncomputable abbrev ZhM:List Str:=[S "_law_row",S "_law_found",S "_law_at",S "_law_number"]
noncomputable abbrev ZhI:List Str:=[S "_law_row"]
noncomputable abbrev Zhm:List Str:=[S "_law_row",S "_law_found",S "_law_contrary"]
noncomputable abbrev Zhp:List Str:=[S "_law_row"]
noncomputable abbrev ZhB:List Str:=[S "_law_row",S "_law_many",S "_law_found"]
noncomputable abbrev ZhV:List Str:=[S "_law_row",S "_law_many"]
noncomputable abbrev Zhw:List Str:=[S "_law_script",S "_law_program_here",S "_law_rows",S "_law_due",S "_law_k",S "_law_away",S "_law_word",S "_law_row"]
noncomputable abbrev Zh6:List Str:=[S "_law_script"]
noncomputable abbrev ZbP:List Str:=[S "self"]
noncomputable abbrev Zb8:List Str:=[S "self",S "row",S "many"]
noncomputable abbrev Zbm:List Str:=[S "self"]
noncomputable abbrev Zbi:List Str:=[S "self",S "row",S "many"]
noncomputable abbrev ZbB:List Str:=[S "self"]
noncomputable abbrev ZeU:List Str:=[S "self",S "row",S "many",S "rows",S "i"]
noncomputable abbrev Zek:List Str:=[S "self",S "row",S "many"]
noncomputable abbrev Zbz:List Str:=[S "self"]
noncomputable abbrev Zbu:List Str:=[S "self",S "row",S "many"]
noncomputable abbrev Zbh:List Str:=[S "self"]
noncomputable abbrev Zce:List Str:=[S "self",S "row",S "many"]
noncomputable abbrev Zcp:List Str:=[S "self"]
noncomputable abbrev ZbR:List Str:=[S "self",S "row",S "many"]
noncomputable abbrev Zbv:List Str:=[S "self"]
noncomputable abbrev Zbc:List Str:=[S "self",S "row",S "many"]
noncomputable def Zw (i k:Nat):Stmt:=match top i with
 | .ClassDef _ _ _ b _ _ _ _ _ _ _=>b.getD k (.Pass ⟨0,0,0,0⟩)
 | s=>s
noncomputable abbrev Xy (s:Stmt) (N ps:List Str) (c:CS):Prop:=FnScope N ps (defScope s)∧(∀ y∈N,L2.Loc (defScope s) y)∧cSs G 60 (defScope s) N (defBody s)=some c
noncomputable abbrev Cmp (i:Nat) (N ps:List Str) (c:CS):Prop:=Xy (top i) N ps c
theorem q_2:Cmp 2 n_2 n_2 c_replaced.body:=⟨⟨rfl,rfl,rfl,by decide +kernel,rfl,by decide +kernel,by decide +kernel⟩,by unfold L2.Loc; decide +kernel,by kernel_rfl⟩
theorem q_3:Cmp 3 n_3 n_3 c_operand_places.body:=⟨⟨rfl,rfl,rfl,by decide +kernel,rfl,by decide +kernel,by decide +kernel⟩,by unfold L2.Loc; decide +kernel,by kernel_rfl⟩
theorem q_9:Cmp 9 n_9 n_9 c_around.body:=⟨⟨rfl,rfl,rfl,by decide +kernel,rfl,by decide +kernel,by decide +kernel⟩,by unfold L2.Loc; decide +kernel,by kernel_rfl⟩
theorem Zh0:Cmp 12 Zf6 Zf6 c_behind.body:=⟨⟨rfl,rfl,rfl,by decide +kernel,rfl,by decide +kernel,by decide +kernel⟩,by unfold L2.Loc; decide +kernel,by kernel_rfl⟩
theorem Zhx:Cmp 21 Zif Zhr c_fakes.body:=⟨⟨rfl,rfl,rfl,by decide +kernel,rfl,by decide +kernel,by decide +kernel⟩,by unfold L2.Loc; decide +kernel,by kernel_rfl⟩
theorem ZhZ:Cmp 23 ZfZ ZfZ c__law_cell_at_k25.body:=⟨⟨rfl,rfl,rfl,by decide +kernel,rfl,by decide +kernel,by decide +kernel⟩,by unfold L2.Loc; decide +kernel,by kernel_rfl⟩
theorem Zh9:Cmp 24 ZgI ZgI c__law_alike_k26.body:=⟨⟨rfl,rfl,rfl,by decide +kernel,rfl,by decide +kernel,by decide +kernel⟩,by unfold L2.Loc; decide +kernel,by kernel_rfl⟩
theorem Zho:Cmp 25 Zf3 Zf3 c__law_number_by_k25.body:=⟨⟨rfl,rfl,rfl,by decide +kernel,rfl,by decide +kernel,by decide +kernel⟩,by unfold L2.Loc; decide +kernel,by kernel_rfl⟩
theorem ZhS:Cmp 26 Zf1 Zf1 c__law_operand_by.body:=⟨⟨rfl,rfl,rfl,by decide +kernel,rfl,by decide +kernel,by decide +kernel⟩,by unfold L2.Loc; decide +kernel,by kernel_rfl⟩
theorem Zhk:Cmp 27 Zhq ZhK c__law_row_by_k22.body:=⟨⟨rfl,rfl,rfl,by decide +kernel,rfl,by decide +kernel,by decide +kernel⟩,by unfold L2.Loc; decide +kernel,by kernel_rfl⟩
theorem ZhT:Cmp 28 ZhU ZhP c__law_program_k23.body:=⟨⟨rfl,rfl,rfl,by decide +kernel,rfl,by decide +kernel,by decide +kernel⟩,by unfold L2.Loc; decide +kernel,by kernel_rfl⟩
theorem Zid:Cmp 29 Zhy ZhF c__law_later.body:=⟨⟨rfl,rfl,rfl,by decide +kernel,rfl,by decide +kernel,by decide +kernel⟩,by unfold L2.Loc; decide +kernel,by kernel_rfl⟩
theorem Zia:Cmp 30 Zf7 Zf7 c__law_sign.body:=⟨⟨rfl,rfl,rfl,by decide +kernel,rfl,by decide +kernel,by decide +kernel⟩,by unfold L2.Loc; decide +kernel,by kernel_rfl⟩
theorem Zhv:Cmp 31 ZhM ZhI c__law_more_k23.body:=⟨⟨rfl,rfl,rfl,by decide +kernel,rfl,by decide +kernel,by decide +kernel⟩,by unfold L2.Loc; decide +kernel,by kernel_rfl⟩
theorem Zhi:Cmp 32 Zhm Zhp c__law_turn_and_out.body:=⟨⟨rfl,rfl,rfl,by decide +kernel,rfl,by decide +kernel,by decide +kernel⟩,by unfold L2.Loc; decide +kernel,by kernel_rfl⟩
theorem ZhD:Cmp 33 ZhB ZhV c__law_swap_and_far.body:=⟨⟨rfl,rfl,rfl,by decide +kernel,rfl,by decide +kernel,by decide +kernel⟩,by unfold L2.Loc; decide +kernel,by kernel_rfl⟩
theorem Zh5:Cmp 34 Zhw Zh6 c_law_k23.body:=⟨⟨rfl,rfl,rfl,by decide +kernel,rfl,by decide +kernel,by decide +kernel⟩,by unfold L2.Loc; decide +kernel,by kernel_rfl⟩
theorem Zfc:Xy (Zw 13 0) ZbP ZbP c_Step_word.body:=⟨⟨rfl,rfl,rfl,by decide +kernel,rfl,by decide +kernel,by decide +kernel⟩,by unfold L2.Loc; decide +kernel,by kernel_rfl⟩
theorem Ze4:Xy (Zw 13 1) Zb8 Zb8 c_Step_turned.body:=⟨⟨rfl,rfl,rfl,by decide +kernel,rfl,by decide +kernel,by decide +kernel⟩,by unfold L2.Loc; decide +kernel,by kernel_rfl⟩
theorem ZeT:Xy (Zw 14 0) Zbm Zbm c_Sign_word.body:=⟨⟨rfl,rfl,rfl,by decide +kernel,rfl,by decide +kernel,by decide +kernel⟩,by unfold L2.Loc; decide +kernel,by kernel_rfl⟩
theorem ZeZ:Xy (Zw 14 1) Zbi Zbi c_Sign_turned.body:=⟨⟨rfl,rfl,rfl,by decide +kernel,rfl,by decide +kernel,by decide +kernel⟩,by unfold L2.Loc; decide +kernel,by kernel_rfl⟩
theorem ZeX:Xy (Zw 15 0) ZbB ZbB c_More_word.body:=⟨⟨rfl,rfl,rfl,by decide +kernel,rfl,by decide +kernel,by decide +kernel⟩,by unfold L2.Loc; decide +kernel,by kernel_rfl⟩
theorem ZeA:Xy (Zw 15 1) ZeU Zek c_More_turned.body:=⟨⟨rfl,rfl,rfl,by decide +kernel,rfl,by decide +kernel,by decide +kernel⟩,by unfold L2.Loc; decide +kernel,by kernel_rfl⟩
theorem Zeq:Xy (Zw 16 0) Zbz Zbz c_Turn_word.body:=⟨⟨rfl,rfl,rfl,by decide +kernel,rfl,by decide +kernel,by decide +kernel⟩,by unfold L2.Loc; decide +kernel,by kernel_rfl⟩
theorem Zft:Xy (Zw 16 1) Zbu Zbu c_Turn_turned.body:=⟨⟨rfl,rfl,rfl,by decide +kernel,rfl,by decide +kernel,by decide +kernel⟩,by unfold L2.Loc; decide +kernel,by kernel_rfl⟩
theorem Zem:Xy (Zw 17 0) Zbh Zbh c_Out_word.body:=⟨⟨rfl,rfl,rfl,by decide +kernel,rfl,by decide +kernel,by decide +kernel⟩,by unfold L2.Loc; decide +kernel,by kernel_rfl⟩
theorem Zfv:Xy (Zw 17 1) Zce Zce c_Out_turned.body:=⟨⟨rfl,rfl,rfl,by decide +kernel,rfl,by decide +kernel,by decide +kernel⟩,by unfold L2.Loc; decide +kernel,by kernel_rfl⟩
theorem Zee:Xy (Zw 18 0) Zcp Zcp c_Swap_word.body:=⟨⟨rfl,rfl,rfl,by decide +kernel,rfl,by decide +kernel,by decide +kernel⟩,by unfold L2.Loc; decide +kernel,by kernel_rfl⟩
theorem Zen:Xy (Zw 18 1) ZbR ZbR c_Swap_turned.body:=⟨⟨rfl,rfl,rfl,by decide +kernel,rfl,by decide +kernel,by decide +kernel⟩,by unfold L2.Loc; decide +kernel,by kernel_rfl⟩
theorem ZfK:Xy (Zw 19 0) Zbv Zbv c_Far_word.body:=⟨⟨rfl,rfl,rfl,by decide +kernel,rfl,by decide +kernel,by decide +kernel⟩,by unfold L2.Loc; decide +kernel,by kernel_rfl⟩
theorem Ze7:Xy (Zw 19 1) Zbc Zbc c_Far_turned.body:=⟨⟨rfl,rfl,rfl,by decide +kernel,rfl,by decide +kernel,by decide +kernel⟩,by unfold L2.Loc; decide +kernel,by kernel_rfl⟩
@[reducible] noncomputable def tab (l:List (Nat×Addr)):ClsTab:=⟨fun i=>(l.lookup i).getD 0⟩
section
variable [ct:ClsTab]
theorem mkM {K:PySem.W.Frag}{C:Addr}{x y:Str}{i:Nat}{s:Stmt}{N ps:List Str}{c:CS}{f:Addr}{oc kV dc pm cd ct dV:Value}{od an:Option Addr}{sl:Array (Option Value)} (q:Xy s N ps c) (hT:T i=some ⟨ps.length,N.length,c⟩)
  (l:K.lookup f=some ⟨oc,od,.func (PySem.W.fnOf x y (defArgs s) (defBody s) (defScope s) dV kV dc pm an cd ct),sl⟩) (e:PySem.W.codeIn K cd y=true) (m:PySem.W.findIn K (.ref C) x=some (some (.ref f))) (i':PySem.W.isFn K (.ref f)=true) (k:PySem.W.keepIn K (.ref f)=true)
  (hb:Binds K (PySem.W.fnOf x y (defArgs s) (defBody s) (defScope s) dV kV dc pm an cd ct) ps []):MethOk K G T C x y i f (PySem.W.fnOf x y (defArgs s) (defBody s) (defScope s) dV kV dc pm an cd ct) ps N:=
 ⟨⟨s,oc,od,dV,kV,dc,pm,an,cd,ct,sl,c,rfl,l,e,q.1,q.2.1,q.2.2,hT⟩,⟨m,i',k⟩,hb⟩
theorem mkD {K:PySem.W.Frag}{h:Heap}{mg:Str→Option Value}{x:Str}{i j:Nat}{N ps:List Str}{c:CS}{f:Addr}{oc kV dc pm cd ct:Value}{od an:Option Addr}{sl:Array (Option Value)} (X:K.In h) (G0:h.Ns mainGlobals mg) (q:Cmp j N ps c) (hT:T i=some ⟨ps.length,N.length,c⟩) (a:PySem.W.nsIn K mainGlobals x=some (some (.ref f))) (l:K.lookup f=some ⟨oc,od,.func (PySem.W.fnOf x x (defArgs (top j)) (defBody (top j)) (defScope (top j)) .none kV dc pm an cd ct),sl⟩) (e:PySem.W.codeIn K cd x=true) (k:PySem.W.keepIn K (.ref f)=true) (hb:Binds K (PySem.W.fnOf x x (defArgs (top j)) (defBody (top j)) (defScope (top j)) .none kV dc pm an cd ct) ps []):DefOk K mg G T x i [] f (PySem.W.fnOf x x (defArgs (top j)) (defBody (top j)) (defScope (top j)) .none kV dc pm an cd ct) ps N:=
 ⟨⟨top j,oc,od,.none,kV,dc,pm,an,cd,ct,sl,c,rfl,l,e,q.1,q.2.1,q.2.2,hT⟩,k,PySem.W.mg_of X G0 a,fun m hm=>⟨[],[],fun _ _=>by rw [List.drop_nil]; exact .nil,.nil,hb⟩⟩
theorem mkE {K:PySem.W.Frag}{h:Heap}{mg:Str→Option Value}{x:Str}{i j:Nat}{N ps:List Str}{c:CS}{f:Addr}{oc kV dc pm cd ct:Value}{od an:Option Addr}{sl:Array (Option Value)} (X:K.In h) (G0:h.Ns mainGlobals mg) (q:Cmp j N ps c) (hT:T i=some ⟨ps.length,N.length,c⟩) (a:PySem.W.nsIn K mainGlobals x=some (some (.ref f))) {v:Int}{dV:Value}{dt:Tok} (l:K.lookup f=some ⟨oc,od,.func (PySem.W.fnOf x x (defArgs (top j)) (defBody (top j)) (defScope (top j)) dV kV dc pm an cd ct),sl⟩) (e:PySem.W.codeIn K cd x=true) (k:PySem.W.keepIn K (.ref f)=true) (hb:Binds K (PySem.W.fnOf x x (defArgs (top j)) (defBody (top j)) (defScope (top j)) dV kV dc pm an cd ct) ps []) (hc:Binds K (PySem.W.fnOf x x (defArgs (top j)) (defBody (top j)) (defScope (top j)) dV kV dc pm an cd ct) ps [.int v dt]):DefOk K mg G T x i [.int v] f (PySem.W.fnOf x x (defArgs (top j)) (defBody (top j)) (defScope (top j)) dV kV dc pm an cd ct) ps N:=
 ⟨⟨top j,oc,od,dV,kV,dc,pm,an,cd,ct,sl,c,rfl,l,e,q.1,q.2.1,q.2.2,hT⟩,k,PySem.W.mg_of X G0 a,fun m hm=>by
  match m,hm with
  | 0,_=>exact ⟨[.int v],[.int v dt],fun _ _=>.cons (.int _) .nil,.cons ⟨dt,rfl⟩ .nil,hc⟩
  | 1,_=>exact ⟨[],[],fun _ _=>.nil,.nil,hb⟩⟩
theorem Ze9 {Pm:Params}{K:PySem.W.Frag}{h:Heap}{mg:Str→Option Value}{fa:Addr} (X:K.In h) (G0:h.Ns mainGlobals mg) (hfa:mg "law"=some (.ref fa))
  {C0:Addr}
  {f147M:Addr}{od147M an147M:Option Addr}{sl147M:Array (Option Value)}{oc147M kV147M dc147M pm147M cd147M ct147M:Value}
  {f148M:Addr}{od148M an148M:Option Addr}{sl148M:Array (Option Value)}{oc148M kV148M dc148M pm148M cd148M ct148M:Value}
  {C1:Addr}
  {f170M:Addr}{od170M an170M:Option Addr}{sl170M:Array (Option Value)}{oc170M kV170M dc170M pm170M cd170M ct170M:Value}
  {f171M:Addr}{od171M an171M:Option Addr}{sl171M:Array (Option Value)}{oc171M kV171M dc171M pm171M cd171M ct171M:Value}
  {C2:Addr}
  {f150M:Addr}{od150M an150M:Option Addr}{sl150M:Array (Option Value)}{oc150M kV150M dc150M pm150M cd150M ct150M:Value}
  {f151M:Addr}{od151M an151M:Option Addr}{sl151M:Array (Option Value)}{oc151M kV151M dc151M pm151M cd151M ct151M:Value}
  {C3:Addr}
  {f158M:Addr}{od158M an158M:Option Addr}{sl158M:Array (Option Value)}{oc158M kV158M dc158M pm158M cd158M ct158M:Value}
  {f159M:Addr}{od159M an159M:Option Addr}{sl159M:Array (Option Value)}{oc159M kV159M dc159M pm159M cd159M ct159M:Value}
  {C4:Addr}
  {f153M:Addr}{od153M an153M:Option Addr}{sl153M:Array (Option Value)}{oc153M kV153M dc153M pm153M cd153M ct153M:Value}
  {f154M:Addr}{od154M an154M:Option Addr}{sl154M:Array (Option Value)}{oc154M kV154M dc154M pm154M cd154M ct154M:Value}
  {C5:Addr}
  {f161M:Addr}{od161M an161M:Option Addr}{sl161M:Array (Option Value)}{oc161M kV161M dc161M pm161M cd161M ct161M:Value}
  {f162M:Addr}{od162M an162M:Option Addr}{sl162M:Array (Option Value)}{oc162M kV162M dc162M pm162M cd162M ct162M:Value}
  {C6:Addr}
  {f164M:Addr}{od164M an164M:Option Addr}{sl164M:Array (Option Value)}{oc164M kV164M dc164M pm164M cd164M ct164M:Value}
  {f165M:Addr}{od165M an165M:Option Addr}{sl165M:Array (Option Value)}{oc165M kV165M dc165M pm165M cd165M ct165M:Value}
  {A7:Addr}{ob7:Obj}{ep7:Nat}{t7_0:Tok}{B7_0:Addr}{bo7_0:Obj}{bn7_0:Nat}{u7_0_0:Tok}{u7_0_1:Tok}{t7_1:Tok}{B7_1:Addr}{bo7_1:Obj}{bn7_1:Nat}{u7_1_0:Tok}{u7_1_1:Tok}{t7_2:Tok}{B7_2:Addr}{bo7_2:Obj}{bn7_2:Nat}{u7_2_0:Tok}{t7_3:Tok}{B7_3:Addr}{bo7_3:Obj}{bn7_3:Nat}{t7_4:Tok}{B7_4:Addr}{bo7_4:Obj}{bn7_4:Nat}
  {f8:Addr}{od8 an8:Option Addr}{sl8:Array (Option Value)}{oc8 kV8 dc8 pm8 cd8 ct8:Value}
  {f9:Addr}{od9 an9:Option Addr}{sl9:Array (Option Value)}{oc9 kV9 dc9 pm9 cd9 ct9:Value}
  {t10:Tok}
  {t11:Tok}
  {A12:Addr}{ob12:Obj}{on12:Nat}{t12_0:Tok}{t12_1:Tok}{t12_2:Tok}{t12_3:Tok}{t12_4:Tok}
  {A13:Addr}{ob13:Obj}{on13:Nat}{t13_0:Tok}{t13_1:Tok}{t13_2:Tok}{t13_3:Tok}{t13_4:Tok}{t13_5:Tok}
  {f14:Addr}{od14 an14:Option Addr}{sl14:Array (Option Value)}{oc14 kV14 dc14 pm14 cd14 ct14:Value}
  {A15:Addr}{ob15:Obj}{ep15:Nat}{t15_0:Tok}{u15_0:Tok}{t15_1:Tok}{u15_1:Tok}{t15_2:Tok}{u15_2:Tok}{t15_3:Tok}{u15_3:Tok}{t15_4:Tok}{u15_4:Tok}{t15_5:Tok}{u15_5:Tok}
  {f16:Addr}{od16 an16:Option Addr}{sl16:Array (Option Value)}{oc16 kV16 dc16 pm16 cd16 ct16:Value}
  {f17:Addr}{od17 an17:Option Addr}{sl17:Array (Option Value)}{oc17 kV17 dc17 pm17 cd17 ct17:Value}
  {f18:Addr}{od18 an18:Option Addr}{sl18:Array (Option Value)}{oc18 kV18 dc18 pm18 cd18 ct18:Value}
  {f19:Addr}{od19 an19:Option Addr}{sl19:Array (Option Value)}{oc19 kV19 dc19 pm19 cd19 ct19:Value}
  {f20:Addr}{od20 an20:Option Addr}{sl20:Array (Option Value)}{oc20 kV20 dc20 pm20 cd20 ct20:Value}
  {f21:Addr}{od21 an21:Option Addr}{sl21:Array (Option Value)}{oc21 kV21 dc21 pm21 cd21 ct21:Value}
  {f22:Addr}{od22 an22:Option Addr}{sl22:Array (Option Value)}{oc22 kV22 dc22 pm22 cd22 ct22:Value}
  {f23:Addr}{od23 an23:Option Addr}{sl23:Array (Option Value)}{oc23 kV23 dc23 pm23 cd23 ct23:Value}
  {f24:Addr}{od24 an24:Option Addr}{sl24:Array (Option Value)}{oc24 kV24 dc24 pm24 cd24 ct24:Value}
  {f25:Addr}{od25 an25:Option Addr}{sl25:Array (Option Value)}{oc25 kV25 dc25 pm25 cd25 ct25:Value}
  {f26:Addr}{od26 an26:Option Addr}{sl26:Array (Option Value)}{oc26 kV26 dc26 pm26 cd26 ct26:Value}
  {f27:Addr}{od27 an27:Option Addr}{sl27:Array (Option Value)}{oc27 kV27 dc27 pm27 cd27 ct27:Value}
  {f28:Addr}{od28 an28:Option Addr}{sl28:Array (Option Value)}{oc28 kV28 dc28 pm28 cd28 ct28:Value}
  {f29:Addr}{od29 an29:Option Addr}{sl29:Array (Option Value)}{oc29 kV29 dc29 pm29 cd29 ct29:Value}
(yz0:ClsTab.ca 146=C0) (yz1:ClsTab.ca 169=C1) (yz2:ClsTab.ca 149=C2) (yz3:ClsTab.ca 157=C3) (yz4:ClsTab.ca 152=C4) (yz5:ClsTab.ca 160=C5) (yz6:ClsTab.ca 163=C6)
  (ya0:PySem.W.nsIn K mainGlobals "Step"=some (some (.ref C0))) (yb0:PySem.W.makesIn K C0=true) (yc0:PySem.W.findIn K (.ref C0) "__init__"=some (some (.builtin "object.__init__"))) (yd0:PySem.W.keepIn K (.ref C0)=true) (ye0:PySem.W.plainGet K C0 Str.empty=true) (yf0:PySem.W.hasDictIn K C0=true) (yg0:PySem.W.plainOver K C0=true) (yh0:PySem.W.findIn K (.ref C0) "__setattr__"=some (some (.builtin "object.__setattr__"))) (yi0:PySem.W.findIn K (.ref C0) "__class__"=some (some (.builtin "object.__class__"))) (yj0:PySem.W.mroIn K C0 (.type "object")=some true) (yk:PySem.W.specialIn K (.builtin "object.__class__") "__get__"=some (some (.builtin "getset_descriptor.__get__"))) (yl:PySem.W.takesIn K (.builtin "object.__class__")=some true) (ym0_0:PySem.W.kitOne K (.ref C0) (.ref C0)=some true) (ym0_1:PySem.W.kitOne K (.ref C1) (.ref C0)=some true) (ym0_2:PySem.W.kitOne K (.ref C2) (.ref C0)=some true) (ym0_3:PySem.W.kitOne K (.ref C3) (.ref C0)=some true) (ym0_4:PySem.W.kitOne K (.ref C4) (.ref C0)=some true) (ym0_5:PySem.W.kitOne K (.ref C5) (.ref C0)=some true) (ym0_6:PySem.W.kitOne K (.ref C6) (.ref C0)=some true) (wm0_147:PySem.W.findIn K (.ref C0) "word"=some (some (.ref f147M))) (wl147:K.lookup f147M=some ⟨oc147M,od147M,.func (PySem.W.fnOf "word" "Step.word" (defArgs (Zw 13 0)) (defBody (Zw 13 0)) (defScope (Zw 13 0)) .none kV147M dc147M pm147M an147M cd147M ct147M),sl147M⟩) (wc147:PySem.W.codeIn K cd147M "Step.word"=true) (wk147:PySem.W.keepIn K (.ref f147M)=true) (wi147:PySem.W.isFn K (.ref f147M)=true) (wm0_148:PySem.W.findIn K (.ref C0) "turned"=some (some (.ref f148M))) (wl148:K.lookup f148M=some ⟨oc148M,od148M,.func (PySem.W.fnOf "turned" "Step.turned" (defArgs (Zw 13 1)) (defBody (Zw 13 1)) (defScope (Zw 13 1)) .none kV148M dc148M pm148M an148M cd148M ct148M),sl148M⟩) (wc148:PySem.W.codeIn K cd148M "Step.turned"=true) (wk148:PySem.W.keepIn K (.ref f148M)=true) (wi148:PySem.W.isFn K (.ref f148M)=true)
  (ya1:PySem.W.nsIn K mainGlobals "Sign"=some (some (.ref C1))) (yb1:PySem.W.makesIn K C1=true) (yc1:PySem.W.findIn K (.ref C1) "__init__"=some (some (.builtin "object.__init__"))) (yd1:PySem.W.keepIn K (.ref C1)=true) (ye1:PySem.W.plainGet K C1 Str.empty=true) (yf1:PySem.W.hasDictIn K C1=true) (yg1:PySem.W.plainOver K C1=true) (yh1:PySem.W.findIn K (.ref C1) "__setattr__"=some (some (.builtin "object.__setattr__"))) (yi1:PySem.W.findIn K (.ref C1) "__class__"=some (some (.builtin "object.__class__"))) (yj1:PySem.W.mroIn K C1 (.type "object")=some true) (ym1_1:PySem.W.kitOne K (.ref C1) (.ref C1)=some true) (wm1_170:PySem.W.findIn K (.ref C1) "word"=some (some (.ref f170M))) (wl170:K.lookup f170M=some ⟨oc170M,od170M,.func (PySem.W.fnOf "word" "Sign.word" (defArgs (Zw 14 0)) (defBody (Zw 14 0)) (defScope (Zw 14 0)) .none kV170M dc170M pm170M an170M cd170M ct170M),sl170M⟩) (wc170:PySem.W.codeIn K cd170M "Sign.word"=true) (wk170:PySem.W.keepIn K (.ref f170M)=true) (wi170:PySem.W.isFn K (.ref f170M)=true) (wm1_171:PySem.W.findIn K (.ref C1) "turned"=some (some (.ref f171M))) (wl171:K.lookup f171M=some ⟨oc171M,od171M,.func (PySem.W.fnOf "turned" "Sign.turned" (defArgs (Zw 14 1)) (defBody (Zw 14 1)) (defScope (Zw 14 1)) .none kV171M dc171M pm171M an171M cd171M ct171M),sl171M⟩) (wc171:PySem.W.codeIn K cd171M "Sign.turned"=true) (wk171:PySem.W.keepIn K (.ref f171M)=true) (wi171:PySem.W.isFn K (.ref f171M)=true)
  (ya2:PySem.W.nsIn K mainGlobals "More"=some (some (.ref C2))) (yb2:PySem.W.makesIn K C2=true) (yc2:PySem.W.findIn K (.ref C2) "__init__"=some (some (.builtin "object.__init__"))) (yd2:PySem.W.keepIn K (.ref C2)=true) (ye2:PySem.W.plainGet K C2 Str.empty=true) (yf2:PySem.W.hasDictIn K C2=true) (yg2:PySem.W.plainOver K C2=true) (yh2:PySem.W.findIn K (.ref C2) "__setattr__"=some (some (.builtin "object.__setattr__"))) (yi2:PySem.W.findIn K (.ref C2) "__class__"=some (some (.builtin "object.__class__"))) (yj2:PySem.W.mroIn K C2 (.type "object")=some true) (ym2_2:PySem.W.kitOne K (.ref C2) (.ref C2)=some true) (wm2_150:PySem.W.findIn K (.ref C2) "word"=some (some (.ref f150M))) (wl150:K.lookup f150M=some ⟨oc150M,od150M,.func (PySem.W.fnOf "word" "More.word" (defArgs (Zw 15 0)) (defBody (Zw 15 0)) (defScope (Zw 15 0)) .none kV150M dc150M pm150M an150M cd150M ct150M),sl150M⟩) (wc150:PySem.W.codeIn K cd150M "More.word"=true) (wk150:PySem.W.keepIn K (.ref f150M)=true) (wi150:PySem.W.isFn K (.ref f150M)=true) (wm2_151:PySem.W.findIn K (.ref C2) "turned"=some (some (.ref f151M))) (wl151:K.lookup f151M=some ⟨oc151M,od151M,.func (PySem.W.fnOf "turned" "More.turned" (defArgs (Zw 15 1)) (defBody (Zw 15 1)) (defScope (Zw 15 1)) .none kV151M dc151M pm151M an151M cd151M ct151M),sl151M⟩) (wc151:PySem.W.codeIn K cd151M "More.turned"=true) (wk151:PySem.W.keepIn K (.ref f151M)=true) (wi151:PySem.W.isFn K (.ref f151M)=true)
  (ya3:PySem.W.nsIn K mainGlobals "Turn"=some (some (.ref C3))) (yb3:PySem.W.makesIn K C3=true) (yc3:PySem.W.findIn K (.ref C3) "__init__"=some (some (.builtin "object.__init__"))) (yd3:PySem.W.keepIn K (.ref C3)=true) (ye3:PySem.W.plainGet K C3 Str.empty=true) (yf3:PySem.W.hasDictIn K C3=true) (yg3:PySem.W.plainOver K C3=true) (yh3:PySem.W.findIn K (.ref C3) "__setattr__"=some (some (.builtin "object.__setattr__"))) (yi3:PySem.W.findIn K (.ref C3) "__class__"=some (some (.builtin "object.__class__"))) (yj3:PySem.W.mroIn K C3 (.type "object")=some true) (ym3_3:PySem.W.kitOne K (.ref C3) (.ref C3)=some true) (wm3_158:PySem.W.findIn K (.ref C3) "word"=some (some (.ref f158M))) (wl158:K.lookup f158M=some ⟨oc158M,od158M,.func (PySem.W.fnOf "word" "Turn.word" (defArgs (Zw 16 0)) (defBody (Zw 16 0)) (defScope (Zw 16 0)) .none kV158M dc158M pm158M an158M cd158M ct158M),sl158M⟩) (wc158:PySem.W.codeIn K cd158M "Turn.word"=true) (wk158:PySem.W.keepIn K (.ref f158M)=true) (wi158:PySem.W.isFn K (.ref f158M)=true) (wm3_159:PySem.W.findIn K (.ref C3) "turned"=some (some (.ref f159M))) (wl159:K.lookup f159M=some ⟨oc159M,od159M,.func (PySem.W.fnOf "turned" "Turn.turned" (defArgs (Zw 16 1)) (defBody (Zw 16 1)) (defScope (Zw 16 1)) .none kV159M dc159M pm159M an159M cd159M ct159M),sl159M⟩) (wc159:PySem.W.codeIn K cd159M "Turn.turned"=true) (wk159:PySem.W.keepIn K (.ref f159M)=true) (wi159:PySem.W.isFn K (.ref f159M)=true)
  (ya4:PySem.W.nsIn K mainGlobals "Out"=some (some (.ref C4))) (yb4:PySem.W.makesIn K C4=true) (yc4:PySem.W.findIn K (.ref C4) "__init__"=some (some (.builtin "object.__init__"))) (yd4:PySem.W.keepIn K (.ref C4)=true) (ye4:PySem.W.plainGet K C4 Str.empty=true) (yf4:PySem.W.hasDictIn K C4=true) (yg4:PySem.W.plainOver K C4=true) (yh4:PySem.W.findIn K (.ref C4) "__setattr__"=some (some (.builtin "object.__setattr__"))) (yi4:PySem.W.findIn K (.ref C4) "__class__"=some (some (.builtin "object.__class__"))) (yj4:PySem.W.mroIn K C4 (.type "object")=some true) (ym4_4:PySem.W.kitOne K (.ref C4) (.ref C4)=some true) (wm4_153:PySem.W.findIn K (.ref C4) "word"=some (some (.ref f153M))) (wl153:K.lookup f153M=some ⟨oc153M,od153M,.func (PySem.W.fnOf "word" "Out.word" (defArgs (Zw 17 0)) (defBody (Zw 17 0)) (defScope (Zw 17 0)) .none kV153M dc153M pm153M an153M cd153M ct153M),sl153M⟩) (wc153:PySem.W.codeIn K cd153M "Out.word"=true) (wk153:PySem.W.keepIn K (.ref f153M)=true) (wi153:PySem.W.isFn K (.ref f153M)=true) (wm4_154:PySem.W.findIn K (.ref C4) "turned"=some (some (.ref f154M))) (wl154:K.lookup f154M=some ⟨oc154M,od154M,.func (PySem.W.fnOf "turned" "Out.turned" (defArgs (Zw 17 1)) (defBody (Zw 17 1)) (defScope (Zw 17 1)) .none kV154M dc154M pm154M an154M cd154M ct154M),sl154M⟩) (wc154:PySem.W.codeIn K cd154M "Out.turned"=true) (wk154:PySem.W.keepIn K (.ref f154M)=true) (wi154:PySem.W.isFn K (.ref f154M)=true)
  (ya5:PySem.W.nsIn K mainGlobals "Swap"=some (some (.ref C5))) (yb5:PySem.W.makesIn K C5=true) (yc5:PySem.W.findIn K (.ref C5) "__init__"=some (some (.builtin "object.__init__"))) (yd5:PySem.W.keepIn K (.ref C5)=true) (ye5:PySem.W.plainGet K C5 Str.empty=true) (yf5:PySem.W.hasDictIn K C5=true) (yg5:PySem.W.plainOver K C5=true) (yh5:PySem.W.findIn K (.ref C5) "__setattr__"=some (some (.builtin "object.__setattr__"))) (yi5:PySem.W.findIn K (.ref C5) "__class__"=some (some (.builtin "object.__class__"))) (yj5:PySem.W.mroIn K C5 (.type "object")=some true) (ym5_5:PySem.W.kitOne K (.ref C5) (.ref C5)=some true) (wm5_161:PySem.W.findIn K (.ref C5) "word"=some (some (.ref f161M))) (wl161:K.lookup f161M=some ⟨oc161M,od161M,.func (PySem.W.fnOf "word" "Swap.word" (defArgs (Zw 18 0)) (defBody (Zw 18 0)) (defScope (Zw 18 0)) .none kV161M dc161M pm161M an161M cd161M ct161M),sl161M⟩) (wc161:PySem.W.codeIn K cd161M "Swap.word"=true) (wk161:PySem.W.keepIn K (.ref f161M)=true) (wi161:PySem.W.isFn K (.ref f161M)=true) (wm5_162:PySem.W.findIn K (.ref C5) "turned"=some (some (.ref f162M))) (wl162:K.lookup f162M=some ⟨oc162M,od162M,.func (PySem.W.fnOf "turned" "Swap.turned" (defArgs (Zw 18 1)) (defBody (Zw 18 1)) (defScope (Zw 18 1)) .none kV162M dc162M pm162M an162M cd162M ct162M),sl162M⟩) (wc162:PySem.W.codeIn K cd162M "Swap.turned"=true) (wk162:PySem.W.keepIn K (.ref f162M)=true) (wi162:PySem.W.isFn K (.ref f162M)=true)
  (ya6:PySem.W.nsIn K mainGlobals "Far"=some (some (.ref C6))) (yb6:PySem.W.makesIn K C6=true) (yc6:PySem.W.findIn K (.ref C6) "__init__"=some (some (.builtin "object.__init__"))) (yd6:PySem.W.keepIn K (.ref C6)=true) (ye6:PySem.W.plainGet K C6 Str.empty=true) (yf6:PySem.W.hasDictIn K C6=true) (yg6:PySem.W.plainOver K C6=true) (yh6:PySem.W.findIn K (.ref C6) "__setattr__"=some (some (.builtin "object.__setattr__"))) (yi6:PySem.W.findIn K (.ref C6) "__class__"=some (some (.builtin "object.__class__"))) (yj6:PySem.W.mroIn K C6 (.type "object")=some true) (ym6_6:PySem.W.kitOne K (.ref C6) (.ref C6)=some true) (wm6_164:PySem.W.findIn K (.ref C6) "word"=some (some (.ref f164M))) (wl164:K.lookup f164M=some ⟨oc164M,od164M,.func (PySem.W.fnOf "word" "Far.word" (defArgs (Zw 19 0)) (defBody (Zw 19 0)) (defScope (Zw 19 0)) .none kV164M dc164M pm164M an164M cd164M ct164M),sl164M⟩) (wc164:PySem.W.codeIn K cd164M "Far.word"=true) (wk164:PySem.W.keepIn K (.ref f164M)=true) (wi164:PySem.W.isFn K (.ref f164M)=true) (wm6_165:PySem.W.findIn K (.ref C6) "turned"=some (some (.ref f165M))) (wl165:K.lookup f165M=some ⟨oc165M,od165M,.func (PySem.W.fnOf "turned" "Far.turned" (defArgs (Zw 19 1)) (defBody (Zw 19 1)) (defScope (Zw 19 1)) .none kV165M dc165M pm165M an165M cd165M ct165M),sl165M⟩) (wc165:PySem.W.codeIn K cd165M "Far.turned"=true) (wk165:PySem.W.keepIn K (.ref f165M)=true) (wi165:PySem.W.isFn K (.ref f165M)=true)
  (g7:PySem.W.nsIn K mainGlobals "OPERAND_PLACES"=some (some (.ref A7))) (d7:K.lookup A7=some ob7) (f7c:ob7.cls=.type "dict") (f7d:ob7.dict=none) (f7s:ob7.slots=#[]) (e7:ob7.data=.dict #[⟨PyData.keyHash Pm "put",.str "put" t7_0,.ref B7_0⟩,⟨PyData.keyHash Pm "if",.str "if" t7_1,.ref B7_1⟩,⟨PyData.keyHash Pm "tell",.str "tell" t7_2,.ref B7_2⟩,⟨PyData.keyHash Pm "go",.str "go" t7_3,.ref B7_3⟩,⟨PyData.keyHash Pm "skip",.str "skip" t7_4,.ref B7_4⟩] ep7) (s7:(A7==sysModules)=false)
  (h7_0:K.lookup B7_0=some bo7_0) (i7_0:bo7_0.cls=.type "tuple") (j7_0:bo7_0.data=.seq #[.int (2) u7_0_0,.int (4) u7_0_1] bn7_0)
  (h7_1:K.lookup B7_1=some bo7_1) (i7_1:bo7_1.cls=.type "tuple") (j7_1:bo7_1.data=.seq #[.int (1) u7_1_0,.int (3) u7_1_1] bn7_1)
  (h7_2:K.lookup B7_2=some bo7_2) (i7_2:bo7_2.cls=.type "tuple") (j7_2:bo7_2.data=.seq #[.int (1) u7_2_0] bn7_2)
  (h7_3:K.lookup B7_3=some bo7_3) (i7_3:bo7_3.cls=.type "tuple") (j7_3:bo7_3.data=.seq #[] bn7_3)
  (h7_4:K.lookup B7_4=some bo7_4) (i7_4:bo7_4.cls=.type "tuple") (j7_4:bo7_4.data=.seq #[] bn7_4)
  (a8:PySem.W.nsIn K mainGlobals "replaced"=some (some (.ref f8))) (l8:K.lookup f8=some ⟨oc8,od8,.func (PySem.W.fnOf "replaced" "replaced" (defArgs (top 2)) (defBody (top 2)) (defScope (top 2)) .none kV8 dc8 pm8 an8 cd8 ct8),sl8⟩) (c8:PySem.W.codeIn K cd8 "replaced"=true) (k8:PySem.W.keepIn K (.ref f8)=true)
  (a9:PySem.W.nsIn K mainGlobals "operand_places"=some (some (.ref f9))) (l9:K.lookup f9=some ⟨oc9,od9,.func (PySem.W.fnOf "operand_places" "operand_places" (defArgs (top 3)) (defBody (top 3)) (defScope (top 3)) .none kV9 dc9 pm9 an9 cd9 ct9),sl9⟩) (c9:PySem.W.codeIn K cd9 "operand_places"=true) (k9:PySem.W.keepIn K (.ref f9)=true)
  (g10:PySem.W.nsIn K mainGlobals "HALF"=some (some (.int (1000000000) t10)))
  (g11:PySem.W.nsIn K mainGlobals "RING"=some (some (.int (2000000000) t11)))
  (g12:PySem.W.nsIn K mainGlobals "PUT_SIGNS"=some (some (.ref A12))) (d12:K.lookup A12=some ob12) (f12c:ob12.cls=.type "tuple") (f12d:ob12.dict=none) (e12:ob12.data=.seq #[.str "+" t12_0,.str "-" t12_1,.str "*" t12_2,.str "/" t12_3,.str "mod" t12_4] on12)
  (g13:PySem.W.nsIn K mainGlobals "IF_SIGNS"=some (some (.ref A13))) (d13:K.lookup A13=some ob13) (f13c:ob13.cls=.type "tuple") (f13d:ob13.dict=none) (e13:ob13.data=.seq #[.str "<" t13_0,.str "<=" t13_1,.str "=" t13_2,.str ">=" t13_3,.str ">" t13_4,.str "!=" t13_5] on13)
  (a14:PySem.W.nsIn K mainGlobals "around"=some (some (.ref f14))) (l14:K.lookup f14=some ⟨oc14,od14,.func (PySem.W.fnOf "around" "around" (defArgs (top 9)) (defBody (top 9)) (defScope (top 9)) .none kV14 dc14 pm14 an14 cd14 ct14),sl14⟩) (c14:PySem.W.codeIn K cd14 "around"=true) (k14:PySem.W.keepIn K (.ref f14)=true)
  (g15:PySem.W.nsIn K mainGlobals "CONTRARIES"=some (some (.ref A15))) (d15:K.lookup A15=some ob15) (f15c:ob15.cls=.type "dict") (f15d:ob15.dict=none) (f15s:ob15.slots=#[]) (e15:ob15.data=.dict #[⟨PyData.keyHash Pm "<",.str "<" t15_0,.str ">=" u15_0⟩,⟨PyData.keyHash Pm ">=",.str ">=" t15_1,.str "<" u15_1⟩,⟨PyData.keyHash Pm "<=",.str "<=" t15_2,.str ">" u15_2⟩,⟨PyData.keyHash Pm ">",.str ">" t15_3,.str "<=" u15_3⟩,⟨PyData.keyHash Pm "=",.str "=" t15_4,.str "!=" u15_4⟩,⟨PyData.keyHash Pm "!=",.str "!=" t15_5,.str "=" u15_5⟩] ep15) (s15:(A15==sysModules)=false)
  (a16:PySem.W.nsIn K mainGlobals "behind"=some (some (.ref f16))) (l16:K.lookup f16=some ⟨oc16,od16,.func (PySem.W.fnOf "behind" "behind" (defArgs (top 12)) (defBody (top 12)) (defScope (top 12)) .none kV16 dc16 pm16 an16 cd16 ct16),sl16⟩) (c16:PySem.W.codeIn K cd16 "behind"=true) (k16:PySem.W.keepIn K (.ref f16)=true)
  (a17:PySem.W.nsIn K mainGlobals "fakes"=some (some (.ref f17))) (l17:K.lookup f17=some ⟨oc17,od17,.func (PySem.W.fnOf "fakes" "fakes" (defArgs (top 21)) (defBody (top 21)) (defScope (top 21)) .none kV17 dc17 pm17 an17 cd17 ct17),sl17⟩) (c17:PySem.W.codeIn K cd17 "fakes"=true) (k17:PySem.W.keepIn K (.ref f17)=true)
  (a18:PySem.W.nsIn K mainGlobals "_law_cell_at"=some (some (.ref f18))) (l18:K.lookup f18=some ⟨oc18,od18,.func (PySem.W.fnOf "_law_cell_at" "_law_cell_at" (defArgs (top 23)) (defBody (top 23)) (defScope (top 23)) .none kV18 dc18 pm18 an18 cd18 ct18),sl18⟩) (c18:PySem.W.codeIn K cd18 "_law_cell_at"=true) (k18:PySem.W.keepIn K (.ref f18)=true)
  (a19:PySem.W.nsIn K mainGlobals "_law_alike"=some (some (.ref f19))) (l19:K.lookup f19=some ⟨oc19,od19,.func (PySem.W.fnOf "_law_alike" "_law_alike" (defArgs (top 24)) (defBody (top 24)) (defScope (top 24)) .none kV19 dc19 pm19 an19 cd19 ct19),sl19⟩) (c19:PySem.W.codeIn K cd19 "_law_alike"=true) (k19:PySem.W.keepIn K (.ref f19)=true)
  (a20:PySem.W.nsIn K mainGlobals "_law_number_by"=some (some (.ref f20))) (l20:K.lookup f20=some ⟨oc20,od20,.func (PySem.W.fnOf "_law_number_by" "_law_number_by" (defArgs (top 25)) (defBody (top 25)) (defScope (top 25)) .none kV20 dc20 pm20 an20 cd20 ct20),sl20⟩) (c20:PySem.W.codeIn K cd20 "_law_number_by"=true) (k20:PySem.W.keepIn K (.ref f20)=true)
  (a21:PySem.W.nsIn K mainGlobals "_law_operand_by"=some (some (.ref f21))) (l21:K.lookup f21=some ⟨oc21,od21,.func (PySem.W.fnOf "_law_operand_by" "_law_operand_by" (defArgs (top 26)) (defBody (top 26)) (defScope (top 26)) .none kV21 dc21 pm21 an21 cd21 ct21),sl21⟩) (c21:PySem.W.codeIn K cd21 "_law_operand_by"=true) (k21:PySem.W.keepIn K (.ref f21)=true)
  (a22:PySem.W.nsIn K mainGlobals "_law_row_by"=some (some (.ref f22))) (l22:K.lookup f22=some ⟨oc22,od22,.func (PySem.W.fnOf "_law_row_by" "_law_row_by" (defArgs (top 27)) (defBody (top 27)) (defScope (top 27)) .none kV22 dc22 pm22 an22 cd22 ct22),sl22⟩) (c22:PySem.W.codeIn K cd22 "_law_row_by"=true) (k22:PySem.W.keepIn K (.ref f22)=true)
  (a23:PySem.W.nsIn K mainGlobals "_law_program"=some (some (.ref f23))) (l23:K.lookup f23=some ⟨oc23,od23,.func (PySem.W.fnOf "_law_program" "_law_program" (defArgs (top 28)) (defBody (top 28)) (defScope (top 28)) .none kV23 dc23 pm23 an23 cd23 ct23),sl23⟩) (c23:PySem.W.codeIn K cd23 "_law_program"=true) (k23:PySem.W.keepIn K (.ref f23)=true)
  (a24:PySem.W.nsIn K mainGlobals "_law_later"=some (some (.ref f24))) (l24:K.lookup f24=some ⟨oc24,od24,.func (PySem.W.fnOf "_law_later" "_law_later" (defArgs (top 29)) (defBody (top 29)) (defScope (top 29)) .none kV24 dc24 pm24 an24 cd24 ct24),sl24⟩) (c24:PySem.W.codeIn K cd24 "_law_later"=true) (k24:PySem.W.keepIn K (.ref f24)=true)
  (a25:PySem.W.nsIn K mainGlobals "_law_sign"=some (some (.ref f25))) (l25:K.lookup f25=some ⟨oc25,od25,.func (PySem.W.fnOf "_law_sign" "_law_sign" (defArgs (top 30)) (defBody (top 30)) (defScope (top 30)) .none kV25 dc25 pm25 an25 cd25 ct25),sl25⟩) (c25:PySem.W.codeIn K cd25 "_law_sign"=true) (k25:PySem.W.keepIn K (.ref f25)=true)
  (a26:PySem.W.nsIn K mainGlobals "_law_more"=some (some (.ref f26))) (l26:K.lookup f26=some ⟨oc26,od26,.func (PySem.W.fnOf "_law_more" "_law_more" (defArgs (top 31)) (defBody (top 31)) (defScope (top 31)) .none kV26 dc26 pm26 an26 cd26 ct26),sl26⟩) (c26:PySem.W.codeIn K cd26 "_law_more"=true) (k26:PySem.W.keepIn K (.ref f26)=true)
  (a27:PySem.W.nsIn K mainGlobals "_law_turn_and_out"=some (some (.ref f27))) (l27:K.lookup f27=some ⟨oc27,od27,.func (PySem.W.fnOf "_law_turn_and_out" "_law_turn_and_out" (defArgs (top 32)) (defBody (top 32)) (defScope (top 32)) .none kV27 dc27 pm27 an27 cd27 ct27),sl27⟩) (c27:PySem.W.codeIn K cd27 "_law_turn_and_out"=true) (k27:PySem.W.keepIn K (.ref f27)=true)
  (a28:PySem.W.nsIn K mainGlobals "_law_swap_and_far"=some (some (.ref f28))) (l28:K.lookup f28=some ⟨oc28,od28,.func (PySem.W.fnOf "_law_swap_and_far" "_law_swap_and_far" (defArgs (top 33)) (defBody (top 33)) (defScope (top 33)) .none kV28 dc28 pm28 an28 cd28 ct28),sl28⟩) (c28:PySem.W.codeIn K cd28 "_law_swap_and_far"=true) (k28:PySem.W.keepIn K (.ref f28)=true)
  (a29:PySem.W.nsIn K mainGlobals "law"=some (some (.ref f29))) (l29:K.lookup f29=some ⟨oc29,od29,.func (PySem.W.fnOf "law" "law" (defArgs (top 34)) (defBody (top 34)) (defScope (top 34)) .none kV29 dc29 pm29 an29 cd29 ct29),sl29⟩) (c29:PySem.W.codeIn K cd29 "law"=true) (k29:PySem.W.keepIn K (.ref f29)=true)
  (z30:PySem.W.nsIn K mainGlobals "len"=some none)
  (z31:PySem.W.nsIn K mainGlobals "range"=some none)
  (z32:PySem.W.nsIn K mainGlobals "tuple"=some none)
  (z33:PySem.W.nsIn K mainGlobals "list"=some none)
  (z34:PySem.W.nsIn K mainGlobals "int"=some none)
  (z35:PySem.W.nsIn K mainGlobals "bool"=some none)
  (z36:PySem.W.nsIn K mainGlobals "str"=some none)
  (z37:PySem.W.nsIn K mainGlobals "min"=some none)
  (z38:PySem.W.nsIn K mainGlobals "max"=some none)
  (z39:PySem.W.nsIn K mainGlobals "isinstance"=some none)
  (z40:PySem.W.nsIn K mainGlobals "all"=some none)
  (z41:PySem.W.nsIn K mainGlobals "any"=some none)
  (z42:PySem.W.nsIn K mainGlobals "zip"=some none)
  (z43:PySem.W.nsIn K mainGlobals "sorted"=some none)
  (z44:PySem.W.nsIn K mainGlobals "enumerate"=some none) :
  Text Pm K mg G T∧∃ (fd:FuncData) (N:List Str),(∀ (s:Shared) (u:Value),BindsTo s fd ⟨[u],[]⟩ [(S "_law_script",u)])∧DefOk K mg G T "law" 16 [] fa fd [S "_law_script"] N:=by
 have e:=hfa.symm.trans (PySem.W.mg_of X G0 a29)
 have e':fa=f29:=by cases e; rfl
 subst yz0
 subst yz1
 subst yz2
 subst yz3
 subst yz4
 subst yz5
 subst yz6
 have D8k:=mkD (i:=42) X G0 q_2 rfl a8 l8 c8 k8 (.all fun us hl=>by obtain ⟨_,_,_,rfl⟩:=UB (show us.length=3 from hl); rfl)
 have D9k:=mkD (i:=113) X G0 q_3 rfl a9 l9 c9 k9 (.all fun us hl=>by obtain ⟨_,rfl⟩:=Xz (show us.length=1 from hl); rfl)
 have D14k:=mkD (i:=0) X G0 q_9 rfl a14 l14 c14 k14 (.all fun us hl=>by obtain ⟨_,rfl⟩:=Xz (show us.length=1 from hl); rfl)
 have D16k:=mkD (i:=70) X G0 Zh0 rfl a16 l16 c16 k16 (.all fun us hl=>by obtain ⟨_,_,rfl⟩:=Zap (show us.length=2 from hl); rfl)
 have D17k:=mkD (i:=172) X G0 Zhx rfl a17 l17 c17 k17 (.all fun us hl=>by obtain ⟨_,rfl⟩:=Xz (show us.length=1 from hl); rfl)
 have D18k:=mkD (i:=27) X G0 ZhZ rfl a18 l18 c18 k18 (.all fun us hl=>by obtain ⟨_,_,rfl⟩:=Zap (show us.length=2 from hl); rfl)
 have D19k:=mkD (i:=36) X G0 Zh9 rfl a19 l19 c19 k19 (.all fun us hl=>by obtain ⟨_,_,rfl⟩:=Zap (show us.length=2 from hl); rfl)
 have D20k:=mkD (i:=18) X G0 Zho rfl a20 l20 c20 k20 (.all fun us hl=>by obtain ⟨_,rfl⟩:=Xz (show us.length=1 from hl); rfl)
 have D21k:=mkD (i:=71) X G0 ZhS rfl a21 l21 c21 k21 (.all fun us hl=>by obtain ⟨_,_,rfl⟩:=Zap (show us.length=2 from hl); rfl)
 have D22k:=mkD (i:=72) X G0 Zhk rfl a22 l22 c22 k22 (.all fun us hl=>by obtain ⟨_,_,_,rfl⟩:=UB (show us.length=3 from hl); rfl)
 have D23k:=mkD (i:=30) X G0 ZhT rfl a23 l23 c23 k23 (.all fun us hl=>by obtain ⟨_,rfl⟩:=Xz (show us.length=1 from hl); rfl)
 have D24k:=mkD (i:=173) X G0 Zid rfl a24 l24 c24 k24 (.all fun us hl=>by obtain ⟨_,_,rfl⟩:=Zap (show us.length=2 from hl); rfl)
 have D25k:=mkD (i:=174) X G0 Zia rfl a25 l25 c25 k25 (.all fun us hl=>by obtain ⟨_,rfl⟩:=Xz (show us.length=1 from hl); rfl)
 have D26k:=mkD (i:=156) X G0 Zhv rfl a26 l26 c26 k26 (.all fun us hl=>by obtain ⟨_,rfl⟩:=Xz (show us.length=1 from hl); rfl)
 have D27k:=mkD (i:=175) X G0 Zhi rfl a27 l27 c27 k27 (.all fun us hl=>by obtain ⟨_,rfl⟩:=Xz (show us.length=1 from hl); rfl)
 have D28k:=mkD (i:=176) X G0 ZhD rfl a28 l28 c28 k28 (.all fun us hl=>by obtain ⟨_,_,rfl⟩:=Zap (show us.length=2 from hl); rfl)
 have D29k:=mkD (i:=16) X G0 Zh5 rfl a29 l29 c29 k29 (.all fun us hl=>by obtain ⟨_,rfl⟩:=Xz (show us.length=1 from hl); rfl)
 have M0_147:=mkM (C:=ClsTab.ca 146) (i:=147) Zfc rfl wl147 wc147 wm0_147 wi147 wk147 (.all fun us hl=>by obtain ⟨_,rfl⟩:=Xz (show us.length=1 from hl); rfl)
 have M0_148:=mkM (C:=ClsTab.ca 146) (i:=148) Ze4 rfl wl148 wc148 wm0_148 wi148 wk148 (.all fun us hl=>by obtain ⟨_,_,_,rfl⟩:=UB (show us.length=3 from hl); rfl)
 have M1_170:=mkM (C:=ClsTab.ca 169) (i:=170) ZeT rfl wl170 wc170 wm1_170 wi170 wk170 (.all fun us hl=>by obtain ⟨_,rfl⟩:=Xz (show us.length=1 from hl); rfl)
 have M1_171:=mkM (C:=ClsTab.ca 169) (i:=171) ZeZ rfl wl171 wc171 wm1_171 wi171 wk171 (.all fun us hl=>by obtain ⟨_,_,_,rfl⟩:=UB (show us.length=3 from hl); rfl)
 have M2_150:=mkM (C:=ClsTab.ca 149) (i:=150) ZeX rfl wl150 wc150 wm2_150 wi150 wk150 (.all fun us hl=>by obtain ⟨_,rfl⟩:=Xz (show us.length=1 from hl); rfl)
 have M2_151:=mkM (C:=ClsTab.ca 149) (i:=151) ZeA rfl wl151 wc151 wm2_151 wi151 wk151 (.all fun us hl=>by obtain ⟨_,_,_,rfl⟩:=UB (show us.length=3 from hl); rfl)
 have M3_158:=mkM (C:=ClsTab.ca 157) (i:=158) Zeq rfl wl158 wc158 wm3_158 wi158 wk158 (.all fun us hl=>by obtain ⟨_,rfl⟩:=Xz (show us.length=1 from hl); rfl)
 have M3_159:=mkM (C:=ClsTab.ca 157) (i:=159) Zft rfl wl159 wc159 wm3_159 wi159 wk159 (.all fun us hl=>by obtain ⟨_,_,_,rfl⟩:=UB (show us.length=3 from hl); rfl)
 have M4_153:=mkM (C:=ClsTab.ca 152) (i:=153) Zem rfl wl153 wc153 wm4_153 wi153 wk153 (.all fun us hl=>by obtain ⟨_,rfl⟩:=Xz (show us.length=1 from hl); rfl)
 have M4_154:=mkM (C:=ClsTab.ca 152) (i:=154) Zfv rfl wl154 wc154 wm4_154 wi154 wk154 (.all fun us hl=>by obtain ⟨_,_,_,rfl⟩:=UB (show us.length=3 from hl); rfl)
 have M5_161:=mkM (C:=ClsTab.ca 160) (i:=161) Zee rfl wl161 wc161 wm5_161 wi161 wk161 (.all fun us hl=>by obtain ⟨_,rfl⟩:=Xz (show us.length=1 from hl); rfl)
 have M5_162:=mkM (C:=ClsTab.ca 160) (i:=162) Zen rfl wl162 wc162 wm5_162 wi162 wk162 (.all fun us hl=>by obtain ⟨_,_,_,rfl⟩:=UB (show us.length=3 from hl); rfl)
 have M6_164:=mkM (C:=ClsTab.ca 163) (i:=164) ZfK rfl wl164 wc164 wm6_164 wi164 wk164 (.all fun us hl=>by obtain ⟨_,rfl⟩:=Xz (show us.length=1 from hl); rfl)
 have M6_165:=mkM (C:=ClsTab.ca 163) (i:=165) Ze7 rfl wl165 wc165 wm6_165 wi165 wk165 (.all fun us hl=>by obtain ⟨_,_,_,rfl⟩:=UB (show us.length=3 from hl); rfl)
 refine ⟨ZdS ⟨⟨⟨PySem.W.mg_of X G0 ya0,⟨yb0,yc0,yd0,⟨ye0,yf0,yg0,yh0⟩⟩,⟨⟨⟨ye0,yf0,yg0,yh0⟩,yi0,yk,yl,yj0,ym0_0⟩,⟨⟨⟨ye1,yf1,yg1,yh1⟩,yi1,yk,yl,yj1,ym0_1⟩,⟨⟨⟨ye2,yf2,yg2,yh2⟩,yi2,yk,yl,yj2,ym0_2⟩,⟨⟨⟨ye3,yf3,yg3,yh3⟩,yi3,yk,yl,yj3,ym0_3⟩,⟨⟨⟨ye4,yf4,yg4,yh4⟩,yi4,yk,yl,yj4,ym0_4⟩,⟨⟨⟨ye5,yf5,yg5,yh5⟩,yi5,yk,yl,yj5,ym0_5⟩,⟨⟨⟨ye6,yf6,yg6,yh6⟩,yi6,yk,yl,yj6,ym0_6⟩,trivial⟩⟩⟩⟩⟩⟩⟩⟩,⟨⟨_,_,_,_,_,M0_147⟩,⟨⟨_,_,_,_,_,M0_148⟩,trivial⟩⟩⟩,⟨⟨PySem.W.mg_of X G0 ya1,⟨yb1,yc1,yd1,⟨ye1,yf1,yg1,yh1⟩⟩,⟨⟨⟨ye1,yf1,yg1,yh1⟩,yi1,yk,yl,yj1,ym1_1⟩,trivial⟩⟩,⟨⟨_,_,_,_,_,M1_170⟩,⟨⟨_,_,_,_,_,M1_171⟩,trivial⟩⟩⟩,⟨⟨PySem.W.mg_of X G0 ya2,⟨yb2,yc2,yd2,⟨ye2,yf2,yg2,yh2⟩⟩,⟨⟨⟨ye2,yf2,yg2,yh2⟩,yi2,yk,yl,yj2,ym2_2⟩,trivial⟩⟩,⟨⟨_,_,_,_,_,M2_150⟩,⟨⟨_,_,_,_,_,M2_151⟩,trivial⟩⟩⟩,⟨⟨PySem.W.mg_of X G0 ya3,⟨yb3,yc3,yd3,⟨ye3,yf3,yg3,yh3⟩⟩,⟨⟨⟨ye3,yf3,yg3,yh3⟩,yi3,yk,yl,yj3,ym3_3⟩,trivial⟩⟩,⟨⟨_,_,_,_,_,M3_158⟩,⟨⟨_,_,_,_,_,M3_159⟩,trivial⟩⟩⟩,⟨⟨PySem.W.mg_of X G0 ya4,⟨yb4,yc4,yd4,⟨ye4,yf4,yg4,yh4⟩⟩,⟨⟨⟨ye4,yf4,yg4,yh4⟩,yi4,yk,yl,yj4,ym4_4⟩,trivial⟩⟩,⟨⟨_,_,_,_,_,M4_153⟩,⟨⟨_,_,_,_,_,M4_154⟩,trivial⟩⟩⟩,⟨⟨PySem.W.mg_of X G0 ya5,⟨yb5,yc5,yd5,⟨ye5,yf5,yg5,yh5⟩⟩,⟨⟨⟨ye5,yf5,yg5,yh5⟩,yi5,yk,yl,yj5,ym5_5⟩,trivial⟩⟩,⟨⟨_,_,_,_,_,M5_161⟩,⟨⟨_,_,_,_,_,M5_162⟩,trivial⟩⟩⟩,⟨⟨PySem.W.mg_of X G0 ya6,⟨yb6,yc6,yd6,⟨ye6,yf6,yg6,yh6⟩⟩,⟨⟨⟨ye6,yf6,yg6,yh6⟩,yi6,yk,yl,yj6,ym6_6⟩,trivial⟩⟩,⟨⟨_,_,_,_,_,M6_164⟩,⟨⟨_,_,_,_,_,M6_165⟩,trivial⟩⟩⟩,⟨A7,ob7,#[⟨PyData.keyHash Pm "put",.str "put" t7_0,.ref B7_0⟩,⟨PyData.keyHash Pm "if",.str "if" t7_1,.ref B7_1⟩,⟨PyData.keyHash Pm "tell",.str "tell" t7_2,.ref B7_2⟩,⟨PyData.keyHash Pm "go",.str "go" t7_3,.ref B7_3⟩,⟨PyData.keyHash Pm "skip",.str "skip" t7_4,.ref B7_4⟩],ep7,PySem.W.mg_of X G0 g7,d7,⟨f7c,f7d,f7s⟩,e7,s7,(by simp),(show EsOk Pm K [⟨PyData.keyHash Pm "put",.str "put" t7_0,.ref B7_0⟩,⟨PyData.keyHash Pm "if",.str "if" t7_1,.ref B7_1⟩,⟨PyData.keyHash Pm "tell",.str "tell" t7_2,.ref B7_2⟩,⟨PyData.keyHash Pm "go",.str "go" t7_3,.ref B7_3⟩,⟨PyData.keyHash Pm "skip",.str "skip" t7_4,.ref B7_4⟩] _ _ from .cons (v:=.ref B7_0) (t:=t7_0) rfl rfl (show RelV (.ref B7_0) (.ref B7_0) from rfl) (fun _ _=>.tup (xs:=[.int (2),.int (4)]) (.inr ⟨bo7_0,#[.int (2) u7_0_0,.int (4) u7_0_1],bn7_0,h7_0,i7_0,j7_0,(show (2:Nat)≤sizeLine by decide),.cons ⟨_,rfl⟩ (.cons ⟨_,rfl⟩ (.nil))⟩) (.cons (.int _) (.cons (.int _) (.nil)))) (.cons (v:=.ref B7_1) (t:=t7_1) rfl rfl (show RelV (.ref B7_1) (.ref B7_1) from rfl) (fun _ _=>.tup (xs:=[.int (1),.int (3)]) (.inr ⟨bo7_1,#[.int (1) u7_1_0,.int (3) u7_1_1],bn7_1,h7_1,i7_1,j7_1,(show (2:Nat)≤sizeLine by decide),.cons ⟨_,rfl⟩ (.cons ⟨_,rfl⟩ (.nil))⟩) (.cons (.int _) (.cons (.int _) (.nil)))) (.cons (v:=.ref B7_2) (t:=t7_2) rfl rfl (show RelV (.ref B7_2) (.ref B7_2) from rfl) (fun _ _=>.tup (xs:=[.int (1)]) (.inr ⟨bo7_2,#[.int (1) u7_2_0],bn7_2,h7_2,i7_2,j7_2,(show (1:Nat)≤sizeLine by decide),.cons ⟨_,rfl⟩ (.nil)⟩) (.cons (.int _) (.nil))) (.cons (v:=.ref B7_3) (t:=t7_3) rfl rfl (show RelV (.ref B7_3) (.ref B7_3) from rfl) (fun _ _=>.tup (xs:=[]) (.inr ⟨bo7_3,#[],bn7_3,h7_3,i7_3,j7_3,(show (0:Nat)≤sizeLine by decide),.nil⟩) (.nil)) (.cons (v:=.ref B7_4) (t:=t7_4) rfl rfl (show RelV (.ref B7_4) (.ref B7_4) from rfl) (fun _ _=>.tup (xs:=[]) (.inr ⟨bo7_4,#[],bn7_4,h7_4,i7_4,j7_4,(show (0:Nat)≤sizeLine by decide),.nil⟩) (.nil)) (.nil))))))⟩,⟨_,_,_,_,D8k⟩,⟨_,_,_,_,D9k⟩,⟨_,_,PySem.W.mg_of X G0 g10,(show RelV (.int _) _ from ⟨_,rfl⟩),fun _ _=>.int _⟩,⟨_,_,PySem.W.mg_of X G0 g11,(show RelV (.int _) _ from ⟨_,rfl⟩),fun _ _=>.int _⟩,⟨.ref A12,.ref A12,PySem.W.mg_of X G0 g12,rfl,fun _ _=>.kt (its:=#[.str "+" t12_0,.str "-" t12_1,.str "*" t12_2,.str "/" t12_3,.str "mod" t12_4]) d12 f12c f12d e12 (show (5:Nat)≤sizeLine by decide) (.cons ⟨_,rfl⟩ (.cons ⟨_,rfl⟩ (.cons ⟨_,rfl⟩ (.cons ⟨_,rfl⟩ (.cons ⟨_,rfl⟩ (.nil))))))⟩,⟨.ref A13,.ref A13,PySem.W.mg_of X G0 g13,rfl,fun _ _=>.kt (its:=#[.str "<" t13_0,.str "<=" t13_1,.str "=" t13_2,.str ">=" t13_3,.str ">" t13_4,.str "!=" t13_5]) d13 f13c f13d e13 (show (6:Nat)≤sizeLine by decide) (.cons ⟨_,rfl⟩ (.cons ⟨_,rfl⟩ (.cons ⟨_,rfl⟩ (.cons ⟨_,rfl⟩ (.cons ⟨_,rfl⟩ (.cons ⟨_,rfl⟩ (.nil)))))))⟩,⟨_,_,_,_,D14k⟩,⟨A15,ob15,#[⟨PyData.keyHash Pm "<",.str "<" t15_0,.str ">=" u15_0⟩,⟨PyData.keyHash Pm ">=",.str ">=" t15_1,.str "<" u15_1⟩,⟨PyData.keyHash Pm "<=",.str "<=" t15_2,.str ">" u15_2⟩,⟨PyData.keyHash Pm ">",.str ">" t15_3,.str "<=" u15_3⟩,⟨PyData.keyHash Pm "=",.str "=" t15_4,.str "!=" u15_4⟩,⟨PyData.keyHash Pm "!=",.str "!=" t15_5,.str "=" u15_5⟩],ep15,PySem.W.mg_of X G0 g15,d15,⟨f15c,f15d,f15s⟩,e15,s15,(by simp),(show EsOk Pm K [⟨PyData.keyHash Pm "<",.str "<" t15_0,.str ">=" u15_0⟩,⟨PyData.keyHash Pm ">=",.str ">=" t15_1,.str "<" u15_1⟩,⟨PyData.keyHash Pm "<=",.str "<=" t15_2,.str ">" u15_2⟩,⟨PyData.keyHash Pm ">",.str ">" t15_3,.str "<=" u15_3⟩,⟨PyData.keyHash Pm "=",.str "=" t15_4,.str "!=" u15_4⟩,⟨PyData.keyHash Pm "!=",.str "!=" t15_5,.str "=" u15_5⟩] _ _ from .cons (v:=.str ">=") (t:=t15_0) rfl rfl (show RelV (.str ">=") (.str ">=" u15_0) from ⟨_,rfl⟩) (fun _ _=>.str _) (.cons (v:=.str "<") (t:=t15_1) rfl rfl (show RelV (.str "<") (.str "<" u15_1) from ⟨_,rfl⟩) (fun _ _=>.str _) (.cons (v:=.str ">") (t:=t15_2) rfl rfl (show RelV (.str ">") (.str ">" u15_2) from ⟨_,rfl⟩) (fun _ _=>.str _) (.cons (v:=.str "<=") (t:=t15_3) rfl rfl (show RelV (.str "<=") (.str "<=" u15_3) from ⟨_,rfl⟩) (fun _ _=>.str _) (.cons (v:=.str "!=") (t:=t15_4) rfl rfl (show RelV (.str "!=") (.str "!=" u15_4) from ⟨_,rfl⟩) (fun _ _=>.str _) (.cons (v:=.str "=") (t:=t15_5) rfl rfl (show RelV (.str "=") (.str "=" u15_5) from ⟨_,rfl⟩) (fun _ _=>.str _) (.nil)))))))⟩,⟨_,_,_,_,D16k⟩,⟨_,_,_,_,D17k⟩,⟨_,_,_,_,D18k⟩,⟨_,_,_,_,D19k⟩,⟨_,_,_,_,D20k⟩,⟨_,_,_,_,D21k⟩,⟨_,_,_,_,D22k⟩,⟨_,_,_,_,D23k⟩,⟨_,_,_,_,D24k⟩,⟨_,_,_,_,D25k⟩,⟨_,_,_,_,D26k⟩,⟨_,_,_,_,D27k⟩,⟨_,_,_,_,D28k⟩,⟨_,_,_,_,D29k⟩,PySem.W.mg_none_of X G0 z30,PySem.W.mg_none_of X G0 z31,PySem.W.mg_none_of X G0 z32,PySem.W.mg_none_of X G0 z33,PySem.W.mg_none_of X G0 z34,PySem.W.mg_none_of X G0 z35,PySem.W.mg_none_of X G0 z36,PySem.W.mg_none_of X G0 z37,PySem.W.mg_none_of X G0 z38,PySem.W.mg_none_of X G0 z39,PySem.W.mg_none_of X G0 z40,PySem.W.mg_none_of X G0 z41,PySem.W.mg_none_of X G0 z42,PySem.W.mg_none_of X G0 z43,PySem.W.mg_none_of X G0 z44,trivial⟩,PySem.W.fnOf "law" "law" (defArgs (top 34)) (defBody (top 34)) (defScope (top 34)) .none kV29 dc29 pm29 an29 cd29 ct29,[S "_law_script",S "_law_program_here",S "_law_rows",S "_law_due",S "_law_k",S "_law_away",S "_law_word",S "_law_row"],fun s u=>.of_eq rfl,?_⟩
 rw [e']
 exact D29k
theorem ZdH:∀ n,XD G (run T n):=fun _=>Zdq
end
end Dp
open PySem PySem.W PyProof.Rows
set_option maxRecDepth 100000 in
set_option maxHeartbeats 0 in
theorem PySem.Challenge.cw_fakehunt_k23_fakes_in_order_holds : PySem.Challenge.rw_fakehunt_k23_fakes_in_order.Holds := by
 w_on; o_law; k_head; (case hw=>w_witness2)
 k_fill
 refine Dp.Zcj (l:=PySem.Challenge.rw_fakehunt_k23_fakes_in_order) (G:=Dp.G) (T:=Dp.T) (n:=10) (i:=16) (x := "_law_script") rfl rfl ⟨rfl,by decide,by decide⟩ (fun w h Y=>PySem.W.kIn_of Y) Dp.ZdH ?F (fun ns hn=>Dp.JS hn)
 case F=>
  intro w mg fa h KX G0 hmg
  refine' ⟨Dp.tab [(146,?C0),(169,?C1),(149,?C2),(157,?C3),(152,?C4),(160,?C5),(163,?C6)],Dp.Ze9 (ct:=Dp.tab [(146,?C0),(169,?C1),(149,?C2),(157,?C3),(152,?C4),(160,?C5),(163,?C6)]) (Pm:=w.params) (C0:=?C0) (C1:=?C1) (C2:=?C2) (C3:=?C3) (C4:=?C4) (C5:=?C5) (C6:=?C6) KX G0 hmg ?z0 ?z1 ?z2 ?z3 ?z4 ?z5 ?z6 ?_ ?_ ?_ ?_ ?_ ?_ ?_ ?_ ?_ ?_ ?_ ?_ ?_ ?_ ?_ ?_ ?_ ?_ ?_ ?_ ?_ ?_ ?_ ?_ ?_ ?_ ?_ ?_ ?_ ?_ ?_ ?_ ?_ ?_ ?_ ?_ ?_ ?_ ?_ ?_ ?_ ?_ ?_ ?_ ?_ ?_ ?_ ?_ ?_ ?_ ?_ ?_ ?_ ?_ ?_ ?_ ?_ ?_ ?_ ?_ ?_ ?_ ?_ ?_ ?_ ?_ ?_ ?_ ?_ ?_ ?_ ?_ ?_ ?_ ?_ ?_ ?_ ?_ ?_ ?_ ?_ ?_ ?_ ?_ ?_ ?_ ?_ ?_ ?_ ?_ ?_ ?_ ?_ ?_ ?_ ?_ ?_ ?_ ?_ ?_ ?_ ?_ ?_ ?_ ?_ ?_ ?_ ?_ ?_ ?_ ?_ ?_ ?_ ?_ ?_ ?_ ?_ ?_ ?_ ?_ ?_ ?_ ?_ ?_ ?_ ?_ ?_ ?_ ?_ ?_ ?_ ?_ ?_ ?_ ?_ ?_ ?_ ?_ ?_ ?_ ?_ ?_ ?_ ?_ ?_ ?_ ?_ ?_ ?_ ?_ ?_ ?_ ?_ ?_ ?_ ?_ ?_ ?_ ?_ ?_ ?_ ?_ ?_ ?_ ?_ ?_ ?_ ?_ ?_ ?_ ?_ ?_ ?_ ?_ ?_ ?_ ?_ ?_ ?_ ?_ ?_ ?_ ?_ ?_ ?_ ?_ ?_ ?_ ?_ ?_ ?_ ?_ ?_ ?_ ?_ ?_ ?_ ?_ ?_ ?_ ?_ ?_ ?_ ?_ ?_ ?_ ?_ ?_ ?_ ?_ ?_ ?_ ?_ ?_ ?_ ?_ ?_ ?_ ?_ ?_ ?_ ?_ ?_ ?_ ?_ ?_ ?_ ?_ ?_ ?_ ?_ ?_ ?_ ?_ ?_ ?_ ?_ ?_ ?_ ?_ ?_ ?_ ?_ ?_ ?_ ?_ ?_ ?_ ?_ ?_ ?_ ?_ ?_ ?_ ?_ ?_ ?_ ?_ ?_ ?_ ?_ ?_ ?_ ?_ ?_ ?_ ?_ ?_ ?_ ?_ ?_ ?_ ?_ ?_ ?_ ?_ ?_ ?_ ?_⟩
  all_goals (first | k_is | exact rfl | skip)
  all_goals (first | k_is | exact rfl | skip)

import PyProof.Rows.All
import Wide.All
import OpenK.AllK
import Wide.FinOn
import Lean
import PyProof.EqAt
import PyProof.EqKinds
import PyProof.TupleCall
import PySem.Challenge.RW_fakehunt_k55_bits_of_fakes
set_option Elab.async false
set_option linter.all false
set_option maxRecDepth 100000
set_option maxHeartbeats 4000000
set_option genSizeOf false
namespace L2
open PySem PySem.Spec PyProof.Rows

noncomputable abbrev Key:=Sum Int Str
noncomputable def keyIs:Key→Value→Bool
  | .inl k,v=>Value.isInt k v
  | .inr x,v=>Value.isStrOf x v
noncomputable def keyH (w:World):Key→Int
  | .inl k=>hashInt k
  | .inr x=>hashStr w x
theorem keyIs_shape:∀ {k:Key}{v:Value},keyIs k v=true→(∃ i t,k=Sum.inl i∧v=Value.int i t)∨(∃ x t,k=Sum.inr x∧v=Value.str x t)
  | .inl i,v,h=>by
    obtain ⟨t,e⟩:=Value.isInt_shape (k:=i) (v:=v) h
    exact .inl ⟨i,t,rfl,e⟩
  | .inr x,v,h=>by
    obtain ⟨t,e⟩:=Value.isStrOf_shape (x:=x) (v:=v) h
    exact .inr ⟨x,t,rfl,e⟩
theorem keyIs_int (i:Int) (t:Tok):keyIs (.inl i) (.int i t)=true:=by simp [keyIs,Value.isInt]
theorem keyIs_str (x:Str) (t:Tok):keyIs (.inr x) (.str x t)=true:=by simp [keyIs,Value.isStrOf]
theorem key_ll (a b:Int):decide ((Sum.inl a:Key)=Sum.inl b)=(a==b):=by
  by_cases e:a=b
  · subst e; simp
  · have h:¬(Sum.inl a:Key)=Sum.inl b:=fun q=>e (Sum.inl.inj q)
    rw [decide_eq_false h]
    exact (beq_eq_false_iff_ne.mpr e).symm
theorem key_rr (a b:Str):decide ((Sum.inr a:Key)=Sum.inr b)=decide (a=b):=by
  by_cases e:a=b
  · subst e; simp
  · have h:¬(Sum.inr a:Key)=Sum.inr b:=fun q=>e (Sum.inr.inj q)
    rw [decide_eq_false h,decide_eq_false e]
theorem key_lr (a:Int) (b:Str):decide ((Sum.inl a:Key)=Sum.inr b)=false:=decide_eq_false (fun q=>nomatch q)
theorem key_rl (a:Str) (b:Int):decide ((Sum.inr a:Key)=Sum.inl b)=false:=decide_eq_false (fun q=>nomatch q)

noncomputable def mixKind (prog:Program) (w:World):PySem.KeyKind prog w Key where
  is:=keyIs
  hash:=keyH w
  inj:=fun v a b ha hb=>by
    rcases keyIs_shape ha with ⟨i,t,rfl,rfl⟩ | ⟨x,t,rfl,rfl⟩
    · rcases keyIs_shape hb with ⟨j,u,rfl,e⟩ | ⟨y,u,rfl,e⟩
      · injection e with e1 _; rw [e1]
      · exact nomatch e
    · rcases keyIs_shape hb with ⟨j,u,rfl,e⟩ | ⟨y,u,rfl,e⟩
      · exact nomatch e
      · injection e with e1 _; rw [e1]
  byValue:=fun k v h=>by
    rcases keyIs_shape h with ⟨i,t,rfl,rfl⟩ | ⟨x,t,rfl,rfl⟩<;>rfl
  pyHash:=fun hv h=>by
    rcases keyIs_shape hv with ⟨i,t,rfl,rfl⟩ | ⟨x,t,rfl,rfl⟩
    · exact wpAny_pyHash_int h
    · exact wpAny_pyHash_str h
  eqBool:=fun hu hv h=>by
    rcases keyIs_shape hu with ⟨i,t,rfl,rfl⟩ | ⟨x,t,rfl,rfl⟩
    · rcases keyIs_shape hv with ⟨j,u,rfl,rfl⟩ | ⟨y,u,rfl,rfl⟩
      · rw [key_ll] at h; exact wpAny_eqBool_int h
      · rw [key_lr] at h; exact SeqAt.EqAt.int_str i t y u _ _ _ _ h
    · rcases keyIs_shape hv with ⟨j,u,rfl,rfl⟩ | ⟨y,u,rfl,rfl⟩
      · rw [key_rl] at h; exact SeqAt.EqAt.str_int x t j u _ _ _ _ h
      · rw [key_rr] at h; exact wpAny_eqBool_str h
  «strs»:=fun k x t v h=>by
    rcases keyIs_shape h with ⟨i,u,rfl,e⟩ | ⟨y,u,rfl,e⟩
    · exact nomatch e
    · injection e with e1 _
      subst e1
      cases v<;>rfl

theorem mixKind_int (prog:Program) (w:World) (i:Int) (t:Tok):(mixKind prog w).is (.inl i) (.int i t)=true:=keyIs_int i t
theorem mixKind_str (prog:Program) (w:World) (x:Str) (t:Tok):(mixKind prog w).is (.inr x) (.str x t)=true:=keyIs_str x t
end L2

namespace L2
open PySem PySem.Spec PyProof.Rows

inductive V where
  | non | bl (b:Bool) | int (i:Int) | str (x:Str) | byt (b:Array UInt8) | flt (b:UInt64) | ref (a:Addr) | ty (n:String)
  deriving DecidableEq

noncomputable def RelV:V→Value→Prop
  | .non,u=>u=Value.none
  | .bl b,u=>u=Value.bool b
  | .int i,u=>∃ t,u=Value.int i t
  | .str x,u=>∃ t,u=Value.str x t
  | .byt b,u=>∃ t,u=Value.bytes b t
  | .flt b,u=>∃ t,u=Value.float b t
  | .ref a,u=>u=Value.ref a
  | .ty n,u=>u=Value.type n

noncomputable abbrev Vals:List V→List Value→Prop:=Paired RelV
theorem Vals.length {xs:List V}{us:List Value} (r:Vals xs us):xs.length=us.length:=Paired.length r
theorem Vals.get:∀ {xs:List V}{us:List Value}{i:Nat}{x:V},Vals xs us→xs[i]?=some x→∃ u,us[i]?=some u∧RelV x u
  | _,_,_,_,.nil,e=>by simp at e
  | _,_,0,_,.cons r _,e=>by simp at e; subst e; exact ⟨_,rfl,r⟩
  | _,_,i+1,x,.cons _ t,e=>by
    obtain ⟨u,h1,h2⟩:=Vals.get (i:=i) (x:=x) t (by simpa using e)
    exact ⟨u,by simpa using h1,h2⟩
theorem Vals.set {x:V}{u:Value} (r:RelV x u):∀ {xs:List V}{us:List Value} (i:Nat),Vals xs us→Vals (xs.set i x) (us.set i u)
  | _,_,_,.nil=>.nil
  | _,_,0,.cons _ t=>.cons r t
  | _,_,i+1,.cons q t=>.cons q (Vals.set r i t)
theorem Vals.append:∀ {xs ys:List V}{us ws:List Value},Vals xs us→Vals ys ws→Vals (xs++ys) (us++ws)
  | _,_,_,_,.nil,s=>s
  | _,_,_,_,.cons r t,s=>.cons r (Vals.append t s)
theorem Vals.take:∀ {xs:List V}{us:List Value} (n:Nat),Vals xs us→Vals (xs.take n) (us.take n)
  | _,_,0,_=>.nil
  | _,_,_+1,.nil=>.nil
  | _,_,n+1,.cons r t=>.cons r (Vals.take n t)
theorem Vals.drop:∀ {xs:List V}{us:List Value} (n:Nat),Vals xs us→Vals (xs.drop n) (us.drop n)
  | _,_,0,r=>r
  | _,_,_+1,.nil=>.nil
  | _,_,n+1,.cons _ t=>Vals.drop n t

noncomputable def RelO:Option V→Option Value→Prop
  | some v,some u=>RelV v u
  | none,none=>True
  | _,_=>False
noncomputable def KV {κ:Type}:List (κ×V)→List (κ×Value)→Prop:=Paired fun (p:κ×V) (q:κ×Value)=>p.1=q.1∧RelV p.2 q.2

noncomputable def kV:Key→V
  | .inl i=>.int i
  | .inr x=>.str x

inductive HO where
    | lst (xs:List V)
    | tup (xs:List V)
    | dK (kvs:List (Key×V)) | dT (kvs:List (List Key×V))
    | set (S:Int→Bool) (n:Nat)
    | ins (C dx:Addr) (fs:List (Str×V))
    | own (x:Addr)
    | xd (fs:List (Str×V))
    | met (f x:Addr)
    | rng (lo hi:Int)
    | frz (o:Obj) (u:HO)
    | tbl (ps:Array Value)
    | ext (φ:Heap→Prop)

noncomputable abbrev Hp:=Addr→Option HO
noncomputable def upd (H:Hp) (a:Addr) (o:HO):Hp:=fun b=>if b=a then some o else H b
theorem upd_same {H:Hp}{a:Addr}{o:HO}:upd H a o a=some o:=by unfold upd; rw [if_pos rfl]
theorem upd_ne {H:Hp}{a b:Addr}{o:HO} (h:b≠a):upd H a o b=H b:=by unfold upd; rw [if_neg h]
theorem ne_of {H:Hp}{a b:Addr}{o u:HO} (h:H a=some o) (h':H b=some u) (d:o≠u):a≠b:=by
  intro e; subst e; rw [h] at h'; exact d (Option.some.inj h')
theorem ne_of_none {H:Hp}{a b:Addr}{o:HO} (h:H a=some o) (h':H b=none):a≠b:=by
  intro e; subst e; rw [h] at h'; cases h'

section
variable (P:Program) (w:World)
noncomputable def ObjOk (H:Hp) (h:Heap) (a:Addr):HO→Prop
  | .lst xs=>xs.length≤sizeLine∧∃ (its:List Value) (n:Nat),Vals xs its∧h.get? a=some { cls:=.type "list",data:=.seq its.toArray n }
  | .tup xs=>xs.length≤sizeLine∧∃ its:List Value,Vals xs its∧IsTup h a its.toArray
  | .dK kvs=>kvs.length≤sizeLine∧(a==sysModules)=false∧∃ vs,KV kvs vs∧h.DictOf (mixKind P w) a vs
  | .dT kvs=>kvs.length≤sizeLine∧(a==sysModules)=false∧∃ xs:List (List Key×Addr×Value),
      Paired (fun (p:List Key×V) (q:List Key×Addr×Value)=>p.1=q.1∧H q.2.1=some (.tup (p.1.map kV))∧RelV p.2 q.2.2) kvs xs ∧
      ∃ o es ep,h.get? a=some o∧o.ExactDict∧o.data=.dict es ep∧es.toList=xs.map (entryOfKey (tupleKind (mixKind P w)))∧(xs.map (·.1)).Nodup
  | .set S n=>h.SetOf (intKind P w) a S n
  | .ins C dx fs=>H dx=some (.own a)∧fs.length≤1000∧dx≠a∧h.get? a=some (PySem.W.instObj C dx) ∧
      ∃ mA,h.Ns1 dx mA∧(∀ f,RelO (fs.lookup f) (mA f))∧PySem.Within mA (fs.map (·.1))
  | .own _=>∃ o,h.get? a=some o
  | .xd fs=>∃ mA,h.Ns1 a mA∧∀ f,RelO (fs.lookup f) (mA f)
  | .rng lo hi=>∃ t u v,h.get? a=some { cls:=.type "range",data:=.fields #[.int lo t,.int hi u,.int 1 v] }
  | .frz o u=>h.get? a=some o∧ObjOk H h a u
  | .tbl ps=>h.get? a=some { cls:=.none,data:=.fields ps }
  | .met f x=>h.get? a=some (PySem.W.methodObj (.ref f) (.ref x))
  | .ext φ=>φ h∧(∃ o,h.get? a=some o)∧∀ h1 h2:Heap,φ h1→(∀ o,h1.get? a=some o→h2.get? a=some o)→φ h2
noncomputable def HOk (H:Hp) (h:Heap):Prop:=∀ a o,H a=some o→ObjOk P w H h a o
end

section
variable {P:Program}{w:World}{H H':Hp}{h h':Heap}{a:Addr}{o:HO}
theorem ObjOk.lt (x:ObjOk P w H h a o):a < h.objs.size:=by
  cases o with
  | lst xs=>obtain ⟨_,_,_,_,e⟩:=x; exact Heap.lt_size e
  | tup xs=>obtain ⟨_,_,_,p⟩:=x; exact p.lt
  | dK kvs=>obtain ⟨_,_,_,_,o,_,_,e,_⟩:=x; exact Heap.lt_size e
  | dT kvs=>obtain ⟨_,_,_,_,o,_,_,e,_⟩:=x; exact Heap.lt_size e
  | set S n=>obtain ⟨o,_,_,_,e,_⟩:=x; exact Heap.lt_size e
  | ins C dx fs=>obtain ⟨_,_,_,e,_⟩:=x; exact Heap.lt_size e
  | own y=>obtain ⟨_,e⟩:=x; exact Heap.lt_size e
  | xd fs=>obtain ⟨_,⟨_,_,_,e,_⟩,_⟩:=x; exact Heap.lt_size e
  | rng lo hi=>obtain ⟨_,_,_,e⟩:=x; exact Heap.lt_size e
  | frz ob u=>obtain ⟨e,_⟩:=x; exact Heap.lt_size e
  | tbl ps=>exact Heap.lt_size (show h.get? a=some _ from x)
  | met f y=>exact Heap.lt_size (show h.get? a=some _ from x)
  | ext φ=>obtain ⟨_,⟨_,e⟩,_⟩:=x; exact Heap.lt_size e
theorem Paired.mapP {α β:Type}{F G:α→β→Prop}:∀ {l₁:List α}{l₂:List β},Paired F l₁ l₂→(∀ a b,F a b→G a b)→Paired G l₁ l₂
  | _,_,.nil,_=>.nil
  | _,_,.cons r t,f=>.cons (f _ _ r) (Paired.mapP t f)
theorem ObjOk.stay (x:ObjOk P w H h a o) (k:∀ b u,(b=a∨H b=some (.own a))→h.get? b=some u→h'.get? b=some u)
    (ho:∀ b,H b=some (.own a)→H' b=some (.own a)) (ht:∀ b xs,H b=some (.tup xs)→H' b=some (.tup xs)):ObjOk P w H' h' a o:=by
  induction o with
  | lst xs=>obtain ⟨z,its,n,r,e⟩:=x; exact ⟨z,its,n,r,k _ _ (.inl rfl) e⟩
  | tup xs=>obtain ⟨z,its,r,ob,e,c⟩:=x; exact ⟨z,its,r,ob,k _ _ (.inl rfl) e,c⟩
  | dK kvs=>obtain ⟨z,y,vs,r,ob,es,ep,e,c⟩:=x; exact ⟨z,y,vs,r,ob,es,ep,k _ _ (.inl rfl) e,c⟩
  | dT kvs=>
    obtain ⟨z,y,xs,r,ob,es,ep,e,c⟩:=x
    exact ⟨z,y,xs,Paired.mapP r fun p q z=>⟨z.1,ht _ _ z.2.1,z.2.2⟩,ob,es,ep,k _ _ (.inl rfl) e,c⟩
  | set S n=>obtain ⟨ob,es,ep,t,e,c⟩:=x; exact ⟨ob,es,ep,t,k _ _ (.inl rfl) e,c⟩
  | ins C dx fs=>
    obtain ⟨d,z,ne,e,mA,⟨od,es,ep,e2,c⟩,r⟩:=x
    exact ⟨ho _ d,z,ne,k _ _ (.inl rfl) e,mA,⟨od,es,ep,k _ _ (.inr d) e2,c⟩,r⟩
  | own y=>obtain ⟨ob,e⟩:=x; exact ⟨ob,k _ _ (.inl rfl) e⟩
  | xd fs=>obtain ⟨mA,⟨od,es,ep,e,c⟩,r⟩:=x; exact ⟨mA,⟨od,es,ep,k _ _ (.inl rfl) e,c⟩,r⟩
  | rng lo hi=>obtain ⟨t,u,v,e⟩:=x; exact ⟨t,u,v,k _ _ (.inl rfl) e⟩
  | frz ob u ih=>obtain ⟨e,q⟩:=x; exact ⟨k _ _ (.inl rfl) e,ih q⟩
  | tbl ps=>
    have e:h.get? a=some { cls:=.none,data:=.fields ps }:=x
    show h'.get? a=some { cls:=.none,data:=.fields ps }
    exact k a _ (.inl rfl) e
  | met f y=>
    have e:h.get? a=some (PySem.W.methodObj (.ref f) (.ref y)):=x
    show h'.get? a=some (PySem.W.methodObj (.ref f) (.ref y))
    exact k a _ (.inl rfl) e
  | ext φ=>obtain ⟨p,⟨o,e⟩,st⟩:=x; exact ⟨st _ _ p fun o q=>k _ _ (.inl rfl) q,⟨o,k _ _ (.inl rfl) e⟩,st⟩
theorem HOk.lt (x:HOk P w H h) (e:H a=some o):a < h.objs.size:=(x a o e).lt
theorem HOk.fresh (x:HOk P w H h) (e:h.objs.size≤a):H a=none:=by
  cases q:H a with
  | none=>rfl
  | some u=>exact absurd (Nat.lt_of_lt_of_le (x.lt q) e) (Nat.lt_irrefl _)
theorem HOk.kept (x:HOk P w H h) (k:∀ b u,h.get? b=some u→h'.get? b=some u):HOk P w H h':=fun a o e=>
  (x a o e).stay (fun b u _ q=>k b u q) (fun _ q=>q) fun _ _ q=>q
theorem HOk.laid (x:HOk P w H h) (k:∀ b u,h.get? b=some u→h'.get? b=some u) (hp:h.objs.size≤a) (new:ObjOk P w (upd H a o) h' a o):HOk P w (upd H a o) h':=fun b u e=>by
  have hn:=x.fresh hp
  by_cases hb:b=a
  · subst hb; rw [upd_same] at e; cases e; exact new
  · rw [upd_ne hb] at e
    exact (x b u e).stay (fun c v _ q=>k c v q) (fun c q=>by rw [upd_ne (ne_of_none q hn)]; exact q) fun c xs q=>by rw [upd_ne (ne_of_none q hn)]; exact q
end

noncomputable def Rd (H:Hp) (a:Addr) (u:HO):Prop:=H a=some u∨∃ o,H a=some (.frz o u)
theorem Rd.ok {P:Program}{w:World}{H:Hp}{h:Heap}{a:Addr}{u:HO} (r:Rd H a u) (x:HOk P w H h):ObjOk P w H h a u:=by
  rcases r with r | ⟨o,r⟩
  · exact x a u r
  · obtain ⟨_,q⟩:=x a _ r
    exact q
noncomputable def Mut:Option HO→Prop
  | some (.lst _)=>True
  | some (.dK _)=>True
  | some (.dT _)=>True
  | some (.set _ _)=>True
  | some (.ins _ _ _)=>True
  | some (.ext _)=>True
  | _=>False
section
variable {P:Program}{w:World}{H:Hp}{h h':Heap}{x e:Addr}{o':HO}
theorem HOk.write (ok:HOk P w H h) (mu:Mut (H x)) (he:e=x∨H e=some (.own x)) (k:∀ b u,b≠e→h.get? b=some u→h'.get? b=some u) (heo:∃ u,h'.get? e=some u)
    (new:ObjOk P w (upd H x o') h' x o'):HOk P w (upd H x o') h':=fun b u q=>by
  have nown:∀ c y,H c=some (.own y)→c≠x:=fun c y r z=>by subst z; rw [r] at mu; exact mu
  have ntup:∀ c xs,H c=some (.tup xs)→c≠x:=fun c xs r z=>by subst z; rw [r] at mu; exact mu
  by_cases hb:b=x
  · subst hb; rw [upd_same] at q; cases q; exact new
  · rw [upd_ne hb] at q
    by_cases hbe:b=e
    · have q':H b=some (.own x):=by
        rcases he with z | z
        · exact absurd (hbe.trans z) hb
        · rw [hbe]; exact z
      rw [q] at q'; cases q'
      obtain ⟨v,hv⟩:=heo
      exact ⟨v,by rw [hbe]; exact hv⟩
    · refine (ok b u q).stay (fun c v hc r=>k c v ?_ r) (fun c r=>by rw [upd_ne (nown c b r)]; exact r) fun c xs r=>by rw [upd_ne (ntup c xs r)]; exact r
      rcases hc with rfl | hc
      · exact hbe
      · rintro rfl
        rcases he with z | z
        · exact nown c b hc z
        · rw [hc] at z; cases z; exact hb rfl
end

structure Un (fs ex:List Addr) (H H':Hp) (h h':Heap):Prop where
  keep:∀ b o,h.get? b=some o→H b=none→b∉fs→b∉ex→h'.get? b=some o
  slot:∀ b o,h.get? b=some o→H b=none→b∈fs→b∉ex→∃ sl,h'.get? b=some { o with slots:=sl }
  free:∀ b o,h.get? b=some o→H b=none→b∉ex→H' b=none
  there:∀ b o,h.get? b=some o→b∉ex→∃ o',h'.get? b=some o'
  tups:∀ b xs,H b=some (.tup xs)→H' b=some (.tup xs)
  frzs:∀ b o u,H b=some (.frz o u)→H' b=some (.frz o u)
  tbls:∀ b ps,H b=some (.tbl ps)→∃ more,H' b=some (.tbl (ps++more))
section
variable {fs fs' ex ex':List Addr}{H H1 H2:Hp}{h h1 h2 h':Heap}{a x e:Addr}{o:HO}
theorem Un.any (u:Un fs ex H H1 h h1) {b:Addr}{ob:Obj} (q:h.get? b=some ob) (n:H b=none) (hx:b∉ex):∃ sl,h1.get? b=some { ob with slots:=sl }:=by
  by_cases hb:b∈fs
  · exact u.slot b ob q n hb hx
  · exact ⟨ob.slots,u.keep b ob q n hb hx⟩
theorem Un.kept (k:∀ b u,h.get? b=some u→h'.get? b=some u):Un fs ex H H h h':=
  ⟨fun b ob q _ _ _=>k b ob q,fun b ob q _ _ _=>⟨ob.slots,k b ob q⟩,fun _ _ _ n _=>n,fun b ob q _=>⟨ob,k b ob q⟩,fun _ _ q=>q,fun _ _ _ q=>q,fun _ ps q=>⟨#[],by rw [q]; simp⟩⟩
theorem Un.refl:Un fs ex H H h h:=Un.kept fun _ _ q=>q
theorem Un.laid (k:∀ b u,h.get? b=some u→h'.get? b=some u) (hp:h.objs.size≤a) (hn:H a=none):Un fs ex H (upd H a o) h h' where
  keep:=fun b u q _ _ _=>k b u q
  slot:=fun b u q _ _ _=>⟨u.slots,k b u q⟩
  free:=fun b u q n _=>by rw [upd_ne (Nat.ne_of_lt (Nat.lt_of_lt_of_le (Heap.lt_size q) hp))]; exact n
  there:=fun b u q _=>⟨u,k b u q⟩
  tups:=fun b xs q=>by rw [upd_ne (ne_of_none q hn)]; exact q
  frzs:=fun b u xs q=>by rw [upd_ne (ne_of_none q hn)]; exact q
  tbls:=fun b ps q=>⟨#[],by rw [upd_ne (ne_of_none q hn),q]; simp⟩
theorem Un.write (mu:Mut (H x)) (he:e=x∨H e=some (.own x)) (k:∀ b u,b≠e→h.get? b=some u→h'.get? b=some u) (heo:∃ u,h'.get? e=some u):Un fs ex H (upd H x o) h h':=by
  have hx:∀ b,H b=none→b≠x:=fun b n z=>by subst z; rw [n] at mu; exact mu
  have hb:∀ b,H b=none→b≠e:=fun b n z=>by
    subst z
    rcases he with r | r
    · exact hx b n r
    · rw [n] at r; cases r
  have hm:∀ b u,H b=some u→¬Mut (some u)→b≠x:=fun b u q nm z=>by subst z; rw [q] at mu; exact nm mu
  refine ⟨fun b u q n _ _=>k b u (hb b n) q,fun b u q n _ _=>⟨u.slots,k b u (hb b n) q⟩,fun b u q n _=>by rw [upd_ne (hx b n)]; exact n,fun b u q _=>?_,
    fun b xs q=>by rw [upd_ne (hm b _ q fun z=>z)]; exact q,fun b u xs q=>by rw [upd_ne (hm b _ q fun z=>z)]; exact q,fun b ps q=>⟨#[],by rw [upd_ne (hm b _ q fun z=>z),q]; simp⟩⟩
  by_cases hbe:b=e
  · subst hbe; exact heo
  · exact ⟨u,k b u hbe q⟩
end

noncomputable def trk (h:Heap) (H:Hp):List Addr:=(List.range h.objs.size).filter fun a=>(H a).isSome
noncomputable def hidT (h:Heap) (H:Hp):Heap:=PySem.W.hideAll h (trk h H)
theorem hidT_size (h:Heap) (H:Hp):(hidT h H).objs.size=h.objs.size:=PySem.W.hideAll_size _ _
theorem hidT_get {h:Heap}{H:Hp}{b:Addr}{o:Obj} (e:h.get? b=some o) (n:H b=none):(hidT h H).get? b=some o:=
  PySem.W.hideAll_get _ e fun hm=>by
    have q:(H b).isSome=true:=(List.mem_filter.mp hm).2
    rw [n] at q; simp at q
theorem of_hidT {h:Heap}{H:Hp}{b:Addr}{o:Obj} (e:(hidT h H).get? b=some o):h.get? b=some o∧H b=none:=by
  have e':h.get? b=some o:=PySem.W.of_hideAll (trk h H) e
  refine ⟨e',?_⟩
  cases q:H b with
  | none=>rfl
  | some x=>
    have hm:b∈trk h H:=List.mem_filter.mpr ⟨List.mem_range.mpr (Heap.lt_size e'),by simp [q]⟩
    have z:(hidT h H).get? b=none:=PySem.W.hideAll_none (trk h H) hm
    rw [z] at e; cases e

end L2

namespace L2
open PySem PySem.Spec PyProof.Rows

structure Mod (K:PySem.W.Frag) (mg:Str→Option Value) (base:Heap):Prop where
  kin:K.In base
  glob:base.Ns mainGlobals mg
  blt:∃ mb,base.Ns builtinsNs mb∧∀ x:Str,x ≠ "__name__"→mb x=bootBuiltins x
  nolimit:base.NoLimit

structure Cx where
  prog:Program
  w:World
  K:PySem.W.Frag
  mg:Str→Option Value
  base:Heap
  A:Around
  N:List Str
  s₀:Shared
  H₀:Hp
  env:Env
  outer:List Env
  stack:List Env
  ex:List Addr
  fn:Str→Bool
  calm:Bool
  pn:List (Addr×Obj)
  xe:Value→Shared→Prop
noncomputable def frs (l:List Env):List Addr:=l.filterMap (·.frame)
noncomputable abbrev Cx.fs (X:Cx):List Addr:=frs X.outer

noncomputable def Vis (sc:Scope) (x:Str):Prop:=sc.names.lookup x=some .local∨sc.names.lookup x=some .cell∨sc.names.lookup x=some .free
noncomputable def Loc (sc:Scope) (x:Str):Prop:=sc.names.lookup x=some .local∨sc.names.lookup x=some .cell
noncomputable def Look (env:Env) (h:Heap) (m:Str→Option Value) (x:Str) (u:Value):Prop:=
  (env.kindOf x=some .local∧m x=some u)∨((env.kindOf x=some .cell∨env.kindOf x=some .free)∧∃ c,env.cells.lookup x=some c∧h.IsCell c (some u))

structure Cx.Ok (X:Cx):Prop where
  mod:Mod X.K X.mg X.base
  kind:X.env.scope.kind=.function
  glob:X.env.globals=mainGlobals
  blt:X.env.builtins=builtinsNs
  above:X.s₀.heap.objs.size≤X.env.locals
  inj:∀ x y c,X.env.cells.lookup x=some c→X.env.cells.lookup y=some c→x=y
  has:∀ x,(X.env.kindOf x=some .cell∨X.env.kindOf x=some .free)→∃ c,X.env.cells.lookup x=some c
  cab:∀ x c,X.fn x=true→X.env.cells.lookup x=some c→X.s₀.heap.objs.size≤c
  hd:X.calm=true→X.A.handled=none
  frames:X.A.frames=some X.stack
  stk:X.stack=X.outer∨(X.stack=X.env :: X.outer∧X.env.frame=some X.env.locals)
  exf:∀ b∈X.ex,b≠X.env.locals∧∀ x c,X.env.cells.lookup x=some c→c≠b
  bs:∀ b o,X.base.get? b=some o→X.s₀.heap.get? b=some o∧X.H₀ b=none
  bsz:X.base.objs.size≤X.s₀.heap.objs.size
  noex:∀ b o,X.base.get? b=some o→b∉X.ex
  exfs:∀ b∈X.ex,b∉X.fs
  funs:X.s₀.heap.FunFrames X.base X.outer
  frf:∀ b∈X.fs,X.H₀ b=none

structure Inv (X:Cx) (pins:List (Addr×Obj)) (σ:List (Option V)) (H:Hp) (s:Shared):Prop where
  ok:X.Ok
  os:s.os=X.s₀.os
  bare:AllBare s.gens
  base:Un X.fs X.ex X.H₀ H X.s₀.heap s.heap
  loc:∃ m,s.heap.Ns X.env.locals m∧∀ (i:Nat) (x:Str) (v:V),X.N[i]?=some x→σ[i]?=some (some v)→Vis X.env.scope x→∃ u,RelV v u∧Look X.env s.heap m x u
  cell:∀ x c,X.env.cells.lookup x=some c→∃ v,s.heap.IsCell c v
  free:H X.env.locals=none
  freeC:∀ x c,X.env.cells.lookup x=some c→H c=none
  pin:∀ p∈X.pn++pins,s.heap.get? p.1=some p.2∧H p.1=none∧p.1≠X.env.locals∧p.1∉X.fs∧∀ v,p.2.data≠.cell v
  hok:HOk X.prog X.w H s.heap
  len:σ.length=X.N.length

section
variable {X:Cx}{pins:List (Addr×Obj)}{σ:List (Option V)}{H H':Hp}{s:Shared}{h':Heap}

theorem Cx.Ok.nofr (ok:X.Ok) {b:Addr}{o:Obj} (e:X.base.get? b=some o):b∉X.fs:=fun hb=>by
  have:=(ok.funs.mem hb).1
  rw [e] at this; cases this
theorem Inv.bs (I:Inv X pins σ H s):∀ b o,X.base.get? b=some o→s.heap.get? b=some o∧H b=none:=fun b o e=>
  ⟨I.base.keep b o (I.ok.bs b o e).1 (I.ok.bs b o e).2 (I.ok.nofr e) (I.ok.noex b o e),I.base.free b o (I.ok.bs b o e).1 (I.ok.bs b o e).2 (I.ok.noex b o e)⟩
theorem Inv.bk (I:Inv X pins σ H s):∀ b o,X.base.get? b=some o→s.heap.get? b=some o:=fun b o e=>(I.bs b o e).1
theorem Inv.mod (I:Inv X pins σ H s):Mod X.K X.mg X.base:=I.ok.mod
theorem Inv.kIn (I:Inv X pins σ H s):X.K.In s.heap:=I.ok.mod.kin.keeps I.bk
theorem Inv.lt (I:Inv X pins σ H s):X.env.locals < s.heap.objs.size:=let ⟨_,hn,_⟩:=I.loc; hn.lt
theorem Inv.sz (I:Inv X pins σ H s):X.s₀.heap.objs.size≤s.heap.objs.size:=Nat.le_trans I.ok.above (Nat.le_of_lt I.lt)
theorem Inv.nofs (I:Inv X pins σ H s) {a:Addr} (h:s.heap.objs.size≤a):a∉X.fs:=fun hb=>by
  obtain ⟨_,o,ho,_⟩:=I.ok.funs.mem hb
  exact absurd (Nat.lt_of_lt_of_le (Heap.lt_size ho) (Nat.le_trans I.sz h)) (Nat.lt_irrefl _)
theorem Inv.cne (I:Inv X pins σ H s):∀ x c,X.env.cells.lookup x=some c→c≠X.env.locals:=fun x c e z=>by
  obtain ⟨v,o,ho,hd⟩:=I.cell x c e
  obtain ⟨m,⟨o',es,ep,ho',hd',_⟩,_⟩:=I.loc
  rw [z,ho'] at ho; cases ho; rw [hd'] at hd; cases hd
theorem Inv.funs (I:Inv X pins σ H s):s.heap.FunFrames X.base X.outer:=by
  have all:∀ (l:List Env),(∀ b∈frs l,b∈X.fs)→X.s₀.heap.FunFrames X.base l→s.heap.FunFrames X.base l:=by
    intro l
    induction l with
    | nil=>intro _ _; trivial
    | cons env r ih=>
      intro hs hl
      obtain ⟨hk,⟨L,o,hf,hn,ho,hd⟩,hr⟩:=hl
      have hL:L∈X.fs:=hs L (by unfold frs; rw [List.filterMap_cons,hf]; exact List.mem_cons_self)
      obtain ⟨sl,e⟩:=I.base.slot L o ho (I.ok.frf L hL) hL fun z=>I.ok.exfs L z hL
      exact ⟨hk,⟨L,_,hf,hn,e,hd⟩,ih (fun b hb=>hs b (by unfold frs; rw [List.filterMap_cons,hf]; exact List.mem_cons_of_mem _ hb)) hr⟩
  exact all X.outer (fun _ hb=>hb) I.ok.funs

theorem Inv.stack (I:Inv X pins σ H s):s.heap.FunFrames X.base X.stack:=by
  rcases I.ok.stk with e | ⟨e,hf⟩
  · rw [e]; exact I.funs
  · rw [e]
    obtain ⟨m,hn,_⟩:=I.loc
    refine .cons (by rw [I.ok.kind]; decide) hf hn ?_ I.funs
    exact Heap.get?_none_of_le (Nat.le_trans I.ok.bsz I.ok.above)
theorem Inv.stkSub (I:Inv X pins σ H s):∀ b∈frs X.stack,b∈X.env.locals :: X.fs:=fun b hb=>by
  rcases I.ok.stk with e | ⟨e,hf⟩
  · rw [e] at hb; exact List.mem_cons_of_mem _ hb
  · rw [e] at hb
    unfold frs at hb
    rw [List.filterMap_cons,hf] at hb
    exact hb
theorem Inv.stkFree (I:Inv X pins σ H s):∀ b∈frs X.stack,H b=none:=fun b hb=>by
  rcases List.mem_cons.mp (I.stkSub b hb) with e | hb
  · rw [e]; exact I.free
  · obtain ⟨_,o,ho,_⟩:=I.ok.funs.mem hb
    exact I.base.free b o ho (I.ok.frf b hb) fun z=>I.ok.exfs b z hb

theorem Inv.step {g':Array GenState}{t':Nat}{d':Drawn}{ch:List Addr} (I:Inv X pins σ H s)
    (hch:∀ b∈ch,(b∈X.ex∨X.s₀.heap.objs.size≤b)∧b≠X.env.locals∧(∀ x c,X.env.cells.lookup x=some c→c≠b)∧∀ p∈X.pn++pins,p.1≠b)
    (keep:∀ b o,b≠X.env.locals→b∉X.fs→b∉ch→s.heap.get? b=some o→H b=none→h'.get? b=some o)
    (slot:∀ b o,b≠X.env.locals→b∈X.fs→b∉ch→s.heap.get? b=some o→H b=none→∃ sl,h'.get? b=some { o with slots:=sl }) (free:∀ b o,b∉ch→s.heap.get? b=some o→H b=none→H' b=none)
    (there:∀ b o,b∉ch→s.heap.get? b=some o→∃ o',h'.get? b=some o')
    (tups:∀ b xs,H b=some (.tup xs)→H' b=some (.tup xs)) (frzs:∀ b o u,H b=some (.frz o u)→H' b=some (.frz o u)) (tbls:∀ b ps,H b=some (.tbl ps)→∃ more,H' b=some (.tbl (ps++more)))
    (ns:∀ m,s.heap.Ns X.env.locals m→h'.Ns X.env.locals m) (hok:HOk X.prog X.w H' h') (hg:AllBare g') :
    Inv X pins σ H' { s with heap:=h',gens:=g',drawn:=d',toks:=t' }:=by
  have neL:∀ b o,X.s₀.heap.get? b=some o→b≠X.env.locals:=fun b o e=>Nat.ne_of_lt (Nat.lt_of_lt_of_le (Heap.lt_size e) I.ok.above)
  have neC:∀ b o,X.s₀.heap.get? b=some o→b∉X.ex→b∉ch:=fun b o e hx hb=>by
    rcases (hch b hb).1 with z | z
    · exact hx z
    · exact absurd (Nat.lt_of_lt_of_le (Heap.lt_size e) z) (Nat.lt_irrefl _)
  have cellK:∀ x c,X.env.cells.lookup x=some c→∀ v,s.heap.IsCell c v→h'.IsCell c v:=fun x c e v ⟨o,ho,hd⟩=>by
    have nch:c∉ch:=fun z=>(hch c z).2.2.1 x c e rfl
    by_cases hc:c∈X.fs
    · obtain ⟨sl,q⟩:=slot c o (I.cne x c e) hc nch ho (I.freeC x c e)
      exact ⟨_,q,hd⟩
    · exact ⟨o,keep c o (I.cne x c e) hc nch ho (I.freeC x c e),hd⟩
  refine ⟨I.ok,I.os,hg,⟨fun b o e n hb hx=>?_,fun b o e n hb hx=>?_,fun b o e n hx=>?_,fun b o e hx=>?_,fun b xs e=>tups b xs (I.base.tups b xs e),fun b o xs e=>frzs b o xs (I.base.frzs b o xs e),fun b ps e=>?_⟩,?_,fun x c e=>?_,?_,fun x c e=>?_,fun p hp=>?_,hok,I.len⟩
  · exact keep b o (neL b o e) hb (neC b o e hx) (I.base.keep b o e n hb hx) (I.base.free b o e n hx)
  · obtain ⟨sl,e1⟩:=I.base.slot b o e n hb hx
    obtain ⟨sl',e2⟩:=slot b _ (neL b o e) hb (neC b o e hx) e1 (I.base.free b o e n hx)
    exact ⟨sl',e2⟩
  · obtain ⟨o',e1⟩:=I.base.there b o e hx
    exact free b o' (neC b o e hx) e1 (I.base.free b o e n hx)
  · obtain ⟨o',e1⟩:=I.base.there b o e hx
    exact there b o' (neC b o e hx) e1
  · obtain ⟨m1,e1⟩:=I.base.tbls b ps e
    obtain ⟨m2,e2⟩:=tbls b _ e1
    exact ⟨m1++m2,by rw [e2,Array.append_assoc]⟩
  · obtain ⟨m,hn,hl⟩:=I.loc
    refine ⟨m,ns m hn,fun i x v e1 e2 e3=>?_⟩
    obtain ⟨u,r,l⟩:=hl i x v e1 e2 e3
    refine ⟨u,r,?_⟩
    rcases l with l | ⟨k,c,e,z⟩
    · exact .inl l
    · exact .inr ⟨k,c,e,cellK x c e _ z⟩
  · obtain ⟨v,z⟩:=I.cell x c e
    exact ⟨v,cellK x c e v z⟩
  · obtain ⟨m,⟨o,_,_,ho,_⟩,_⟩:=I.loc
    exact free _ o (fun z=>(hch _ z).2.1 rfl) ho I.free
  · obtain ⟨v,o,ho,hd⟩:=I.cell x c e
    exact free c o (fun z=>(hch c z).2.2.1 x c e rfl) ho (I.freeC x c e)
  · obtain ⟨e,n,ne,nf,d⟩:=I.pin p hp
    have nch:p.1∉ch:=fun z=>(hch p.1 z).2.2.2 p hp rfl
    exact ⟨keep p.1 p.2 ne nf nch e n,free p.1 p.2 nch e n,ne,nf,d⟩
theorem Inv.un {t':Nat} (I:Inv X pins σ H s) (u:Un X.fs [] H H' s.heap h') (hok:HOk X.prog X.w H' h'):Inv X pins σ H' { s with heap:=h',toks:=t' }:=by
  obtain ⟨m,⟨o,es,ep,ho,r⟩,_⟩:=id I.loc
  obtain ⟨sl,hL⟩:=u.any ho I.free (by simp)
  exact I.step (g':=s.gens) (d':=s.drawn) (ch:=[]) (fun _ z=>nomatch z) (fun b o _ hb _ e n=>u.keep b o e n hb (by simp)) (fun b o _ hb _ e n=>u.slot b o e n hb (by simp)) (fun b o _ e n=>u.free b o e n (by simp)) (fun b o _ e=>u.there b o e (by simp)) u.tups u.frzs u.tbls (fun m' hm=>by
    obtain ⟨o',es',ep',ho',r'⟩:=hm
    rw [ho] at ho'; cases ho'
    exact ⟨_,es',ep',hL,r'⟩) hok I.bare
theorem Inv.call {g':Array GenState}{t':Nat}{d':Drawn}{ch:List Addr} (I:Inv X pins σ H s) (u:Un (frs X.stack) ch H H' s.heap h') (hok:HOk X.prog X.w H' h') (hg:AllBare g')
    (hch:∀ b∈ch,(b∈X.ex∨X.s₀.heap.objs.size≤b)∧b≠X.env.locals∧(∀ x c,X.env.cells.lookup x=some c→c≠b)∧∀ p∈X.pn++pins,p.1≠b) :
    Inv X pins σ H' { s with heap:=h',gens:=g',drawn:=d',toks:=t' }:=by
  obtain ⟨m,⟨o,es,ep,ho,r⟩,_⟩:=id I.loc
  obtain ⟨sl,hL⟩:=u.any ho I.free fun z=>(hch _ z).2.1 rfl
  exact I.step (ch:=ch) hch (fun b o hL hb hc e n=>u.keep b o e n (fun z=>(List.mem_cons.mp (I.stkSub b z)).elim hL hb) hc) (fun b o _ _ hc e n=>u.any e n hc) (fun b o hc e n=>u.free b o e n hc) (fun b o hc e=>u.there b o e hc) u.tups u.frzs u.tbls (fun m' hm=>by
    obtain ⟨o',es',ep',ho',r'⟩:=hm
    rw [ho] at ho'; cases ho'
    exact ⟨_,es',ep',hL,r'⟩) hok hg
theorem Inv.turned {t':Nat}{it:Addr} (I:Inv X pins σ H s) (k:∀ b o,b≠it→s.heap.get? b=some o→h'.get? b=some o) (hn:H it=none) (hL:it≠X.env.locals)
    (h1:it∈X.ex∨X.s₀.heap.objs.size≤it) (h2:∀ x c,X.env.cells.lookup x=some c→c≠it) (h3:∀ p∈X.pn++pins,p.1≠it):Inv X pins σ H { s with heap:=h',toks:=t' }:=by
  have nit:∀ b u,H b=some u→b≠it:=fun b u e z=>by rw [z,hn] at e; cases e
  refine I.step (g':=s.gens) (d':=s.drawn) (ch:=[it]) (fun b hb=>?_) (fun b o _ _ hc e _=>k b o (fun z=>hc (by simp [z])) e) (fun b o _ _ hc e _=>⟨o.slots,k b o (fun z=>hc (by simp [z])) e⟩) (fun _ _ _ _ n=>n)
    (fun b o hc e=>⟨o,k b o (fun z=>hc (by simp [z])) e⟩) (fun _ _ e=>e) (fun _ _ _ e=>e) (fun b ps e=>⟨#[],by rw [e]; simp⟩) (fun m hm=>?_) (fun b u e=>?_) I.bare
  · have e:b=it:=by simpa using hb
    subst e
    exact ⟨h1,hL,h2,h3⟩
  · obtain ⟨o,es,ep,ho,r⟩:=hm
    exact ⟨o,es,ep,k _ o (Ne.symm hL) ho,r⟩
  · refine (I.hok b u e).stay (fun c v hc q=>k c v ?_ q) (fun _ q=>q) fun _ _ q=>q
    rcases hc with z | z
    · rw [z]; exact nit b u e
    · exact nit c _ z
theorem Inv.tok (I:Inv X pins σ H s) (t:Nat):Inv X pins σ H { s with toks:=t }:=I.un (h':=s.heap) (t':=t) Un.refl I.hok
theorem Inv.kept {t':Nat} (I:Inv X pins σ H s) (k:∀ b u,s.heap.get? b=some u→h'.get? b=some u):Inv X pins σ H { s with heap:=h',toks:=t' }:=I.un (Un.kept k) (I.hok.kept k)
theorem Inv.laid {a:Addr}{o:HO}{t':Nat} (I:Inv X pins σ H s) (k:∀ b u,s.heap.get? b=some u→h'.get? b=some u) (hp:s.heap.objs.size≤a) (new:ObjOk X.prog X.w (upd H a o) h' a o) :
    Inv X pins σ (upd H a o) { s with heap:=h',toks:=t' }:=I.un (Un.laid k hp (I.hok.fresh hp)) (I.hok.laid k hp new)
theorem Inv.write {x e:Addr}{o:HO}{t':Nat} (I:Inv X pins σ H s) (mu:Mut (H x)) (he:e=x∨H e=some (.own x)) (k:∀ b u,b≠e→s.heap.get? b=some u→h'.get? b=some u) (heo:∃ u,h'.get? e=some u)
    (new:ObjOk X.prog X.w (upd H x o) h' x o):Inv X pins σ (upd H x o) { s with heap:=h',toks:=t' }:=I.un (Un.write mu he k heo) (I.hok.write mu he k heo new)
theorem Inv.pins_of {pins':List (Addr×Obj)} (I:Inv X pins σ H s) (h:∀ p∈pins',s.heap.get? p.1=some p.2∧H p.1=none∧p.1≠X.env.locals∧p.1∉X.fs∧∀ v,p.2.data≠.cell v):Inv X pins' σ H s:=
  ⟨I.ok,I.os,I.bare,I.base,I.loc,I.cell,I.free,I.freeC,fun p hp=>(List.mem_append.mp hp).elim (fun z=>I.pin p (List.mem_append_left _ z)) (h p),I.hok,I.len⟩

theorem nodup_ix {N:List Str} (hN:N.Nodup) {i j:Nat}{x:Str} (a:N[i]?=some x) (b:N[j]?=some x):i=j:=by
  obtain ⟨h1,e1⟩:=List.getElem?_eq_some_iff.mp a
  obtain ⟨h2,e2⟩:=List.getElem?_eq_some_iff.mp b
  exact (List.getElem_inj hN).mp (e1.trans e2.symm)

theorem store_ok2 {M:Model}{A:Around}{E:Value→Shared→Prop}{i:Nat}{x:Str}{v:V}{u:Value}{Q:Unit→Shared→Prop} (I:Inv X pins σ H s) (hN:X.N.Nodup) (hi:X.N[i]?=some x) (hx:Loc X.env.scope x) (r:RelV v u)
    (h:∀ s',Inv X pins (σ.set i (some v)) H s'→(∃ a,Heap.SameBut a s.heap s'.heap∧(a=X.env.locals∨X.env.cells.lookup x=some a))→Q () s') (hf:X.fn x=true∨X.env.scope.names.lookup x=some .local:=by first | exact .inl rfl | exact .inr rfl | assumption):wpAny M A (storeName X.env x u) Q E s:=by
  obtain ⟨m,hn,hl⟩:=id I.loc
  have hcls:(X.env.scope.kind==.class||(X.env.scope.kind==.module&&X.env.locals != X.env.globals))=false:=by rw [I.ok.kind]; rfl
  have hiσ:i < σ.length:=by rw [I.len]; exact (List.getElem?_eq_some_iff.mp hi).1
  have cne:=I.cne
  have tracked:∀ {a:Addr}{h':Heap},(∃ o,s.heap.get? a=some o∧H a=none)→Heap.SameBut a s.heap h'→HOk X.prog X.w H h':=fun {a h'} ha hs b ob e=>by
    obtain ⟨_,_,hfree⟩:=ha
    refine (I.hok b ob e).stay (fun c w' hc q=>(hs.2 c ?_).trans q) (fun _ q=>q) fun _ _ q=>q
    rintro rfl
    rcases hc with rfl | hc
    · rw [hfree] at e; cases e
    · rw [hfree] at hc; cases hc
  rcases hx with hk | hk
  · refine wpAny_storeName_local hk hn (fun h' hn' hs=>?_) hcls
    obtain ⟨oL,_,_,hoL,_⟩:=id hn
    refine h _ ⟨I.ok,I.os,I.bare,⟨fun b o e n hb hx=>?_,fun b o e n hb hx=>?_,I.base.free,fun b o e hx=>?_,I.base.tups,I.base.frzs,I.base.tbls⟩,⟨_,hn',fun j y v' e1 e2 e3=>?_⟩,fun y c e=>?_,I.free,I.freeC,fun p hp=>?_,tracked ⟨oL,hoL,I.free⟩ hs,by simpa using I.len⟩ ⟨_,hs,.inl rfl⟩
    · exact (hs.2 b (Nat.ne_of_lt (Nat.lt_of_lt_of_le (Heap.lt_size e) I.ok.above))).trans (I.base.keep b o e n hb hx)
    · obtain ⟨sl,e1⟩:=I.base.slot b o e n hb hx
      exact ⟨sl,(hs.2 b (Nat.ne_of_lt (Nat.lt_of_lt_of_le (Heap.lt_size e) I.ok.above))).trans e1⟩
    · obtain ⟨o',e1⟩:=I.base.there b o e hx
      exact ⟨o',(hs.2 b (Nat.ne_of_lt (Nat.lt_of_lt_of_le (Heap.lt_size e) I.ok.above))).trans e1⟩
    · by_cases hj:j=i
      · subst hj
        rw [hi] at e1; cases e1
        rw [List.getElem?_set_self hiσ] at e2
        cases e2
        exact ⟨u,r,.inl ⟨hk,by simp⟩⟩
      · rw [List.getElem?_set_ne (Ne.symm hj)] at e2
        obtain ⟨u',r',q⟩:=hl j y v' e1 e2 e3
        refine ⟨u',r',?_⟩
        rcases q with ⟨k,e⟩ | ⟨k,c,e,z⟩
        · refine .inl ⟨k,?_⟩
          have:y≠x:=fun e=>hj (nodup_ix hN e1 (e ▸ hi))
          simp [this,e]
        · exact .inr ⟨k,c,e,z.sameBut hs (cne y c e)⟩
    · obtain ⟨w',z⟩:=I.cell y c e
      exact ⟨w',z.sameBut hs (cne y c e)⟩
    · obtain ⟨e,n,ne,nf,d⟩:=I.pin p hp
      exact ⟨(hs.2 p.1 ne).trans e,n,ne,nf,d⟩
  · have hfn:X.fn x=true:=by
      rcases hf with z | z
      · exact z
      · rw [z] at hk; cases hk
    obtain ⟨c,hc⟩:=I.ok.has x (.inl hk)
    obtain ⟨w',z⟩:=I.cell x c hc
    refine wpAny_storeName_cell I.ok.kind hk hc z (fun h' hc' hs=>?_)
    obtain ⟨oc,hoc,hocd⟩:=id z
    refine h { s with heap:=h' } ⟨I.ok,I.os,I.bare,⟨fun b o e n hb hx=>?_,fun b o e n hb hx=>?_,I.base.free,fun b o e hx=>?_,I.base.tups,I.base.frzs,I.base.tbls⟩,⟨m,hn.sameBut hs (Ne.symm (cne x c hc)),fun j y v' e1 e2 e3=>?_⟩,fun y c' e=>?_,I.free,I.freeC,fun p hp=>?_,tracked ⟨oc,hoc,I.freeC x c hc⟩ hs,by simpa using I.len⟩ ⟨c,hs,.inr hc⟩
    · exact (hs.2 b (Nat.ne_of_lt (Nat.lt_of_lt_of_le (Heap.lt_size e) (I.ok.cab x c hfn hc)))).trans (I.base.keep b o e n hb hx)
    · obtain ⟨sl,e1⟩:=I.base.slot b o e n hb hx
      exact ⟨sl,(hs.2 b (Nat.ne_of_lt (Nat.lt_of_lt_of_le (Heap.lt_size e) (I.ok.cab x c hfn hc)))).trans e1⟩
    · obtain ⟨o',e1⟩:=I.base.there b o e hx
      exact ⟨o',(hs.2 b (Nat.ne_of_lt (Nat.lt_of_lt_of_le (Heap.lt_size e) (I.ok.cab x c hfn hc)))).trans e1⟩
    · by_cases hj:j=i
      · subst hj
        rw [hi] at e1; cases e1
        rw [List.getElem?_set_self hiσ] at e2
        cases e2
        exact ⟨u,r,.inr ⟨.inl hk,c,hc,hc'⟩⟩
      · rw [List.getElem?_set_ne (Ne.symm hj)] at e2
        obtain ⟨u',r',q⟩:=hl j y v' e1 e2 e3
        refine ⟨u',r',?_⟩
        rcases q with q | ⟨k,c',e,z'⟩
        · exact .inl q
        · refine .inr ⟨k,c',e,z'.sameBut hs ?_⟩
          rintro rfl
          exact hj (nodup_ix hN e1 (I.ok.inj _ _ _ e hc ▸ hi))
    · by_cases hcc:c'=c
      · subst hcc; exact ⟨_,hc'⟩
      · obtain ⟨w2,z2⟩:=I.cell y c' e
        exact ⟨w2,z2.sameBut hs hcc⟩
    · obtain ⟨e,n,ne,nf,d⟩:=I.pin p hp
      refine ⟨(hs.2 p.1 ?_).trans e,n,ne,nf,d⟩
      intro q
      rw [q,hoc] at e
      have q':oc=p.2:=Option.some.inj e
      exact d w' (by rw [←q']; exact hocd)
theorem store_ok {M:Model}{A:Around}{E:Value→Shared→Prop}{i:Nat}{x:Str}{v:V}{u:Value}{Q:Unit→Shared→Prop} (I:Inv X pins σ H s) (hN:X.N.Nodup) (hi:X.N[i]?=some x) (hx:Loc X.env.scope x) (r:RelV v u)
    (h:∀ s',Inv X pins (σ.set i (some v)) H s'→Q () s') (hf:X.fn x=true∨X.env.scope.names.lookup x=some .local:=by first | exact .inl rfl | exact .inr rfl | assumption):wpAny M A (storeName X.env x u) Q E s:=
  store_ok2 I hN hi hx r (fun s' I' _=>h s' I') hf
theorem Inv.call' {s':Shared}{ch:List Addr} (I:Inv X pins σ H s) (ho:s'.os=s.os) (u:Un (frs X.stack) ch H H' s.heap s'.heap) (hok:HOk X.prog X.w H' s'.heap) (hg:AllBare s'.gens)
    (hch:∀ b∈ch,(b∈X.ex∨X.s₀.heap.objs.size≤b)∧b≠X.env.locals∧(∀ x c,X.env.cells.lookup x=some c→c≠b)∧∀ p∈X.pn++pins,p.1≠b):Inv X pins σ H' s':=by
  obtain ⟨h',g',d',t',o'⟩:=s'
  have e:o'=s.os:=ho
  subst e
  exact I.call (g':=g') (t':=t') (d':=d') u hok hg hch
end

noncomputable abbrev XK:=Value→Option Addr→Hp→Prop
noncomputable abbrev St:=List (Option V)
noncomputable abbrev VK:=V→Hp→Prop
noncomputable abbrev TE:=St→Hp→VK→Prop
noncomputable abbrev TT:=St→Hp→(Bool→Hp→Prop)→Prop
noncomputable abbrev TA:=St→Hp→(List V→Hp→Prop)→Prop
structure Ends where
  nx:St→Hp→Prop
  rt:VK
  bk:St→Hp→Prop:=fun _ _=>False
  ct:St→Hp→Prop:=fun _ _=>False
noncomputable abbrev TS:=Ends→St→Hp→Prop

noncomputable def EP (X:Cx) (pins:List (Addr×Obj)) (σ:St) (Q:VK) (u:Value) (s':Shared):Prop:=∃ v H',Inv X pins σ H' s'∧RelV v u∧Q v H'
noncomputable def TP (X:Cx) (pins:List (Addr×Obj)) (σ:St) (Q:Bool→Hp→Prop) (b:Bool) (s':Shared):Prop:=∃ H',Inv X pins σ H' s'∧Q b H'
noncomputable def AP (X:Cx) (pins:List (Addr×Obj)) (σ:St) (Q:List V→Hp→Prop) (us:List Value) (s':Shared):Prop:=∃ vs H',Inv X pins σ H' s'∧Vals vs us∧Q vs H'
noncomputable def SP (X:Cx) (pins:List (Addr×Obj)) (D:Ends) (f:Flow) (s':Shared):Prop:=
  match f with
  | .next=>∃ σ' H',Inv X pins σ' H' s'∧D.nx σ' H'
  | .brk=>∃ σ' H',Inv X pins σ' H' s'∧D.bk σ' H'
  | .cont=>∃ σ' H',Inv X pins σ' H' s'∧D.ct σ' H'
  | .ret u=>∃ v σ' H',Inv X pins σ' H' s'∧RelV v u∧D.rt v H'

noncomputable def PE (X:Cx) (e:Expr) (t:TE):Prop:=
  ∀ (pins:List (Addr×Obj)) (s:Shared) (σ:St) (H:Hp) (Q:VK),Inv X pins σ H s→t σ H Q→wpAny (model X.prog X.w) X.A (eval e X.env) (EP X pins σ Q) X.xe s
noncomputable def PT (X:Cx) (e:Expr) (t:TT):Prop:=
  ∀ (pins:List (Addr×Obj)) (s:Shared) (σ:St) (H:Hp) (Q:Bool→Hp→Prop),Inv X pins σ H s→t σ H Q→wpAny (model X.prog X.w) X.A (isTrue e X.env (eval e X.env)) (TP X pins σ Q) X.xe s
noncomputable def PW (X:Cx) (e:Expr) (t:TT):Prop:=
  ∀ (whole:Sem Value) (pins:List (Addr×Obj)) (s:Shared) (σ:St) (H:Hp) (Q:Bool→Hp→Prop),Inv X pins σ H s→t σ H Q→wpAny (model X.prog X.w) X.A (isTrue e X.env whole) (TP X pins σ Q) X.xe s
theorem PW.pt {X:Cx}{e:Expr}{t:TT} (h:PW X e t):PT X e t:=h _
noncomputable def PA (X:Cx) (es:List Expr) (t:TA):Prop:=
  ∀ (pos:Pos) (pins:List (Addr×Obj)) (s:Shared) (σ:St) (H:Hp) (Q:List V→Hp→Prop),Inv X pins σ H s→t σ H Q→wpAny (model X.prog X.w) X.A (spliced (backTo pos (starEach es X.env))) (AP X pins σ Q) X.xe s
noncomputable def PS (X:Cx) (st:Stmt) (t:TS):Prop:=
  ∀ (pins:List (Addr×Obj)) (s:Shared) (σ:St) (H:Hp) (D:Ends),Inv X pins σ H s→t D σ H→wpAny (model X.prog X.w) X.A (exec st X.env) (SP X pins D) X.xe s
noncomputable def PSs (X:Cx) (st:List Stmt) (t:TS):Prop:=
  ∀ (pins:List (Addr×Obj)) (s:Shared) (σ:St) (H:Hp) (D:Ends),Inv X pins σ H s→t D σ H→wpAny (model X.prog X.w) X.A (execs st X.env) (SP X pins D) X.xe s
theorem thn {α:Type}{t:Sem α}{Q Q':α→Shared→Prop}{M:Model}{A:Around}{E:Value→Shared→Prop}{s:Shared} (h:wpAny M A t Q E s) (hQ:∀ a s,Q a s→Q' a s):wpAny M A t Q' E s:=wpAny_mono h hQ fun _ _ x=>x
end L2

namespace L2
open PySem PySem.Spec PyProof.Rows
section
variable {X:Cx}


noncomputable def tVar (i:Nat):TE:=fun σ H Q=>∃ v,σ[i]?=some (some v)∧Q v H
noncomputable def tC (v:V):TE:=fun _ H Q=>Q v H
theorem pe_var {i:Nat}{x:Str}{pos:Pos} (hN:X.N[i]?=some x) (hv:Vis X.env.scope x) (hd:(x==("__debug__":Str))=false:=by decide) (hcd:(x==("__classdict__":Str))=false:=by decide):PE X (.Name x pos) (tVar i):=by
  intro pins s σ H Q I h
  obtain ⟨v,e,h⟩:=h
  obtain ⟨m,hn,hl⟩:=I.loc
  obtain ⟨u,r,l⟩:=hl i x v hN e hv
  have fin:EP X pins σ Q u s:=⟨v,H,I,r,h⟩
  rcases l with ⟨hk,hm⟩ | ⟨hk,c,hc,hcell⟩
  · exact wpAny_Name (wpAny_loadName_local I.ok.kind hk hn hm fin) hd
  · rcases hk with hk | hk
    · exact wpAny_Name (wpAny_loadName_cell I.ok.kind hk hc hcell fin) hd
    · exact wpAny_Name (wpAny_loadName_free I.ok.kind hk hc hcell fin hcd) hd
theorem pe_int {i j pos}:PE X (.Constant (.int i) j pos) (tC (.int i)):=fun _ _ _ H _ I h=>wpAny_Constant_int ⟨.int i,H,I.tok _,⟨_,rfl⟩,h⟩
theorem pe_bl {b j pos}:PE X (.Constant (.bool b) j pos) (tC (.bl b)):=fun _ _ _ H _ I h=>Constant_bool ⟨.bl b,H,I,rfl,h⟩
theorem pe_non {j pos}:PE X (.Constant .none j pos) (tC .non):=fun _ _ _ H _ I h=>Constant_none ⟨.non,H,I,rfl,h⟩
theorem pe_str {x j pos}:PE X (.Constant (.str x) j pos) (tC (.str x)):=fun _ _ _ H _ I h=>Calls.Constant_str ⟨.str x,H,I.tok _,⟨_,rfl⟩,h⟩

noncomputable def Gl (X:Cx) (x:Str):Prop:=X.env.kindOf x=some .globalImplicit
theorem ld_glob {E:Value→Shared→Prop}{pins:List (Addr×Obj)}{s:Shared}{σ:St}{H:Hp}{x:Str}{u:Value}{pos:Pos}{Q:Value→Shared→Prop} (I:Inv X pins σ H s) (hg:Gl X x) (hm:X.mg x=some u) (h:Q u s)
    (hd:(x==("__debug__":Str))=false:=by decide):wpAny (model X.prog X.w) X.A (eval (.Name x pos) X.env) Q E s:=
  Calls.Name_function_global I.ok.kind hg (Calls.loadGlobal_global (by rw [I.ok.glob]; exact I.mod.glob.keeps I.bk) hm h) hd
theorem ld_blt {E:Value→Shared→Prop}{pins:List (Addr×Obj)}{s:Shared}{σ:St}{H:Hp}{x:Str}{u:Value}{pos:Pos}{Q:Value→Shared→Prop} (I:Inv X pins σ H s) (hg:Gl X x) (hm:X.mg x=none) (hv:bootBuiltins x=some u) (h:Q u s)
    (hn:x ≠ "__name__":=by decide) (hd:(x==("__debug__":Str))=false:=by decide):wpAny (model X.prog X.w) X.A (eval (.Name x pos) X.env) Q E s:=by
  obtain ⟨mb,h1,h2⟩:=I.mod.blt
  exact Calls.Name_function_global I.ok.kind hg (Calls.loadGlobal_builtin (by rw [I.ok.glob]; exact I.mod.glob.keeps I.bk) hm (by rw [I.ok.blt]; exact h1.keeps I.bk) ((h2 x hn).trans hv) h) hd
theorem pe_glob {x:Str}{v:V}{u:Value}{pos:Pos} (hg:Gl X x) (hm:X.mg x=some u) (r:RelV v u) (hd:(x==("__debug__":Str))=false:=by decide):PE X (.Name x pos) (tC v):=
  fun _ _ _ H _ I h=>ld_glob I hg hm ⟨v,H,I,r,h⟩ hd
theorem pe_bltn {x:Str}{v:V}{u:Value}{pos:Pos} (hg:Gl X x) (hm:X.mg x=none) (hv:bootBuiltins x=some u) (r:RelV v u) (hn:x ≠ "__name__":=by decide) (hd:(x==("__debug__":Str))=false:=by decide):PE X (.Name x pos) (tC v):=
  fun _ _ _ H _ I h=>ld_blt I hg hm hv ⟨v,H,I,r,h⟩ hn hd

variable {a b:Expr}{ta tb:TE}{pos:Pos}

noncomputable def PC (X:Cx) (op:CmpOp) (a b:Expr) (t:TE):Prop:=
  ∀ (pins:List (Addr×Obj)) (s:Shared) (σ:St) (H:Hp) (Q:VK),Inv X pins σ H s→t σ H Q→
    wpAny (model X.prog X.w) X.A (eval a X.env) (fun v s₁=>wpAny (model X.prog X.w) X.A (eval b X.env) (fun u s₂=>wpAny (model X.prog X.w) X.A (compareOp op v u) (EP X pins σ Q) X.xe s₂) X.xe s₁) X.xe s
noncomputable def tB (t:TE):TT:=fun σ H Q=>t σ H fun x H1=>∃ c,x=.bl c∧Q c H1
theorem pt_val {e:Expr}{t:TE} (h:PE X e t) (he:∀ whole,isTrue e X.env whole=(do let v ←whole; standAt e.pos; holding [v] (truthy v)):=by intro _; rfl):PT X e (tB t):=by
  intro pins s σ H Q I hw
  refine isTrue_plain (thn (h pins s σ H _ I hw) fun v s1 ⟨x,H1,I1,r1,q1⟩=>?_) (he _)
  obtain ⟨d,rfl,q⟩:=q1
  cases r1
  exact wpAny_truthy_bool ⟨H1,I1,q⟩

variable {tA tB':TT}{rest:List Expr}
noncomputable def tAnd (t u:TT):TT:=fun σ H Q=>t σ H fun c H1=>if c=true then u σ H1 Q else Q false H1
noncomputable def tOr (t u:TT):TT:=fun σ H Q=>t σ H fun c H1=>if c=true then Q true H1 else u σ H1 Q
noncomputable def tNot (t:TT):TT:=fun σ H Q=>t σ H fun c H1=>Q (!c) H1
theorem pw_and1 (ha:PT X a tA):PW X (.BoolOp .And [a] pos) tA:=by
  intro wh pins s σ H Q I h
  refine isTrue_and (thn (ha pins s σ H Q I h) fun c s1 e=>?_)
  cases c with
  | true=>exact isTrue_and_nil e
  | false=>exact e
theorem pw_or1 (ha:PT X a tA):PW X (.BoolOp .Or [a] pos) tA:=by
  intro wh pins s σ H Q I h
  refine isTrue_or (thn (ha pins s σ H Q I h) fun c s1 e=>?_)
  cases c with
  | false=>exact isTrue_or_nil e
  | true=>exact e
theorem pw_and (ha:PT X a tA) (hb:PW X (.BoolOp .And (b :: rest) pos) tB'):PW X (.BoolOp .And (a :: b :: rest) pos) (tAnd tA tB'):=by
  intro wh pins s σ H Q I h
  refine isTrue_and (thn (ha pins s σ H _ I h) fun c s1 ⟨H1,I1,q1⟩=>?_)
  cases c with
  | true=>exact hb wh pins s1 σ H1 Q I1 q1
  | false=>exact ⟨H1,I1,q1⟩
theorem pw_or (ha:PT X a tA) (hb:PW X (.BoolOp .Or (b :: rest) pos) tB'):PW X (.BoolOp .Or (a :: b :: rest) pos) (tOr tA tB'):=by
  intro wh pins s σ H Q I h
  refine isTrue_or (thn (ha pins s σ H _ I h) fun c s1 ⟨H1,I1,q1⟩=>?_)
  cases c with
  | true=>exact ⟨H1,I1,q1⟩
  | false=>exact hb wh pins s1 σ H1 Q I1 q1
theorem pt_not (ha:PT X a tA):PT X (.UnaryOp .Not a pos) (tNot tA):=by
  intro pins s σ H Q I h
  exact isTrue_not (ha pins s σ H (fun c H1=>Q (!c) H1) I h)
noncomputable def tAndV (ta tb:TE):TE:=fun σ H Q=>ta σ H fun x H1=>∃ c,x=.bl c∧if c=true then tb σ H1 Q else Q (.bl false) H1
noncomputable def tOrV (ta tb:TE):TE:=fun σ H Q=>ta σ H fun x H1=>∃ c,x=.bl c∧if c=true then Q (.bl true) H1 else tb σ H1 Q
noncomputable def tNotV (ta:TE):TE:=fun σ H Q=>ta σ H fun x H1=>∃ c,x=.bl c∧Q (.bl (!c)) H1
theorem pe_one {op}{t:TE} (h:PE X a t):PE X (.BoolOp op [a] pos) t:=fun pins s σ H Q I hw=>BoolOp_one (h pins s σ H Q I hw)
theorem pe_and (ha:PE X a ta) (hb:PE X (.BoolOp .And (b :: rest) pos) tb):PE X (.BoolOp .And (a :: b :: rest) pos) (tAndV ta tb):=by
  intro pins s σ H Q I h
  refine BoolOp_and (thn (ha pins s σ H _ I h) fun v s1 ⟨x,H1,I1,r1,q1⟩=>?_)
  obtain ⟨c,rfl,q1⟩:=q1
  cases r1
  refine wpAny_truthy_bool ?_
  cases c with
  | true=>exact hb pins s1 σ H1 Q I1 q1
  | false=>exact ⟨.bl false,H1,I1,rfl,q1⟩
theorem pe_or (ha:PE X a ta) (hb:PE X (.BoolOp .Or (b :: rest) pos) tb):PE X (.BoolOp .Or (a :: b :: rest) pos) (tOrV ta tb):=by
  intro pins s σ H Q I h
  refine BoolOp_or (thn (ha pins s σ H _ I h) fun v s1 ⟨x,H1,I1,r1,q1⟩=>?_)
  obtain ⟨c,rfl,q1⟩:=q1
  cases r1
  refine wpAny_truthy_bool ?_
  cases c with
  | false=>exact hb pins s1 σ H1 Q I1 q1
  | true=>exact ⟨.bl true,H1,I1,rfl,q1⟩
theorem pe_not (ha:PE X a ta):PE X (.UnaryOp .Not a pos) (tNotV ta):=by
  intro pins s σ H Q I h
  refine UnaryOp_ (thn (ha pins s σ H _ I h) fun v s1 ⟨x,H1,I1,r1,q1⟩=>?_)
  obtain ⟨c,rfl,q1⟩:=q1
  cases r1
  exact not_of (wpAny_truthy_bool ⟨.bl (!c),H1,I1,rfl,q1⟩)
noncomputable def tIf (t:TT) (ta tb:TE):TE:=fun σ H Q=>t σ H fun c H1=>if c=true then ta σ H1 Q else tb σ H1 Q
theorem pe_ifExp {c:Expr} (hc:PT X c tA) (ha:PE X a ta) (hb:PE X b tb):PE X (.IfExp c a b pos) (tIf tA ta tb):=by
  intro pins s σ H Q I h
  refine wpAny_IfExp (thn (hc pins s σ H _ I h) fun d s1 ⟨H1,I1,q1⟩=>?_)
  cases d with
  | true=>exact ha pins s1 σ H1 Q I1 q1
  | false=>exact hb pins s1 σ H1 Q I1 q1
end
end L2

namespace L2
open PySem PySem.Spec PyProof.Rows

noncomputable def SqL (K:PySem.W.Frag) (H:Hp) (a:Addr) (xs:List V):Prop:=
  Rd H a (.lst xs) ∨
    ∃ (o:Obj) (its:Array Value) (n:Nat),K.lookup a=some o∧o.cls=.type "list"∧o.dict=none∧o.data=.seq its n∧its.size≤sizeLine∧Vals xs its.toList
noncomputable def SqT (K:PySem.W.Frag) (H:Hp) (a:Addr) (xs:List V):Prop:=
  Rd H a (.tup xs) ∨
    ∃ (o:Obj) (its:Array Value) (n:Nat),K.lookup a=some o∧o.cls=.type "tuple"∧o.data=.seq its n∧its.size≤sizeLine∧Vals xs its.toList
noncomputable def absV:Value→Option V
  | .none=>some .non
  | .bool b=>some (.bl b)
  | .int i _=>some (.int i)
  | .str x _=>some (.str x)
  | .bytes b _=>some (.byt b)
  | .float b _=>some (.flt b)
  | .ref a=>some (.ref a)
  | .type n=>some (.ty n)
  | _=>none
theorem RelV.abs {x:V}{u:Value} (r:RelV x u):absV u=some x:=by
  cases x with
  | non=>cases r; rfl
  | bl _=>cases r; rfl
  | int _=>obtain ⟨t,rfl⟩:=r; rfl
  | str _=>obtain ⟨t,rfl⟩:=r; rfl
  | byt _=>obtain ⟨t,rfl⟩:=r; rfl
  | flt _=>obtain ⟨t,rfl⟩:=r; rfl
  | ref _=>cases r; rfl
  | ty _=>cases r; rfl
theorem RelV.inj {x y:V}{u:Value} (r:RelV x u) (q:RelV y u):x=y:=Option.some.inj (r.abs.symm.trans q.abs)
theorem Vals.inj:∀ {xs ys:List V}{us:List Value},Vals xs us→Vals ys us→xs=ys
  | _,_,_,.nil,.nil=>rfl
  | _,_,_,.cons r t,.cons r' t'=>by rw [r.inj r',Vals.inj t t']
section
variable {X:Cx}{pins:List (Addr×Obj)}{σ:St}{H:Hp}{s:Shared}{a:Addr}{xs ys:List V}
theorem SqT.of {K:PySem.W.Frag} (h:H a=some (.tup xs)):SqT K H a xs:=.inl (.inl h)
theorem Inv.list (I:Inv X pins σ H s) (h:SqL X.K H a xs):∃ its:List Value,Vals xs its∧PlainL s.heap a its.toArray∧xs.length≤sizeLine:=by
  rcases h with h | ⟨o,its,n,hk,hc,hd,hs,hz,r⟩
  · obtain ⟨z,its,n,r,e⟩:=h.ok I.hok
    exact ⟨its,r,⟨_,n,e,rfl,rfl,rfl⟩,z⟩
  · refine ⟨its.toList,r,⟨o,n,I.kIn a o hk,hc,hd,by simpa using hs⟩,?_⟩
    have e:=r.length
    simp only [Array.length_toList] at e
    omega
theorem Inv.tuple (I:Inv X pins σ H s) (h:SqT X.K H a xs):∃ its:List Value,Vals xs its∧IsTup s.heap a its.toArray∧xs.length≤sizeLine:=by
  rcases h with h | ⟨o,its,n,hk,hc,hs,hz,r⟩
  · obtain ⟨z,its,r,p⟩:=h.ok I.hok
    exact ⟨its,r,p,z⟩
  · refine ⟨its.toList,r,⟨o,I.kIn a o hk,hc,n,by simpa using hs⟩,?_⟩
    have e:=r.length
    simp only [Array.length_toList] at e
    omega
theorem Inv.list_inj (I:Inv X pins σ H s) (h:SqL X.K H a xs) (h':SqL X.K H a ys):xs=ys:=by
  obtain ⟨its,r,⟨o,n,e,_,_,d⟩,_⟩:=I.list h
  obtain ⟨its',r',⟨o',n',e',_,_,d'⟩,_⟩:=I.list h'
  rw [e] at e'; cases e'
  rw [d] at d'
  injection d' with d1 _
  have:its=its':=by simpa using congrArg Array.toList d1
  subst this
  exact r.inj r'
theorem Inv.tuple_inj (I:Inv X pins σ H s) (h:SqT X.K H a xs) (h':SqT X.K H a ys):xs=ys:=by
  obtain ⟨its,r,⟨o,e,_,n,d⟩,_⟩:=I.tuple h
  obtain ⟨its',r',⟨o',e',_,n',d'⟩,_⟩:=I.tuple h'
  rw [e] at e'; cases e'
  rw [d] at d'
  injection d' with d1 _
  have:its=its':=by simpa using congrArg Array.toList d1
  subst this
  exact r.inj r'
end

noncomputable abbrev Cx.wish (X:Cx) (E:Value→Shared→Prop):Cx:={ X with xe:=E }
noncomputable abbrev Cx.nox (X:Cx):Cx:=X.wish fun _ _=>False
theorem Cx.Ok.wish {X:Cx} (ok:X.Ok) (E:Value→Shared→Prop):(X.wish E).Ok:=
  ⟨ok.mod,ok.kind,ok.glob,ok.blt,ok.above,ok.inj,ok.has,ok.cab,ok.hd,ok.frames,ok.stk,ok.exf,ok.bs,ok.bsz,ok.noex,ok.exfs,ok.funs,ok.frf⟩
theorem Cx.Ok.unwish {X:Cx}{E:Value→Shared→Prop} (ok:(X.wish E).Ok):X.Ok:=
  ⟨ok.mod,ok.kind,ok.glob,ok.blt,ok.above,ok.inj,ok.has,ok.cab,ok.hd,ok.frames,ok.stk,ok.exf,ok.bs,ok.bsz,ok.noex,ok.exfs,ok.funs,ok.frf⟩
section
variable {X:Cx}{pins:List (Addr×Obj)}{σ:St}{H:Hp}{s:Shared}{E:Value→Shared→Prop}
theorem Inv.wish (I:Inv X pins σ H s) (E:Value→Shared→Prop):Inv (X.wish E) pins σ H s:=⟨I.ok.wish E,I.os,I.bare,I.base,I.loc,I.cell,I.free,I.freeC,I.pin,I.hok,I.len⟩
theorem Inv.unwish (I:Inv (X.wish E) pins σ H s):Inv X pins σ H s:=⟨I.ok.unwish,I.os,I.bare,I.base,I.loc,I.cell,I.free,I.freeC,I.pin,I.hok,I.len⟩
theorem SP.unwish {D:Ends}{f:Flow}{s':Shared} (h:SP (X.wish E) pins D f s'):SP X pins D f s':=by
  cases f with
  | next=>obtain ⟨σ',H',I,q⟩:=h; exact ⟨σ',H',I.unwish,q⟩
  | brk=>obtain ⟨σ',H',I,q⟩:=h; exact ⟨σ',H',I.unwish,q⟩
  | cont=>obtain ⟨σ',H',I,q⟩:=h; exact ⟨σ',H',I.unwish,q⟩
  | ret u=>obtain ⟨v,σ',H',I,r,q⟩:=h; exact ⟨v,σ',H',I.unwish,r,q⟩
theorem PSs.nox {st:List Stmt}{t:TS} (h:PSs X.nox st t):PSs X st t:=fun pins s σ H D I hw=>
  wpAny_mono (h pins s σ H D (I.wish _) hw) (fun _ _ q=>q.unwish) fun _ _ z=>False.elim z
end

section
variable {X:Cx}{st:Stmt}{rest:List Stmt}{t u:TS}{e:Expr}{te:TE}{pos:Pos}
noncomputable def tNext:TS:=fun D σ H=>D.nx σ H
noncomputable def tSeq (t u:TS):TS:=fun D σ H=>t { D with nx:=u D } σ H
theorem pss_nil:PSs X [] tNext:=fun _ _ σ H _ I h=>wpAny_execs_nil ⟨σ,H,I,h⟩
theorem pss_cons (h1:PS X st t) (h2:PSs X rest u):PSs X (st :: rest) (tSeq t u):=by
  intro pins s σ H D I h
  refine wpAny_execs_cons (thn (h1 pins s σ H { D with nx:=u D } I h) fun f s1 q=>?_)
  cases f with
  | next=>
    obtain ⟨σ',H',I',q⟩:=q
    exact h2 pins s1 σ' H' D I' q
  | ret v=>exact q
  | brk=>exact q
  | cont=>exact q
noncomputable def tBreak:TS:=fun D σ H=>D.bk σ H
noncomputable def tCont:TS:=fun D σ H=>D.ct σ H
theorem ps_pass:PS X (.Pass pos) tNext:=fun _ _ σ H _ I h=>wpAny_Pass ⟨σ,H,I,h⟩
theorem ps_break:PS X (.Break pos) tBreak:=fun _ _ σ H _ I h=>wpAny_Break ⟨σ,H,I,h⟩
theorem ps_continue:PS X (.Continue pos) tCont:=fun _ _ σ H _ I h=>wpAny_Continue ⟨σ,H,I,h⟩
theorem Inv.quiet {pins:List (Addr×Obj)}{σ:St}{H:Hp}{s:Shared} (I:Inv X pins σ H s):interactive X.env=false:=by simp [interactive,I.ok.kind]
noncomputable def tDrop (te:TE):TS:=fun D σ H=>te σ H fun _ H1=>D.nx σ H1
theorem ps_expr (he:PE X e te) (hs:swapsWith e none pos.line X.env=pure false:=by rfl):PS X (.Expr e pos) (tDrop te):=by
  intro pins s σ H D I h
  exact wpAny_Expr_any (thn (he pins s σ H _ I h) fun v s1 ⟨x,H1,I1,r1,q1⟩=>⟨σ,H1,I1,q1⟩) I.quiet hs
noncomputable def tRet (te:TE):TS:=fun D σ H=>te σ H D.rt
theorem ps_ret (he:PE X e te):PS X (.Return (some e) pos) (tRet te):=by
  intro pins s σ H D I h
  exact wpAny_Return_some (thn (he pins s σ H _ I h) fun v s1 ⟨x,H1,I1,r1,q1⟩=>⟨x,σ,H1,I1,r1,q1⟩)
noncomputable def tIfS (c:TT) (t u:TS):TS:=fun D σ H=>c σ H fun b H1=>if b=true then t D σ H1 else u D σ H1
theorem ps_if {c:Expr}{a b:List Stmt}{tc:TT} (hc:PT X c tc) (ha:PSs X a t) (hb:PSs X b u):PS X (.If c a b pos) (tIfS tc t u):=by
  intro pins s σ H D I h
  refine wpAny_If (thn (hc pins s σ H _ I h) fun d s1 ⟨H1,I1,q1⟩=>?_)
  cases d with
  | true=>exact ha pins s1 σ H1 D I1 q1
  | false=>exact hb pins s1 σ H1 D I1 q1
end

noncomputable abbrev TG:=V→St→Hp→(St→Hp→Prop)→Prop
noncomputable abbrev TGs:=List V→St→Hp→(St→Hp→Prop)→Prop
noncomputable def PG (X:Cx) (target:Expr) (t:TG):Prop:=
  ∀ (pins:List (Addr×Obj)) (s:Shared) (σ:St) (H:Hp) (v:V) (u:Value) (Q:St→Hp→Prop),Inv X pins σ H s→RelV v u→t v σ H Q→
    wpAny (model X.prog X.w) X.A (assign target X.env u) (fun _ s'=>∃ σ' H',Inv X pins σ' H' s'∧Q σ' H') X.xe s
noncomputable def PGs (X:Cx) (ts:List Expr) (t:TGs):Prop:=
  ∀ (pins:List (Addr×Obj)) (s:Shared) (σ:St) (H:Hp) (vs:List V) (us:List Value) (Q:St→Hp→Prop),Inv X pins σ H s→Vals vs us→t vs σ H Q→
    wpAny (model X.prog X.w) X.A (assignInOrder ((assignEach ts X.env).map (·.2)) us) (fun _ s'=>∃ σ' H',Inv X pins σ' H' s'∧Q σ' H') X.xe s
noncomputable abbrev TSet:=V→V→V→Hp→(Hp→Prop)→Prop
noncomputable def PSet (X:Cx) (t:TSet):Prop:=
  ∀ (pins:List (Addr×Obj)) (s:Shared) (σ:St) (H:Hp) (o i v:V) (ov iv u:Value) (Q:Hp→Prop),Inv X pins σ H s→RelV o ov→RelV i iv→RelV v u→t o i v H Q→
    wpAny (model X.prog X.w) X.A (setItem ov iv u) (fun _ s'=>∃ H',Inv X pins σ H' s'∧Q H') X.xe s
section
variable {X:Cx}{pos:Pos}
noncomputable def gName (i:Nat):TG:=fun v σ H Q=>Q (σ.set i (some v)) H
theorem pg_name {i:Nat}{x:Str} (hN:X.N.Nodup) (hi:X.N[i]?=some x) (hx:Loc X.env.scope x) (hf:X.fn x=true∨X.env.scope.names.lookup x=some .local:=by first | exact .inl rfl | exact .inr rfl | assumption):PG X (.Name x pos) (gName i):=by
  intro pins s σ H v u Q I r h
  exact wpAny_assign_Name (store_ok I hN hi hx r (fun s' I'=>⟨_,H,I',h⟩) hf)
noncomputable def gNil:TGs:=fun vs σ H Q=>vs=[]∧Q σ H
noncomputable def gCons (t:TG) (u:TGs):TGs:=fun vs σ H Q=>∃ v r,vs=v :: r∧t v σ H fun σ' H'=>u r σ' H' Q
theorem pgs_nil:PGs X [] gNil:=by
  intro pins s σ H vs us Q I r h
  obtain ⟨e,h⟩:=h
  subst e
  cases r
  exact assignInOrder_nil ⟨σ,H,I,h⟩
theorem pgs_cons {e:Expr}{es:List Expr}{t:TG}{u:TGs} (h1:PG X e t) (h2:PGs X es u)
    (hs:(assignEach (e :: es) X.env).map (·.2)=assign e X.env :: (assignEach es X.env).map (·.2):=by rfl):PGs X (e :: es) (gCons t u):=by
  intro pins s σ H vs us Q I r h
  obtain ⟨v,vr,e1,h⟩:=h
  subst e1
  cases r with
  | cons r rr=>
    rw [hs]
    refine assignInOrder_cons (thn (h1 pins s σ H _ _ _ I r h) fun _ s1 ⟨σ1,H1,I1,q1⟩=>?_)
    exact h2 pins s1 σ1 H1 _ _ Q I1 rr q1
noncomputable def gTup (K:PySem.W.Frag) (n:Nat) (t:TGs):TG:=fun v σ H Q=>∃ a xs,v=.ref a∧SqT K H a xs∧xs.length=n∧t xs σ H Q
theorem pg_tup {es:List Expr}{k:Nat}{t:TGs}{n:Nat} (hc:X.calm=true) (h:PGs X es t)
    (hn:(assignEach es X.env).length=n:=by rfl) (hst:(assignEach es X.env).findIdx? (·.1)=none:=by rfl):PG X (.Tuple es k pos) (gTup X.K n t):=by
  intro pins s σ H v u Q I r hw
  obtain ⟨a,xs,e1,hq,hl,hw⟩:=hw
  subst e1
  cases r
  obtain ⟨its,rv,ht,hz⟩:=I.tuple hq
  refine assign_Tuple_tuple (I.ok.hd hc) ht (by simp [hn,←hl,rv.length]) hst fun h' hx=>?_
  have I1:Inv X pins σ H { s with heap:=h' }:=I.kept (t':=s.toks) fun b o e=>hx b o (Nat.ne_of_lt (Heap.lt_size e)) e
  exact h pins _ σ H xs _ Q I1 (by simpa using rv) hw
noncomputable def gSub (to ti:TE) (t:TSet):TG:=fun v σ H Q=>to σ H fun o H1=>ti σ H1 fun i H2=>t o i v H2 fun H3=>Q σ H3
theorem pg_sub {o i:Expr}{to ti:TE}{t:TSet} (ho:PE X o to) (hi:PE X i ti) (hs:PSet X t)
    (ha:∀ v,assign (.Subscript o i pos) X.env v=(do
      let ov ←holding [v] (eval o X.env)
      let iv ←holding [v,ov] (eval i X.env)
      standAt pos
      holding [v,ov,iv] (setItem ov iv v)
      release [v,ov,iv] []):=by intro _; rfl):PG X (.Subscript o i pos) (gSub to ti t):=by
  intro pins s σ H v u Q I r h
  rw [ha]
  refine wpAny_bind (wpAny_holding (thn (ho pins s σ H _ I h) fun ov s1 ⟨x,H1,I1,r1,q1⟩=>?_))
  refine wpAny_bind (wpAny_holding (thn (hi pins s1 σ H1 _ I1 q1) fun iv s2 ⟨y,H2,I2,r2,q2⟩=>?_))
  refine wpAny_bind (wpAny_standAt (wpAny_bind (wpAny_holding (thn (hs pins s2 σ H2 x y v ov iv u _ I2 r1 r2 r q2) fun _ s3 ⟨H3,I3,q3⟩=>?_))))
  exact wpAny_release ⟨σ,H3,I3,q3⟩
noncomputable def tAsg (te:TE) (g:TG):TS:=fun D σ H=>te σ H fun x H1=>g x σ H1 D.nx
theorem ps_asg {tg e:Expr}{te:TE}{g:TG} (he:PE X e te) (hg:PG X tg g) (hs:swapsWithSole [tg] e pos.line X.env=pure false:=by rfl) (hw:swappedStores [tg] e X.env=pure none:=by rfl)
    (h1:(assignEach [tg] X.env).map (·.2)=[assign tg X.env]:=by rfl):PS X (.Assign [tg] e pos) (tAsg te g):=by
  intro pins s σ H D I h
  refine wpAny_Assign_stores (thn (he pins s σ H _ I h) fun v s1 ⟨x,H1,I1,r1,q1⟩=>?_) hs hw
  rw [h1]
  exact thn (hg pins s1 σ H1 x v _ I1 r1 q1) fun _ s2 q=>q
theorem ps_set {i:Nat}{x:Str}{e:Expr}{te:TE}{pos':Pos} (hN:X.N.Nodup) (hi:X.N[i]?=some x) (hx:Loc X.env.scope x) (he:PE X e te) (hs:swapsWith e (some (.Name x pos')) pos.line X.env=pure false:=by rfl) (hf:X.fn x=true∨X.env.scope.names.lookup x=some .local:=by first | exact .inl rfl | exact .inr rfl | assumption) :
    PS X (.Assign [.Name x pos'] e pos) (tAsg te (gName i)):=by
  intro pins s σ H D I h
  refine wpAny_Assign_Name (thn (he pins s σ H _ I h) fun v s1 ⟨y,H1,I1,r1,q1⟩=>?_) hs
  exact store_ok I1 hN hi hx r1 (fun s2 I2=>⟨_,H1,I2,q1⟩) hf
end

section
variable {X:Cx}{pos:Pos}
end

structure It where
  go:Nat→Hp→Prop
  yld:Nat→Hp→V→Hp→Prop
  stop:Nat→Hp→Prop
noncomputable def FpOk (X:Cx) (pins:List (Addr×Obj)) (H:Hp) (b:Addr):Prop:=
  H b=none∧b≠X.env.locals∧b∉X.fs∧(b∈X.ex∨X.s₀.heap.objs.size≤b)∧(∀ x c,X.env.cells.lookup x=some c→c≠b)∧∀ p∈X.pn++pins,p.1≠b
theorem Inv.fpOk {X:Cx}{pins:List (Addr×Obj)}{σ:St}{H H':Hp}{s:Shared}{b:Addr} (I:Inv X pins σ H s) (hb:s.heap.objs.size≤b) (hn:H' b=none):FpOk X pins H' b:=by
  refine ⟨hn,Nat.ne_of_gt (Nat.lt_of_lt_of_le I.lt hb),I.nofs hb,.inr (Nat.le_trans I.sz hb),fun x c e z=>?_,fun p hp z=>?_⟩
  · obtain ⟨v,q⟩:=I.cell x c e
    exact absurd (Nat.lt_of_lt_of_le q.lt (by rw [z]; exact hb)) (Nat.lt_irrefl _)
  · exact absurd (Nat.lt_of_lt_of_le (Heap.lt_size (I.pin p hp).1) (by rw [z]; exact hb)) (Nat.lt_irrefl _)
structure Turn (P:Program) (w:World) (K:PySem.W.Frag) (tg:Expr) (J:It) (fp:List Addr) (it:Addr) (tn:Nat→Heap→Prop):Prop where
  mem:it∈fp
  obj:∀ i h,tn i h→∀ b∈fp,∃ o,h.get? b=some o∧∀ v,o.data≠.cell v
  keep:∀ i h h',tn i h→(∀ b∈fp,∀ o,h.get? b=some o→h'.get? b=some o)→tn i h'
  item:∀ (X:Cx),X.prog=P→X.w=w→X.K=K→X.calm=true→∀ (i:Nat) (pins:List (Addr×Obj)) (s:Shared) (σ:St) (H:Hp) (E:Value→Shared→Prop),Inv X pins σ H s→(∀ b∈fp,FpOk X pins H b)→tn i s.heap→J.go i H→
    wpAny (model P w) X.A (pyNext (.ref it)) (fun r s1=>∃ u,r=some u ∧
      wpAny (model P w) X.A (letOwnedTupleGo tg (.ref it) u) (fun _ s2=>∃ x H',Inv X pins σ H' s2∧RelV x u∧J.yld i H x H'∧tn (i+1) s2.heap∧∀ b∈fp,H' b=none) E s1) E s
  done:∀ (X:Cx),X.prog=P→X.w=w→X.K=K→X.calm=true→∀ (i:Nat) (pins:List (Addr×Obj)) (s:Shared) (σ:St) (H:Hp) (E:Value→Shared→Prop),Inv X pins σ H s→(∀ b∈fp,FpOk X pins H b)→tn i s.heap→J.stop i H→
    wpAny (model P w) X.A (pyNext (.ref it)) (fun r s1=>r=none∧Inv X pins σ H s1) E s
  self:∀ (A:Around) (i:Nat) (s:Shared) (Q:Value→Shared→Prop) (E:Value→Shared→Prop),tn i s.heap→Q (.ref it) s→wpAny (model P w) A (pyIter (.ref it)) Q E s
noncomputable abbrev TI:=St→Hp→(It→Hp→Prop)→Prop
noncomputable def PIE (X:Cx) (pins:List (Addr×Obj)) (σ:St) (tg:Expr) (R:It→Hp→Prop) (itv:Value) (s2:Shared):Prop:=
  ∃ (it:Addr) (fp:List Addr) (tn:Nat→Heap→Prop) (J:It) (H':Hp),itv=.ref it∧Inv X pins σ H' s2∧Turn X.prog X.w X.K tg J fp it tn∧tn 0 s2.heap∧(∀ b∈fp,FpOk X pins H' b)∧R J H'
noncomputable def PI (X:Cx) (tg iter:Expr) (wi:TI):Prop:=
  ∀ (pins:List (Addr×Obj)) (s:Shared) (σ:St) (H:Hp) (R:It→Hp→Prop),Inv X pins σ H s→wi σ H R→
    wpAny (model X.prog X.w) X.A (eval iter X.env) (fun v s1=>wpAny (model X.prog X.w) X.A (pyIter v) (PIE X pins σ tg R) X.xe s1) X.xe s

theorem go_of {M:Model}{A:Around}{E:Value→Shared→Prop}{s:Shared}{tg:Expr}{it:Addr}{u:Value}{o:Obj}{n:String}{vs:Array Value}{Q:Unit→Shared→Prop} (ho:s.heap.get? it=some o) (hc:o.cls=.type n) (hd:o.data=.fields vs)
    (hn:["enumerate", "zip", "dict_itemiterator", "dict_reverseitemiterator", "odict_iterator", "itertools.zip_longest", "itertools.pairwise"].contains n=false) (hQ:Q () s):wpAny M A (letOwnedTupleGo tg (.ref it) u) Q E s:=by
  unfold letOwnedTupleGo
  cases tg<;>first
    | exact wpAny_pure hQ
    | (cases u<;>first
        | exact wpAny_pure hQ
        | (refine wpAny_bind (wpAny_load ho ?_)
           rw [hc,hd]
           show wpAny M A (if (["enumerate", "zip", "dict_itemiterator", "dict_reverseitemiterator", "odict_iterator", "itertools.zip_longest", "itertools.pairwise"].contains n&&vs[0]?==some (rawInt _))=true then _ else _) Q E s
           rw [if_neg (by intro h; rw [hn,Bool.false_and] at h; cases h)]
           exact wpAny_pure hQ))

noncomputable def Itl (K:PySem.W.Frag) (a:Addr):It:=
  ⟨fun i H=>∃ xs x,SqL K H a xs∧xs[i]?=some x,fun i H x H'=>H'=H∧∀ xs,SqL K H a xs→xs[i]?=some x,fun i H=>∃ xs,SqL K H a xs∧xs.length≤i⟩
noncomputable def Itt (K:PySem.W.Frag) (a:Addr):It:=
  ⟨fun i H=>∃ xs x,SqT K H a xs∧xs[i]?=some x,fun i H x H'=>H'=H∧∀ xs,SqT K H a xs→xs[i]?=some x,fun i H=>∃ xs,SqT K H a xs∧xs.length≤i⟩
noncomputable def Itr (lo:Int) (n:Nat):It:=⟨fun i _=>i < n,fun i H x H'=>H'=H∧x=.int (lo+i),fun i _=>n≤i⟩
theorem turn_list {P:Program}{w:World}{K:PySem.W.Frag}{tg:Expr} (a it:Addr):Turn P w K tg (Itl K a) [it] it (fun i h=>h.IsListIter it a i) where
  mem:=by simp
  obj:=fun i h st b hb=>by
    have e:b=it:=by simpa using hb
    subst e
    obtain ⟨o,e,c,d⟩:=st
    exact ⟨o,e,fun v z=>by rw [d] at z; cases z⟩
  keep:=fun i h h' st k=>st.at fun o e=>k it (by simp) o e
  item:=by
    intro X hP hw hK hc i pins s σ H E I hf st hg
    subst hP hw hK
    obtain ⟨xs,x,hq,hx⟩:=hg
    obtain ⟨its,rv,p,hz⟩:=I.list hq
    obtain ⟨u,hu,ru⟩:=rv.get hx
    obtain ⟨f0,f1,f2,f3,f4,f5⟩:=hf it (by simp)
    refine wpAny_pyNext_list_item st p.isList (x:=u) (by simpa using hu) fun h' st' sb=>?_
    have I1:Inv X pins σ H { s with heap:=h' }:=I.turned (t':=s.toks) (fun b o hb e=>(sb.2 b hb).trans e) f0 f1 f3 f4 f5
    obtain ⟨o,e,c,d⟩:=id st'
    exact ⟨u,rfl,go_of (s:={ s with heap:=h' }) e c d (by decide) ⟨x,H,I1,ru,⟨rfl,fun ys hy=>by rw [I.list_inj hy hq]; exact hx⟩,st',fun b hb=>(hf b hb).1⟩⟩
  done:=by
    intro X hP hw hK hc i pins s σ H E I hf st hg
    subst hP hw hK
    obtain ⟨xs,hq,hx⟩:=hg
    obtain ⟨its,rv,p,hz⟩:=I.list hq
    obtain ⟨f0,f1,f2,f3,f4,f5⟩:=hf it (by simp)
    have hl:=rv.length
    exact wpAny_pyNext_list_end (I.ok.hd hc) st p.isList (by simp; omega) fun h' eb=>⟨rfl,I.turned (t':=s.toks) (fun b o hb e=>eb b o hb e) f0 f1 f3 f4 f5⟩
  self:=fun _ _ _ _ _ st h=>wpAny_pyIter_listiter st h
theorem turn_tuple {P:Program}{w:World}{K:PySem.W.Frag}{tg:Expr} (a it:Addr):Turn P w K tg (Itt K a) [it] it (fun i h=>h.IsTupleIter it a i) where
  mem:=by simp
  obj:=fun i h st b hb=>by
    have e:b=it:=by simpa using hb
    subst e
    obtain ⟨o,e,c,d⟩:=st
    exact ⟨o,e,fun v z=>by rw [d] at z; cases z⟩
  keep:=fun i h h' st k=>st.at fun o e=>k it (by simp) o e
  item:=by
    intro X hP hw hK hc i pins s σ H E I hf st hg
    subst hP hw hK
    obtain ⟨xs,x,hq,hx⟩:=hg
    obtain ⟨its,rv,p,hz⟩:=I.tuple hq
    obtain ⟨u,hu,ru⟩:=rv.get hx
    obtain ⟨f0,f1,f2,f3,f4,f5⟩:=hf it (by simp)
    refine wpAny_pyNext_tuple_item st (show s.heap.IsTuple a its.toArray from p) (x:=u) (by simpa using hu) fun h' st' sb=>?_
    have I1:Inv X pins σ H { s with heap:=h' }:=I.turned (t':=s.toks) (fun b o hb e=>(sb.2 b hb).trans e) f0 f1 f3 f4 f5
    obtain ⟨o,e,c,d⟩:=id st'
    exact ⟨u,rfl,go_of (s:={ s with heap:=h' }) e c d (by decide) ⟨x,H,I1,ru,⟨rfl,fun ys hy=>by rw [I.tuple_inj hy hq]; exact hx⟩,st',fun b hb=>(hf b hb).1⟩⟩
  done:=by
    intro X hP hw hK hc i pins s σ H E I hf st hg
    subst hP hw hK
    obtain ⟨xs,hq,hx⟩:=hg
    obtain ⟨its,rv,p,hz⟩:=I.tuple hq
    obtain ⟨f0,f1,f2,f3,f4,f5⟩:=hf it (by simp)
    have hl:=rv.length
    exact wpAny_pyNext_tuple_end (I.ok.hd hc) st (show s.heap.IsTuple a its.toArray from p) (by simp; omega) fun h' eb=>⟨rfl,I.turned (t':=s.toks) (fun b o hb e=>eb b o hb e) f0 f1 f3 f4 f5⟩
  self:=fun _ _ _ _ _ st h=>wpAny_pyIter_tupleiter st h
theorem turn_range {P:Program}{w:World}{K:PySem.W.Frag}{tg:Expr} (it:Addr) (lo:Int) (n:Nat):Turn P w K tg (Itr lo n) [it] it (fun i h=>IsRangeIter h it (lo+(i:Nat) * 1) ((n:Int) - (i:Nat)) 1) where
  mem:=by simp
  obj:=fun i h st b hb=>by
    have e:b=it:=by simpa using hb
    subst e
    exact ⟨_,st,fun v z=>by
      have z':Data.fields _=Data.cell v:=z
      cases z'⟩
  keep:=fun i h h' st k=>k it (by simp) _ st
  item:=by
    intro X hP hw hK hc i pins s σ H E I hf st hg
    subst hP hw hK
    obtain ⟨f0,f1,f2,f3,f4,f5⟩:=hf it (by simp)
    have W:=Walks.range (prog:=X.prog) (w:=X.w) (I.ok.hd hc) it lo 1 n
    refine W.item i s _ _ hg st fun v h' tk hv st' kk=>?_
    obtain ⟨t,rfl⟩:=hv
    have I1:Inv X pins σ H { s with heap:=h',toks:=tk }:=I.turned (fun b o hb e=>kk b o (by simpa using hb) e) f0 f1 f3 f4 f5
    refine ⟨_,rfl,go_of (s:={ s with heap:=h',toks:=tk }) (n := "range_iterator") st' rfl rfl (by decide) ⟨.int (lo+i),H,I1,⟨t,?_⟩,⟨rfl,rfl⟩,st',fun b hb=>(hf b hb).1⟩⟩
    rw [Int.mul_one]
  done:=by
    intro X hP hw hK hc i pins s σ H E I hf st hg
    subst hP hw hK
    obtain ⟨f0,f1,f2,f3,f4,f5⟩:=hf it (by simp)
    exact wpAny_pyNext_range_end (I.ok.hd hc) st (by have:n≤i:=hg; omega) fun h' eb=>⟨rfl,I.turned (t':=s.toks) (fun b o hb e=>eb b o hb e) f0 f1 f3 f4 f5⟩
  self:=fun _ _ _ _ _ st h=>wpAny_pyIter_rangeiter st h
end L2

namespace L2
open PySem PySem.Spec PyProof.Rows
section
variable {X:Cx}{tg:Expr}
noncomputable def iList (K:PySem.W.Frag) (tl:TE):TI:=fun σ H R=>tl σ H fun x H1=>∃ a,x=.ref a∧(∃ xs,SqL K H1 a xs)∧R (Itl K a) H1
noncomputable def iTup (K:PySem.W.Frag) (tl:TE):TI:=fun σ H R=>tl σ H fun x H1=>∃ a,x=.ref a∧(∃ xs,SqT K H1 a xs)∧R (Itt K a) H1
theorem pi_list {l:Expr}{tl:TE} (hl:PE X l tl):PI X tg l (iList X.K tl):=by
  intro pins s σ H R I h
  refine thn (hl pins s σ H _ I h) fun v s1 ⟨x,H1,I1,r1,q1⟩=>?_
  obtain ⟨a,e,⟨xs,hq⟩,q⟩:=q1
  subst e
  cases r1
  obtain ⟨its,rv,p,hz⟩:=I1.list hq
  refine wpAny_pyIter_list p.isList ?_
  refine ⟨s1.heap.objs.size,[s1.heap.objs.size],_,_,H1,rfl,I1.kept (t':=s1.toks) fun b o e=>Heap.get?_push_of_some _ e,turn_list a _,⟨_,Heap.get?_push_size _ rfl,rfl,rfl⟩,fun b hb=>?_,q⟩
  have e:b=s1.heap.objs.size:=by simpa using hb
  subst e
  exact I1.fpOk (Nat.le_refl _) (I1.hok.fresh (Nat.le_refl _))
theorem pi_tup {l:Expr}{tl:TE} (hl:PE X l tl):PI X tg l (iTup X.K tl):=by
  intro pins s σ H R I h
  refine thn (hl pins s σ H _ I h) fun v s1 ⟨x,H1,I1,r1,q1⟩=>?_
  obtain ⟨a,e,⟨xs,hq⟩,q⟩:=q1
  subst e
  cases r1
  obtain ⟨its,rv,p,hz⟩:=I1.tuple hq
  refine wpAny_pyIter_tuple (show s1.heap.IsTuple a its.toArray from p) ?_
  refine ⟨s1.heap.objs.size,[s1.heap.objs.size],_,_,H1,rfl,I1.kept (t':=s1.toks) fun b o e=>Heap.get?_push_of_some _ e,turn_tuple a _,⟨_,Heap.get?_push_size _ rfl,rfl,rfl⟩,fun b hb=>?_,q⟩
  have e:b=s1.heap.objs.size:=by simpa using hb
  subst e
  exact I1.fpOk (Nat.le_refl _) (I1.hok.fresh (Nat.le_refl _))
theorem range_it {pins:List (Addr×Obj)}{σ:St}{H:Hp}{s:Shared}{R:It→Hp→Prop}{E:Value→Shared→Prop}{lo hi:Int}{t u v:Tok}{tk:Nat} (I:Inv X pins σ H s) (h1:-(2 ^ 62)≤lo) (h2:lo < 2 ^ 62) (h3:-(2 ^ 62)≤hi) (h4:hi < 2 ^ 62)
    (q:R (Itr lo (hi - lo).toNat) H):wpAny (model X.prog X.w) X.A (pyIter (.ref s.heap.objs.size)) (PIE X pins σ tg R) E { s with heap:=s.heap.push { cls:=.type "range",data:=.fields #[.int lo t,.int hi u,.int 1 v] },toks:=tk }:=by
  refine wpAny_pyIter_range (IsRange.new ..) (small_one h1 h2 h3 h4) ?_
  have I1:Inv X pins σ H { s with heap:=s.heap.push { cls:=.type "range",data:=.fields #[.int lo t,.int hi u,.int 1 v] },toks:=tk }:=I.kept fun b o e=>Heap.get?_push_of_some _ e
  refine ⟨(s.heap.push { cls:=.type "range",data:=.fields #[.int lo t,.int hi u,.int 1 v] }).objs.size,[(s.heap.push { cls:=.type "range",data:=.fields #[.int lo t,.int hi u,.int 1 v] }).objs.size],_,_,H,rfl,
    I1.kept (t':=tk) fun b o e=>Heap.get?_push_of_some _ e,turn_range _ lo (hi - lo).toNat,?_,fun b hb=>?_,q⟩
  · have e1:lo+((0:Nat):Int) * 1=lo:=by simp
    have e2:(((hi - lo).toNat:Nat):Int) - ((0:Nat):Int)=Builtin.Range.rangeSize lo hi 1:=by rw [rangeSize_one]; split<;>omega
    show IsRangeIter _ _ (lo+((0:Nat):Int) * 1) ((((hi - lo).toNat:Nat):Int) - ((0:Nat):Int)) 1
    rw [e1,e2]
    exact Heap.get?_push_size _ rfl
  · have e:b=(s.heap.push { cls:=.type "range",data:=.fields #[.int lo t,.int hi u,.int 1 v] }).objs.size:=by simpa using hb
    subst e
    exact I1.fpOk (Nat.le_refl _) (I1.hok.fresh (Nat.le_refl _))
noncomputable def iRng1 (ta:TA):TI:=fun σ H R=>ta σ H fun vs H1=>∃ j:Int,vs=[.int j]∧-(2 ^ 62)≤j∧j < 2 ^ 62∧R (Itr 0 j.toNat) H1
theorem pi_range1 {a:Expr}{ta:TA}{p pos:Pos} (hg:Gl X "range") (hm:X.mg "range"=none) (ha:PA X [a] ta) (hs:starEach [a] X.env=[(false,eval a X.env)]:=by rfl):PI X tg (.Call (.Name "range" p) [a] [] pos) (iRng1 ta):=by
  intro pins s σ H R I h
  refine Call_ (ld_blt I hg hm boot_range (PyProof.Rows.callWith_type1 (thn (ha pos pins s σ H _ I h) fun us s1 ⟨vs,H1,I1,r1,q1⟩=>?_) hs rfl))
  obtain ⟨j,e,q1,q2,q⟩:=q1
  subst e
  cases r1 with
  | cons r rr=>
    cases rr
    obtain ⟨t,rfl⟩:=r
    exact call_range_1 (range_it I1 (by omega) (by omega) q1 q2 (by simpa using q))

noncomputable def tFor (wi:TI) (g:TG) (tb:TS):TS:=fun D σ H=>wi σ H fun J H1=>∃ W:Nat→Nat→St→Hp→Prop,(∃ m,W 0 m σ H1)∧∀ i m σ H,W i m σ H→
  (J.stop i H∧D.nx σ H)∨(J.go i H∧∃ N:St→Hp→Prop,(∀ σ' H',N σ' H'→∃ m',m' < m∧W (i+1) m' σ' H')∧∀ x H',J.yld i H x H'→g x σ H' fun σ2 H2=>tb { D with nx:=N,ct:=N,bk:=D.nx } σ2 H2)
noncomputable def pinsAt (fp:List Addr) (h:Heap):List (Addr×Obj):=fp.filterMap fun b=>(h.get? b).map fun o=>(b,o)
theorem mem_pinsAt {fp:List Addr}{h:Heap}{b:Addr}{o:Obj} (hb:b∈fp) (e:h.get? b=some o):(b,o)∈pinsAt fp h:=List.mem_filterMap.mpr ⟨b,hb,by rw [e]; rfl⟩
theorem of_pinsAt {fp:List Addr}{h:Heap}{p:Addr×Obj} (hp:p∈pinsAt fp h):p.1∈fp∧h.get? p.1=some p.2:=by
  obtain ⟨b,hb,e⟩:=List.mem_filterMap.mp hp
  cases q:h.get? b with
  | none=>rw [q] at e; cases e
  | some o=>
    rw [q] at e
    have e':(b,o)=p:=Option.some.inj e
    subst e'
    exact ⟨hb,q⟩
theorem Inv.pinned {pins:List (Addr×Obj)}{σ:St}{H:Hp}{s:Shared}{fp:List Addr} (I:Inv X pins σ H s) (hf:∀ b∈fp,FpOk X pins H b) (ho:∀ b∈fp,∃ o,s.heap.get? b=some o∧∀ v,o.data≠.cell v):Inv X (pins++pinsAt fp s.heap) σ H s:=
  I.pins_of fun p hp=>(List.mem_append.mp hp).elim (fun z=>I.pin p (List.mem_append_right _ z)) fun z=>by
    obtain ⟨hb,e⟩:=of_pinsAt z
    obtain ⟨f0,f1,f2,_⟩:=hf p.1 hb
    obtain ⟨o,e',d⟩:=ho p.1 hb
    rw [e] at e'; cases e'
    exact ⟨e,f0,f1,f2,d⟩
theorem Inv.unpinned {pins pl:List (Addr×Obj)}{σ:St}{H:Hp}{s:Shared} (I:Inv X (pins++pl) σ H s):Inv X pins σ H s:=I.pins_of fun p hp=>I.pin p (List.mem_append_right _ (List.mem_append_left _ hp))
theorem ps_for {iter:Expr}{body:List Stmt}{wi:TI}{g:TG}{tb:TS}{pos:Pos} (hp:PassesOwn (model X.prog X.w) X.A X.env X.xe) (hc:X.calm=true) (hi:PI X tg iter wi) (hg:PG X tg g) (hb:PSs X body tb)
    (hs:∀ x,foldedSetIterable iter X.env x=pure x:=by intro _; rfl):PS X (.For tg iter body [] pos) (tFor wi g tb):=by
  intro pins s σ H D I h
  refine wpAny_For (thn (hi pins s σ H _ I h) fun v s1 h1=>thn h1 fun itv s2 h2=>?_) hs
  obtain ⟨it,fp,tn,J,H2,e,I2,T,st2,f2,W,⟨m0,w0⟩,turn⟩:=h2
  subst e
  -- what stays true of the iterator's objects through the loop
  have stat:∀ {H':Hp},(∀ b∈fp,H' b=none)→∀ b∈fp,FpOk X pins H' b:=fun hn b hb=>⟨hn b hb,(f2 b hb).2⟩
  refine codeAny_forLoop_any (fun n s'=>∃ i σ' H',Inv X pins σ' H' s'∧tn i s'.heap∧(∀ b∈fp,H' b=none)∧W i n σ' H') ?_ m0 ⟨0,σ,H2,I2,st2,fun b hb=>(f2 b hb).1,w0⟩
  rintro n s3 ⟨i,σ3,H3,I3,st3,fr3,w3⟩
  rcases turn i n σ3 H3 w3 with ⟨stop,qn⟩ | ⟨go,N,hN,step⟩
  · refine wpAny_passesOwn hp (thn (T.done X rfl rfl rfl hc i pins s3 σ3 H3 X.xe I3 (stat fr3) st3 stop) fun r s4 ⟨hr,I4⟩=>?_)
    subst hr
    exact wpAny_execs_nil ⟨σ3,H3,I4,qn⟩
  · refine wpAny_passesOwn hp (thn (T.item X rfl rfl rfl hc i pins s3 σ3 H3 X.xe I3 (stat fr3) st3 go) fun r s4 ⟨u,hr,h4⟩=>?_)
    subst hr
    refine wpAny_passesOwn hp (thn h4 fun _ s5 ⟨x,H5,I5,r5,y5,st5,fr5⟩=>?_)
    have I5':=I5.pinned (stat fr5) (T.obj _ _ st5)
    refine wpAny_passesOwn hp (thn (hg _ s5 σ3 H5 x u _ I5' r5 (step x H5 y5)) fun _ s6 ⟨σ6,H6,I6,q6⟩=>?_)
    refine wpAny_passesOwn hp (thn (hb _ s6 σ6 H6 _ I6 q6) fun f s7 q7=>?_)
    have again:∀ {σ7:St}{H7:Hp},Inv X (pins++pinsAt fp s5.heap) σ7 H7 s7→N σ7 H7→∃ m,m < n∧∃ i σ' H',Inv X pins σ' H' s7∧tn i s7.heap∧(∀ b∈fp,H' b=none)∧W i m σ' H':=fun {σ7 H7} I7 n7=>by
      obtain ⟨m',hm,w7⟩:=hN σ7 H7 n7
      refine ⟨m',hm,i+1,σ7,H7,I7.unpinned,T.keep _ _ _ st5 fun b hb o e=>(I7.pin (b,o) (List.mem_append_right _ (List.mem_append_right _ (mem_pinsAt hb e)))).1,fun b hb=>?_,w7⟩
      obtain ⟨o,e,d⟩:=T.obj _ _ st5 b hb
      exact (I7.pin (b,o) (List.mem_append_right _ (List.mem_append_right _ (mem_pinsAt hb e)))).2.1
    cases f with
    | next=>obtain ⟨σ7,H7,I7,n7⟩:=q7; exact again I7 n7
    | cont=>obtain ⟨σ7,H7,I7,n7⟩:=q7; exact again I7 n7
    | brk=>obtain ⟨σ7,H7,I7,q7⟩:=q7; exact ⟨σ7,H7,I7.unpinned,q7⟩
    | ret v=>obtain ⟨x7,σ7,H7,I7,r7,q7⟩:=q7; exact ⟨x7,σ7,H7,I7.unpinned,r7,q7⟩
end

theorem for_tup {K:PySem.W.Frag}{a:Addr}{xs:List V}{g:TG}{tb:TS}{D:Ends}{σ:St}{H:Hp} (Pv:Nat→St→Hp→Prop) (h0:Pv 0 σ H) (hl:∀ i σ H,i≤xs.length→Pv i σ H→SqT K H a xs)
    (hs:∀ i x σ H,xs[i]?=some x→Pv i σ H→g x σ H fun σ2 H2=>tb { D with nx:=Pv (i+1),ct:=Pv (i+1),bk:=D.nx } σ2 H2) (hd:∀ σ H,Pv xs.length σ H→D.nx σ H) :
    ∃ W:Nat→Nat→St→Hp→Prop,(∃ m,W 0 m σ H)∧∀ i m σ H,W i m σ H→
      ((Itt K a).stop i H∧D.nx σ H)∨((Itt K a).go i H∧∃ N:St→Hp→Prop,(∀ σ' H',N σ' H'→∃ m',m' < m∧W (i+1) m' σ' H')∧∀ x H',(Itt K a).yld i H x H'→g x σ H' fun σ2 H2=>tb { D with nx:=N,ct:=N,bk:=D.nx } σ2 H2):=by
  refine ⟨fun i m σ H=>m=xs.length - i∧i≤xs.length∧Pv i σ H,⟨xs.length,by simp,Nat.zero_le _,h0⟩,?_⟩
  rintro i m σ H ⟨rfl,hi,p⟩
  have q:=hl i σ H hi p
  by_cases hlt:i < xs.length
  · refine .inr ⟨⟨xs,xs[i],q,by simp [hlt]⟩,Pv (i+1),fun σ' H' p'=>⟨xs.length - (i+1),by omega,rfl,hlt,p'⟩,fun x H' y=>?_⟩
    obtain ⟨e,y⟩:=y
    subst e
    exact hs i x σ _ (y xs q) p
  · have e:i=xs.length:=by omega
    subst e
    exact .inl ⟨⟨xs,q,Nat.le_refl _⟩,hd σ H p⟩
theorem for_range {lo:Int}{n:Nat}{g:TG}{tb:TS}{D:Ends}{σ:St}{H:Hp} (Pv:Nat→St→Hp→Prop) (h0:Pv 0 σ H)
    (hs:∀ i σ H,i < n→Pv i σ H→g (.int (lo+i)) σ H fun σ2 H2=>tb { D with nx:=Pv (i+1),ct:=Pv (i+1),bk:=D.nx } σ2 H2) (hd:∀ σ H,Pv n σ H→D.nx σ H) :
    ∃ W:Nat→Nat→St→Hp→Prop,(∃ m,W 0 m σ H)∧∀ i m σ H,W i m σ H→
      ((Itr lo n).stop i H∧D.nx σ H)∨((Itr lo n).go i H∧∃ N:St→Hp→Prop,(∀ σ' H',N σ' H'→∃ m',m' < m∧W (i+1) m' σ' H')∧∀ x H',(Itr lo n).yld i H x H'→g x σ H' fun σ2 H2=>tb { D with nx:=N,ct:=N,bk:=D.nx } σ2 H2):=by
  refine ⟨fun i m σ H=>m=n - i∧i≤n∧Pv i σ H,⟨n,by simp,Nat.zero_le _,h0⟩,?_⟩
  rintro i m σ H ⟨rfl,hi,p⟩
  by_cases hlt:i < n
  · refine .inr ⟨hlt,Pv (i+1),fun σ' H' p'=>⟨n - (i+1),by omega,rfl,hlt,p'⟩,fun x H' y=>?_⟩
    obtain ⟨e,y⟩:=y
    subst e y
    exact hs i σ _ hlt p
  · have e:i=n:=by omega
    subst e
    exact .inl ⟨Nat.le_refl _,hd σ H p⟩
end L2

namespace L2
open PySem PySem.Spec PyProof.Rows

noncomputable abbrev R2:=V→V→Hp→VK→Prop
noncomputable def OpR (X:Cx) (f:Value→Value→Sem Value) (r:R2):Prop:=
  ∀ (pins:List (Addr×Obj)) (s:Shared) (σ:St) (H:Hp) (x y:V) (v u:Value) (Q:VK),Inv X pins σ H s→RelV x v→RelV y u→r x y H Q→
    wpAny (model X.prog X.w) X.A (f v u) (EP X pins σ Q) X.xe s
noncomputable def UnR (X:Cx) (f:Value→Sem Value) (r:V→Hp→VK→Prop):Prop:=
  ∀ (pins:List (Addr×Obj)) (s:Shared) (σ:St) (H:Hp) (x:V) (v:Value) (Q:VK),Inv X pins σ H s→RelV x v→r x H Q→
    wpAny (model X.prog X.w) X.A (f v) (EP X pins σ Q) X.xe s
noncomputable def CallR (X:Cx) (f:Value) (r:List V→Hp→VK→Prop):Prop:=
  ∀ (pins:List (Addr×Obj)) (s:Shared) (σ:St) (H:Hp) (xs:List V) (us:List Value) (Q:VK),Inv X pins σ H s→Vals xs us→r xs H Q→
    wpAny (model X.prog X.w) X.A (call f us) (EP X pins σ Q) X.xe s

noncomputable def tOp (r:R2) (ta tb:TE):TE:=fun σ H Q=>ta σ H fun x H1=>tb σ H1 fun y H2=>r x y H2 Q
noncomputable def tUn (r:V→Hp→VK→Prop) (ta:TE):TE:=fun σ H Q=>ta σ H fun x H1=>r x H1 Q
noncomputable def rI (C:Int→Int→Prop) (g:Int→Int→V):R2:=fun x y H Q=>∃ i j,x=.int i∧y=.int j∧C i j∧Q (g i j) H
noncomputable def rI0 (g:Int→Int→V):R2:=fun x y H Q=>∃ i j,x=.int i∧y=.int j∧Q (g i j) H
noncomputable def rU (g:Int→V):V→Hp→VK→Prop:=fun x H Q=>∃ i,x=.int i∧Q (g i) H

section
variable {X:Cx}{a b c:Expr}{ta tb tc:TE}{pos:Pos}

theorem binT (ha:PE X a ta) (hb:PE X b tb) {pins:List (Addr×Obj)}{s:Shared}{σ:St}{H:Hp}{R:V→V→Hp→Prop} (I:Inv X pins σ H s)
    (h:ta σ H fun x H1=>tb σ H1 fun y H2=>R x y H2) {Q:Value→Shared→Prop}{f:Value→Value→Sem Value}
    (hf:∀ v u s2 x y H2,Inv X pins σ H2 s2→RelV x v→RelV y u→R x y H2→wpAny (model X.prog X.w) X.A (f v u) Q X.xe s2) :
    wpAny (model X.prog X.w) X.A (eval a X.env) (fun v s₁=>wpAny (model X.prog X.w) X.A (eval b X.env) (fun u s₂=>wpAny (model X.prog X.w) X.A (f v u) Q X.xe s₂) X.xe s₁) X.xe s:=by
  refine thn (ha pins s σ H _ I h) fun v s1 ⟨x,H1,I1,r1,q1⟩=>?_
  refine thn (hb pins s1 σ H1 _ I1 q1) fun u s2 ⟨y,H2,I2,r2,q2⟩=>?_
  exact hf v u s2 x y H2 I2 r1 r2 q2

theorem pe_op {op:Operator}{r:R2} (ho:OpR X (binaryOp op) r) (ha:PE X a ta) (hb:PE X b tb):PE X (.BinOp a op b pos) (tOp r ta tb):=by
  intro pins s σ H Q I h
  exact wpAny_BinOp (binT ha hb I h fun v u s2 x y H2 I2 rx ry q=>ho pins s2 σ H2 x y v u Q I2 rx ry q)
theorem pe_un {op:UnaryOp}{r:V→Hp→VK→Prop} (ho:UnR X (unaryOp op) r) (ha:PE X a ta):PE X (.UnaryOp op a pos) (tUn r ta):=by
  intro pins s σ H Q I h
  exact UnaryOp_ (thn (ha pins s σ H _ I h) fun v s1 ⟨x,H1,I1,r1,q1⟩=>ho pins s1 σ H1 x v Q I1 r1 q1)

theorem opI {f:Value→Value→Sem Value}{C:Int→Int→Prop}{g:Int→Int→Int}
    (rule:∀ (i j:Int) (t u:Tok) (s:Shared) (Q:Value→Shared→Prop) (E:Value→Shared→Prop),C i j→Q (.int (g i j) s.toks) { s with toks:=s.toks+1 }→wpAny (model X.prog X.w) X.A (f (.int i t) (.int j u)) Q E s) :
    OpR X f (rI C fun i j=>.int (g i j)):=by
  intro pins s σ H x y v u Q I rx ry h
  obtain ⟨i,j,rfl,rfl,hc,q⟩:=h
  obtain ⟨t,rfl⟩:=rx
  obtain ⟨t',rfl⟩:=ry
  exact rule i j t t' s _ _ hc ⟨.int (g i j),H,I.tok _,⟨_,rfl⟩,q⟩
theorem opI0 {f:Value→Value→Sem Value}{g:Int→Int→Int}
    (rule:∀ (i j:Int) (t u:Tok) (s:Shared) (Q:Value→Shared→Prop) (E:Value→Shared→Prop),Q (.int (g i j) s.toks) { s with toks:=s.toks+1 }→wpAny (model X.prog X.w) X.A (f (.int i t) (.int j u)) Q E s) :
    OpR X f (rI0 fun i j=>.int (g i j)):=by
  intro pins s σ H x y v u Q I rx ry h
  obtain ⟨i,j,rfl,rfl,q⟩:=h
  obtain ⟨t,rfl⟩:=rx
  obtain ⟨t',rfl⟩:=ry
  exact rule i j t t' s _ _ ⟨.int (g i j),H,I.tok _,⟨_,rfl⟩,q⟩
theorem opB0 {f:Value→Value→Sem Value}{g:Int→Int→Bool}
    (rule:∀ (i j:Int) (t u:Tok) (s:Shared) (Q:Value→Shared→Prop) (E:Value→Shared→Prop),Q (.bool (g i j)) s→wpAny (model X.prog X.w) X.A (f (.int i t) (.int j u)) Q E s) :
    OpR X f (rI0 fun i j=>.bl (g i j)):=by
  intro pins s σ H x y v u Q I rx ry h
  obtain ⟨i,j,rfl,rfl,q⟩:=h
  obtain ⟨t,rfl⟩:=rx
  obtain ⟨t',rfl⟩:=ry
  exact rule i j t t' s _ _ ⟨.bl (g i j),H,I,rfl,q⟩

noncomputable def CDiv (i j:Int):Prop:=0 < j∧j < 1073741824
noncomputable def CDivN (i j:Int):Prop:=j≠0∧j.natAbs < 1073741824
noncomputable def CPow (i j:Int):Prop:=0≤j∧j≤1000000∧i.natAbs < 2 ^ 64
noncomputable def CMul (i j:Int):Prop:=(-(2 ^ 64) < i∧i < 2 ^ 64)∨(-(2 ^ 64) < j∧j < 2 ^ 64)
theorem CMul.ok {i j:Int} (h:CMul i j):IntMulOk i j:=by
  rcases h with ⟨h1,h2⟩ | ⟨h1,h2⟩
  · exact .of_left (intBits_le_64 h1 h2)
  · exact .of_right (intBits_le_64 h1 h2)

theorem op_add:OpR X (binaryOp .Add) (rI0 fun i j=>.int (i+j)):=opI0 fun _ _ _ _ _ _ _ q=>add_int q
theorem op_sub:OpR X (binaryOp .Sub) (rI0 fun i j=>.int (i - j)):=opI0 fun _ _ _ _ _ _ _ q=>sub_int q
theorem op_mul:OpR X (binaryOp .Mult) (rI CMul fun i j=>.int (i * j)):=opI fun _ _ _ _ _ _ _ hc q=>mul_int q hc.ok
theorem op_fdiv:OpR X (binaryOp .FloorDiv) (rI CDiv fun i j=>.int (i / j)):=opI fun i j _ _ _ _ _ hc q=>by
  have h1:(0:Int) < j:=hc.1
  have h2:j < 1073741824:=hc.2
  exact floordiv_int (by omega) (by rw [Int.fdiv_eq_ediv_of_nonneg i (by omega)]; exact q) (.inl (PyProof.noPylong_small (by omega)))
theorem op_fdivN:OpR X (binaryOp .FloorDiv) (rI CDivN fun i j=>.int (i.fdiv j)):=opI fun _ _ _ _ _ _ _ hc q=>floordiv_int hc.1 q (.inl (PyProof.noPylong_small hc.2))
theorem op_mod:OpR X (binaryOp .Mod) (rI (fun _ j=>0 < j) fun i j=>.int (i % j)):=opI fun i j _ _ _ _ _ hc q=>by
  have h1:(0:Int) < j:=hc
  exact mod_int' (by omega) (by rw [Int.fmod_eq_emod_of_nonneg i (by omega)]; exact q)
theorem op_modN:OpR X (binaryOp .Mod) (rI (fun _ j=>j≠0) fun i j=>.int (i.fmod j)):=opI fun _ _ _ _ _ _ _ hc q=>mod_int' hc q
theorem op_shl:OpR X (binaryOp .LShift) (rI CPow fun i j=>.int (i * 2 ^ j.toNat)):=opI fun _ _ _ _ _ _ _ hc q=>lshift_int_small hc.1 hc.2.1 hc.2.2 q


theorem unI {f:Value→Sem Value}{g:Int→Int}
    (rule:∀ (i:Int) (t:Tok) (s:Shared) (Q:Value→Shared→Prop) (E:Value→Shared→Prop),Q (.int (g i) s.toks) { s with toks:=s.toks+1 }→wpAny (model X.prog X.w) X.A (f (.int i t)) Q E s) :
    UnR X f (rU fun i=>.int (g i)):=by
  intro pins s σ H x v Q I rx h
  obtain ⟨i,rfl,q⟩:=h
  obtain ⟨t,rfl⟩:=rx
  exact rule i t s _ _ ⟨.int (g i),H,I.tok _,⟨_,rfl⟩,q⟩
theorem un_neg:UnR X (unaryOp .USub) (rU fun i=>.int (-i)):=unI fun _ _ _ _ _ q=>neg_int q

end

noncomputable def scal:V→V→Bool
  | .non,.non=>true | .non,.int _=>true | .int _,.non=>true | .non,.bl _=>true | .bl _,.non=>true | .non,.str _=>true | .str _,.non=>true
  | .int _,.int _=>true | .bl _,.bl _=>true | .str _,.str _=>true | .byt _,.byt _=>true
  | .int _,.str _=>true | .str _,.int _=>true | .bl _,.str _=>true | .str _,.bl _=>true
  | _,_=>false
noncomputable def rEq:R2:=fun x y H Q=>scal x y=true∧Q (.bl (decide (x=y))) H
noncomputable def rNe:R2:=fun x y H Q=>scal x y=true∧Q (.bl (!decide (x=y))) H

theorem dec_int {i j:Int}:decide (V.int i=V.int j)=(i==j):=by
  rw [Bool.eq_iff_iff]
  simp
theorem dec_bl {i j:Bool}:decide (V.bl i=V.bl j)=(i==j):=by
  rw [Bool.eq_iff_iff]
  simp
theorem dec_str {i j:Str}:decide (V.str i=V.str j)=(i==j):=by
  rw [Bool.eq_iff_iff]
  simp
theorem dec_byt {i j:Array UInt8}:decide (V.byt i=V.byt j)=(i.toList==j.toList):=by
  rw [Bool.eq_iff_iff]
  cases i
  cases j
  simp

section
variable {X:Cx}{a b c:Expr}{ta tb tc:TE}{pos:Pos}
theorem fin_bl {pins:List (Addr×Obj)}{σ:St}{H:Hp}{s:Shared}{Q:VK}{k k':Bool} (I:Inv X pins σ H s) (q:Q (.bl k) H) (e:k=k'):EP X pins σ Q (.bool k') s:=by
  subst e
  exact ⟨.bl k,H,I,rfl,q⟩
theorem op_eq:OpR X (compareOp .Eq) rEq:=by
  intro pins s σ H x y v u Q I rx ry h
  obtain ⟨hs,q⟩:=h
  cases x with
  | non=>
    cases rx
    cases y with
    | non=>cases ry; exact PySem.EqNone.eq_none_none (fin_bl I q (by simp))
    | bl j=>cases ry; exact PySem.EqNone.eq_none_bool (fin_bl I q (by simp))
    | int j=>obtain ⟨t',rfl⟩:=ry; exact PySem.EqNone.eq_none_int (fin_bl I q (by simp))
    | str j=>obtain ⟨t',rfl⟩:=ry; exact PySem.EqNone.eq_none_str (fin_bl I q (by simp))
    | _=>exact absurd (show false=true from hs) Bool.false_ne_true
  | bl i=>
    cases rx
    cases y with
    | non=>cases ry; exact PySem.EqNone.eq_bool_none (fin_bl I q (by simp))
    | bl j=>cases ry; exact eq_bool (fin_bl I q dec_bl)
    | str j=>obtain ⟨t',rfl⟩:=ry; exact PySem.EqMixed.eq_bool_str (fin_bl I q (by simp))
    | _=>exact absurd (show false=true from hs) Bool.false_ne_true
  | int i=>
    obtain ⟨t,rfl⟩:=rx
    cases y with
    | non=>cases ry; exact PySem.EqNone.eq_int_none (fin_bl I q (by simp))
    | int j=>obtain ⟨t',rfl⟩:=ry; exact eq_int (fin_bl I q dec_int)
    | str j=>obtain ⟨t',rfl⟩:=ry; exact PySem.EqMixed.eq_int_str (fin_bl I q (by simp))
    | _=>exact absurd (show false=true from hs) Bool.false_ne_true
  | str i=>
    obtain ⟨t,rfl⟩:=rx
    cases y with
    | non=>cases ry; exact PySem.EqNone.eq_str_none (fin_bl I q (by simp))
    | bl j=>cases ry; exact PySem.EqMixed.eq_str_bool (fin_bl I q (by simp))
    | int j=>obtain ⟨t',rfl⟩:=ry; exact PySem.EqMixed.eq_str_int (fin_bl I q (by simp))
    | str j=>obtain ⟨t',rfl⟩:=ry; exact eq_str (fin_bl I q dec_str)
    | _=>exact absurd (show false=true from hs) Bool.false_ne_true
  | byt i=>
    obtain ⟨t,rfl⟩:=rx
    cases y with
    | byt j=>obtain ⟨t',rfl⟩:=ry; exact PySem.W.eq_bytes (fin_bl I q dec_byt)
    | _=>exact absurd (show false=true from hs) Bool.false_ne_true
  | _=>cases y<;>exact absurd (show false=true from hs) Bool.false_ne_true
theorem op_ne:OpR X (compareOp .NotEq) rNe:=by
  intro pins s σ H x y v u Q I rx ry h
  obtain ⟨hs,q⟩:=h
  cases x with
  | non=>
    cases rx
    cases y with
    | non=>cases ry; exact PySem.EqNone.ne_none_none (fin_bl I q (by simp))
    | bl j=>cases ry; exact PySem.EqNone.ne_none_bool (fin_bl I q (by simp))
    | int j=>obtain ⟨t',rfl⟩:=ry; exact PySem.EqNone.ne_none_int (fin_bl I q (by simp))
    | str j=>obtain ⟨t',rfl⟩:=ry; exact PySem.EqNone.ne_none_str (fin_bl I q (by simp))
    | _=>exact absurd (show false=true from hs) Bool.false_ne_true
  | bl i=>
    cases rx
    cases y with
    | non=>cases ry; exact PySem.EqNone.ne_bool_none (fin_bl I q (by simp))
    | bl j=>cases ry; exact ne_bool (fin_bl I q (congrArg not dec_bl))
    | str j=>obtain ⟨t',rfl⟩:=ry; exact PySem.EqMixed.ne_bool_str (fin_bl I q (by simp))
    | _=>exact absurd (show false=true from hs) Bool.false_ne_true
  | int i=>
    obtain ⟨t,rfl⟩:=rx
    cases y with
    | non=>cases ry; exact PySem.EqNone.ne_int_none (fin_bl I q (by simp))
    | int j=>obtain ⟨t',rfl⟩:=ry; exact ne_int (fin_bl I q (congrArg not dec_int))
    | str j=>obtain ⟨t',rfl⟩:=ry; exact PySem.EqMixed.ne_int_str (fin_bl I q (by simp))
    | _=>exact absurd (show false=true from hs) Bool.false_ne_true
  | str i=>
    obtain ⟨t,rfl⟩:=rx
    cases y with
    | non=>cases ry; exact PySem.EqNone.ne_str_none (fin_bl I q (by simp))
    | bl j=>cases ry; exact PySem.EqMixed.ne_str_bool (fin_bl I q (by simp))
    | int j=>obtain ⟨t',rfl⟩:=ry; exact PySem.EqMixed.ne_str_int (fin_bl I q (by simp))
    | str j=>obtain ⟨t',rfl⟩:=ry; exact ne_str (fin_bl I q (congrArg not dec_str))
    | _=>exact absurd (show false=true from hs) Bool.false_ne_true
  | byt i=>
    obtain ⟨t,rfl⟩:=rx
    cases y with
    | byt j=>obtain ⟨t',rfl⟩:=ry; exact PySem.W.ne_bytes (fin_bl I q (congrArg not dec_byt))
    | _=>exact absurd (show false=true from hs) Bool.false_ne_true
  | _=>cases y<;>exact absurd (show false=true from hs) Bool.false_ne_true

theorem op_lt:OpR X (compareOp .Lt) (rI0 fun i j=>.bl (decide (i < j))):=opB0 fun _ _ _ _ _ _ _ q=>lt_int q
theorem op_le:OpR X (compareOp .LtE) (rI0 fun i j=>.bl (decide (i≤j))):=opB0 fun _ _ _ _ _ _ _ q=>le_int q
theorem op_gt:OpR X (compareOp .Gt) (rI0 fun i j=>.bl (decide (j < i))):=opB0 fun _ _ _ _ _ _ _ q=>gt_int q
theorem op_ge:OpR X (compareOp .GtE) (rI0 fun i j=>.bl (decide (j≤i))):=opB0 fun _ _ _ _ _ _ _ q=>ge_int q

theorem op_isN:OpR X (compareOp .Is) (fun x y H Q=>y=.non∧Q (.bl (decide (x=.non))) H):=by
  intro pins s σ H x y v u Q I rx ry h
  obtain ⟨rfl,q⟩:=h
  cases ry
  refine is_none_gen (fin_bl I q ?_)
  cases x<;>first
    | (cases rx; rfl)
    | (obtain ⟨t,rfl⟩:=rx; rfl)
theorem op_notN:OpR X (compareOp .IsNot) (fun x y H Q=>y=.non∧Q (.bl (!decide (x=.non))) H):=by
  intro pins s σ H x y v u Q I rx ry h
  obtain ⟨rfl,q⟩:=h
  cases ry
  refine isnot_none_gen (fin_bl I q ?_)
  cases x<;>first
    | (cases rx; rfl)
    | (obtain ⟨t,rfl⟩:=rx; rfl)



theorem pe_cmpR {op:CmpOp}{r:R2} (ho:OpR X (compareOp op) r) (ha:PE X a ta) (hb:PE X b tb) (hm:behindInMarks op b=false):PE X (.Compare a [op] [b] pos) (tOp r ta tb):=by
  intro pins s σ H Q I h
  exact wpAny_Compare1 (binT ha hb I h fun v u s2 x y H2 I2 rx ry q=>ho pins s2 σ H2 x y v u Q I2 rx ry q) hm
noncomputable def tTest (t:TE):TT:=fun σ H Q=>t σ H fun x H'=>∃ k,x=.bl k∧Q k H'
theorem pt_cmpR {op:CmpOp}{r:R2} (ho:OpR X (compareOp op) r) (ha:PE X a ta) (hb:PE X b tb) (hm:behindInMarks op b=false):PT X (.Compare a [op] [b] pos) (tTest (tOp r ta tb)):=by
  intro pins s σ H Q I h
  refine wpAny_isTrue_Compare1 (thn (ha pins s σ H _ I h) fun v s1 ⟨x,H1,I1,r1,q1⟩=>thn (hb pins s1 σ H1 _ I1 q1) fun u s2 ⟨y,H2,I2,r2,q2⟩=>
    thn (ho pins s2 σ H2 x y v u _ I2 r1 r2 q2) fun c s3 ⟨z,H3,I3,r3,k,e,q3⟩=>?_) hm
  subst e
  cases r3
  exact wpAny_truthy_bool ⟨H3,I3,q3⟩
noncomputable def tChain (r r':R2) (ta tb tc:TE):TE:=fun σ H Q=>ta σ H fun x H1=>tb σ H1 fun y H2=>r x y H2 fun z H3=>∃ k,z=.bl k ∧
  (if k=true then tc σ H3 fun w' H4=>r' y w' H4 Q else Q (.bl false) H3)
theorem pe_chain {op op':CmpOp}{r r':R2} (ho:OpR X (compareOp op) r) (ho':OpR X (compareOp op') r') (ha:PE X a ta) (hb:PE X b tb) (hc:PE X c tc)
    (hm:lastMarks [op,op'] [b,c]=false:=by with_unfolding_all rfl):PE X (.Compare a [op,op'] [b,c] pos) (tChain r r' ta tb tc):=by
  intro pins s σ H Q I h
  refine Compare_chain (thn (ha pins s σ H _ I h) fun v s1 ⟨x,H1,I1,r1,q1⟩=>chain_link (thn (hb pins s1 σ H1 _ I1 q1) fun u s2 ⟨y,H2,I2,r2,q2⟩=>
    thn (ho pins s2 σ H2 x y v u _ I2 r1 r2 q2) fun d s3 ⟨z,H3,I3,r3,k,e,q3⟩=>?_)) hm
  subst e
  cases r3
  refine wpAny_truthy_bool ?_
  cases k with
  | false=>exact ite_ff ⟨.bl false,H3,I3,rfl,q3⟩
  | true=>exact ite_tt (chain_last (thn (hc pins s3 σ H3 _ I3 q3) fun w' s4 ⟨z',H4,I4,r4,q4⟩=>ho' pins s4 σ H4 y z' u w' Q I4 r2 r4 q4))
theorem pt_chain {op op':CmpOp}{r r':R2} (ho:OpR X (compareOp op) r) (ho':OpR X (compareOp op') r') (ha:PE X a ta) (hb:PE X b tb) (hc:PE X c tc)
    (hm:lastMarks [op,op'] [b,c]=false:=by with_unfolding_all rfl):PT X (.Compare a [op,op'] [b,c] pos) (tTest (tChain r r' ta tb tc)):=by
  intro pins s σ H Q I h
  refine isTrue_chain (thn (ha pins s σ H _ I h) fun v s1 ⟨x,H1,I1,r1,q1⟩=>test_link (thn (hb pins s1 σ H1 _ I1 q1) fun u s2 ⟨y,H2,I2,r2,q2⟩=>
    thn (ho pins s2 σ H2 x y v u _ I2 r1 r2 q2) fun d s3 ⟨z,H3,I3,r3,k,e,q3⟩=>?_)) hm
  subst e
  cases r3
  refine wpAny_truthy_bool ?_
  cases k with
  | false=>
    obtain ⟨k',e',q'⟩:=q3
    cases e'
    exact ite_ff ⟨H3,I3,q'⟩
  | true=>
    refine ite_tt (test_last (thn (hc pins s3 σ H3 _ I3 q3) fun w' s4 ⟨z',H4,I4,r4,q4⟩=>thn (ho' pins s4 σ H4 y z' u w' _ I4 r2 r4 q4) fun d' s5 ⟨z2,H5,I5,r5,k2,e2,q5⟩=>?_))
    subst e2
    cases r5
    exact wpAny_truthy_bool ⟨H5,I5,q5⟩

theorem line63:(sizeLine:Nat) < 2 ^ 63:=by rw [sizeLine_eq]; decide



theorem vals1 {x:V}{us:List Value} (r:Vals [x] us):∃ u,us=[u]∧RelV x u:=by
  cases r with
  | cons r1 r2=>cases r2; exact ⟨_,rfl,r1⟩
theorem vals2 {x y:V}{us:List Value} (r:Vals [x,y] us):∃ u w',us=[u,w']∧RelV x u∧RelV y w':=by
  cases r with
  | cons r1 r2=>
    cases r2 with
    | cons r3 r4=>cases r4; exact ⟨_,_,rfl,r1,r3⟩
theorem call_max2 (hc:X.calm=true):CallR X (.builtin "max") (fun xs H Q=>∃ i j,xs=[.int i,.int j]∧Q (.int (if j > i then j else i)) H):=by
  intro pins s σ H xs us Q I r h
  obtain ⟨i,j,rfl,q⟩:=h
  obtain ⟨u,w',rfl,⟨t,rfl⟩,⟨t',rfl⟩⟩:=vals2 r
  refine max_two_ints (I.ok.hd hc) fun h' tk k=>⟨_,H,I.kept k,?_,q⟩
  by_cases hj:j > i
  · rw [if_pos hj,if_pos hj]; exact ⟨_,rfl⟩
  · rw [if_neg hj,if_neg hj]; exact ⟨_,rfl⟩
theorem call_min2 (hc:X.calm=true):CallR X (.builtin "min") (fun xs H Q=>∃ i j,xs=[.int i,.int j]∧Q (.int (if j < i then j else i)) H):=by
  intro pins s σ H xs us Q I r h
  obtain ⟨i,j,rfl,q⟩:=h
  obtain ⟨u,w',rfl,⟨t,rfl⟩,⟨t',rfl⟩⟩:=vals2 r
  refine min_two_ints (I.ok.hd hc) fun h' tk k=>⟨_,H,I.kept k,?_,q⟩
  by_cases hj:j < i
  · rw [if_pos hj,if_pos hj]; exact ⟨_,rfl⟩
  · rw [if_neg hj,if_neg hj]; exact ⟨_,rfl⟩
end
end L2

namespace L2
open PySem PySem.Spec PyProof.Rows

structure ObjM (h:Heap) (x dx C:Addr) (mA:Str→Option Value):Prop where
  obj:h.get? x=some (PySem.W.instObj C dx)
  ns:h.Ns1 dx mA
  ne:dx≠x

theorem lookIn_ns {h:Heap}{dx:Addr}{mA:Str→Option Value} (n:h.Ns1 dx mA):∃ od,h.get? dx=some od∧∀ name,PySem.W.lookIn name od=some (mA name):=by
  obtain ⟨o,es,ep,ho,hd,hk,_,hm⟩:=n
  refine ⟨o,ho,fun name=>?_⟩
  have e:=hm name
  unfold nsFind findBy at e
  rw [←Array.find?_toList] at e
  unfold PySem.W.lookIn
  rw [hd]
  dsimp only
  split
  · rename_i y q
    rw [q] at e
    exact congrArg some e
  · rename_i q
    rw [q] at e
    have a:es.toList.any (·.refKey)=false:=by
      rw [List.any_eq_false]
      intro y hy
      obtain ⟨z,t,hkey⟩:=hk y (Array.mem_toList_iff.mp hy)
      simp [DictEntry.refKey,hkey]
    have a':¬es.toList.any (·.refKey)=true:=by rw [a]; exact Bool.false_ne_true
    rw [if_neg a']
    exact congrArg some e

theorem ObjM.look {h:Heap}{x dx C:Addr}{mA:Str→Option Value} (I:ObjM h x dx C mA):∃ od,PySem.W.InstAt h x (PySem.W.instObj C dx) C (some od)∧∀ name,PySem.W.lookIn name od=some (mA name):=
  let ⟨od,ho,hl⟩:=lookIn_ns I.ns
  ⟨od,⟨I.obj,rfl,rfl,ho⟩,hl⟩

section
variable {prog:Program}{w:World}{A:Around}{E:Value→Shared→Prop}{s:Shared}{K:PySem.W.Frag}{x dx C f:Addr}{mA:Str→Option Value}{name:Str}{v:Value}



theorem get_meth {pl:Sem Bool}{Q:Value×List Value→Shared→Prop} (X:K.In s.heap) (I:ObjM s.heap x dx C mA) (hg:PySem.W.plainGet K C name=true)
    (hf:PySem.W.findIn K (.ref C) name=some (some (.ref f))) (ht:PySem.W.isFn K (.ref f)=true) (hv:mA name=none) (h:Q (.ref f,[.ref x]) s) :
    wpAny (model prog w) A (getMethod (.ref x) name pl) Q E s:=by
  obtain ⟨od,J,hl⟩:=I.look
  exact PySem.W.method_fn X J (PySem.W.plainGet_of hg).1 (PySem.W.plainGet_of hg).2 hf (beq_iff_eq.mp ht) (by show (PySem.W.lookIn name od).map (·.isSome)=some false; rw [hl,hv]; rfl) h


end


theorem RelO.some_of {v:V}{o:Option Value} (r:RelO (some v) o):∃ u,o=some u∧RelV v u:=by
  cases o with
  | none=>exact (show False from r).elim
  | some u=>exact ⟨u,rfl,r⟩
theorem RelO.none_of {o:Option Value} (r:RelO none o):o=none:=by
  cases o with
  | none=>rfl
  | some u=>exact (show False from r).elim

section
variable {P:Program}{w:World}{H H':Hp}{h h':Heap}{a C dx:Addr}{fs fs':List (Str×V)}
theorem ins_get (hok:HOk P w H h) (e:H a=some (.ins C dx fs)):∃ mA,ObjM h a dx C mA∧(∀ f,RelO (fs.lookup f) (mA f))∧PySem.Within mA (fs.map (·.1))∧fs.length≤1000∧H dx=some (.own a):=by
  obtain ⟨d,z,ne,ob,mA,n,r,q⟩:=(show ObjOk P w H h a (.ins C dx fs) from hok a _ e)
  exact ⟨mA,⟨ob,n,ne⟩,r,q,z,d⟩
end

structure Cls (K:PySem.W.Frag) (C:Addr):Prop where
  pg:PySem.W.plainGet K C Str.empty=true
  hd:PySem.W.hasDictIn K C=true
  po:PySem.W.plainOver K C=true
  sa:PySem.W.findIn K (.ref C) "__setattr__"=some (some (.builtin "object.__setattr__"))
theorem Cls.get {K:PySem.W.Frag}{C:Addr} (c:Cls K C) (f:Str):PySem.W.plainGet K C f=true:=c.pg
structure Con (K:PySem.W.Frag) (C:Addr) (f:Str) (v:V) (u:Value):Prop where
  at_:PySem.W.findIn K (.ref C) f=some (some u)
  rel:RelV v u
  get:PySem.W.specialIn K u "__get__"=some none
  cp:PySem.W.copiedNames.contains f=false
structure Meth (K:PySem.W.Frag) (C:Addr) (m:Str) (f:Addr):Prop where
  at_:PySem.W.findIn K (.ref C) m=some (some (.ref f))
  fn:PySem.W.isFn K (.ref f)=true
  kp:PySem.W.keepIn K (.ref f)=true

section
variable {X:Cx}{pins:List (Addr×Obj)}{σ:St}{H:Hp}{s:Shared}{a C dx:Addr}{fs:List (Str×V)}{f:Str}{v:V}{A:Around}{E:Value→Shared→Prop}



theorem getmeth_ok {m:Str}{g:Addr}{pl:Sem Bool}{Q:Value×List Value→Shared→Prop} (I:Inv X pins σ H s) (e:H a=some (.ins C dx fs)) (c:Cls X.K C) (k:Meth X.K C m g) (l:fs.lookup m=none)
    (h:Q (.ref g,[.ref a]) s):wpAny (model X.prog X.w) A (getMethod (.ref a) m pl) Q E s:=by
  obtain ⟨mA,O,r,_,_,_⟩:=ins_get I.hok e
  have hn:mA m=none:=RelO.none_of (by rw [←l]; exact r m)
  exact get_meth I.kIn O (c.get m) k.at_ k.fn hn h


theorem Inv.made (I:Inv X pins σ H s):Inv X pins σ (upd (upd H s.heap.objs.size (.own (s.heap.objs.size+1))) (s.heap.objs.size+1) (.ins C s.heap.objs.size []))
    { s with heap:=(s.heap.push PySem.W.emptyDict).push (PySem.W.instObj C s.heap.objs.size) }:=by
  have e1:(s.heap.push PySem.W.emptyDict).get? s.heap.objs.size=some PySem.W.emptyDict:=Heap.get?_push_size s.heap rfl
  have e2:((s.heap.push PySem.W.emptyDict).push (PySem.W.instObj C s.heap.objs.size)).get? (s.heap.objs.size+1)=some (PySem.W.instObj C s.heap.objs.size):=by
    have:=Heap.get?_push_size (s.heap.push PySem.W.emptyDict) (o:=PySem.W.instObj C s.heap.objs.size) rfl
    rwa [Heap.size_push] at this
  have e3:(s.heap.push PySem.W.emptyDict).Ns s.heap.objs.size (fun _=>none):=⟨PySem.W.emptyDict,#[],_,e1,rfl,(fun e he=>absurd he (by simp)),fun _=>rfl⟩
  have I1:=I.laid (a:=s.heap.objs.size) (o:=.own (s.heap.objs.size+1)) (h':=s.heap.push PySem.W.emptyDict) (t':=s.toks) (fun b u q=>Heap.get?_push_of_some _ q) (Nat.le_refl _) ⟨_,e1⟩
  refine I1.laid (a:=s.heap.objs.size+1) (o:=.ins C s.heap.objs.size []) (t':=s.toks) (fun b u q=>Heap.get?_push_of_some _ q) (Nat.le_of_eq (Heap.size_push _ _)) ?_
  have ne:s.heap.objs.size≠s.heap.objs.size+1:=Nat.ne_of_lt (Nat.lt_succ_self _)
  refine ⟨by rw [upd_ne ne,upd_same],Nat.zero_le _,ne,e2,fun _=>none,(Heap.Ns1.of_empty e3).at fun o q=>Heap.get?_push_of_some _ q,fun _=>True.intro,fun y hy=>absurd rfl hy⟩

end


section
variable {X:Cx}{o e value:Expr}{f:Str}{pos pos' tpos:Pos}{ta tv:TE}

end

section
variable {X:Cx}{pins:List (Addr×Obj)}{σ:St}{H:Hp}{s:Shared}{A:Around}{E:Value→Shared→Prop}{Q:Value→Shared→Prop}{c:Value}{b:Bool}
inductive TyOf (K:PySem.W.Frag) (H:Hp):V→Value→Prop where
  | non:TyOf K H .non (.type "NoneType")
  | bl (x:Bool):TyOf K H (.bl x) (.type "bool")
  | int (i:Int):TyOf K H (.int i) (.type "int")
  | str (x:Str):TyOf K H (.str x) (.type "str")
  | flt (x:UInt64):TyOf K H (.flt x) (.type "float")
  | lst {a:Addr}{xs:List V} (e:H a=some (.lst xs)):TyOf K H (.ref a) (.type "list")
  | frz {a:Addr}{o:Obj}{xs:List V} (e:H a=some (.frz o (.lst xs))):TyOf K H (.ref a) (.type "list")
  | tup {a:Addr}{xs:List V} (e:H a=some (.tup xs)):TyOf K H (.ref a) (.type "tuple")
  | dK {a:Addr}{kvs:List (Key×V)} (e:H a=some (.dK kvs)):TyOf K H (.ref a) (.type "dict")
  | dT {a:Addr}{kvs:List (List Key×V)} (e:H a=some (.dT kvs)):TyOf K H (.ref a) (.type "dict")
  | ins {a C dx:Addr}{fs:List (Str×V)} (e:H a=some (.ins C dx fs)) (cl:Cls K C) (ha:PySem.W.findIn K (.ref C) "__class__"=some (some (.builtin "object.__class__")))
      (hn:PySem.W.specialIn K (.builtin "object.__class__") "__get__"=some (some (.builtin "getset_descriptor.__get__"))) (htk:PySem.W.takesIn K (.builtin "object.__class__")=some true)
      (hm:PySem.W.mroIn K C (.type "object")=some true):TyOf K H (.ref a) (.ref C)
theorem isinst_ok {x:V}{u t:Value} (I:Inv X pins σ H s) (rx:RelV x u) (ty:TyOf X.K H x t) (e:PySem.W.kitOne X.K t c=some b) (h:∀ tk,Q (.bool b) { s with toks:=tk }) :
    wpAny (model X.prog X.w) A (call (.builtin "isinstance") [u,c]) Q E s:=by
  cases ty with
  | non=>cases (show u=Value.none from rx); exact PySem.W.kia_one PySem.W.kitx_none I.kIn True.intro e (fun z=>nomatch z) h
  | bl y=>cases (show u=Value.bool y from rx); exact PySem.W.kia_one PySem.W.kitx_bool I.kIn True.intro e (fun z=>nomatch z) h
  | int i=>obtain ⟨t,q⟩:=(show ∃ t,u=Value.int i t from rx); cases q; exact PySem.W.kia_one PySem.W.kitx_int I.kIn True.intro e (fun z=>nomatch z) h
  | str y=>obtain ⟨t,q⟩:=(show ∃ t,u=Value.str y t from rx); cases q; exact PySem.W.kia_one PySem.W.kitx_str I.kIn True.intro e (fun z=>nomatch z) h
  | flt y=>obtain ⟨t,q⟩:=(show ∃ t,u=Value.float y t from rx); cases q; exact PySem.W.kia_one PySem.W.kitx_float I.kIn True.intro e (fun z=>nomatch z) h
  | @lst a xs ea=>
    cases (show u=Value.ref a from rx)
    obtain ⟨_,_,n,_,h1⟩:=(show ObjOk X.prog X.w H s.heap a (.lst xs) from I.hok a _ ea)
    exact PySem.W.kia_one PySem.W.kitx_list I.kIn ⟨_,h1,rfl⟩ e (fun z=>nomatch z) h
  | @frz a ob xs ea=>
    cases (show u=Value.ref a from rx)
    obtain ⟨_,_,_,n,_,h1⟩:=(show ObjOk X.prog X.w H s.heap a (.frz ob (.lst xs)) from I.hok a _ ea)
    exact PySem.W.kia_one PySem.W.kitx_list I.kIn ⟨_,h1,rfl⟩ e (fun z=>nomatch z) h
  | @tup a xs ea=>
    cases (show u=Value.ref a from rx)
    obtain ⟨_,_,_,p⟩:=(show ObjOk X.prog X.w H s.heap a (.tup xs) from I.hok a _ ea)
    obtain ⟨o,h1,h2,_⟩:=p
    exact PySem.W.kia_one PySem.W.kitx_tuple I.kIn ⟨o,h1,h2⟩ e (fun z=>nomatch z) h
  | @dK a kvs ea=>
    cases (show u=Value.ref a from rx)
    obtain ⟨_,_,vs,_,p⟩:=(show ObjOk X.prog X.w H s.heap a (.dK kvs) from I.hok a _ ea)
    obtain ⟨o,es,ep,h1,h2,_⟩:=p
    exact PySem.W.kia_one PySem.W.kitx_dict I.kIn ⟨o,h1,h2.1⟩ e (fun z=>nomatch z) h
  | @dT a kvs ea=>
    cases (show u=Value.ref a from rx)
    obtain ⟨_,_,xs,_,o,es,ep,h1,h2,_⟩:=(show ObjOk X.prog X.w H s.heap a (.dT kvs) from I.hok a _ ea)
    exact PySem.W.kia_one PySem.W.kitx_dict I.kIn ⟨o,h1,h2.1⟩ e (fun z=>nomatch z) h
  | @ins a C dx fs ea cl ha hn htk hm=>
    cases (show u=Value.ref a from rx)
    obtain ⟨mA,O,_⟩:=ins_get I.hok ea
    obtain ⟨od,J,_⟩:=O.look
    exact PySem.W.kia_one (PySem.W.kitx_own (cl.get _) cl.hd ha hn htk hm) I.kIn J e (fun z=>nomatch z) h
end
end L2

namespace L2
open PySem PySem.Spec PyProof.Rows

structure Room (k:Nat) (A:Around):Prop where
  hd:A.handled=none
  dp:A.depth+3 * k+5 < recursionLimit
  un:A.units+16 * k+200 < cLine
theorem Room.deeper {k:Nat}{A:Around} (r:Room (k+1) A) (env:Env):Room k (A.deeper env):=
  ⟨r.hd,by have:=r.dp; show A.depth+1+3 * k+5 < _; omega,by have:=r.un; show A.units+3+16 * k+200 < _; omega⟩
theorem Room.depth {k:Nat}{A:Around} (r:Room k A):A.depth < recursionLimit:=by have:=r.dp; omega
theorem Room.units {k:Nat}{A:Around} (r:Room k A):A.units+64 < cLine:=by have:=r.un; omega

noncomputable def tNil:TA:=fun _ H Q=>Q [] H
noncomputable def tCons (ta:TE) (tr:TA):TA:=fun σ H Q=>ta σ H fun x H1=>tr σ H1 fun xs H2=>Q (x :: xs) H2
section
variable {X:Cx}{e:Expr}{es:List Expr}{te:TE}{t:TA}{pos:Pos}
theorem pa_nil:PA X [] tNil:=fun _ _ _ _ H Q I h=>Calls.spliced_nil ⟨[],H,I,.nil,h⟩
theorem pa_cons (ha:PE X e te) (hr:PA X es t) (hs:starEach (e :: es) X.env=(false,eval e X.env) :: starEach es X.env:=by rfl):PA X (e :: es) (tCons te t):=by
  intro pos pins s σ H Q I h
  rw [hs]
  show wpAny _ _ (spliced ((false,eval e X.env) :: backTo pos (starEach es X.env))) _ _ s
  refine Calls.spliced_cons (thn (ha pins s σ H _ I h) fun u s1 ⟨x,H1,I1,r1,q1⟩=>?_)
  exact thn (hr pos pins s1 σ H1 _ I1 q1) fun us s2 ⟨xs,H2,I2,r2,q2⟩=>⟨x :: xs,H2,I2,.cons r1 r2,q2⟩

noncomputable def tTup (t:TA):TE:=fun σ H Q=>t σ H fun xs H1=>xs.length≤sizeLine∧∀ p,H1 p=none→Q (.ref p) (upd H1 p (.tup xs))
noncomputable def tLst (t:TA):TE:=fun σ H Q=>t σ H fun xs H1=>xs.length≤sizeLine∧∀ p,H1 p=none→Q (.ref p) (upd H1 p (.lst xs))
theorem pe_tup {x1} (h:PA X es t):PE X (.Tuple es x1 pos) (tTup t):=by
  intro pins s σ H Q I hq
  refine wpAny_Tuple_spliced (thn (h pos pins s σ H _ I hq) fun us s1 ⟨xs,H1,I1,r,z,q⟩=>⟨by rw [←r.length]; exact z,?_⟩)
  have hf:H1 s1.heap.objs.size=none:=I1.hok.fresh (Nat.le_refl _)
  refine ⟨.ref s1.heap.objs.size,upd H1 s1.heap.objs.size (.tup xs),I1.laid (t':=s1.toks) (fun b u e=>Heap.get?_push_of_some _ e) (Nat.le_refl _) ?_,rfl,q _ hf⟩
  exact ⟨z,us,r,⟨_,Heap.get?_push_size _ rfl,rfl,_,rfl⟩⟩
theorem pe_lst (h:PA X es t):PE X (.List es pos) (tLst t):=by
  intro pins s σ H Q I hq
  refine wpAny_List_spliced (thn (h pos pins s σ H _ I hq) fun us s1 ⟨xs,H1,I1,r,z,q⟩=>⟨by rw [←r.length]; exact z,?_⟩)
  have hf:H1 s1.heap.objs.size=none:=I1.hok.fresh (Nat.le_refl _)
  refine ⟨.ref s1.heap.objs.size,upd H1 s1.heap.objs.size (.lst xs),I1.laid (t':=s1.toks) (fun b u e=>Heap.get?_push_of_some _ e) (Nat.le_refl _) ?_,rfl,q _ hf⟩
  exact ⟨z,us,0,r,Heap.get?_push_size _ rfl⟩
end

noncomputable abbrev Sp:=List V→Hp→VK→XK→Prop
noncomputable abbrev CXT:=List Env→Hp→Shared→XK→Value→Shared→Prop

structure Env0 (P:Program) (w:World) (K:PySem.W.Frag) (mg:Str→Option Value) (base:Heap) (A:Around) (outer:List Env) (s:Shared) (H:Hp):Prop where
  frames:A.frames=some outer
  mod:Mod K mg base
  bs:∀ b o,base.get? b=some o→s.heap.get? b=some o∧H b=none
  bsz:base.objs.size≤s.heap.objs.size
  funs:s.heap.FunFrames base outer
  frf:∀ b∈frs outer,H b=none
  hok:HOk P w H s.heap
  bare:AllBare s.gens
noncomputable def CE (outer:List Env) (P:Program) (w:World) (H:Hp) (s:Shared) (Q:VK) (u:Value) (s':Shared):Prop:=
  ∃ v H',s'.os=s.os∧AllBare s'.gens∧Un (frs outer) [] H H' s.heap s'.heap∧HOk P w H' s'.heap∧RelV v u∧Q v H'
noncomputable def CR (CX:CXT) (outer:List Env) (P:Program) (w:World) (H:Hp) (s:Shared) (Q:VK) (E:XK) (r:Result) (s':Shared):Prop:=
  match r with
  | .ok (.ret u)=>CE outer P w H s Q u s'
  | .ok _=>False
  | .error e=>CX outer H s E e s'
structure FnOk (P:Program) (w:World) (K:PySem.W.Frag) (mg:Str→Option Value) (base:Heap) (CX:CXT) (k:Nat) (f:Addr) (fd:FuncData) (ps:List Str) (sp:Sp):Prop where
  len:∀ vs H Q E,sp vs H Q E→vs.length=ps.length
  run:∀ (A:Around) (outer:List Env) (s:Shared) (H:Hp) (args:Args) (us:List Value) (vs:List V) (Q:VK) (E:XK),Room k A→Env0 P w K mg base A outer s H→BindsTo s fd args (ps.zip us)→Vals vs us→sp vs H Q E→
    codeAny (model P w) A (.call (.ref f) args) (CR CX outer P w H s Q E) s


section
variable {X:Cx}{pins:List (Addr×Obj)}{σ:St}{H:Hp}{s s':Shared}
theorem Inv.env0 (I:Inv X pins σ H s):Env0 X.prog X.w X.K X.mg X.base X.A X.stack s H:=
  ⟨I.ok.frames,I.ok.mod,I.bs,Nat.le_trans I.ok.bsz I.sz,I.stack,I.stkFree,I.hok,I.bare⟩
theorem Inv.after {Q:VK}{u:Value} (I:Inv X pins σ H s) (h:CE X.stack X.prog X.w H s Q u s'):EP X pins σ Q u s':=by
  obtain ⟨v,H',os,bare,un,hok,r,q⟩:=h
  obtain ⟨hh,g,d,t,os'⟩:=s'
  obtain rfl:os'=s.os:=os
  exact ⟨v,H',I.call (h':=hh) (g':=g) (d':=d) (t':=t) (ch:=[]) un hok bare (fun b z=>absurd z (by simp)),r,q⟩
end

noncomputable def tCall (sp:Sp) (dvs:List V) (E:XK) (t:TA):TE:=fun σ H Q=>t σ H fun vs H1=>sp (vs++dvs) H1 Q E

noncomputable def Binds (K:PySem.W.Frag) (fd:FuncData) (ps:List Str) (ds:List Value):Prop:=
  ∀ (s:Shared) (us:List Value),K.In s.heap→(us++ds).length=ps.length→BindsTo s fd ⟨us,[]⟩ (ps.zip (us++ds))
theorem Binds.all {K:PySem.W.Frag}{fd:FuncData}{ps:List Str} (h:∀ us:List Value,us.length=ps.length→bindArgs fd ⟨us,[]⟩=pure (ps.zip us)):Binds K fd ps []:=fun s us _ hl=>by
  rw [List.append_nil] at hl ⊢
  exact .of_eq (h us hl)

noncomputable def Passes (CX:CXT) (X:Cx) (E:XK):Prop:=∀ (pins:List (Addr×Obj)) (σ:St) (H:Hp) (s:Shared) (e:Value) (s':Shared),Inv X pins σ H s→CX X.stack H s E e s'→X.xe e s'

section
variable {X:Cx}{CX:CXT}{k:Nat}{f C:Addr}{fd:FuncData}{ps:List Str}{sp:Sp}{dvs:List V}{ds:List Value}{E:XK}{x m:Str}{p pos apos:Pos}{e o:Expr}{es:List Expr}{ta:TE}{t:TA}

theorem run_fn {pins:List (Addr×Obj)}{σ:St}{H:Hp}{s:Shared}{Q:VK}{us:List Value}{vs:List V} (F:FnOk X.prog X.w X.K X.mg X.base CX k f fd ps sp) (hr:Room k X.A) (hb:Binds X.K fd ps ds) (hd:Vals dvs ds) (hx:Passes CX X E)
    (I:Inv X pins σ H s) (r:Vals vs us) (h:sp (vs++dvs) H Q E):wpAny (model X.prog X.w) X.A (call (.ref f) us) (EP X pins σ Q) X.xe s:=by
  have r2:Vals (vs++dvs) (us++ds):=r.append hd
  have hl:(us++ds).length=ps.length:=by rw [←r2.length]; exact F.len _ _ _ _ h
  refine wpAny_call (codeAny_mono (F.run X.A X.stack s H ⟨us,[]⟩ (us++ds) (vs++dvs) Q E hr I.env0 (hb s us I.kIn hl) r2 h) fun r s' hq=>?_)
  cases r with
  | error e=>exact hx pins σ H s e s' I hq
  | ok fl=>
    cases fl with
    | ret u=>exact I.after hq
    | next=>exact False.elim hq
    | brk=>exact False.elim hq
    | cont=>exact False.elim hq

theorem pe_call (F:FnOk X.prog X.w X.K X.mg X.base CX k f fd ps sp) (hr:Room k X.A) (hg:Gl X x) (hm:X.mg x=some (.ref f)) (hk:PySem.W.keepIn X.K (.ref f)=true) (hb:Binds X.K fd ps ds) (hd:Vals dvs ds) (hx:Passes CX X E)
    (ha:PA X (e :: es) t) (hdb:(x==("__debug__":Str))=false:=by decide) (he:starEach (e :: es) X.env=(false,eval e X.env) :: starEach es X.env:=by rfl) (hpl:(backTo pos (starEach es X.env)).any (·.1)=false:=by rfl) :
    PE X (.Call (.Name x p) (e :: es) [] pos) (tCall sp dvs E t):=by
  intro pins s σ H Q I h
  refine wpAny_Call_Name_kw (ld_glob I hg hm ?_ hdb)
  refine PySem.W.callWith_K (h₀:=X.base) I.ok.mod.kin hk (thn (ha pos pins s σ H _ I h) fun us s1 ⟨vs,H1,I1,r,q⟩=>⟨I1.kIn,?_⟩) he hpl
  exact run_fn F hr hb hd hx I1 r q
theorem pe_call0 (F:FnOk X.prog X.w X.K X.mg X.base CX k f fd ps sp) (hr:Room k X.A) (hg:Gl X x) (hm:X.mg x=some (.ref f)) (hk:PySem.W.keepIn X.K (.ref f)=true) (hb:Binds X.K fd ps ds) (hd:Vals dvs ds) (hx:Passes CX X E)
    (hdb:(x==("__debug__":Str))=false:=by decide):PE X (.Call (.Name x p) [] [] pos) (tCall sp dvs E tNil):=by
  intro pins s σ H Q I h
  refine wpAny_Call_Name_kw (ld_glob I hg hm ?_ hdb)
  exact PySem.W.callWith_K0 I.kIn hk (run_fn (us:=[]) F hr hb hd hx I .nil h)


structure Mk (K:PySem.W.Frag) (C f:Addr):Prop where
  makes:PySem.W.makesIn K C=true
  init:PySem.W.findIn K (.ref C) "__init__"=some (some (.ref f))
  fn:PySem.W.isFn K (.ref f)=true
  kp:PySem.W.keepIn K (.ref C)=true

end

section
variable {X:Cx}{CX:CXT}{k:Nat}{f C:Addr}{fd:FuncData}{ps ks:List Str}{sp:Sp}{E:XK}{x m:Str}{p pos apos kpos:Pos}{e o:Expr}{es:List Expr}{kws:List Keyword}{te ta:TE}{t tk:TA}{nm:Option Str}

structure KBinds (K:PySem.W.Frag) (fd:FuncData) (ps ks:List Str) (g:List Value→List Value→List Value) (gV:List V→List V→List V):Prop where
  to:∀ (s:Shared) (us ws:List Value),K.In s.heap→(g us ws).length=ps.length→BindsTo s fd ⟨us,ks.zip ws⟩ (ps.zip (g us ws))
  rel:∀ {vs:List V}{us:List Value}{zs:List V}{ws:List Value},Vals vs us→Vals zs ws→Vals (gV vs zs) (g us ws)
variable {g:List Value→List Value→List Value}{gV:List V→List V→List V}
end

structure FnScope (N P:List Str) (sc:Scope):Prop where
  kind:sc.kind=.function
  co:sc.isCoroutine=false
  gen:sc.isGenerator=false
  nd:N.Nodup
  pre:N.take P.length=P
  par:∀ x∈P,sc.names.lookup x=some .local∨sc.names.lookup x=some .cell
  nofree:∀ y∈sc.names,y.2≠.free

theorem bindL_out {kindOf:Str→Option NameKind}{x:Str}:∀ {binds:List (Str×Value)}{m:Str→Option Value},(∀ v,(x,v)∉binds)→bindL kindOf binds m x=m x
  | [],_,_=>rfl
  | (n,v) :: r,m,h=>by
    unfold bindL
    rw [bindL_out fun w hw=>h w (List.mem_cons_of_mem _ hw)]
    split
    · have:x≠n:=by rintro rfl; exact h v List.mem_cons_self
      simp [this]
    · rfl
theorem bindC_out {kindOf:Str→Option NameKind}{x:Str}:∀ {binds:List (Str×Value)}{m:Str→Option Value},(∀ v,(x,v)∉binds)→bindC kindOf binds m x=m x
  | [],_,_=>rfl
  | (n,v) :: r,m,h=>by
    unfold bindC
    rw [bindC_out fun w hw=>h w (List.mem_cons_of_mem _ hw)]
    split
    · rfl
    · have:x≠n:=by rintro rfl; exact h v List.mem_cons_self
      simp [this]
theorem bindL_get {kindOf:Str→Option NameKind}{x:Str}{v:Value}:∀ {P:List Str}{vs:List Value}{i:Nat}{m:Str→Option Value},P.Nodup→P[i]?=some x→vs[i]?=some v→kindOf x=some .local→
    bindL kindOf (P.zip vs) m x=some v
  | [],_,_,_,_,h,_,_=>by simp at h
  | _ :: _,[],_,_,_,_,h,_=>by simp at h
  | p :: P,w :: vs,0,m,nd,h1,h2,hk=>by
    simp at h1 h2; subst h1; subst h2
    show bindL kindOf ((p,w) :: P.zip vs) m p=_
    unfold bindL
    rw [bindL_out fun v hv=>(List.nodup_cons.mp nd).1 (List.of_mem_zip hv).1,if_pos hk]
    simp
  | p :: P,w :: vs,i+1,m,nd,h1,h2,hk=>by
    show bindL kindOf ((p,w) :: P.zip vs) m x=_
    unfold bindL
    exact bindL_get (i:=i) (List.nodup_cons.mp nd).2 (by simpa using h1) (by simpa using h2) hk
theorem bindC_get {kindOf:Str→Option NameKind}{x:Str}{v:Value}:∀ {P:List Str}{vs:List Value}{i:Nat}{m:Str→Option Value},P.Nodup→P[i]?=some x→vs[i]?=some v→kindOf x≠some .local→
    bindC kindOf (P.zip vs) m x=some v
  | [],_,_,_,_,h,_,_=>by simp at h
  | _ :: _,[],_,_,_,_,h,_=>by simp at h
  | p :: P,w :: vs,0,m,nd,h1,h2,hk=>by
    simp at h1 h2; subst h1; subst h2
    show bindC kindOf ((p,w) :: P.zip vs) m p=_
    unfold bindC
    rw [bindC_out fun v hv=>(List.nodup_cons.mp nd).1 (List.of_mem_zip hv).1,if_neg hk]
    simp
  | p :: P,w :: vs,i+1,m,nd,h1,h2,hk=>by
    show bindC kindOf ((p,w) :: P.zip vs) m x=_
    unfold bindC
    exact bindC_get (i:=i) (List.nodup_cons.mp nd).2 (by simpa using h1) (by simpa using h2) hk

noncomputable def start (N:List Str) (vs:List V):St:=vs.map some++List.replicate (N.length - vs.length) none

noncomputable def cxOf (CX:CXT) (P:Program) (w:World) (K:PySem.W.Frag) (mg:Str→Option Value) (base:Heap) (N:List Str) (qual:Str) (scope:Scope) (f:Addr) (cd:Value) (A:Around) (outer:List Env) (s:Shared) (H:Hp) (E:XK):Cx where
  prog:=P
  w:=w
  K:=K
  mg:=mg
  base:=base
  A:=A.deeper (envOfC qual scope s.heap.objs.size f cd)
  N:=N
  s₀:=s
  H₀:=H
  env:=envOfC qual scope s.heap.objs.size f cd
  outer:=outer
  stack:=envOfC qual scope s.heap.objs.size f cd :: outer
  ex:=[]
  calm:=true
  fn:=fun _=>true
  pn:=[]
  xe:=fun e s'=>wpAny (model P w) (A.deeper (envOfC qual scope s.heap.objs.size f cd)) (leaving (envOfC qual scope s.heap.objs.size f cd) e) (fun _ s''=>CX outer H s E e s'') (fun e' s''=>CX outer H s E e' s'') s'

theorem cell_has {sc:Scope}{n:Nat}{x:Str} (h:sc.names.lookup x=some .cell):∃ c,(cellsFrom n sc.names []).lookup x=some c:=by
  have q:=PySem.W.cellsFrom_some sc.names n [] (.inl h)
  exact Option.isSome_iff_exists.mp q

theorem inv_start {CX:CXT}{P:Program}{w:World}{K:PySem.W.Frag}{mg:Str→Option Value}{base:Heap}{N ps:List Str}{qual:Str}{scope:Scope}{f:Addr}{cd:Value}{A:Around}{outer:List Env}{s s1:Shared}{H:Hp}{E:XK}{us:List Value}{vs:List V}
    (S:FnScope N ps scope) (hd:A.handled=none) (e0:Env0 P w K mg base A outer s H) (hl:vs.length=ps.length) (r:Vals vs us)
    (x:InCallC s s.heap.objs.size (bindL (envOfC qual scope s.heap.objs.size f cd).kindOf (ps.zip us) fun _=>none) (cellsFrom (s.heap.objs.size+1) scope.names []) (bindC (envOfC qual scope s.heap.objs.size f cd).kindOf (ps.zip us) fun _=>none) s1) :
    Inv (cxOf CX P w K mg base N qual scope f cd A outer s H E) [] (start N vs) H s1:=by
  have hpl:ps.length≤N.length:=by have:=congrArg List.length S.pre; rw [List.length_take] at this; omega
  obtain ⟨h1,tk,rfl,hk⟩:=x.done
  have noA:∀ b:Addr,b∉(cxOf CX P w K mg base N qual scope f cd A outer s H E).ex:=fun b z=>absurd (show b∈([]:List Addr) from z) (by simp)
  refine ⟨⟨e0.mod,S.kind,rfl,rfl,Nat.le_refl _,fun y z c h1 h2=>?_,fun y hy=>?_,fun y c _ h=>?_,fun _=>hd,Around.frames_deeper e0.frames,.inr ⟨rfl,rfl⟩,fun b z=>absurd z (noA b),e0.bs,e0.bsz,fun b _ _=>noA b,fun b z=>absurd z (noA b),e0.funs,e0.frf⟩,
    rfl,e0.bare,Un.kept hk,⟨_,x.toInCall.ns,fun i y v h1 h2 h3=>?_⟩,fun y c h=>⟨_,x.cell y c h⟩,e0.hok.fresh (Nat.le_refl _),fun y c h=>?_,fun p hp=>absurd (show p∈([]:List (Addr×Obj)) from hp) (by simp),e0.hok.kept hk,?_⟩
  · exact name_of_addr x.apart (PySem.mem_of_lookup h1) (PySem.mem_of_lookup h2)
  · have hy:scope.names.lookup y=some .cell∨scope.names.lookup y=some .free:=hy
    rcases hy with hy | hy
    · exact cell_has hy
    · exact absurd rfl (S.nofree _ (PySem.mem_of_lookup hy))
  · exact Nat.le_of_lt (x.above y c (PySem.mem_of_lookup h))
  · have hi:i < vs.length:=by
      unfold start at h2
      by_cases hi:i < vs.length
      · exact hi
      · rw [List.getElem?_append_right (by simpa using hi)] at h2
        rw [List.getElem?_replicate] at h2
        split at h2<;>cases h2
    have ha:vs[i]?=some v:=by
      unfold start at h2
      rw [List.getElem?_append_left (by simpa using hi),List.getElem?_map] at h2
      cases e:vs[i]? with
      | none=>rw [e] at h2; cases h2
      | some a=>rw [e] at h2; cases h2; rfl
    obtain ⟨u,hu,rv⟩:=r.get ha
    have hp:ps[i]?=some y:=by
      rw [←S.pre,List.getElem?_take_of_lt (by omega)]; exact h1
    have ndP:ps.Nodup:=by rw [←S.pre]; exact S.nd.sublist (List.take_sublist _ _)
    refine ⟨u,rv,?_⟩
    rcases S.par y (List.mem_of_getElem? hp) with k | k
    · exact .inl ⟨k,bindL_get ndP hp hu k⟩
    · obtain ⟨c,e⟩:=cell_has (n:=s.heap.objs.size+1) k
      refine .inr ⟨.inl k,c,e,?_⟩
      have q:=x.cell y c e
      rw [bindC_get ndP hp hu (by show scope.names.lookup y≠_; rw [k]; decide)] at q
      exact q
  · exact e0.hok.fresh (Nat.le_of_lt (x.above y c (PySem.mem_of_lookup h)))
  · unfold start
    show _=N.length
    rw [List.length_append,List.length_map,List.length_replicate]
    omega

theorem fn_of {CX:CXT}{P:Program}{w:World}{K:PySem.W.Frag}{mg:Str→Option Value}{base:Heap}{k:Nat}{f:Addr}{name qual:Str}{params:Arguments}{body:List Stmt}{scope:Scope}{dV kV doc pm cdv ct oc:Value}{an od:Option Addr}
    {osl:Array (Option Value)}{N ps:List Str}{sp:Sp} (lk:K.lookup f=some ⟨oc,od,.func (PySem.W.fnOf name qual params body scope dV kV doc pm an cdv ct),osl⟩) (hcd:PySem.W.codeIn K cdv qual=true) (S:FnScope N ps scope)
    (len:∀ vs H Q E,sp vs H Q E→vs.length=ps.length)
    (hbody:∀ (A:Around) (outer:List Env) (s:Shared) (H:Hp) (vs:List V) (Q:VK) (E:XK),Room k (A.deeper (envOfC qual scope s.heap.objs.size f cdv))→sp vs H Q E→
      ∃ t,PSs (cxOf CX P w K mg base N qual scope f cdv A outer s H E) body t∧t { nx:=fun _ H'=>Q .non H',rt:=Q } (start N vs) H) :
    FnOk P w K mg base CX (k+1) f (PySem.W.fnOf name qual params body scope dV kV doc pm an cdv ct) ps sp:=by
  refine ⟨len,fun A outer s H args us vs Q E hr e0 hb r hsp=>?_⟩
  have hl:=len _ _ _ _ hsp
  have KX:K.In s.heap:=e0.mod.kin.keeps fun b o e=>(e0.bs b o e).1
  have lim:s.heap.NoLimit:=e0.mod.nolimit.keeps fun b o e=>(e0.bs b o e).1
  have hkind:∀ y∈ps.zip us,scope.names.lookup y.1=some .local∨(scope.names.lookup y.1=some .cell∧((cellsFrom (s.heap.objs.size+1) scope.names []).lookup y.1).isSome=true):=fun ⟨n,v⟩ hy=>by
    rcases S.par n (List.of_mem_zip hy).1 with q | q
    · exact .inl q
    · exact .inr ⟨q,PySem.W.cellsFrom_some _ _ _ (.inl q)⟩
  refine codeAny_call_function hr.depth (KX _ _ lk) rfl S.co S.gen rfl (PySem.W.codeRec_of KX hcd) (hb _ _ _ _ ?_)
  refine wpAny_newFunctionEnv_cells S.kind hkind fun env he s1 x=>?_
  subst he
  refine ⟨lim.keeps x.toInCall.keep,codeAny_func ?_⟩
  obtain ⟨t,ht,hq⟩:=hbody A outer s H vs Q E (hr.deeper _) hsp
  have I:Inv (cxOf CX P w K mg base N qual scope f cdv A outer s H E) [] (start N vs) H s1:=inv_start S hr.hd e0 hl r x
  refine wpAny_mono (ht [] s1 (start N vs) H _ I hq) (fun fl s' hs=>?_) fun e s' hs=>hs
  have fin:∀ {σ':St}{H':Hp}{v:V}{u:Value},Inv (cxOf CX P w K mg base N qual scope f cdv A outer s H E) [] σ' H' s'→RelV v u→Q v H'→CE outer P w H s Q u s':=
    fun {σ' H' v u} J rv q=>⟨v,H',J.os,J.bare,J.base,J.hok,rv,q⟩
  cases fl with
  | ret u=>
    obtain ⟨v,σ',H',J,rv,q⟩:=hs
    exact fin J rv q
  | next=>
    obtain ⟨σ',H',J,q⟩:=hs
    exact fin (v:=V.non) (u:=Value.none) J rfl q
  | brk=>
    obtain ⟨_,_,_,q⟩:=hs
    exact False.elim q
  | cont=>
    obtain ⟨_,_,_,q⟩:=hs
    exact False.elim q
end L2

namespace L2
open PySem PySem.Spec PyProof.Rows
section
variable {X:Cx}{x:Str}{p pos:Pos}{e:Expr}{es:List Expr}{t:TA}{id T:String}{r:List V→Hp→VK→Prop}

noncomputable def tCB (r:List V→Hp→VK→Prop) (t:TA):TE:=fun σ H Q=>t σ H fun vs H1=>r vs H1 Q
theorem pe_callB (hc:CallR X (.builtin id) r) (hg:Gl X x) (hm:X.mg x=none) (hv:bootBuiltins x=some (.builtin id)) (ha:PA X (e :: es) t) (hn:x ≠ "__name__":=by decide) (hdb:(x==("__debug__":Str))=false:=by decide)
    (he:starEach (e :: es) X.env=(false,eval e X.env) :: starEach es X.env:=by rfl) (hpl:(backTo pos (starEach es X.env)).any (·.1)=false:=by rfl):PE X (.Call (.Name x p) (e :: es) [] pos) (tCB r t):=by
  intro pins s σ H Q I h
  refine wpAny_Call_Name_kw (ld_blt I hg hm hv ?_ hn hdb)
  exact PyProof.Rows.callWith_builtin1 (thn (ha pos pins s σ H _ I h) fun us s1 ⟨vs,H1,I1,r1,q1⟩=>hc pins s1 σ H1 vs us Q I1 r1 q1) he hpl
theorem pe_callTy (hc:CallR X (.type T) r) (hg:Gl X x) (hm:X.mg x=none) (hv:bootBuiltins x=some (.type T)) (ha:PA X (e :: es) t) (hn:x ≠ "__name__":=by decide) (hdb:(x==("__debug__":Str))=false:=by decide)
    (he:starEach (e :: es) X.env=(false,eval e X.env) :: starEach es X.env:=by rfl) (hpl:(backTo pos (starEach es X.env)).any (·.1)=false:=by rfl):PE X (.Call (.Name x p) (e :: es) [] pos) (tCB r t):=by
  intro pins s σ H Q I h
  refine wpAny_Call_Name_kw (ld_blt I hg hm hv ?_ hn hdb)
  exact PyProof.Rows.callWith_type1 (thn (ha pos pins s σ H _ I h) fun us s1 ⟨vs,H1,I1,r1,q1⟩=>hc pins s1 σ H1 vs us Q I1 r1 q1) he hpl
end
end L2

namespace HT
open PySem PyProof.Rows



section
open PySem.SeqAt
open PySem.AutoSeq1 (wpAny_loadPart')
open PySem.MeetsSeq PySem.MeetsSeq2 PySem.MeetsSeq3

end

section
variable {prog:Program}{w:World}{A:Around}{E:Value→Shared→Prop}{s:Shared}


theorem cat_tup {t b:Addr}{vs ws:List Value}{Q:Value→Shared→Prop} (ht:IsTup s.heap t vs.toArray) (hb:IsTup s.heap b ws.toArray) (hv:vs≠[])
    (h1:ws=[]→Q (.ref t) s) (h2:ws≠[]→Q (.ref s.heap.objs.size) { s with heap:=s.heap.push { cls:=.type "tuple",data:=.seq (vs++ws).toArray } })
    (hsz:vs.length+ws.length≤sizeLine):wpAny (model prog w) A (binaryOp .Add (.ref t) (.ref b)) Q E s:=by
  obtain ⟨⟨cls,dd,data,sl⟩,ho,hc,n,hd⟩:=id ht
  obtain ⟨⟨cls2,dd2,data2,sl2⟩,ho2,hc2,n2,hd2⟩:=id hb
  simp only at hc hd hc2 hd2
  subst hc hd hc2 hd2
  have e:vs.toArray++ws.toArray=(vs++ws).toArray:=by simp
  by_cases hw:ws=[]
  · exact concat_meets ⟨_,ho,rfl⟩ ⟨_,ho2,rfl⟩ noFill_tuple_add seq_tuple_add PySem.F.slot_tuple_add PySem.F.entry_tuple_add (PySem.F.args_tuple_add_2 _ _)
      (tuple_addW1 t b vs.toArray ws.toArray n n2 dd dd2 sl sl2 (by simpa using hv) (by simp [hw])) ⟨ho,ho2,h1 hw⟩
  · refine concat_meets ⟨_,ho,rfl⟩ ⟨_,ho2,rfl⟩ noFill_tuple_add seq_tuple_add PySem.F.slot_tuple_add PySem.F.entry_tuple_add (PySem.F.args_tuple_add_2 _ _)
      (tuple_addW2 t b vs.toArray ws.toArray n n2 dd dd2 sl sl2 (by simpa using hv) (by simpa using hw) (by rw [List.size_toArray,List.size_toArray]; exact hsz)) ⟨ho,ho2,?_⟩
    rw [e]
    exact h2 hw

noncomputable def sIx (n d:Nat):Option Int→Nat
  | none=>d
  | some v=>if v < 0 then (v+(n:Int)).toNat else min v.toNat n
theorem sIx_le (n d:Nat) (hd:d≤n) (o:Option Int):sIx n d o≤n:=by
  cases o with
  | none=>exact hd
  | some v=>
    show (if v < 0 then (v+(n:Int)).toNat else min v.toNat n)≤n
    by_cases hv:v < 0
    · rw [if_pos hv]; omega
    · rw [if_neg hv]; exact Nat.min_le_right _ _
theorem clip_eq (v:Int) (n d:Nat):(if v < 0 then max (v+(n:Int)) 0 else min v (n:Int))=((sIx n d (some v):Nat):Int):=by
  show (if v < 0 then max (v+(n:Int)) 0 else min v (n:Int))=(((if v < 0 then (v+(n:Int)).toNat else min v.toNat n):Nat):Int)
  by_cases hv:v < 0
  · simp only [if_pos hv]; omega
  · simp only [if_neg hv]; omega
theorem adjust_gen (lo hi:Option Int) (n:Nat):Builtin.Slice.sliceAdjust lo hi 1 (n:Int)=(((sIx n 0 lo:Nat):Int),((sIx n n hi:Nat):Int)):=by
  have h1:¬((1:Int) < 0):=by omega
  unfold Builtin.Slice.sliceAdjust
  simp only [h1,if_false]
  refine Prod.ext ?_ ?_
  · cases lo with
    | none=>rfl
    | some v=>exact clip_eq v n 0
  · cases hi with
    | none=>rfl
    | some v=>exact clip_eq v n n
theorem places_gen (i j:Nat):Builtin.Slice.slicePlaces (i:Int) (j:Int) 1=j - i:=by
  unfold Builtin.Slice.slicePlaces
  have h1:(1:Int) > 0:=by omega
  simp only [h1,if_true,Int.ediv_one]
  split<;>omega
theorem slicePart_ {v:Value}{o:Option Int}{Q:Option Int→Shared→Prop} (p:IsPart v o) (h:Q o s):wpAny (model prog w) A (Builtin.Slice.slicePartIndex v) Q E s:=by
  cases p with
  | none=>exact slicePart_none h
  | int i t=>exact slicePart_int h
theorem sliceApplied_gen {sl:Addr}{vl vu:Value}{lo hi:Option Int}{n:Nat}{Q:Int×Int×Nat→Shared→Prop} (hs:s.heap.IsSliceOf sl vl vu .none) (pl:IsPart vl lo) (pu:IsPart vu hi)
    (h:Q (((sIx n 0 lo:Nat):Int),1,sIx n n hi - sIx n 0 lo) s):wpAny (model prog w) A (Builtin.Slice.sliceApplied (.ref sl) (pure (n:Int))) Q E s:=by
  obtain ⟨os,hos,hcs,hds⟩:=id hs
  unfold Builtin.Slice.sliceApplied Builtin.Slice.sliceFields
  refine wpAny_bind (wpAny_bind (wpAny_field hos hds (x:=vl) rfl (wpAny_bind (wpAny_field hos hds (x:=vu) rfl (wpAny_bind (wpAny_field hos hds (x:=.none) rfl (wpAny_pure ?_)))))))
  refine wpAny_bind (slicePart_none ?_)
  show wpAny _ _ (if ((1:Int)==0)=true then _ else _) _ _ s
  rw [if_neg (by decide)]
  refine wpAny_bind (slicePart_ pl (wpAny_bind (slicePart_ pu (wpAny_bind (wpAny_pure ?_)))))
  show wpAny _ _ (match Builtin.Slice.sliceAdjust lo hi 1 (n:Int) with | (lo,hi)=>pure (lo,(1:Int),Builtin.Slice.slicePlaces lo hi 1)) _ _ s
  rw [adjust_gen lo hi n]
  show wpAny _ _ (pure (((sIx n 0 lo:Nat):Int),(1:Int),Builtin.Slice.slicePlaces ((sIx n 0 lo:Nat):Int) ((sIx n n hi:Nat):Int) 1)) _ _ s
  rw [places_gen]
  exact wpAny_pure h
theorem pick_gen (xs:Array Value) (i k:Nat):((List.range k).filterMap fun (m:Nat)=>xs[((i:Int)+(m:Int) * 1).toNat]?).toArray=((xs.toList.drop i).take k).toArray:=by
  have e:(fun (m:Nat)=>xs[((i:Int)+(m:Int) * 1).toNat]?)=fun m=>xs[i+m]?:=by
    funext m
    have:((i:Int)+(m:Int) * 1).toNat=i+m:=by omega
    rw [this]
  rw [e]
  have:=pick_run xs i k
  rw [List.filterMap_map] at this
  have e2:((fun x=>xs[x]?) ∘ fun x=>i+x)=fun m=>xs[i+m]?:=rfl
  rw [e2] at this
  rw [this]

theorem getItem_tuple_cut {t sl:Addr}{items:Array Value}{vl vu:Value}{lo hi:Option Int}{Q:Value→Shared→Prop} (ht:IsTup s.heap t items) (hs:s.heap.IsSliceOf sl vl vu .none) (pl:IsPart vl lo) (pu:IsPart vu hi)
    (hw:¬(sIx items.size 0 lo=0∧sIx items.size items.size hi=items.size))
    (h:Q (.ref s.heap.objs.size) { s with heap:=s.heap.push { cls:=.type "tuple",data:=.seq ((items.toList.drop (sIx items.size 0 lo)).take (sIx items.size items.size hi - sIx items.size 0 lo)).toArray } })
    (hsz:items.size≤sizeLine):wpAny (model prog w) A (getItem (.ref t) (.ref sl)) Q E s:=by
  have htake:sizeOk (.seq ((items.toList.drop (sIx items.size 0 lo)).take (sIx items.size items.size hi - sIx items.size 0 lo)).toArray):=by
    show ((items.toList.drop (sIx items.size 0 lo)).take (sIx items.size items.size hi - sIx items.size 0 lo)).toArray.size≤sizeLine
    rw [List.size_toArray,List.length_take,List.length_drop,Array.length_toList]
    omega
  have hj:sIx items.size items.size hi≤items.size:=sIx_le _ _ (Nat.le_refl _) hi
  obtain ⟨os,hos,hcs,hds⟩:=id hs
  have hTs:s.TypeIs (.ref sl) "slice":=⟨os,hos,hcs⟩
  unfold getItem
  try with_reducible refine wpAny_holding ?_
  first | refine wpAny_bind (wpAny_pure ?_) | skip
  refine wpAny_bind (wpAny_sequenceKey ht.typeIs (by decide) ?_)
  refine wpAny_bind (wpAny_callSpecial?_slot (name:=Str.ofString "__getitem__") ht.typeIs PyProof.Rows.slot_tuple_getitem
    (wpAny_call_entry PyProof.Rows.slot_tuple_getitem ht.typeIs entry_tuple_getitem ?_ (args_tuple_getitem _ _)))
  show wpAny _ _ (Builtin.Tuple.tupleItemsOf (.ref t) >>= _) _ _ s
  refine wpAny_bind (tupleItemsOf_ ht ?_)
  refine wpAny_bind (wpAny_typeOf hTs ?_)
  rw [if_pos (by decide)]
  refine wpAny_bind (sliceApplied_gen hs pl pu ?_)
  have hno:¬((((sIx items.size 0 lo:Nat):Int)==0&&(1:Int)==1&&(sIx items.size items.size hi - sIx items.size 0 lo)==items.size)=true):=by
    intro q
    rw [Bool.and_eq_true,Bool.and_eq_true] at q
    have q1:((sIx items.size 0 lo:Nat):Int)=0:=eq_of_beq q.1.1
    have q2:sIx items.size items.size hi - sIx items.size 0 lo=items.size:=eq_of_beq q.2
    exact hw ⟨by omega,by omega⟩
  show wpAny _ _ (if (((sIx items.size 0 lo:Nat):Int)==0&&(1:Int)==1&&(sIx items.size items.size hi - sIx items.size 0 lo)==items.size)=true then _ else _) _ _ s
  rw [if_neg hno,pick_gen]
  first
    | exact wpAny_bind (m:=Builtin.Tuple.tupleExact _) (wpAny_newObj_type (wpAny_pure ⟨_,rfl,wpAny_pure h⟩) htake)
    | exact wpAny_bind (m:=Builtin.Tuple.tupleExact _) (wpAny_newObj_type (wpAny_bind (wpAny_pure (wpAny_pure ⟨_,rfl,wpAny_pure h⟩))) htake)
    | exact wpAny_bind (wpAny_bind (m:=Builtin.Tuple.tupleExact _) (wpAny_newObj_type (wpAny_pure (wpAny_pure ⟨_,rfl,wpAny_pure h⟩)) htake))
    | exact wpAny_bind (wpAny_bind (m:=Builtin.Tuple.tupleExact _) (wpAny_newObj_type (wpAny_pure ⟨_,rfl,wpAny_pure h⟩) htake))
end
end HT

namespace L2
open PySem PySem.Spec PyProof.Rows

noncomputable abbrev TO:=St→Hp→(Option Int→Hp→Prop)→Prop
noncomputable def PO (X:Cx) (e:Option Expr) (t:TO):Prop:=
  ∀ (pins:List (Addr×Obj)) (s:Shared) (σ:St) (H:Hp) (Q:Option Int→Hp→Prop),Inv X pins σ H s→t σ H Q→
    wpAny (model X.prog X.w) X.A (evalPart e X.env) (fun u s'=>∃ o H',Inv X pins σ H' s'∧IsPart u o∧Q o H') X.xe s
noncomputable def tNoPart:TO:=fun _ H Q=>Q none H
noncomputable def tPart (t:TE):TO:=fun σ H Q=>t σ H fun x H1=>∃ i,x=.int i∧Q (some i) H1


section
variable {X:Cx}{e:Expr}{te:TE}{lo hi:Option Expr}{tl th:TO}{pos p2:Pos}

theorem po_none:PO X none tNoPart:=by
  intro pins s σ H Q I h
  rw [evalPart_none]
  exact wpAny_pure ⟨none,H,I,.none,h⟩
theorem po_some (h:PE X e te):PO X (some e) (tPart te):=by
  intro pins s σ H Q I hw
  rw [evalPart_some]
  refine thn (h pins s σ H _ I hw) fun u s1 ⟨x,H1,I1,r1,q1⟩=>?_
  obtain ⟨i,rfl,q⟩:=q1
  obtain ⟨t,rfl⟩:=r1
  exact ⟨some i,H1,I1,.int i t,q⟩

noncomputable def SlR (X:Cx) (r:V→Option Int→Option Int→Hp→VK→Prop):Prop:=
  ∀ (pins:List (Addr×Obj)) (s:Shared) (σ:St) (H:Hp) (x:V) (v vl vu:Value) (lo hi:Option Int) (sl:Addr) (Q:VK),Inv X pins σ H s→RelV x v→s.heap.IsSliceOf sl vl vu .none→IsPart vl lo→IsPart vu hi→r x lo hi H Q→
    ∃ T id,typeLookup (.type T) "__getitem__"=pure (some (.builtin id))∧s.TypeIs v T∧wpAny (model X.prog X.w) X.A (getItem v (.ref sl)) (EP X pins σ Q) X.xe s
noncomputable def tSl (r:V→Option Int→Option Int→Hp→VK→Prop) (te:TE) (tl th:TO):TE:=fun σ H Q=>te σ H fun x H1=>tl σ H1 fun l H2=>th σ H2 fun u H3=>r x l u H3 Q
theorem pe_slice {r:V→Option Int→Option Int→Hp→VK→Prop} (hr:SlR X r) (he:PE X e te) (hl:PO X lo tl) (hu:PO X hi th):PE X (.Subscript e (.Slice lo hi none p2) pos) (tSl r te tl th):=by
  intro pins s σ H Q I h
  refine Subscript_ (thn (he pins s σ H _ I h) fun v s1 ⟨x,H1,I1,r1,q1⟩=>?_)
  refine wpAny_Slice (thn (hl pins s1 σ H1 _ I1 q1) fun vl s2 ⟨l,H2,I2,pl,q2⟩=>thn (hu pins s2 σ H2 _ I2 q2) fun vu s3 ⟨u,H3,I3,pu,q3⟩=>?_)
  rw [evalPart_none]
  refine wpAny_pure ?_
  have I4:Inv X pins σ H3 { s3 with heap:=s3.heap.push { cls:=.type "slice",data:=.fields #[vl,vu,.none] } }:=I3.kept (t':=s3.toks) fun b ob q=>Heap.get?_push_of_some _ q
  obtain ⟨T,id,hT,ht,hg⟩:=hr pins { s3 with heap:=s3.heap.push { cls:=.type "slice",data:=.fields #[vl,vu,.none] } } σ H3 x v vl vu l u s3.heap.objs.size Q I4 r1 (Heap.IsSliceOf.new ..) pl pu q3
  show wpAny (model X.prog X.w) X.A (subscriptTail e (.Slice lo hi none p2) v (.ref s3.heap.objs.size)) (EP X pins σ Q) X.xe { s3 with heap:=s3.heap.push { cls:=.type "slice",data:=.fields #[vl,vu,.none] } }
  exact tail_any (ops:=[.ref s3.heap.objs.size,v]) ht hT hg (by with_unfolding_all rfl)

noncomputable def cutV (xs:List V) (lo hi:Option Int):List V:=(xs.drop (HT.sIx xs.length 0 lo)).take (HT.sIx xs.length xs.length hi - HT.sIx xs.length 0 lo)
theorem cutV_length (xs:List V) (lo hi:Option Int):(cutV xs lo hi).length≤xs.length:=by
  unfold cutV
  rw [List.length_take,List.length_drop]
  omega
noncomputable def rSlT (K:PySem.W.Frag):V→Option Int→Option Int→Hp→VK→Prop:=fun x lo hi H Q=>∃ a xs,x=.ref a∧SqT K H a xs ∧
  ¬(HT.sIx xs.length 0 lo=0∧HT.sIx xs.length xs.length hi=xs.length)∧∀ p,H p=none→Q (.ref p) (upd H p (.tup (cutV xs lo hi)))
theorem sl_tup:SlR X (rSlT X.K):=by
  intro pins s σ H x v vl vu lo hi sl Q I rx hs pl pu h
  obtain ⟨a,xs,rfl,hx,hw,q⟩:=h
  cases rx
  obtain ⟨its,r,ht,hz⟩:=I.tuple hx
  have hlen:its.toArray.size=xs.length:=by rw [List.size_toArray]; exact r.length.symm
  refine ⟨"tuple",_,PyProof.Rows.slot_tuple_getitem.lookup,ht.typeIs,?_⟩
  refine HT.getItem_tuple_cut ht hs pl pu (by rw [hlen]; exact hw) ?_ (by rw [hlen]; exact hz)
  rw [hlen]
  refine ⟨.ref s.heap.objs.size,_,I.laid (t':=s.toks) (o:=.tup (cutV xs lo hi)) (fun b ob q=>Heap.get?_push_of_some _ q) (Nat.le_refl _) ?_,rfl,q _ (I.hok.fresh (Nat.le_refl _))⟩
  exact ⟨Nat.le_trans (cutV_length xs lo hi) hz,_,(r.drop (HT.sIx xs.length 0 lo)).take (HT.sIx xs.length xs.length hi - HT.sIx xs.length 0 lo),IsTup.new _ _⟩

noncomputable def rCatT (K:PySem.W.Frag):R2:=fun x y H Q=>∃ a b xs ys,x=.ref a∧y=.ref b∧SqT K H a xs∧SqT K H b ys∧xs≠[]∧xs.length+ys.length≤sizeLine ∧
  (ys=[]→Q (.ref a) H)∧(ys≠[]→∀ p,H p=none→Q (.ref p) (upd H p (.tup (xs++ys))))
theorem Vals.nil_iff {xs:List V}{us:List Value} (r:Vals xs us):us=[]↔xs=[]:=by
  cases r with
  | nil=>simp
  | cons _ _=>simp
theorem op_catT:OpR X (binaryOp .Add) (rCatT X.K):=by
  intro pins s σ H x y v u Q I rx ry h
  obtain ⟨a,b,xs,ys,rfl,rfl,ha,hb,hx,hz,q1,q2⟩:=h
  cases rx
  cases ry
  obtain ⟨its,r1,p1,_⟩:=I.tuple ha
  obtain ⟨its2,r2,p2,_⟩:=I.tuple hb
  refine HT.cat_tup p1 p2 (fun z=>hx (r1.nil_iff.mp z)) (fun z=>⟨.ref a,H,I,rfl,q1 (r2.nil_iff.mp z)⟩) (fun z=>?_) (by rw [←r1.length,←r2.length]; exact hz)
  refine ⟨.ref s.heap.objs.size,_,I.laid (t':=s.toks) (o:=.tup (xs++ys)) (fun b ob q=>Heap.get?_push_of_some _ q) (Nat.le_refl _) ?_,rfl,q2 (fun w=>z (r2.nil_iff.mpr w)) _ (I.hok.fresh (Nat.le_refl _))⟩
  exact ⟨by rw [List.length_append]; exact hz,_,r1.append r2,IsTup.new _ _⟩
end
end L2

namespace L2
open PySem PySem.Spec PyProof.Rows

noncomputable def ixN (n:Nat) (i:Int):Option Nat:=if 0≤i then (if i < n then some i.toNat else none) else if -(n:Int)≤i then some (i+n).toNat else none
noncomputable def atI {α:Type} (xs:List α) (i:Int):Option α:=(ixN xs.length i).bind fun j=>xs[j]?
theorem ixN_seq {n:Nat}{i:Int}{j:Nat} (h:ixN n i=some j):seqIndex? i n=some j∧j < n∧-(n:Int)≤i∧i < n:=by
  unfold ixN at h
  by_cases h0:0≤i
  · rw [if_pos h0] at h
    by_cases h1:i < n
    · rw [if_pos h1] at h
      have e:i.toNat=j:=Option.some.inj h
      exact ⟨by rw [seqIndex_of h0 h1,e],by omega,by omega,h1⟩
    · rw [if_neg h1] at h; cases h
  · rw [if_neg h0] at h
    by_cases h1:-(n:Int)≤i
    · rw [if_pos h1] at h
      have e:(i+n).toNat=j:=Option.some.inj h
      exact ⟨by rw [seqIndex_neg (by omega) h1,e],by omega,h1,by omega⟩
    · rw [if_neg h1] at h; cases h
theorem atI_get {α:Type}{xs:List α}{i:Int}{v:α} (h:atI xs i=some v):∃ j,seqIndex? i xs.length=some j∧xs[j]?=some v∧j < xs.length∧-(xs.length:Int)≤i∧i < xs.length:=by
  unfold atI at h
  cases e:ixN xs.length i with
  | none=>rw [e] at h; cases h
  | some j=>
    rw [e] at h
    obtain ⟨h1,h2,h3,h4⟩:=ixN_seq e
    exact ⟨j,h1,h,h2,h3,h4⟩

noncomputable def PlainIx (b:Expr):Prop:=∀ o i,subscripted b false o i=operate [o,i] (getItem o i)
noncomputable def IxR (X:Cx) (r:R2):Prop:=
  ∀ (value slice:Expr) (pins:List (Addr×Obj)) (s:Shared) (σ:St) (H:Hp) (x y:V) (v u:Value) (Q:VK),Inv X pins σ H s→RelV x v→RelV y u→r x y H Q→
    subscripted slice false v u=operate [v,u] (getItem v u)→wpAny (model X.prog X.w) X.A (subscriptTail value slice v u) (EP X pins σ Q) X.xe s
noncomputable def MtR (X:Cx) (id:String) (r:V→List V→Hp→VK→Prop):Prop:=
  ∀ (pins:List (Addr×Obj)) (s:Shared) (σ:St) (H:Hp) (x:V) (xs:List V) (v:Value) (us:List Value) (Q:VK),Inv X pins σ H s→RelV x v→Vals xs us→r x xs H Q→
    wpAny (model X.prog X.w) X.A (call (.builtin id) (v :: us)) (EP X pins σ Q) X.xe s
section
variable {X:Cx}{a b:Expr}{ta tb:TE}{pos:Pos}
theorem pe_ix {r:R2} (hr:IxR X r) (ha:PE X a ta) (hb:PE X b tb) (hs:PlainIx b):PE X (.Subscript a b pos) (tOp r ta tb):=by
  intro pins s σ H Q I h
  exact Subscript_ (binT ha hb I h fun v u s2 x y H2 I2 rx ry q=>hr a b pins s2 σ H2 x y v u Q I2 rx ry q (hs _ _))

noncomputable def rIxL (K:PySem.W.Frag):R2:=fun x y H Q=>∃ p xs i v,x=.ref p∧y=.int i∧SqL K H p xs∧atI xs i=some v∧Q v H
noncomputable def rIxT (K:PySem.W.Frag):R2:=fun x y H Q=>∃ p xs i v,x=.ref p∧y=.int i∧SqT K H p xs∧atI xs i=some v∧Q v H
theorem ix_list:IxR X (rIxL X.K):=by
  intro value slice pins s σ H x y v u Q I rx ry h hs
  obtain ⟨p,xs,i,z,rfl,rfl,hq,he,q⟩:=h
  cases rx
  obtain ⟨t,rfl⟩:=ry
  obtain ⟨its,r,pl,hz⟩:=I.list hq
  obtain ⟨j,h1,h2,h3,h4,h5⟩:=atI_get he
  obtain ⟨w,ew,rw'⟩:=r.get h2
  have hl:=r.length
  have hn:=line63
  have fin:EP X pins σ Q w s:=⟨z,H,I,rw',q⟩
  by_cases h0:0≤i
  · have hj:i.toNat=j:=by
      rw [seqIndex_of h0 h5] at h1
      exact Option.some.inj h1
    exact item_listR pl.isList h0 (by omega) (by rw [hj]; simpa using ew) fin hs
  · have hj:(i+(its.toArray.size:Int)).toNat=j:=by
      rw [seqIndex_neg (by omega) h4] at h1
      rw [List.size_toArray,←hl]
      exact Option.some.inj h1
    exact subscriptTail_builtinR (x:=w) pl.isList.typeIs slot_list_getitem.lookup
      (wpAny_getItem_list_neg (Q:=fun r s'=>r=w∧EP X pins σ Q r s') pl.isList (by omega) (by rw [List.size_toArray]<;>omega) (by omega) (by rw [hj]; simpa using ew) ⟨rfl,fin⟩) hs
theorem ix_tup:IxR X (rIxT X.K):=by
  intro value slice pins s σ H x y v u Q I rx ry h hs
  obtain ⟨p,xs,i,z,rfl,rfl,hq,he,q⟩:=h
  cases rx
  obtain ⟨t,rfl⟩:=ry
  obtain ⟨its,r,pl,hz⟩:=I.tuple hq
  obtain ⟨j,h1,h2,h3,h4,h5⟩:=atI_get he
  obtain ⟨w,ew,rw'⟩:=r.get h2
  have hl:=r.length
  have hn:=line63
  have fin:EP X pins σ Q w s:=⟨z,H,I,rw',q⟩
  exact subscriptTail_builtinR (x:=w) pl.typeIs slot_tuple_getitem.lookup
    (getItem_tuple (j:=j) (Q:=fun r s'=>r=w∧EP X pins σ Q r s') pl (by omega) (by omega) (by rw [List.size_toArray,←hl]; exact h1) (by simpa using ew) ⟨rfl,fin⟩) hs

theorem mapSeq_set (its:List Value) (n j:Nat) (u:Value):Obj.mapSeq (·.setIfInBounds j u) { cls:=.type "list",data:=.seq its.toArray n }={ cls:=.type "list",data:=.seq (its.set j u).toArray n }:=by
  simp [Obj.mapSeq]
theorem Inv.lst {pins:List (Addr×Obj)}{σ:St}{H:Hp}{s:Shared}{p:Addr}{xs:List V} (I:Inv X pins σ H s) (h:H p=some (.lst xs)) :
    ∃ (its:List Value) (n:Nat),Vals xs its∧s.heap.get? p=some { cls:=.type "list",data:=.seq its.toArray n }∧xs.length≤sizeLine:=by
  obtain ⟨z,its,n,r,e⟩:=I.hok p _ h
  exact ⟨its,n,r,e,z⟩
theorem Inv.lstUpd {pins:List (Addr×Obj)}{σ:St}{H:Hp}{s:Shared}{p:Addr}{xs ys:List V}{its its':List Value}{n n':Nat}{f:Obj→Obj} (I:Inv X pins σ H s) (h:H p=some (.lst xs))
    (ho:s.heap.get? p=some { cls:=.type "list",data:=.seq its.toArray n }) (hf:f { cls:=.type "list",data:=.seq its.toArray n }={ cls:=.type "list",data:=.seq its'.toArray n' }) (r:Vals ys its') (hz:ys.length≤sizeLine) (t:Nat) :
    Inv X pins σ (upd H p (.lst ys)) { s with heap:=s.heap.update p f,toks:=t }:=by
  have e:(s.heap.update p f).get? p=some { cls:=.type "list",data:=.seq its'.toArray n' }:=by
    rw [Heap.get?_update_self f ho (by rw [hf]<;>rfl),hf]
  refine I.write (x:=p) (e:=p) (by rw [h]; trivial) (.inl rfl) (fun b u hb q=>(Heap.get?_update_other _ _ (Ne.symm hb)).trans q) ⟨_,e⟩ ?_
  exact ⟨hz,its',n',r,e⟩
noncomputable def rSetL:V→V→V→Hp→(Hp→Prop)→Prop:=fun o i v H Q=>∃ p xs k j,o=.ref p∧i=.int k∧H p=some (.lst xs)∧ixN xs.length k=some j∧Q (upd H p (.lst (xs.set j v)))
theorem set_list:PSet X rSetL:=by
  intro pins s σ H o i v ov iv u Q I ro ri rv h
  obtain ⟨p,xs,k,j,rfl,rfl,hp,hj,q⟩:=h
  cases ro
  obtain ⟨t,rfl⟩:=ri
  obtain ⟨its,n,r,ho,hz⟩:=I.lst hp
  obtain ⟨h1,h2,h3,h4⟩:=ixN_seq hj
  have hl:=r.length
  have hn:=line63
  have I':Inv X pins σ (upd H p (.lst (xs.set j v))) { s with heap:=s.heap.update p (Obj.mapSeq (·.setIfInBounds j u)) }:=
    I.lstUpd hp ho (mapSeq_set its n j u) (r.set rv j) (by rw [List.length_set]; exact hz) s.toks
  by_cases h0:0≤k
  · have hk:k.toNat=j:=by
      rw [seqIndex_of h0 h4] at h1
      exact Option.some.inj h1
    exact PySem.W.ki_setAt ho h0 (by omega) (by rw [List.size_toArray,←hl]; exact h4) (by rw [hk]; exact ⟨_,I',q⟩)
  · have hk:(k+(its.toArray.size:Int)).toNat=j:=by
      rw [seqIndex_neg (by omega) h3] at h1
      rw [List.size_toArray,←hl]
      exact Option.some.inj h1
    exact PySem.W.ki_setBack ho (by omega) (by rw [List.size_toArray,←hl]; exact h3) (by omega) (by rw [hk]; exact ⟨_,I',q⟩)

theorem slice_bounds (lo hi:Option Int) (n:Nat):(sliceBounds lo hi none n).1=((HT.sIx n 0 lo:Nat):Int)∧(sliceBounds lo hi none n).2.1=((HT.sIx n n hi:Nat):Int)∧(sliceBounds lo hi none n).2.2=1:=by
  refine ⟨?_,?_,rfl⟩
  · cases lo with
    | none=>simp [sliceBounds,HT.sIx]
    | some i=>
      simp only [sliceBounds,HT.sIx,Option.getD_none,show (1:Int) > 0 by decide,if_true]
      by_cases h:i < 0
      · simp only [h,if_true]<;>omega
      · simp only [h,if_false]<;>omega
  · cases hi with
    | none=>simp [sliceBounds,HT.sIx]
    | some i=>
      simp only [sliceBounds,HT.sIx,Option.getD_none,show (1:Int) > 0 by decide,if_true]
      by_cases h:i < 0
      · simp only [h,if_true]<;>omega
      · simp only [h,if_false]<;>omega
theorem slicePick_cut (its:List Value) (lo hi:Option Int):slicePick its.toArray lo hi none=((its.drop (HT.sIx its.length 0 lo)).take (HT.sIx its.length its.length hi - HT.sIx its.length 0 lo)).toArray:=by
  obtain ⟨h1,h2,h3⟩:=slice_bounds lo hi its.toArray.size
  unfold slicePick
  rw [h1,h2,h3]
  simp only [sliceRange_one,pick_run,List.size_toArray]<;>rfl
noncomputable def rSlL (K:PySem.W.Frag):V→Option Int→Option Int→Hp→VK→Prop:=fun x lo hi H Q=>∃ a xs,x=.ref a∧SqL K H a xs∧∀ p,H p=none→Q (.ref p) (upd H p (.lst (cutV xs lo hi)))
theorem sl_list:SlR X (rSlL X.K):=by
  intro pins s σ H x v vl vu lo hi sl Q I rx hs pl pu h
  obtain ⟨a,xs,rfl,hx,q⟩:=h
  cases rx
  obtain ⟨its,r,ht,hz⟩:=I.list hx
  have hlen:=r.length
  refine ⟨"list",_,slot_list_getitem.lookup,ht.isList.typeIs,?_⟩
  refine wpAny_getItem_list_slice ht.isList hs pl pu .none (by simp) ?_ (by rw [List.size_toArray]<;>omega)
  rw [slicePick_cut,←hlen]
  refine ⟨.ref s.heap.objs.size,_,I.laid (t':=s.toks) (o:=.lst (cutV xs lo hi)) (fun b ob q=>Heap.get?_push_of_some _ q) (Nat.le_refl _) ?_,rfl,q _ (I.hok.fresh (Nat.le_refl _))⟩
  exact ⟨Nat.le_trans (cutV_length xs lo hi) hz,_,0,(r.drop (HT.sIx xs.length 0 lo)).take (HT.sIx xs.length xs.length hi - HT.sIx xs.length 0 lo),Heap.get?_push_size _ rfl⟩

noncomputable def flatV:V→Bool
  | .non=>true
  | .bl _=>true
  | .int _=>true
  | .str _=>true
  | _=>false
noncomputable def eqV:V→V→Bool
  | .non,.non=>true
  | .bl a,.bl b=>a==b
  | .bl a,.int b=>(if a then 1 else 0)==b
  | .int a,.bl b=>a==(if b then 1 else 0)
  | .int a,.int b=>a==b
  | .str a,.str b=>a==b
  | _,_=>false
theorem eqAt_V {A:Around}{s:Shared}{y x:V}{u v:Value} (ry:RelV y u) (rx:RelV x v) (fy:flatV y=true) (fx:flatV x=true):SeqAt.EqAt A s u v (eqV y x):=by
  cases y with
  | non=>
    cases ry
    cases x with
    | non=>cases rx; exact SeqAt.EqAt.same _
    | bl b=>cases rx; exact SeqAt.EqAt.none_bool b
    | int b=>obtain ⟨t,rfl⟩:=rx; exact SeqAt.EqAt.none_int b t
    | str b=>obtain ⟨t,rfl⟩:=rx; exact SeqAt.EqAt.none_str b t
    | _=>exact absurd (show false=true from fx) Bool.false_ne_true
  | bl a=>
    cases ry
    cases x with
    | non=>cases rx; exact SeqAt.EqAt.bool_none a
    | bl b=>cases rx; exact SeqAt.EqAt.bool_bool a b
    | int b=>obtain ⟨t,rfl⟩:=rx; exact SeqAt.EqAt.bool_int a b t
    | str b=>obtain ⟨t,rfl⟩:=rx; exact SeqAt.EqAt.bool_str a b t
    | _=>exact absurd (show false=true from fx) Bool.false_ne_true
  | int a=>
    obtain ⟨t',rfl⟩:=ry
    cases x with
    | non=>cases rx; exact SeqAt.EqAt.int_none a t'
    | bl b=>cases rx; exact SeqAt.EqAt.int_bool a t' b
    | int b=>obtain ⟨t,rfl⟩:=rx; exact SeqAt.EqAt.int_int a t' b t
    | str b=>obtain ⟨t,rfl⟩:=rx; exact SeqAt.EqAt.int_str a t' b t
    | _=>exact absurd (show false=true from fx) Bool.false_ne_true
  | str a=>
    obtain ⟨t',rfl⟩:=ry
    cases x with
    | non=>cases rx; exact SeqAt.EqAt.str_none a t'
    | bl b=>cases rx; exact SeqAt.EqAt.str_bool a t' b
    | int b=>obtain ⟨t,rfl⟩:=rx; exact SeqAt.EqAt.str_int a t' b t
    | str b=>obtain ⟨t,rfl⟩:=rx; exact SeqAt.EqAt.str_str a t' b t
    | _=>exact absurd (show false=true from fx) Bool.false_ne_true
  | _=>exact absurd (show false=true from fy) Bool.false_ne_true
noncomputable def eqU (x:V) (u:Value):Bool:=match u with
  | .none=>eqV .non x
  | .bool b=>eqV (.bl b) x
  | .int i _=>eqV (.int i) x
  | .str z _=>eqV (.str z) x
  | _=>false
theorem eqU_of {x y:V}{u:Value} (r:RelV y u) (f:flatV y=true):eqU x u=eqV y x:=by
  cases y with
  | non=>cases r; rfl
  | bl b=>cases r; rfl
  | int i=>obtain ⟨t,rfl⟩:=r; rfl
  | str z=>obtain ⟨t,rfl⟩:=r; rfl
  | _=>exact absurd (show false=true from f) Bool.false_ne_true
theorem any_eqU {x:V}:∀ {xs:List V}{us:List Value},Vals xs us→xs.all flatV=true→us.any (eqU x)=xs.any fun y=>eqV y x
  | _,_,.nil,_=>rfl
  | y :: xs,u :: us,.cons r t,f=>by
    rw [List.all_cons,Bool.and_eq_true] at f
    rw [List.any_cons,List.any_cons,eqU_of r f.1,any_eqU t f.2]
theorem mem_eqAt {A:Around}{s:Shared}{x:V}{v:Value} (rx:RelV x v) (fx:flatV x=true):∀ {xs:List V}{us:List Value},Vals xs us→xs.all flatV=true→∀ u∈us,SeqAt.EqAt A s u v (eqU x u)
  | _,_,.nil,_=>fun u hu=>by cases hu
  | y :: xs,u :: us,.cons r t,f=>fun u' hu=>by
    rw [List.all_cons,Bool.and_eq_true] at f
    rcases List.mem_cons.mp hu with rfl | hu
    · rw [eqU_of r f.1]; exact eqAt_V r rx f.1 fx
    · exact mem_eqAt rx fx t f.2 u' hu
noncomputable def inV (x:V) (xs:List V):Bool:=xs.any fun y=>eqV y x
noncomputable def rIn (K:PySem.W.Frag) (neg:Bool):R2:=fun x y H Q=>∃ p xs,y=.ref p∧(SqL K H p xs∨SqT K H p xs)∧flatV x=true∧xs.all flatV=true∧Q (.bl (if neg then !inV x xs else inV x xs)) H
theorem op_in_seq:OpR X (compareOp .In) (rIn X.K false):=by
  intro pins s σ H x y v u Q I rx ry h
  obtain ⟨p,xs,rfl,hq,fx,fs,q⟩:=h
  cases ry
  rcases hq with hq | hq
  · obtain ⟨its,r,pl,hz⟩:=I.list hq
    refine SeqAt.in_listAt (eqU x) pl.isList (fun w hw=>mem_eqAt rx fx r fs w (by simpa using hw)) ⟨.bl _,H,I,rfl,?_⟩
    rw [show its.toArray.any (eqU x)=its.any (eqU x) by simp,any_eqU r fs]
    exact q
  · obtain ⟨its,r,pl,hz⟩:=I.tuple hq
    refine SeqAt.in_tupleAt (eqU x) pl (fun w hw=>mem_eqAt rx fx r fs w (by simpa using hw)) ⟨.bl _,H,I,rfl,?_⟩
    rw [show its.toArray.any (eqU x)=its.any (eqU x) by simp,any_eqU r fs]
    exact q
theorem op_notIn_seq:OpR X (compareOp .NotIn) (rIn X.K true):=by
  intro pins s σ H x y v u Q I rx ry h
  obtain ⟨p,xs,rfl,hq,fx,fs,q⟩:=h
  cases ry
  rcases hq with hq | hq
  · obtain ⟨its,r,pl,hz⟩:=I.list hq
    refine SeqAt.notIn_listAt (eqU x) pl.isList (fun w hw=>mem_eqAt rx fx r fs w (by simpa using hw)) ⟨.bl _,H,I,rfl,?_⟩
    rw [show its.toArray.any (eqU x)=its.any (eqU x) by simp,any_eqU r fs]
    exact q
  · obtain ⟨its,r,pl,hz⟩:=I.tuple hq
    refine SeqAt.notIn_tupleAt (eqU x) pl (fun w hw=>mem_eqAt rx fx r fs w (by simpa using hw)) ⟨.bl _,H,I,rfl,?_⟩
    rw [show its.toArray.any (eqU x)=its.any (eqU x) by simp,any_eqU r fs]
    exact q

theorem call_len_seq:CallR X (.builtin "len") (fun xs H Q=>∃ p ys,xs=[.ref p]∧(SqL X.K H p ys∨SqT X.K H p ys)∧Q (.int ys.length) H):=by
  intro pins s σ H xs us Q I r h
  obtain ⟨p,ys,rfl,hq,q⟩:=h
  obtain ⟨u,rfl,rx⟩:=vals1 r
  cases rx
  have hn:=line63
  rcases hq with hq | hq
  · obtain ⟨its,r',pl,hz⟩:=I.list hq
    have hlen:=r'.length
    exact Calls.call_len_list pl.isList (by simp only [List.size_toArray]<;>omega) ⟨.int ys.length,H,I.tok _,⟨s.toks+1,by rw [List.size_toArray,hlen]⟩,q⟩
  · obtain ⟨its,r',pl,hz⟩:=I.tuple hq
    have hlen:=r'.length
    exact len_tuple pl (by simp only [List.size_toArray]<;>omega) ⟨.int ys.length,H,I.tok _,⟨s.toks+1,by rw [List.size_toArray,hlen]⟩,q⟩
theorem call_list_of:CallR X (.type "list") (fun xs H Q=>∃ p ys,xs=[.ref p]∧(SqL X.K H p ys∨SqT X.K H p ys)∧∀ l,H l=none→Q (.ref l) (upd H l (.lst ys))):=by
  intro pins s σ H xs us Q I r h
  obtain ⟨p,ys,rfl,hq,q⟩:=h
  obtain ⟨u,rfl,rx⟩:=vals1 r
  cases rx
  have fin:∀ (its:List Value),Vals ys its→ys.length≤sizeLine→∀ (h':Heap) (c':Nat),(∀ b o',s.heap.get? b=some o'→h'.get? b=some o')→
      h'.get? s.heap.objs.size=some { cls:=.type "list",dict:=none,data:=.seq its.toArray c',slots:=#[] }→EP X pins σ Q (.ref s.heap.objs.size) { s with heap:=h' }:=fun its r' hz h' c' kp e=>
    ⟨.ref s.heap.objs.size,_,I.laid (t':=s.toks) kp (Nat.le_refl _) (show ObjOk X.prog X.w _ h' _ (.lst ys) from ⟨hz,its,c',r',e⟩),rfl,q _ (I.hok.fresh (Nat.le_refl _))⟩
  rcases hq with hq | hq
  · obtain ⟨its,r',pl,hz⟩:=I.list hq
    have hlen:=r'.length
    obtain ⟨o,ho,hc,n,hd⟩:=pl.isList
    exact call_list_seq p (.inl rfl) ho hc hd (fun h' c' kp e=>fin its r' hz h' c' kp e) (by simp only [List.size_toArray]<;>omega)
  · obtain ⟨its,r',pl,hz⟩:=I.tuple hq
    have hlen:=r'.length
    obtain ⟨o,ho,hc,n,hd⟩:=pl
    exact call_list_seq p (.inr rfl) ho hc hd (fun h' c' kp e=>fin its r' hz h' c' kp e) (by simp only [List.size_toArray]<;>omega)
theorem call_tuple_of:CallR X (.type "tuple") (fun xs H Q=>∃ p ys,xs=[.ref p]∧((SqL X.K H p ys∧∀ l,H l=none→Q (.ref l) (upd H l (.tup ys)))∨(SqT X.K H p ys∧Q (.ref p) H))):=by
  intro pins s σ H xs us Q I r h
  obtain ⟨p,ys,rfl,h⟩:=h
  obtain ⟨u,rfl,rx⟩:=vals1 r
  cases rx
  rcases h with ⟨hq,q⟩ | ⟨hq,q⟩
  · obtain ⟨its,r',pl,hz⟩:=I.list hq
    have hlen:=r'.length
    refine call_tuple_list pl.isList (fun h' kp=>?_) (by simp only [List.size_toArray]<;>omega)
    have I1:Inv X pins σ H { s with heap:=h' }:=I.kept (t':=s.toks) kp
    have I2:Inv X pins σ (upd H h'.objs.size (.tup ys)) { s with heap:=h'.push { cls:=.type "tuple",data:=.seq its.toArray } }:=
      I1.laid (t':=s.toks) (fun b o e=>Heap.get?_push_of_some _ e) (Nat.le_refl _) (show ObjOk X.prog X.w _ _ _ (.tup ys) from ⟨hz,its,r',IsTup.new _ _⟩)
    exact ⟨.ref h'.objs.size,_,I2,rfl,q _ (I1.hok.fresh (Nat.le_refl _))⟩
  · obtain ⟨its,r',pl,hz⟩:=I.tuple hq
    exact call_tuple_same pl ⟨.ref p,H,I,rfl,q⟩

noncomputable def tyV (K:PySem.W.Frag) (T:String) (x:V) (H:Hp):Prop:=match x with
  | .str _=>T = "str"
  | .int _=>T = "int"
  | .ref p=>(T = "list"∧∃ xs,SqL K H p xs)∨(T = "tuple"∧∃ o,K.lookup p=some o∧o.cls=.type "tuple"∧o.dict=none) ∨
      (T = "dict"∧((∃ kvs,H p=some (.dK kvs))∨∃ kvs,H p=some (.dT kvs)))∨(T = "set"∧∃ S n,H p=some (.set S n))
  | _=>False
theorem tyV_is {pins:List (Addr×Obj)}{σ:St}{H:Hp}{s:Shared}{T:String}{x:V}{v:Value} (I:Inv X pins σ H s) (r:RelV x v) (ty:tyV X.K T x H) :
    s.TypeIs v T∧∀ a,v=.ref a→∃ ob,s.heap.get? a=some ob∧ob.dict=none:=by
  cases x with
  | str z=>
    obtain ⟨t,rfl⟩:=r
    cases (show T = "str" from ty)
    exact ⟨typeIs_str s z t,fun _ e=>nomatch e⟩
  | int i=>
    obtain ⟨t,rfl⟩:=r
    cases (show T = "int" from ty)
    exact ⟨typeIs_int s i t,fun _ e=>nomatch e⟩
  | ref p=>
    cases r
    rcases ty with ⟨rfl,xs,hq⟩ | ⟨rfl,o,hk,hc,hd⟩ | ⟨rfl,hk⟩ | ⟨rfl,S,n,hk⟩
    · obtain ⟨its,_,pl,_⟩:=I.list hq
      refine ⟨pl.isList.typeIs,fun a e=>?_⟩
      cases e
      obtain ⟨o,n,e,c,hd,_⟩:=pl
      exact ⟨o,e,hd⟩
    · refine ⟨⟨o,I.kIn p o hk,hc⟩,fun a e=>?_⟩
      cases e
      exact ⟨o,I.kIn _ o hk,hd⟩
    · have z:∃ o,s.heap.get? p=some o∧o.ExactDict:=by
        rcases hk with ⟨kvs,hk⟩ | ⟨kvs,hk⟩
        · obtain ⟨_,_,_,_,o,_,_,e,ex,_⟩:=I.hok p _ hk
          exact ⟨o,e,ex⟩
        · obtain ⟨_,_,_,_,o,_,_,e,ex,_⟩:=I.hok p _ hk
          exact ⟨o,e,ex⟩
      obtain ⟨o,e,ex⟩:=z
      refine ⟨⟨o,e,ex.1⟩,fun a e2=>?_⟩
      cases e2
      exact ⟨o,e,ex.2.1⟩
    · obtain ⟨o,_,_,_,e,ex,_⟩:=I.hok p _ hk
      refine ⟨⟨o,e,ex.1⟩,fun a e2=>?_⟩
      cases e2
      exact ⟨o,e,ex.2.1⟩
  | _=>exact False.elim ty
noncomputable def tBM (K:PySem.W.Frag) (T:String) (r:V→List V→Hp→VK→Prop) (to:TE) (t:TA):TE:=fun σ H Q=>to σ H fun x H1=>tyV K T x H1∧t σ H1 fun xs H2=>r x xs H2 Q
variable {o e:Expr}{es:List Expr}{to:TE}{t:TA}{name:Str}{apos cpos:Pos}{T id:String}{r:V→List V→Hp→VK→Prop}
theorem pe_bm (pa:PlainAttrs T) (slot:Slot T name id) (hty:typeOf (.builtin id)=pure (.type "method_descriptor")) (hm:MtR X id r) (ho:PE X o to) (ha:PA X (e :: es) t)
    (hbase:attributeBase o name X.env (eval o X.env)=eval o X.env:=by rfl)
    (hfew:((backTo cpos (starEach (e :: es) X.env)).all (fun x=>!x.1)&&(backToKw cpos (keywordEach [] X.env)).all (fun x=>x.1.isSome)
     &&decide ((e :: es).length+([]:List Keyword).length+(if ([]:List Keyword).isEmpty then 0 else 1) < 30))=true:=by rfl)
    (hline:(apos.endLine==cpos.line)=true:=by rfl) (hs:starEach (e :: es) X.env=(false,eval e X.env) :: starEach es X.env:=by rfl) (hplain:(backTo cpos (starEach es X.env)).any (·.1)=false:=by rfl) :
    PE X (.Call (.Attribute o name apos) (e :: es) [] cpos) (tBM X.K T r to t):=by
  intro pins s σ H Q I h
  refine wpAny_Call_method_late hbase hfew hline rfl (thn (ho pins s σ H _ I h) fun v s1 ⟨x,H1,I1,r1,ty,q1⟩=>?_)
  obtain ⟨h1,h2⟩:=tyV_is I1 r1 ty
  refine ⟨T,id,pa,slot,hty,h1,h2,?_⟩
  have hA:=ha cpos pins s1 σ H1 _ I1 q1
  rw [hs] at hA ⊢
  refine Calls.callWith_builtin (by show (false||(backTo cpos (starEach es X.env)).any (·.1))=false; rw [hplain]<;>rfl) (Calls.evalArgs_plain ?_)
  exact thn hA fun us s2 ⟨vs,H2,I2,r2,q2⟩=>hm pins s2 σ H2 x vs v us Q I2 r1 r2 q2
end
end L2

namespace L2
open PySem PySem.Spec PyProof.Rows

noncomputable def MtM (X:Cx) (id:String) (r:V→List V→Hp→VK→Prop):Prop:=
  ∀ (pins:List (Addr×Obj)) (s:Shared) (σ:St) (H:Hp) (x:V) (xs:List V) (v:Value) (us:List Value) (Q:VK),Inv X pins σ H s→RelV x v→Vals xs us→r x xs H Q→
    wpAny (model X.prog X.w) X.A (call (.builtin id) (v :: us)) (EP X pins σ Q) X.xe s

theorem Vals.one {x:V}{us:List Value} (h:Vals [x] us):∃ u,us=[u]∧RelV x u:=by
  cases h with
  | cons r h=>cases h; exact ⟨_,rfl,r⟩
theorem Vals.two {x y:V}{us:List Value} (h:Vals [x,y] us):∃ u v,us=[u,v]∧RelV x u∧RelV y v:=by
  cases h with
  | cons r h=>cases h with
    | cons q h=>cases h; exact ⟨_,_,rfl,r,q⟩
theorem Vals.rep {xs:List V}{us:List Value} (h:Vals xs us):∀ k:Nat,Vals (List.replicate k xs).flatten (List.replicate k us).flatten
  | 0=>.nil
  | k+1=>by
    rw [List.replicate_succ,List.replicate_succ,List.flatten_cons,List.flatten_cons]
    exact Vals.append h (Vals.rep h k)
theorem foldl_rep (its:List Value):∀ (k:Nat) (acc:List Value),
    List.foldl (fun x1 x2=>x1++x2) acc.toArray (List.replicate k its.toArray)=(acc++(List.replicate k its).flatten).toArray
  | 0,acc=>by simp
  | k+1,acc=>by
    have e:acc.toArray++its.toArray=(acc++its).toArray:=by simp
    have e2:(acc++its)++(List.replicate k its).flatten=acc++(List.replicate (k+1) its).flatten:=by
      rw [List.replicate_succ,List.flatten_cons,List.append_assoc]
    rw [←e2,←foldl_rep its k (acc++its),←e,List.replicate_succ,List.foldl_cons]

section
variable {X:Cx}{pins:List (Addr×Obj)}{σ:St}{H:Hp}{s:Shared}{l b:Addr}{xs ys zs:List V}

theorem Inv.lset {its its':List Value}{n:Nat}{f:Array Value→Array Value}{t':Nat} (I:Inv X pins σ H s) (hH:H l=some (.lst xs))
    (e:s.heap.get? l=some { cls:=.type "list",data:=.seq its.toArray n }) (hf:f its.toArray=its'.toArray) (hv:Vals ys its') (hz:ys.length≤sizeLine) :
    Inv X pins σ (upd H l (.lst ys)) { s with heap:=s.heap.update l (Obj.mapSeq f),toks:=t' }:=by
  have q:=PySem.IsL.update e f
  rw [hf] at q
  refine I.write (x:=l) (e:=l) (by rw [hH]; exact trivial) (.inl rfl) (fun b' u hb hu=>(Heap.get?_update_other s.heap (Obj.mapSeq f) (Ne.symm hb)).trans hu) ⟨_,q⟩ ?_
  exact ⟨hz,its',_,hv,q⟩
theorem Inv.lnew {its:List Value}{t':Nat} (I:Inv X pins σ H s) (hv:Vals ys its) (hz:ys.length≤sizeLine) :
    Inv X pins σ (upd H s.heap.objs.size (.lst ys)) { s with heap:=s.heap.push { cls:=.type "list",data:=.seq its.toArray },toks:=t' }:=
  I.laid (fun _ _ q=>Heap.get?_push_of_some _ q) (Nat.le_refl _) ⟨hz,its,0,hv,Heap.get?_push_size _ rfl⟩
theorem Inv.fresh (I:Inv X pins σ H s):H s.heap.objs.size=none:=I.hok.fresh (Nat.le_refl _)
theorem Inv.lstM (I:Inv X pins σ H s) (hH:H l=some (.lst xs)):xs.length≤sizeLine∧∃ (its:List Value) (n:Nat),Vals xs its∧xs.length=its.length∧s.heap.get? l=some { cls:=.type "list",data:=.seq its.toArray n }:=by
  obtain ⟨z,its,n,r,e⟩:=I.hok l _ hH
  exact ⟨z,its,n,r,r.length,e⟩

theorem notLongL {n:Nat} (h:n≤sizeLine):Builtin.List.listTooLong n=false:=by
  unfold Builtin.List.listTooLong
  exact decide_eq_false (by omega)
end

section
variable {X:Cx}

noncomputable def rAppend:V→List V→Hp→VK→Prop:=fun x vs H Q=>∃ l xs y,x=.ref l∧vs=[y]∧H l=some (.lst xs)∧xs.length < sizeLine∧Q .non (upd H l (.lst (xs++[y])))
theorem mt_append:MtM X "list.append" rAppend:=by
  intro pins s σ H x vs v us Q I rx rv h
  obtain ⟨l,xs,y,rfl,rfl,hH,hz,q⟩:=h
  cases rx
  obtain ⟨u,rfl,ru⟩:=rv.one
  obtain ⟨z,its,n,r,hl,e⟩:=I.lstM hH
  refine call_meets F.slot_list_append ⟨_,e,rfl⟩ F.entry_list_append (F.args_list_append_2 _ _) (PySem.list_append l its.toArray n u (by rw [List.size_toArray]; omega)) ⟨e,?_⟩
  refine ⟨.non,_,I.lset (its':=its++[u]) hH e (by simp) (r.append (.cons ru .nil)) ?_,rfl,q⟩
  rw [List.length_append,List.length_singleton]
  omega

noncomputable def rExtend:V→List V→Hp→VK→Prop:=fun x vs H Q=>∃ l b xs zs,x=.ref l∧vs=[.ref b]∧H l=some (.lst xs)∧H b=some (.lst zs)∧xs.length+zs.length≤sizeLine∧Q .non (upd H l (.lst (xs++zs)))
theorem mt_extend:MtM X "list.extend" rExtend:=by
  intro pins s σ H x vs v us Q I rx rv h
  obtain ⟨l,b,xs,zs,rfl,rfl,hH,hB,hz,q⟩:=h
  cases rx
  obtain ⟨u,rfl,ru⟩:=rv.one
  cases ru
  obtain ⟨z,its,n,r,hl,e⟩:=I.lstM hH
  obtain ⟨z2,its2,n2,r2,hl2,e2⟩:=I.lstM hB
  have hsz:its.toArray.size+its2.toArray.size≤sizeLine:=by rw [List.size_toArray,List.size_toArray]; omega
  have hlong:¬(!its.toArray.isEmpty&&Builtin.List.listTooLong (its.toArray.size+its2.toArray.size))=true:=by
    rw [notLongL hsz,Bool.and_false]
    exact Bool.false_ne_true
  refine call_meets F.slot_list_extend ⟨_,e,rfl⟩ F.entry_list_extend (F.args_list_extend_2 _ _)
    (AutoSeq1.list_extend_list_list_0 l its.toArray n b its2.toArray n2 hlong (by rw [List.size_toArray]; omega) (by omega)) ⟨e,e2,?_⟩
  refine ⟨.non,_,I.lset (its':=its++its2) hH e (by simp) (r.append r2) ?_,rfl,q⟩
  rw [List.length_append]
  omega





noncomputable def rRep:R2:=fun x y H Q=>∃ l k xs,x=.ref l∧y=.int k∧H l=some (.lst xs)∧-(2 ^ 63)≤k∧k < 2 ^ 63∧xs.length * k.toNat≤sizeLine ∧
  ∀ p,H p=none→Q (.ref p) (upd H p (.lst (List.replicate k.toNat xs).flatten))
theorem len_rep {α:Type} (xs:List α) (k:Nat):(List.replicate k xs).flatten.length=k * xs.length:=by
  induction k with
  | zero=>simp
  | succ k ih=>rw [List.replicate_succ,List.flatten_cons,List.length_append,ih,Nat.succ_mul,Nat.add_comm]
theorem op_rep:OpR X (binaryOp .Mult) rRep:=by
  intro pins s σ H x y v u Q I rx ry h
  obtain ⟨l,k,xs,rfl,rfl,hH,h1,h2,hz,q⟩:=h
  cases rx
  obtain ⟨t,rfl⟩:=ry
  obtain ⟨z,its,n,r,hl,e⟩:=I.lstM hH
  have hlen:its.toArray.size * k.toNat≤sizeLine:=by rw [List.size_toArray,←hl]; exact hz
  have hcap:¬its.toArray.size * k.toNat > (2 ^ 63 - 1) / 8:=by
    have:(sizeLine:Nat)≤(2 ^ 63 - 1) / 8:=by decide
    omega
  have hfit:¬(!Builtin.List.listFitsIndex k)=true:=by
    rw [fitsIndex_both h1 h2]
    exact Bool.false_ne_true
  have hlong:¬Builtin.List.listTooLong (its.toArray.size * k.toNat)=true:=by
    rw [notLongL hlen]
    exact Bool.false_ne_true
  have hnew:List.foldl (fun x1 x2=>x1++x2) #[] (List.replicate (if its.toArray.isEmpty=true then 0 else k.toNat) its.toArray)=(List.replicate k.toNat its).flatten.toArray:=by
    have f0:∀ m:Nat,List.foldl (fun x1 x2=>x1++x2) #[] (List.replicate m its.toArray)=(List.replicate m its).flatten.toArray:=fun m=>by
      have:=foldl_rep its m []
      rw [List.nil_append] at this
      exact this
    rw [f0]
    cases its with
    | nil=>simp
    | cons a r'=>rw [if_neg (by simp)]
  refine wpAny_binaryOp_repeat_ref (T := "list") (U := "int") (by decide) ⟨_,e,rfl⟩ (fun s'=>typeIs_int s' k t) noFill_list_mul F.fills_int_mul F.slot_int_rmul repeat_list F.slot_int_index.lookup
    (call_meets F.slot_int_rmul (typeIs_int s k t) F.entry_int_rmul (F.args_int_rmul_2 _ _) (int___rmul___int_list k t l its.toArray n)
      ⟨e,rfl,⟨_,e,rfl⟩,call_meets F.slot_list_mul ⟨_,e,rfl⟩ F.entry_list_mul (F.args_list_mul_2 _ _) (AutoListH.list___mul___list_int_3 l its.toArray n k t hfit hcap hlong) ⟨e,?_⟩⟩)
  rw [hnew]
  exact ⟨.ref _,_,I.lnew (t':=s.toks) (r.rep k.toNat) (by rw [len_rep,Nat.mul_comm]; exact hz),rfl,q _ I.fresh⟩

end

section
variable {prog:Program}{w:World}{A:Around}{E:Value→Shared→Prop}{s:Shared}
end

section
variable {X:Cx}
end
end L2

namespace Att
open PySem PySem.W PySem.Calls PyProof.Rows

theorem ints_of_wellAll {P:Params}{h:Heap}:∀ (ns:List Int) (vs:List Value),WellAll P h vs (ns.map WData.int)→IntsAre vs ns:=by
  intro ns
  induction ns with
  | nil=>
    intro vs w
    rw [List.map_nil] at w
    cases w
    exact .nil
  | cons n ns ih=>
    intro vs w
    rw [List.map_cons] at w
    cases w with
    | cons a b=>
      cases a
      exact .cons _ _ (ih _ b)

theorem script_of {l:OpenLaw}{n:Nat} (hn:l.most=some n) {P:Params}{h:Heap}{args:List WData}{vals:List Value}
    (hpre:l.row.toRowW.claim.pre args=true) (hwl:WellAll P h vals args) :
    ∃ a vs ns,vals=[Value.ref a]∧args=[WData.list (ns.map WData.int)]∧h.get? a=some { cls:=.type "list",data:=.seq vs.toArray }∧IntsAre vs ns∧ns.length≤n:=by
  have hsh:WShape.hasAll [] args [.list .int]=true:=(pre_splitW hpre).1
  have hc:l.pre.holds [] { args:=args }=true:=(pre_splitW hpre).2
  obtain ⟨d,r,rfl,h1,h2⟩:=hasAllW_cons hsh
  obtain rfl:=hasAllW_nil h2
  obtain ⟨xs,rfl,h3⟩:=hasW_list h1
  obtain ⟨ns,rfl⟩:=items_int h3
  have hlen:ns.length≤n:=by
    unfold OpenLaw.pre at hc
    have h4:(WTm.not (.lt (.lit (.int (n:Int))) (.len (.arg 0)))).holds [] { args:=[.list (ns.map .int)] }=true:=by
      have h4:=(holds_andW hc).1
      rw [hn] at h4
      exact h4
    have h5:=condW_of h4 (w_not (w_lt w_lit (w_len_list (w_arg rfl))))
    rw [List.length_map] at h5
    refine Nat.le_of_not_lt fun q=>?_
    have q':(n:Int) < ((ns.length:Nat):Int):=by omega
    first
      | (rw [decide_eq_true q'] at h5; exact absurd h5 (by decide))
      | (simp at h5; omega)
  cases hwl with
  | cons w1 w2=>
    cases w2
    cases w1 with
    | list ho hall=>exact ⟨_,_,ns,rfl,rfl,ho,ints_of_wellAll ns _ hall,hlen⟩

theorem post_true (l:OpenLaw) (args:List WData):l.row.toRowW.claim.post args (.bool true) args=true:=
  postW_of (r:=l.row.toRowW) (X:=(true==true))
    (show WShape.has [] (.bool true) .bool=true by first | rfl | decide | simp [WShape.has,WShape.arms,WShape.armsAll])
    (show (WTm.eq .res (.lit (.bool true))).value [] { args:=args,res:=some (.bool true),after:=args }=some (.bool (true==true)) from w_eq_bool (w_res rfl) w_lit) rfl


theorem attach_call {l:OpenLaw}{n:Nat}{q:Program}{loose:List Str}{XP:(Str→Option Value)→Heap→Prop}{YP:World→Heap→Prop}{d:DefRec}
    (hn:l.most=some n) (hdf:d.params.defaults=[])
    (call:∀ (w:World) (s₀ s₁:Shared) (mg mb:Str→Option Value) (fa:Addr) (o:Obj) (pm cd doc:Value) (a:Addr) (vs:List Value) (ns:List Int),
      Ground q loose [] XP w s₀ mg mb s₁.heap→YP w s₁.heap→
      s₁.heap.get? fa=some o→o.data=.func (docDef d.name d.params d.body d.scope pm cd doc)→s₁.heap.CodeRec cd d.name→mg d.name=some (.ref fa)→
      s₁.heap.get? a=some { cls:=.type "list",data:=.seq vs.toArray }→IntsAre vs ns→ns.length≤n→s₁.gens=#[]→
      codeAny (model l.prog w) callerA (.call (.ref fa) ⟨[.ref a],[]⟩) (fun r s'=>r=.ok (.ret (.bool true))∧OldK s₁.heap s'.heap∧s'.os=s₁.os∧AllBare s'.gens) s₁) :
    WalkO q loose XP YP l.row.toRowW d [] (fun f vs=>PySem.call f vs):=by
  intro w s₀ s₁ mg mb G Y fa o pm cd doc dV kV ho hd hcd hD hmg hg args vals as hpre hlay hrd hwl hlo
  obtain rfl:dV=.none:=Dflts.none hD hdf
  obtain rfl:kV=.none:=Dflts.noKw hD
  obtain ⟨a,vs,ns,rfl,rfl,hobj,hints,hlen⟩:=script_of hn hpre hwl
  refine enter_call (codeAny_mono (call w s₀ s₁ mg mb fa o pm cd doc a vs ns G Y ho (fd_plain hd) hcd hmg hobj hints hlen hg) fun r s' hq=>?_)
  obtain ⟨rfl,h2,h3,h4⟩:=hq
  exact ⟨.inl ⟨.bool true,.bool true,[],rfl,fun _=>rfl,.bool true,post_true l _,fun _=>⟨List.Pairwise.nil,fun _ hm=>(nomatch hm)⟩⟩,h2,h3,h4⟩


section
variable {prog:Program}{w:World}{A:Around}{E:Value→Shared→Prop}{s:Shared}{K:Frag}






end
end Att

namespace L2
open PySem PySem.Spec PyProof.Rows

theorem vals_ints:∀ {vs:List Value}{ns:List Int},IntsAre vs ns→Vals (ns.map V.int) vs
  | _,_,.nil=>.nil
  | _,_,.cons n t h=>.cons ⟨t,rfl⟩ (vals_ints h)

noncomputable def Only (H:Hp):Prop:=∀ b,H b=none∨∃ o xs,H b=some (.frz o (.lst xs))

theorem law_call {P:Program}{w:World}{K:PySem.W.Frag}{mg mb:Str→Option Value}{CX:CXT}{k:Nat}{fa a:Addr}{fd:FuncData}{x:Str}{sp:Sp}{s₁:Shared}{vs:List Value}{ns:List Int}
    (KX:K.In s₁.heap) (hns:s₁.heap.Ns mainGlobals mg) (hb:s₁.heap.Ns builtinsNs mb) (hbb:∀ x:Str,x ≠ "__name__"→mb x=bootBuiltins x) (hlim:s₁.heap.NoLimit) (hg:s₁.gens=#[])
    (ha:s₁.heap.get? a=some { cls:=.type "list",data:=.seq vs.toArray }) (hi:IntsAre vs ns) (hl:ns.length≤sizeLine) (hr:Room k callerA)
    (F:∀ base:Heap,K.In base→base.Ns mainGlobals mg→FnOk P w K mg base CX k fa fd [x] sp) (hbind:∀ (s:Shared) (u:Value),BindsTo s fd ⟨[u],[]⟩ [(x,u)])
    (hsp:∀ H:Hp,Only H→SqL K H a (ns.map V.int)→sp [.ref a] H (fun v _=>v=.bl true) fun _ _ _=>False)
    (hCX:∀ H e s',CX [] H s₁ (fun _ _ _=>False) e s'→False) :
    codeAny (model P w) callerA (.call (.ref fa) ⟨[.ref a],[]⟩) (fun r s'=>r=.ok (.ret (.bool true))∧OldK s₁.heap s'.heap∧s'.os=s₁.os∧AllBare s'.gens) s₁:=by
  have rv:=vals_ints hi
  have lenV:=hi.length
  -- from an abstract heap in which nothing but the script may be tracked
  have core:∀ H:Hp,Only H→SqL K H a (ns.map V.int)→HOk P w H s₁.heap→(∀ b,H b≠none→b=a)→(H a≠none→K.lookup a=none)→
      codeAny (model P w) callerA (.call (.ref fa) ⟨[.ref a],[]⟩) (fun r s'=>r=.ok (.ret (.bool true))∧OldK s₁.heap s'.heap∧s'.os=s₁.os∧AllBare s'.gens) s₁:=by
    intro H hO hS hok hA hK
    have base_of:∀ {b:Addr}{o:Obj},s₁.heap.get? b=some o→H b=none→(hidT s₁.heap H).get? b=some o:=fun e n=>hidT_get e n
    have noA:∀ {b:Addr}{o:Obj}{es:Array DictEntry}{ep:Nat},s₁.heap.get? b=some o→o.data=.dict es ep→H b=none:=fun {b o es ep} e d=>by
      cases q:H b with
      | none=>rfl
      | some u=>
        have e':b=a:=hA b (by rw [q]; simp)
        subst e'
        rw [ha] at e; cases e
        have d':Data.seq vs.toArray _=Data.dict es ep:=d
        cases d'
    have nsK:∀ {b:Addr}{m:Str→Option Value},s₁.heap.Ns b m→(hidT s₁.heap H).Ns b m:=fun {b m} ⟨o,es,ep,e,d,r⟩=>⟨o,es,ep,base_of e (noA e d),d,r⟩
    have hKb:K.In (hidT s₁.heap H):=fun b o e=>base_of (KX b o e) (by
      cases q:H b with
      | none=>rfl
      | some u=>
        have e':b=a:=hA b (by rw [q]; simp)
        subst e'
        rw [hK (by rw [q]; simp)] at e; cases e)
    have hM:Mod K mg (hidT s₁.heap H):=⟨hKb,nsK hns,⟨mb,nsK hb,hbb⟩,let ⟨mc,h1,h2⟩:=hlim; ⟨mc,nsK h1,h2⟩⟩
    have e0:Env0 P w K mg (hidT s₁.heap H) callerA [] s₁ H:=⟨rfl,hM,fun b o e=>of_hidT e,Nat.le_of_eq (hidT_size _ _),trivial,fun b hb=>absurd (show b∈([]:List Addr) from hb) (by simp),hok,.of_eq hg⟩
    refine codeAny_mono ((F _ hKb (nsK hns)).run callerA [] s₁ H ⟨[.ref a],[]⟩ [.ref a] [.ref a] _ _ hr e0 (hbind s₁ (.ref a)) (.cons rfl .nil) (hsp H hO hS)) fun r s' h=>?_
    cases r with
    | error e=>exact (hCX H e s' h).elim
    | ok fl=>
      cases fl with
      | next=>exact False.elim h
      | brk=>exact False.elim h
      | cont=>exact False.elim h
      | ret u=>
        obtain ⟨v,H',os,bare,un,hok',r',q⟩:=h
        have q':v=.bl true:=q
        subst q'
        obtain rfl:u=Value.bool true:=r'
        refine ⟨rfl,OldK.of_keep fun b o e=>?_,os,bare⟩
        cases q:H b with
        | none=>exact un.keep b o e q (by intro z; exact absurd (show b∈([]:List Addr) from z) (by simp)) (by simp)
        | some u=>
          rcases hO b with z | ⟨ob,xs,z⟩
          · rw [q] at z; cases z
          · have z2:=un.frzs b ob _ z
            obtain ⟨e1,_⟩:=hok b _ z
            obtain ⟨e2,_⟩:=hok' b _ z2
            rw [e] at e1; cases e1
            exact e2
  cases hk:K.lookup a with
  | some o=>
    -- the script is one of the module's own objects
    have e:=KX a o hk
    rw [ha] at e
    cases e
    refine core (fun _=>none) (fun _=>.inl rfl) (.inr ⟨_,vs.toArray,_,hk,rfl,rfl,rfl,by rw [List.size_toArray,lenV]; exact hl,by simpa using rv⟩) (fun b u z=>by have z':(none:Option HO)=some u:=z; cases z') (fun b z=>absurd rfl z) fun z=>absurd rfl z
  | none=>
    refine core (fun b=>if b=a then some (.frz { cls:=.type "list",data:=.seq vs.toArray } (.lst (ns.map V.int))) else none) (fun b=>?_) (.inl (.inr ⟨{ cls:=.type "list",data:=.seq vs.toArray },if_pos rfl⟩)) (fun b u z=>?_) (fun b z=>?_) fun _=>hk
    · by_cases hb:b=a
      · exact .inr ⟨_,_,if_pos hb⟩
      · exact .inl (if_neg hb)
    · by_cases hb:b=a
      · have z':=(if_pos hb).symm.trans z
        cases z'
        subst hb
        exact ⟨ha,by rw [List.length_map]; exact hl,vs,_,rv,ha⟩
      · have z':=(if_neg hb).symm.trans z
        cases z'
    · by_cases hb:b=a
      · exact hb
      · exact absurd (if_neg hb) z
end L2

namespace L2
open PySem PySem.Spec PyProof.Rows


theorem walk_of {l:PySem.W.OpenLaw}{n k:Nat}{q:Program}{loose:List Str}{XP:(Str→Option Value)→Heap→Prop}{YP:World→Heap→Prop}{d:DefRec}{K:Params→PySem.W.Frag}{CX:World→CXT}{sp:World→Sp}{x:Str}
    (hn:l.most=some n) (hn2:n≤sizeLine) (hdf:d.params.defaults=[]) (hr:Room k callerA)
    (hY:∀ (w:World) (h:Heap),YP w h→(K w.params).In h)
    (F:∀ (w:World) (mg:Str→Option Value) (fa:Addr) (h:Heap),(K w.params).In h→h.Ns mainGlobals mg→mg d.name=some (.ref fa)→
      ∃ fd:FuncData,(∀ (s:Shared) (u:Value),BindsTo s fd ⟨[u],[]⟩ [(x,u)]) ∧
        ∀ base:Heap,(K w.params).In base→base.Ns mainGlobals mg→FnOk l.prog w (K w.params) mg base (CX w) k fa fd [x] (sp w))
    (hsp:∀ (w:World) (H:Hp) (a:Addr) (ns:List Int),ns.length≤n→Only H→SqL (K w.params) H a (ns.map V.int)→sp w [.ref a] H (fun v _=>v=.bl true) fun _ _ _=>False)
    (hCX:∀ (w:World) (H:Hp) (s:Shared) (e:Value) (s':Shared),CX w [] H s (fun _ _ _=>False) e s'→False) :
    PySem.W.WalkO q loose XP YP l.row.toRowW d [] (fun f vs=>PySem.call f vs):=by
  refine Att.attach_call hn hdf fun w s₀ s₁ mg mb fa o pm cd doc a vs ns G Y ho hd hcd hmg hobj hints hlen hg=>?_
  have KX:=hY w _ Y
  obtain ⟨fd,hb,hF⟩:=F w mg fa _ KX G.T.g hmg
  exact law_call KX G.T.g G.T.b G.T.builtins G.T.nolimit hg hobj hints (Nat.le_trans hlen hn2) hr hF hb (fun H hO hS=>hsp w H a ns hlen hO hS) fun H e s'=>hCX w H s₁ e s'
end L2


namespace L2
open PySem PySem.Spec PyProof.Rows

noncomputable def defArgs (s:Stmt):Arguments:=match s with
  | .FunctionDef _ a _ _ _ _ _ _ _ _=>a
  | _=>{ posonlyargs:=[],args:=[],vararg:=none,kwonlyargs:=[],kw_defaults:=[],kwarg:=none,defaults:=[] }
noncomputable def defBody (s:Stmt):List Stmt:=match s with
  | .FunctionDef _ _ b _ _ _ _ _ _ _=>b
  | _=>[]
noncomputable def defScope (s:Stmt):Scope:=match s with
  | .FunctionDef _ _ _ _ _ _ sc _ _ _=>sc
  | _=>{ kind:=.function,names:=[],isGenerator:=false,isCoroutine:=false }

noncomputable abbrev CX0:CXT:=fun _ _ _ _ _ _=>False
noncomputable abbrev E0:XK:=fun _ _ _=>False
theorem pass0 {X:Cx}:Passes CX0 X E0:=fun _ _ _ _ _ _ _ h=>h.elim

structure Fun (K:PySem.W.Frag) (x qual:Str) (st:Stmt) (f:Addr) (fd:FuncData):Prop where
  ex:∃ (oc:Value) (od:Option Addr) (kV doc pm:Value) (an:Option Addr) (cdv ct:Value) (osl:Array (Option Value)),
    fd=PySem.W.fnOf x qual (defArgs st) (defBody st) (defScope st) .none kV doc pm an cdv ct∧K.lookup f=some ⟨oc,od,.func fd,osl⟩∧PySem.W.codeIn K cdv qual=true
  kp:PySem.W.keepIn K (.ref f)=true
section
variable {P:Program}{w:World}{K:PySem.W.Frag}{mg:Str→Option Value}{base:Heap}
end

section
variable {X:Cx}
end



end L2



namespace L2
open PySem PySem.Spec PyProof.Rows
section
variable {κ:Type} [DecidableEq κ]
noncomputable def valV (kvs:List (κ×V)) (k:κ):Option V:=(kvs.find? fun kv=>decide (kv.1=k)).map (·.2)
noncomputable def putK (kvs:List (κ×V)) (k:κ) (v:V):List (κ×V):=
 if (kvs.any fun kv=>decide (kv.1=k))=true then kvs.map (fun kv=>if kv.1=k then (kv.1,v) else kv) else kvs++[(k,v)]
theorem valV_pos {p:κ×V}{r:List (κ×V)}{k:κ} (e:p.1=k):valV (p :: r) k=some p.2:=by simp [valV,List.find?_cons,e]
theorem valV_neg {p:κ×V}{r:List (κ×V)}{k:κ} (e:¬p.1=k):valV (p :: r) k=valV r k:=by simp [valV,List.find?_cons,e]
theorem RelO.isSome_eq {o:Option V}{u:Option Value} (r:RelO o u):o.isSome=u.isSome:=by
 cases o with
 | none=>cases u with
  | none=>rfl
  | some _=>exact (show False from r).elim
 | some _=>cases u with
  | none=>exact (show False from r).elim
  | some _=>rfl
theorem KV.val {kvs:List (κ×V)}{vs:List (κ×Value)} (r:KV kvs vs) (k:κ):RelO (valV kvs k) (valueAt vs k):=by
 unfold KV at r
 induction r with
 | nil=>exact True.intro
 | @cons p q ps qs h t ih=>
  obtain ⟨h1,h2⟩:=h
  by_cases e:p.1=k
  ·have e':q.1=k:=h1.symm.trans e
   have b:valueAt (q :: qs) k=some q.2:=by simp [valueAt,List.find?_cons,e']
   rw [valV_pos e,b]; exact h2
  ·have e':¬q.1=k:=fun z=>e (h1.trans z)
   have b:valueAt (q :: qs) k=valueAt qs k:=by simp [valueAt,List.find?_cons,e']
   rw [valV_neg e,b]; exact ih
theorem KV.any {kvs:List (κ×V)}{vs:List (κ×Value)} (r:KV kvs vs) (k:κ):(kvs.any fun kv=>decide (kv.1=k))=vs.any fun kv=>decide (kv.1=k):=by
 unfold KV at r
 induction r with
 | nil=>rfl
 | cons h t ih=>rw [List.any_cons,List.any_cons,ih,h.1]
theorem KV.repl {kvs:List (κ×V)}{vs:List (κ×Value)} (r:KV kvs vs) (k:κ) {y:V}{u:Value} (ry:RelV y u) :
  KV (kvs.map fun kv=>if kv.1=k then (kv.1,y) else kv) (vs.map fun kv=>if kv.1=k then (kv.1,u) else kv):=by
 unfold KV at r ⊢
 induction r with
 | nil=>exact .nil
 | @cons p q ps qs h t ih=>
  rw [List.map_cons,List.map_cons]
  refine .cons ?_ ih
  obtain ⟨h1,h2⟩:=h
  by_cases e:p.1=k
  ·rw [if_pos e,if_pos (h1.symm.trans e)]; exact ⟨h1,ry⟩
  ·rw [if_neg e,if_neg (fun z=>e (h1.trans z))]; exact ⟨h1,h2⟩
theorem KV.put {kvs:List (κ×V)}{vs:List (κ×Value)} (r:KV kvs vs) (k:κ) {y:V}{u:Value} (ry:RelV y u):KV (putK kvs k y) (stored vs k u):=by
 unfold putK stored
 rw [r.any k]
 by_cases e:(vs.any fun kv=>decide (kv.1=k))=true
 ·rw [if_pos e,if_pos e]; exact r.repl k ry
 ·rw [if_neg e,if_neg e]; exact Paired.snoc r ⟨rfl,ry⟩
end
theorem kV_is {P:Program}{w:World}{k:Key}{u:Value} (r:RelV (kV k) u):(mixKind P w).is k u=true:=by
 cases k with
 | inl i=>obtain ⟨t,e⟩:=(show ∃ t,u=Value.int i t from r); subst e; exact mixKind_int P w i t
 | inr x=>obtain ⟨t,e⟩:=(show ∃ t,u=Value.str x t from r); subst e; exact mixKind_str P w x t
section
variable {P:Program}{w:World}{H:Hp}{h:Heap}{a:Addr}
theorem rd_of {u:HO} (ok:HOk P w H h) (e:Rd H a u):ObjOk P w H h a u:=e.ok ok
theorem dk_rd {kvs:List (Key×V)} (ok:HOk P w H h) (e:Rd H a (.dK kvs)):kvs.length≤sizeLine∧(a==sysModules)=false∧∃ vs,KV kvs vs∧h.DictOf (mixKind P w) a vs:=
 show ObjOk P w H h a (.dK kvs) from rd_of ok e
theorem dk_of {kvs:List (Key×V)} (ok:HOk P w H h) (e:H a=some (.dK kvs)):kvs.length≤sizeLine∧(a==sysModules)=false∧∃ vs,KV kvs vs∧h.DictOf (mixKind P w) a vs:=dk_rd ok (.inl e)
end
section
variable {X:Cx}{pins:List (Addr×Obj)}{σ:St}{H:Hp}{s:Shared}{a:Addr}{y v:V}{u r:Value}{o:Option V}{A:Around}{E:Value→Shared→Prop}
end
section
variable {X:Cx}
noncomputable def rIxD:R2:=fun x y H Q=>∃ p kvs k v,x=.ref p∧y=kV k∧H p=some (.dK kvs)∧valV kvs k=some v∧Q v H
theorem ix_dct:IxR X rIxD:=by
 intro value slice pins s σ H x y v u Q I rx ry h hs
 obtain ⟨p,kvs,k,z,rfl,rfl,hq,he,q⟩:=h
 cases rx
 obtain ⟨zz,hd,vs,rel,dd⟩:=dk_of I.hok hq
 obtain ⟨w',hw,rw'⟩:=RelO.some_of (v:=z) (o:=valueAt vs k) (by rw [←he]; exact rel.val k)
 exact tail_any dd.typeIs PySem.F.slot_dict_getitem.lookup (wpAny_getItem_of (kV_is ry) dd.mapOf hw ⟨z,H,I.tok _,rw',q⟩) hs
noncomputable def rInD:R2:=fun x y H Q=>∃ p kvs k,y=.ref p∧x=kV k∧H p=some (.dK kvs)∧Q (.bl (valV kvs k).isSome) H
theorem op_in_dct:OpR X (compareOp .In) rInD:=by
 intro pins s σ H x y v u Q I rx ry h
 obtain ⟨p,kvs,k,rfl,rfl,hq,q⟩:=h
 cases ry
 obtain ⟨zz,hd,vs,rel,dd⟩:=dk_of I.hok hq
 refine wpAny_in_of (kV_is rx) hd dd.mapOf ?_
 rw [←(rel.val k).isSome_eq]
 exact ⟨.bl (valV kvs k).isSome,H,I.tok _,rfl,q⟩
end
end L2


namespace Dp
open PySem
noncomputable abbrev S (x:String):Str:=Str.ofString x

inductive D where
 | non | bl (b:Bool) | int (i:Int) | str (x:Str) | tup (xs:List D) | lst (id:Nat) | dct (ks:List Str) (vs:List D) | obj (i:Nat) | kt (ks:List Str)

noncomputable abbrev Env:=List (Option D)
noncomputable abbrev JV:=Bool×List D
noncomputable abbrev Za:=List JV
noncomputable abbrev Res:=Option (D×Za)
noncomputable abbrev Fn:=List D→Za→Res

mutual
noncomputable def Z2:D→D→Bool
 | .non,.non=>true
 | .bl a,.bl b=>a==b
 | .int a,.int b=>decide (a=b)
 | .str a,.str b=>decide (a=b)
 | .tup a,.tup b=>Z8 a b
 | _,_=>false
noncomputable def Z8:List D→List D→Bool
 | [],[]=>true
 | x :: xs,y :: ys=>Z2 x y&&Z8 xs ys
 | _,_=>false
end
mutual
noncomputable def okD:Nat→D→Bool
 | _,.non=>true
 | _,.int _=>true
 | _,.str _=>true
 | n+1,.tup xs=>YQ n xs
 | _,_=>false
noncomputable def YQ:Nat→List D→Bool
 | _,[]=>true
 | n,x :: xs=>okD n x&&YQ n xs
end
noncomputable def eqD:D→D→Option Bool
 | .bl a,.bl b=>some (a==b)
 | .bl _,.str _=>some false
 | .str _,.bl _=>some false
 | .bl _,.non=>some false
 | .non,.bl _=>some false
 | .non,.non=>some true
 | .non,.int _=>some false
 | .non,.str _=>some false
 | .int _,.non=>some false
 | .str _,.non=>some false
 | .int a,.int b=>some (decide (a=b))
 | .str a,.str b=>some (decide (a=b))
 | .int _,.str _=>some false
 | .str _,.int _=>some false
 | .tup xs,.tup ys=>if okD 8 (.tup xs)&&okD 8 (.tup ys) then some (Z8 xs ys) else none
 | _,_=>none

inductive Ty where
 | int | bool | str | tuple
 deriving DecidableEq

set_option genInjectivity false in
inductive CE where
 | var (i:Nat) | cst (d:D)
 | bin (op:Operator) (a b:CE) | neg (a:CE)
 | cmp (op:CmpOp) (a b:CE)
 | not (a:CE) | and (a b:CE) | or (a b:CE) | ife (c a b:CE)
 | tupE (a:CE) | lstE (a:CE) | anil | acons (a r:CE)
 | ix (a b:CE) | slice (a lo hi:CE) | nop | part (a:CE)
 | call (f:Nat) (args:CE) (ds:List D)
 | len (a:CE) | tupleOf (a:CE) | listOf (a:CE) | intOf (a:CE) | min (a b:CE) | max (a b:CE) | isi (T:Ty) (a:CE)
 | comp (rng:Bool) (fr:List Nat) (it elt Xn:CE) | comp2 (fr:List Nat) (it elt Xn:CE) | compT (fr:List Nat) (it elt Xn:CE) | lstR (a b:CE) | new (i:Nat) | meth (tab:List (Nat×Nat)) (o a:CE) | isc (l:List Nat) (a:CE) | tix (o a:CE)
 | rs (k:Bool) (a:CE)
 | inv (a:CE) | tupR (a:CE) | look (ks:List Str) (ds:List D) (a:CE) | dget (a k d:CE) | all (a:CE) | any (a:CE) | inR (ng:Bool) (a b:CE)
 | dict (ks:List Str) (a:CE)

set_option genInjectivity false in
inductive CS where
 | skip | seq (a b:CS) | ret (e:CE) | set (i:Nat) (e:CE) | app (i:Nat) (e:CE) | ext (i:Nat) (e:CE) | put (i:Nat) (k e:CE)
 | ite (c:CE) (a b:CS) | for1 (i:Nat) (rng:Bool) (it:CE) (b:CS) | for3 (i:Nat) (it:CE) (b:CS) | forP (i j:Nat) (it:CE) (b:CS) | forE (i j:Nat) (it:CE) (b:CS) | set2 (i j:Nat) (e:CE) | for4 (i j l:Nat) (it:CE) (b:CS) | for2 (i j:Nat) (it:CE) (b:CS) | whl (c:CE) (b:CS) | brk | cont | stop | set3 (i j l:Nat) (e:CE) | act (e:CE)

noncomputable def ZW (i:Int):Bool:=decide (-(2 ^ 64) < i)&&decide (i < 2 ^ 64)
noncomputable def Zo:Nat:=1000000

noncomputable def Zc2 (op:Operator) (i j:Int):Option Int:=
 match op with
 | .Add=>some (i+j)
 | .Sub=>some (i - j)
 | .Mult=>if ZW i||ZW j then some (i * j) else none
 | .FloorDiv=>if 0 < j∧j < 1073741824 then some (i / j) else if j < 0∧-1073741824 < j then some (i.fdiv j) else none
 | .Mod=>if 0 < j then some (i % j) else if j < 0 then some (i.fmod j) else none
 | .LShift=>if 0≤j∧j≤1000∧ZW i=true then some (i * 2 ^ j.toNat) else none
 | _=>none
noncomputable def Vc:Operator→Bool
 | .Add=>true
 | _=>false
noncomputable def Ve:Operator→Bool
 | .Mult=>true
 | _=>false
noncomputable def Ze7 (a b:Nat) (st:Za):Res:=match st[a]?,st[b]? with
 | some (_,xs),some (_,ys)=>if xs.length+ys.length≤Zo then some (.lst st.length,st++[(true,xs++ys)]) else none
 | _,_=>none
noncomputable def Zf1 (a:Nat) (j:Int) (st:Za):Res:=match st[a]? with
 | some (true,[x])=>if j≤1000∧-1000≤j then some (.lst st.length,st++[(true,List.replicate j.toNat x)]) else none
 | _=>none
noncomputable def VA (op:Operator) (x y:D) (st:Za):Res:=
 match x,y with
 | .int i,.int j=>match Zc2 op i j with
  | some k=>some (.int k,st)
  | none=>none
 | .tup xs,.tup ys=>if Vc op=true∧xs.length+ys.length≤Zo then some (.tup (xs++ys),st) else none
 | .tup [x],.int j=>if Ve op=true∧(j≤1000∧-1000≤j) then some (.tup (List.replicate j.toNat x),st) else none
 | .lst a,.lst b=>if Vc op=true then Ze7 a b st else none
 | .lst a,.int j=>if Ve op=true then Zf1 a j st else none
 | _,_=>none

noncomputable def JH (_:Za) (_ _:List D):Option Bool:=none
noncomputable def eqS (st:Za) (x y:D):Option Bool:=
 match x,y with
 | .lst a,.lst b=>match st[a]?,st[b]? with
  | some (_,xs),some (_,[])=>some xs.isEmpty
  | some (_,[]),some (_,ys)=>some ys.isEmpty
  | some (_,xs),some (_,ys)=>if YQ 7 xs&&YQ 7 ys then some (Z8 xs ys) else none
  | _,_=>none
 | .tup xs,.tup ys=>match eqD (.tup xs) (.tup ys) with
  | some k=>some k
  | none=>JH st xs ys
 | x,y=>eqD x y

noncomputable def Xf:Int→List D→Option Bool
 | _,[]=>some false
 | k,.int i :: r=>(Xf k r).map fun b=>decide (i=k)||b
 | _,_=>none
noncomputable def Xg:Str→List D→Option Bool
 | _,[]=>some false
 | k,.str i :: r=>(Xg k r).map fun b=>decide (i=k)||b
 | _,_=>none

noncomputable def ZS:List Str→List D→Str→Option D
 | k :: ks,v :: vs,x=>if k=x then some v else ZS ks vs x
 | _,_,_=>none
noncomputable def Q3 (f:Int→Int→Bool):D→D→Option Bool
 | .int i,.int j=>some (f i j)
 | _,_=>none
noncomputable def ltD (x y:D):Option Bool:=Q3 (fun i j=>decide (i < j)) x y
noncomputable def ltS (_:Za) (x y:D):Option Bool:=ltD x y
noncomputable def inS (st:Za) (x y:D):Option Bool:=match x,y with
 | .int k,.lst a=>match st[a]? with
  | some (_,xs)=>Xf k xs
  | none=>none
 | .str k,.lst a=>match st[a]? with
  | some (_,xs)=>Xg k xs
  | none=>none
 | .int k,.tup xs=>Xf k xs
 | .str k,.tup xs=>Xg k xs
 | .str k,.dct ks vs=>some (ZS ks vs k).isSome
 | _,_=>none
noncomputable def niS (st:Za) (x y:D):Option Bool:=match y with
 | .dct _ _=>none
 | y=>(inS st x y).map not
noncomputable def isN:D→Option Bool
 | .non=>some true
 | .int _=>some false
 | .str _=>some false
 | .bl _=>some false
 | .tup _=>some false
 | .lst _=>some false
 | .dct _ _=>none
 | .obj _=>none
 | .kt _=>none
noncomputable def isB (b:Bool):D→Option Bool
 | .bl a=>some (a==b)
 | _=>none
noncomputable def isD (x:D):D→Option Bool
 | .non=>isN x
 | .bl b=>isB b x
 | _=>none
noncomputable def Ze8 (op:CmpOp) (x y:D) (st:Za):Option Bool:=
 match op with
 | .Lt=>ltS st x y
 | .LtE=>Q3 (fun i j=>decide (i≤j)) x y
 | .Gt=>Q3 (fun i j=>decide (j < i)) x y
 | .GtE=>Q3 (fun i j=>decide (j≤i)) x y
 | .Eq=>eqS st x y
 | .NotEq=>(eqS st x y).map not
 | .In=>inS st x y
 | .NotIn=>niS st x y
 | .Is=>isD x y
 | .IsNot=>(isD x y).map not

noncomputable def ixN (n:Nat) (i:Int):Option Nat:=if 0≤i then (if i < n then some i.toNat else none) else if -(n:Int)≤i then some (i+n).toNat else none
noncomputable def atD (xs:List D) (i:Int):Option D:=(ixN xs.length i).bind fun j=>xs[j]?
noncomputable def ixD (x y:D) (st:Za):Option D:=
 match x,y with
 | .tup xs,.int i=>atD xs i
 | .lst a,.int i=>match st[a]? with
  | some (_,xs)=>atD xs i
  | none=>none
 | .dct ks vs,.str k=>ZS ks vs k
 | .kt ks,.int i=>atD (ks.map .str) i
 | _,_=>none

noncomputable def sIx (n d:Nat):Option Int→Nat
 | none=>d
 | some i=>if i < 0 then (i+n).toNat else Nat.min i.toNat n
noncomputable def Zad (xs:List D) (lo hi:Option Int):List D:=(xs.drop (sIx xs.length 0 lo)).take (sIx xs.length xs.length hi - sIx xs.length 0 lo)
noncomputable def Yy (x:D) (lo hi:Option Int) (st:Za):Res:=
 match x with
 | .tup xs=>if sIx xs.length 0 lo=0∧sIx xs.length xs.length hi=xs.length then some (.tup xs,st) else some (.tup (Zad xs lo hi),st)
 | .lst a=>match st[a]? with
  | some (_,xs)=>some (.lst st.length,st++[(true,Zad xs lo hi)])
  | none=>none
 | _=>none

noncomputable def Zft (x:D) (st:Za):Option Int:=
 match x with
 | .tup xs=>some xs.length
 | .lst a=>match st[a]? with
  | some (_,xs)=>some xs.length
  | none=>none
 | .kt ks=>some ks.length
 | _=>none

noncomputable def U7:Ty→D→Option Bool
 | .int,.int _=>some true
 | .int,.bl _=>some true
 | .int,.str _=>some false
 | .int,.tup _=>some false
 | .int,.non=>some false
 | .bool,.bl _=>some true
 | .bool,.int _=>some false
 | .bool,.str _=>some false
 | .bool,.tup _=>some false
 | .bool,.non=>some false
 | .str,.str _=>some true
 | .str,.int _=>some false
 | .str,.bl _=>some false
 | .str,.tup _=>some false
 | .str,.non=>some false
 | .tuple,.tup _=>some true
 | .tuple,.int _=>some false
 | .tuple,.bl _=>some false
 | .tuple,.str _=>some false
 | .tuple,.non=>some false
 | _,_=>none

noncomputable def Xv (rng:Bool) (x:D):Option (List D):=
 match rng,x with
 | true,.int n=>if n < 2 ^ 62∧-(2 ^ 62)≤n then some ((List.range n.toNat).map fun (k:Nat)=>D.int (k:Int)) else none
 | false,.tup xs=>some xs
 | _,_=>none

noncomputable def YA (ok:Za→Prop) (f:D→Za→Res) (c:D→Za→Res):List D→Za→Option (List D×Za)
 | [],st=>open Classical in if ok st then some ([],st) else none
 | x :: xs,st=>open Classical in if ok st then (match c x st with
  | some (.bl true,st1)=>match f x st1 with
   | some (y,st2)=>match YA ok f c xs st2 with
    | some (ys,st3)=>some (y :: ys,st3)
    | none=>none
   | none=>none
  | some (.bl false,st1)=>YA ok f c xs st1
  | _=>none) else none
noncomputable def JR (rng:Bool) (x:D) (st:Za):Option (List D×(Za→Prop)):=match Xv rng x with
 | some xs=>some (xs,fun _=>True)
 | none=>match rng,x with
  | false,.lst a=>match st[a]? with
   | some c=>some (c.2,fun s=>s[a]?=some c)
   | none=>none
  | _,_=>none



noncomputable abbrev Ev:=Env→Za→Res
noncomputable def Yb (fa:Ev) (g:D→Za→Res):Ev:=fun ρ st=>match fa ρ st with
 | some (x,st1)=>g x st1
 | none=>none
noncomputable def Yf (fa fb:Ev) (g:D→D→Za→Res):Ev:=fun ρ st=>match fa ρ st with
 | some (x,st1)=>match fb ρ st1 with
  | some (y,st2)=>g x y st2
  | none=>none
 | none=>none
noncomputable def Qo (fa fb fc:Ev) (g:D→D→D→Za→Res):Ev:=fun ρ st=>match fa ρ st with
 | some (x,st1)=>match fb ρ st1 with
  | some (y,st2)=>match fc ρ st2 with
   | some (z,st3)=>g x y z st3
   | none=>none
  | none=>none
 | none=>none
noncomputable def Xn (fc ft ff:Ev):Ev:=fun ρ st=>match fc ρ st with
 | some (.bl true,st1)=>ft ρ st1
 | some (.bl false,st1)=>ff ρ st1
 | _=>none
noncomputable def Y6 (i:Nat):Ev:=fun ρ st=>match ρ[i]? with
 | some (some d)=>some (d,st)
 | _=>none
noncomputable def evC (d:D):Ev:=fun _ st=>some (d,st)
noncomputable def ZdM:D→Za→Res
 | .int i,st=>some (.int (-i),st)
 | _,_=>none
noncomputable def Zat:D→Za→Res
 | .bl k,st=>some (.bl (!k),st)
 | _,_=>none
noncomputable def WI (op:CmpOp) (x y:D) (st:Za):Res:=match Ze8 op x y st with
 | some k=>some (.bl k,st)
 | none=>none
noncomputable def ZbA:D→Za→Res
 | .tup xs,st=>some (.lst st.length,st++[(true,xs)])
 | _,_=>none
noncomputable def Wx:D→D→Za→Res
 | x,.tup xs,st=>if xs.length < 1000 then some (.tup (x :: xs),st) else none
 | _,_,_=>none
noncomputable def ixR (x y:D) (st:Za):Res:=match ixD x y st with
 | some d=>some (d,st)
 | none=>none
noncomputable def X3:D→D→D→Za→Res
 | x,.non,.non,st=>Yy x none none st
 | x,.int i,.non,st=>Yy x (some i) none st
 | x,.non,.int j,st=>Yy x none (some j) st
 | x,.int i,.int j,st=>Yy x (some i) (some j) st
 | _,_,_,_=>none
noncomputable def JI:D→Za→Res
 | .int i,st=>some (.int i,st)
 | _,_=>none
noncomputable def UQ (g:Fn) (ds:List D):D→Za→Res
 | .tup xs,st=>g (xs++ds) st
 | _,_=>none
noncomputable def JF (F:Nat→Fn) (tab:List (Nat×Nat)):D→D→Za→Res
 | .obj i,.tup xs,st=>match tab.lookup i with
  | some j=>F j (.obj i :: xs) st
  | none=>none
 | _,_,_=>none
noncomputable def Uk (k:Str):List Str→Option Nat
 | []=>none
 | a :: r=>if a=k then some 0 else (Uk k r).map (·+1)
noncomputable def Zeq:D→D→Za→Res
 | .kt ks,.tup [.str k],st=>match Uk k ks with
  | some i=>some (.int (i:Int),st)
  | none=>none
 | _,_,_=>none
noncomputable def Zao (x:D) (st:Za):Res:=match Zft x st with
 | some n=>some (.int n,st)
 | none=>none
noncomputable def Ww:D→Za→Res
 | .tup xs,st=>some (.tup xs,st)
 | .lst l,st=>match st[l]? with
  | some (_,xs)=>some (.tup xs,st)
  | none=>none
 | _,_=>none
noncomputable def V0:D→Za→Res
 | .tup xs,st=>some (.lst st.length,st++[(true,xs)])
 | .lst l,st=>match st[l]? with
  | some (_,xs)=>some (.lst st.length,st++[(true,xs)])
  | none=>none
 | _,_=>none
noncomputable def ZdK:D→D→Za→Res
 | .int i,.int j,st=>some (.int (if j < i then j else i),st)
 | _,_,_=>none
noncomputable def ZdH:D→D→Za→Res
 | .int i,.int j,st=>some (.int (if j > i then j else i),st)
 | _,_,_=>none
noncomputable def Zak (T:Ty) (x:D) (st:Za):Res:=match U7 T x with
 | some k=>some (.bl k,st)
 | none=>none
noncomputable def V1 (ks:List Str) (ds:List D):D→Za→Res
 | .str k,st=>match ZS ks ds k with
  | some d=>some (d,st)
  | none=>none
 | _,_=>none
noncomputable def getD:D→D→D→Za→Res
 | .dct ks vs,.str k,d,st=>some ((ZS ks vs k).getD d,st)
 | _,_,_,_=>none
noncomputable def Zfq (ng:Bool):D→D→Za→Res
 | .int x,.int n,st=>if -(2 ^ 62)≤n∧n < 2 ^ 62 then some (.bl (ng != decide (0≤x∧x < n)),st) else none
 | _,_,_=>none
noncomputable def one (d:D):List (Option D):=[some d]
noncomputable def two:D→List (Option D)
 | .tup [a,b]=>[some a,some b]
 | _=>[]
noncomputable def Y0 (b:D→List (Option D)) (ρ:Env) (fr:List Nat) (d:D):Env:=b d++fr.map fun i=>(ρ[i]?).join
noncomputable def W7 (b:D→List (Option D)) (w:D→Za→Option (List D×(Za→Prop))) (fr:List Nat) (fi fe fc:Ev):Ev:=fun ρ st=>match fi ρ st with
 | some (x,st1)=>match w x st1 with
  | some (xs,ok)=>if xs.length≤1000 then
    match YA ok (fun d s=>fe (Y0 b ρ fr d) s) (fun d s=>fc (Y0 b ρ fr d) s) xs st1 with
    | some (ys,st2)=>some (.lst st2.length,st2++[(true,ys)])
    | none=>none
   else none
  | none=>none
 | none=>none

noncomputable def ev (F:Nat→Fn):CE→Ev
 | .var i=>Y6 i
 | .cst d=>evC d
 | .bin op a b=>Yf (ev F a) (ev F b) (VA op)
 | .neg a=>Yb (ev F a) ZdM
 | .cmp op a b=>Yf (ev F a) (ev F b) (WI op)
 | .not a=>Yb (ev F a) Zat
 | .and a b=>Xn (ev F a) (ev F b) (evC (.bl false))
 | .or a b=>Xn (ev F a) (evC (.bl true)) (ev F b)
 | .ife c a b=>Xn (ev F c) (ev F a) (ev F b)
 | .tupE a=>ev F a
 | .lstE a=>Yb (ev F a) ZbA
 | .anil=>evC (.tup [])
 | .acons a r=>Yf (ev F a) (ev F r) Wx
 | .ix a b=>Yf (ev F a) (ev F b) ixR
 | .slice a lo hi=>Qo (ev F a) (ev F lo) (ev F hi) X3
 | .nop=>evC .non
 | .part a=>Yb (ev F a) JI
 | .call f a ds=>Yb (ev F a) (UQ (F f) ds)
 | .len a=>Yb (ev F a) Zao
 | .tupleOf a=>Yb (ev F a) Ww
 | .listOf a=>Yb (ev F a) V0
 | .intOf _=>fun _ _=>none
 | .min a b=>Yf (ev F a) (ev F b) ZdK
 | .max a b=>Yf (ev F a) (ev F b) ZdH
 | .isi T a=>Yb (ev F a) (Zak T)
 | .rs _ _=>fun _ _=>none
 | .inv _=>fun _ _=>none
 | .tupR _=>fun _ _=>none
 | .look ks ds a=>Yb (ev F a) (V1 ks ds)
 | .dget _ _ _=>fun _ _=>none
 | .inR ng a b=>Yf (ev F a) (ev F b) (Zfq ng)
 | .all _=>fun _ _=>none
 | .any _=>fun _ _=>none
 | .comp rng fr it elt cnd=>W7 one (JR rng) fr (ev F it) (ev F elt) (ev F cnd)
 | .comp2 _ _ _ _=>fun _ _=>none
 | .compT _ _ _ _=>fun _ _=>none
 | .lstR _ _=>fun _ _=>none
 | .new i=>evC (.obj i)
 | .meth tab o a=>Yf (ev F o) (ev F a) (JF F tab)
 | .isc _ _=>fun _ _=>none
 | .tix o a=>Yf (ev F o) (ev F a) Zeq
 | .dict _ _=>fun _ _=>none

inductive Fl where
 | nx (ρ:Env) | rt (d:D) | bk (ρ:Env) | ct (ρ:Env)

noncomputable def ZB (ρ:Env) (i:Nat) (d:D):Env:=ρ.set i (some d)

noncomputable def Yo (body:D→Env→Za→Option (Fl×Za)):List D→Env→Za→Option (Fl×Za)
 | [],ρ,st=>some (.nx ρ,st)
 | d :: ds,ρ,st=>match body d ρ st with
  | some (.nx ρ',st')=>Yo body ds ρ' st'
  | some (.ct ρ',st')=>Yo body ds ρ' st'
  | some (.bk ρ',st')=>some (.nx ρ',st')
  | some (.rt v,st')=>some (.rt v,st')
  | none=>none
noncomputable def Z4 (body:D→Env→Za→Option (Fl×Za)) (a:Nat):Nat→Nat→Env→Za→Option (Fl×Za)
 | 0,i,ρ,st=>match st[a]? with
  | some (_,xs)=>if xs.length≤i then some (.nx ρ,st) else none
  | none=>none
 | n+1,i,ρ,st=>match st[a]? with
  | some (_,xs)=>match xs[i]? with
   | none=>some (.nx ρ,st)
   | some d=>match body d ρ st with
    | some (.nx ρ',st')=>Z4 body a n (i+1) ρ' st'
    | some (.ct ρ',st')=>Z4 body a n (i+1) ρ' st'
    | some (.bk ρ',st')=>some (.nx ρ',st')
    | some (.rt v,st')=>some (.rt v,st')
    | none=>none
  | none=>none

noncomputable abbrev Ex:=Env→Za→Option (Fl×Za)
noncomputable def Zax (f g:Ex):Ex:=fun ρ st=>match f ρ st with
 | some (.nx ρ',st')=>g ρ' st'
 | r=>r
noncomputable def Zcp (f:Ev):Ex:=fun ρ st=>match f ρ st with
 | some (d,st')=>some (.rt d,st')
 | none=>none
noncomputable def Qr (i:Nat) (f:Ev):Ex:=fun ρ st=>match f ρ st with
 | some (d,st')=>some (.nx (ZB ρ i d),st')
 | none=>none
noncomputable def Qp (i j:Nat) (f:Ev):Ex:=fun ρ st=>match f ρ st with
 | some (.tup [x,y],st')=>some (.nx (ZB (ZB ρ i x) j y),st')
 | _=>none
noncomputable def Qq (i j l:Nat) (f:Ev):Ex:=fun ρ st=>match f ρ st with
 | some (.tup [x,y,z],st')=>some (.nx (ZB (ZB (ZB ρ i x) j y) l z),st')
 | _=>none
noncomputable def ZaI (f:Ev):Ex:=fun ρ st=>match f ρ st with
 | some (_,st')=>some (.nx ρ,st')
 | none=>none
noncomputable def ZcY (a:Nat) (d:D) (st:Za):Option Za:=match st[a]? with
 | some (true,xs)=>if xs.length < Zo then some (st.set a (true,xs++[d])) else none
 | _=>none
noncomputable def UH (a:Nat) (j:Int) (d:D) (st:Za):Option Za:=match st[a]? with
 | some (true,xs)=>match ixN xs.length j with
  | some p=>some (st.set a (true,xs.set p d))
  | none=>none
 | _=>none
noncomputable def ZaM (i:Nat) (f:Ev):Ex:=fun ρ st=>match ρ[i]? with
 | some (some (.lst a))=>match f ρ st with
  | some (d,st')=>match ZcY a d st' with
   | some st2=>some (.nx ρ,st2)
   | none=>none
  | none=>none
 | _=>none
noncomputable def Zff (a b:Nat) (st:Za):Option Za:=match st[a]?,st[b]? with
 | some (true,xs),some (true,ys)=>if xs.length+ys.length≤Zo then some (st.set a (true,xs++ys)) else none
 | _,_=>none
noncomputable def Za5 (i:Nat) (f:Ev):Ex:=fun ρ st=>match ρ[i]? with
 | some (some (.lst a))=>match f ρ st with
  | some (.lst b,st')=>match Zff a b st' with
   | some st2=>some (.nx ρ,st2)
   | none=>none
  | _=>none
 | _=>none
noncomputable def Zci (i:Nat) (k f:Ev):Ex:=fun ρ st=>match f ρ st with
 | some (d,st1)=>match ρ[i]? with
  | some (some (.lst a))=>match k ρ st1 with
   | some (.int j,st2)=>match UH a j d st2 with
    | some st3=>some (.nx ρ,st3)
    | none=>none
   | _=>none
  | _=>none
 | none=>none
noncomputable def Zal (c:Ev) (f g:Ex):Ex:=fun ρ st=>match c ρ st with
 | some (.bl true,st1)=>f ρ st1
 | some (.bl false,st1)=>g ρ st1
 | _=>none
noncomputable def UZ (i:Nat) (rng:Bool) (it:Ev) (b:Ex):Ex:=fun ρ st=>match it ρ st with
 | some (x,st1)=>match Xv rng x with
  | some xs=>Yo (fun d ρ s=>b (ZB ρ i d) s) xs ρ st1
  | none=>match rng,x with
   | false,.lst a=>match st1[a]? with
    | some (_,xs)=>Z4 (fun d ρ s=>b (ZB ρ i d) s) a xs.length 0 ρ st1
    | none=>none
   | _,_=>none
 | none=>none
noncomputable def YF (ok:Za→Prop) (body:D→D→Env→Za→Option (Fl×Za)):List (D×D)→Env→Za→Option (Fl×Za)
 | [],ρ,st=>open Classical in if ok st then some (.nx ρ,st) else none
 | p :: ps,ρ,st=>open Classical in if ok st then (match body p.1 p.2 ρ st with
  | some (.nx ρ',st')=>YF ok body ps ρ' st'
  | some (.ct ρ',st')=>YF ok body ps ρ' st'
  | some (.bk ρ',st')=>some (.nx ρ',st')
  | some (.rt v,st')=>some (.rt v,st')
  | none=>none) else none
noncomputable def UY (i j:Nat) (it:Ev) (b:Ex):Ex:=fun ρ st=>match it ρ st with
 | some (.tup [.lst la,.lst lb],st1)=>match st1[la]?,st1[lb]? with
  | some ca,some cb=>YF (fun s=>s[la]?=some ca∧s[lb]?=some cb) (fun x y ρ s=>b (ZB (ZB ρ i x) j y) s) (ca.2.zip cb.2) ρ st1
  | _,_=>none
 | _=>none
noncomputable def VS:Nat→List D→List (D×D)
 | _,[]=>[]
 | k,x :: xs=>(.int (k:Int),x) :: VS (k+1) xs
noncomputable def ZeL (x:D) (st:Za):Option (List D×(Za→Prop)):=match x with
 | .tup xs=>some (xs,fun _=>True)
 | .lst a=>match st[a]? with
  | some c=>some (c.2,fun s=>s[a]?=some c)
  | none=>none
 | _=>none
noncomputable def VX (i j:Nat) (it:Ev) (b:Ex):Ex:=fun ρ st=>match it ρ st with
 | some (x,st1)=>match ZeL x st1 with
  | some (xs,ok)=>YF ok (fun x y ρ s=>b (ZB (ZB ρ i x) j y) s) (VS 0 xs) ρ st1
  | none=>none
 | none=>none
noncomputable def Zgp (i j l:Nat) (b:Ex) (d:D) (ρ:Env) (s:Za):Option (Fl×Za):=match d with
 | .tup [x,y,z]=>b (ZB (ZB (ZB ρ i x) j y) l z) s
 | _=>none
noncomputable def UX (i j l:Nat) (it:Ev) (b:Ex):Ex:=fun ρ st=>match it ρ st with
 | some (.tup xs,st1)=>Yo (Zgp i j l b) xs ρ st1
 | _=>none


noncomputable def ex (F:Nat→Fn):CS→Ex
 | .skip=>fun ρ st=>some (.nx ρ,st)
 | .seq a b=>Zax (ex F a) (ex F b)
 | .ret e=>Zcp (ev F e)
 | .set i e=>Qr i (ev F e)
 | .app i e=>ZaM i (ev F e)
 | .ext i e=>Za5 i (ev F e)
 | .put i k e=>Zci i (ev F k) (ev F e)
 | .ite c a b=>Zal (ev F c) (ex F a) (ex F b)
 | .for1 i rng it b=>UZ i rng (ev F it) (ex F b)
 | .forP i j it b=>UY i j (ev F it) (ex F b)
 | .forE i j it b=>VX i j (ev F it) (ex F b)
 | .for3 _ _ _=>fun _ _=>none
 | .set2 i j e=>Qp i j (ev F e)
 | .for4 i j l it b=>UX i j l (ev F it) (ex F b)
 | .for2 _ _ _ _=>fun _ _=>none
 | .whl _ _=>fun _ _=>none
 | .brk=>fun ρ st=>some (.bk ρ,st)
 | .cont=>fun ρ st=>some (.ct ρ,st)
 | .stop=>fun _ _=>none
 | .set3 i j l e=>Qq i j l (ev F e)
 | .act e=>ZaI (ev F e)

structure FD where
 ps:Nat
 ns:Nat
 body:CS
noncomputable def fnD (F:Nat→Fn) (f:FD):Fn:=fun ds st=>
 if ds.length=f.ps then
  match ex F f.body (ds.map some++List.replicate (f.ns - ds.length) none) st with
  | some (.rt d,st')=>some (d,st')
  | some (.nx _,st')=>some (.non,st')
  | _=>none
 else none
noncomputable def run (T:Nat→Option FD):Nat→Nat→Fn
 | 0,_=>fun _ _=>none
 | n+1,i=>match T i with
  | some f=>fnD (run T n) f
  | none=>fun _ _=>none

inductive GV where
 | fn (i:Nat) (ps:Nat) (ds:List D) | cst (d:D) | blt | dct (ks:List Str) (ds:List D) | cls (i:Nat) (ms:List (Str×Nat×Nat)) (subs:List Nat)
noncomputable abbrev Gs:=List (Str×GV)

noncomputable def CE.ofConst:Const→Option CE
 | .none=>some (.cst .non)
 | .bool b=>some (.cst (.bl b))
 | .int i=>some (.cst (.int i))
 | .str x=>some (.cst (.str x))
 | _=>none
noncomputable def Wb (sc:Scope) (x:Str):Bool:=!(x==("__debug__":Str))&&!(x==("__classdict__":Str))&&match sc.names.lookup x with
 | some .local=>true
 | some .cell=>true
 | some .free=>true
 | _=>false
noncomputable def ZN (sc:Scope) (x:Str):Bool:=!(x==("__debug__":Str))&&match sc.names.lookup x with
 | some .globalImplicit=>true
 | _=>false
noncomputable def Zh0 (x:Str):Option Ty:=
 if x = "int" then some .int else if x = "bool" then some .bool else if x = "str" then some .str else if x = "tuple" then some .tuple else none
noncomputable def Z3 (sc:Scope):List Str:=(sc.names.filter fun p=>decide (p.2=.free)).map (·.1)

noncomputable def ZeY (f:Str) (x:CE):Option CE:=
 if f = "len" then some (.len x) else if f = "tuple" then some (.tupleOf x) else if f = "list" then some (.listOf x) else none
noncomputable def ZeZ (f:Str) (x y:CE):Option CE:=if f = "min" then some (.min x y) else if f = "max" then some (.max x y) else none
noncomputable def WA (G:Gs) (x:Str):Bool:=match G.lookup x with
 | some .blt=>true
 | _=>false
noncomputable def Zgq (G:Gs) (sc:Scope) (t:Str):Option Ty:=if ZN sc t&&WA G t then Zh0 t else none
noncomputable def JQ (G:Gs) (sc:Scope):Expr→Option Ty
 | .Name t _=>Zgq G sc t
 | _=>none
noncomputable def QL (_:Gs) (_:Scope) (_:Expr):Option (List Nat):=none
noncomputable def ZeE (m:Str) (k:Nat) (G:Gs) (x:Str):Option (Nat×Nat):=match G.lookup x with
 | some (.cls i ms _)=>(match ms.lookup m with
  | some (j,ps)=>if ps=k+1 then some (i,j) else none
  | none=>none)
 | _=>none
noncomputable def XH (m:Str) (k:Nat) (G:Gs):List (Nat×Nat):=(G.map Prod.fst).filterMap (ZeE m k G)
noncomputable def Ya (G:Gs) (sc:Scope):Expr→Option Expr
 | .Call (.Name f _) [a] [] _=>if f = "range"∧ZN sc f=true∧WA G f=true then some a else none
 | _=>none
noncomputable def Jj (_:Gs) (_:Scope) (_:Str) (_:Expr):Option Expr:=none
noncomputable def Q0 (_:Gs) (_:Scope) (_:Str) (_:Expr):Option (Expr×Expr):=none
noncomputable def o2 {α β γ:Type} (f:α→β→γ):Option α→Option β→Option γ
 | some x,some y=>some (f x y)
 | _,_=>none
noncomputable def o3 {α β γ δ:Type} (f:α→β→γ→δ):Option α→Option β→Option γ→Option δ
 | some x,b,c=>o2 (f x) b c
 | none,_,_=>none
noncomputable def og {α:Type} (p:Prop) [Decidable p] (o:Option α):Option α:=if p then o else none
theorem Uw {α γ:Type}{P:γ→Prop}{f:α→γ}{a:Option α}{c:γ} (h:a.map f=some c) (k:∀ x,a=some x→P (f x)):P c:=by
 cases a with
 | none=>cases h
 | some x=>cases h; exact k x rfl
theorem YJ {α β γ:Type}{P:γ→Prop}{f:α→β→γ}{a:Option α}{b:Option β}{c:γ} (h:o2 f a b=some c) (k:∀ x y,a=some x→b=some y→P (f x y)):P c:=by
 cases a with
 | none=>cases h
 | some x=>cases b with
  | none=>cases h
  | some y=>cases h; exact k x y rfl rfl
theorem WK {α β γ δ:Type}{P:δ→Prop}{f:α→β→γ→δ}{a:Option α}{b:Option β}{d:Option γ}{c:δ} (h:o3 f a b d=some c) (k:∀ x y z,a=some x→b=some y→d=some z→P (f x y z)):P c:=by
 cases a with
 | none=>cases h
 | some x=>exact YJ (P:=P) h fun y z e e'=>k x y z rfl e e'
theorem Vp {α:Type}{P:Prop}{p:Prop} [Decidable p] {o:Option α}{c:α} (h:og p o=some c) (k:p→o=some c→P):P:=by
 unfold og at h
 by_cases hp:p
 ·rw [if_pos hp] at h; exact k hp h
 ·rw [if_neg hp] at h; cases h
theorem j_e {α:Type}{P:Prop}{o:Option (Option α)}{c:α} (h:o.join=some c) (k:o=some (some c)→P):P:=by
 cases o with
 | none=>cases h
 | some x=>cases h; exact k rfl
noncomputable def ZaO (G:Gs) (sc:Scope) (f:Str) (a:Expr) (r:Expr→Option CE):Option CE:=match Jj G sc f a with
 | some e=>(r e).map .tupR
 | none=>match Q0 G sc f a with
  | some (u,v)=>o2 .lstR (r u) (r v)
  | none=>((r a).map (ZeY f)).join
noncomputable def ZaP (G:Gs) (sc:Scope) (f:Str) (a b:Expr) (r:Expr→Option CE):Option CE:=if f = "isinstance" then (match QL G sc b with
  | some l=>(r a).map (.isc l)
  | none=>o2 (fun x T=>.isi T x) (r a) (JQ G sc b)) else (o2 (ZeZ f) (r a) (r b)).join
noncomputable def ZaS (G:Gs) (sc:Scope) (f:Str) (as:List Expr) (cs:Option CE) (r:Expr→Option CE):Option CE:=
 if ZN sc f then (match G.lookup f with
   | some (.fn i ps ds)=>og (as.length≤ps∧ps≤as.length+ds.length) (cs.map fun c=>.call i c (ds.drop (as.length+ds.length - ps)))
   | some .blt=>match as with
    | [a]=>ZaO G sc f a r
    | [a,b]=>ZaP G sc f a b r
    | _=>none
   | some (.cls i _ _)=>match as with
    | []=>some (.new i)
    | _=>none
   | _=>none) else none
noncomputable def Zey (G:Gs) (ob:Expr) (m:Str) (ap:Pos) (as:List Expr) (cp:Pos) (cs:Option CE) (r:Expr→Option CE):Option CE:=match ob with
 | .Name _ _=>og ((ap.endLine==cp.line)=true∧as.length < 20) (if m = "index" then og (as.length=1) (o2 .tix (r ob) cs) else o2 (.meth (XH m as.length G)) (r ob) cs)
 | _=>none
noncomputable def ZgS (G:Gs) (sc:Scope) (f:Expr) (as:List Expr) (cp:Pos) (cs:Option CE) (r:Expr→Option CE):Option CE:=match f with
 | .Name f _=>ZaS G sc f as cs r
 | .Attribute ob m ap=>Zey G ob m ap as cp cs r
 | _=>none
noncomputable def ZiD:Expr→Bool
 | .Slice ..=>true
 | _=>false
noncomputable def Wv (_:Gs) (_:Scope) (_:Expr):Option (List Expr):=none
noncomputable def XO (G:Gs) (sc:Scope):Expr→Option (List Expr)
 | .Call (.Name f _) [a,b] [] _=>if f = "zip"∧ZN sc f=true∧WA G f=true then some [a,b] else none
 | _=>none
noncomputable def WN (G:Gs) (sc:Scope):Expr→Option Expr
 | .Call (.Name f _) [a] [] _=>if f = "enumerate"∧ZN sc f=true∧WA G f=true then some a else none
 | _=>none
noncomputable def WO (G:Gs) (sc:Scope) (e:Expr):Option Expr:=WN G sc e
noncomputable def tgN:Expr→Option (List Str)
 | .Name x _=>some [x]
 | _=>none
noncomputable def mkC (r:Option (Option Bool)) (fr:List Nat) (ci ce cc:CE):CE:=match r with
 | some (some b)=>.comp b fr ci ce cc
 | some none=>.comp2 fr ci ce cc
 | none=>.compT fr ci ce cc
noncomputable def Xz (N:List Str):List Str→Option (List Nat)
 | []=>some []
 | x :: r=>match N.idxOf? x,Xz N r with
  | some i,some is=>some (i :: is)
  | _,_=>none

noncomputable def ZbQ (G:Gs) (sc:Scope) (N:List Str) (x:Str):Option CE:=
 if Wb sc x then (N.idxOf? x).map .var else if ZN sc x then (match G.lookup x with
  | some (.cst d)=>some (.cst d)
  | _=>none) else none
noncomputable def JD (G:Gs) (sc:Scope):Expr→Option (List Str×List D)
 | .Name x _=>if ZN sc x then (match G.lookup x with
  | some (.dct ks ds)=>some (ks,ds)
  | _=>none) else none
 | _=>none
noncomputable def WV:Expr→Option (Option Expr×Option Expr)
 | .Slice lo hi none _=>some (lo,hi)
 | _=>none
noncomputable def ZeH (_:Expr):Option Expr:=none
noncomputable def QU:CE→Bool
 | .ix (.var _) (.cst (.int _))=>true
 | .var _=>true
 | _=>false
noncomputable def ZiB:CE→Bool
 | .neg (.cst (.int 1))=>true
 | _=>false
noncomputable def Vd (sc:Scope) (x:Str):Bool:=match sc.names.lookup x with
 | some .cell=>true
 | some .free=>true
 | _=>false
noncomputable def Xr (sc sc2:Scope) (xs:List Str):Bool:=
 decide (sc2.kind=.function)&&(sc2.names.all fun p=>decide (p.2≠.cell))&&(xs.all fun x=>decide (sc2.names.lookup x=some .local))&&(sc2.names.all fun p=>!decide (p.2=.local)||decide (sc2.names.lookup p.1=some .local)) &&
 decide (xs++Z3 sc2).Nodup&&(Z3 sc2).all (fun y=>Vd sc y&&decide (sc2.names.lookup y=some .free))
noncomputable def Zfp (_:CmpOp):Option Bool:=none
noncomputable def unC (op:UnaryOp) (a:Option CE):Option CE:=match op with
 | .Not=>a.map .not
 | .USub=>a.map .neg
 | _=>none
noncomputable def ZgU (G:Gs) (sc:Scope) (f:Expr→Option CE) (a:Option CE):List CmpOp→List Expr→Option CE
 | [op],[b]=>(match Ya G sc b with
  | some e=>o3 .inR (Zfp op) a (f e)
  | none=>o2 (.cmp op) a (f b))
 | [op,op2],[b,b2]=>(o3 (fun x y z=>og (QU y=true) (some (.and (.cmp op x y) (.cmp op2 y z)))) a (f b) (f b2)).join
 | _,_=>none
noncomputable def Zez (f:Expr→Option CE) (op:BoolOp) (pos:Pos):List Expr→Option CE
 | []=>none
 | [a]=>f a
 | a :: b :: r=>match op with
  | .And=>o2 .and (f a) (f (.BoolOp .And (b :: r) pos))
  | .Or=>o2 .or (f a) (f (.BoolOp .Or (b :: r) pos))
noncomputable def Zgk (G:Gs) (sc:Scope) (f:Expr→Option CE) (fo:Option Expr→Option CE) (a b:Expr):Option CE:=match WV b with
 | some (lo,hi)=>o3 .slice (f a) (fo lo) (fo hi)
 | none=>match ZeH b with
  | some s=>(o2 (fun x y=>og (ZiB y=true) (some (.rs false x))) (f a) (f s)).join
  | none=>match JD G sc a with
   | some (ks,ds)=>(f b).map (.look ks ds)
   | none=>o2 .ix (f a) (f b)
noncomputable def itC (G:Gs) (sc:Scope) (it:Expr) (f:Expr→Option CE):List Str→Option (Option (Option Bool)×CE)
 | [_]=>(match Ya G sc it with
  | some a=>(f a).map fun c=>(some (some true),c)
  | none=>(f it).map fun c=>(some (some false),c))
 | _=>(match WN G sc it with
  | some a=>(f a).map fun c=>(some none,c)
  | none=>(f it).map fun c=>(none,c))
noncomputable def ifC (f:Expr→Option CE):List Expr→Option CE
 | []=>some (CE.cst (.bl true))
 | [c]=>f c
 | _=>none
noncomputable def ZeA (G:Gs) (sc sc2:Scope) (N:List Str) (f:Expr→Option CE) (g:List Str→Expr→Option CE) (elt:Expr):List Comprehension→Option CE
 | [⟨tg,it,ifs,0⟩]=>(match tgN tg with
  | none=>none
  | some xs=>og (Xr sc sc2 xs=true) (o3 (fun fr p (q:CE×CE)=>mkC p.1 fr p.2 q.1 q.2) (Xz N (Z3 sc2)) (itC G sc it f xs) (o2 Prod.mk (g (xs++Z3 sc2) elt) (ifC (g (xs++Z3 sc2)) ifs))))
 | _=>none
mutual
noncomputable def cE (G:Gs):Nat→Scope→List Str→Expr→Option CE
 | 0,_,_,_=>none
 | n+1,sc,N,e=>match e with
  | .Constant c _ _=>CE.ofConst c
  | .Name x _=>ZbQ G sc N x
  | .BinOp a op b _=>o2 (.bin op) (cE G n sc N a) (cE G n sc N b)
  | .UnaryOp op a _=>unC op (cE G n sc N a)
  | .Compare a ops bs _=>ZgU G sc (cE G n sc N) (cE G n sc N a) ops bs
  | .BoolOp op vs pos=>Zez (cE G n sc N) op pos vs
  | .IfExp c a b _=>o3 .ife (cE G n sc N c) (cE G n sc N a) (cE G n sc N b)
  | .Tuple es _ _=>(cEs G n sc N es).map .tupE
  | .List es _=>(cEs G n sc N es).map .lstE
  | .Subscript a b _=>Zgk G sc (cE G n sc N) (cO G n sc N) a b
  | .Call f as [] cp=>ZgS G sc f as cp (cEs G n sc N as) (cE G n sc N)
  | .ListComp elt gens sc2 _=>ZeA G sc sc2 N (cE G n sc N) (cE G n sc2) elt gens
  | _=>none
noncomputable def cEs (G:Gs):Nat→Scope→List Str→List Expr→Option CE
 | 0,_,_,_=>none
 | _+1,_,_,[]=>some .anil
 | n+1,sc,N,e :: es=>o2 .acons (cE G n sc N e) (cEs G n sc N es)
noncomputable def cO (G:Gs):Nat→Scope→List Str→Option Expr→Option CE
 | 0,_,_,_=>none
 | _+1,_,_,none=>some .nop
 | n+1,sc,N,some e=>(cE G n sc N e).map .part
end

noncomputable def Xu:Expr→Bool
 | .ListComp ..=>true
 | .SetComp ..=>true
 | .DictComp ..=>true
 | _=>false
noncomputable def U6:Expr→Bool
 | .Tuple ..=>true
 | _=>false
noncomputable def ZgN (N:List Str) (tg e:Expr) (c:Option CE):Option CS:=match tg with
 | .Name x _=>o2 .set (N.idxOf? x) c
 | .Tuple [.Name x _,.Name y _] _ _=>og ((Xu e||U6 e)=false) (o3 (fun i j c=>og (i≠j) (some (.set2 i j c))) (N.idxOf? x) (N.idxOf? y) c).join
 | .Tuple [.Name x _,.Name y _,.Name z _] _ _=>og ((Xu e||U6 e)=false) (o3 (fun i j (p:Nat×CE)=>.set3 i j p.1 p.2) (N.idxOf? x) (N.idxOf? y) (o2 Prod.mk (N.idxOf? z) c))
 | _=>none
noncomputable def ZhM (sc:Scope) (N:List Str) (x:Str) (k e:Expr) (ck c:Option CE):Option CS:=og (Xu e=false∧ZiD k=false∧Wb sc x=true) (o3 .put (N.idxOf? x) ck c)
noncomputable def Zfl (G:Gs) (sc:Scope) (N:List Str) (f:Expr→Option CE) (fs:List Expr→Option CE) (tg it:Expr) (b:Option CS):Option CS:=match tg with
 | .Name x _=>(match Wv G sc it with
  | some as=>o3 .for3 (N.idxOf? x) (fs as) b
  | none=>match Ya G sc it with
   | some a=>o3 (fun i c b=>.for1 i true c b) (N.idxOf? x) (f a) b
   | none=>o3 (fun i c b=>.for1 i false c b) (N.idxOf? x) (f it) b)
 | .Tuple [.Name x _,.Name y _] _ _=>(o2 (fun i j=>og (i≠j) (some (i,j))) (N.idxOf? x) (N.idxOf? y)).join.bind fun p=>(match XO G sc it with
  | some as=>o2 (.forP p.1 p.2) (fs as) b
  | none=>match WO G sc it with
   | some e=>o2 (.forE p.1 p.2) (f e) b
   | none=>o2 (.for2 p.1 p.2) (f it) b)
 | .Tuple [.Name x _,.Name y _,.Name z _] _ _=>o3 (fun (p:Nat×Nat) (q:Nat×CE) b=>.for4 p.1 p.2 q.1 q.2 b) (o2 Prod.mk (N.idxOf? x) (N.idxOf? y)) (o2 Prod.mk (N.idxOf? z) (f it)) b
 | _=>none
noncomputable def ZgM (sc:Scope) (N:List Str) (x m:Str) (ap cp:Pos) (c:Option CE):Option CS:=og (Wb sc x=true∧(ap.endLine==cp.line)=true) (if m = "append" then o2 .app (N.idxOf? x) c else if m = "extend" then o2 .ext (N.idxOf? x) c else none)
noncomputable def ZgL (sc:Scope) (N:List Str) (f:Expr→Option CE):Expr→Option CS
 | .Call (.Name g fp) as kw cp=>(f (.Call (.Name g fp) as kw cp)).map .act
 | .Call (.Attribute (.Name x _) m ap) [e] [] cp=>ZgM sc N x m ap cp (f e)
 | _=>none
mutual
noncomputable def cS (G:Gs):Nat→Scope→List Str→Stmt→Option CS
 | 0,_,_,_=>none
 | n+1,sc,N,s=>match s with
  | .Assign [.Subscript (.Name x _) k _] e _=>ZhM sc N x k e (cE G n sc N k) (cE G n sc N e)
  | .Assign [tg] e _=>ZgN N tg e (cE G n sc N e)
  | .Expr e _=>ZgL sc N (cE G n sc N) e
  | .Return (some e) _=>(cE G n sc N e).map .ret
  | .If c a b _=>o3 .ite (cE G n sc N c) (cSs G n sc N a) (cSs G n sc N b)
  | .For tg it b [] _=>Zfl G sc N (cE G n sc N) (cEs G n sc N) tg it (cSs G n sc N b)
  | .Pass _=>some .skip
  | .Break _=>some .brk
  | .Continue _=>some .cont
  | .Raise _ _ _=>some .stop
  | _=>none
noncomputable def cSs (G:Gs):Nat→Scope→List Str→List Stmt→Option CS
 | 0,_,_,_=>none
 | _+1,_,_,[]=>some .skip
 | n+1,sc,N,s :: r=>o2 .seq (cS G n sc N s) (cSs G n sc N r)
end
end Dp


namespace Dp
open PySem PySem.Spec PyProof.Rows L2
class ClsTab where
 ca:Nat→Addr
variable [ClsTab]

theorem ZG {X:Cx}{e:Expr}{t t':TE} (h:PE X e t) (i:∀ σ H Q,t' σ H Q→t σ H Q):PE X e t':=fun pins s σ H Q I q=>h pins s σ H Q I (i σ H Q q)
theorem Wu {X:Cx}{e:Expr}{t t':TT} (h:PT X e t) (i:∀ σ H Q,t' σ H Q→t σ H Q):PT X e t':=fun pins s σ H Q I q=>h pins s σ H Q I (i σ H Q q)
theorem Zb3 {X:Cx}{e:List Expr}{t t':TA} (h:PA X e t) (i:∀ σ H Q,t' σ H Q→t σ H Q):PA X e t':=fun pos pins s σ H Q I q=>h pos pins s σ H Q I (i σ H Q q)
theorem Zcb {X:Cx}{e:Option Expr}{t t':TO} (h:PO X e t) (i:∀ σ H Q,t' σ H Q→t σ H Q):PO X e t':=fun pins s σ H Q I q=>h pins s σ H Q I (i σ H Q q)
theorem Z0 {X:Cx}{e:Stmt}{t t':TS} (h:PS X e t) (i:∀ D σ H,t' D σ H→t D σ H):PS X e t':=fun pins s σ H D I q=>h pins s σ H D I (i D σ H q)
theorem JJ {X:Cx}{e:List Stmt}{t t':TS} (h:PSs X e t) (i:∀ D σ H,t' D σ H→t D σ H):PSs X e t':=fun pins s σ H D I q=>h pins s σ H D I (i D σ H q)

noncomputable def KT (K:PySem.W.Frag) (a:Addr) (xs:List V):Prop:=
 ∃ (o:Obj) (its:Array Value) (n:Nat),K.lookup a=some o∧o.cls=.type "tuple"∧o.data=.seq its n∧its.size≤sizeLine∧Vals xs its.toList
noncomputable def TupAt (K:PySem.W.Frag) (H:Hp) (a:Addr) (xs:List V):Prop:=H a=some (.tup xs)∨KT K a xs
theorem TupAt.sq {K:PySem.W.Frag}{H:Hp}{a:Addr}{xs:List V} (h:TupAt K H a xs):SqT K H a xs:=by
 rcases h with h | h
 ·exact .inl (.inl h)
 ·exact .inr h
mutual
inductive Den (K:PySem.W.Frag) (ad:List Addr) (H:Hp):V→D→Prop where
 | non:Den K ad H .non .non
 | bl (b:Bool):Den K ad H (.bl b) (.bl b)
 | int (i:Int):Den K ad H (.int i) (.int i)
 | str (x:Str):Den K ad H (.str x) (.str x)
 | tup {a:Addr}{xs:List V}{ds:List D} (h:TupAt K H a xs) (r:Dens K ad H xs ds):Den K ad H (.ref a) (.tup ds)
 | lst {a:Addr}{i:Nat} (h:ad[i]?=some a):Den K ad H (.ref a) (.lst i)
 | dct {a:Addr}{kvs:List (Key×V)}{ks:List Str}{vs:List V}{ds:List D} (h:H a=some (.dK kvs)) (hk:kvs=(ks.zip vs).map fun p=>(Sum.inr p.1,p.2)) (nd:ks.Nodup∧ks≠[]) (hl:ks.length=vs.length) (r:Dens K ad H vs ds):Den K ad H (.ref a) (.dct ks ds)
 | obj {a dx:Addr}{i:Nat} (h:H a=some (.ins (ClsTab.ca i) dx [])) (n:a∉ad):Den K ad H (.ref a) (.obj i)
 | kt {a:Addr}{ks:List Str}{o:Obj}{its:Array Value}{n:Nat} (l:K.lookup a=some o) (c:o.cls=.type "tuple") (g:o.dict=none) (e:o.data=.seq its n) (z:its.size≤sizeLine) (r:Vals (ks.map V.str) its.toList):Den K ad H (.ref a) (.kt ks)
inductive Dens (K:PySem.W.Frag) (ad:List Addr) (H:Hp):List V→List D→Prop where
 | nil:Dens K ad H [] []
 | cons {v:V}{d:D}{vs:List V}{ds:List D} (h:Den K ad H v d) (r:Dens K ad H vs ds):Dens K ad H (v :: vs) (d :: ds)
end

structure Ext (ad:List Addr) (H:Hp) (ad':List Addr) (H':Hp):Prop where
 pre:∀ (i:Nat) (a:Addr),ad[i]?=some a→ad'[i]?=some a
 tup:∀ b xs,H b=some (.tup xs)→H' b=some (.tup xs)
 dk:∀ b kvs,H b=some (.dK kvs)→H' b=some (.dK kvs)
 keep:∀ b o,H b=some o→b∉ad→H' b=some o
 new:∀ b,b∈ad'→b∈ad∨H b=none
theorem Ext.refl (ad:List Addr) (H:Hp):Ext ad H ad H:=⟨fun _ _ h=>h,fun _ _ h=>h,fun _ _ h=>h,fun _ _ h _=>h,fun _ h=>.inl h⟩
theorem Ext.trans {a1 a2 a3:List Addr}{H1 H2 H3:Hp} (x:Ext a1 H1 a2 H2) (y:Ext a2 H2 a3 H3):Ext a1 H1 a3 H3:=by
 refine ⟨fun i a h=>y.pre i a (x.pre i a h),fun b xs h=>y.tup b xs (x.tup b xs h),fun b xs h=>y.dk b xs (x.dk b xs h),fun b o h n=>?_,fun b h=>?_⟩
 ·refine y.keep b o (x.keep b o h n) fun z=>?_
  rcases x.new b z with z | z
  ·exact n z
  ·rw [h] at z; cases z
 ·rcases y.new b h with z | z
  ·exact x.new b z
  ·cases e:H1 b with
   | none=>exact .inr rfl
   | some o=>
    by_cases q:b∈a1
    ·exact .inl q
    ·rw [x.keep b o e q] at z; cases z

theorem TupAt.mono {K:PySem.W.Frag}{ad ad':List Addr}{H H':Hp}{a:Addr}{xs:List V} (x:Ext ad H ad' H') (h:TupAt K H a xs):TupAt K H' a xs:=h.imp (x.tup _ _) id
theorem TupAt.upd {K:PySem.W.Frag}{H:Hp}{a p:Addr}{xs:List V}{o o':HO} (hp:H p=some o) (ho:∀ xs,o≠.tup xs) (h:TupAt K H a xs):TupAt K (upd H p o') a xs:=by
 rcases h with h | h
 ·refine .inl ?_
  have n:a≠p:=fun z=>by subst z; rw [h] at hp; cases hp; exact ho _ rfl
  rw [upd_ne n]; exact h
 ·exact .inr h
section
variable {K:PySem.W.Frag}{ad ad':List Addr}{H H':Hp}
theorem Zgw {ks:List Str}{vs:List V} (h:ks≠[]) (hl:ks.length=vs.length):(ks.zip vs).map (fun p=>((Sum.inr p.1:Key),p.2))≠[]:=by
 cases ks with
 | nil=>exact absurd rfl h
 | cons k ks=>cases vs with
  | nil=>cases hl
  | cons v vs=>exact List.cons_ne_nil _ _
structure Keeps (K:PySem.W.Frag) (ad ad':List Addr) (H H':Hp):Prop where
 t:∀ {a xs},TupAt K H a xs→TupAt K H' a xs
 l:∀ {i:Nat}{a:Addr},ad[i]?=some a→ad'[i]?=some a
 k:∀ {a kvs},kvs≠[]→H a=some (.dK kvs)→H' a=some (.dK kvs)
 o:∀ {a C dx},H a=some (.ins C dx [])→a∉ad→H' a=some (.ins C dx [])∧a∉ad'
theorem Den.map (x:Keeps K ad ad' H H') {v:V}{d:D} (h:Den K ad H v d):Den K ad' H' v d:=
 Den.rec (motive_1:=fun v d _=>Den K ad' H' v d) (motive_2:=fun vs ds _=>Dens K ad' H' vs ds) .non .bl .int .str (fun h _ r=>.tup (x.t h) r) (fun h=>.lst (x.l h)) (fun h hk nd hl _ r=>.dct (x.k (fun z=>Zgw nd.2 hl (hk.symm.trans z)) h) hk nd hl r) (fun h n=>.obj (x.o h n).1 (x.o h n).2) .kt .nil (fun _ _ a b=>.cons a b) h
theorem Dens.map (x:Keeps K ad ad' H H') {vs:List V}{ds:List D} (h:Dens K ad H vs ds):Dens K ad' H' vs ds:=
 Dens.rec (motive_1:=fun _ _ _=>True) (motive_2:=fun vs ds _=>Dens K ad' H' vs ds) trivial (fun _=>trivial) (fun _=>trivial) (fun _=>trivial) (fun _ _ _=>trivial) (fun _=>trivial) (fun _ _ _ _ _ _=>trivial) (fun _ _=>trivial) (fun _ _ _ _ _ _=>trivial) .nil (fun a _ _ b=>.cons (a.map x) b) h
theorem Ext.keeps (x:Ext ad H ad' H'):Keeps K ad ad' H H':=⟨fun h=>h.mono x,fun h=>x.pre _ _ h,fun _ h=>x.dk _ _ h,fun h n=>⟨x.keep _ _ h n,fun z=>(x.new _ z).elim n fun q=>by rw [h] at q; cases q⟩⟩
theorem Den.mono (x:Ext ad H ad' H') {v:V}{d:D} (h:Den K ad H v d):Den K ad' H' v d:=h.map x.keeps
theorem Dens.mono (x:Ext ad H ad' H') {vs:List V}{ds:List D} (h:Dens K ad H vs ds):Dens K ad' H' vs ds:=h.map x.keeps
theorem Zbt (x:∀ (i:Nat) (a:Addr),ad[i]?=some a→ad'[i]?=some a) (y:∀ b,b∈ad'→b∈ad∨∃ xs,H b=some (.lst xs)):Keeps K ad ad' H H:=⟨id,fun h=>x _ _ h,fun _ h=>h,fun h n=>⟨h,fun z=>(y _ z).elim n fun ⟨xs,q⟩=>by rw [h] at q; cases q⟩⟩
theorem Den.mono' (x:∀ (i:Nat) (a:Addr),ad[i]?=some a→ad'[i]?=some a) (y:∀ b,b∈ad'→b∈ad∨∃ xs,H b=some (.lst xs)) {v:V}{d:D} (h:Den K ad H v d):Den K ad' H v d:=h.map (Zbt x y)
theorem Dens.mono' (x:∀ (i:Nat) (a:Addr),ad[i]?=some a→ad'[i]?=some a) (y:∀ b,b∈ad'→b∈ad∨∃ xs,H b=some (.lst xs)) {vs:List V}{ds:List D} (h:Dens K ad H vs ds):Dens K ad' H vs ds:=h.map (Zbt x y)
theorem Dens.length:∀ {vs:List V}{ds:List D},Dens K ad H vs ds→vs.length=ds.length
 | _,_,.nil=>rfl
 | _,_,.cons _ r=>congrArg (·+1) (Dens.length r)
theorem Dens.get:∀ {vs:List V}{ds:List D}{i:Nat}{d:D},Dens K ad H vs ds→ds[i]?=some d→∃ v,vs[i]?=some v∧Den K ad H v d
 | _,_,_,_,.nil,e=>by simp at e
 | _,_,0,_,.cons h _,e=>by simp at e; subst e; exact ⟨_,rfl,h⟩
 | _,_,i+1,d,.cons _ r,e=>by
  obtain ⟨v,h1,h2⟩:=Dens.get (i:=i) (d:=d) r (by simpa using e)
  exact ⟨v,by simpa using h1,h2⟩
theorem Dens.append:∀ {vs ws:List V}{ds es:List D},Dens K ad H vs ds→Dens K ad H ws es→Dens K ad H (vs++ws) (ds++es)
 | _,_,_,_,.nil,s=>s
 | _,_,_,_,.cons h r,s=>.cons h (Dens.append r s)
theorem Dens.take:∀ {vs:List V}{ds:List D} (n:Nat),Dens K ad H vs ds→Dens K ad H (vs.take n) (ds.take n)
 | _,_,0,_=>.nil
 | _,_,_+1,.nil=>.nil
 | _,_,n+1,.cons h r=>.cons h (Dens.take n r)
theorem Dens.drop:∀ {vs:List V}{ds:List D} (n:Nat),Dens K ad H vs ds→Dens K ad H (vs.drop n) (ds.drop n)
 | _,_,0,r=>r
 | _,_,_+1,.nil=>.nil
 | _,_,n+1,.cons _ r=>Dens.drop n r
theorem Dens.set {v:V}{d:D} (h:Den K ad H v d):∀ {vs:List V}{ds:List D} (n:Nat),Dens K ad H vs ds→Dens K ad H (vs.set n v) (ds.set n d)
 | _,_,_,.nil=>.nil
 | _,_,0,.cons _ r=>.cons h r
 | _,_,n+1,.cons q r=>.cons q (Dens.set h n r)
theorem Dens.rep {v:V}{d:D} (h:Den K ad H v d):∀ n:Nat,Dens K ad H (List.replicate n v) (List.replicate n d)
 | 0=>.nil
 | n+1=>.cons h (Dens.rep h n)
theorem Den.ofInt {v:V}{i:Int} (h:Den K ad H v (.int i)):v=.int i:=by cases h; rfl
theorem Den.ofStr {v:V}{x:Str} (h:Den K ad H v (.str x)):v=.str x:=by cases h; rfl
theorem Den.ofBl {v:V}{b:Bool} (h:Den K ad H v (.bl b)):v=.bl b:=by cases h; rfl
theorem Den.ofDct {v:V}{ks:List Str}{ds:List D} (h:Den K ad H v (.dct ks ds)):∃ a vs,v=.ref a∧H a=some (.dK ((ks.zip vs).map fun p=>(Sum.inr p.1,p.2)))∧ks.length=vs.length∧Dens K ad H vs ds:=by
 cases h with
 | dct h hk nd hl r=>subst hk; exact ⟨_,_,rfl,h,hl,r⟩
theorem Den.ofTup {v:V}{ds:List D} (h:Den K ad H v (.tup ds)):∃ a xs,v=.ref a∧TupAt K H a xs∧Dens K ad H xs ds:=by
 cases h with
 | tup h r=>exact ⟨_,_,rfl,h,r⟩
theorem Den.ofLst {v:V}{i:Nat} (h:Den K ad H v (.lst i)):∃ a,v=.ref a∧ad[i]?=some a:=by
 cases h with
 | lst h=>exact ⟨_,rfl,h⟩

theorem Den.ofKt {v:V}{ks:List Str} (h:Den K ad H v (.kt ks)):∃ a o its n,v=.ref a∧K.lookup a=some o∧(o.cls=.type "tuple"∧o.dict=none)∧o.data=.seq its n∧its.size≤sizeLine∧Vals (ks.map V.str) its.toList:=by
 cases h with
 | kt l c g e z r=>exact ⟨_,_,_,_,rfl,l,⟨c,g⟩,e,z,r⟩
theorem V9:∀ ks:List Str,Dens K ad H (ks.map V.str) (ks.map D.str)
 | []=>.nil
 | k :: ks=>.cons (.str k) (V9 ks)
theorem Den.ofObj {v:V}{i:Nat} (h:Den K ad H v (.obj i)):∃ a dx,v=.ref a∧H a=some (.ins (ClsTab.ca i) dx []):=by
 cases h with
 | obj h n=>exact ⟨_,_,rfl,h⟩

noncomputable def KL (K:PySem.W.Frag) (a:Addr) (xs:List V):Prop:=
 ∃ (o:Obj) (its:Array Value) (n:Nat),(K.lookup a=some o∧o.cls=.type "list")∧(o.dict=none∧o.data=.seq its n)∧its.size≤sizeLine∧Vals xs its.toList
noncomputable def CellOk (K:PySem.W.Frag) (ad:List Addr) (H:Hp) (a:Addr) (c:JV):Prop:=
 ∃ xs,Dens K ad H xs c.2∧((c.1=true∧H a=some (.lst xs))∨(c.1=false∧((∃ o,H a=some (.frz o (.lst xs)))∨KL K a xs)))
structure StOk (K:PySem.W.Frag) (ad:List Addr) (H:Hp) (st:Za):Prop where
 len:ad.length=st.length
 nd:∀ (i j:Nat) (a:Addr) (c d:List D),ad[i]?=some a→ad[j]?=some a→st[i]?=some (true,c)→st[j]?=some (true,d)→i=j
 cell:∀ (i:Nat) (c:JV),st[i]?=some c→∃ a,ad[i]?=some a∧CellOk K ad H a c

theorem CellOk.sq {a:Addr}{c:JV} (h:CellOk K ad H a c):∃ xs,Dens K ad H xs c.2∧SqL K H a xs:=by
 obtain ⟨xs,r,⟨_,e⟩ | ⟨_,⟨o,e⟩ | ⟨o,its,n,⟨h1,h2⟩,⟨h3,h4⟩,h5,h6⟩⟩⟩:=h
 ·exact ⟨xs,r,.inl (.inl e)⟩
 ·exact ⟨xs,r,.inl (.inr ⟨o,e⟩)⟩
 ·exact ⟨xs,r,.inr ⟨o,its,n,h1,h2,h3,h4,h5,h6⟩⟩
theorem StOk.list {st:Za}{a:Addr}{i:Nat}{b:Bool}{ds:List D} (S:StOk K ad H st) (h:ad[i]?=some a) (e:st[i]?=some (b,ds)):∃ xs,Dens K ad H xs ds∧SqL K H a xs:=by
 obtain ⟨a',e',c⟩:=S.cell i _ e
 rw [h] at e'; cases e'
 exact c.sq
theorem StOk.listM {st:Za}{a:Addr}{i:Nat}{ds:List D} (S:StOk K ad H st) (h:ad[i]?=some a) (e:st[i]?=some (true,ds)):∃ xs,Dens K ad H xs ds∧H a=some (.lst xs):=by
 obtain ⟨a',e',xs,r,⟨_,q⟩ | ⟨q,_⟩⟩:=S.cell i _ e
 ·rw [h] at e'; cases e'
  exact ⟨xs,r,q⟩
 ·cases q
theorem Ext.laid {p:Addr}{o:HO} (hp:H p=none):Ext ad H ad (upd H p o):=
 ⟨fun _ _ h=>h,fun b xs h=>by rw [upd_ne (ne_of_none h hp)]; exact h,fun b xs h=>by rw [upd_ne (ne_of_none h hp)]; exact h,fun b o h _=>by rw [upd_ne (ne_of_none h hp)]; exact h,fun _ h=>.inl h⟩
theorem CellOk.laid {p a:Addr}{o:HO}{c:JV}{ad':List Addr} (hp:H p=none) (x:Ext ad H ad' (upd H p o)) (h:CellOk K ad H a c):CellOk K ad' (upd H p o) a c:=by
 obtain ⟨xs,r,h⟩:=h
 refine ⟨xs,r.mono x,?_⟩
 rcases h with ⟨b,e⟩ | ⟨b,⟨o,e⟩ | e⟩
 ·exact .inl ⟨b,by rw [upd_ne (ne_of_none e hp)]; exact e⟩
 ·exact .inr ⟨b,.inl ⟨o,by rw [upd_ne (ne_of_none e hp)]; exact e⟩⟩
 ·exact .inr ⟨b,.inr e⟩
theorem StOk.laid {st:Za}{p:Addr}{o:HO} (S:StOk K ad H st) (hp:H p=none):StOk K ad (upd H p o) st:=
 ⟨S.len,S.nd,fun i c e=>let ⟨a,h,q⟩:=S.cell i c e; ⟨a,h,q.laid hp (Ext.laid hp)⟩⟩
theorem YD {α:Type}{l:List α}{x y:α}{i:Nat} (h:(l++[x])[i]?=some y):l[i]?=some y∨(i=l.length∧y=x):=by
 by_cases hi:i < l.length
 ·rw [List.getElem?_append_left hi] at h
  exact .inl h
 ·rw [List.getElem?_append_right (by omega)] at h
  have:i - l.length=0:=by
   cases e:i - l.length with
   | zero=>rfl
   | succ k=>rw [e] at h; simp at h
  rw [this] at h
  simp at h
  exact .inr ⟨by omega,h.symm⟩
theorem ZX {α:Type}{l:List α}{x y:α}{i:Nat} (h:l[i]?=some y):(l++[x])[i]?=some y:=by
 rw [List.getElem?_append_left (List.getElem?_eq_some_iff.mp h).1]
 exact h
theorem ZM {α:Type}{l:List α}{x:α}:(l++[x])[l.length]?=some x:=by simp
theorem Ext.push {p:Addr}{o:HO} (hp:H p=none):Ext ad H (ad++[p]) (upd H p o):=
 ⟨fun _ _ h=>ZX h,(Ext.laid (ad:=ad) hp).tup,(Ext.laid (ad:=ad) hp).dk,(Ext.laid (ad:=ad) hp).keep,fun b h=>(List.mem_append.mp h).elim .inl fun z=>.inr (by rw [List.mem_singleton.mp z]; exact hp)⟩
theorem StOk.push {st:Za}{p:Addr}{xs:List V}{ds:List D} (S:StOk K ad H st) (hp:H p=none) (r:Dens K ad H xs ds):StOk K (ad++[p]) (upd H p (.lst xs)) (st++[(true,ds)]):=by
 have old:∀ (i:Nat) (c:List D) (a:Addr),ad[i]?=some a→st[i]?=some (true,c)→a≠p:=fun i c a h e z=>by
  obtain ⟨xs',_,q⟩:=S.listM h e
  rw [z,hp] at q; cases q
 refine ⟨by rw [List.length_append,List.length_append,S.len]; rfl,fun i j a c d h1 h2 h3 h4=>?_,fun i c e=>?_⟩
 ·rcases YD h3 with h3 | ⟨e3,_⟩
  ·rcases YD h4 with h4 | ⟨e4,_⟩
   ·obtain ⟨a1,q1,_⟩:=S.cell i _ h3
    obtain ⟨a2,q2,_⟩:=S.cell j _ h4
    have z1:=ZX (x:=p) q1
    have z2:=ZX (x:=p) q2
    rw [h1] at z1; cases z1
    rw [h2] at z2; cases z2
    exact S.nd i j a c d q1 q2 h3 h4
   ·obtain ⟨a1,q1,_⟩:=S.cell i _ h3
    have z1:=ZX (x:=p) q1
    rw [h1] at z1; cases z1
    rw [e4,←S.len,ZM] at h2
    exact absurd (Option.some.inj h2).symm (old i c a q1 h3)
  ·rcases YD h4 with h4 | ⟨e4,_⟩
   ·obtain ⟨a2,q2,_⟩:=S.cell j _ h4
    have z2:=ZX (x:=p) q2
    rw [h2] at z2; cases z2
    rw [e3,←S.len,ZM] at h1
    exact absurd (Option.some.inj h1).symm (old j d a q2 h4)
   ·omega
 ·rcases YD e with e | ⟨e1,e2⟩
  ·obtain ⟨a,h,q⟩:=S.cell i c e
   exact ⟨a,ZX h,q.laid hp (Ext.push hp)⟩
  ·subst e2
   refine ⟨p,by rw [e1,←S.len]; exact ZM,xs,r.mono (Ext.push hp),.inl ⟨rfl,upd_same⟩⟩
theorem StOk.adopt {st:Za}{p:Addr}{xs:List V}{ds:List D} (S:StOk K ad H st) (hp:H p=some (.lst xs)) (hn:p∉ad) (r:Dens K ad H xs ds):StOk K (ad++[p]) H (st++[(true,ds)]):=by
 have mono:∀ {vs:List V}{es:List D},Dens K ad H vs es→Dens K (ad++[p]) H vs es:=fun h=>by
  exact Dens.mono' (fun _ _ h=>ZX h) (fun b hb=>(List.mem_append.mp hb).imp id fun z=>⟨xs,by rw [List.mem_singleton.mp z]; exact hp⟩) h
 refine ⟨by rw [List.length_append,List.length_append,S.len]; rfl,fun i j a c d h1 h2 h3 h4=>?_,fun i c e=>?_⟩
 ·rcases YD h3 with h3 | ⟨e3,_⟩
  ·rcases YD h4 with h4 | ⟨e4,_⟩
   ·obtain ⟨a1,q1,_⟩:=S.cell i _ h3
    obtain ⟨a2,q2,_⟩:=S.cell j _ h4
    have z1:=ZX (x:=p) q1
    have z2:=ZX (x:=p) q2
    rw [h1] at z1; cases z1
    rw [h2] at z2; cases z2
    exact S.nd i j a c d q1 q2 h3 h4
   ·obtain ⟨a1,q1,_⟩:=S.cell i _ h3
    have z1:=ZX (x:=p) q1
    rw [h1] at z1; cases z1
    rw [e4,←S.len,ZM] at h2
    cases h2
    exact absurd (List.mem_of_getElem? q1) hn
  ·rcases YD h4 with h4 | ⟨e4,_⟩
   ·obtain ⟨a2,q2,_⟩:=S.cell j _ h4
    have z2:=ZX (x:=p) q2
    rw [h2] at z2; cases z2
    rw [e3,←S.len,ZM] at h1
    cases h1
    exact absurd (List.mem_of_getElem? q2) hn
   ·omega
 ·rcases YD e with e | ⟨e1,e2⟩
  ·obtain ⟨a,h,xs,r,q⟩:=S.cell i c e
   exact ⟨a,ZX h,xs,mono r,q⟩
  ·subst e2
   exact ⟨p,by rw [e1,←S.len]; exact ZM,xs,mono r,.inl ⟨rfl,hp⟩⟩
theorem Ext.write {a:Addr}{xs ys:List V} (h:H a=some (.lst xs)) (ha:a∈ad):Ext ad H ad (upd H a (.lst ys)):=
 ⟨fun _ _ h=>h,fun b zs e=>by rw [upd_ne (ne_of e h (by intro z; cases z))]; exact e,fun b zs e=>by rw [upd_ne (ne_of e h (by intro z; cases z))]; exact e,fun b o e n=>by rw [upd_ne (show b≠a from fun z=>n (by rw [z]; exact ha))]; exact e,fun _ h=>.inl h⟩
theorem StOk.write {st:Za}{a:Addr}{i:Nat}{ds es:List D}{xs ys:List V} (S:StOk K ad H st) (h:ad[i]?=some a) (e:st[i]?=some (true,ds)) (hx:H a=some (.lst xs)) (r:Dens K ad H ys es) :
  StOk K ad (upd H a (.lst ys)) (st.set i (true,es)):=by
 have hi:i < st.length:=(List.getElem?_eq_some_iff.mp e).1
 have hm:a∈ad:=List.mem_of_getElem? h
 refine ⟨by rw [List.length_set]; exact S.len,fun j k b c d h1 h2 h3 h4=>?_,fun j c q=>?_⟩
 ·have up:∀ (j:Nat) (c:List D),(st.set i (true,es))[j]?=some (true,c)→∃ c',st[j]?=some (true,c'):=fun j c q=>by
   by_cases z:i=j
   ·subst z; exact ⟨_,e⟩
   ·rw [List.getElem?_set_ne z] at q; exact ⟨_,q⟩
  obtain ⟨c',h3⟩:=up j c h3
  obtain ⟨d',h4⟩:=up k d h4
  exact S.nd j k b c' d' h1 h2 h3 h4
 ·by_cases z:i=j
  ·subst z
   rw [List.getElem?_set_self hi] at q
   cases q
   exact ⟨a,h,ys,r.mono (Ext.write hx hm),.inl ⟨rfl,upd_same⟩⟩
  ·rw [List.getElem?_set_ne z] at q
   obtain ⟨b,hb,zs,rz,hz⟩:=S.cell j c q
   refine ⟨b,hb,zs,rz.mono (Ext.write hx hm),?_⟩
   rcases hz with ⟨t,hz⟩ | ⟨t,⟨o,hz⟩ | hz⟩
   ·obtain ⟨cb,cl⟩:=c
    cases (show cb=true from t)
    have ne:b≠a:=fun w=>z (S.nd i j a ds cl h (w ▸ hb) e q)
    exact .inl ⟨rfl,by rw [upd_ne ne]; exact hz⟩
   ·exact .inr ⟨t,.inl ⟨o,by rw [upd_ne (ne_of hz hx (by intro z; cases z))]; exact hz⟩⟩
   ·exact .inr ⟨t,.inr hz⟩

structure EnvOk (K:PySem.W.Frag) (ad:List Addr) (H:Hp) (σ:L2.St) (ρ:Env):Prop where
 len:σ.length=ρ.length
 at_:∀ (i:Nat) (d:D),ρ[i]?=some (some d)→∃ v,σ[i]?=some (some v)∧Den K ad H v d
theorem EnvOk.mono {σ:L2.St}{ρ:Env} (x:Ext ad H ad' H') (h:EnvOk K ad H σ ρ):EnvOk K ad' H' σ ρ:=⟨h.len,fun i d e=>let ⟨v,e1,e2⟩:=h.at_ i d e; ⟨v,e1,e2.mono x⟩⟩
theorem EnvOk.set {σ:L2.St}{ρ:Env}{v:V}{d:D} (h:EnvOk K ad H σ ρ) (i:Nat) (r:Den K ad H v d):EnvOk K ad H (σ.set i (some v)) (ZB ρ i d):=by
 refine ⟨by unfold ZB; rw [List.length_set,List.length_set]; exact h.len,fun j e q=>?_⟩
 unfold ZB at q
 by_cases z:i=j
 ·subst z
  by_cases hi:i < ρ.length
  ·rw [List.getElem?_set_self hi] at q
   cases q
   exact ⟨v,by rw [List.getElem?_set_self (by rw [h.len]; exact hi)],r⟩
  ·rw [List.getElem?_eq_none (by rw [List.length_set]; omega)] at q
   cases q
 ·rw [List.getElem?_set_ne z] at q
  obtain ⟨w,e1,e2⟩:=h.at_ j e q
  exact ⟨w,by rw [List.getElem?_set_ne z]; exact e1,e2⟩
end

noncomputable def Post (K:PySem.W.Frag) (ad:List Addr) (H:Hp) (d:D) (st':Za) (Q:VK):Prop:=∀ v ad' H',Ext ad H ad' H'→StOk K ad' H' st'→Den K ad' H' v d→Q v H'
noncomputable def tE (K:PySem.W.Frag) (f:Env→Za→Res):TE:=fun σ H Q=>∃ ad ρ st d st',EnvOk K ad H σ ρ∧StOk K ad H st∧f ρ st=some (d,st')∧Post K ad H d st' Q
noncomputable def tT (K:PySem.W.Frag) (f:Env→Za→Res):TT:=fun σ H Q=>∃ ad ρ st k st',EnvOk K ad H σ ρ∧StOk K ad H st∧f ρ st=some (.bl k,st')∧∀ ad' H',Ext ad H ad' H'→StOk K ad' H' st'→Q k H'
noncomputable def tA (K:PySem.W.Frag) (f:Env→Za→Res):TA:=fun σ H Q=>∃ ad ρ st ds st',EnvOk K ad H σ ρ∧StOk K ad H st∧f ρ st=some (.tup ds,st')∧∀ vs ad' H',Ext ad H ad' H'→StOk K ad' H' st'→Dens K ad' H' vs ds→Q vs H'
noncomputable def rD (K:PySem.W.Frag) (f:D→D→Za→Res):R2:=fun x y H Q=>∃ ad st dx dy d st',StOk K ad H st∧Den K ad H x dx∧Den K ad H y dy∧f dx dy st=some (d,st')∧Post K ad H d st' Q
noncomputable def spD (K:PySem.W.Frag) (g:Fn):Sp:=fun vs H Q _=>∃ ad ds st d st',StOk K ad H st∧Dens K ad H vs ds∧g ds st=some (d,st')∧Post K ad H d st' Q
noncomputable def tS (K:PySem.W.Frag) (f:Env→Za→Option (Fl×Za)):TS:=fun D σ H=>∃ ad ρ st r st',EnvOk K ad H σ ρ∧StOk K ad H st∧f ρ st=some (r,st') ∧
 match r with
 | .nx ρ'=>∀ σ' ad' H',Ext ad H ad' H'→StOk K ad' H' st'→EnvOk K ad' H' σ' ρ'→D.nx σ' H'
 | .bk ρ'=>∀ σ' ad' H',Ext ad H ad' H'→StOk K ad' H' st'→EnvOk K ad' H' σ' ρ'→D.bk σ' H'
 | .ct ρ'=>∀ σ' ad' H',Ext ad H ad' H'→StOk K ad' H' st'→EnvOk K ad' H' σ' ρ'→D.ct σ' H'
 | .rt d=>Post K ad H d st' D.rt
theorem Post.at {K:PySem.W.Frag}{ad:List Addr}{H:Hp}{d:D}{st:Za}{Q:VK} (p:Post K ad H d st Q) (S:StOk K ad H st) {v:V} (h:Den K ad H v d):Q v H:=p v ad H (Ext.refl _ _) S h
theorem Post.later {K:PySem.W.Frag}{ad ad':List Addr}{H H':Hp}{d:D}{st:Za}{Q:VK} (p:Post K ad H d st Q) (x:Ext ad H ad' H'):Post K ad' H' d st Q:=fun v a2 H2 y S h=>p v a2 H2 (x.trans y) S h
end Dp



namespace Dp
open PySem PySem.Spec PyProof.Rows L2
variable [ClsTab]
section
variable {X:Cx}{a b c:Expr}{fa fb fc:Ev}{pos:Pos}

theorem Zdz {K:PySem.W.Frag}{i:Nat} (σ:L2.St) (H:Hp) (Q:VK) (h:tE K (Y6 i) σ H Q):tVar i σ H Q:=by
 obtain ⟨ad,ρ,st,d,st',E,S,e,p⟩:=h
 unfold Y6 at e
 split at e
 ·rename_i q
  obtain ⟨v,e1,e2⟩:=E.at_ i _ q
  cases e
  exact ⟨v,e1,p.at S e2⟩
 ·cases e
theorem U3 {K:PySem.W.Frag}{v:V}{d:D} (hd:∀ ad H,Den K ad H v d) (σ:L2.St) (H:Hp) (Q:VK) (h:tE K (evC d) σ H Q):tC v σ H Q:=by
 obtain ⟨ad,ρ,st,d',st',E,S,e,p⟩:=h
 cases e
 exact p.at S (hd _ _)
theorem Um {K:PySem.W.Frag}{g:D→D→Za→Res} (σ:L2.St) (H:Hp) (Q:VK) (h:tE K (Yf fa fb g) σ H Q):tOp (rD K g) (tE K fa) (tE K fb) σ H Q:=by
 obtain ⟨ad,ρ,st,d,st',E,S,e,p⟩:=h
 unfold Yf at e
 split at e
 ·rename_i x st1 q1
  split at e
  ·rename_i y st2 q2
   refine ⟨ad,ρ,st,x,st1,E,S,q1,fun v1 ad1 H1 x1 S1 d1=>⟨ad1,ρ,st1,y,st2,E.mono x1,S1,q2,fun v2 ad2 H2 x2 S2 d2=>?_⟩⟩
   exact ⟨ad2,st2,x,y,d,st',S2,d1.mono x2,d2,e,p.later (x1.trans x2)⟩
  ·cases e
 ·cases e
noncomputable def rU1 (K:PySem.W.Frag) (g:D→Za→Res):V→Hp→VK→Prop:=fun x H Q=>∃ ad st dx d st',StOk K ad H st∧Den K ad H x dx∧g dx st=some (d,st')∧Post K ad H d st' Q
theorem Zfo {K:PySem.W.Frag}{g:D→Za→Res} (σ:L2.St) (H:Hp) (Q:VK) (h:tE K (Yb fa g) σ H Q):tUn (rU1 K g) (tE K fa) σ H Q:=by
 obtain ⟨ad,ρ,st,d,st',E,S,e,p⟩:=h
 unfold Yb at e
 split at e
 ·rename_i x st1 q1
  exact ⟨ad,ρ,st,x,st1,E,S,q1,fun v1 ad1 H1 x1 S1 d1=>⟨ad1,st1,x,d,st',S1,d1,e,p.later x1⟩⟩
 ·cases e
theorem QR {K:PySem.W.Frag} (σ:L2.St) (H:Hp) (Q:Bool→Hp→Prop) (h:tT K fa σ H Q):tE K fa σ H fun x H1=>∃ c,x=.bl c∧Q c H1:=by
 obtain ⟨ad,ρ,st,k,st',E,S,e,p⟩:=h
 exact ⟨ad,ρ,st,.bl k,st',E,S,e,fun v ad' H' x S' d'=>⟨k,d'.ofBl,p ad' H' x S'⟩⟩
theorem Yk {fc ft ff:Ev}{ρ:Env}{st:Za}{r:D×Za} (h:Xn fc ft ff ρ st=some r):∃ k st1,fc ρ st=some (.bl k,st1)∧(if k=true then ft ρ st1 else ff ρ st1)=some r:=by
 unfold Xn at h
 split at h
 ·rename_i st1 q
  exact ⟨true,st1,q,by rw [if_pos rfl]; exact h⟩
 ·rename_i st1 q
  exact ⟨false,st1,q,by rw [if_neg Bool.false_ne_true]; exact h⟩
 ·cases h
theorem Zfn {K:PySem.W.Frag} (σ:L2.St) (H:Hp) (Q:VK) (h:tE K (Xn fc fa fb) σ H Q):tIf (tT K fc) (tE K fa) (tE K fb) σ H Q:=by
 obtain ⟨ad,ρ,st,d,st',E,S,e,p⟩:=h
 obtain ⟨k,st1,q,e⟩:=Yk e
 refine ⟨ad,ρ,st,k,st1,E,S,q,fun ad1 H1 x1 S1=>?_⟩
 cases k with
 | true=>
  rw [if_pos rfl] at e ⊢
  exact ⟨ad1,ρ,st1,d,st',E.mono x1,S1,e,p.later x1⟩
 | false=>
  rw [if_neg Bool.false_ne_true] at e ⊢
  exact ⟨ad1,ρ,st1,d,st',E.mono x1,S1,e,p.later x1⟩
theorem Zbb {K:PySem.W.Frag} (σ:L2.St) (H:Hp) (Q:VK) (h:tE K (Xn fa fb (evC (.bl false))) σ H Q):tAndV (tE K fa) (tE K fb) σ H Q:=by
 obtain ⟨ad,ρ,st,d,st',E,S,e,p⟩:=h
 obtain ⟨k,st1,q,e⟩:=Yk e
 refine ⟨ad,ρ,st,.bl k,st1,E,S,q,fun v1 ad1 H1 x1 S1 d1=>⟨k,d1.ofBl,?_⟩⟩
 cases k with
 | true=>
  rw [if_pos rfl] at e ⊢
  exact ⟨ad1,ρ,st1,d,st',E.mono x1,S1,e,p.later x1⟩
 | false=>
  rw [if_neg Bool.false_ne_true] at e ⊢
  cases e
  exact (p.later x1).at S1 (.bl false)
theorem Zdu {K:PySem.W.Frag} (σ:L2.St) (H:Hp) (Q:VK) (h:tE K (Xn fa (evC (.bl true)) fb) σ H Q):tOrV (tE K fa) (tE K fb) σ H Q:=by
 obtain ⟨ad,ρ,st,d,st',E,S,e,p⟩:=h
 obtain ⟨k,st1,q,e⟩:=Yk e
 refine ⟨ad,ρ,st,.bl k,st1,E,S,q,fun v1 ad1 H1 x1 S1 d1=>⟨k,d1.ofBl,?_⟩⟩
 cases k with
 | true=>
  rw [if_pos rfl] at e ⊢
  cases e
  exact (p.later x1).at S1 (.bl true)
 | false=>
  rw [if_neg Bool.false_ne_true] at e ⊢
  exact ⟨ad1,ρ,st1,d,st',E.mono x1,S1,e,p.later x1⟩
theorem Zba {K:PySem.W.Frag} (σ:L2.St) (H:Hp) (Q:Bool→Hp→Prop) (h:tT K (Xn fa fb (evC (.bl false))) σ H Q):tAnd (tT K fa) (tT K fb) σ H Q:=by
 obtain ⟨ad,ρ,st,d,st',E,S,e,p⟩:=h
 obtain ⟨k,st1,q,e⟩:=Yk e
 refine ⟨ad,ρ,st,k,st1,E,S,q,fun ad1 H1 x1 S1=>?_⟩
 cases k with
 | true=>
  rw [if_pos rfl] at e ⊢
  exact ⟨ad1,ρ,st1,d,st',E.mono x1,S1,e,fun ad2 H2 x2 S2=>p ad2 H2 (x1.trans x2) S2⟩
 | false=>
  rw [if_neg Bool.false_ne_true] at e ⊢
  cases e
  exact p ad1 H1 x1 S1
theorem Zdt {K:PySem.W.Frag} (σ:L2.St) (H:Hp) (Q:Bool→Hp→Prop) (h:tT K (Xn fa (evC (.bl true)) fb) σ H Q):tOr (tT K fa) (tT K fb) σ H Q:=by
 obtain ⟨ad,ρ,st,d,st',E,S,e,p⟩:=h
 obtain ⟨k,st1,q,e⟩:=Yk e
 refine ⟨ad,ρ,st,k,st1,E,S,q,fun ad1 H1 x1 S1=>?_⟩
 cases k with
 | true=>
  rw [if_pos rfl] at e ⊢
  cases e
  exact p ad1 H1 x1 S1
 | false=>
  rw [if_neg Bool.false_ne_true] at e ⊢
  exact ⟨ad1,ρ,st1,d,st',E.mono x1,S1,e,fun ad2 H2 x2 S2=>p ad2 H2 (x1.trans x2) S2⟩
theorem Zbl {K:PySem.W.Frag} (σ:L2.St) (H:Hp) (Q:Bool→Hp→Prop) (h:tT K (Yb fa Zat) σ H Q):tNot (tT K fa) σ H Q:=by
 obtain ⟨ad,ρ,st,d,st',E,S,e,p⟩:=h
 unfold Yb at e
 split at e
 ·rename_i x st1 q1
  cases x with
  | bl k=>
   cases (show some (D.bl (!k),st1)=_ from e)
   exact ⟨ad,ρ,st,k,_,E,S,q1,fun ad1 H1 x1 S1=>p ad1 H1 x1 S1⟩
  | _=>simp [Zat] at e
 ·cases e
theorem Zbm {K:PySem.W.Frag} (σ:L2.St) (H:Hp) (Q:VK) (h:tE K (Yb fa Zat) σ H Q):tNotV (tE K fa) σ H Q:=by
 obtain ⟨ad,ρ,st,d,st',E,S,e,p⟩:=h
 unfold Yb at e
 split at e
 ·rename_i x st1 q1
  cases x with
  | bl k=>
   cases (show some (D.bl (!k),st1)=_ from e)
   exact ⟨ad,ρ,st,.bl k,_,E,S,q1,fun v1 ad1 H1 x1 S1 d1=>⟨k,d1.ofBl,(p.later x1).at S1 (.bl _)⟩⟩
  | _=>simp [Zat] at e
 ·cases e
theorem U1 {K:PySem.W.Frag} (σ:L2.St) (H:Hp) (Q:List V→Hp→Prop) (h:tA K (evC (.tup [])) σ H Q):tNil σ H Q:=by
 obtain ⟨ad,ρ,st,d,st',E,S,e,p⟩:=h
 cases e
 exact p [] ad H (Ext.refl _ _) S .nil
theorem Zag {K:PySem.W.Frag} (σ:L2.St) (H:Hp) (Q:List V→Hp→Prop) (h:tA K (Yf fa fb Wx) σ H Q):tCons (tE K fa) (tA K fb) σ H Q:=by
 obtain ⟨ad,ρ,st,d,st',E,S,e,p⟩:=h
 unfold Yf at e
 split at e
 ·rename_i x st1 q1
  split at e
  ·rename_i y st2 q2
   cases y with
   | tup zs=>
    have e:(if zs.length < 1000 then some (D.tup (x :: zs),st2) else none)=some (D.tup d,st'):=e
    split at e
    ·cases e
     refine ⟨ad,ρ,st,_,st1,E,S,q1,fun v1 ad1 H1 x1 S1 d1=>⟨ad1,ρ,st1,zs,_,E.mono x1,S1,q2,fun v2 ad2 H2 x2 S2 d2=>?_⟩⟩
     exact p _ ad2 H2 (x1.trans x2) S2 (.cons (d1.mono x2) d2)
    ·cases e
   | _=>simp [Wx] at e
  ·cases e
 ·cases e
theorem Zdy {K:PySem.W.Frag} (hb:∀ ρ st ds st',fa ρ st=some (.tup ds,st')→ds.length≤1000) (ht:∀ ρ st d st',fa ρ st=some (d,st')→∃ ds,d=.tup ds) (σ:L2.St) (H:Hp) (Q:VK) (h:tE K fa σ H Q):tTup (tA K fa) σ H Q:=by
 obtain ⟨ad,ρ,st,d,st',E,S,e,p⟩:=h
 obtain ⟨ds,rfl⟩:=ht _ _ _ _ e
 refine ⟨ad,ρ,st,ds,st',E,S,e,fun vs ad1 H1 x1 S1 d1=>⟨?_,fun q hq=>?_⟩⟩
 ·rw [d1.length]
  exact Nat.le_trans (hb _ _ _ _ e) (by decide)
 ·exact p _ ad1 _ (x1.trans (Ext.laid hq)) (S1.laid hq) (.tup (.inl upd_same) (d1.mono (Ext.laid hq)))
theorem Zdr {K:PySem.W.Frag} (hb:∀ ρ st ds st',fa ρ st=some (.tup ds,st')→ds.length≤1000) (σ:L2.St) (H:Hp) (Q:VK) (h:tE K (Yb fa ZbA) σ H Q):tLst (tA K fa) σ H Q:=by
 obtain ⟨ad,ρ,st,d,st',E,S,e,p⟩:=h
 unfold Yb at e
 split at e
 ·rename_i x st1 q1
  cases x with
  | tup ds=>
   cases (show some (D.lst st1.length,st1++[(true,ds)])=_ from e)
   refine ⟨ad,ρ,st,ds,_,E,S,q1,fun vs ad1 H1 x1 S1 d1=>⟨?_,fun q hq=>?_⟩⟩
   ·rw [d1.length]
    exact Nat.le_trans (hb _ _ _ _ q1) (by decide)
   ·refine p _ (ad1++[q]) _ (x1.trans (Ext.push hq)) (S1.push hq d1) (.lst ?_)
    rw [←S1.len]
    exact ZM
  | _=>simp [ZbA] at e
 ·cases e
theorem U4 {K:PySem.W.Frag}{g:Fn}{ds:List D}{dvs:List V}{E:XK} (hd:∀ ad H,Dens K ad H dvs ds) (σ:L2.St) (H:Hp) (Q:VK) (h:tE K (Yb fa (UQ g ds)) σ H Q):tCall (spD K g) dvs E (tA K fa) σ H Q:=by
 obtain ⟨ad,ρ,st,d,st',E,S,e,p⟩:=h
 unfold Yb at e
 split at e
 ·rename_i x st1 q1
  cases x with
  | tup xs=>exact ⟨ad,ρ,st,xs,_,E,S,q1,fun vs ad1 H1 x1 S1 d1=>⟨ad1,xs++ds,_,d,st',S1,d1.append (hd _ _),e,p.later x1⟩⟩
  | _=>simp [UQ] at e
 ·cases e
noncomputable def rC (K:PySem.W.Frag) (g:List D→Za→Res):List V→Hp→VK→Prop:=fun vs H Q=>∃ ad st ds d st',StOk K ad H st∧Dens K ad H vs ds∧g ds st=some (d,st')∧Post K ad H d st' Q
noncomputable def on1 (g:D→Za→Res):List D→Za→Res
 | [x],st=>g x st
 | _,_=>none
noncomputable def on2 (g:D→D→Za→Res):List D→Za→Res
 | [x,y],st=>g x y st
 | _,_=>none
theorem Vb {K:PySem.W.Frag}{g:D→Za→Res} (σ:L2.St) (H:Hp) (Q:VK) (h:tE K (Yb fa g) σ H Q):tCB (rC K (on1 g)) (tCons (tE K fa) tNil) σ H Q:=by
 obtain ⟨ad,ρ,st,d,st',E,S,e,p⟩:=h
 unfold Yb at e
 split at e
 ·rename_i x st1 q1
  exact ⟨ad,ρ,st,x,st1,E,S,q1,fun v1 ad1 H1 x1 S1 d1=>⟨ad1,st1,[x],d,st',S1,.cons d1 .nil,e,p.later x1⟩⟩
 ·cases e
theorem U2 {K:PySem.W.Frag}{g:D→D→Za→Res} (σ:L2.St) (H:Hp) (Q:VK) (h:tE K (Yf fa fb g) σ H Q):tCB (rC K (on2 g)) (tCons (tE K fa) (tCons (tE K fb) tNil)) σ H Q:=by
 obtain ⟨ad,ρ,st,d,st',E,S,e,p⟩:=h
 unfold Yf at e
 split at e
 ·rename_i x st1 q1
  split at e
  ·rename_i y st2 q2
   refine ⟨ad,ρ,st,x,st1,E,S,q1,fun v1 ad1 H1 x1 S1 d1=>⟨ad1,ρ,st1,y,st2,E.mono x1,S1,q2,fun v2 ad2 H2 x2 S2 d2=>?_⟩⟩
   exact ⟨ad2,st2,[x,y],d,st',S2,.cons (d1.mono x2) (.cons d2 .nil),e,p.later (x1.trans x2)⟩
  ·cases e
 ·cases e
noncomputable def tO (K:PySem.W.Frag) (f:Ev):TO:=fun σ H Q=>∃ ad ρ st d st',EnvOk K ad H σ ρ∧StOk K ad H st∧f ρ st=some (d,st') ∧
 ((d=.non∧∀ ad' H',Ext ad H ad' H'→StOk K ad' H' st'→Q none H')∨∃ i,d=.int i∧∀ ad' H',Ext ad H ad' H'→StOk K ad' H' st'→Q (some i) H')
noncomputable def rSl (K:PySem.W.Frag):V→Option Int→Option Int→Hp→VK→Prop:=fun x lo hi H Q=>∃ ad st dx d st',StOk K ad H st∧Den K ad H x dx∧Yy dx lo hi st=some (d,st')∧Post K ad H d st' Q
noncomputable def part:D→Option (Option Int)
 | .non=>some none
 | .int i=>some (some i)
 | _=>none
theorem UD {x l h:D}{st:Za}{r:D×Za} (e:X3 x l h st=some r):∃ lo hi,part l=some lo∧part h=some hi∧Yy x lo hi st=some r:=by
 unfold X3 at e
 split at e
 ·exact ⟨_,_,rfl,rfl,e⟩
 ·exact ⟨_,_,rfl,rfl,e⟩
 ·exact ⟨_,_,rfl,rfl,e⟩
 ·exact ⟨_,_,rfl,rfl,e⟩
 ·cases e
theorem ZeJ {K:PySem.W.Frag}{f:Ev}{σ:L2.St}{H:Hp}{Q:Option Int→Hp→Prop}{ad:List Addr}{ρ:Env}{st st':Za}{d:D}{o:Option Int} (E:EnvOk K ad H σ ρ) (S:StOk K ad H st) (e:f ρ st=some (d,st')) (po:part d=some o)
  (q:∀ ad' H',Ext ad H ad' H'→StOk K ad' H' st'→Q o H'):tO K f σ H Q:=by
 refine ⟨ad,ρ,st,d,st',E,S,e,?_⟩
 cases d with
 | non=>cases po; exact .inl ⟨rfl,q⟩
 | int i=>cases po; exact .inr ⟨i,rfl,q⟩
 | _=>cases po
theorem Zai {K:PySem.W.Frag} (σ:L2.St) (H:Hp) (Q:VK) (h:tE K (Qo fa fb fc X3) σ H Q):tSl (rSl K) (tE K fa) (tO K fb) (tO K fc) σ H Q:=by
 obtain ⟨ad,ρ,st,d,st',E,S,e,p⟩:=h
 unfold Qo at e
 split at e
 ·rename_i x st1 q1
  split at e
  ·rename_i y st2 q2
   split at e
   ·rename_i z st3 q3
    obtain ⟨lo,hi,pl,ph,e⟩:=UD e
    refine ⟨ad,ρ,st,x,st1,E,S,q1,fun v1 ad1 H1 x1 S1 d1=>ZeJ (E.mono x1) S1 q2 pl fun ad2 H2 x2 S2=>ZeJ (E.mono (x1.trans x2)) S2 q3 ph fun ad3 H3 x3 S3=>?_⟩
    exact ⟨ad3,st3,x,d,st',S3,d1.mono (x2.trans x3),e,p.later (x1.trans (x2.trans x3))⟩
   ·cases e
  ·cases e
 ·cases e
theorem Zds {K:PySem.W.Frag} (σ:L2.St) (H:Hp) (Q:Option Int→Hp→Prop) (h:tO K (evC .non) σ H Q):tNoPart σ H Q:=by
 obtain ⟨ad,ρ,st,d,st',E,S,e,p⟩:=h
 cases e
 rcases p with ⟨_,p⟩ | ⟨i,z,_⟩
 ·exact p ad H (Ext.refl _ _) S
 ·cases z
end
end Dp



namespace Dp
open PySem PySem.Spec PyProof.Rows L2
variable [ClsTab]
noncomputable def PostS (K:PySem.W.Frag) (ad:List Addr) (H:Hp) (r:Fl) (st':Za) (D:Ends):Prop:=match r with
 | .nx ρ'=>∀ σ' ad' H',Ext ad H ad' H'→StOk K ad' H' st'→EnvOk K ad' H' σ' ρ'→D.nx σ' H'
 | .bk ρ'=>∀ σ' ad' H',Ext ad H ad' H'→StOk K ad' H' st'→EnvOk K ad' H' σ' ρ'→D.bk σ' H'
 | .ct ρ'=>∀ σ' ad' H',Ext ad H ad' H'→StOk K ad' H' st'→EnvOk K ad' H' σ' ρ'→D.ct σ' H'
 | .rt d=>Post K ad H d st' D.rt
theorem PostS.later {K:PySem.W.Frag}{ad ad':List Addr}{H H':Hp}{r:Fl}{st:Za}{D:Ends} (x:Ext ad H ad' H') (p:PostS K ad H r st D):PostS K ad' H' r st D:=by
 cases r with
 | nx ρ=>exact fun σ2 a2 H2 y S E=>p σ2 a2 H2 (x.trans y) S E
 | bk ρ=>exact fun σ2 a2 H2 y S E=>p σ2 a2 H2 (x.trans y) S E
 | ct ρ=>exact fun σ2 a2 H2 y S E=>p σ2 a2 H2 (x.trans y) S E
 | rt d=>exact Post.later p x
theorem Yv {K:PySem.W.Frag}{f:Ex}{D:Ends}{σ:L2.St}{H:Hp}{ad:List Addr}{ρ:Env}{st st':Za}{r:Fl} (E:EnvOk K ad H σ ρ) (S:StOk K ad H st) (e:f ρ st=some (r,st')) (p:PostS K ad H r st' D):tS K f D σ H:=by
 refine ⟨ad,ρ,st,r,st',E,S,e,?_⟩
 cases r<;>exact p
theorem Yn {K:PySem.W.Frag}{f:Ex}{D:Ends}{σ:L2.St}{H:Hp} (h:tS K f D σ H):∃ ad ρ st r st',EnvOk K ad H σ ρ∧StOk K ad H st∧f ρ st=some (r,st')∧PostS K ad H r st' D:=by
 obtain ⟨ad,ρ,st,r,st',E,S,e,p⟩:=h
 refine ⟨ad,ρ,st,r,st',E,S,e,?_⟩
 cases r<;>exact p
section
variable {K:PySem.W.Frag}{f g:Ex}{fe fi fk:Ev}
theorem U5 (D:Ends) (σ:L2.St) (H:Hp) (h:tS K (fun ρ st=>some (.nx ρ,st)) D σ H):tNext D σ H:=by
 obtain ⟨ad,ρ,st,r,st',E,S,e,p⟩:=Yn h
 cases e
 exact p σ ad H (Ext.refl _ _) S E
theorem Zdn (D:Ends) (σ:L2.St) (H:Hp) (h:tS K (fun ρ st=>some (.bk ρ,st)) D σ H):tBreak D σ H:=by
 obtain ⟨ad,ρ,st,r,st',E,S,e,p⟩:=Yn h
 cases e
 exact p σ ad H (Ext.refl _ _) S E
theorem Zbc (D:Ends) (σ:L2.St) (H:Hp) (h:tS K (fun ρ st=>some (.ct ρ,st)) D σ H):tCont D σ H:=by
 obtain ⟨ad,ρ,st,r,st',E,S,e,p⟩:=Yn h
 cases e
 exact p σ ad H (Ext.refl _ _) S E
theorem Zdx (D:Ends) (σ:L2.St) (H:Hp) (h:tS K (Zax f g) D σ H):tSeq (tS K f) (tS K g) D σ H:=by
 obtain ⟨ad,ρ,st,r,st',E,S,e,p⟩:=Yn h
 unfold Zax at e
 split at e
 ·rename_i ρ1 st1 q
  exact Yv E S q fun σ1 ad1 H1 x1 S1 E1=>Yv E1 S1 e (p.later x1)
 ·rename_i q
  refine Yv E S e ?_
  cases r with
  | nx ρ1=>exact absurd e (q ρ1 st')
  | bk ρ1=>exact p
  | ct ρ1=>exact p
  | rt d=>exact p
theorem Zdw (D:Ends) (σ:L2.St) (H:Hp) (h:tS K (Zcp fe) D σ H):tRet (tE K fe) D σ H:=by
 obtain ⟨ad,ρ,st,r,st',E,S,e,p⟩:=Yn h
 unfold Zcp at e
 split at e
 ·rename_i d st1 q
  cases e
  exact ⟨ad,ρ,st,d,_,E,S,q,p⟩
 ·cases e
theorem Uo {i:Nat} (D:Ends) (σ:L2.St) (H:Hp) (h:tS K (Qr i fe) D σ H):tAsg (tE K fe) (gName i) D σ H:=by
 obtain ⟨ad,ρ,st,r,st',E,S,e,p⟩:=Yn h
 unfold Qr at e
 split at e
 ·rename_i d st1 q
  cases e
  exact ⟨ad,ρ,st,d,_,E,S,q,fun v ad1 H1 x1 S1 d1=>p _ ad1 H1 x1 S1 ((E.mono x1).set i d1)⟩
 ·cases e
theorem Zbn {i j:Nat} (D:Ends) (σ:L2.St) (H:Hp) (h:tS K (Qp i j fe) D σ H):tAsg (tE K fe) (gTup K 2 (gCons (gName i) (gCons (gName j) gNil))) D σ H:=by
 obtain ⟨ad,ρ,st,r,st',E,S,e,p⟩:=Yn h
 unfold Qp at e
 split at e
 ·rename_i x y st1 q
  cases e
  refine ⟨ad,ρ,st,_,_,E,S,q,fun v ad1 H1 x1 S1 d1=>?_⟩
  obtain ⟨a,vs,rfl,ha,rv⟩:=d1.ofTup
  cases rv with
  | cons d1 rv=>
   cases rv with
   | cons d2 rv=>
    cases rv
    exact ⟨a,_,rfl,(ha).sq,rfl,_,_,rfl,_,_,rfl,rfl,p _ ad1 H1 x1 S1 (((E.mono x1).set i d1).set j d2)⟩
 ·cases e
theorem Zbo {i j l:Nat} (D:Ends) (σ:L2.St) (H:Hp) (h:tS K (Qq i j l fe) D σ H):tAsg (tE K fe) (gTup K 3 (gCons (gName i) (gCons (gName j) (gCons (gName l) gNil)))) D σ H:=by
 obtain ⟨ad,ρ,st,r,st',E,S,e,p⟩:=Yn h
 unfold Qq at e
 split at e
 ·rename_i x y z st1 q
  cases e
  refine ⟨ad,ρ,st,_,_,E,S,q,fun v ad1 H1 x1 S1 d1=>?_⟩
  obtain ⟨a,vs,rfl,ha,rv⟩:=d1.ofTup
  cases rv with
  | cons d1 rv=>
   cases rv with
   | cons d2 rv=>
    cases rv with
    | cons d3 rv=>
     cases rv
     exact ⟨a,_,rfl,(ha).sq,rfl,_,_,rfl,_,_,rfl,_,_,rfl,rfl,p _ ad1 H1 x1 S1 ((((E.mono x1).set i d1).set j d2).set l d3)⟩
 ·cases e
theorem Zdl (D:Ends) (σ:L2.St) (H:Hp) (h:tS K (ZaI fe) D σ H):tDrop (tE K fe) D σ H:=by
 obtain ⟨ad,ρ,st,r,st',E,S,e,p⟩:=Yn h
 unfold ZaI at e
 split at e
 ·rename_i d st1 q
  cases e
  exact ⟨ad,ρ,st,d,_,E,S,q,fun v ad1 H1 x1 S1 d1=>p _ ad1 H1 x1 S1 (E.mono x1)⟩
 ·cases e
theorem Zdq (D:Ends) (σ:L2.St) (H:Hp) (h:tS K (Zal fe f g) D σ H):tIfS (tT K fe) (tS K f) (tS K g) D σ H:=by
 obtain ⟨ad,ρ,st,r,st',E,S,e,p⟩:=Yn h
 unfold Zal at e
 split at e
 ·rename_i st1 q
  refine ⟨ad,ρ,st,true,st1,E,S,q,fun ad1 H1 x1 S1=>?_⟩
  dsimp only
  rw [if_pos rfl]
  exact Yv (E.mono x1) S1 e (p.later x1)
 ·rename_i st1 q
  refine ⟨ad,ρ,st,false,st1,E,S,q,fun ad1 H1 x1 S1=>?_⟩
  dsimp only
  rw [if_neg Bool.false_ne_true]
  exact Yv (E.mono x1) S1 e (p.later x1)
 ·cases e
theorem Jf {ad:List Addr}{H:Hp}{st:Za}{i:Nat}{a:Addr} (S:StOk K ad H st) (h:ad[i]?=some a):∃ b ds,st[i]?=some (b,ds):=by
 have hi:i < st.length:=by rw [←S.len]; exact (List.getElem?_eq_some_iff.mp h).1
 exact ⟨st[i].1,st[i].2,by rw [List.getElem?_eq_getElem hi]⟩
theorem ZcZ {ad:List Addr}{H:Hp}{st st2:Za}{i:Nat}{a:Addr}{v:V}{d:D} (S:StOk K ad H st) (h:ad[i]?=some a) (hd:Den K ad H v d) (e:ZcY i d st=some st2) :
  ∃ xs,H a=some (.lst xs)∧xs.length < sizeLine∧Ext ad H ad (upd H a (.lst (xs++[v])))∧StOk K ad (upd H a (.lst (xs++[v]))) st2:=by
 unfold ZcY at e
 split at e
 ·rename_i ds q
  split at e
  ·rename_i hz
   cases e
   obtain ⟨xs,r,hx⟩:=S.listM h q
   refine ⟨xs,hx,?_,Ext.write hx (List.mem_of_getElem? h),S.write h q hx (r.append (.cons hd .nil))⟩
   rw [r.length]
   exact Nat.lt_of_lt_of_le hz (by decide)
  ·cases e
 ·cases e
theorem Zdm {i:Nat} (D:Ends) (σ:L2.St) (H:Hp) (h:tS K (ZaM i fe) D σ H):tDrop (tBM K "list" rAppend (tVar i) (tCons (tE K fe) tNil)) D σ H:=by
 obtain ⟨ad,ρ,st,r,st',E,S,e,p⟩:=Yn h
 unfold ZaM at e
 split at e
 ·rename_i a q0
  split at e
  ·rename_i d st1 q1
   split at e
   ·rename_i st2 q2
    cases e
    obtain ⟨v,e1,e2⟩:=E.at_ i _ q0
    obtain ⟨l,rfl,hl⟩:=e2.ofLst
    obtain ⟨b,ds,hc⟩:=Jf S hl
    obtain ⟨xs,_,sq⟩:=S.list hl hc
    refine ⟨_,e1,.inl ⟨rfl,xs,sq⟩,ad,ρ,st,d,st1,E,S,q1,fun w ad1 H1 x1 S1 d1=>?_⟩
    obtain ⟨ys,hy,hz,x2,S2⟩:=ZcZ S1 (x1.pre _ _ hl) d1 q2
    exact ⟨l,ys,w,rfl,rfl,hy,hz,p _ ad1 _ (x1.trans x2) S2 (E.mono (x1.trans x2))⟩
   ·cases e
  ·cases e
 ·cases e
theorem Zdo {i:Nat} (D:Ends) (σ:L2.St) (H:Hp) (h:tS K (Za5 i fe) D σ H):tDrop (tBM K "list" rExtend (tVar i) (tCons (tE K fe) tNil)) D σ H:=by
 obtain ⟨ad,ρ,st,r,st',E,S,e,p⟩:=Yn h
 unfold Za5 at e
 split at e
 ·rename_i a q0
  split at e
  ·rename_i b st1 q1
   split at e
   ·rename_i st2 q2
    cases e
    obtain ⟨v,e1,e2⟩:=E.at_ i _ q0
    obtain ⟨l,rfl,hl⟩:=e2.ofLst
    obtain ⟨bb,ds,hc⟩:=Jf S hl
    obtain ⟨xs,_,sq⟩:=S.list hl hc
    refine ⟨_,e1,.inl ⟨rfl,xs,sq⟩,ad,ρ,st,.lst b,st1,E,S,q1,fun w ad1 H1 x1 S1 d1=>?_⟩
    obtain ⟨m,rfl,hm⟩:=d1.ofLst
    unfold Zff at q2
    split at q2
    ·rename_i cs es f1 f2
     split at q2
     ·rename_i hz
      cases q2
      have hl1:=x1.pre _ _ hl
      obtain ⟨ys,ry,hy⟩:=S1.listM hl1 f1
      obtain ⟨zs,rz,hzz⟩:=S1.listM hm f2
      have x2:=Ext.write (ys:=ys++zs) hy (List.mem_of_getElem? hl1)
      refine ⟨l,m,ys,zs,rfl,rfl,hy,hzz,?_,p _ ad1 _ (x1.trans x2) (S1.write hl1 f1 hy (ry.append rz)) (E.mono (x1.trans x2))⟩
      rw [ry.length,rz.length]
      exact Nat.le_trans hz (by decide)
     ·cases q2
    ·cases q2
   ·cases e
  ·cases e
 ·cases e
theorem Zdv {i:Nat} (D:Ends) (σ:L2.St) (H:Hp) (h:tS K (Zci i fk fe) D σ H):tAsg (tE K fe) (gSub (tVar i) (tE K fk) rSetL) D σ H:=by
 obtain ⟨ad,ρ,st,r,st',E,S,e,p⟩:=Yn h
 unfold Zci at e
 split at e
 ·rename_i d st1 q1
  split at e
  ·rename_i a q0
   split at e
   ·rename_i j st2 q2
    split at e
    ·rename_i st3 q3
     cases e
     obtain ⟨v,e1,e2⟩:=E.at_ i _ q0
     obtain ⟨l,rfl,hl⟩:=e2.ofLst
     refine ⟨ad,ρ,st,d,st1,E,S,q1,fun w ad1 H1 x1 S1 d1=>⟨_,e1,ad1,ρ,st1,.int j,st2,E.mono x1,S1,q2,fun w2 ad2 H2 x2 S2 d2=>?_⟩⟩
     cases d2.ofInt
     unfold UH at q3
     split at q3
     ·rename_i ds q4
      split at q3
      ·rename_i k q5
       cases q3
       have hl2:=(x1.trans x2).pre _ _ hl
       obtain ⟨xs,r,hx⟩:=S2.listM hl2 q4
       have x3:Ext ad2 H2 ad2 (upd H2 l (.lst (xs.set k w))):=Ext.write hx (List.mem_of_getElem? hl2)
       refine ⟨l,xs,j,k,rfl,rfl,hx,?_,p _ ad2 _ (x1.trans (x2.trans x3)) (S2.write hl2 q4 hx (r.set (d1.mono x2) k)) (E.mono (x1.trans (x2.trans x3)))⟩
       rw [r.length]
       exact q5
      ·cases q3
     ·cases q3
    ·cases e
   ·cases e
  ·cases e
 ·cases e
noncomputable def Left (K:PySem.W.Frag) (b:D→Env→Za→Option (Fl×Za)) (E:Ends) (xs:List D) (σ:L2.St) (H:Hp):Prop:=∃ ad ρ st r st',EnvOk K ad H σ ρ∧StOk K ad H st∧Yo b xs ρ st=some (r,st')∧PostS K ad H r st' E
theorem Left.turn {i:Nat}{b:Ex}{E:Ends}{x:D}{xs:List D}{σ:L2.St}{H:Hp}{v:V} (hv:∀ ad H,Den K ad H v x) (h:Left K (fun d ρ s=>b (ZB ρ i d) s) E (x :: xs) σ H) :
  tS K b { E with nx:=Left K (fun d ρ s=>b (ZB ρ i d) s) E xs,ct:=Left K (fun d ρ s=>b (ZB ρ i d) s) E xs,bk:=E.nx } (σ.set i (some v)) H:=by
 obtain ⟨ad,ρ,st,r,st',En,S,e,p⟩:=h
 unfold Yo at e
 have En2:=En.set i (hv ad H)
 split at e
 ·rename_i ρ1 st1 q
  exact Yv En2 S q fun σ1 ad1 H1 x1 S1 E1=>⟨ad1,ρ1,st1,r,st',E1,S1,e,p.later x1⟩
 ·rename_i ρ1 st1 q
  exact Yv En2 S q fun σ1 ad1 H1 x1 S1 E1=>⟨ad1,ρ1,st1,r,st',E1,S1,e,p.later x1⟩
 ·rename_i ρ1 st1 q
  cases e
  exact Yv En2 S q fun σ1 ad1 H1 x1 S1 E1=>p σ1 ad1 H1 x1 S1 E1
 ·rename_i d st1 q
  cases e
  exact Yv En2 S q p
 ·cases e
theorem Left.turnD {i:Nat}{b:Ex}{E:Ends}{x:D}{xs:List D}{σ:L2.St}{H:Hp}{ad:List Addr}{ρ:Env}{st st':Za}{r:Fl}{v:V} (En:EnvOk K ad H σ ρ) (S:StOk K ad H st) (hv:Den K ad H v x)
  (e:Yo (fun d ρ s=>b (ZB ρ i d) s) (x :: xs) ρ st=some (r,st')) (p:PostS K ad H r st' E) (L:L2.St→Hp→Prop)
  (hL:∀ σ1 ad1 H1 ρ1 st1,Ext ad H ad1 H1→StOk K ad1 H1 st1→EnvOk K ad1 H1 σ1 ρ1→Yo (fun d ρ s=>b (ZB ρ i d) s) xs ρ1 st1=some (r,st')→L σ1 H1) :
  tS K b { E with nx:=L,ct:=L,bk:=E.nx } (σ.set i (some v)) H:=by
 unfold Yo at e
 have En2:=En.set i hv
 split at e
 ·rename_i ρ1 st1 q
  exact Yv En2 S q fun σ1 ad1 H1 x1 S1 E1=>hL σ1 ad1 H1 ρ1 st1 x1 S1 E1 e
 ·rename_i ρ1 st1 q
  exact Yv En2 S q fun σ1 ad1 H1 x1 S1 E1=>hL σ1 ad1 H1 ρ1 st1 x1 S1 E1 e
 ·rename_i ρ1 st1 q
  cases e
  exact Yv En2 S q fun σ1 ad1 H1 x1 S1 E1=>p σ1 ad1 H1 x1 S1 E1
 ·rename_i d st1 q
  cases e
  exact Yv En2 S q p
 ·cases e
theorem Left.done {b:D→Env→Za→Option (Fl×Za)}{E:Ends}{σ:L2.St}{H:Hp} (h:Left K b E [] σ H):E.nx σ H:=by
 obtain ⟨ad,ρ,st,r,st',En,S,e,p⟩:=h
 cases e
 exact p σ ad H (Ext.refl _ _) S En
theorem Ja (n k:Nat) (h:k < n):((List.range n).map fun (j:Nat)=>D.int (j:Int)).drop k=D.int (k:Int) :: ((List.range n).map fun (j:Nat)=>D.int (j:Int)).drop (k+1):=by
 rw [List.drop_eq_getElem_cons (by simpa using h)]
 simp
theorem Zbi {i:Nat} (E:Ends) (σ:L2.St) (H:Hp) (h:tS K (UZ i true fi f) E σ H):tFor (iRng1 (tCons (tE K fi) tNil)) (gName i) (tS K f) E σ H:=by
 obtain ⟨ad,ρ,st,r,st',En,S,e,p⟩:=Yn h
 unfold UZ at e
 split at e
 ·rename_i x st1 q1
  cases x with
  | int n=>
   have e:(match (if n < 2 ^ 62∧-(2 ^ 62)≤n then some ((List.range n.toNat).map fun (k:Nat)=>D.int (k:Int)) else none) with
    | some xs=>Yo (fun d ρ s=>f (ZB ρ i d) s) xs ρ st1
    | none=>none)=some (r,st'):=e
   by_cases hn:n < 2 ^ 62∧-(2 ^ 62)≤n
   ·rw [if_pos hn] at e
    refine ⟨ad,ρ,st,.int n,st1,En,S,q1,fun v ad1 H1 x1 S1 d1=>⟨n,by rw [d1.ofInt],hn.2,hn.1,?_⟩⟩
    refine for_range (fun k σ' H'=>Left K (fun d ρ s=>f (ZB ρ i d) s) E (((List.range n.toNat).map fun (k:Nat)=>D.int (k:Int)).drop k) σ' H') ⟨ad1,ρ,st1,r,st',En.mono x1,S1,e,p.later x1⟩ (fun k σ' H' hk L=>?_) fun σ' H' L=>?_
    ·rw [Ja _ _ hk] at L
     have z:(0:Int)+(k:Int)=(k:Int):=Int.zero_add _
     rw [z]
     exact L.turn fun _ _=>.int _
    ·rw [List.drop_eq_nil_of_le (by simp)] at L
     exact L.done
   ·rw [if_neg hn] at e
    cases e
  | _=>simp [Xv] at e
 ·cases e
noncomputable def Zew (K:PySem.W.Frag) (b:D→Env→Za→Option (Fl×Za)) (E:Ends) (a:Addr) (vs:List V) (xs:List D) (k:Nat) (σ:L2.St) (H:Hp):Prop:=
 ∃ ad ρ st r st',EnvOk K ad H σ ρ∧StOk K ad H st∧(TupAt K H a vs∧Dens K ad H vs xs)∧Yo b (xs.drop k) ρ st=some (r,st')∧PostS K ad H r st' E
theorem Zbj {i:Nat} (E:Ends) (σ:L2.St) (H:Hp) {ad:List Addr}{ρ:Env}{st st1 st':Za}{r:Fl}{xs:List D} (En:EnvOk K ad H σ ρ) (S:StOk K ad H st) (q1:fi ρ st=some (.tup xs,st1))
  (e:Yo (fun d ρ s=>f (ZB ρ i d) s) xs ρ st1=some (r,st')) (p:PostS K ad H r st' E):tFor (iTup K (tE K fi)) (gName i) (tS K f) E σ H:=by
 refine ⟨ad,ρ,st,.tup xs,st1,En,S,q1,fun v ad1 H1 x1 S1 d1=>?_⟩
 obtain ⟨a,vs,rfl,ha,rv⟩:=d1.ofTup
 refine ⟨a,rfl,⟨vs,(ha).sq⟩,?_⟩
 refine for_tup (xs:=vs) (fun k σ' H'=>Zew K (fun d ρ s=>f (ZB ρ i d) s) E a vs xs k σ' H') ⟨ad1,ρ,st1,r,st',En.mono x1,S1,⟨ha,rv⟩,by rw [List.drop_zero]; exact e,p.later x1⟩ (fun k σ' H' _ L=>?_) (fun k y σ' H' hk L=>?_) fun σ' H' L=>?_
 ·obtain ⟨_,_,_,_,_,_,_,⟨h,_⟩,_⟩:=L
  exact (h).sq
 ·obtain ⟨ad2,ρ2,st2,r2,st2',En2,S2,⟨h2,rv2⟩,e2,p2⟩:=L
  have hk':k < xs.length:=by rw [←rv2.length]; exact (List.getElem?_eq_some_iff.mp hk).1
  have hx:xs[k]?=some xs[k]:=List.getElem?_eq_getElem hk'
  obtain ⟨w,ew,dw⟩:=rv2.get hx
  rw [hk] at ew; cases ew
  rw [List.drop_eq_getElem_cons hk'] at e2
  exact Left.turnD En2 S2 dw e2 p2 _ fun σ3 ad3 H3 ρ3 st3 x3 S3 E3 e3=>⟨ad3,ρ3,st3,r2,st2',E3,S3,⟨h2.mono x3,rv2.mono x3⟩,e3,p2.later x3⟩
 ·obtain ⟨ad2,ρ2,st2,r2,st2',En2,S2,⟨h2,rv2⟩,e2,p2⟩:=L
  rw [rv2.length,List.drop_length] at e2
  exact Left.done ⟨ad2,ρ2,st2,r2,st2',En2,S2,e2,p2⟩
theorem Zbf {G:TG}{B:D→Env→Za→Option (Fl×Za)} (E:Ends) (σ:L2.St) (H:Hp) {ad:List Addr}{ρ:Env}{st st1 st':Za}{r:Fl}{l:Nat}{bb:Bool}{xs:List D} (En:EnvOk K ad H σ ρ) (S:StOk K ad H st) (q1:fi ρ st=some (.lst l,st1))
  (q2:st1[l]?=some (bb,xs)) (e:Z4 B l xs.length 0 ρ st1=some (r,st')) (p:PostS K ad H r st' E)
  (hG:∀ (x:D) (v:V) (σ:L2.St) (H:Hp) (ad:List Addr) (ρ:Env) (st st1:Za) (r1:Fl) (E':Ends),EnvOk K ad H σ ρ→StOk K ad H st→Den K ad H v x→B x ρ st=some (r1,st1)→PostS K ad H r1 st1 E'→G v σ H fun σ2 H2=>tS K f E' σ2 H2) :
  tFor (iList K (tE K fi)) G (tS K f) E σ H:=by
 refine ⟨ad,ρ,st,.lst l,st1,En,S,q1,fun v ad1 H1 x1 S1 d1=>?_⟩
 obtain ⟨a,rfl,ha⟩:=d1.ofLst
 obtain ⟨vs,rv,sq⟩:=S1.list ha q2
 refine ⟨a,rfl,⟨vs,sq⟩,?_⟩
 refine ⟨fun k m σ' H'=>∃ ad2 ρ2 st2,(EnvOk K ad2 H' σ' ρ2∧StOk K ad2 H' st2∧ad2[l]?=some a)∧Z4 B l m k ρ2 st2=some (r,st')∧PostS K ad2 H' r st' E,⟨xs.length,ad1,ρ,st1,⟨En.mono x1,S1,ha⟩,e,p.later x1⟩,?_⟩
 rintro k m σ' H' ⟨ad2,ρ2,st2,⟨En2,S2,ha2⟩,e2,p2⟩
 obtain ⟨b2,ys,hc⟩:=Jf S2 ha2
 obtain ⟨ws,rw',sq2⟩:=S2.list ha2 hc
 have stop:ys.length≤k→Z4 B l m k ρ2 st2=some (.nx ρ2,st2):=fun hk=>by
  cases m with
  | zero=>unfold Z4; simp only [hc]; rw [if_pos hk]
  | succ m=>unfold Z4; simp only [hc,List.getElem?_eq_none hk]
 by_cases hk:ys.length≤k
 ·refine .inl ⟨⟨ws,sq2,by rw [rw'.length]; exact hk⟩,?_⟩
  rw [stop hk] at e2
  cases e2
  exact p2 σ' ad2 H' (Ext.refl _ _) S2 En2
 ·have hk':k < ys.length:=by omega
  have hy:ys[k]?=some ys[k]:=List.getElem?_eq_getElem hk'
  obtain ⟨w,ew,dw⟩:=rw'.get hy
  cases m with
  | zero=>
   unfold Z4 at e2
   simp only [hc] at e2
   rw [if_neg hk] at e2
   cases e2
  | succ m=>
   unfold Z4 at e2
   simp only [hc,hy] at e2
   refine .inr ⟨⟨ws,w,sq2,ew⟩,fun σ3 H3=>∃ ad3 ρ3 st3,(EnvOk K ad3 H3 σ3 ρ3∧StOk K ad3 H3 st3∧ad3[l]?=some a)∧Z4 B l m (k+1) ρ3 st3=some (r,st')∧PostS K ad3 H3 r st' E,fun σ3 H3 h3=>⟨m,Nat.lt_succ_self m,h3⟩,fun x H3 hx=>?_⟩
   obtain ⟨rfl,hx⟩:=hx
   have ex:=hx ws sq2
   rw [ew] at ex; cases ex
   split at e2
   ·rename_i ρ3 st3 q
    exact hG _ _ _ _ ad2 ρ2 st2 _ _ _ En2 S2 dw q fun σ4 ad4 H4 x4 S4 E4=>⟨ad4,ρ3,st3,⟨E4,S4,x4.pre _ _ ha2⟩,e2,p2.later x4⟩
   ·rename_i ρ3 st3 q
    exact hG _ _ _ _ ad2 ρ2 st2 _ _ _ En2 S2 dw q fun σ4 ad4 H4 x4 S4 E4=>⟨ad4,ρ3,st3,⟨E4,S4,x4.pre _ _ ha2⟩,e2,p2.later x4⟩
   ·rename_i ρ3 st3 q
    cases e2
    exact hG _ _ _ _ ad2 ρ2 st2 _ _ _ En2 S2 dw q fun σ4 ad4 H4 x4 S4 E4=>p2 σ4 ad4 H4 x4 S4 E4
   ·rename_i d st3 q
    cases e2
    exact hG _ _ _ _ ad2 ρ2 st2 _ _ _ En2 S2 dw q p2
   ·cases e2
theorem Zbg {i:Nat} (E:Ends) (σ:L2.St) (H:Hp) (h:tS K (UZ i false fi f) E σ H):tFor (iTup K (tE K fi)) (gName i) (tS K f) E σ H∨tFor (iList K (tE K fi)) (gName i) (tS K f) E σ H:=by
 obtain ⟨ad,ρ,st,r,st',En,S,e,p⟩:=Yn h
 unfold UZ at e
 split at e
 ·rename_i x st1 q1
  cases x with
  | tup xs=>exact .inl (Zbj E σ H En S q1 e p)
  | lst l=>
   have e:(match st1[l]? with
    | some (_,xs)=>Z4 (fun d ρ s=>f (ZB ρ i d) s) l xs.length 0 ρ st1
    | none=>none)=some (r,st'):=e
   split at e
   ·rename_i bb xs q2
    refine .inr (Zbf E σ H En S q1 q2 e p fun x v σ H ad ρ st st1 r1 E' En S dv e1 p1=>?_)
    exact Yv (En.set i dv) S e1 p1
   ·cases e
  | _=>simp [Xv] at e
 ·cases e
theorem Zah {G:TG}{B:D→Env→Za→Option (Fl×Za)} (E:Ends) (σ:L2.St) (H:Hp) {ad:List Addr}{ρ:Env}{st st1 st':Za}{r:Fl}{xs:List D} (En:EnvOk K ad H σ ρ) (S:StOk K ad H st) (q1:fi ρ st=some (.tup xs,st1))
  (e:Yo B xs ρ st1=some (r,st')) (p:PostS K ad H r st' E)
  (hG:∀ (x:D) (v:V) (σ:L2.St) (H:Hp) (ad:List Addr) (ρ:Env) (st st1:Za) (r1:Fl) (E':Ends),EnvOk K ad H σ ρ→StOk K ad H st→Den K ad H v x→B x ρ st=some (r1,st1)→PostS K ad H r1 st1 E'→G v σ H fun σ2 H2=>tS K f E' σ2 H2) :
  tFor (iTup K (tE K fi)) G (tS K f) E σ H:=by
 refine ⟨ad,ρ,st,.tup xs,st1,En,S,q1,fun v ad1 H1 x1 S1 d1=>?_⟩
 obtain ⟨a,vs,rfl,ha,rv⟩:=d1.ofTup
 refine ⟨a,rfl,⟨vs,(ha).sq⟩,?_⟩
 refine for_tup (xs:=vs) (fun k σ' H'=>Zew K B E a vs xs k σ' H') ⟨ad1,ρ,st1,r,st',En.mono x1,S1,⟨ha,rv⟩,by rw [List.drop_zero]; exact e,p.later x1⟩ (fun k σ' H' _ L=>?_) (fun k y σ' H' hk L=>?_) fun σ' H' L=>?_
 ·obtain ⟨_,_,_,_,_,_,_,⟨h,_⟩,_⟩:=L
  exact (h).sq
 ·obtain ⟨ad2,ρ2,st2,r2,st2',En2,S2,⟨h2,rv2⟩,e2,p2⟩:=L
  have hk':k < xs.length:=by rw [←rv2.length]; exact (List.getElem?_eq_some_iff.mp hk).1
  have hx:xs[k]?=some xs[k]:=List.getElem?_eq_getElem hk'
  obtain ⟨w,ew,dw⟩:=rv2.get hx
  rw [hk] at ew; cases ew
  rw [List.drop_eq_getElem_cons hk'] at e2
  unfold Yo at e2
  split at e2
  ·rename_i ρ3 st3 q
   exact hG _ _ _ _ ad2 ρ2 st2 _ _ _ En2 S2 dw q fun σ4 ad4 H4 x4 S4 E4=>⟨ad4,ρ3,st3,r2,st2',E4,S4,⟨h2.mono x4,rv2.mono x4⟩,e2,p2.later x4⟩
  ·rename_i ρ3 st3 q
   exact hG _ _ _ _ ad2 ρ2 st2 _ _ _ En2 S2 dw q fun σ4 ad4 H4 x4 S4 E4=>⟨ad4,ρ3,st3,r2,st2',E4,S4,⟨h2.mono x4,rv2.mono x4⟩,e2,p2.later x4⟩
  ·rename_i ρ3 st3 q
   cases e2
   exact hG _ _ _ _ ad2 ρ2 st2 _ _ _ En2 S2 dw q fun σ4 ad4 H4 x4 S4 E4=>p2 σ4 ad4 H4 x4 S4 E4
  ·rename_i d st3 q
   cases e2
   exact hG _ _ _ _ ad2 ρ2 st2 _ _ _ En2 S2 dw q p2
  ·cases e2
 ·obtain ⟨ad2,ρ2,st2,r2,st2',En2,S2,⟨h2,rv2⟩,e2,p2⟩:=L
  rw [rv2.length,List.drop_length] at e2
  exact Left.done ⟨ad2,ρ2,st2,r2,st2',En2,S2,e2,p2⟩
theorem Zbd {i j l:Nat} (E:Ends) (σ:L2.St) (H:Hp) (h:tS K (UX i j l fi f) E σ H):tFor (iTup K (tE K fi)) (gTup K 3 (gCons (gName i) (gCons (gName j) (gCons (gName l) gNil)))) (tS K f) E σ H:=by
 obtain ⟨ad,ρ,st,r,st',En,S,e,p⟩:=Yn h
 unfold UX at e
 split at e
 ·rename_i xs st1 q1
  refine Zah E σ H En S q1 e p fun x v σ H ad ρ st st1 r1 E' En S dv e1 p1=>?_
  unfold Zgp at e1
  split at e1
  ·rename_i y z u
   obtain ⟨a,vs,rfl,ha,rv⟩:=dv.ofTup
   cases rv with
   | cons d1 rv=>
    cases rv with
    | cons d2 rv=>
     cases rv with
     | cons d3 rv=>
      cases rv
      exact ⟨a,_,rfl,(ha).sq,rfl,_,_,rfl,_,_,rfl,_,_,rfl,rfl,Yv (((En.set i d1).set j d2).set l d3) S e1 p1⟩
  ·cases e1
 ·cases e
noncomputable def Itz (K:PySem.W.Frag) (a b:Addr):It:=
 ⟨fun i H=>∃ xs ys x y,SqL K H a xs∧SqL K H b ys∧xs[i]?=some x∧ys[i]?=some y,
  fun i H v H'=>∃ p x y,v=.ref p∧H p=none∧H'=upd H p (.tup [x,y])∧(∀ xs,SqL K H a xs→xs[i]?=some x)∧∀ ys,SqL K H b ys→ys[i]?=some y,
  fun i H=>∃ xs ys,SqL K H a xs∧SqL K H b ys∧min xs.length ys.length≤i⟩
noncomputable def Zg2 (K:PySem.W.Frag) (ta:TA):TI:=fun σ H R=>ta σ H fun vs H1=>∃ a b,vs=[.ref a,.ref b]∧(∃ xs,SqL K H1 a xs)∧(∃ ys,SqL K H1 b ys)∧R (Itz K a b) H1
theorem Zbz {ok:Za→Prop}{B:D→D→Env→Za→Option (Fl×Za)}{l:List (D×D)}{ρ:Env}{st:Za}{z:Fl×Za} (e:YF ok B l ρ st=some z):ok st:=by
 cases l with
 | nil=>
  unfold YF at e
  by_cases h:ok st
  ·exact h
  ·rw [if_neg h] at e; cases e
 | cons _ _=>
  unfold YF at e
  by_cases h:ok st
  ·exact h
  ·rw [if_neg h] at e; cases e
inductive LK (K:PySem.W.Frag) (ok:Za→Prop) (B:D→D→Env→Za→Option (Fl×Za)) (qs:List (D×D)) (Good:List Addr→Hp→Prop) (r:Fl) (st':Za) (E:Ends) (k m:Nat) (σ:L2.St) (H:Hp):Prop
 | mk {ad:List Addr}{ρ:Env}{st:Za} (hk:k+m=qs.length) (En:EnvOk K ad H σ ρ) (S:StOk K ad H st) (g:Good ad H) (e:YF ok B (qs.drop k) ρ st=some (r,st')) (p:PostS K ad H r st' E):LK K ok B qs Good r st' E k m σ H
noncomputable def ZgD (K:PySem.W.Frag) (f:Ex) (i j:Nat) (J:It) (E:Ends) (σ:L2.St) (H1:Hp):Prop:=∃ W:Nat→Nat→L2.St→Hp→Prop,(∃ m,W 0 m σ H1)∧∀ i' m σ H,W i' m σ H→(J.stop i' H∧E.nx σ H)∨(J.go i' H∧∃ N:L2.St→Hp→Prop,(∀ σ' H',N σ' H'→∃ m',m' < m∧W (i'+1) m' σ' H')∧∀ x H',J.yld i' H x H'→gTup K 2 (gCons (gName i) (gCons (gName j) gNil)) x σ H' fun σ2 H2=>tS K f { E with nx:=N,ct:=N,bk:=E.nx } σ2 H2)
theorem Vk {i j:Nat}{ok:Za→Prop}{qs:List (D×D)}{Good:List Addr→Hp→Prop}{r:Fl}{st':Za}{E:Ends}{J:It} (gm:∀ ad H ad' H',Ext ad H ad' H'→Good ad H→Good ad' H') (stop:∀ ad H st,Good ad H→StOk K ad H st→ok st→J.stop qs.length H)
  (go:∀ k ad H st q,Good ad H→StOk K ad H st→ok st→qs[k]?=some q→∃ w1 w2,J.go k H∧Den K ad H w1 q.1∧Den K ad H w2 q.2∧∀ x H',J.yld k H x H'→∃ pt,x=.ref pt∧H pt=none∧H'=upd H pt (.tup [w1,w2])) (k m:Nat) (σ:L2.St) (H:Hp) (h:LK K ok (fun x y ρ s=>f (ZB (ZB ρ i x) j y) s) qs Good r st' E k m σ H) :
  (J.stop k H∧E.nx σ H)∨(J.go k H∧∃ N:L2.St→Hp→Prop,(∀ σ' H',N σ' H'→∃ m',m' < m∧LK K ok (fun x y ρ s=>f (ZB (ZB ρ i x) j y) s) qs Good r st' E (k+1) m' σ' H')∧∀ x H',J.yld k H x H'→gTup K 2 (gCons (gName i) (gCons (gName j) gNil)) x σ H' fun σ2 H2=>tS K f { E with nx:=N,ct:=N,bk:=E.nx } σ2 H2):=by
 cases h with
 | @mk ad ρ st hkm En S g e p=>
  have ok2:=Zbz e
  by_cases hk:qs.length≤k
  ·have hk':k=qs.length:=by omega
   subst hk'
   rw [List.drop_length] at e
   unfold YF at e
   rw [if_pos ok2] at e
   cases e
   exact .inl ⟨stop _ _ _ g S ok2,p σ _ H (Ext.refl _ _) S En⟩
  ·have hk':k < qs.length:=Nat.lt_of_not_le hk
   obtain ⟨w1,w2,hgo,dw1,dw2,hy⟩:=go k _ _ _ qs[k] g S ok2 (List.getElem?_eq_getElem hk')
   rw [List.drop_eq_getElem_cons hk'] at e
   unfold YF at e
   rw [if_pos ok2] at e
   generalize qs[k]=q at e dw1 dw2
   refine .inr ⟨hgo,LK K ok (fun x y ρ s=>f (ZB (ZB ρ i x) j y) s) qs Good r st' E (k+1) (m - 1),fun σ3 H3 h3=>⟨m - 1,by omega,h3⟩,fun x H3 hx=>?_⟩
   obtain ⟨pt,rfl,hpt,rfl⟩:=hy x H3 hx
   have xt:Ext ad H ad (upd H pt (.tup [w1,w2])):=Ext.laid hpt
   have fin:∀ {rr:Fl}{s3:Za}{E':Ends},f (ZB (ZB ρ i q.1) j q.2) st=some (rr,s3)→PostS K ad (upd H pt (.tup [w1,w2])) rr s3 E'→gTup K 2 (gCons (gName i) (gCons (gName j) gNil)) (.ref pt) σ (upd H pt (.tup [w1,w2])) fun σ2 H2=>tS K f E' σ2 H2:=fun q pp=>
    ⟨pt,_,rfl,SqT.of upd_same,rfl,_,_,rfl,_,_,rfl,rfl,Yv (((En.mono xt).set i (dw1.mono xt)).set j (dw2.mono xt)) (S.laid hpt) q pp⟩
   have nxt:∀ {ρ3:Env}{st3:Za},YF ok (fun x y ρ s=>f (ZB (ZB ρ i x) j y) s) (qs.drop (k+1)) ρ3 st3=some (r,st')→∀ (σ4:L2.St) (ad4:List Addr) (H4:Hp),Ext ad (upd H pt (.tup [w1,w2])) ad4 H4→StOk K ad4 H4 st3→EnvOk K ad4 H4 σ4 ρ3→LK K ok (fun x y ρ s=>f (ZB (ZB ρ i x) j y) s) qs Good r st' E (k+1) (m - 1) σ4 H4:=fun e3 σ4 ad4 H4 x4 S4 E4=>
    .mk (by omega) E4 S4 (gm _ _ _ _ (xt.trans x4) g) e3 (p.later (xt.trans x4))
   clear hy go stop hkm hk hk' hgo
   split at e
   ·rename_i q0
    exact fin q0 (nxt e)
   ·rename_i q0
    exact fin q0 (nxt e)
   ·rename_i q0
    cases e
    exact fin q0 fun σ4 ad4 H4 x4 S4 E4=>p σ4 ad4 H4 (xt.trans x4) S4 E4
   ·rename_i q0
    cases e
    exact fin q0 (p.later xt)
   ·cases e
theorem Zbh {i j:Nat} (E:Ends) (σ:L2.St) (H:Hp) (h:tS K (UY i j fi f) E σ H):tFor (Zg2 K (tA K fi)) (gTup K 2 (gCons (gName i) (gCons (gName j) gNil))) (tS K f) E σ H:=by
 obtain ⟨ad,ρ,st,r,st',En,S,e,p⟩:=Yn h
 unfold UY at e
 split at e
 ·rename_i la lb st1 q1
  split at e
  ·rename_i ca cb hca hcb
   refine ⟨ad,ρ,st,_,st1,En,S,q1,fun vs ad1 H1 x1 S1 d1=>?_⟩
   obtain ⟨v1,v2,rfl,dv1,dv2⟩:∃ v1 v2,vs=[v1,v2]∧Den K ad1 H1 v1 (.lst la)∧Den K ad1 H1 v2 (.lst lb):=by
    cases d1 with
    | cons h1 d1=>
     cases d1 with
     | cons h2 d1=>cases d1; exact ⟨_,_,rfl,h1,h2⟩
   obtain ⟨a,rfl,ha⟩:=dv1.ofLst
   obtain ⟨b,rfl,hb⟩:=dv2.ofLst
   obtain ⟨us,ru,squ⟩:=S1.list ha (show st1[la]?=some (ca.1,ca.2) from hca)
   obtain ⟨ws,rw',sqw⟩:=S1.list hb (show st1[lb]?=some (cb.1,cb.2) from hcb)
   refine ⟨a,b,rfl,⟨us,squ⟩,⟨ws,sqw⟩,_,⟨_,.mk (Good:=fun ad _=>ad[la]?=some a∧ad[lb]?=some b) (Nat.zero_add _) (En.mono x1) S1 ⟨ha,hb⟩ e (p.later x1)⟩,Vk (fun _ _ _ _ x g=>⟨x.pre _ _ g.1,x.pre _ _ g.2⟩) (fun ad H st g S o=>?_) fun k ad H st q g S o hq=>?_⟩
   ·obtain ⟨us,ru,squ⟩:=S.list g.1 (show st[la]?=some (ca.1,ca.2) from o.1)
    obtain ⟨ws,rw',sqw⟩:=S.list g.2 (show st[lb]?=some (cb.1,cb.2) from o.2)
    exact ⟨us,ws,squ,sqw,by rw [ru.length,rw'.length]; exact Nat.le_of_eq (List.length_zip ..).symm⟩
   ·obtain ⟨us,ru,squ⟩:=S.list g.1 (show st[la]?=some (ca.1,ca.2) from o.1)
    obtain ⟨ws,rw',sqw⟩:=S.list g.2 (show st[lb]?=some (cb.1,cb.2) from o.2)
    obtain ⟨h1,h2⟩:=List.getElem?_zip_eq_some.mp hq
    obtain ⟨w1,e1,d1⟩:=ru.get h1
    obtain ⟨w2,e2,d2⟩:=rw'.get h2
    exact ⟨w1,w2,⟨us,ws,w1,w2,squ,sqw,e1,e2⟩,d1,d2,fun x H' ⟨pt,y1,y2,z1,z2,z3,hy1,hy2⟩=>⟨pt,z1,z2,by have z:=hy1 us squ; rw [e1] at z; cases z; have z:=hy2 ws sqw; rw [e2] at z; cases z; exact z3⟩⟩
  ·cases e
 ·cases e
end
end Dp



namespace Dp
open PySem PySem.Spec PyProof.Rows L2
variable [ClsTab]
mutual
theorem Zc0:∀ {x y:D},Z2 x y=true→x=y
 | .non,y,h=>by cases y<;>simp [Z2] at h ⊢
 | .bl a,y,h=>by cases y<;>simp [Z2] at h ⊢; exact h
 | .int a,y,h=>by cases y<;>simp [Z2] at h ⊢; exact h
 | .str a,y,h=>by cases y<;>simp [Z2] at h ⊢; exact h
 | .tup a,y,h=>by
  cases y with
  | tup b=>rw [UN (x:=a) (y:=b) (by simpa [Z2] using h)]
  | _=>simp [Z2] at h
 | .lst a,y,h=>by cases y<;>simp [Z2] at h
 | .dct a b,y,h=>by cases y<;>simp [Z2] at h
 | .obj a,y,h=>by cases y<;>simp [Z2] at h
 | .kt a,y,h=>by cases y<;>simp [Z2] at h
theorem UN:∀ {x y:List D},Z8 x y=true→x=y
 | [],y,h=>by cases y<;>simp [Z8] at h ⊢
 | a :: x,y,h=>by
  cases y with
  | nil=>simp [Z8] at h
  | cons b y=>
   have h:(Z2 a b&&Z8 x y)=true:=h
   rw [Bool.and_eq_true] at h
   rw [Zc0 h.1,UN h.2]
end
mutual
theorem VM:∀ {n:Nat}{x:D},okD n x=true→Z2 x x=true
 | _,.non,_=>rfl
 | _,.bl a,_=>by simp [Z2]
 | _,.int a,_=>by simp [Z2]
 | _,.str a,_=>by simp [Z2]
 | 0,.tup a,h=>by simp [okD] at h
 | n+1,.tup a,h=>W1 (n:=n) (x:=a) h
 | _,.lst a,h=>by simp [okD] at h
 | _,.dct a b,h=>by simp [okD] at h
 | _,.obj a,h=>by simp [okD] at h
 | _,.kt a,h=>by simp [okD] at h
theorem W1:∀ {n:Nat}{x:List D},YQ n x=true→Z8 x x=true
 | _,[],_=>rfl
 | n,a :: x,h=>by
  have h:(okD n a&&YQ n x)=true:=h
  rw [Bool.and_eq_true] at h
  show (Z2 a a&&Z8 x x)=true
  rw [VM h.1,W1 h.2]
  rfl
end
theorem Xy:∀ {n:Nat}{xs:List D}{i:Nat}{d:D},YQ n xs=true→xs[i]?=some d→okD n d=true
 | _,[],_,_,_,e=>by simp at e
 | n,x :: xs,i,d,h,e=>by
  have h:(okD n x&&YQ n xs)=true:=h
  rw [Bool.and_eq_true] at h
  cases i with
  | zero=>simp at e; subst e; exact h.1
  | succ i=>exact Xy (i:=i) h.2 (by simpa using e)
theorem Y5:∀ {xs ys:List D},Z8 xs ys=((List.range (min xs.length ys.length)).all (fun i=>Z2 ((xs[i]?).getD .non) ((ys[i]?).getD .non))&&xs.length==ys.length)
 | [],[]=>rfl
 | [],_ :: _=>by simp [Z8]
 | _ :: _,[]=>by simp [Z8]
 | x :: xs,y :: ys=>by
  have ih:=@Y5 xs ys
  show (Z2 x y&&Z8 xs ys)=_
  rw [ih]
  have e:min (x :: xs).length (y :: ys).length=min xs.length ys.length+1:=by simp only [List.length_cons]; omega
  rw [e,List.range_succ_eq_map,List.all_cons,List.all_map]
  simp only [List.length_cons]
  have z:(xs.length+1==ys.length+1)=(xs.length==ys.length):=by
   rw [Bool.eq_iff_iff]; simp
  rw [z,Bool.and_assoc]
  rfl
section
variable {X:Cx}{ad:List Addr}{H:Hp}
noncomputable def ZgC (X:Cx) (ad:List Addr) (H:Hp) (v:V) (x:D):Prop:=∀ n m y,okD n x=true→okD m y=true→Den X.K ad H v y→x=y
theorem WD {n:Nat}{x:D}{P:Prop} (h:okD n x=true) (h0:∀ n,okD n x=false):P:=by rw [h0] at h; cases h
theorem ZbW (i n:Nat):okD n (.lst i)=false:=by cases n<;>rfl
theorem ZbV (ks:List Str) (vs:List D) (n:Nat):okD n (.dct ks vs)=false:=by cases n<;>rfl
theorem ZbX (i n:Nat):okD n (.obj i)=false:=by cases n<;>rfl
theorem ZeG (ks:List Str) (n:Nat):okD n (.kt ks)=false:=by cases n<;>rfl
theorem ZbY {n:Nat}{xs:List D} (h:okD n (.tup xs)=true):∃ m,YQ m xs=true:=by
 cases n with
 | zero=>cases h
 | succ n=>exact ⟨n,h⟩
theorem Den.injP (J:∀ (a:Addr) (xs ys:List V),TupAt X.K H a xs→TupAt X.K H a ys→xs=ys) {v:V}{x:D} (h:Den X.K ad H v x):ZgC X ad H v x:=
 Den.rec (motive_1:=fun v x _=>ZgC X ad H v x) (motive_2:=fun vs xs _=>∀ n m ys,YQ n xs=true→YQ m ys=true→Dens X.K ad H vs ys→xs=ys)
  (fun _ _ _ _ _ h=>by cases h; rfl) (fun _ _ _ _ _ _ h=>by cases h; rfl) (fun _ _ _ _ _ _ h=>by cases h; rfl) (fun _ _ _ _ _ _ h=>by cases h; rfl)
  (fun e _ ih n m y hx hy h=>by
   obtain ⟨n',hx⟩:=ZbY hx
   cases h with
   | tup e' r'=>
    cases J _ _ _ e e'
    obtain ⟨m',hy⟩:=ZbY hy
    rw [ih n' m' _ hx hy r']
   | lst _=>exact WD hy (ZbW _)
   | dct _ _ _ _ _=>exact WD hy (ZbV _ _)
   | obj _ _=>exact WD hy (ZbX _)
   | kt _ _ _ _ _ _=>exact WD hy (ZeG _))
  (fun _ _ _ _ hx _ _=>WD hx (ZbW _)) (fun _ _ _ _ _ _ _ _ _ hx _ _=>WD hx (ZbV _ _)) (fun _ _ _ _ _ hx _ _=>WD hx (ZbX _)) (fun _ _ _ _ _ _ _ _ _ hx _ _=>WD hx (ZeG _))
  (fun _ _ _ _ _ h=>by cases h; rfl)
  (fun _ _ i1 i2 n m ys hx hy h=>by
   cases h with
   | cons a' r'=>
    have hx:=Bool.and_eq_true_iff.mp hx
    have hy:=Bool.and_eq_true_iff.mp hy
    rw [i1 n m _ hx.1 hy.1 a',i2 n m _ hx.2 hy.2 r']) h
theorem Den.inj (J:∀ (a:Addr) (xs ys:List V),TupAt X.K H a xs→TupAt X.K H a ys→xs=ys) {n m:Nat}{v:V}{x y:D} (hx:okD n x=true) (hy:okD m y=true) (h:Den X.K ad H v x) (h':Den X.K ad H v y):x=y:=h.injP J n m y hx hy h'
theorem Dens.inj (J:∀ (a:Addr) (xs ys:List V),TupAt X.K H a xs→TupAt X.K H a ys→xs=ys) {n m:Nat}{vs:List V}{xs ys:List D} (hx:YQ n xs=true) (hy:YQ m ys=true) (h:Dens X.K ad H vs xs) (h':Dens X.K ad H vs ys):xs=ys:=by
 induction vs generalizing xs ys with
 | nil=>cases h; cases h'; rfl
 | cons v vs ih=>
  cases h with
  | cons a r=>cases h' with
   | cons a' r'=>
    have hx:=Bool.and_eq_true_iff.mp hx
    have hy:=Bool.and_eq_true_iff.mp hy
    rw [a.inj J hx.1 hy.1 a',ih hx.2 hy.2 r r']
open PySem.SeqAt in
theorem Zfe {pins:List (Addr×Obj)}{σ:L2.St}{s:Shared} (I:Inv X pins σ H s):∀ (n:Nat) (x y:D) (A:Around) (vx vy:V) (ux uy:Value),okD n x=true→okD n y=true→A.units+n < cLine→Den X.K ad H vx x→Den X.K ad H vy y→RelV vx ux→RelV vy uy→EqAt A s ux uy (Z2 x y):=by
 intro n
 induction n with
 | zero=>
  intro x y A vx vy ux uy hx hy hu dx dy rx ry
  cases dx with
  | non=>
   cases rx
   cases dy with
   | non=>cases ry; exact EqAt.same _
   | int j=>obtain ⟨t',rfl⟩:=ry; exact EqAt.none_int j t'
   | str j=>obtain ⟨t',rfl⟩:=ry; exact EqAt.none_str j t'
   | _=>simp [okD] at hy
  | int i=>
   obtain ⟨t,rfl⟩:=rx
   cases dy with
   | non=>cases ry; exact EqAt.int_none i t
   | int j=>obtain ⟨t',rfl⟩:=ry; exact (show Z2 (.int i) (.int j)=(i==j) from by rw [Bool.eq_iff_iff]; simp [Z2]) ▸ EqAt.int_int i t j t'
   | str j=>obtain ⟨t',rfl⟩:=ry; exact EqAt.int_str i t j t'
   | _=>simp [okD] at hy
  | str i=>
   obtain ⟨t,rfl⟩:=rx
   cases dy with
   | non=>cases ry; exact EqAt.str_none i t
   | int j=>obtain ⟨t',rfl⟩:=ry; exact EqAt.str_int i t j t'
   | str j=>obtain ⟨t',rfl⟩:=ry; exact (show Z2 (.str i) (.str j)=(i==j) from by rw [Bool.eq_iff_iff]; simp [Z2]) ▸ EqAt.str_str i t j t'
   | _=>simp [okD] at hy
  | _=>simp [okD] at hx
 | succ n ih=>
  intro x y A vx vy ux uy hx hy hu dx dy rx ry
  cases dx with
  | non=>
   cases rx
   cases dy with
   | non=>cases ry; exact EqAt.same _
   | int j=>obtain ⟨t',rfl⟩:=ry; exact EqAt.none_int j t'
   | str j=>obtain ⟨t',rfl⟩:=ry; exact EqAt.none_str j t'
   | tup e r=>
    cases ry
    obtain ⟨its,_,p,_⟩:=I.tuple ((e).sq)
    exact EqAt.none_tuple p (by omega)
   | _=>simp [okD] at hy
  | int i=>
   obtain ⟨t,rfl⟩:=rx
   cases dy with
   | non=>cases ry; exact EqAt.int_none i t
   | int j=>obtain ⟨t',rfl⟩:=ry; exact (show Z2 (.int i) (.int j)=(i==j) from by rw [Bool.eq_iff_iff]; simp [Z2]) ▸ EqAt.int_int i t j t'
   | str j=>obtain ⟨t',rfl⟩:=ry; exact EqAt.int_str i t j t'
   | tup e r=>
    cases ry
    obtain ⟨its,_,p,_⟩:=I.tuple ((e).sq)
    exact EqAt.int_tuple i t p (by omega)
   | _=>simp [okD] at hy
  | str i=>
   obtain ⟨t,rfl⟩:=rx
   cases dy with
   | non=>cases ry; exact EqAt.str_none i t
   | int j=>obtain ⟨t',rfl⟩:=ry; exact EqAt.str_int i t j t'
   | str j=>obtain ⟨t',rfl⟩:=ry; exact (show Z2 (.str i) (.str j)=(i==j) from by rw [Bool.eq_iff_iff]; simp [Z2]) ▸ EqAt.str_str i t j t'
   | tup e r=>
    cases ry
    obtain ⟨its,_,p,_⟩:=I.tuple ((e).sq)
    exact EqAt.str_tuple i t p (by omega)
   | _=>simp [okD] at hy
  | @tup a xs ds e r=>
   cases rx
   obtain ⟨its,rv,p,_⟩:=I.tuple ((e).sq)
   cases dy with
   | non=>cases ry; exact EqAt.tuple_none p (by omega)
   | int j=>obtain ⟨t',rfl⟩:=ry; exact EqAt.tuple_int j t' p (by omega)
   | str j=>obtain ⟨t',rfl⟩:=ry; exact EqAt.tuple_str j t' p (by omega)
   | @tup b ys es e' r'=>
    cases ry
    by_cases hab:a=b
    ·subst hab
     have z:=Den.inj (fun _ _ _ e e2=>I.tuple_inj e.sq e2.sq) (n:=n+1) (m:=n+1) hx hy (Den.tup e r) (Den.tup e' r')
     cases z
     rw [VM hx]
     exact EqAt.same _
    ·obtain ⟨its',rv',p',_⟩:=I.tuple ((e').sq)
     refine EqAt.of_refs hab ?_
     have q:=RcAt.tuples (A:=A) (s:=s) (e:=fun i=>Z2 ((ds[i]?).getD .non) ((es[i]?).getD .non)) p p' (by omega) fun j h1 h2=>?_
     ·have e1:its.toArray.size=ds.length:=by rw [List.size_toArray,←rv.length,r.length]
      have e2:its'.toArray.size=es.length:=by rw [List.size_toArray,←rv'.length,r'.length]
      rw [e1,e2] at q
      show RcAt A s (.ref a) (.ref b) (Z8 ds es)
      rw [Y5]
      exact q
     ·have l1:j < ds.length:=by rw [←r.length,rv.length]; simpa using h1
      have l2:j < es.length:=by rw [←r'.length,rv'.length]; simpa using h2
      have g1:ds[j]?=some ds[j]:=List.getElem?_eq_getElem l1
      have g2:es[j]?=some es[j]:=List.getElem?_eq_getElem l2
      obtain ⟨v1,q1,d1⟩:=r.get g1
      obtain ⟨v2,q2,d2⟩:=r'.get g2
      obtain ⟨u1,w1,r1⟩:=rv.get q1
      obtain ⟨u2,w2,r2⟩:=rv'.get q2
      have f1:its.toArray[j]=u1:=by
       have:its[j]?=some (its[j]'(by simpa using h1)):=List.getElem?_eq_getElem _
       rw [w1] at this
       simpa using (Option.some.inj this).symm
      have f2:its'.toArray[j]=u2:=by
       have:its'[j]?=some (its'[j]'(by simpa using h2)):=List.getElem?_eq_getElem _
       rw [w2] at this
       simpa using (Option.some.inj this).symm
      rw [f1,f2,g1,g2]
      exact ih ds[j] es[j] A.in1 v1 v2 u1 u2 (Xy hx g1) (Xy hy g2) (by show A.units+1+n < cLine; omega) d1 d2 r1 r2
   | _=>simp [okD] at hy
  | _=>simp [okD] at hx
open PySem.SeqAt in
theorem QV {pins:List (Addr×Obj)}{σ:L2.St}{s:Shared} (I:Inv X pins σ H s) {n:Nat}{A:Around}{a b:Addr}{xs ys:List V}{ds es:List D}{its its':List Value} (hx:YQ n ds=true) (hy:YQ n es=true) (hu:A.units+n+1 < cLine)
  (r:Dens X.K ad H xs ds) (r':Dens X.K ad H ys es) (rv:Vals xs its) (rv':Vals ys its') (j:Nat) (h1:j < its.toArray.size) (h2:j < its'.toArray.size):EqAt A.in1 s its.toArray[j] its'.toArray[j] (Z2 ((ds[j]?).getD .non) ((es[j]?).getD .non)):=by
 have l1:j < ds.length:=by rw [←r.length,rv.length]; simpa using h1
 have l2:j < es.length:=by rw [←r'.length,rv'.length]; simpa using h2
 have g1:ds[j]?=some ds[j]:=List.getElem?_eq_getElem l1
 have g2:es[j]?=some es[j]:=List.getElem?_eq_getElem l2
 obtain ⟨v1,q1,d1⟩:=r.get g1
 obtain ⟨v2,q2,d2⟩:=r'.get g2
 obtain ⟨u1,w1,r1⟩:=rv.get q1
 obtain ⟨u2,w2,r2⟩:=rv'.get q2
 have f1:its.toArray[j]=u1:=by
  have:its[j]?=some (its[j]'(by simpa using h1)):=List.getElem?_eq_getElem _
  rw [w1] at this
  simpa using (Option.some.inj this).symm
 have f2:its'.toArray[j]=u2:=by
  have:its'[j]?=some (its'[j]'(by simpa using h2)):=List.getElem?_eq_getElem _
  rw [w2] at this
  simpa using (Option.some.inj this).symm
 rw [f1,f2,g1,g2]
 exact Zfe I n ds[j] es[j] A.in1 v1 v2 u1 u2 (Xy hx g1) (Xy hy g2) (by show A.units+1+n < cLine; omega) d1 d2 r1 r2
open PySem.SeqAt in
theorem Zd3 {pins:List (Addr×Obj)}{σ:L2.St}{s:Shared} (I:Inv X pins σ H s) {n:Nat}{A:Around}{a b:Addr}{xs ys:List V}{ds es:List D} (hx:YQ n ds=true) (hy:YQ n es=true) (hu:A.units+n+1 < cLine)
  (e:TupAt X.K H a xs) (r:Dens X.K ad H xs ds) (e':TupAt X.K H b ys) (r':Dens X.K ad H ys es):RcAt A s (.ref a) (.ref b) (Z8 ds es)∧RcNeAt A s (.ref a) (.ref b) (!Z8 ds es):=by
 obtain ⟨its,rv,p,_⟩:=I.tuple (e.sq)
 obtain ⟨its',rv',p',_⟩:=I.tuple (e'.sq)
 have e1:its.toArray.size=ds.length:=by rw [List.size_toArray,←rv.length,r.length]
 have e2:its'.toArray.size=es.length:=by rw [List.size_toArray,←rv'.length,r'.length]
 have q:=RcAt.tuples (A:=A) (s:=s) (e:=fun i=>Z2 ((ds[i]?).getD .non) ((es[i]?).getD .non)) p p' (by omega) fun j h1 h2=>QV (a:=a) (b:=b) I hx hy hu r r' rv rv' j h1 h2
 have q':=RcNeAt.tuples (A:=A) (s:=s) (e:=fun i=>Z2 ((ds[i]?).getD .non) ((es[i]?).getD .non)) p p' (by omega) fun j h1 h2=>QV (a:=a) (b:=b) I hx hy hu r r' rv rv' j h1 h2
 rw [e1,e2] at q q'
 rw [Y5]
 exact ⟨q,q'⟩
end
end Dp



namespace Dp
open PySem PySem.Spec PyProof.Rows L2
variable [ClsTab]
section
open Builtin
open AutoSeq1 (wpAny_loadPart')
theorem Wq:fillsNumberSlot (.type "tuple") "mul"=pure false:=
 PySem.fillsNumberSlot_seq (id := "tuple.__mul__") (r:=some (.builtin "tuple.__rmul__")) F.slot_tuple_mul.lookup (by decide +kernel) F.slot_tuple_rmul.lookup (by decide +kernel)
theorem UC:seqRepeat? (.type "tuple")=pure (some (.builtin "tuple.__mul__")):=by
 unfold seqRepeat?
 rw [PySem.seqSlot_of (T := "tuple") (name := "__mul__") (id := "tuple.__mul__") F.slot_tuple_mul.lookup (by decide +kernel),PySem.seqSlot_of (T := "tuple") (name := "__rmul__") (id := "tuple.__rmul__") F.slot_tuple_rmul.lookup (by decide +kernel)]
 rfl
theorem Jc (a:Int) (t:Tok) (l:Addr) (items:Array Value) (n:Nat) (dd:Option Addr) (sl:Array (Option Value)):Meets (Builtin.«int.__rmul__» ⟨[.int a t,.ref l],[]⟩) (fun _ R s=>s.heap.get? l=some { cls:=.type "tuple",dict:=dd,data:=.seq items n,slots:=sl }∧R (.ok (.ret Value.notImplemented)) s):=
 .of_wp fun prog w A R s h=>by obtain ⟨hp,g,d,tk,os⟩:=s; obtain ⟨hl,h⟩:=h; wp_walk; exact ⟨_,rfl,h⟩
theorem ZcC (l:Addr) (items:Array Value) (n:Nat) (dd:Option Addr) (sl:Array (Option Value)) (u:Tok) :
  Meets (Builtin.«tuple.__mul__» ⟨[.ref l,.int 1 u],[]⟩) (fun _ R s=>s.heap.get? l=some { cls:=.type "tuple",dict:=dd,data:=.seq items n,slots:=sl }∧R (.ok (.ret (Value.ref l))) s):=
 .of_wp fun prog w A R s h=>by
  obtain ⟨hp,g,d,tk,os⟩:=s; obtain ⟨hl,h⟩:=h; have f1:=AutoSeq1.idx_int; wp_walk using wpAny_loadPart' hl
  exact ⟨_,rfl,h⟩
theorem ZcB (l:Addr) (items:Array Value) (n:Nat) (dd:Option Addr) (sl:Array (Option Value)) (k:Int) (u:Tok) (h0:¬items.isEmpty=true) (h1:k≤0) (h2:-1000≤k) :
  Meets (Builtin.«tuple.__mul__» ⟨[.ref l,.int k u],[]⟩) (fun _ R s=>s.heap.get? l=some { cls:=.type "tuple",dict:=dd,data:=.seq items n,slots:=sl }∧R (.ok (.ret (Value.ref s.heap.objs.size))) { s with heap:=s.heap.push { cls:=.type "tuple",data:=.seq #[] } }):=
 .of_wp fun prog w A R s h=>by
  obtain ⟨hp,g,d,tk,os⟩:=s; obtain ⟨hl,h⟩:=h; have f1:=AutoSeq1.idx_int
  have a1:(decide (k < -(2 ^ 63))||decide (k≥2 ^ 63))=false:=by rw [decide_eq_false (by omega),decide_eq_false (by omega)]; rfl
  have a2:(items.isEmpty||k==1)=false:=by
   have:(k==1)=false:=by rw [beq_eq_false_iff_ne]; omega
   rw [this,Bool.or_false]; simpa using h0
  have a3:(decide (k≤0)||items.isEmpty)=true:=by rw [decide_eq_true h1]; rfl
  wp_walk using wpAny_loadPart' hl
  refine wpAny_ite_false (by rw [a1]; rfl) ?_
  wp_walk using wpAny_loadPart' hl
  refine wpAny_ite_false (by rw [a2]; rfl) ?_
  wp_walk using wpAny_loadPart' hl
  exact ⟨_,rfl,h⟩
theorem ZcD (l:Addr) (items:Array Value) (n:Nat) (dd:Option Addr) (sl:Array (Option Value)) (k:Int) (u:Tok) (h0:items.size=1) (h1:2≤k) (h2:k≤1000) :
  Meets (Builtin.«tuple.__mul__» ⟨[.ref l,.int k u],[]⟩) (fun _ R s=>s.heap.get? l=some { cls:=.type "tuple",dict:=dd,data:=.seq items n,slots:=sl }∧R (.ok (.ret (Value.ref s.heap.objs.size))) { s with heap:=s.heap.push { cls:=.type "tuple",data:=.seq ((List.replicate k.toNat items).foldl (fun x1 x2=>x1++x2) #[]) } }):=
 .of_wp fun prog w A R s h=>by
  obtain ⟨hp,g,d,tk,os⟩:=s; obtain ⟨hl,h⟩:=h; have f1:=AutoSeq1.idx_int
  have a1:(decide (k < -(2 ^ 63))||decide (k≥2 ^ 63))=false:=by rw [decide_eq_false (by omega),decide_eq_false (by omega)]; rfl
  have ae:items.isEmpty=false:=by
   rw [Array.isEmpty_eq_false_iff]; intro z; rw [z] at h0; simp at h0
  have a2:(items.isEmpty||k==1)=false:=by
   have:(k==1)=false:=by rw [beq_eq_false_iff_ne]; omega
   rw [this,Bool.or_false]; exact ae
  have a3:(decide (k≤0)||items.isEmpty)=false:=by rw [decide_eq_false (by omega),ae]; rfl
  have a4:decide ((items.size:Int) * k > (2 ^ 63 - 1) / 8)=false:=by rw [h0]; exact decide_eq_false (by omega)
  have a5:Tuple.tupleTooMany ((items.size:Int) * k)=false:=by
   unfold Tuple.tupleTooMany
   rw [h0]
   exact decide_eq_false (by have:(sizeLine:Int)≥1000:=(by decide); omega)
  have a6:decide (((List.replicate k.toNat items).foldl (fun x1 x2=>x1++x2) #[]).size > sizeLine)=false:=by
   rw [AutoListH.size_joined]
   refine decide_eq_false ?_
   have:sizeLine≥1000:=by decide
   simp only [h0,Array.size_empty]
   omega
  wp_walk using wpAny_loadPart' hl
  refine wpAny_ite_false (by rw [a1]; rfl) ?_
  wp_walk using wpAny_loadPart' hl
  refine wpAny_ite_false (by rw [a2]; rfl) ?_
  wp_walk using wpAny_loadPart' hl
  refine wpAny_ite_false (by rw [a3]; rfl) ?_
  wp_walk using wpAny_loadPart' hl
  refine wpAny_ite_false a4 ?_
  wp_walk using wpAny_loadPart' hl
  refine wpAny_ite_false (by rw [a5]; rfl) ?_
  wp_walk using wpAny_loadPart' hl
  exact ⟨_,rfl,h⟩
theorem Zd4 {X:Cx}{pins:List (Addr×Obj)}{s:Shared}{σ:L2.St}{H:Hp}{a:Addr}{v:V}{k:Int}{t:Tok}{Q:VK} (I:L2.Inv X pins σ H s) (ha:TupAt X.K H a [v]) (h1:k≤1000) (h2:-1000≤k) (q1:k=1→Q (.ref a) H)
  (q2:∀ p,H p=none→Q (.ref p) (upd H p (.tup (List.replicate k.toNat v)))):wpAny (model X.prog X.w) X.A (binaryOp .Mult (.ref a) (.int k t)) (EP X pins σ Q) X.xe s:=by
 obtain ⟨its,r,p1,_⟩:=I.tuple (ha.sq)
 obtain ⟨u,rfl,ru⟩:=r.one
 obtain ⟨⟨c1,dd,dt,sl⟩,ho,hc,n,hd⟩:=id p1
 simp only at hc hd
 subst hc hd
 have fin:∀ its':List Value,Vals (List.replicate k.toNat v) its'→EP X pins σ Q (.ref s.heap.objs.size) { s with heap:=s.heap.push { cls:=.type "tuple",data:=.seq its'.toArray } }:=fun its' r'=>
  ⟨.ref s.heap.objs.size,_,I.laid (t':=s.toks) (o:=.tup (List.replicate k.toNat v)) (fun b ob q=>Heap.get?_push_of_some _ q) (Nat.le_refl _) ⟨by rw [List.length_replicate]; exact Nat.le_trans (show k.toNat≤1000 by omega) (by decide),its',r',IsTup.new _ _⟩,rfl,q2 _ (I.hok.fresh (Nat.le_refl _))⟩
 refine wpAny_binaryOp_repeat_ref (T := "tuple") (U := "int") (by decide) ⟨_,ho,rfl⟩ (fun s'=>typeIs_int s' k t) Wq F.fills_int_mul F.slot_int_rmul UC F.slot_int_index.lookup
  (call_meets F.slot_int_rmul (typeIs_int s k t) F.entry_int_rmul (F.args_int_rmul_2 _ _) (Jc k t a _ n dd sl) ⟨ho,rfl,⟨_,ho,rfl⟩,?_⟩)
 by_cases e1:k=1
 ·subst e1
  exact call_meets F.slot_tuple_mul ⟨_,ho,rfl⟩ F.entry_tuple_mul (F.args_tuple_mul_2 _ _) (ZcC a _ n dd sl t) ⟨ho,⟨.ref a,H,I,rfl,q1 rfl⟩⟩
 ·by_cases e0:k≤0
  ·refine call_meets F.slot_tuple_mul ⟨_,ho,rfl⟩ F.entry_tuple_mul (F.args_tuple_mul_2 _ _) (ZcB a _ n dd sl k t (by simp) e0 h2) ⟨ho,?_⟩
   have z:k.toNat=0:=by omega
   exact fin [] (by rw [z]; exact .nil)
  ·refine call_meets F.slot_tuple_mul ⟨_,ho,rfl⟩ F.entry_tuple_mul (F.args_tuple_mul_2 _ _) (ZcD a _ n dd sl k t (by simp) (by omega) h1) ⟨ho,?_⟩
   have e:List.foldl (fun x1 x2=>x1++x2) #[] (List.replicate k.toNat [u].toArray)=(List.replicate k.toNat u).toArray:=by
    have e2:=foldl_rep [u] k.toNat []
    rw [List.nil_append] at e2
    rw [show ([]:List Value).toArray=#[] from rfl] at e2
    rw [e2]
    congr 1
    generalize k.toNat=j
    induction j with
    | zero=>rfl
    | succ j ih=>rw [List.replicate_succ,List.flatten_cons,ih,List.replicate_succ]; rfl
   rw [e]
   refine fin _ ?_
   generalize k.toNat=j
   induction j with
   | zero=>exact .nil
   | succ j ih=>exact .cons ru ih
end
theorem Vw:Zo≤sizeLine:=by decide
section
variable {X:Cx}
theorem QY {i:Int} (h:ZW i=true):-(2 ^ 64) < i∧i < 2 ^ 64:=by
 unfold ZW at h
 rw [Bool.and_eq_true] at h
 exact ⟨of_decide_eq_true h.1,of_decide_eq_true h.2⟩
theorem Zda {pins:List (Addr×Obj)}{s:Shared}{σ:L2.St}{H:Hp}{a b:Addr}{xs ys:List V}{Q:VK} (I:Inv X pins σ H s) (ha:TupAt X.K H a xs) (hb:TupAt X.K H b ys) (hz:xs.length+ys.length≤sizeLine)
  (q0:xs=[]→Q (.ref b) H) (q1:ys=[]→Q (.ref a) H) (q2:∀ p,H p=none→Q (.ref p) (upd H p (.tup (xs++ys)))):wpAny (model X.prog X.w) X.A (binaryOp .Add (.ref a) (.ref b)) (EP X pins σ Q) X.xe s:=by
 by_cases hx:xs=[]
 ·obtain ⟨its,r1,p1,_⟩:=I.tuple (ha.sq)
  obtain ⟨its2,r2,p2,_⟩:=I.tuple (hb.sq)
  have e1:its=[]:=r1.nil_iff.mpr hx
  subst e1
  obtain ⟨⟨c1,dd,dt,sl⟩,ho,hc,n,hd⟩:=id p1
  obtain ⟨⟨c2,dd2,dt2,sl2⟩,ho2,hc2,n2,hd2⟩:=id p2
  simp only at hc hd hc2 hd2
  subst hc hd hc2 hd2
  exact concat_meets ⟨_,ho,rfl⟩ ⟨_,ho2,rfl⟩ noFill_tuple_add seq_tuple_add PySem.F.slot_tuple_add PySem.F.entry_tuple_add (PySem.F.args_tuple_add_2 _ _)
   (tuple_addW0 a b #[] its2.toArray n n2 dd dd2 sl sl2 rfl) ⟨ho,ho2,⟨.ref b,H,I,rfl,q0 hx⟩⟩
 ·exact op_catT pins s σ H (.ref a) (.ref b) _ _ Q I rfl rfl ⟨a,b,xs,ys,rfl,rfl,(ha).sq,(hb).sq,hx,hz,q1,fun _=>q2⟩
theorem ZdT {op:Operator}{i j k:Int}{pins:List (Addr×Obj)}{s:Shared}{σ:L2.St}{H:Hp}{v u:Value}{Q:VK} (I:L2.Inv X pins σ H s) (rx:RelV (.int i) v) (ry:RelV (.int j) u) (e:Zc2 op i j=some k) (p:Q (.int k) H) :
  wpAny (model X.prog X.w) X.A (binaryOp op v u) (EP X pins σ Q) X.xe s:=by
 unfold Zc2 at e
 split at e
 ·cases e
  exact op_add pins s σ H _ _ v u Q I rx ry ⟨_,_,rfl,rfl,p⟩
 ·cases e
  exact op_sub pins s σ H _ _ v u Q I rx ry ⟨_,_,rfl,rfl,p⟩
 ·split at e
  ·rename_i hl
   cases e
   refine op_mul pins s σ H _ _ v u Q I rx ry ⟨_,_,rfl,rfl,?_,p⟩
   rw [Bool.or_eq_true] at hl
   exact hl.elim (fun z=>.inl (QY z)) fun z=>.inr (QY z)
  ·cases e
 ·split at e
  ·rename_i hl
   cases e
   exact op_fdiv pins s σ H _ _ v u Q I rx ry ⟨_,_,rfl,rfl,hl,p⟩
  ·split at e
   ·rename_i hl
    cases e
    exact op_fdivN pins s σ H _ _ v u Q I rx ry ⟨_,_,rfl,rfl,⟨by omega,by omega⟩,p⟩
   ·cases e
 ·split at e
  ·rename_i hl
   cases e
   exact op_mod pins s σ H _ _ v u Q I rx ry ⟨_,_,rfl,rfl,hl,p⟩
  ·split at e
   ·rename_i hl
    cases e
    exact op_modN pins s σ H _ _ v u Q I rx ry ⟨_,_,rfl,rfl,(by omega),p⟩
   ·cases e
 ·split at e
  ·rename_i hl
   cases e
   have:=QY hl.2.2
   exact op_shl pins s σ H _ _ v u Q I rx ry ⟨_,_,rfl,rfl,⟨hl.1,by omega,by omega⟩,p⟩
  ·cases e
 ·cases e
theorem J8 {pins:List (Addr×Obj)}{s:Shared}{σ:L2.St}{H:Hp}{a b:Addr}{xs ys:List V}{Q:VK} (I:L2.Inv X pins σ H s) (ha:SqL X.K H a xs) (hb:SqL X.K H b ys) (hz:xs.length+ys.length≤sizeLine)
  (q:∀ p,H p=none→Q (.ref p) (upd H p (.lst (xs++ys)))):wpAny (model X.prog X.w) X.A (binaryOp .Add (.ref a) (.ref b)) (EP X pins σ Q) X.xe s:=by
 obtain ⟨its,r,p1,_⟩:=I.list ha
 obtain ⟨its2,r2,p2,_⟩:=I.list hb
 obtain ⟨⟨cls,dd,data,sl⟩,ho,hc,n,hd⟩:=id p1.isList
 obtain ⟨⟨cls2,dd2,data2,sl2⟩,ho2,hc2,n2,hd2⟩:=id p2.isList
 simp only at hc hd hc2 hd2
 subst hc hd hc2 hd2
 have e:its.toArray++its2.toArray=(its++its2).toArray:=by simp
 have l1:=r.length
 have l2:=r2.length
 refine concat_meets ⟨_,ho,rfl⟩ ⟨_,ho2,rfl⟩ noFill_list_add seq_list_add PySem.F.slot_list_add PySem.F.entry_list_add (PySem.F.args_list_add_2 _ _) (list_addW a b its.toArray its2.toArray n n2 dd dd2 sl sl2 (by simp; omega)) ⟨ho,ho2,?_⟩
 rw [e]
 exact ⟨.ref _,_,I.lnew (t':=s.toks) (r.append r2) (by rw [List.length_append]; omega),rfl,q _ I.fresh⟩
theorem ZaJ {op:Operator} (h:Vc op=true):op=.Add:=by cases op<;>first | rfl | cases h
theorem ZbC {op:Operator} (h:Ve op=true):op=.Mult:=by cases op<;>first | rfl | cases h
theorem ZdS {op:Operator}:OpR X (binaryOp op) (rD X.K (VA op)):=by
 intro pins s σ H x y v u Q I rx ry h
 obtain ⟨ad,st,dx,dy,d,st',S,hx,hy,e,p⟩:=h
 unfold VA at e
 split at e
 ·split at e
  ·rename_i k q
   cases e; cases hx; cases hy
   exact ZdT I rx ry q (p.at S (.int _))
  ·cases e
 ·split at e
  ·rename_i hz0
   cases ZaJ hz0.1
   have hz:=hz0.2
   cases e
   obtain ⟨a,xs,rfl,ha,r1⟩:=hx.ofTup
   obtain ⟨b,ys,rfl,hb,r2⟩:=hy.ofTup
   cases rx; cases ry
   refine Zda I ha hb (by rw [r1.length,r2.length]; exact Nat.le_trans hz Vw) (fun z=>?_) (fun z=>?_) fun q hq=>?_
   ·subst z; cases r1
    exact p.at S hy
   ·subst z; cases r2
    rw [List.append_nil] at p
    exact p.at S hx
   ·exact p _ ad _ (Ext.laid hq) (S.laid hq) (.tup (.inl upd_same) ((r1.append r2).mono (Ext.laid hq)))
  ·cases e
 ·split at e
  ·rename_i hz0
   cases ZbC hz0.1
   have hz:=hz0.2
   cases e
   obtain ⟨a,xs,rfl,ha,r1⟩:=hx.ofTup
   cases hy
   cases rx
   obtain ⟨t,rfl⟩:=ry
   cases r1 with
   | cons d1 r1=>
    cases r1
    refine Zd4 I ha hz.1 hz.2 (fun z=>?_) fun q hq=>p _ ad _ (Ext.laid hq) (S.laid hq) (.tup (.inl upd_same) ((Dens.rep d1 _).mono (Ext.laid hq)))
    subst z
    exact p.at S (.tup ha (.cons d1 .nil))
  ·cases e
 ·split at e
  ·rename_i hop
   cases ZaJ hop
   unfold Ze7 at e
   split at e
   ·rename_i xs ys q1 q2
    split at e
    ·rename_i hz
     cases e
     obtain ⟨a,rfl,ha⟩:=hx.ofLst
     obtain ⟨b,rfl,hb⟩:=hy.ofLst
     obtain ⟨vs,r1,h1⟩:=S.list ha q1
     obtain ⟨ws,r2,h2⟩:=S.list hb q2
     cases rx; cases ry
     refine J8 I h1 h2 (by rw [r1.length,r2.length]; exact Nat.le_trans hz Vw) fun q hq=>?_
     refine p _ (ad++[q]) _ (Ext.push hq) (S.push hq (r1.append r2)) (.lst ?_)
     rw [←S.len]
     exact ZM
    ·cases e
   ·cases e
  ·cases e
 ·split at e
  ·rename_i hop
   cases ZbC hop
   unfold Zf1 at e
   split at e
   ·rename_i z q1
    split at e
    ·rename_i hz
     cases e
     obtain ⟨a,rfl,ha⟩:=hx.ofLst
     obtain ⟨vs,r1,h1⟩:=S.listM ha q1
     cases hy
     cases r1 with
     | cons d1 r1=>
      cases r1
      rename_i w
      refine op_rep pins s σ H _ _ v u Q I rx ry ⟨a,_,[w],rfl,rfl,h1,by omega,by omega,?_,fun q hq=>?_⟩
      ·rw [List.length_singleton,Nat.one_mul]
       exact Nat.le_trans (show _≤1000 by omega) (by decide)
      ·have e1:∀ k:Nat,(List.replicate k [w]).flatten=List.replicate k w:=fun k=>by
        induction k with
        | zero=>rfl
        | succ k ih=>rw [List.replicate_succ,List.flatten_cons,ih,List.replicate_succ]; rfl
       rw [e1]
       refine p _ (ad++[q]) _ (Ext.push hq) (S.push hq (Dens.rep d1 _)) (.lst ?_)
       rw [←S.len]
       exact ZM
    ·cases e
   ·cases e
  ·cases e
 ·cases e
theorem Zet:UnR X (unaryOp .USub) (rU1 X.K ZdM):=by
 intro pins s σ H x v Q I rx h
 obtain ⟨ad,st,dx,d,st',S,hx,e,p⟩:=h
 unfold ZdM at e
 split at e
 ·cases e; cases hx
  exact un_neg pins s σ H _ v Q I rx ⟨_,rfl,p.at S (.int _)⟩
 ·cases e
theorem QF {xs:List V}{ds:List D}{ad:List Addr}{H:Hp}{i:Int}{d:D} (r:Dens X.K ad H xs ds) (e:atD ds i=some d):∃ v,atI xs i=some v∧Den X.K ad H v d:=by
 unfold atD at e
 have hl:L2.ixN xs.length i=Dp.ixN ds.length i:=by rw [r.length]; rfl
 cases q:Dp.ixN ds.length i with
 | none=>rw [q] at e; cases e
 | some j=>
  rw [q] at e
  obtain ⟨v,e1,e2⟩:=r.get (i:=j) e
  refine ⟨v,?_,e2⟩
  unfold atI
  rw [hl,q]
  exact e1
theorem Vi {ad:List Addr}{H:Hp}{k:Str}:∀ {ks:List Str}{vs:List V}{ds:List D},Dens X.K ad H vs ds→ks.length=vs.length→
  (∃ v d,valV ((ks.zip vs).map fun p=>((Sum.inr p.1:Key),p.2)) (Sum.inr k)=some v∧ZS ks ds k=some d∧Den X.K ad H v d)∨(valV ((ks.zip vs).map fun p=>((Sum.inr p.1:Key),p.2)) (Sum.inr k)=none∧ZS ks ds k=none)
 | [],_,_,.nil,_=>.inr ⟨rfl,rfl⟩
 | [],_,_,.cons _ _,h=>by simp at h
 | _ :: _,_,_,.nil,h=>by simp at h
 | x :: ks,v :: vs,d :: ds,.cons hd r,h=>by
  by_cases e:x=k
  ·subst e
   exact .inl ⟨v,d,valV_pos rfl,by simp [ZS],hd⟩
  ·have ih:=Vi (k:=k) r (by simpa using h)
   have e1:valV (((x :: ks).zip (v :: vs)).map fun p=>((Sum.inr p.1:Key),p.2)) (Sum.inr k)=valV ((ks.zip vs).map fun p=>((Sum.inr p.1:Key),p.2)) (Sum.inr k):=valV_neg (p:=(Sum.inr x,v)) (by intro z; exact e (Sum.inr.inj z))
   have e2:ZS (x :: ks) (d :: ds) k=ZS ks ds k:=by simp [ZS,e]
   rw [e1,e2]; exact ih
theorem ZiJ:IxR X (rD X.K ixR):=by
 intro value slice pins s σ H x y v u Q I rx ry h hs
 obtain ⟨ad,st,dx,dy,d,st',S,hx,hy,e,p⟩:=h
 unfold ixR at e
 split at e
 ·rename_i d' q
  cases e
  unfold ixD at q
  split at q
  ·obtain ⟨a,xs,rfl,ha,r⟩:=hx.ofTup
   cases hy
   obtain ⟨w,e1,e2⟩:=QF r q
   exact ix_tup value slice pins s σ H _ _ v u Q I rx ry ⟨a,xs,_,w,rfl,rfl,(ha).sq,e1,p.at S e2⟩ hs
  ·split at q
   ·rename_i q0
    obtain ⟨a,rfl,ha⟩:=hx.ofLst
    cases hy
    obtain ⟨xs,r,sq⟩:=S.list ha q0
    obtain ⟨w,e1,e2⟩:=QF r q
    exact ix_list value slice pins s σ H _ _ v u Q I rx ry ⟨a,xs,_,w,rfl,rfl,sq,e1,p.at S e2⟩ hs
   ·cases q
  ·obtain ⟨a,vs,rfl,ha,hl,r⟩:=hx.ofDct
   cases hy
   rcases Vi r hl with ⟨w,d0,e1,e2,e3⟩ | ⟨_,e2⟩
   ·rw [e2] at q
    cases q
    exact ix_dct value slice pins s σ H _ _ v u Q I rx ry ⟨a,_,Sum.inr _,w,rfl,rfl,ha,e1,p.at S e3⟩ hs
   ·rw [e2] at q; cases q
  ·obtain ⟨a,o,its,n,rfl,h1,h2,h3,h4,h5⟩:=hx.ofKt
   cases hy
   obtain ⟨w,e1,e2⟩:=QF (V9 _) q
   exact ix_tup value slice pins s σ H _ _ v u Q I rx ry ⟨a,_,_,w,rfl,rfl,.inr ⟨o,its,n,h1,h2.1,h3,h4,h5⟩,e1,p.at S e2⟩ hs
  ·cases q
 ·cases e
theorem Xc (n d:Nat) (o:Option Int):Dp.sIx n d o=HT.sIx n d o:=by cases o<;>rfl
theorem ZaY {xs:List V}{ds:List D}{ad:List Addr}{H:Hp}{lo hi:Option Int} (r:Dens X.K ad H xs ds):Dens X.K ad H (cutV xs lo hi) (Zad ds lo hi):=by
 unfold cutV Zad
 rw [←r.length,Xc,Xc]
 exact (r.drop _).take _
theorem VG {prog:Program}{w:World}{A:Around}{E:Value→Shared→Prop}{s:Shared}{t sl:Addr}{items:Array Value}{vl vu:Value}{lo hi:Option Int}{Q:Value→Shared→Prop} (ht:IsTup s.heap t items) (hs:s.heap.IsSliceOf sl vl vu .none) (pl:IsPart vl lo) (pu:IsPart vu hi)
  (hw:HT.sIx items.size 0 lo=0∧HT.sIx items.size items.size hi=items.size) (h:Q (.ref t) s):wpAny (model prog w) A (getItem (.ref t) (.ref sl)) Q E s:=by
 obtain ⟨os,hos,hcs,hds⟩:=id hs
 have hTs:s.TypeIs (.ref sl) "slice":=⟨os,hos,hcs⟩
 unfold getItem
 try with_reducible refine wpAny_holding ?_
 first | refine wpAny_bind (wpAny_pure ?_) | skip
 refine wpAny_bind (wpAny_sequenceKey ht.typeIs (by decide) ?_)
 refine wpAny_bind (wpAny_callSpecial?_slot (name:=Str.ofString "__getitem__") ht.typeIs PyProof.Rows.slot_tuple_getitem
  (wpAny_call_entry PyProof.Rows.slot_tuple_getitem ht.typeIs PyProof.Rows.entry_tuple_getitem ?_ (PyProof.Rows.args_tuple_getitem _ _)))
 show wpAny _ _ (Builtin.Tuple.tupleItemsOf (.ref t) >>= _) _ _ s
 refine wpAny_bind (tupleItemsOf_ ht ?_)
 refine wpAny_bind (wpAny_typeOf hTs ?_)
 rw [if_pos (by decide)]
 refine wpAny_bind (HT.sliceApplied_gen hs pl pu ?_)
 rw [hw.1,hw.2]
 have hyes:(((0:Nat):Int)==0&&(1:Int)==1&&(items.size - 0)==items.size)=true:=by simp
 show wpAny _ _ (if (((0:Nat):Int)==0&&(1:Int)==1&&(items.size - 0)==items.size)=true then _ else _) _ _ s
 rw [if_pos hyes]
 unfold Builtin.Tuple.tupleIsExact
 wp_walk using wpAny_typeOf ht.typeIs

 exact ⟨_,rfl,wpAny_pure h⟩
theorem Zcz:SlR X (fun x lo hi H Q=>∃ a xs,x=.ref a∧SqT X.K H a xs∧(HT.sIx xs.length 0 lo=0∧HT.sIx xs.length xs.length hi=xs.length)∧Q (.ref a) H):=by
 intro pins s σ H x v vl vu lo hi sl Q I rx hs pl pu h
 obtain ⟨a,xs,rfl,hx,hw,q⟩:=h
 cases rx
 obtain ⟨its,r,ht,hz⟩:=I.tuple hx
 have hlen:its.toArray.size=xs.length:=by rw [List.size_toArray]; exact r.length.symm
 refine ⟨"tuple",_,PyProof.Rows.slot_tuple_getitem.lookup,ht.typeIs,?_⟩
 exact VG ht hs pl pu (by rw [hlen]; exact hw) ⟨.ref a,H,I,rfl,q⟩
theorem ZjR:SlR X (rSl X.K):=by
 intro pins s σ H x v vl vu lo hi sl Q I rx hs pl pu h
 obtain ⟨ad,st,dx,d,st',S,hx,e,p⟩:=h
 unfold Yy at e
 split at e
 ·rename_i ds
  split at e
  ·rename_i hw
   cases e
   obtain ⟨a,xs,rfl,ha,r⟩:=hx.ofTup
   refine Zcz pins s σ H _ v vl vu lo hi sl Q I rx hs pl pu ⟨a,xs,rfl,ha.sq,?_,p.at S hx⟩
   rw [r.length,←Xc,←Xc]
   exact hw
  ·rename_i hw
   cases e
   obtain ⟨a,xs,rfl,ha,r⟩:=hx.ofTup
   refine sl_tup pins s σ H _ v vl vu lo hi sl Q I rx hs pl pu ⟨a,xs,rfl,(ha).sq,?_,fun q hq=>p _ ad _ (Ext.laid hq) (S.laid hq) (.tup (.inl upd_same) ((ZaY r).mono (Ext.laid hq)))⟩
   rw [r.length,←Xc,←Xc]
   exact hw
 ·split at e
  ·rename_i q0
   cases e
   obtain ⟨a,rfl,ha⟩:=hx.ofLst
   obtain ⟨xs,r,sq⟩:=S.list ha q0
   refine sl_list pins s σ H _ v vl vu lo hi sl Q I rx hs pl pu ⟨a,xs,rfl,sq,fun q hq=>p _ (ad++[q]) _ (Ext.push hq) (S.push hq (ZaY r)) (.lst ?_)⟩
   rw [←S.len]
   exact ZM
  ·cases e
 ·cases e
theorem UU {ad:List Addr}{H:Hp}{vs:List V}{d:D} (h:Dens X.K ad H vs [d]):∃ v,vs=[v]∧Den X.K ad H v d:=by
 cases h with
 | cons h r=>cases r; exact ⟨_,rfl,h⟩
theorem ZeB {ad:List Addr}{H:Hp}{vs:List V}{d e:D} (h:Dens X.K ad H vs [d,e]):∃ v w,vs=[v,w]∧Den X.K ad H v d∧Den X.K ad H w e:=by
 cases h with
 | cons h r=>
  cases r with
  | cons h' r=>cases r; exact ⟨_,_,rfl,h,h'⟩
theorem XI {g:D→Za→Res}{ds:List D}{st:Za}{r:D×Za} (h:on1 g ds st=some r):∃ d,ds=[d]∧g d st=some r:=by
 unfold on1 at h
 split at h
 ·exact ⟨_,rfl,h⟩
 ·cases h
theorem V4 {g:D→D→Za→Res}{ds:List D}{st:Za}{r:D×Za} (h:on2 g ds st=some r):∃ d e,ds=[d,e]∧g d e st=some r:=by
 unfold on2 at h
 split at h
 ·exact ⟨_,_,rfl,h⟩
 ·cases h
theorem J5:CallR X (.builtin "len") (rC X.K (on1 Zao)):=by
 intro pins s σ H xs us Q I r h
 obtain ⟨ad,st,ds,d,st',S,hd,e,p⟩:=h
 obtain ⟨x,rfl,e1⟩:=XI e
 have e:=e1
 obtain ⟨v,rfl,hv⟩:=UU hd
 unfold Zao at e
 split at e
 ·rename_i n q
  cases e
  unfold Zft at q
  split at q
  ·cases q
   obtain ⟨a,ys,rfl,ha,rr⟩:=hv.ofTup
   refine call_len_seq pins s σ H _ us Q I r ⟨a,ys,rfl,.inr ((ha).sq),?_⟩
   rw [rr.length]
   exact p.at S (.int _)
  ·split at q
   ·rename_i q0
    cases q
    obtain ⟨a,rfl,ha⟩:=hv.ofLst
    obtain ⟨ys,rr,sq⟩:=S.list ha q0
    refine call_len_seq pins s σ H _ us Q I r ⟨a,ys,rfl,.inl sq,?_⟩
    rw [rr.length]
    exact p.at S (.int _)
   ·cases q
  ·cases q
   obtain ⟨a,o,its,n,rfl,h1,h2,h3,h4,h5⟩:=hv.ofKt
   refine call_len_seq pins s σ H _ us Q I r ⟨a,_,rfl,.inr (.inr ⟨o,its,n,h1,h2.1,h3,h4,h5⟩),?_⟩
   rw [List.length_map]
   exact p.at S (.int _)
  ·cases q
 ·cases e
theorem UR:CallR X (.type "tuple") (rC X.K (on1 Ww)):=by
 intro pins s σ H xs us Q I r h
 obtain ⟨ad,st,ds,d,st',S,hd,e,p⟩:=h
 obtain ⟨x,rfl,e1⟩:=XI e
 have e:=e1
 obtain ⟨v,rfl,hv⟩:=UU hd
 unfold Ww at e
 split at e
 ·cases e
  obtain ⟨a,ys,rfl,ha,rr⟩:=hv.ofTup
  exact call_tuple_of pins s σ H _ us Q I r ⟨a,ys,rfl,.inr ⟨(ha).sq,p.at S hv⟩⟩
 ·split at e
  ·rename_i q0
   cases e
   obtain ⟨a,rfl,ha⟩:=hv.ofLst
   obtain ⟨ys,rr,sq⟩:=S.list ha q0
   exact call_tuple_of pins s σ H _ us Q I r ⟨a,ys,rfl,.inl ⟨sq,fun l hl=>p _ ad _ (Ext.laid hl) (S.laid hl) (.tup (.inl upd_same) (rr.mono (Ext.laid hl)))⟩⟩
  ·cases e
 ·cases e
theorem QK:CallR X (.type "list") (rC X.K (on1 V0)):=by
 intro pins s σ H xs us Q I r h
 obtain ⟨ad,st,ds,d,st',S,hd,e,p⟩:=h
 obtain ⟨x,rfl,e1⟩:=XI e
 have e:=e1
 obtain ⟨v,rfl,hv⟩:=UU hd
 unfold V0 at e
 split at e
 ·cases e
  obtain ⟨a,ys,rfl,ha,rr⟩:=hv.ofTup
  refine call_list_of pins s σ H _ us Q I r ⟨a,ys,rfl,.inr ((ha).sq),fun l hl=>p _ (ad++[l]) _ (Ext.push hl) (S.push hl rr) (.lst ?_)⟩
  rw [←S.len]
  exact ZM
 ·split at e
  ·rename_i q0
   cases e
   obtain ⟨a,rfl,ha⟩:=hv.ofLst
   obtain ⟨ys,rr,sq⟩:=S.list ha q0
   refine call_list_of pins s σ H _ us Q I r ⟨a,ys,rfl,.inl sq,fun l hl=>p _ (ad++[l]) _ (Ext.push hl) (S.push hl rr) (.lst ?_)⟩
   rw [←S.len]
   exact ZM
  ·cases e
 ·cases e
theorem J7 (hc:X.calm=true):CallR X (.builtin "min") (rC X.K (on2 ZdK)):=by
 intro pins s σ H xs us Q I r h
 obtain ⟨ad,st,ds,d,st',S,hd,e,p⟩:=h
 obtain ⟨x,y,rfl,e1⟩:=V4 e
 have e:=e1
 obtain ⟨v,w,rfl,hv,hw⟩:=ZeB hd
 unfold ZdK at e
 split at e
 ·cases e; cases hv; cases hw
  exact call_min2 hc pins s σ H _ us Q I r ⟨_,_,rfl,p.at S (.int _)⟩
 ·cases e
theorem J6 (hc:X.calm=true):CallR X (.builtin "max") (rC X.K (on2 ZdH)):=by
 intro pins s σ H xs us Q I r h
 obtain ⟨ad,st,ds,d,st',S,hd,e,p⟩:=h
 obtain ⟨x,y,rfl,e1⟩:=V4 e
 have e:=e1
 obtain ⟨v,w,rfl,hv,hw⟩:=ZeB hd
 unfold ZdH at e
 split at e
 ·cases e; cases hv; cases hw
  exact call_max2 hc pins s σ H _ us Q I r ⟨_,_,rfl,p.at S (.int _)⟩
 ·cases e
noncomputable def tyN:Ty→String
 | .int => "int"
 | .bool => "bool"
 | .str => "str"
 | .tuple => "tuple"
noncomputable def Zbv:D→String
 | .int _ => "int"
 | .bl _ => "bool"
 | .str _ => "str"
 | .tup _ => "tuple"
 | .non => "NoneType"
 | _ => "list"
theorem Zbw (K:PySem.W.Frag) {T:Ty}{d:D}{k:Bool} (h:U7 T d=some k):PySem.W.kitOne K (.type (Zbv d)) (.type (tyN T))=some k:=by
 unfold U7 at h
 split at h<;>first | (cases h; rfl) | cases h
theorem Zh1 {K:PySem.W.Frag}{ad:List Addr}{H:Hp}{v:V}{d:D}{T:Ty}{k:Bool} (h:U7 T d=some k) (hv:Den K ad H v d):TyOf K H v (.type (Zbv d))∨∃ a xs,v=.ref a∧SqT K H a xs∧Zbv d = "tuple":=by
 cases hv with
 | non=>exact .inl .non
 | bl b=>exact .inl (.bl b)
 | int i=>exact .inl (.int i)
 | str x=>exact .inl (.str x)
 | tup e r=>exact .inr ⟨_,_,rfl,e.sq,rfl⟩
 | lst e=>cases T<;>simp [U7] at h
 | dct _ _ _ _ _=>cases T<;>simp [U7] at h
 | obj _ _=>cases T<;>simp [U7] at h
 | kt _ _ _ _ _ _=>cases T<;>simp [U7] at h
theorem ZaT {T:Ty}:CallR X (.builtin "isinstance") (fun vs H Q=>∃ v,vs=[v,.ty (tyN T)]∧rC X.K (on1 (Zak T)) [v] H Q):=by
 intro pins s σ H xs us Q I r h
 obtain ⟨v,rfl,ad,st,ds,d,st',S,hd,e,p⟩:=h
 obtain ⟨x,rfl,e1⟩:=XI e
 have e:=e1
 obtain ⟨w,hw,hv⟩:=UU hd
 cases hw
 unfold Zak at e
 split at e
 ·rename_i k q
  cases e
  cases r with
  | cons r1 r2=>
   cases r2 with
   | cons r3 r4=>
    cases r4
    cases r3
    rcases Zh1 q hv with ty | ⟨a,zs,rfl,sq,kd⟩
    ·exact isinst_ok I r1 ty (Zbw X.K q) fun tk=>⟨.bl k,H,I.tok _,rfl,p.at S (.bl k)⟩
    ·have kt:=Zbw X.K q
     rw [kd] at kt
     cases r1
     obtain ⟨its,_,pp,_⟩:=I.tuple sq
     obtain ⟨o,h1,h2,_⟩:=pp
     exact PySem.W.kia_one PySem.W.kitx_tuple I.kIn ⟨o,h1,h2⟩ kt (fun z=>nomatch z) fun tk=>⟨.bl k,H,I.tok _,rfl,p.at S (.bl k)⟩
 ·cases e
end
section
variable {X:Cx}
end
end Dp



namespace Dp
open PySem PySem.Spec PyProof.Rows L2
variable [ClsTab]
section
open PySem.SeqAt PySem.MeetsSeq PySem.MeetsSeq2 PySem.MeetsSeq3 PySem.SeqRoads2
open AutoSeq1 (wpAny_loadPart')
noncomputable def LtAt (A:Around) (s:Shared) (y x:Value) (b:Bool):Prop:=
 ∀ (prog:Program) (w:World) (E:Value→Shared→Prop) (Q:Value→Shared→Prop),Q (.bool b) s→wpAny (model prog w) A (richCompare .Lt y x) Q E s
noncomputable def ltR (e lt:Nat→Bool) (f:Bool):List Nat→Bool
 | []=>f
 | j :: r=>if e j=true then ltR e lt f r else lt j
theorem Jk (l b:Addr) (items items2:Array Value) (n n2:Nat) (dd dd2:Option Addr) (sl sl2:Array (Option Value)) (e lt:Nat→Bool) :
  Meets (Builtin.«tuple.__lt__» ⟨[.ref l,.ref b],[]⟩)
   (fun A R s=>s.heap.get? l=some { cls:=.type "tuple",dict:=dd,data:=.seq items n,slots:=sl }∧s.heap.get? b=some { cls:=.type "tuple",dict:=dd2,data:=.seq items2 n2,slots:=sl2 } ∧
    (∀ j (h1:j < items.size) (h2:j < items2.size),EqAt A.in1 s items[j] items2[j] (e j))∧(∀ j (h1:j < items.size) (h2:j < items2.size),(∀ i,i < j→e i=true)→e j=false→LtAt A.in1 s items[j] items2[j] (lt j)) ∧
    R (.ok (.ret (.bool (ltR e lt (decide (items.size < items2.size)) (List.range (min items.size items2.size)))))) s):=
 .of_wp fun prog w A R s h=>by
  obtain ⟨hp,g,d,tk,os⟩:=s; obtain ⟨hl,hb,he,hq,h⟩:=h
  have f2:=AutoSeq1.sub_tuple_tuple
  have hZ:(items.toList.zip items2.toList).length=min items.size items2.size:=by simp
  wp_walk using wpAny_loadPart' hl,wpAny_loadPart' hb,wpAny_forIn_list _ (fun rest b s'=>b.1=none∧s'=⟨hp,g,d,tk,os⟩∧∃ i,rest=(items.toList.zip items2.toList).drop i∧(∀ k,k < i→e k=true) ∧
   R (.ok (.ret (.bool (ltR e lt (decide (items.size < items2.size)) ((List.range (min items.size items2.size)).drop i))))) ⟨hp,g,d,tk,os⟩) _
  case turn=>
   rintro ⟨y,x⟩ rest b s' ⟨hb',rfl,i,hz,hk,hR⟩
   have hlt:i < (items.toList.zip items2.toList).length:=by
    rcases Nat.lt_or_ge i (items.toList.zip items2.toList).length with h' | h'
    ·exact h'
    ·rw [List.drop_of_length_le h'] at hz; cases hz
   have hm:i < min items.size items2.size:=hZ ▸ hlt
   have h1:i < items.size:=Nat.lt_of_lt_of_le hm (Nat.min_le_left _ _)
   have h2:i < items2.size:=Nat.lt_of_lt_of_le hm (Nat.min_le_right _ _)
   rw [List.drop_eq_getElem_cons hlt] at hz
   injection hz with hyx hrest
   have hy:y=items[i]:=by have:=congrArg Prod.fst hyx; simpa using this
   have hx:x=items2[i]:=by have:=congrArg Prod.snd hyx; simpa using this
   subst hy hx
   have hd:(List.range (min items.size items2.size)).drop i=i :: (List.range (min items.size items2.size)).drop (i+1):=by simp [List.drop_eq_getElem_cons,hm]
   rw [hd] at hR
   have hR:R (.ok (.ret (.bool (if e i=true then ltR e lt (decide (items.size < items2.size)) ((List.range (min items.size items2.size)).drop (i+1)) else lt i)))) ⟨hp,g,d,tk,os⟩:=hR
   refine wpAny_bind (he i h1 h2 prog w _ _ ?_)
   cases hy:e i with
   | true=>
    rw [hy] at hR
    wp_walk
    refine ⟨rfl,rfl,i+1,hrest,fun k hk'=>?_,by simpa using hR⟩
    rcases Nat.lt_or_ge k i with h | h
    ·exact hk k h
    ·rw [show k=i by omega]; exact hy
   | false=>
    rw [hy] at hR
    have hz:∀ (E:Value→Shared→Prop) (Q:Value→Shared→Prop),Q (.bool (lt i)) ⟨hp,g,d,tk,os⟩→wpAny (model prog w) A.in1 (richCompare .Lt items[i] items2[i]) Q E ⟨hp,g,d,tk,os⟩:=fun E Q=>hq i h1 h2 hk hy prog w E Q
    generalize richCompare .Lt items[i] items2[i]=rc at hz ⊢
    wp_walk using hz _ _
    exact ⟨_,rfl,by simpa using hR⟩
  case fin=>
   rintro ⟨b1,b2⟩ s' ⟨hb',rfl,i,hz,_,hR⟩
   simp only at hb'
   subst hb'
   have hge:min items.size items2.size≤i:=by
    rcases Nat.lt_or_ge i (items.toList.zip items2.toList).length with h' | h'
    ·rw [List.drop_eq_getElem_cons h'] at hz; cases hz
    ·exact hZ ▸ h'
   rw [List.drop_of_length_le (by simpa using hge)] at hR
   wp_walk
   exact ⟨_,rfl,by simpa [Builtin.Tuple.tupleCompareSizes,ltR] using hR⟩
  case h=>
   exact ⟨rfl,rfl,0,rfl,fun k hk=>absurd hk (by omega),by simpa using h⟩
theorem LtAt.tuples {A:Around}{s:Shared}{l b:Addr}{items items2:Array Value}{e lt:Nat→Bool} (hl:s.heap.IsTuple l items) (hb:s.heap.IsTuple b items2) (hu:A.units < cLine)
  (he:∀ j (h1:j < items.size) (h2:j < items2.size),EqAt A.in1 s items[j] items2[j] (e j)) (hq:∀ j (h1:j < items.size) (h2:j < items2.size),(∀ i,i < j→e i=true)→e j=false→LtAt A.in1 s items[j] items2[j] (lt j)):LtAt A s (.ref l) (.ref b) (ltR e lt (decide (items.size < items2.size)) (List.range (min items.size items2.size))):=fun prog w E Q h=>by
 obtain ⟨⟨cls,dd,data,sl⟩,ho,hc,n,hd⟩:=id hl
 obtain ⟨⟨cls2,dd2,data2,sl2⟩,ho2,hc2,n2,hd2⟩:=id hb
 simp only at hc hd hc2 hd2
 subst hc hd hc2 hd2
 exact richCompare_meets_room (op:=.Lt) ⟨_,ho,rfl⟩ ⟨_,ho2,rfl⟩ F.slot_tuple_lt F.entry_tuple_lt (F.args_tuple_lt_2 _ _) (Jk l b items items2 n n2 dd dd2 sl sl2 e lt)
  ⟨ho,ho2,he,hq,show Value.bool (ltR e lt (decide (items.size < items2.size)) (List.range (min items.size items2.size)))≠Value.notImplemented∧Q (.bool (ltR e lt (decide (items.size < items2.size)) (List.range (min items.size items2.size)))) s from ⟨(fun x=>nomatch x),h⟩⟩ hu
theorem Zaq (l b:Addr) (items items2:Array Value) (n n2:Nat) (dd dd2:Option Addr) (sl sl2:Array (Option Value)) (e lt:Nat→Bool) (k:Nat) :
  ∀ i:Nat,min items.size items2.size - i=k→Meets (Builtin.«list.__eq__.loop» ⟨[.ref l,.ref b,rawInt i,rawInt 0],[]⟩)
   (fun A R s=>s.heap.get? l=some { cls:=.type "list",dict:=dd,data:=.seq items n,slots:=sl }∧s.heap.get? b=some { cls:=.type "list",dict:=dd2,data:=.seq items2 n2,slots:=sl2 } ∧
    (∀ j (h1:j < items.size) (h2:j < items2.size),EqAt A.in1 s items[j] items2[j] (e j))∧(∀ j (h1:j < items.size) (h2:j < items2.size),(∀ i,i < j→e i=true)→e j=false→LtAt A.in1 s items[j] items2[j] (lt j))∧(∀ j,j < i→e j=true) ∧
    R (.ok (.ret (.bool (ltR e lt (decide (items.size < items2.size)) ((List.range (min items.size items2.size)).drop i))))) s):=by
 induction k with
 | zero=>
  intro i hk prog w A R s h
  obtain ⟨hp,g,d,tk,os⟩:=s; obtain ⟨hl,hb,he,hq,hi,h⟩:=h
  wp_walk using wpAny_loadPart' hl,wpAny_loadPart' hb
  have hd:(List.range (min items.size items2.size)).drop i=[]:=by simp; omega
  rw [hd] at h
  have hz:items[((i:Nat):Int).toNat]?=none∨items2[((i:Nat):Int).toNat]?=none:=by
   by_cases c:items.size≤i
   ·left; simp; omega
   ·right; simp; omega
  rcases hz with hz | hz
  ·rw [hz]
   wp_walk using wpAny_loadPart' hl,wpAny_loadPart' hb
   exact h
  ·rw [hz]
   cases items[((i:Nat):Int).toNat]? with
   | none=>
    wp_walk using wpAny_loadPart' hl,wpAny_loadPart' hb
    exact h
   | some x=>
    wp_walk using wpAny_loadPart' hl,wpAny_loadPart' hb
    exact h
 | succ k ih=>
  intro i hk prog w A R s h
  obtain ⟨hp,g,d,tk,os⟩:=s; obtain ⟨hl,hb,he,hq,hi,h⟩:=h
  wp_walk using wpAny_loadPart' hl,wpAny_loadPart' hb
  have hlt:i < items.size:=by omega
  have hlt2:i < items2.size:=by omega
  have hm:i < min items.size items2.size:=by omega
  have hi1:items[((i:Nat):Int).toNat]?=some items[i]:=by simp [hlt]
  have hi2:items2[((i:Nat):Int).toNat]?=some items2[i]:=by simp [hlt2]
  have hd:(List.range (min items.size items2.size)).drop i=i :: (List.range (min items.size items2.size)).drop (i+1):=by simp [List.drop_eq_getElem_cons,hm]
  have hc:((i:Int)+1)=((i+1:Nat):Int):=by push_cast; rfl
  rw [hd] at h
  have h:R (.ok (.ret (.bool (if e i=true then ltR e lt (decide (items.size < items2.size)) ((List.range (min items.size items2.size)).drop (i+1)) else lt i)))) ⟨hp,g,d,tk,os⟩:=h
  rw [hi1,hi2]
  refine wpAny_bind (he i hlt hlt2 prog w _ _ ?_)
  cases hb':e i with
  | true=>
   rw [hb'] at h
   wp_walk
   rw [hc]
   exact ⟨plainId_quiet plain_eq_loop _,codeAny_builtin entry_eq_loop (by
    rw [Around.under_plainId plain_eq_loop _]
    refine ih (i+1) (by omega) prog w A R _ ⟨hl,hb,he,hq,fun j hj=>?_,by simpa using h⟩
    rcases Nat.lt_or_ge j i with z | z
    ·exact hi j z
    ·rw [show j=i by omega]; exact hb')⟩
  | false=>
   rw [hb'] at h
   have hz:∀ (E:Value→Shared→Prop) (Q:Value→Shared→Prop),Q (.bool (lt i)) ⟨hp,g,d,tk,os⟩→wpAny (model prog w) A.in1 (richCompare .Lt items[i] items2[i]) Q E ⟨hp,g,d,tk,os⟩:=fun E Q=>hq i hlt hlt2 hi hb' prog w E Q
   wp_walk using wpAny_loadPart' hl,wpAny_loadPart' hb
   rw [hi1,hi2]
   refine wpAny_bind (hz _ _ ?_)
   wp_walk
   simpa using h
theorem Zap (l b:Addr) (items items2:Array Value) (n n2:Nat) (dd dd2:Option Addr) (sl sl2:Array (Option Value)) (e lt:Nat→Bool) :
  Meets (Builtin.«list.__lt__» ⟨[.ref l,.ref b],[]⟩)
   (fun A R s=>s.heap.get? l=some { cls:=.type "list",dict:=dd,data:=.seq items n,slots:=sl }∧s.heap.get? b=some { cls:=.type "list",dict:=dd2,data:=.seq items2 n2,slots:=sl2 } ∧
    (∀ j (h1:j < items.size) (h2:j < items2.size),EqAt A.in1 s items[j] items2[j] (e j))∧(∀ j (h1:j < items.size) (h2:j < items2.size),(∀ i,i < j→e i=true)→e j=false→LtAt A.in1 s items[j] items2[j] (lt j)) ∧
    R (.ok (.ret (.bool (ltR e lt (decide (items.size < items2.size)) (List.range (min items.size items2.size)))))) s):=by
 intro prog w A R s h
 obtain ⟨hp,g,d,tk,os⟩:=s; obtain ⟨hl,hb,he,hq,h⟩:=h
 have f3:=AutoSeq1.sub_list_list
 wp_walk using wpAny_loadPart' hl,wpAny_loadPart' hb
 exact ⟨plainId_quiet plain_eq_loop _,codeAny_builtin entry_eq_loop (by
  rw [Around.under_plainId plain_eq_loop _]
  exact Zaq l b items items2 n n2 dd dd2 sl sl2 e lt _ 0 rfl prog w A R _ ⟨hl,hb,he,hq,fun j hj=>absurd hj (by omega),by simpa using h⟩)⟩
theorem LtAt.lists {A:Around}{s:Shared}{l b:Addr}{items items2:Array Value}{e lt:Nat→Bool} (hl:s.heap.IsList l items) (hb:s.heap.IsList b items2) (hu:A.units < cLine)
  (he:∀ j (h1:j < items.size) (h2:j < items2.size),EqAt A.in1 s items[j] items2[j] (e j)) (hq:∀ j (h1:j < items.size) (h2:j < items2.size),(∀ i,i < j→e i=true)→e j=false→LtAt A.in1 s items[j] items2[j] (lt j)):LtAt A s (.ref l) (.ref b) (ltR e lt (decide (items.size < items2.size)) (List.range (min items.size items2.size))):=fun prog w E Q h=>by
 obtain ⟨⟨cls,dd,data,sl⟩,ho,hc,n,hd⟩:=id hl
 obtain ⟨⟨cls2,dd2,data2,sl2⟩,ho2,hc2,n2,hd2⟩:=id hb
 simp only at hc hd hc2 hd2
 subst hc hd hc2 hd2
 exact richCompare_meets_room (op:=.Lt) ⟨_,ho,rfl⟩ ⟨_,ho2,rfl⟩ F.slot_list_lt F.entry_list_lt (F.args_list_lt_2 _ _) (Zap l b items items2 n n2 dd dd2 sl sl2 e lt)
  ⟨ho,ho2,he,hq,show Value.bool (ltR e lt (decide (items.size < items2.size)) (List.range (min items.size items2.size)))≠Value.notImplemented∧Q (.bool (ltR e lt (decide (items.size < items2.size)) (List.range (min items.size items2.size)))) s from ⟨(fun x=>nomatch x),h⟩⟩ hu
end
section
variable {X:Cx}
theorem Zbp {ad:List Addr}{H:Hp}{k:Int}:∀ {xs:List V}{ds:List D}{b:Bool},Dens X.K ad H xs ds→Xf k ds=some b→xs.all flatV=true∧inV (.int k) xs=b
 | _,_,_,.nil,e=>by cases e; exact ⟨rfl,rfl⟩
 | _,_,b,.cons (d:=d) h r,e=>by
  cases d with
  | int i=>
   cases h
   unfold Xf at e
   cases q:Xf k _ with
   | none=>rw [q] at e; cases e
   | some b'=>
    rw [q] at e
    cases e
    obtain ⟨h1,h2⟩:=Zbp r q
    refine ⟨by rw [List.all_cons,h1]; rfl,?_⟩
    show ((i==k)||inV (.int k) _)=(decide (i=k)||b')
    rw [h2]
    rfl
  | _=>simp [Xf] at e
theorem QS {ad:List Addr}{H:Hp}{k:Str}:∀ {xs:List V}{ds:List D}{b:Bool},Dens X.K ad H xs ds→Xg k ds=some b→xs.all flatV=true∧inV (.str k) xs=b
 | _,_,_,.nil,e=>by cases e; exact ⟨rfl,rfl⟩
 | _,_,b,.cons (d:=d) h r,e=>by
  cases d with
  | str i=>
   cases h
   unfold Xg at e
   cases q:Xg k _ with
   | none=>rw [q] at e; cases e
   | some b'=>
    rw [q] at e
    cases e
    obtain ⟨h1,h2⟩:=QS r q
    refine ⟨by rw [List.all_cons,h1]; rfl,?_⟩
    show ((i==k)||inV (.str k) _)=(decide (i=k)||b')
    rw [h2]
    congr 1
  | _=>simp [Xg] at e
noncomputable def CW (X:Cx) (pins:List (Addr×Obj)) (σ:L2.St) (Q:VK) (s:Shared) (op:CmpOp) (v u:Value):Prop:=wpAny (model X.prog X.w) X.A (compareOp op v u) (EP X pins σ Q) X.xe s
noncomputable def CW2 (X:Cx) (pins:List (Addr×Obj)) (σ:L2.St) (Q:VK) (s:Shared) (H:Hp) (op op':CmpOp) (v u:Value) (k:Bool):Prop:=(Q (.bl k) H→CW X pins σ Q s op v u)∧(Q (.bl (!k)) H→CW X pins σ Q s op' v u)
noncomputable def vOf:D→Option V
 | .non=>some .non
 | .bl b=>some (.bl b)
 | .int i=>some (.int i)
 | .str x=>some (.str x)
 | _=>none
theorem Den.vOf {K:PySem.W.Frag}{ad:List Addr}{H:Hp}{x x':V}{d:D} (h:Den K ad H x d) (e:vOf d=some x'):x=x':=by
 cases h<;>cases e<;>rfl
inductive EqD (x y:V):D→D→Bool→Prop
 | sc {dx dy:D}{k:Bool} (h1:vOf dx=some x) (h2:vOf dy=some y) (h3:scal x y=true) (h4:decide (x=y)=k):EqD x y dx dy k
 | tup {xs ys:List D} (h:(okD 8 (.tup xs)&&okD 8 (.tup ys))=true):EqD x y (.tup xs) (.tup ys) (Z8 xs ys)
theorem Zdh {K:PySem.W.Frag}{ad:List Addr}{H:Hp}{x y:V}{dx dy:D}{k:Bool} (hx:Den K ad H x dx) (hy:Den K ad H y dy) (e:eqD dx dy=some k):EqD x y dx dy k:=by
 have sc:∀ {x' y':V},vOf dx=some x'→vOf dy=some y'→scal x' y'=true→decide (x'=y')=k→EqD x y dx dy k:=fun h1 h2 h3 h4=>by
  have e1:=hx.vOf h1
  have e2:=hy.vOf h2
  subst e1 e2
  exact .sc h1 h2 h3 h4
 clear hx hy
 unfold eqD at e
 split at e
 all_goals first
  | (cases e; exact sc rfl rfl rfl dec_bl)
  | (cases e; exact sc rfl rfl rfl rfl)
  | (cases e; exact sc rfl rfl rfl (by simp))
  | skip
 ·split at e
  ·rename_i hok
   cases e
   exact .tup hok
  ·cases e
 ·cases e
theorem ZgZ (hu:X.A.units+64 < cLine) {pins:List (Addr×Obj)}{s:Shared}{σ:L2.St}{H:Hp}{x y:V}{v u:Value}{Q:VK}{ad:List Addr}{st:Za}{dx dy:D}{k:Bool} (I:Inv X pins σ H s) (rx:RelV x v) (ry:RelV y u) (S:StOk X.K ad H st) (hx:Den X.K ad H x dx) (hy:Den X.K ad H y dy)
  (e:eqD dx dy=some k):CW2 X pins σ Q s H .Eq .NotEq v u k:=by
 cases Zdh hx hy e with
 | sc h1 h2 h3 h4=>
  subst h4
  exact ⟨fun q=>op_eq pins s σ H x y v u Q I rx ry ⟨h3,q⟩,fun q=>op_ne pins s σ H x y v u Q I rx ry ⟨h3,q⟩⟩
 | tup hok=>
  rw [Bool.and_eq_true] at hok
  obtain ⟨a,xs,rfl,ha,r1⟩:=hx.ofTup
  obtain ⟨b,ys,rfl,hb,r2⟩:=hy.ofTup
  cases rx; cases ry
  obtain ⟨g1,g2⟩:=Zd3 (ad:=ad) (A:=X.A) I (n:=7) hok.1 hok.2 (by omega) ha r1 hb r2
  exact ⟨fun q=>g1 X.prog X.w X.xe _ ⟨.bl _,H,I,rfl,q⟩,fun q=>g2 X.prog X.w X.xe _ ⟨.bl _,H,I,rfl,q⟩⟩
open PySem.SeqAt in
theorem Zd2 {X:Cx}{H:Hp}{ad:List Addr}{pins:List (Addr×Obj)}{σ:L2.St}{s:Shared} (I:Inv X pins σ H s) {n:Nat}{A:Around}{a b:Addr}{xs ys:List V}{ds es:List D}{its its':List Value} (hx:YQ n ds=true) (hy:YQ n es=true) (hu:A.units+n+1 < cLine)
  (r:Dens X.K ad H xs ds) (r':Dens X.K ad H ys es) (rv:Vals xs its) (rv':Vals ys its') (p:s.heap.IsList a its.toArray) (p':s.heap.IsList b its'.toArray):RcAt A s (.ref a) (.ref b) (Z8 ds es)∧RcNeAt A s (.ref a) (.ref b) (!Z8 ds es):=by
 have e1:its.toArray.size=ds.length:=by rw [List.size_toArray,←rv.length,r.length]
 have e2:its'.toArray.size=es.length:=by rw [List.size_toArray,←rv'.length,r'.length]
 by_cases hl:ds.length=es.length
 ·have it:=fun j h1 h2=>QV (a:=a) (b:=b) I hx hy hu r r' rv rv' j h1 h2
  have q:=RcAt.lists (A:=A) (s:=s) (e:=fun i=>Z2 ((ds[i]?).getD .non) ((es[i]?).getD .non)) p p' (by omega) (by omega) it
  have q':=RcNeAt.lists (A:=A) (s:=s) (e:=fun i=>Z2 ((ds[i]?).getD .non) ((es[i]?).getD .non)) p p' (by omega) (by omega) it
  rw [e1] at q q'
  rw [Y5,show min ds.length es.length=ds.length by omega,show (ds.length==es.length)=true by simpa using hl,Bool.and_true]
  exact ⟨q,q'⟩
 ·have q:=RcAt.lists_lengths (A:=A) (s:=s) p p' (by rw [e1,e2]; simpa using hl) (by omega)
  have q':=RcNeAt.lists_lengths (A:=A) (s:=s) p p' (by rw [e1,e2]; simpa using hl) (by omega)
  rw [Y5,show (ds.length==es.length)=false by simpa using hl,Bool.and_false]
  exact ⟨q,q'⟩
open PySem.SeqAt in
theorem Ziy (hu:X.A.units+64 < cLine) {pins:List (Addr×Obj)}{s:Shared}{σ:L2.St}{H:Hp}{x y:V}{v u:Value}{Q:VK}{ad:List Addr}{st:Za}{ds es:List D}{k:Bool} (I:Inv X pins σ H s) (rx:RelV x v) (ry:RelV y u) (S:StOk X.K ad H st) (hx:Den X.K ad H x (.tup ds)) (hy:Den X.K ad H y (.tup es))
  (e:JH st ds es=some k):CW2 X pins σ Q s H .Eq .NotEq v u k:=by cases e
theorem Zg0 (hu:X.A.units+64 < cLine) {pins:List (Addr×Obj)}{s:Shared}{σ:L2.St}{H:Hp}{x y:V}{v u:Value}{Q:VK}{ad:List Addr}{st:Za}{dx dy:D}{k:Bool} (I:Inv X pins σ H s) (rx:RelV x v) (ry:RelV y u) (S:StOk X.K ad H st) (hx:Den X.K ad H x dx) (hy:Den X.K ad H y dy)
  (e:eqS st dx dy=some k):CW2 X pins σ Q s H .Eq .NotEq v u k:=by
 have sc:scal x y=true→(decide (x=y))=k→CW2 X pins σ Q s H .Eq .NotEq v u k:=fun h1 h2=>by
  subst h2
  exact ⟨fun q=>op_eq pins s σ H x y v u Q I rx ry ⟨h1,q⟩,fun q=>op_ne pins s σ H x y v u Q I rx ry ⟨h1,q⟩⟩
 unfold eqS at e
 split at e
 ·obtain ⟨a,rfl,ha⟩:=hx.ofLst
  obtain ⟨b,rfl,hb⟩:=hy.ofLst
  cases rx; cases ry
  have two:∀ {ba bb:Bool}{xs ys:List D},st[_]?=some (ba,xs)→st[_]?=some (bb,ys)→(xs=[]∨ys=[])→(xs.isEmpty&&ys.isEmpty)=k→CW2 X pins σ Q s H .Eq .NotEq (.ref a) (.ref b) k:=fun {ba bb xs ys} q1 q2 hz hk=>by
   obtain ⟨vs,r1,s1⟩:=S.list ha q1
   obtain ⟨ws,r2,s2⟩:=S.list hb q2
   obtain ⟨its,rv,p1,_⟩:=I.list s1
   obtain ⟨its',rv',p2,_⟩:=I.list s2
   have l1:its.toArray.size=xs.length:=by rw [List.size_toArray,←rv.length,r1.length]
   have l2:its'.toArray.size=ys.length:=by rw [List.size_toArray,←rv'.length,r2.length]
   by_cases hl:xs.length=ys.length
   ·have z1:xs=[]:=by
     rcases hz with z | z
     ·exact z
     ·rw [z] at hl; exact List.length_eq_zero_iff.mp hl
    have z2:ys=[]:=by rw [z1] at hl; exact List.length_eq_zero_iff.mp hl.symm
    subst z1 z2
    cases hk
    have f:its=[]:=List.length_eq_zero_iff.mp (by simpa using l1)
    have f':its'=[]:=List.length_eq_zero_iff.mp (by simpa using l2)
    subst f f'
    refine ⟨fun q=>SeqAt.RcAt.lists (e:=fun _=>true) p1.isList p2.isList rfl (by omega) (fun j h1 _=>absurd h1 (by simp)) X.prog X.w X.xe _ ⟨.bl true,H,I,rfl,q⟩,fun q=>SeqAt.RcNeAt.lists (e:=fun _=>true) p1.isList p2.isList rfl (by omega) (fun j h1 _=>absurd h1 (by simp)) X.prog X.w X.xe _ ⟨.bl false,H,I,rfl,q⟩⟩
   ·have hk':k=false:=by
     rw [←hk]
     rcases hz with z | z
     ·subst z
      cases ys with
      | nil=>exact absurd rfl hl
      | cons _ _=>rfl
     ·subst z
      cases xs with
      | nil=>exact absurd rfl hl
      | cons _ _=>rfl
    subst hk'
    have hne:(its.toArray.size != its'.toArray.size)=true:=by rw [l1,l2]; simpa using hl
    exact ⟨fun q=>SeqAt.RcAt.lists_lengths p1.isList p2.isList hne (by omega) X.prog X.w X.xe _ ⟨.bl false,H,I,rfl,q⟩,fun q=>SeqAt.RcNeAt.lists_lengths p1.isList p2.isList hne (by omega) X.prog X.w X.xe _ ⟨.bl true,H,I,rfl,q⟩⟩
  split at e
  ·rename_i q1 q2
   cases e
   exact two q1 q2 (.inr rfl) (by simp)
  ·rename_i _ q1 q2
   cases e
   exact two q1 q2 (.inl rfl) (by simp)
  ·rename_i q1 q2
   split at e
   ·rename_i hok
    cases e
    rw [Bool.and_eq_true] at hok
    obtain ⟨vs,r1,s1⟩:=S.list ha q1
    obtain ⟨ws,r2,s2⟩:=S.list hb q2
    obtain ⟨its,rv,p1,_⟩:=I.list s1
    obtain ⟨its',rv',p2,_⟩:=I.list s2
    obtain ⟨g1,g2⟩:=Zd2 (ad:=ad) (A:=X.A) I hok.1 hok.2 (by omega) r1 r2 rv rv' p1.isList p2.isList
    exact ⟨fun q=>g1 X.prog X.w X.xe _ ⟨.bl _,H,I,rfl,q⟩,fun q=>g2 X.prog X.w X.xe _ ⟨.bl _,H,I,rfl,q⟩⟩
   ·cases e
  ·cases e
 ·rename_i ds es
  split at e
  ·rename_i k' q
   cases e
   exact ZgZ hu I rx ry S hx hy q
  ·exact Ziy hu I rx ry S hx hy e
 ·exact ZgZ hu I rx ry S hx hy e
open Classical in
noncomputable def ZjV (K:PySem.W.Frag) (ad:List Addr) (H:Hp) (d:D) (u:Value):Bool:=decide (∃ y e,RelV y u∧Den K ad H y e∧okD 8 e=true∧Z2 e d=true)
section
variable {pins:List (Addr×Obj)}{s:Shared}{σ:L2.St}{H:Hp}{x y:V}{v u:Value}{Q:VK}{ad:List Addr}{st:Za}{dx dy:D}{k:Bool}
theorem Uq {a:Addr}{xs:List V} (I:Inv X pins σ H s) (rx:RelV x v) (ry:RelV y u) (ey:y=.ref a) (sq:SqL X.K H a xs∨SqT X.K H a xs) (fx:flatV x=true) (h:xs.all flatV=true∧inV x xs=k):CW2 X pins σ Q s H .In .NotIn v u k:=by
 obtain ⟨h1,h2⟩:=h
 subst h2
 exact ⟨fun pk=>op_in_seq pins s σ H _ _ v u Q I rx ry ⟨a,xs,ey,sq,fx,h1,pk⟩,fun pk=>op_notIn_seq pins s σ H _ _ v u Q I rx ry ⟨a,xs,ey,sq,fx,h1,pk⟩⟩
noncomputable def InW (X:Cx) (pins:List (Addr×Obj)) (σ:L2.St) (Q:VK) (s:Shared) (H:Hp) (v u:Value) (dy:D) (k:Bool):Prop:=(Q (.bl k) H→CW X pins σ Q s .In v u)∧((∀ ks vs,dy≠.dct ks vs)→Q (.bl (!k)) H→CW X pins σ Q s .NotIn v u)
theorem CW2.inW (h:CW2 X pins σ Q s H .In .NotIn v u k):InW X pins σ Q s H v u dy k:=⟨h.1,fun _=>h.2⟩
theorem Zg3 (hu:X.A.units+64 < cLine) (I:Inv X pins σ H s) (rx:RelV x v) (ry:RelV y u) (S:StOk X.K ad H st) (hx:Den X.K ad H x dx) (hy:Den X.K ad H y dy) (q:inS st dx dy=some k):InW X pins σ Q s H v u dy k:=by
 unfold inS at q
 split at q
 ·split at q
  ·rename_i q0
   obtain ⟨a,e,ha⟩:=hy.ofLst
   obtain ⟨xs,r,sq⟩:=S.list ha q0
   cases hx
   exact (Uq I rx ry e (.inl sq) rfl (Zbp r q)).inW
  ·cases q
 ·split at q
  ·rename_i q0
   obtain ⟨a,e,ha⟩:=hy.ofLst
   obtain ⟨xs,r,sq⟩:=S.list ha q0
   cases hx
   exact (Uq I rx ry e (.inl sq) rfl (QS r q)).inW
  ·cases q
 ·obtain ⟨a,xs,e,ha,r⟩:=hy.ofTup
  cases hx
  exact (Uq I rx ry e (.inr ha.sq) rfl (Zbp r q)).inW
 ·obtain ⟨a,xs,e,ha,r⟩:=hy.ofTup
  cases hx
  exact (Uq I rx ry e (.inr ha.sq) rfl (QS r q)).inW
 ·obtain ⟨a,vs,rfl,ha,hl,r⟩:=hy.ofDct
  cases hx
  cases q
  refine ⟨fun pk=>op_in_dct pins s σ H _ _ v u Q I rx ry ⟨a,_,Sum.inr _,rfl,rfl,ha,?_⟩,fun z=>absurd rfl (z _ _)⟩
  rcases Vi r hl with ⟨w,d0,e1,e2,e3⟩ | ⟨e1,e2⟩
  ·rw [e1]; rw [e2] at pk; exact pk
  ·rw [e1]; rw [e2] at pk; exact pk
 ·cases q
theorem ZdC (hx:Den X.K ad H x dx) (q:isN dx=some k):decide (x=V.non)=k:=by
 cases hx<;>cases q<;>rfl
theorem Zg4 (I:Inv X pins σ H s) (rx:RelV x v) (ry:RelV y u) (hx:Den X.K ad H x dx) (hy:Den X.K ad H y dy) (q:isD dx dy=some k):CW2 X pins σ Q s H .Is .IsNot v u k:=by
 unfold isD at q
 split at q
 ·cases hy
  have z:=ZdC hx q
  subst z
  exact ⟨fun pk=>op_isN pins s σ H _ _ v u Q I rx ry ⟨rfl,pk⟩,fun pk=>op_notN pins s σ H _ _ v u Q I rx ry ⟨rfl,pk⟩⟩
 ·unfold isB at q
  split at q
  ·cases q
   cases hx; cases hy
   cases rx; cases ry
   have e:∀ a b:Bool,(Value.bool a==Value.bool b)=(a==b):=fun a b=>by cases a<;>cases b<;>rfl
   exact ⟨fun pk=>wpAny_is_plain rfl (by rw [e]; exact ⟨.bl _,H,I,rfl,pk⟩),fun pk=>wpAny_isNot_plain rfl (by rw [e]; exact ⟨.bl _,H,I,rfl,pk⟩)⟩
  ·cases q
 ·cases q
theorem WS {f:Int→Int→Bool} (hx:Den X.K ad H x dx) (hy:Den X.K ad H y dy) (q:Q3 f dx dy=some k):∃ i j,x=.int i∧y=.int j∧f i j=k:=by
 unfold Q3 at q
 split at q
 ·cases q; cases hx; cases hy; exact ⟨_,_,rfl,rfl,rfl⟩
 ·cases q
theorem ZiM (hu:X.A.units+64 < cLine) (I:Inv X pins σ H s) (rx:RelV x v) (ry:RelV y u) (S:StOk X.K ad H st) (hx:Den X.K ad H x dx) (hy:Den X.K ad H y dy) (q:ltS st dx dy=some k) (pk:Q (.bl k) H):CW X pins σ Q s .Lt v u:=by
   have q:ltD dx dy=some k:=q
   obtain ⟨i,j,rfl,rfl,z⟩:=WS hx hy q
   exact op_lt pins s σ H _ _ v u Q I rx ry ⟨_,_,rfl,rfl,by cases z; exact pk⟩
theorem Uu {o:Option Bool} (q:o.map not=some k):o=some (!k):=by
 cases o with
 | none=>cases q
 | some k'=>cases q; rw [Bool.not_not]
theorem ZbS {op op':CmpOp} (h:CW2 X pins σ Q s H op op' v u (!k)) (pk:Q (.bl k) H):CW X pins σ Q s op' v u:=h.2 (by rw [Bool.not_not]; exact pk)
end
theorem XJ (hu:X.A.units+64 < cLine) {op:CmpOp}:OpR X (compareOp op) (rD X.K (WI op)):=by
 intro pins s σ H x y v u Q I rx ry h
 obtain ⟨ad,st,dx,dy,d,st',S,hx,hy,e,p⟩:=h
 change CW X pins σ Q s op v u
 unfold WI at e
 cases q:Ze8 op dx dy st with
 | none=>rw [q] at e; cases e
 | some k=>
  rw [q] at e
  cases e
  have pk:=p.at S (.bl k)
  clear p
  cases op with
  | Lt=>exact ZiM hu I rx ry S hx hy q pk
  | LtE=>
   obtain ⟨i,j,rfl,rfl,z⟩:=WS hx hy q
   exact op_le pins s σ H _ _ v u Q I rx ry ⟨_,_,rfl,rfl,by cases z; exact pk⟩
  | Gt=>
   obtain ⟨i,j,rfl,rfl,z⟩:=WS hx hy q
   exact op_gt pins s σ H _ _ v u Q I rx ry ⟨_,_,rfl,rfl,by cases z; exact pk⟩
  | GtE=>
   obtain ⟨i,j,rfl,rfl,z⟩:=WS hx hy q
   exact op_ge pins s σ H _ _ v u Q I rx ry ⟨_,_,rfl,rfl,by cases z; exact pk⟩
  | Eq=>exact (Zg0 hu I rx ry S hx hy q).1 pk
  | NotEq=>exact ZbS (Zg0 hu I rx ry S hx hy (Uu q)) pk
  | In=>exact (Zg3 hu I rx ry S hx hy q).1 pk
  | NotIn=>
   have q:niS st dx dy=some k:=q
   unfold niS at q
   split at q
   ·cases q
   ·rename_i hn
    exact (Zg3 hu I rx ry S hx hy (Uu q)).2 hn (by rw [Bool.not_not]; exact pk)
  | Is=>exact (Zg4 I rx ry hx hy q).1 pk
  | IsNot=>exact ZbS (Zg4 I rx ry hx hy (Uu q)) pk
end
end Dp



namespace Dp
open PySem PySem.Spec PyProof.Rows L2
variable [ClsTab]
noncomputable def Zt:Expr→Bool
 | .Starred ..=>false
 | .Set ..=>false
 | .Slice ..=>false
 | _=>true
theorem Zp {G:Gs}{n:Nat}{sc:Scope}{N:List Str}{e:Expr}{c:CE} (h:cE G n sc N e=some c):Zt e=true:=by
 cases n with
 | zero=>exact nomatch (show (none:Option CE)=some c from h)
 | succ n=>cases e<;>first | rfl | exact nomatch (show (none:Option CE)=some c from h)
theorem Zr {e:Expr}{es:List Expr}{env:PySem.Env} (h:Zt e=true):starEach (e :: es) env=(false,eval e env) :: starEach es env:=by
 cases e<;>first | rfl | cases h
theorem Xw {op:CmpOp}{b:Expr} (h:Zt b=true):behindInMarks op b=false:=by
 cases b<;>first | rfl | cases h
theorem U9 {b:Expr} (h:Zt b=true):PlainIx b:=by
 cases b<;>first | (intro o i; rfl) | cases h
theorem Y3 {pos:Pos}{env:PySem.Env}:∀ {es:List Expr},es.all Zt=true→(backTo pos (starEach es env)).any (·.1)=false
 | [],_=>rfl
 | e :: es,h=>by
  rw [List.all_cons,Bool.and_eq_true] at h
  rw [Zr h.1]
  show (false||(backTo pos (starEach es env)).any (·.1))=false
  rw [Y3 h.2]
  rfl
inductive EsOk (Pm:Params) (K:PySem.W.Frag):List DictEntry→List Str→List D→Prop where
 | nil:EsOk Pm K [] [] []
 | cons {e:DictEntry}{es:List DictEntry}{k:Str}{ks:List Str}{d:D}{ds:List D}{v:V}{t:Tok} (h1:e.hash=PyData.keyHash Pm k) (h2:e.key=.str k t) (h3:RelV v e.val) (h4:∀ ad H,Den K ad H v d) (r:EsOk Pm K es ks ds):EsOk Pm K (e :: es) (k :: ks) (d :: ds)
noncomputable def Jl (Pm:Params) (K:PySem.W.Frag) (mg:Str→Option Value) (x:Str) (ks:List Str) (ds:List D):Prop:=
 ∃ A o es ep,mg x=some (.ref A)∧K.lookup A=some o∧o.ExactDict∧o.data=.dict es ep∧(A==sysModules)=false∧ks.Nodup∧EsOk Pm K es.toList ks ds
theorem EsOk.open {w:World}{P:Program}{K:PySem.W.Frag}:∀ {es:List DictEntry}{ks:List Str}{ds:List D},EsOk w.params K es ks ds→∃ kvs:List (Key×Value),Pairs (mixKind P w) es kvs∧kvs.map (·.1)=ks.map Sum.inr∧(∀ e∈es,∃ k,(mixKind P w).is k e.key=true∧e.hash=(mixKind P w).hash k) ∧
  ∀ k d,ZS ks ds k=some d→∃ u v,valueAt kvs (Sum.inr k)=some u∧RelV v u∧∀ ad H,Den K ad H v d
 | _,_,_,.nil=>⟨[],.nil,rfl,(fun _ h=>nomatch h),fun k d h=>by simp [ZS] at h⟩
 | e :: es,k0 :: ks,d0 :: ds,.cons (v:=v) (t:=t) h1 h2 h3 h4 r=>by
  obtain ⟨kvs,a1,a2,a3,a4⟩:=EsOk.open (P:=P) r
  have hk:(mixKind P w).is (Sum.inr k0) e.key=true:=by rw [h2]; exact mixKind_str P w k0 t
  refine ⟨(Sum.inr k0,e.val) :: kvs,.cons hk rfl a1,by rw [List.map_cons,List.map_cons,a2],fun x hx=>?_,fun k d h=>?_⟩
  ·rcases List.mem_cons.mp hx with rfl | hx
   ·exact ⟨Sum.inr k0,hk,h1⟩
   ·exact a3 x hx
  ·unfold valueAt
   by_cases c:k0=k
   ·subst c
    have h:ZS (k0 :: ks) (d0 :: ds) k0=some d:=h
    simp only [ZS,if_pos] at h
    cases h
    exact ⟨e.val,v,by simp,h3,h4⟩
   ·have h:ZS ks ds k=some d:=by
     simp only [ZS,if_neg c] at h
     exact h
    obtain ⟨u,v',b1,b2,b3⟩:=a4 k d h
    refine ⟨u,v',?_,b2,b3⟩
    have nk:¬(Sum.inr k0:Key)=Sum.inr k:=fun z=>c (Sum.inr.inj z)
    rw [List.find?_cons_of_neg (by simpa using nk)]
    exact b1
structure SubOk (K:PySem.W.Frag) (C B:Addr):Prop where
 cl:Cls K C
 ha:PySem.W.findIn K (.ref C) "__class__"=some (some (.builtin "object.__class__"))
 hn:PySem.W.specialIn K (.builtin "object.__class__") "__get__"=some (some (.builtin "getset_descriptor.__get__"))
 ht:PySem.W.takesIn K (.builtin "object.__class__")=some true
 hm:PySem.W.mroIn K C (.type "object")=some true
 kit:PySem.W.kitOne K (.ref C) (.ref B)=some true
structure NewOk (K:PySem.W.Frag) (C:Addr):Prop where
 makes:PySem.W.makesIn K C=true
 init:PySem.W.findIn K (.ref C) "__init__"=some (some (.builtin "object.__init__"))
 kp:PySem.W.keepIn K (.ref C)=true
 cl:Cls K C
noncomputable def GOk (P:Program) (w:World) (K:PySem.W.Frag) (mg:Str→Option Value) (base:Heap) (A:Around) (F:Nat→Fn) (x:Str):GV→Prop
 | .cst d=>∃ v u,mg x=some u∧RelV v u∧∀ ad H,Den K ad H v d
 | .blt=>mg x=none
 | .dct ks ds=>Jl w.params K mg x ks ds
 | .cls i ms subs=>mg x=some (.ref (ClsTab.ca i))∧NewOk K (ClsTab.ca i)∧(∀ i',subs.contains i'=true→SubOk K (ClsTab.ca i') (ClsTab.ca i)) ∧
   ∀ m j ps,ms.lookup m=some (j,ps)→∃ (k:Nat) (f:Addr) (fd:FuncData) (pn:List Str),FnOk P w K mg base CX0 k f fd pn (spD K (F j))∧Room k A∧Meth K (ClsTab.ca i) m f∧Binds K fd pn []
 | .fn i ps ds=>∃ (k:Nat) (f:Addr) (fd:FuncData) (pn:List Str),FnOk P w K mg base CX0 k f fd pn (spD K (F i))∧Room k A∧mg x=some (.ref f)∧PySem.W.keepIn K (.ref f)=true ∧
   ∀ m,m≤ds.length→∃ dvs us,(∀ ad H,Dens K ad H dvs (ds.drop m))∧Vals dvs us∧Binds K fd pn us
structure Cxt (X:Cx) (G:Gs) (F:Nat→Fn) (sc:Scope) (N:List Str):Prop where
 hN:X.N=N
 vis:∀ x,Wb sc x=true→Vis X.env.scope x
 glb:∀ x,ZN sc x=true→Gl X x
 calm:X.calm=true
 hu:X.A.units+64 < cLine
 gl:∀ x g,G.lookup x=some g→GOk X.prog X.w X.K X.mg X.base X.A F x g
 cel:∀ x,Vd sc x=true→X.env.scope.names.lookup x=some .cell∨X.env.scope.names.lookup x=some .free
 nx:X.xe=fun _ _=>False
theorem X1 {N:List Str}{x:Str}{i:Nat} (h:N.idxOf? x=some i):N[i]?=some x:=by
 unfold List.idxOf? at h
 rw [List.findIdx?_eq_some_iff_getElem] at h
 obtain ⟨hi,h1,_⟩:=h
 rw [List.getElem?_eq_getElem hi]
 rw [beq_iff_eq.mp h1]
theorem Us {sc:Scope}{x:Str} (h:Wb sc x=true):(x==("__debug__":Str))=false∧(x==("__classdict__":Str))=false:=by
 unfold Wb at h
 rw [Bool.and_eq_true,Bool.and_eq_true,Bool.not_eq_true',Bool.not_eq_true'] at h
 exact h.1
theorem Xt {sc:Scope}{x:Str} (h:ZN sc x=true):(x==("__debug__":Str))=false:=by
 unfold ZN at h
 rw [Bool.and_eq_true,Bool.not_eq_true'] at h
 exact h.1
section
variable {X:Cx}{F:Nat→Fn}
theorem ZhL {e:Expr}{f:Ev} (h:PE X e (tE X.K f)) (he:∀ whole,isTrue e X.env whole=(do let v ←whole; standAt e.pos; holding [v] (truthy v)):=by intro _; rfl):PT X e (tT X.K f):=Wu (pt_val h he) QR
theorem ZfJ {c a b:Expr}{fc fa fb:Ev}{pos:Pos} (hc:PT X c (tT X.K fc)) (ha:PT X a (tT X.K fa)) (hb:PT X b (tT X.K fb)):PT X (.IfExp c a b pos) (tT X.K (Xn fc fa fb)):=by
 intro pins s σ H Q I h
 obtain ⟨ad,ρ,st,d,st',E,S,e,p⟩:=h
 obtain ⟨k,st1,q,e⟩:=Yk e
 show wpAny _ _ (isTrue c X.env (eval c X.env) >>= fun t=>if t then isTrue a X.env (eval a X.env) else isTrue b X.env (eval b X.env)) _ _ s
 refine wpAny_bind (thn (hc pins s σ H (fun k' H1=>k'=k∧∃ ad1,Ext ad H ad1 H1∧StOk X.K ad1 H1 st1) I ⟨ad,ρ,st,k,st1,E,S,q,fun ad1 H1 x1 S1=>⟨rfl,ad1,x1,S1⟩⟩) fun t s1 ⟨H1,I1,et,ad1,x1,S1⟩=>?_)
 subst et
 cases t with
 | true=>
  rw [if_pos rfl] at e ⊢
  exact ha pins s1 σ H1 Q I1 ⟨ad1,ρ,st1,d,st',E.mono x1,S1,e,fun ad2 H2 x2 S2=>p ad2 H2 (x1.trans x2) S2⟩
 | false=>
  rw [if_neg Bool.false_ne_true] at e ⊢
  exact hb pins s1 σ H1 Q I1 ⟨ad1,ρ,st1,d,st',E.mono x1,S1,e,fun ad2 H2 x2 S2=>p ad2 H2 (x1.trans x2) S2⟩
noncomputable def JU:CE→Prop
 | .anil=>True
 | .acons _ _=>True
 | _=>False
theorem Uh {c:CE} (h:JU c) {ρ:Env}{st st':Za}{d:D} (e:ev F c ρ st=some (d,st')):∃ ds,d=.tup ds∧ds.length≤1000:=by
 cases c with
 | anil=>cases e; exact ⟨[],rfl,by decide⟩
 | acons a r=>
  have e:Yf (ev F a) (ev F r) Wx ρ st=some (d,st'):=e
  unfold Yf at e
  split at e
  ·split at e
   ·rename_i y st2 _
    cases y with
    | tup zs=>
     have e:(if zs.length < 1000 then some (D.tup (_ :: zs),st2) else none)=some (d,st'):=e
     split at e
     ·rename_i hz
      cases e
      exact ⟨_,rfl,hz⟩
     ·cases e
    | _=>simp [Wx] at e
   ·cases e
  ·cases e
 | _=>exact False.elim h
structure SE (X:Cx) (F:Nat→Fn) (e:Expr) (c:CE):Prop where
 pe:PE X e (tE X.K (ev F c))
 pt:PT X e (tT X.K (ev F c))
theorem SE.of {e:Expr}{c:CE} (h:PE X e (tE X.K (ev F c))) (he:∀ whole,isTrue e X.env whole=(do let v ←whole; standAt e.pos; holding [v] (truthy v)):=by intro _; rfl):SE X F e c:=⟨h,ZhL h he⟩
theorem Ql {op:BoolOp}{es:List Expr}{pos:Pos}{t:TT} (h:PT X (.BoolOp op es pos) t):PW X (.BoolOp op es pos) t:=fun _ pins s σ H Q I q=>h pins s σ H Q I q
end
section
variable {ad:List Addr}{H:Hp}{p:Addr}{o:HO}
end
section
variable {X:Cx}{F:Nat→Fn}{pos:Pos}{f:Expr→Option CE}
end
end Dp



namespace Dp
open PySem PySem.Spec PyProof.Rows L2
variable [ClsTab]
theorem UP:bootBuiltins "tuple"=some (.type "tuple"):=by decide +kernel
theorem Zc7:bootBuiltins "list"=some (.type "list"):=by decide +kernel
theorem Ze0:bootBuiltins "int"=some (.type "int"):=by decide +kernel
theorem Zc5:bootBuiltins "bool"=some (.type "bool"):=by decide +kernel
theorem Ze4:bootBuiltins "str"=some (.type "str"):=by decide +kernel
theorem Ze3:bootBuiltins "min"=some (.builtin "min"):=by decide +kernel
theorem Ze2:bootBuiltins "max"=some (.builtin "max"):=by decide +kernel
theorem VB:bootBuiltins "isinstance"=some (.builtin "isinstance"):=by decide +kernel
theorem Ze1:bootBuiltins "len"=some (.builtin "len"):=by decide +kernel
section
variable {G:Gs}{F:Nat→Fn}
noncomputable def ZF (G:Gs) (F:Nat→Fn) (n:Nat):Prop:=∀ X sc N,Cxt X G F sc N→∀ e c,cE G n sc N e=some c→SE X F e c
noncomputable def YY (G:Gs) (F:Nat→Fn) (n:Nat):Prop:=∀ X sc N,Cxt X G F sc N→∀ es c,cEs G n sc N es=some c→PA X es (tA X.K (ev F c))∧JU c∧es.all Zt=true∧(es=[]→c=.anil)
noncomputable def Ug (G:Gs) (F:Nat→Fn) (n:Nat):Prop:=∀ X sc N,Cxt X G F sc N→∀ e c,cO G n sc N e=some c→PO X e (tO X.K (ev F c))

theorem Zcx {X:Cx}{v:Const}{k:Nat}{pos:Pos}{c:CE} (h:CE.ofConst v=some c):SE X F (.Constant v k pos) c:=by
 cases v with
 | none=>cases h; exact .of (ZG pe_non (U3 fun _ _=>.non))
 | bool b=>cases h; exact .of (ZG pe_bl (U3 fun _ _=>.bl b))
 | int i=>cases h; exact .of (ZG pe_int (U3 fun _ _=>.int i))
 | str x=>cases h; exact .of (ZG pe_str (U3 fun _ _=>.str x))
 | _=>cases h
theorem Zed {X:Cx}{sc:Scope}{N:List Str}{x:Str}{pos:Pos}{c:CE} (K:Cxt X G F sc N)
  (h:ZbQ G sc N x=some c):SE X F (.Name x pos) c:=by
 unfold ZbQ at h
 split at h
 ·rename_i hl
  cases q:N.idxOf? x with
  | none=>rw [q] at h; cases h
  | some i=>
   rw [q] at h
   cases h
   obtain ⟨h1,h2⟩:=Us hl
   exact .of (ZG (pe_var (i:=i) (by rw [K.hN]; exact X1 q) (K.vis x hl) h1 h2) Zdz)
 ·split at h
  ·rename_i hg
   split at h
   ·rename_i d q
    cases h
    obtain ⟨v,u,hm,r,hd⟩:=K.gl x _ q
    exact .of (ZG (pe_glob (K.glb x hg) hm r (Xt hg)) (U3 hd))
   ·cases h
  ·cases h
theorem pa1 {X:Cx}{a:Expr}{t:TE} (hp:Zt a=true) (ha:PE X a t):PA X [a] (tCons t tNil):=pa_cons ha pa_nil (Zr hp)
theorem pa2 {X:Cx}{a b:Expr}{t u:TE} (hp:Zt a=true) (hq:Zt b=true) (ha:PE X a t) (hb:PE X b u):PA X [a,b] (tCons t (tCons u tNil)):=pa_cons ha (pa1 hq hb) (Zr hp)
theorem Zd6 {X:Cx}{sc:Scope}{N:List Str}{f:Str}{a:Expr}{x c:CE}{p pos:Pos} (K:Cxt X G F sc N) (hg:ZN sc f=true) (hm:X.mg f=none) (hp:Zt a=true) (A:PE X a (tE X.K (ev F x))) (h:ZeY f x=some c) :
  PE X (.Call (.Name f p) [a] [] pos) (tE X.K (ev F c)):=by 
 have hG:=K.glb f hg
 unfold ZeY at h
 split at h
 ·rename_i e; subst e; cases h
  exact ZG (pe_callB J5 hG hm Ze1 (pa1 hp A) (by decide) (by decide) (Zr hp) rfl) Vb
 ·split at h
  ·rename_i e; subst e; cases h
   exact ZG (pe_callTy UR hG hm UP (pa1 hp A) (by decide) (by decide) (Zr hp) rfl) Vb
  ·split at h
   ·rename_i e; subst e; cases h
    exact ZG (pe_callTy QK hG hm Zc7 (pa1 hp A) (by decide) (by decide) (Zr hp) rfl) Vb
   ·cases h
theorem V7 {F:Nat→Fn}{y:CE} (h:QU y=true) {ρ:Env}{st st':Za}{d:D} (e:ev F y ρ st=some (d,st')):st'=st:=by
 unfold QU at h
 split at h
 ·rename_i i j
  have e:Yf (Y6 i) (evC (.int j)) ixR ρ st=some (d,st'):=e
  unfold Yf at e
  split at e
  ·rename_i x st1 q1
   unfold Y6 at q1
   split at q1
   ·cases q1
    have e:ixR x (.int j) st=some (d,st'):=e
    unfold ixR at e
    split at e
    ·cases e; rfl
    ·cases e
   ·cases q1
  ·cases e
 ·have e:Y6 _ ρ st=some (d,st'):=e
  unfold Y6 at e
  split at e
  ·cases e; rfl
  ·cases e
 ·cases h
theorem QM {op:CmpOp}{x y d:D}{st st':Za} (h:WI op x y st=some (d,st')):∃ k,d=.bl k∧st'=st:=by
 unfold WI at h
 split at h
 ·cases h; exact ⟨_,rfl,rfl⟩
 ·cases h
theorem VY {K:PySem.W.Frag}{op op2:CmpOp}{fa fb fc:Ev} (hb:∀ ρ st st' d,fb ρ st=some (d,st')→st'=st) (σ:L2.St) (H:Hp) (Q:VK) (h:tE K (Xn (Yf fa fb (WI op)) (Yf fb fc (WI op2)) (evC (.bl false))) σ H Q) :
  tChain (rD K (WI op)) (rD K (WI op2)) (tE K fa) (tE K fb) (tE K fc) σ H Q:=by
 obtain ⟨ad,ρ,st,d,st',E,S,e,p⟩:=h
 obtain ⟨k,st1,q,e⟩:=Yk e
 unfold Yf at q
 split at q
 ·rename_i x s1 q1
  split at q
  ·rename_i y s2 q2
   have z:=hb _ _ _ _ q2
   subst z
   obtain ⟨k',ek,es⟩:=QM q
   subst es
   refine ⟨ad,ρ,st,x,_,E,S,q1,fun v1 ad1 H1 x1 S1 d1=>⟨ad1,ρ,_,y,_,E.mono x1,S1,q2,fun v2 ad2 H2 x2 S2 d2=>⟨ad2,_,x,y,.bl k,_,S2,d1.mono x2,d2,q,fun v3 ad3 H3 x3 S3 d3=>⟨k,d3.ofBl,?_⟩⟩⟩⟩
   cases k with
   | false=>
    rw [if_neg Bool.false_ne_true] at e ⊢
    cases e
    exact (p.later (x1.trans (x2.trans x3))).at S3 (.bl false)
   | true=>
    rw [if_pos rfl] at e ⊢
    unfold Yf at e
    rw [q2] at e
    split at e
    ·rename_i y' s3 qq
     cases qq
     split at e
     ·rename_i z s4 q4
      exact ⟨ad3,ρ,_,z,s4,E.mono (x1.trans (x2.trans x3)),S3,q4,fun v4 ad4 H4 x4 S4 d4=>⟨ad4,s4,y,z,d,st',S4,d2.mono (x3.trans x4),d4,e,p.later (x1.trans (x2.trans (x3.trans x4)))⟩⟩
     ·cases e
    ·cases e
  ·cases q
 ·cases q
theorem ZeX {X:Cx}{b:Expr}{pos:Pos} (hq:Zt b=true):(backTo pos (starEach [b] X.env)).any (·.1)=false:=Y3 (by rw [List.all_cons,hq]; rfl)
theorem Zd7 {X:Cx}{sc:Scope}{N:List Str}{f:Str}{a b:Expr}{x y c:CE}{p pos:Pos} (K:Cxt X G F sc N) (hg:ZN sc f=true) (hm:X.mg f=none) (hp:Zt a=true) (hq:Zt b=true) (A:PE X a (tE X.K (ev F x))) (B:PE X b (tE X.K (ev F y)))
  (h:ZeZ f x y=some c):PE X (.Call (.Name f p) [a,b] [] pos) (tE X.K (ev F c)):=by
 have hG:=K.glb f hg
 unfold ZeZ at h
 split at h
 ·rename_i e; subst e; cases h
  exact ZG (pe_callB (J7 K.calm) hG hm Ze3 (pa2 hp hq A B) (by decide) (by decide) (Zr hp) (ZeX hq)) U2
 ·split at h
  ·rename_i e; subst e; cases h
   exact ZG (pe_callB (J6 K.calm) hG hm Ze2 (pa2 hp hq A B) (by decide) (by decide) (Zr hp) (ZeX hq)) U2
  ·cases h
theorem Zdp {K:PySem.W.Frag}{T:Ty}{fa:Ev} (σ:L2.St) (H:Hp) (Q:VK) (h:tE K (Yb fa (Zak T)) σ H Q) :
  tCB (fun vs H Q=>∃ v,vs=[v,.ty (tyN T)]∧rC K (on1 (Zak T)) [v] H Q) (tCons (tE K fa) (tCons (tC (.ty (tyN T))) tNil)) σ H Q:=by
 obtain ⟨ad,ρ,st,d,st',E,S,e,p⟩:=h
 unfold Yb at e
 split at e
 ·rename_i x st1 q1
  exact ⟨ad,ρ,st,x,st1,E,S,q1,fun v1 ad1 H1 x1 S1 d1=>⟨v1,rfl,ad1,st1,[x],d,st',S1,.cons d1 .nil,e,p.later x1⟩⟩
 ·cases e
theorem ZcF {X:Cx}{sc:Scope}{N:List Str}{b:Expr}{T:Ty} (K:Cxt X G F sc N) (h:JQ G sc b=some T):Zt b=true∧PE X b (tC (.ty (tyN T))):=by
 cases b with
 | Name t p=>
  have h2:Zgq G sc t=some T:=h
  clear h
  unfold Zgq at h2
  split at h2
  ·rename_i hg
   rw [Bool.and_eq_true] at hg
   have hm:X.mg t=none:=by
    have z:=hg.2
    unfold WA at z
    split at z
    ·rename_i q; exact K.gl t _ q
    ·cases z
   have hG:=K.glb t hg.1
   refine ⟨rfl,?_⟩
   unfold Zh0 at h2
   split at h2
   ·rename_i e; subst e; cases h2
    exact pe_bltn hG hm Ze0 rfl
   ·split at h2
    ·rename_i e; subst e; cases h2
     exact pe_bltn hG hm Zc5 rfl
    ·split at h2
     ·rename_i e; subst e; cases h2
      exact pe_bltn hG hm Ze4 rfl
     ·split at h2
      ·rename_i e; subst e; cases h2
       exact pe_bltn hG hm UP rfl
      ·cases h2
  ·cases h2
 | _=>simp [JQ] at h
theorem Zf7 {X:Cx}{sc:Scope}{N:List Str}{a b:Expr}{x:CE}{T:Ty}{p pos:Pos} (K:Cxt X G F sc N) (hg:ZN sc "isinstance"=true) (hm:X.mg "isinstance"=none) (hp:Zt a=true) (A:PE X a (tE X.K (ev F x))) (hT:JQ G sc b=some T) :
  PE X (.Call (.Name "isinstance" p) [a,b] [] pos) (tE X.K (ev F (.isi T x))):=by
 obtain ⟨hq,B⟩:=ZcF K hT
 exact ZG (pe_callB (ZaT (T:=T)) (K.glb _ hg) hm VB (pa2 hp hq A B) (by decide) (by decide) (Zr hp) (ZeX hq)) Zdp
theorem Zd9 {X:Cx}{sc:Scope}{N:List Str}{f:Str}{as:List Expr}{cs:CE}{i ps:Nat}{ds:List D}{p pos:Pos} (K:Cxt X G F sc N) (hg:ZN sc f=true) (hG:G.lookup f=some (.fn i ps ds)) (hl:as.length≤ps∧ps≤as.length+ds.length)
  (A:PA X as (tA X.K (ev F cs))∧JU cs∧as.all Zt=true∧(as=[]→cs=.anil)):PE X (.Call (.Name f p) as [] pos) (tE X.K (ev F (.call i cs (ds.drop (as.length+ds.length - ps))))):=by
 obtain ⟨k,fa,fd,pn,Fk,hr,hm,hk,hb⟩:=K.gl f _ hG
 obtain ⟨dvs,us,hd,hv,hbn⟩:=hb (as.length+ds.length - ps) (by omega)
 obtain ⟨PAs,_,hp,hn⟩:=A
 cases as with
 | nil=>
  refine ZG (pe_call0 (E:=E0) Fk hr (K.glb f hg) hm hk hbn hv pass0 (Xt hg)) fun σ H Q h=>?_
  rw [hn rfl] at h
  exact U1 σ H _ (U4 (E:=E0) hd σ H Q h)
 | cons e es=>
  rw [List.all_cons,Bool.and_eq_true] at hp
  exact ZG (pe_call (E:=E0) Fk hr (K.glb f hg) hm hk hbn hv pass0 PAs (Xt hg) (Zr hp.1) (Y3 hp.2)) (U4 hd)
theorem Zf5 {X:Cx}{sc:Scope}{N:List Str}{a b e:Expr}{x y:CE}{op:CmpOp}{ng:Bool}{pos:Pos} (K:Cxt X G F sc N) (hb:Ya G sc b=some e) (hg:Zfp op=some ng) (hp:Zt e=true) (A:PE X a (tE X.K (ev F x))) (B:PE X e (tE X.K (ev F y))):SE X F (.Compare a [op] [b] pos) (.inR ng x y):=by cases hg
theorem Zgb {X:Cx}{sc:Scope}{N:List Str}{f:Str}{a e:Expr}{o:Option CE}{c:CE}{p pos:Pos} (K:Cxt X G F sc N) (hg:ZN sc f=true) (hm:X.mg f=none) (hb:Jj G sc f a=some e) (B:∀ c,o=some c→Zt e=true∧PE X e (tE X.K (ev F c))) (h:o.map CE.tupR=some c):SE X F (.Call (.Name f p) [a] [] pos) c:=by cases hb
noncomputable def rLk (K:PySem.W.Frag) (A:Addr) (ks:List Str) (ds:List D):R2:=fun x y H Q=>x=.ref A∧∃ k d,y=.str k∧ZS ks ds k=some d∧∀ v,(∀ ad H,Den K ad H v d)→Q v H
theorem Zg5 {X:Cx}{A:Addr}{o:Obj}{es:Array DictEntry}{ep:Nat}{ks:List Str}{ds:List D} (lk:X.K.lookup A=some o) (ex:o.ExactDict) (hd:o.data=.dict es ep) (hm:(A==sysModules)=false) (nd:ks.Nodup) (eo:EsOk X.w.params X.K es.toList ks ds):IxR X (rLk X.K A ks ds):=by
 intro value slice pins s σ H x y v u Q I rx ry h hs
 obtain ⟨rfl,k,d,rfl,he,q⟩:=h
 cases rx
 obtain ⟨kvs,pr,kn,kk,val⟩:=eo.open (P:=X.prog)
 have dd:s.heap.DictOf (mixKind X.prog X.w) A kvs:=by
  refine ⟨o,es,ep,I.kIn A o lk,ex,hd,fun e he=>kk e (by simpa using he),pr,?_⟩
  rw [kn]
  exact List.pairwise_map.mpr (nd.imp fun h z=>h (Sum.inr.inj z))
 obtain ⟨w,z,hw,rw',dn⟩:=val k d he
 exact tail_any dd.typeIs PySem.F.slot_dict_getitem.lookup (wpAny_getItem_of (kV_is (k:=Sum.inr k) ry) dd.mapOf hw ⟨z,H,I.tok _,rw',q z dn⟩) hs
theorem Zbk {K:PySem.W.Frag}{A:Addr}{ks:List Str}{ds:List D}{fa:Ev} (σ:L2.St) (H:Hp) (Q:VK) (h:tE K (Yb fa (V1 ks ds)) σ H Q):tOp (rLk K A ks ds) (tC (.ref A)) (tE K fa) σ H Q:=by
 obtain ⟨ad,ρ,st,d,st',E,S,e,p⟩:=h
 unfold Yb at e
 split at e
 ·rename_i x st1 q1
  unfold V1 at e
  split at e
  ·rename_i k
   split at e
   ·rename_i d' hl
    cases e
    exact ⟨ad,ρ,st,.str k,_,E,S,q1,fun v ad1 H1 x1 S1 d1=>⟨rfl,k,d,d1.ofStr,hl,fun w dn=>p w ad1 H1 x1 S1 (dn ad1 H1)⟩⟩
   ·cases e
  ·cases e
 ·cases e
theorem Zeb {X:Cx}{sc:Scope}{N:List Str}{f:Str}{a u v:Expr}{x y:CE}{p pos:Pos} (K:Cxt X G F sc N) (hg:ZN sc f=true) (hm:X.mg f=none) (hb:Q0 G sc f a=some (u,v)) (hu:Zt u=true) (hv:Zt v=true) (A:PE X u (tE X.K (ev F x))) (B:PE X v (tE X.K (ev F y))):PE X (.Call (.Name f p) [a] [] pos) (tE X.K (ev F (.lstR x y))):=by cases hb
theorem Zea {X:Cx}{sc:Scope}{N:List Str}{a b:Expr}{y:CE}{ks:List Str}{ds:List D}{pos:Pos} (K:Cxt X G F sc N) (hn:JD G sc a=some (ks,ds)) (hp:Zt b=true) (B:PE X b (tE X.K (ev F y))):PE X (.Subscript a b pos) (tE X.K (ev F (.look ks ds y))):=by
 unfold JD at hn
 split at hn
 ·split at hn
  ·rename_i hg
   split at hn
   ·rename_i q
    cases hn
    obtain ⟨A,o,es,ep,hm,lk,ex,hd,hs,nd,eo⟩:=K.gl _ _ q
    exact ZG (pe_ix (Zg5 lk ex hd hs nd eo) (pe_glob (K.glb _ hg) hm (show RelV (.ref A) (.ref A) from rfl) (Xt hg)) B (U9 hp)) Zbk
   ·cases hn
  ·cases hn
 ·cases hn
theorem ZbB {prog:Program}{w:World}{A:Around}{K:PySem.W.Frag}{C:Addr}{s:Shared}{R:Result→Shared→Prop} (X:K.In s.heap) (hm:PySem.W.makesIn K C=true) (hi:PySem.W.findIn K (.ref C) "__init__"=some (some (.builtin "object.__init__")))
  (h:R (.ok (.ret (.ref (s.heap.objs.size+1)))) { s with heap:=(s.heap.push PySem.W.emptyDict).push (PySem.W.instObj C s.heap.objs.size) }):codeAny (model prog w) A (.call (.ref C) ⟨[],[]⟩) R s:=by
 obtain ⟨hh,g,d,t,os⟩:=s
 have Y:=PySem.W.makes_of (M:=model prog w) X hm
 have hx:((hh.push PySem.W.emptyDict).push (PySem.W.instObj C hh.objs.size)).get? (hh.objs.size+1)=some (PySem.W.instObj C hh.objs.size):=by
  have:=Heap.get?_push_size (hh.push PySem.W.emptyDict) (o:=PySem.W.instObj C hh.objs.size) rfl
  rwa [Heap.size_push] at this
 refine PySem.W.make_core Y (PySem.W.looks_findIn X hi) (fun self=>PySem.W.Looks.of_pure (PySem.W.oi_bind self)) (.inr ⟨rfl,rfl⟩) ?_
 have t1:PySem.W.Looks (model prog w) ((hh.push PySem.W.emptyDict).push (PySem.W.instObj C hh.objs.size)) (typeOf (.ref (hh.objs.size+1))) (.ref C):=(PySem.W.Looks.ld hx).andThen .now
 have t2:PySem.W.Looks (model prog w) ((hh.push PySem.W.emptyDict).push (PySem.W.instObj C hh.objs.size)) (isInstance (.ref (hh.objs.size+1)) (.type "object")) true:=t1.andThen (Y.top.keeps fun b o e=>Heap.get?_push_of_some _ (Heap.get?_push_of_some _ e))
 refine codeAny_call_builtin PySem.W.oi_plain PySem.W.entry_oi (@PySem.W.check_slot (model prog w) _ _ _ "object.__init__" "object" "__init__" (.ref (hh.objs.size+1)) [] [] _ PySem.W.oi_kind PySem.W.oi_split t2 (PySem.W.oi_args (.ref (hh.objs.size+1))) ?_)
 rw [PySem.W.oi_run]
 exact wpAny_pure (And.intro rfl h)
theorem Za7 {X:Cx}{pins:List (Addr×Obj)}{σ:L2.St}{H:Hp}{s:Shared}{ad:List Addr}{st:Za} (I:L2.Inv X pins σ H s) (S:StOk X.K ad H st) {a:Addr} (h:s.heap.objs.size≤a):a∉ad:=fun hm=>by
 obtain ⟨i,hi⟩:=List.getElem?_of_mem hm
 have hl:i < st.length:=by rw [←S.len]; exact (List.getElem?_eq_some_iff.mp hi).1
 obtain ⟨a',h1,xs,_,q⟩:=S.cell i _ (List.getElem?_eq_getElem hl)
 rw [hi] at h1; cases h1
 have hn:H a=none:=I.hok.fresh h
 rcases q with ⟨_,q⟩ | ⟨_,⟨o,q⟩ | ⟨o,_,_,⟨q,_⟩,_⟩⟩
 ·rw [hn] at q; cases q
 ·rw [hn] at q; cases q
 ·exact absurd (Heap.lt_size (I.kIn a o q)) (Nat.not_lt.mpr h)
theorem Zf8 {X:Cx}{sc:Scope}{N:List Str}{f:Str}{i:Nat}{ms:List (Str×Nat×Nat)}{subs:List Nat}{p pos:Pos} (K:Cxt X G F sc N) (hg:ZN sc f=true) (hG:G.lookup f=some (.cls i ms subs)):PE X (.Call (.Name f p) [] [] pos) (tE X.K (ev F (.new i))):=by
 obtain ⟨hm,nw,_,_⟩:=K.gl f _ hG
 intro pins s σ H Q I h
 obtain ⟨ad,ρ,st,d,st',E,S,e,q⟩:=h
 have e:some (D.obj i,st)=some (d,st'):=e
 cases e
 refine wpAny_Call_Name_kw (ld_glob I (K.glb f hg) hm ?_ (Xt hg))
 refine PySem.W.callWith_K0 I.kIn nw.kp (wpAny_call (ZbB I.kIn nw.makes nw.init ?_))
 have h1:H s.heap.objs.size=none:=I.hok.fresh (Nat.le_refl _)
 have h2:upd H s.heap.objs.size (.own (s.heap.objs.size+1)) (s.heap.objs.size+1)=none:=by
  rw [upd_ne (Nat.ne_of_gt (Nat.lt_succ_self _))]
  exact I.hok.fresh (Nat.le_succ _)
 exact ⟨.ref (s.heap.objs.size+1),_,I.made,rfl,q _ ad _ ((Ext.laid h1).trans (Ext.laid h2)) ((S.laid h1).laid h2) (.obj upd_same (Za7 I S (Nat.le_succ _)))⟩
theorem Zf6 {X:Cx}{sc:Scope}{N:List Str}{a b:Expr}{x:CE}{l:List Nat}{p pos:Pos} (K:Cxt X G F sc N) (hg:ZN sc "isinstance"=true) (hm:X.mg "isinstance"=none) (hp:Zt a=true) (A:PE X a (tE X.K (ev F x))) (hT:QL G sc b=some l) :
  PE X (.Call (.Name "isinstance" p) [a,b] [] pos) (tE X.K (ev F (.isc l x))):=by cases hT
theorem Zg7 {α:Type}:∀ {us:List α},us.length=1→∃ a,us=[a]
 | [a],_=>⟨a,rfl⟩
theorem VV {pos:Pos}{env:PySem.Env}{as:List Expr} (h:as.all Zt=true) (hl:as.length < 20):((backTo pos (starEach as env)).all (fun x=>!x.1)&&(backToKw pos (keywordEach [] env)).all (fun x=>x.1.isSome)
  &&decide (as.length+([]:List Keyword).length+(if ([]:List Keyword).isEmpty then 0 else 1) < 30))=true:=by
 have a:=Y3 (pos:=pos) (env:=env) h
 have b:(backTo pos (starEach as env)).all (fun x=>!x.1)=true:=by
  rw [List.all_eq_true]
  intro x hx
  have:=List.any_eq_false.mp a x hx
  simpa using this
 rw [b,decide_eq_true (show as.length+([]:List Keyword).length+(if ([]:List Keyword).isEmpty then 0 else 1) < 30 by simp; omega)]
 rfl
theorem ZdJ {X:Cx}{o:Expr}{name:Str}{apos pos:Pos}{args:List Expr}{Q:Value→Shared→Prop}{s:Shared} (hbase:attributeBase o name X.env (eval o X.env)=eval o X.env)
  (hfew:((backTo pos (starEach args X.env)).all (fun x=>!x.1)&&(backToKw pos (keywordEach [] X.env)).all (fun x=>x.1.isSome)&&decide (args.length+([]:List Keyword).length+(if ([]:List Keyword).isEmpty then 0 else 1) < 30))=true) (hline:(apos.endLine==pos.line)=true)
  (h:wpAny (model X.prog X.w) X.A (eval o X.env) (fun ov s₁=>∀ pl,wpAny (model X.prog X.w) X.A (getMethod ov name pl) (fun fx s₂=>wpAny (model X.prog X.w) X.A (callWith pos fx.1 fx.2 (backTo pos (starEach args X.env)) (backToKw pos (keywordEach [] X.env))) Q X.xe s₂) X.xe s₁) X.xe s) :
  wpAny (model X.prog X.w) X.A (eval (.Call (.Attribute o name apos) args [] pos) X.env) Q X.xe s:=by
 rw [arm_eval_Call,hbase]
 refine wpAny_bind (wpAny_mono h (fun ov s₁ h₁=>?_) fun _ _ e=>e)
 refine wpAny_bind (wpAny_standAt ?_)
 have hform:methodCallForm (args.length+([]:List Keyword).length) (backTo pos (starEach args X.env)) (backToKw pos (keywordEach [] X.env))=true:=hfew
 have hpos:methodCallPos true o X.env apos pos=pure pos:=by unfold methodCallPos; simp [hline]
 unfold methodCall
 rw [hform]
 refine wpAny_bind (wpAny_holding ?_)
 exact wpAny_mono (h₁ _) (fun fx s₂ h₂=>wpAny_bind (wpAny_of_eq hpos h₂)) fun _ _ e=>e
theorem Zgo {m:Str}{k i j:Nat} (h:(XH m k G).lookup i=some j):∃ x ms subs,G.lookup x=some (.cls i ms subs)∧ms.lookup m=some (j,k+1):=by
 have hm:(i,j)∈XH m k G:=by
  generalize XH m k G=l at h
  induction l with
  | nil=>cases h
  | cons p l ih=>
   obtain ⟨a,b⟩:=p
   rw [List.lookup_cons] at h
   split at h
   ·rename_i z
    cases h
    rw [beq_iff_eq.mp z]
    exact List.mem_cons_self
   ·exact List.mem_cons_of_mem _ (ih h)
 obtain ⟨x,_,hx⟩:=List.mem_filterMap.mp hm
 unfold ZeE at hx
 split at hx
 ·rename_i i' ms subs q
  split at hx
  ·rename_i j' ps q2
   split at hx
   ·rename_i e
    subst e
    cases hx
    exact ⟨x,ms,subs,q,q2⟩
   ·cases hx
  ·cases hx
 ·cases hx
section
open PySem.SeqAt PySem.MeetsSeq PySem.MeetsSeq2 PySem.MeetsSeq3 PySem.SeqRoads2
theorem U0 {prog:Program}{w:World}{A:Around}{E:Value→Shared→Prop}{s:Shared}{items:Array Value}{x:Value}{e:Value→Bool}{j:Nat} (hj:j < items.size)
  (hit:e items[j]=true) (hno:∀ m (hm:m < items.size),m < j→e items[m]=false) (he:∀ y,y∈items→EqAt A s y x (e y)):∀ (k i:Nat) (Q:Option Fin×Unit→Shared→Prop),i≤j→i+k=items.size→Q (some (.done (.ret (.int j s.toks))),()) { s with toks:=s.toks+1 }→
  wpAny (model prog w) A (forIn (List.range' i k) ((none,()):Option Fin×Unit) fun (i:Nat) __s=>
      match items[i]? with
      | some y=>do
       let __do_lift ←eqBool y x
       if __do_lift=true then do
         let __do_lift ←retInt (i:Int)
         pure (ForInStep.done (some __do_lift,()))
        else pure (ForInStep.yield (none,()))
      | x=>pure (ForInStep.yield (none,()))) Q E s
 | 0,i,Q,h1,h2,_=>by omega
 | k+1,i,Q,h1,h2,hQ=>by
  have hlt:i < items.size:=by omega
  rw [List.range'_succ,List.forIn_cons]
  refine wpAny_bind ?_
  rw [Array.getElem?_eq_getElem hlt]
  refine wpAny_bind (he _ (Array.getElem_mem hlt) prog w _ _ ?_)
  by_cases hij:i=j
  ·subst hij
   rw [hit]
   wp_walk
   exact hQ
  ·rw [hno i hlt (by omega)]
   wp_walk
   exact U0 hj hit hno he k (i+1) Q (by omega) (by omega) hQ
theorem VI (l:Addr) (items:Array Value) (n:Nat) (o:Obj) (x:Value) (e:Value→Bool) (j:Nat) (hj:j < items.size)
  (hit:e items[j]=true) (hno:∀ m (hm:m < items.size),m < j→e items[m]=false) (hd:o.data=.seq items n) :
  Meets (Builtin.«tuple.index» ⟨[.ref l,x],[]⟩)
   (fun A R s=>s.heap.get? l=some o∧(∀ y,y∈items→EqAt A.in1 s y x (e y))∧R (.ok (.ret (.int j s.toks))) { s with toks:=s.toks+1 }):=by
 refine .of_wp fun prog w A R s h=>?_
 obtain ⟨hp,g,d,tk,os⟩:=s; obtain ⟨hl,he,h⟩:=h
 obtain ⟨oc,od,dt,osl⟩:=o
 cases hd
 unfold Builtin.«tuple.index»
 simp only [Std.Legacy.Range.forIn_eq_forIn_range',Std.Legacy.Range.size,Nat.sub_zero,Nat.add_sub_cancel,Nat.div_one]
 wp_walk using wpAny_loadPart' hl
 refine U0 hj hit hno he (min items.size items.size - 0) 0 _ (Nat.zero_le _) (by simp) ?_
 exact wpAny_pure ⟨_,rfl,h⟩
end
theorem Za9 {k:Str}{tk:Tok}{i:Nat}:∀ {ks:List Str}{us:List Value},Vals (ks.map V.str) us→Uk k ks=some i→∃ h:i < us.length,(fun y:Value=>match y with
   | .str a _=>a==k
   | _=>false) us[i]=true∧∀ m (hm:m < us.length),m < i→(fun y:Value=>match y with
   | .str a _=>a==k
   | _=>false) us[m]=false:=by
 intro ks
 induction ks generalizing i with
 | nil=>intro us _ h; cases h
 | cons a ks ih=>
  intro us r h
  cases r with
  | @cons v u vs us' r1 r2=>
   obtain ⟨t,rfl⟩:=r1
   have h:(if a=k then some 0 else (Uk k ks).map (·+1))=some i:=h
   split at h
   ·rename_i e
    cases h
    refine ⟨by simp,by simpa using e,fun m _ hm=>absurd hm (Nat.not_lt_zero m)⟩
   ·rename_i e
    cases q:Uk k ks with
    | none=>rw [q] at h; cases h
    | some i'=>
     rw [q] at h
     cases h
     obtain ⟨h1,h2,h3⟩:=ih r2 q
     refine ⟨by simpa using h1,by simpa using h2,fun m hm hl=>?_⟩
     cases m with
     | zero=>simpa using e
     | succ m=>
      have hl:m+1 < i'+1:=hl
      simpa using h3 m (by simpa using hm) (by omega)
theorem ZaL {ks:List Str}{us:List Value} (r:Vals (ks.map V.str) us):∀ y∈us,∃ a t,y=.str a t:=by
 induction ks generalizing us with
 | nil=>cases r; intro y hy; exact nomatch hy
 | cons a ks ih=>
  cases r with
  | @cons v u vs us' r1 r2=>
   intro y hy
   rcases List.mem_cons.mp hy with rfl | hy
   ·obtain ⟨t,rfl⟩:=r1; exact ⟨a,t,rfl⟩
   ·exact ih r2 y hy
theorem Zga {X:Cx}{sc:Scope}{N:List Str}{y:Str}{yp ap cp:Pos}{as:List Expr}{x cs:CE} (K:Cxt X G F sc N) (hline:(ap.endLine==cp.line)=true) (hlen:as.length=1) (B:PE X (.Name y yp) (tE X.K (ev F x)))
  (A:PA X as (tA X.K (ev F cs))∧JU cs∧as.all Zt=true∧(as=[]→cs=.anil)):PE X (.Call (.Attribute (.Name y yp) "index" ap) as [] cp) (tE X.K (ev F (.tix x cs))):=by
 obtain ⟨PAs,_,hp,_⟩:=A
 obtain ⟨e0,rfl⟩:=Zg7 hlen
 intro pins s σ H Q I h
 obtain ⟨ad,ρ,st,d,st',E,S,e,p⟩:=h
 replace e:Yf (ev F x) (ev F cs) Zeq ρ st=some (d,st'):=e
 unfold Yf at e
 split at e
 ·rename_i dx st1 q1
  split at e
  ·rename_i dy st2 q2
   unfold Zeq at e
   split at e
   ·rename_i ks k
    split at e
    ·rename_i i hi
     cases e
     rw [List.all_cons,Bool.and_eq_true] at hp
     refine wpAny_Call_method_late rfl (VV (by rw [List.all_cons,hp.1]; rfl) (by simp)) hline rfl (thn (B pins s σ H (fun v H1=>∃ ad1,Ext ad H ad1 H1∧StOk X.K ad1 H1 st1∧Den X.K ad1 H1 v (.kt ks)) I ⟨ad,ρ,st,.kt ks,st1,E,S,q1,fun v ad1 H1 x1 S1 d1=>⟨ad1,x1,S1,d1⟩⟩) fun u s1 ⟨v,H1,I1,rv,ad1,x1,S1,d1⟩=>?_)
     obtain ⟨a,o,its,n,rfl,h1,h2,h3,h4,h5⟩:=d1.ofKt
     cases (show u=Value.ref a from rv)
     have ga:s1.heap.get? a=some o:=I1.kIn a o h1
     refine ⟨"tuple", "tuple.index",PySem.F.plainAttrs_tuple,PySem.F.slot_tuple_index,PySem.F.type_tuple_index,⟨o,ga,h2.1⟩,fun b eb=>by cases eb; exact ⟨o,ga,h2.2⟩,?_⟩
     have hA:=PAs cp pins s1 σ H1 (fun vs H2=>∃ ad2,Ext ad1 H1 ad2 H2∧StOk X.K ad2 H2 st'∧Dens X.K ad2 H2 vs [.str k]) I1 ⟨ad1,ρ,st1,[.str k],st',E.mono x1,S1,q2,fun vs ad2 H2 x2 S2 d2=>⟨ad2,x2,S2,d2⟩⟩
     rw [Zr hp.1] at hA ⊢
     refine Calls.callWith_builtin rfl (Calls.evalArgs_plain (thn hA fun us s2 ⟨vs,H2,I2,r2,ad2,x2,S2,d2⟩=>?_))
     obtain ⟨w,rfl,dw⟩:=UU d2
     cases dw
     obtain ⟨u1,rfl,tu,rfl⟩:=r2.one
     have ga2:s2.heap.get? a=some o:=I2.kIn a o h1
     obtain ⟨hj,hit,hno⟩:=Za9 (k:=k) (tk:=tu) h5 hi
     have sz:its.toList.length=its.size:=Array.length_toList
     refine call_meets PySem.F.slot_tuple_index ⟨o,ga2,h2.1⟩ PySem.F.entry_tuple_index (PySem.F.args_tuple_index_2 _ _) (VI a its n o (.str k tu) (fun y:Value=>match y with
      | .str a _=>a==k
      | _=>false) i (by rw [←sz]; exact hj) (by simpa using hit) (fun m hm hl=>by
      have z:=hno m (by rw [sz]; exact hm) hl
      simp only [Array.getElem_toList] at z
      exact z) h3) ⟨ga2,fun y hy=>?_,?_⟩
     ·obtain ⟨b,t,rfl⟩:=ZaL h5 y (by simpa using hy)
      exact PySem.SeqAt.EqAt.str_str b t k tu
     ·exact ⟨.int (i:Int),H2,I2.tok _,⟨_,rfl⟩,p.later (x1.trans x2) _ ad2 H2 (Ext.refl _ _) S2 (.int _)⟩
    ·cases e
   ·cases e
  ·cases e
 ·cases e
theorem Zec {X:Cx}{sc:Scope}{N:List Str}{y m:Str}{yp ap cp:Pos}{as:List Expr}{x cs:CE} (K:Cxt X G F sc N) (hline:(ap.endLine==cp.line)=true) (hlen:as.length < 20) (B:PE X (.Name y yp) (tE X.K (ev F x)))
  (A:PA X as (tA X.K (ev F cs))∧JU cs∧as.all Zt=true∧(as=[]→cs=.anil)):PE X (.Call (.Attribute (.Name y yp) m ap) as [] cp) (tE X.K (ev F (.meth (XH m as.length G) x cs))):=by
 obtain ⟨PAs,_,hp,hn⟩:=A
 intro pins s σ H Q I h
 obtain ⟨ad,ρ,st,d,st',E,S,e,p⟩:=h
 replace e:Yf (ev F x) (ev F cs) (JF F (XH m as.length G)) ρ st=some (d,st'):=e
 unfold Yf at e
 split at e
 ·rename_i dx st1 q1
  split at e
  ·rename_i dy st2 q2
   unfold JF at e
   split at e
   ·rename_i i xs
    split at e
    ·rename_i j hj
     obtain ⟨cx,ms,subs,hG,hl⟩:=Zgo hj
     obtain ⟨_,nw,_,hms⟩:=K.gl cx _ hG
     obtain ⟨k,f,fd,pn,Fk,hr,hme,hb⟩:=hms m j _ hl
     refine ZdJ rfl (VV hp hlen) hline (thn (B pins s σ H (fun v H1=>∃ ad1,Ext ad H ad1 H1∧StOk X.K ad1 H1 st1∧Den X.K ad1 H1 v (.obj i)) I ⟨ad,ρ,st,.obj i,st1,E,S,q1,fun v ad1 H1 x1 S1 d1=>⟨ad1,x1,S1,d1⟩⟩) fun u s1 ⟨v,H1,I1,rv,ad1,x1,S1,d1⟩ pl=>?_)
     obtain ⟨a,dx,rfl,ha⟩:=d1.ofObj
     cases (show u=Value.ref a from rv)
     refine getmeth_ok I1 ha nw.cl hme rfl ?_
     cases as with
     | nil=>
      have hc:=hn rfl
      subst hc
      have q2:some (D.tup [],st1)=some (.tup xs,st2):=q2
      cases q2
      exact PySem.W.callWith_K0 (first:=[.ref a]) I1.kIn hme.kp (run_fn (us:=[.ref a]) (vs:=[.ref a]) (E:=E0) Fk hr hb .nil pass0 I1 (.cons rfl .nil) ⟨ad1,[.obj i],st1,d,st',S1,.cons d1 .nil,e,p.later x1⟩)
     | cons e0 es=>
      rw [List.all_cons,Bool.and_eq_true] at hp
      refine PySem.W.callWith_K (first:=[.ref a]) (h₀:=X.base) I.ok.mod.kin hme.kp (thn (PAs cp pins s1 σ H1 _ I1 ⟨ad1,ρ,st1,xs,st2,E.mono x1,S1,q2,fun vs ad2 H2 x2 S2 d2=>(show (fun vs H2=>∃ ad2,Ext ad1 H1 ad2 H2∧StOk X.K ad2 H2 st2∧Dens X.K ad2 H2 vs xs) vs H2 from ⟨ad2,x2,S2,d2⟩)⟩) fun us s2 ⟨vs,H2,I2,r,ad2,x2,S2,d2⟩=>⟨I2.kIn,?_⟩) (Zr hp.1) (Y3 hp.2)
      refine run_fn (us:=.ref a :: us) (vs:=.ref a :: vs) (E:=E0) Fk hr hb .nil pass0 I2 (.cons rfl r) ?_
      rw [List.append_nil]
      exact ⟨ad2,.obj i :: xs,st2,d,st',S2,.cons (d1.mono x2) d2,e,p.later (x1.trans x2)⟩
    ·cases e
   ·cases e
  ·cases e
 ·cases e
theorem Jd {b:Expr}{p:Option Expr×Option Expr} (q:WV b=some p):∃ p2,b=.Slice p.1 p.2 none p2:=by
 unfold WV at q
 split at q
 ·cases q; exact ⟨_,rfl⟩
 ·cases q
theorem ZhR {X:Cx}{op:UnaryOp}{a:Expr}{o:Option CE}{c:CE}{pos:Pos} (A:∀ x,o=some x→SE X F a x) (h:unC op o=some c):SE X F (.UnaryOp op a pos) c:=by
 cases op with
 | Not=>exact Uw (P:=SE X F _) (show o.map CE.not=some c from h) fun x hx=>⟨ZG (pe_not (A x hx).pe) Zbm,Wu (pt_not (A x hx).pt) Zbl⟩
 | USub=>exact Uw (P:=SE X F _) (show o.map CE.neg=some c from h) fun x hx=>.of (ZG (pe_un Zet (A x hx).pe) Zfo)
 | _=>cases h
section
variable {X:Cx}{sc:Scope}{N:List Str}{n:Nat}{c:CE} (K:Cxt X G F sc N) (hf:∀ e c,cE G n sc N e=some c→SE X F e c)
include K hf
theorem Zf4 {a:Expr}{ops:List CmpOp}{bs:List Expr}{pos:Pos} (h:ZgU G sc (cE G n sc N) (cE G n sc N a) ops bs=some c):SE X F (.Compare a ops bs pos) c:=by
 cases ops with
 | nil=>cases h
 | cons op ops=>cases bs with
  | nil=>cases ops with
   | nil=>cases h
   | cons _ r=>cases r<;>cases h
  | cons b bs=>cases ops with
   | nil=>cases bs with
    | cons _ _=>cases h
    | nil=>
     replace h:(match Ya G sc b with
      | some e=>o3 CE.inR (Zfp op) (cE G n sc N a) (cE G n sc N e)
      | none=>o2 (CE.cmp op) (cE G n sc N a) (cE G n sc N b))=some c:=h
     cases he:Ya G sc b with
     | some e=>
      rw [he] at h
      exact WK (P:=SE X F _) h fun ng x y hg hx hy=>Zf5 K he hg (Zp hy) (hf a x hx).pe (hf e y hy).pe
     | none=>
      rw [he] at h
      exact YJ (P:=SE X F _) h fun x y hx hy=>⟨ZG (pe_cmpR (XJ K.hu) (hf a x hx).pe (hf b y hy).pe (Xw (Zp hy))) Um,Wu (pt_cmpR (XJ K.hu) (hf a x hx).pe (hf b y hy).pe (Xw (Zp hy))) fun σ H Q q=>Um σ H _ (QR σ H Q q)⟩
   | cons op2 ops=>cases ops with
    | cons _ _=>cases h
    | nil=>cases bs with
     | nil=>cases h
     | cons b2 bs=>cases bs with
      | cons _ _=>cases h
      | nil=>
       refine j_e h fun h=>WK (P:=fun o=>o=some c→SE X F _ c) h (fun x y z hx hy hz h=>Vp h fun hr h=>?_) rfl
       cases h
       have hm:lastMarks [op,op2] [b,b2]=false:=Xw (op:=op2) (Zp hz)
       exact ⟨ZG (pe_chain (XJ K.hu) (XJ K.hu) (hf a x hx).pe (hf b y hy).pe (hf b2 z hz).pe hm) (VY fun _ _ _ _=>V7 hr),Wu (pt_chain (XJ K.hu) (XJ K.hu) (hf a x hx).pe (hf b y hy).pe (hf b2 z hz).pe hm) fun σ H Q q=>VY (fun _ _ _ _=>V7 hr) σ H _ (QR σ H Q q)⟩
omit K in
theorem Zd8 {op:BoolOp}{vs:List Expr}{pos:Pos} (h:Zez (cE G n sc N) op pos vs=some c):SE X F (.BoolOp op vs pos) c:=by
 cases vs with
 | nil=>cases h
 | cons a r=>cases r with
  | nil=>
   have A:=hf a c h
   refine ⟨pe_one A.pe,?_⟩
   cases op with
   | And=>exact (pw_and1 A.pt).pt
   | Or=>exact (pw_or1 A.pt).pt
  | cons b r=>cases op with
   | And=>exact YJ (P:=SE X F _) (show o2 CE.and (cE G n sc N a) (cE G n sc N (.BoolOp .And (b :: r) pos))=some c from h) fun x y hx hy=>⟨ZG (pe_and (hf a x hx).pe (hf _ y hy).pe) Zbb,Wu (pw_and (hf a x hx).pt (Ql (hf _ y hy).pt)).pt Zba⟩
   | Or=>exact YJ (P:=SE X F _) (show o2 CE.or (cE G n sc N a) (cE G n sc N (.BoolOp .Or (b :: r) pos))=some c from h) fun x y hx hy=>⟨ZG (pe_or (hf a x hx).pe (hf _ y hy).pe) Zdu,Wu (pw_or (hf a x hx).pt (Ql (hf _ y hy).pt)).pt Zdt⟩
theorem Zf9 (ihO:Ug G F n) {a b:Expr}{pos:Pos} (h:Zgk G sc (cE G n sc N) (cO G n sc N) a b=some c):SE X F (.Subscript a b pos) c:=by
 unfold Zgk at h
 cases q:WV b with
 | some p=>
  obtain ⟨lo,hi⟩:=p
  rw [q] at h
  obtain ⟨p2,rfl⟩:=Jd q
  exact WK (P:=SE X F _) h fun x l u hx hl hu=>.of (ZG (pe_slice ZjR (hf a x hx).pe (ihO X sc N K lo l hl) (ihO X sc N K hi u hu)) Zai)
 | none=>
  rw [q] at h
  dsimp only at h
  cases q':ZeH b with
  | some s=>
   cases q'
  | none=>
   rw [q'] at h
   dsimp only at h
   cases hn:JD G sc a with
   | some p=>
    obtain ⟨ks,ds⟩:=p
    rw [hn] at h
    exact Uw (P:=SE X F _) h fun y hy=>.of (Zea K hn (Zp hy) (hf b y hy).pe)
   | none=>
    rw [hn] at h
    exact YJ (P:=SE X F _) h fun x y hx hy=>.of (ZG (pe_ix ZiJ (hf a x hx).pe (hf b y hy).pe (U9 (Zp hy))) Um)
theorem Zcu {f:Str}{a:Expr}{p pos:Pos} (hg:ZN sc f=true) (hm:X.mg f=none) (h:ZaO G sc f a (cE G n sc N)=some c):SE X F (.Call (.Name f p) [a] [] pos) c:=by
 unfold ZaO at h
 cases he:Jj G sc f a with
 | some e=>
  rw [he] at h
  exact Zgb K hg hm he (fun c hc=>⟨Zp hc,(hf e c hc).pe⟩) h
 | none=>
  rw [he] at h
  dsimp only at h
  cases hl:Q0 G sc f a with
  | some q=>
   obtain ⟨u,v⟩:=q
   rw [hl] at h
   exact YJ (P:=SE X F _) h fun x y hx hy=>.of (Zeb K hg hm hl (Zp hx) (Zp hy) (hf u x hx).pe (hf v y hy).pe)
  | none=>
   rw [hl] at h
   exact j_e h fun h=>Uw (P:=fun o=>o=some c→SE X F _ c) h (fun x hx h=>.of (Zd6 K hg hm (Zp hx) (hf a x hx).pe h)) rfl
theorem Zcv {f:Str}{a b:Expr}{p pos:Pos} (hg:ZN sc f=true) (hm:X.mg f=none) (h:ZaP G sc f a b (cE G n sc N)=some c):SE X F (.Call (.Name f p) [a,b] [] pos) c:=by
 unfold ZaP at h
 by_cases ei:f = "isinstance"
 ·subst ei
  rw [if_pos rfl] at h
  cases hl:QL G sc b with
  | some l=>
   rw [hl] at h
   exact Uw (P:=SE X F _) h fun x q=>.of (Zf6 K hg hm (Zp q) (hf a x q).pe hl)
  | none=>
   rw [hl] at h
   exact YJ (P:=SE X F _) h fun x T hx hT=>.of (Zf7 K hg hm (Zp hx) (hf a x hx).pe hT)
 ·rw [if_neg ei] at h
  exact j_e h fun h=>YJ (P:=fun o=>o=some c→SE X F _ c) h (fun x y hx hy h=>.of (Zd7 K hg hm (Zp hx) (Zp hy) (hf a x hx).pe (hf b y hy).pe h)) rfl
theorem Zcw (ihA:YY G F n) {f:Str}{as:List Expr}{p pos:Pos} (h:ZaS G sc f as (cEs G n sc N as) (cE G n sc N)=some c):SE X F (.Call (.Name f p) as [] pos) c:=by
 unfold ZaS at h
 cases hg:ZN sc f with
 | false=>rw [hg] at h; cases h
 | true=>
 rw [hg,if_pos rfl] at h
 cases hG:G.lookup f with
 | none=>rw [hG] at h; cases h
 | some g=>
  rw [hG] at h
  cases g with
  | fn i ps ds=>exact Vp h fun hl h=>Uw (P:=SE X F _) h fun cs hcs=>.of (Zd9 K hg hG hl (ihA X sc N K as cs hcs))
  | blt=>
   have hm:X.mg f=none:=K.gl f _ hG
   cases as with
   | nil=>cases h
   | cons a as=>cases as with
    | nil=>exact Zcu K hf hg hm h
    | cons b as=>cases as with
     | nil=>exact Zcv K hf hg hm h
     | cons _ _=>cases h
  | cls i ms subs=>cases as with
   | cons _ _=>cases h
   | nil=>cases h; exact .of (Zf8 K hg hG)
  | _=>cases h
theorem Zd5 (ihA:YY G F n) {ob:Expr}{m:Str}{ap pos:Pos}{as:List Expr} (h:Zey G ob m ap as pos (cEs G n sc N as) (cE G n sc N)=some c):SE X F (.Call (.Attribute ob m ap) as [] pos) c:=by
 cases ob with
 | Name y yp=>
  refine Vp h fun hc h=>?_
  by_cases hm:m = "index"
  ·subst hm
   rw [if_pos rfl] at h
   exact Vp h fun h1 h=>YJ (P:=SE X F _) h fun x cs hx hcs=>.of (Zga K hc.1 h1 (hf _ x hx).pe (ihA X sc N K as cs hcs))
  ·rw [if_neg hm] at h
   exact YJ (P:=SE X F _) h fun x cs hx hcs=>.of (Zec K hc.1 hc.2 (hf _ x hx).pe (ihA X sc N K as cs hcs))
 | _=>cases h
end
theorem Je {n:Nat} (ihE:ZF G F n) (ihA:YY G F n) (ihO:Ug G F n)
  (hcomp:∀ X sc N,Cxt X G F sc N→∀ elt gens sc2 pos c,cE G (n+1) sc N (.ListComp elt gens sc2 pos)=some c→SE X F (.ListComp elt gens sc2 pos) c):ZF G F (n+1):=by
 intro X sc N K e c h
 have hf:=ihE X sc N K
 have no:∀ {P:Prop},(none:Option CE)=some c→P:=fun z=>nomatch z
 cases e with
 | Constant v k pos=>exact Zcx h
 | Name x pos=>exact Zed K h
 | BinOp a op b pos=>exact YJ (P:=SE X F _) (show o2 (CE.bin op) (cE G n sc N a) (cE G n sc N b)=some c from h) fun x y hx hy=>.of (ZG (pe_op ZdS (hf a x hx).pe (hf b y hy).pe) Um)
 | UnaryOp op a pos=>exact ZhR (hf a) h
 | Compare a ops bs pos=>exact Zf4 K hf h
 | BoolOp op vs pos=>exact Zd8 hf h
 | IfExp t a b pos=>exact WK (P:=SE X F _) (show o3 CE.ife (cE G n sc N t) (cE G n sc N a) (cE G n sc N b)=some c from h) fun z x y hz hx hy=>⟨ZG (pe_ifExp (hf t z hz).pt (hf a x hx).pe (hf b y hy).pe) Zfn,ZfJ (hf t z hz).pt (hf a x hx).pt (hf b y hy).pt⟩
 | Tuple es k pos=>
  refine Uw (P:=SE X F _) (show (cEs G n sc N es).map CE.tupE=some c from h) fun x q=>?_
  obtain ⟨A,hA,_,_⟩:=ihA X sc N K es x q
  exact .of (ZG (pe_tup A) (Zdy (fun ρ st ds st' e=>by obtain ⟨ds',z,hz⟩:=Uh hA e; cases z; exact hz) fun ρ st d st' e=>by obtain ⟨ds',z,hz⟩:=Uh hA e; exact ⟨ds',z⟩))
 | List es pos=>
  refine Uw (P:=SE X F _) (show (cEs G n sc N es).map CE.lstE=some c from h) fun x q=>?_
  obtain ⟨A,hA,_,_⟩:=ihA X sc N K es x q
  exact .of (ZG (pe_lst A) (Zdr fun ρ st ds st' e=>by obtain ⟨ds',z,hz⟩:=Uh hA e; cases z; exact hz))
 | Subscript a b pos=>exact Zf9 K hf ihO h
 | Call f as kws pos=>cases kws with
  | cons _ _=>exact no h
  | nil=>cases f with
   | Attribute ob m ap=>exact Zd5 K hf ihA h
   | Name f p=>exact Zcw K hf ihA h
   | _=>exact no h
 | ListComp elt gens sc2 pos=>exact hcomp X sc N K elt gens sc2 pos c h
 | _=>exact no h
theorem Qu {n:Nat} (ihE:ZF G F n) (ihA:YY G F n):YY G F (n+1):=by
 intro X sc N K es c h
 cases es with
 | nil=>
  simp only [cEs] at h
  cases h
  exact ⟨Zb3 pa_nil U1,trivial,rfl,fun _=>rfl⟩
 | cons e es=>
  refine YJ (P:=fun c=>PA X _ (tA X.K (ev F c))∧JU c∧_∧(_→c=.anil)) (show o2 CE.acons (cE G n sc N e) (cEs G n sc N es)=some c from h) fun x r hx hr=>?_
  obtain ⟨A,hA,hp,_⟩:=ihA X sc N K es r hr
  exact ⟨Zb3 (pa_cons (ihE X sc N K e x hx).pe A (Zr (Zp hx))) Zag,trivial,by rw [List.all_cons,hp,Zp hx]; rfl,fun z=>nomatch z⟩
theorem Qv {n:Nat} (ihE:ZF G F n):Ug G F (n+1):=by
 intro X sc N K e c h
 cases e with
 | none=>
  simp only [cO] at h
  cases h
  exact Zcb po_none Zds
 | some e=>
  simp only [cO] at h
  cases q:cE G n sc N e with
  | none=>rw [q] at h; cases h
  | some x=>
   rw [q] at h
   cases h
   refine Zcb (po_some (ihE X sc N K e x q).pe) fun σ H Q hq=>?_
   obtain ⟨ad,ρ,st,d,st',E,S,e1,p⟩:=hq
   have e1:Yb (ev F x) JI ρ st=some (d,st'):=e1
   unfold Yb at e1
   split at e1
   ·rename_i y st1 q1
    cases y with
    | int i=>
     cases e1
     rcases p with ⟨z,_⟩ | ⟨j,z,p⟩
     ·cases z
     ·cases z
      exact ⟨ad,ρ,st,.int i,_,E,S,q1,fun v ad' H' x S' d'=>⟨i,d'.ofInt,p ad' H' x S'⟩⟩
    | _=>simp [JI] at e1
   ·cases e1
end
end Dp



namespace Dp
open PySem PySem.Spec PyProof.Rows L2
variable [ClsTab]
theorem b_e {α β:Type}{P:Prop}{o:Option α}{f:α→Option β}{c:β} (h:o.bind f=some c) (k:∀ x,o=some x→f x=some c→P):P:=by
 cases o with
 | none=>cases h
 | some x=>exact k x rfl h
theorem ZhK {X:Cx}{s:Stmt}{t u:TS} (h1:PS X s t) (h2:PS X s u):PS X s (fun D σ H=>t D σ H∨u D σ H):=fun pins s σ H D I q=>q.elim (h1 pins s σ H D I) (h2 pins s σ H D I)
theorem WF {e:Expr}{tg:Option Expr}{l:Nat}{env:PySem.Env} (h:Xu e=false):swapsWith e tg l env=pure false:=by
 cases e<;>first | rfl | cases h
theorem X4 {e tg:Expr}{l:Nat}{env:PySem.Env} (h:Xu e=false):swapsWithSole [tg] e l env=pure false:=WF h
theorem QE {o k:Expr}{p:Pos}{env:PySem.Env} (h:Zt k=true):∀ v,assign (.Subscript o k p) env v=(do
   let ov ←holding [v] (eval o env)
   let iv ←holding [v,ov] (eval k env)
   standAt p
   holding [v,ov,iv] (setItem ov iv v)
   release [v,ov,iv] []):=by
 cases k<;>first | (intro _; rfl) | cases h
theorem Jg {o k e:Expr}{p:Pos}{env:PySem.Env}:swappedStores [.Subscript o k p] e env=pure none:=by
 cases e<;>rfl
theorem Yc {e:Expr}{env:PySem.Env} (h:Zt e=true):∀ x,foldedSetIterable e env x=pure x:=by
 cases e<;>first | (intro _; rfl) | cases h
structure CxtS (X:Cx) (G:Gs) (F:Nat→Fn) (sc:Scope) (N:List Str):Prop extends Cxt X G F sc N where
 nd:N.Nodup
 loc:∀ x∈N,Loc X.env.scope x
 fn:∀ x,X.fn x=true
section
variable {G:Gs}{F:Nat→Fn}
noncomputable def QC (G:Gs) (F:Nat→Fn) (n:Nat):Prop:=∀ X sc N,CxtS X G F sc N→∀ s c,cS G n sc N s=some c→PS X s (tS X.K (ex F c))
noncomputable def Yh (G:Gs) (F:Nat→Fn) (n:Nat):Prop:=∀ X sc N,CxtS X G F sc N→∀ s c,cSs G n sc N s=some c→PSs X s (tS X.K (ex F c))
theorem Ul {N:List Str}{x:Str}{i:Nat} (h:N.idxOf? x=some i):x∈N:=List.mem_of_getElem? (X1 h)
theorem YR {X:Cx}{sc:Scope}{N:List Str}{x:Str}{i:Nat}{p:Pos} (K:CxtS X G F sc N) (h:N.idxOf? x=some i):PG X (.Name x p) (gName i):=
 pg_name (by rw [K.hN]; exact K.nd) (by rw [K.hN]; exact X1 h) (K.loc x (Ul h)) (.inl (K.fn x))
theorem Ws {X:Cx}{sc:Scope}{N:List Str} (K:CxtS X G F sc N):PassesOwn (model X.prog X.w) X.A X.env X.xe:=by
 rw [K.nx]; exact PassesOwn.never
theorem Zb8 {X:Cx}{sc:Scope}{N:List Str}{x:Str}{i:Nat}{p:Pos} (K:Cxt X G F sc N) (hl:Wb sc x=true) (hi:N.idxOf? x=some i):PE X (.Name x p) (tVar i):=
 pe_var (by rw [K.hN]; exact X1 hi) (K.vis _ hl) (Us hl).1 (Us hl).2
theorem WE {X:Cx}{sc:Scope}{N:List Str}{it a tg:Expr}{x:CE} (K:Cxt X G F sc N) (h:Ya G sc it=some a) (hp:Zt a=true) (A:PE X a (tE X.K (ev F x))):Zt it=true∧PI X tg it (iRng1 (tCons (tE X.K (ev F x)) tNil)):=by
 unfold Ya at h
 split at h
 ·split at h
  ·rename_i hc
   obtain ⟨rfl,hg,hb⟩:=hc
   cases h
   have hm:X.mg "range"=none:=by
    unfold WA at hb
    split at hb
    ·rename_i q; exact K.gl _ _ q
    ·cases hb
   exact ⟨rfl,pi_range1 (K.glb _ hg) hm (pa1 hp A) (Zr hp)⟩
  ·cases h
 ·cases h
noncomputable def WX (G:Gs) (F:Nat→Fn) (n:Nat):Prop:=∀ X sc N,CxtS X G F sc N→∀ (x:Str) (i:Nat) (p:Pos) elt gens sc2 epos (pos:Pos) c,N.idxOf? x=some i→cE G n sc N (.ListComp elt gens sc2 epos)=some c→
 swapsWith (.ListComp elt gens sc2 epos) (some (.Name x p)) pos.line X.env=pure true→PS X (.Assign [.Name x p] (.ListComp elt gens sc2 epos) pos) (tAsg (tE X.K (ev F c)) (gName i))
theorem Jh {elt:Expr}{gens:List Comprehension}{sc2:Scope}{epos p:Pos}{x:Str}{l:Nat}{env:PySem.Env}:∃ b:Bool,swapsWith (.ListComp elt gens sc2 epos) (some (.Name x p)) l env=pure b:=⟨_,rfl⟩
theorem ZbT {n:Nat}{sc:Scope}{N:List Str}{e:Expr}{c:CE} (h:cE G n sc N e=some c):Xu e=false∨∃ elt gens sc2 epos,e=.ListComp elt gens sc2 epos:=by
 cases n with
 | zero=>exact nomatch (show (none:Option CE)=some c from h)
 | succ n=>cases e<;>first | exact .inl rfl | exact .inr ⟨_,_,_,_,rfl⟩ | exact nomatch (show (none:Option CE)=some c from h)
theorem Zge {n:Nat} (ihE:ZF G F n) (hA:WX G F n) {X:Cx}{sc:Scope}{N:List Str} (K:CxtS X G F sc N) {c:CS}{x:Str}{e:Expr}{p pos:Pos} (h:o2 CS.set (N.idxOf? x) (cE G n sc N e)=some c):PS X (.Assign [.Name x p] e pos) (tS X.K (ex F c)):=by
 refine YJ (P:=fun c=>PS X _ (tS X.K (ex F c))) h fun i y hi hx=>?_
 have pl:∀ hs,PS X (.Assign [.Name x p] e pos) (tAsg (tE X.K (ev F y)) (gName i)):=fun hs=>ps_set (by rw [K.hN]; exact K.nd) (by rw [K.hN]; exact X1 hi) (K.loc _ (Ul hi)) (ihE X sc N K.toCxt _ y hx).pe hs (.inl (K.fn _))
 rcases ZbT hx with hc | ⟨elt,gens,sc2,epos,rfl⟩
 ·exact Z0 (pl (WF hc)) Uo
 ·obtain ⟨b,hb⟩:=Jh (elt:=elt) (gens:=gens) (sc2:=sc2) (epos:=epos) (p:=p) (x:=x) (l:=pos.line) (env:=X.env)
  cases b with
  | false=>exact Z0 (pl hb) Uo
  | true=>exact Z0 (hA X sc N K _ i p elt gens sc2 epos pos y hi hx hb) Uo
theorem Vx {ts:List Expr}{k:Nat}{tp:Pos}{e:Expr}{env:PySem.Env} (h:U6 e=false):swappedStores [.Tuple ts k tp] e env=pure none:=by
 cases e with
 | Tuple=>cases h
 | _=>rfl
theorem Zen {n:Nat} (ihE:ZF G F n) {X:Cx}{sc:Scope}{N:List Str} (K:CxtS X G F sc N) {c:CS}{x y:Str}{e:Expr}{p p2 tp pos:Pos}{ctx:Nat} (h:og ((Xu e||U6 e)=false) (o3 (fun i j c=>og (i≠j) (some (CS.set2 i j c))) (N.idxOf? x) (N.idxOf? y) (cE G n sc N e)).join=some c):PS X (.Assign [.Tuple [.Name x p,.Name y p2] ctx tp] e pos) (tS X.K (ex F c)):=by
 refine Vp h fun hc h=>j_e h fun h=>WK (P:=fun o=>o=some c→PS X _ (tS X.K (ex F c))) h (fun i j ce hi hj hx h=>Vp h fun _ h=>?_) rfl
 cases h
 rw [Bool.or_eq_false_iff] at hc
 exact Z0 (ps_asg (ihE X sc N K.toCxt _ ce hx).pe (pg_tup K.calm (pgs_cons (YR K hi) (pgs_cons (YR K hj) pgs_nil))) (X4 hc.1) (Vx hc.2)) Zbn
theorem Zeo {n:Nat} (ihE:ZF G F n) {X:Cx}{sc:Scope}{N:List Str} (K:CxtS X G F sc N) {c:CS}{x y z:Str}{e:Expr}{p p2 p3 tp pos:Pos}{ctx:Nat} (h:og ((Xu e||U6 e)=false) (o3 (fun i j (p:Nat×CE)=>CS.set3 i j p.1 p.2) (N.idxOf? x) (N.idxOf? y) (o2 Prod.mk (N.idxOf? z) (cE G n sc N e)))=some c):PS X (.Assign [.Tuple [.Name x p,.Name y p2,.Name z p3] ctx tp] e pos) (tS X.K (ex F c)):=by
 refine Vp h fun hc h=>WK (P:=fun c=>PS X _ (tS X.K (ex F c))) h fun i j q hi hj hq=>YJ (P:=fun q=>PS X _ (tS X.K (ex F (.set3 i j q.1 q.2)))) hq fun l ce hl hx=>?_
 rw [Bool.or_eq_false_iff] at hc
 exact Z0 (ps_asg (ihE X sc N K.toCxt _ ce hx).pe (pg_tup K.calm (pgs_cons (YR K hi) (pgs_cons (YR K hj) (pgs_cons (YR K hl) pgs_nil)))) (X4 hc.1) (Vx hc.2)) Zbo
theorem Zgc {n:Nat} (ihE:ZF G F n) {X:Cx}{sc:Scope}{N:List Str} (K:CxtS X G F sc N) {c:CS}{f:Str}{fp cp pos:Pos}{as:List Expr}{kw:List Keyword} (h:(cE G n sc N (.Call (.Name f fp) as kw cp)).map CS.act=some c):PS X (.Expr (.Call (.Name f fp) as kw cp) pos) (tS X.K (ex F c)):=by
 obtain ⟨ce,hx,rfl⟩:=Option.map_eq_some_iff.mp h
 exact Z0 (ps_expr (ihE X sc N K.toCxt _ ce hx).pe rfl) Zdl
theorem Zgf {n:Nat} (ihE:ZF G F n) {X:Cx}{sc:Scope}{N:List Str} (K:CxtS X G F sc N) {c:CS}{x:Str}{k e:Expr}{p q pos:Pos} (h:ZhM sc N x k e (cE G n sc N k) (cE G n sc N e)=some c):PS X (.Assign [.Subscript (.Name x p) k q] e pos) (tS X.K (ex F c)):=
 Vp h fun hc h=>WK (P:=fun c=>PS X _ (tS X.K (ex F c))) h fun _ ck y hi hck hx=>Z0 (ps_asg (ihE X sc N K.toCxt _ y hx).pe (pg_sub (Zb8 K.toCxt hc.2.2 hi) (ihE X sc N K.toCxt _ ck hck).pe set_list (QE (Zp hck))) (X4 hc.1) Jg) Zdv
theorem Zgg {n:Nat} (ihE:ZF G F n) {X:Cx}{sc:Scope}{N:List Str} (K:CxtS X G F sc N) {c:CS}{e:Expr}{pos:Pos} (h:(cE G n sc N e).map CS.ret=some c):PS X (.Return (some e) pos) (tS X.K (ex F c)):=
 Uw (P:=fun c=>PS X _ (tS X.K (ex F c))) h fun x q=>Z0 (ps_ret (ihE X sc N K.toCxt _ x q).pe) Zdw
theorem ZhT {n:Nat} (ihE:ZF G F n) (ihS:Yh G F n) {X:Cx}{sc:Scope}{N:List Str} (K:CxtS X G F sc N) {c:CS}{e:Expr}{a b:List Stmt}{pos:Pos} (h:o3 CS.ite (cE G n sc N e) (cSs G n sc N a) (cSs G n sc N b)=some c):PS X (.If e a b pos) (tS X.K (ex F c)):=
 WK (P:=fun c=>PS X _ (tS X.K (ex F c))) h fun cc ca cb hc ha hb=>Z0 (ps_if (ihE X sc N K.toCxt _ cc hc).pt (ihS X sc N K _ ca ha) (ihS X sc N K _ cb hb)) Zdq
theorem Zei {n:Nat} (ihA:YY G F n) (ihS:Yh G F n) {X:Cx}{sc:Scope}{N:List Str} (K:CxtS X G F sc N) {c:CS}{x:Str}{it:Expr}{as:List Expr}{b:List Stmt}{p pos:Pos} (hr:Wv G sc it=some as) (h:o3 CS.for3 (N.idxOf? x) (cEs G n sc N as) (cSs G n sc N b)=some c):PS X (.For (.Name x p) it b [] pos) (tS X.K (ex F c)):=by cases hr
theorem Zeg {n:Nat} (ihE:ZF G F n) (ihS:Yh G F n) {X:Cx}{sc:Scope}{N:List Str} (K:CxtS X G F sc N) {c:CS}{x:Str}{it:Expr}{b:List Stmt}{p pos:Pos} (h:(match Ya G sc it with
   | some a=>o3 (fun i c b=>CS.for1 i true c b) (N.idxOf? x) (cE G n sc N a) (cSs G n sc N b)
   | none=>o3 (fun i c b=>CS.for1 i false c b) (N.idxOf? x) (cE G n sc N it) (cSs G n sc N b))=some c):PS X (.For (.Name x p) it b [] pos) (tS X.K (ex F c)):=by
 cases ha:Ya G sc it with
 | some a=>
  rw [ha] at h
  refine WK (P:=fun c=>PS X _ (tS X.K (ex F c))) h fun i ci cb hi q hb=>?_
  obtain ⟨hp,pi⟩:=WE K.toCxt ha (Zp q) (ihE X sc N K.toCxt a _ q).pe
  exact Z0 (ps_for (Ws K) K.calm pi (YR K hi) (ihS X sc N K _ cb hb) (Yc hp)) Zbi
 | none=>
  rw [ha] at h
  refine WK (P:=fun c=>PS X _ (tS X.K (ex F c))) h fun i ci cb hi q hb=>?_
  have A:=(ihE X sc N K.toCxt _ _ q).pe
  have hf:=Yc (env:=X.env) (Zp q)
  exact Z0 (ZhK (ps_for (Ws K) K.calm (pi_tup A) (YR K hi) (ihS X sc N K _ cb hb) hf) (ps_for (Ws K) K.calm (pi_list A) (YR K hi) (ihS X sc N K _ cb hb) hf)) Zbg
theorem Wz {X:Cx}{pins:List (Addr×Obj)}{σ:L2.St}{H:Hp}{s:Shared}{h':Heap}{t':Nat}{wr:List Addr} (I:L2.Inv X pins σ H s) (hf:∀ b∈wr,FpOk X pins H b)
  (k:∀ b o,b∉wr→s.heap.get? b=some o→h'.get? b=some o):L2.Inv X pins σ H { s with heap:=h',toks:=t' }:=by
 have nw:∀ b u,H b=some u→b∉wr:=fun b u e hb=>by have:=(hf b hb).1; rw [e] at this; cases this
 refine I.step (g':=s.gens) (d':=s.drawn) (ch:=wr) (fun b hb=>⟨(hf b hb).2.2.2.1,(hf b hb).2.1,(hf b hb).2.2.2.2.1,(hf b hb).2.2.2.2.2⟩) (fun b o _ _ hc e _=>k b o hc e) (fun b o _ _ hc e _=>⟨o.slots,k b o hc e⟩)
  (fun b o _ e n=>n) (fun b o hc e=>⟨o,k b o hc e⟩) (fun b ys e=>e) (fun b o u e=>e) (fun b ps e=>⟨#[],by rw [e]; simp⟩) (fun m hm=>?_) (fun b u e=>?_) I.bare
 ·obtain ⟨o,es,ep,ho,r⟩:=hm
  exact ⟨o,es,ep,k _ o (fun z=>(hf _ z).2.1 rfl) ho,r⟩
 ·refine (I.hok b u e).stay (fun c v hc q=>k c v ?_ q) (fun c q=>q) fun c ys q=>q
  rcases hc with z | z
  ·rw [z]; exact nw b u e
  ·exact nw c _ z
theorem XS {X:Cx}{pins:List (Addr×Obj)}{σ:L2.St}{H:Hp}{s:Shared}{h':Heap}{t':Nat}{wr:List Addr}{T:Addr}{xs:List V} (I:L2.Inv X pins σ H s) (hf:∀ b∈wr,FpOk X pins H b)
  (k:∀ b o,b∉wr→s.heap.get? b=some o→h'.get? b=some o) (hT:s.heap.objs.size≤T) (new:ObjOk X.prog X.w (upd H T (.tup xs)) h' T (.tup xs)):L2.Inv X pins σ (upd H T (.tup xs)) { s with heap:=h',toks:=t' }:=by
 have hn:H T=none:=I.hok.fresh hT
 have nT:∀ b u,s.heap.get? b=some u→b≠T:=fun b u e=>Nat.ne_of_lt (Nat.lt_of_lt_of_le (Heap.lt_size e) hT)
 have nw:∀ b u,H b=some u→b∉wr:=fun b u e hb=>by have:=(hf b hb).1; rw [e] at this; cases this
 refine I.step (g':=s.gens) (d':=s.drawn) (ch:=wr) (fun b hb=>⟨(hf b hb).2.2.2.1,(hf b hb).2.1,(hf b hb).2.2.2.2.1,(hf b hb).2.2.2.2.2⟩) (fun b o _ _ hc e _=>k b o hc e) (fun b o _ _ hc e _=>⟨o.slots,k b o hc e⟩)
  (fun b o _ e n=>by rw [upd_ne (nT b o e)]; exact n) (fun b o hc e=>⟨o,k b o hc e⟩) (fun b ys e=>by rw [upd_ne (ne_of_none e hn)]; exact e) (fun b o u e=>by rw [upd_ne (ne_of_none e hn)]; exact e) (fun b ps e=>⟨#[],by rw [upd_ne (ne_of_none e hn),e]; simp⟩) (fun m hm=>?_) (fun b u e=>?_) I.bare
 ·obtain ⟨o,es,ep,ho,r⟩:=hm
  exact ⟨o,es,ep,k _ o (fun z=>(hf _ z).2.1 rfl) ho,r⟩
 ·by_cases hb:b=T
  ·subst hb; rw [upd_same] at e; cases e; exact new
  ·rw [upd_ne hb] at e
   refine (I.hok b u e).stay (fun c v hc q=>k c v ?_ q) (fun c q=>by rw [upd_ne (ne_of_none q hn)]; exact q) fun c ys q=>by rw [upd_ne (ne_of_none q hn)]; exact q
   rcases hc with z | z
   ·rw [z]; exact nw b u e
   ·exact nw c _ z
theorem UF {X:Cx}{pins:List (Addr×Obj)}{σ:L2.St}{H:Hp}{s:Shared}{a:Addr}{xs ys:List V} (I:L2.Inv X pins σ H s) (h1:SqL X.K H a xs) (h2:SqL X.K H a ys):ys=xs:=by
 obtain ⟨i1,r1,⟨o1,n1,g1,_,_,d1⟩,_⟩:=I.list h1
 obtain ⟨i2,r2,⟨o2,n2,g2,_,_,d2⟩,_⟩:=I.list h2
 rw [g1] at g2
 cases g2
 rw [d1] at d2
 have e:i1.toArray=i2.toArray:=by injection d2
 have e:i1=i2:=by simpa using e
 subst e
 exact Vals.inj r2 r1
theorem Wr {a b:String}{p:Prop} (h:Value.type a=Value.type b) (n:¬a=b):p:=by
 injection h with h
 exact absurd h n
structure ZD (z TI TO i1 i2:Addr):Prop where
 a:TI≠z
 b:TO≠z
 c:i1≠z
 d:i2≠z
 e:TI≠TO
 f:TI≠i1
 g:TI≠i2
 h:TO≠i1
 i:TO≠i2
 j:i1≠i2
structure ZSt (z TI TO i1 i2 a b:Addr) (i:Nat) (h:Heap):Prop where
 hz:IsZip h z TI TO .none
 hI:IsPair h TI (.ref i1) (.ref i2)
 hO:∃ u v,IsPair h TO u v
 h1:h.IsListIter i1 a i
 h2:h.IsListIter i2 b i
theorem YX {z TI TO i1 i2 a b l c:Addr}{i:Nat}{h:Heap}{its:Array Value} (st:ZSt z TI TO i1 i2 a b i h) (hl:h.IsList l its) (hc:c∈[z,TO,i1,i2]):l≠c:=by
 rintro rfl
 obtain ⟨o,g,cl,_⟩:=hl
 simp only [List.mem_cons,List.not_mem_nil,or_false] at hc
 rcases hc with rfl | rfl | rfl | rfl
 ·have hz:h.get? l=some _:=st.hz
  rw [g] at hz; cases hz; exact Wr cl (by decide)
 ·obtain ⟨u,v,hO⟩:=st.hO
  have hO:h.get? l=some _:=hO
  rw [g] at hO; cases hO; exact Wr cl (by decide)
 ·obtain ⟨o1,g1,c1,_⟩:=st.h1
  rw [g] at g1; cases g1; rw [cl] at c1; exact Wr c1 (by decide)
 ·obtain ⟨o1,g1,c1,_⟩:=st.h2
  rw [g] at g1; cases g1; rw [cl] at c1; exact Wr c1 (by decide)
theorem Ud {z TI TO i1 i2 a b:Addr}{i:Nat}{h:Heap}{its its':Array Value} (d:ZD z TI TO i1 i2) (st:ZSt z TI TO i1 i2 a b i h) (p1:h.IsList a its) (p2:h.IsList b its'):ZipApart z TI TO i1 i2 a b:=
 have m:z∈[z,TO,i1,i2]∧TO∈[z,TO,i1,i2]∧i1∈[z,TO,i1,i2]∧i2∈[z,TO,i1,i2]:=⟨.head _,.tail _ (.head _),.tail _ (.tail _ (.head _)),.tail _ (.tail _ (.tail _ (.head _)))⟩
 ⟨d.a,d.b,d.c,d.d,d.e,d.f,d.g,d.h,d.i,d.j,YX st p1 m.1,YX st p1 m.2.1,YX st p1 m.2.2.1,YX st p1 m.2.2.2,YX st p2 m.1,YX st p2 m.2.1,YX st p2 m.2.2.1,YX st p2 m.2.2.2⟩
theorem JS {z TI TO i1 i2 c:Addr} (h:c∈[z,TO,i1,i2]):c∈[z,TI,TO,i1,i2]:=by
 rcases List.mem_cons.mp h with rfl | h
 ·exact .head _
 ·exact .tail _ (.tail _ h)
theorem JT {z TI TO i1 i2 a b c:Addr}{i:Nat}{h:Heap} (st:ZSt z TI TO i1 i2 a b i h) (hc:c∈[z,TI,TO,i1,i2]):∃ o,h.get? c=some o∧∀ v,o.data≠.cell v:=by
 obtain ⟨hz,hI,⟨u,v,hO⟩,⟨o1,g1,_,f1⟩,⟨o2,g2,_,f2⟩⟩:=st
 simp only [List.mem_cons,List.not_mem_nil,or_false] at hc
 rcases hc with rfl | rfl | rfl | rfl | rfl
 ·exact ⟨_,hz,fun v q=>by cases (show Data.fields _=Data.cell v from q)⟩
 ·exact ⟨_,hI,fun v q=>by cases (show Data.seq _ _=Data.cell v from q)⟩
 ·exact ⟨_,hO,fun v q=>by cases (show Data.seq _ _=Data.cell v from q)⟩
 ·exact ⟨_,g1,fun v q=>by rw [f1] at q; cases q⟩
 ·exact ⟨_,g2,fun v q=>by rw [f2] at q; cases q⟩
theorem Zcm {xs:List V}{its:List Value}{i:Nat}{x:V}{u:Value} (r:Vals xs its) (ex:xs[i]?=some x) (eu:its.toArray[i]?=some u):RelV x u:=by
 obtain ⟨u',e1,e2⟩:=r.get ex
 rw [List.getElem?_toArray,e1] at eu
 cases eu; exact e2
theorem ZcK {X:Cx}{elts:List Expr}{kk:Nat}{pos:Pos}{z TI TO i1 i2 a b:Addr} (d:ZD z TI TO i1 i2) (hc:X.calm=true) {i:Nat}{pins:List (Addr×Obj)}{s:Shared}{σ:L2.St}{H:Hp}{E:Value→Shared→Prop} (I:L2.Inv X pins σ H s) (hf:∀ c∈[z,TI,TO,i1,i2],FpOk X pins H c) (st:ZSt z TI TO i1 i2 a b i s.heap) (hg:(Itz X.K a b).go i H) :
  wpAny (model X.prog X.w) X.A (pyNext (.ref z)) (fun r s1=>∃ u,r=some u∧wpAny (model X.prog X.w) X.A (letOwnedTupleGo (.Tuple elts kk pos) (.ref z) u) (fun _ s2=>∃ x H',L2.Inv X pins σ H' s2∧RelV x u∧(Itz X.K a b).yld i H x H'∧ZSt z TI TO i1 i2 a b (i+1) s2.heap∧∀ c∈[z,TI,TO,i1,i2],H' c=none) E s1) E s:=by
 obtain ⟨xs,ys,x,y,sq1,sq2,ex,ey⟩:=hg
 obtain ⟨its1,r1,p1,_⟩:=I.list sq1
 obtain ⟨its2,r2,p2,_⟩:=I.list sq2
 have W:=WalksT.zip2 (prog:=X.prog) (w:=X.w) (A:=X.A) (I.ok.hd hc) z TI TO i1 i2 a b (Ud d st p1.isList p2.isList) its1.toArray its2.toArray
 have l1:=r1.length
 have l2:=r2.length
 have ix:i < xs.length:=(List.getElem?_eq_some_iff.mp ex).1
 have iy:i < ys.length:=(List.getElem?_eq_some_iff.mp ey).1
 refine W.item i s _ _ (by rw [List.size_toArray,List.size_toArray]; omega) ⟨st.hz,st.hI,st.hO,st.h1,st.h2,p1.isList,p2.isList⟩ fun T vals h' tk hv hT tup mid k1=>?_
 obtain ⟨u,v,eu,ev,rfl⟩:=hv
 refine ⟨.ref T,rfl,W.go elts kk pos i T _ _ _ mid fun h2' st2 k2=>?_⟩
 have I2:L2.Inv X pins σ (upd H T (.tup [x,y])) { s with heap:=h2',toks:=tk }:=XS (wr:=[z,TO,i1,i2]) I (fun c hcm=>hf c (JS hcm)) (fun c o hcn e=>k2 c o hcn (k1 c o hcn e)) hT ⟨show 2≤sizeLine by decide,[u,v],.cons (Zcm r1 ex eu) (.cons (Zcm r2 ey ev) .nil),tup.at fun o e=>k2 T o (W.apart i T h' mid) e⟩
 refine ⟨.ref T,upd H T (.tup [x,y]),I2,rfl,⟨T,x,y,rfl,I.hok.fresh hT,rfl,fun xs' q=>by rw [UF I sq1 q]; exact ex,fun ys' q=>by rw [UF I sq2 q]; exact ey⟩,⟨st2.1,st2.2.1,st2.2.2.1,st2.2.2.2.1,st2.2.2.2.2.1⟩,fun c hcm=>?_⟩
 obtain ⟨o,e,_⟩:=JT st hcm
 rw [upd_ne fun q=>absurd (Heap.lt_size e) (Nat.not_lt.mpr (by rw [q]; exact hT))]
 exact (hf c hcm).1
theorem ZcJ {X:Cx}{z TI TO i1 i2 a b:Addr} (d:ZD z TI TO i1 i2) (hc:X.calm=true) {i:Nat}{pins:List (Addr×Obj)}{s:Shared}{σ:L2.St}{H:Hp}{E:Value→Shared→Prop} (I:L2.Inv X pins σ H s) (hf:∀ c∈[z,TI,TO,i1,i2],FpOk X pins H c) (st:ZSt z TI TO i1 i2 a b i s.heap) (hg:(Itz X.K a b).stop i H) :
  wpAny (model X.prog X.w) X.A (pyNext (.ref z)) (fun r s1=>r=none∧L2.Inv X pins σ H s1) E s:=by
 obtain ⟨xs,ys,sq1,sq2,hle⟩:=hg
 obtain ⟨its1,r1,p1,_⟩:=I.list sq1
 obtain ⟨its2,r2,p2,_⟩:=I.list sq2
 obtain ⟨u,v,hO⟩:=st.hO
 have l1:=r1.length
 have l2:=r2.length
 have hend:its1.toArray[i]?=none∨its2.toArray[i]?=none:=by
  rw [List.getElem?_toArray,List.getElem?_toArray,List.getElem?_eq_none_iff,List.getElem?_eq_none_iff]
  omega
 refine wpAny_pyNext_zip_end (I.ok.hd hc) (Ud d st p1.isList p2.isList) st.hz st.hI hO st.h1 st.h2 p1.isList p2.isList hend fun h' k=>⟨rfl,Wz (wr:=[z,TO,i1,i2]) I (fun c hcm=>hf c (JS hcm)) fun c o hcn e=>?_⟩
 exact k c o (fun q=>hcn (by rw [q]; exact .head _)) (fun q=>hcn (by rw [q]; exact .tail _ (.head _))) (fun q=>hcn (by rw [q]; exact .tail _ (.tail _ (.head _)))) (fun q=>hcn (by rw [q]; exact .tail _ (.tail _ (.tail _ (.head _))))) e
theorem ZcE {P:Program}{w:World}{K:PySem.W.Frag}{elts:List Expr}{kk:Nat}{pos:Pos} (z TI TO i1 i2 a b:Addr) (d:ZD z TI TO i1 i2):Turn P w K (.Tuple elts kk pos) (Itz K a b) [z,TI,TO,i1,i2] z (ZSt z TI TO i1 i2 a b) where
 mem:=.head _
 obj:=fun i h st c hc=>JT st hc
 keep:=fun i h h' st k=>by
  obtain ⟨hz,hI,⟨u,v,hO⟩,h1,h2⟩:=st
  exact ⟨k z (.head _) _ hz,k TI (.tail _ (.head _)) _ hI,⟨u,v,k TO (.tail _ (.tail _ (.head _))) _ hO⟩,h1.at fun o e=>k i1 (.tail _ (.tail _ (.tail _ (.head _)))) o e,h2.at fun o e=>k i2 (.tail _ (.tail _ (.tail _ (.tail _ (.head _))))) o e⟩
 item:=fun X hP hw hK hc i pins s σ H E I hf st hg=>by
  subst hP hw hK
  exact ZcK d hc I hf st hg
 done:=fun X hP hw hK hc i pins s σ H E I hf st hg=>by
  subst hP hw hK
  exact ZcJ d hc I hf st hg
 self:=fun _ _ _ _ _ st h=>wpAny_pyIter_zip st.hz h
theorem Ze5:bootBuiltins "zip"=some (.type "zip"):=by decide +kernel
theorem ZfH {X:Cx}{elts:List Expr}{kk:Nat}{tp:Pos}{x y:Expr}{ta:TA}{p pos:Pos} (hg:Gl X "zip") (hm:X.mg "zip"=none) (ha:PA X [x,y] ta) (hp:[x,y].all Zt=true):PI X (.Tuple elts kk tp) (.Call (.Name "zip" p) [x,y] [] pos) (Zg2 X.K ta):=by
 intro pins s σ H R I h
 rw [List.all_cons,List.all_cons,Bool.and_eq_true,Bool.and_eq_true] at hp
 have hs2:starEach [y] X.env=[(false,eval y X.env)]:=Zr hp.2.1
 have hs:starEach [x,y] X.env=[(false,eval x X.env),(false,eval y X.env)]:=by rw [Zr hp.1,hs2]
 refine Call_ (ld_blt I hg hm Ze5 (PyProof.Rows.callWith_type1 (thn (ha pos pins s σ H _ I h) fun us s1 ⟨vs,H1,I1,r1,q1⟩=>?_) (by rw [hs,hs2]) (by rw [hs2]; rfl)))
 obtain ⟨a,b,rfl,⟨xs,sq1⟩,⟨ys,sq2⟩,q⟩:=q1
 cases r1 with
 | cons r rr=>
  cases rr with
  | cons r' rr=>
   cases rr
   cases r
   cases r'
   obtain ⟨its1,_,p1,_⟩:=I1.list sq1
   obtain ⟨its2,_,p2,_⟩:=I1.list sq2
   have ne:∀ {i j:Nat},i≠j→(s1.heap.objs.size+i:Nat)≠s1.heap.objs.size+j:=fun h z=>h (Nat.add_left_cancel z)
   refine call_zip_2 p1.isList p2.isList fun h' hz hI hO h1 h2 hsz k=>wpAny_pyIter_zip hz ?_
   refine ⟨s1.heap.objs.size+4,[s1.heap.objs.size+4,s1.heap.objs.size+2,s1.heap.objs.size+3,s1.heap.objs.size,s1.heap.objs.size+1],_,_,H1,rfl,I1.kept (t':=s1.toks) k,ZcE _ _ _ _ _ a b ⟨ne (i:=2) (j:=4) (by decide),ne (i:=3) (j:=4) (by decide),ne (i:=0) (j:=4) (by decide),ne (i:=1) (j:=4) (by decide),ne (i:=2) (j:=3) (by decide),ne (i:=2) (j:=0) (by decide),ne (i:=2) (j:=1) (by decide),ne (i:=3) (j:=0) (by decide),ne (i:=3) (j:=1) (by decide),ne (i:=0) (j:=1) (by decide)⟩,⟨hz,hI,⟨_,_,hO⟩,h1,h2⟩,fun c hcm=>?_,q⟩
   have hc:s1.heap.objs.size≤c:=by
    simp only [List.mem_cons,List.not_mem_nil,or_false] at hcm
    rcases hcm with rfl | rfl | rfl | rfl | rfl
    ·exact Nat.le_add_right _ _
    ·exact Nat.le_add_right _ _
    ·exact Nat.le_add_right _ _
    ·exact Nat.le_refl _
    ·exact Nat.le_add_right _ _
   exact I1.fpOk hc (I1.hok.fresh hc)
section
variable {prog:Program}{w:World}{A:Around}{E:Value→Shared→Prop}{s:Shared}
open Sem (wp)
open AutoSeq1 (wpAny_loadPart')
theorem Qc {it l:Addr}{i:Nat}{items:Array Value}{Q:Value→Shared→Prop} (hh:A.handled=none) (hit:s.heap.IsTupleIter it l i) (hl:s.heap.IsTuple l items)
  (hQ:∀ x h',items[i]?=some x→h'.IsTupleIter it l (i+1)→Heap.SameBut it s.heap h'→Q x { s with heap:=h' })
  (hE:items[i]?=none→∀ h' e,Heap.ExtBut it s.heap h'→(∃ o,h'.get? e=some o∧o.cls=.type "StopIteration")→E (.ref e) { s with heap:=h' }) :
  wpAny (model prog w) A (Builtin.SmallTypes.nextOf (.ref it)) Q E s:=by
 obtain ⟨o,ho,hc,hd⟩:=id hit
 obtain ⟨ol,hol,_,nl,hdl⟩:=hl
 unfold Builtin.SmallTypes.nextOf
 refine wpAny_bind (wpAny_callSpecial?_slot (name:=Str.ofString "__next__") hit.typeIs PySem.F.slot_tuple_iterator_next
  (wpAny_call_entry PySem.F.slot_tuple_iterator_next hit.typeIs PySem.F.entry_tuple_iterator_next ?_ (PySem.F.args_tuple_iterator_next_1 _)))
 show wpAny _ _ (field (.ref it) 0 >>= _) _ _ s
 refine wpAny_bind (wpAny_field ho hd (x:=.ref l) rfl ?_)
 show wpAny _ _ (if (Value.ref l==Value.none)=true then _ else _) _ _ s
 rw [if_neg (show ¬((Value.ref l==Value.none)=true) from Bool.false_ne_true)]
 show wpAny _ _ (field (.ref it) 1 >>= _) _ _ s
 refine wpAny_bind (wpAny_field ho hd (x:=.int i 0) rfl ?_)
 show wpAny _ _ (seqItems? (.ref l) >>= _) _ _ s
 refine wpAny_bind (wpAny_seqItems hol hdl ?_)
 cases hx:items[i]? with
 | some x=>
  simp only [Int.toNat_natCast,hx]
  refine wpAny_bind (wpAny_setField ho hd (by simp) (wpAny_pure ⟨x,rfl,wpAny_pure (hQ _ _ hx ?_ (Heap.SameBut.update ..))⟩))
  exact ⟨_,Heap.get?_update_self _ ho (Obj.isFreed_of_fields (Obj.data_mapFields hd _)),(Obj.cls_mapFields ..).trans hc,by
   rw [Obj.data_mapFields hd]; simp [rawInt]⟩
 | none=>
  simp only [Int.toNat_natCast,hx]
  refine wpAny_bind (wpAny_rule (wpAny_bind (wpAny_setField ho hd (by simp) ?_)))
  show wpAny _ _ (newExc (.type "StopIteration") [] >>= _) _ _ _
  refine wpAny_bind ?_
  simp only [newExc,newTuple]
  refine wpAny_bind (wpAny_newObj_type ?_ (by size_fits))
  refine wpAny_bind (m:=firstArgMember _ _) (wpAny_of_eq (a:=Value.none) (by first | rfl | (simp only [firstArgMember]; rfl)) ?_)
  refine wpAny_newObj_type ?_ (by size_fits)
  simp only [raiseNew]
  refine wpAny_bind (wpAny_handled ?_)
  first | rw [show A.in1.handled=none from hh] | rw [hh]
  refine wpAny_bind (wpAny_pure (wpAny_throw ?_))
  exact hE hx _ _ (((Heap.SameBut.update ..).extBut.push _).push _) ⟨_,Heap.get?_push_size _ rfl,rfl⟩
theorem Zae (hh:A.handled=none) (it l:Addr) (hne:l≠it) (items:Array Value) :
  Draws prog w A it [it,l] items.size (fun i v=>items[i]?=some v) (fun i h=>h.IsTupleIter it l i∧h.IsTuple l items) where
 live:=fun _ _ st=>let ⟨o,ho,_⟩:=st.1; ⟨o,ho⟩
 frame:=fun _ _ _ st hk=>⟨st.1.at fun o e=>hk it (by simp) o e,st.2.at fun o e=>hk l (by simp) o e⟩
 item:=fun i s Q E hi st hQ=>Qc hh st.1 st.2 (fun x h' e hit' hs'=>hQ x h' s.toks e ⟨hit',st.2.extBut hs'.extBut hne⟩ hs') fun e=>absurd e (by simp [hi])
 done:=fun s Q E st hE=>Qc hh st.1 st.2 (fun x h' e=>absurd e (by simp)) fun _=>hE
theorem Vl (l:Addr) (items:Array Value) (n:Nat) (dct:Option Addr) (sl:Array (Option Value)) :
  Meets (Builtin.«enumerate.__new__» ⟨[.type "enumerate",.ref l],[]⟩) (fun _ R s=>s.heap.get? l=some { cls:=.type "tuple",dict:=dct,data:=.seq items n,slots:=sl } ∧
   R (.ok (.ret (.ref (s.heap.push { cls:=.type "tuple_iterator",data:=.fields #[.ref l,.int 0 0] }).objs.size)))
    { s with heap:=(s.heap.push { cls:=.type "tuple_iterator",data:=.fields #[.ref l,.int 0 0] }).push { cls:=.type "enumerate",data:=.fields #[.none,.bool false,.ref s.heap.objs.size,rawInt 0,.none,.none] } }):=
 .of_wp fun prog w A R s h=>by
  obtain ⟨hp,g,d,tk,os⟩:=s; obtain ⟨hl,h⟩:=h
  have hsub:=sub_enumerate
  have hL:Heap.IsTuple (Shared.heap ⟨hp,g,d,tk,os⟩) l items:=⟨_,hl,rfl,n,rfl⟩
  wp_walk using wpAny_loadPart' hl
  refine wpAny_stack_any fun st=>wpAny_pure ?_
  split
  ·rename_i c _ _ _ _ _
   cases (c==Value.type "enumerate")
   ·wp_walk using wpAny_loadPart' hl,wpAny_pyIter_tuple hL
    exact ⟨_,rfl,h⟩
   ·wp_walk using wpAny_loadPart' hl,wpAny_pyIter_tuple hL
    exact ⟨_,rfl,h⟩
  ·wp_walk using wpAny_loadPart' hl,wpAny_pyIter_tuple hL
   exact ⟨_,rfl,h⟩
theorem VF {l:Addr}{items:Array Value}{Q:Value→Shared→Prop} (hL:s.heap.IsTuple l items)
  (h:∀ h',IsEnum h' (s.heap.objs.size+1) s.heap.objs.size 0 .none→h'.IsTupleIter s.heap.objs.size l 0→h'.objs.size=s.heap.objs.size+2→
   (∀ b o,s.heap.get? b=some o→h'.get? b=some o)→Q (.ref (s.heap.objs.size+1)) { s with heap:=h' }) :
  wpAny (model prog w) A (call (.type "enumerate") [.ref l]) Q E s:=by
 obtain ⟨⟨c,dct,dt,sl⟩,hl,hc,n,hd⟩:=hL
 replace hc:c=.type "tuple":=hc
 replace hd:dt=.seq items n:=hd
 subst hc hd
 refine callType_new PySem.F.called_enumerate (by decide) (PySem.F.typeCall_enumerate_1 _) (PySem.F.newCall_enumerate_1 _) (fun obj=>PySem.F.args_object_init_2 obj _) PySem.F.entry_enumerate_new
  (Vl l items n dct sl) ⟨hl,?_⟩
 have hz:(s.heap.push { cls:=.type "tuple_iterator",data:=.fields #[.ref l,.int 0 0] }).objs.size=s.heap.objs.size+1:=Heap.size_push ..
 show _∧_
 rw [hz]
 have he:IsEnum ((s.heap.push { cls:=.type "tuple_iterator",data:=.fields #[.ref l,.int 0 0] }).push
   { cls:=.type "enumerate",data:=.fields #[.none,.bool false,.ref s.heap.objs.size,rawInt 0,.none,.none] }) (s.heap.objs.size+1) s.heap.objs.size 0 .none:=by
  have:=Heap.get?_push_size (s.heap.push { cls:=.type "tuple_iterator",data:=.fields #[.ref l,.int 0 0] })
   (o:={ cls:=.type "enumerate",data:=.fields #[.none,.bool false,.ref s.heap.objs.size,rawInt 0,.none,.none] }) rfl
  rw [hz] at this; exact this
 refine ⟨⟨_,he,rfl⟩,h _ he ⟨_,Heap.get?_push_of_some _ (Heap.get?_push_size _ rfl),rfl,rfl⟩ (by rw [Heap.size_push,hz]) fun b o x=>Heap.get?_push_of_some _ (Heap.get?_push_of_some _ x)⟩
end
noncomputable def Ite (sq:Hp→List V→Prop):It:=
 ⟨fun i H=>∃ xs x,sq H xs∧xs[i]?=some x,fun i H v H'=>∃ T x,v=.ref T∧H T=none∧H'=upd H T (.tup [.int (i:Int),x])∧∀ xs,sq H xs→xs[i]?=some x,fun i H=>∃ xs,sq H xs∧xs.length=i⟩
noncomputable def Za8 (K:PySem.W.Frag) (ta:TA):TI:=fun σ H R=>ta σ H fun vs H1=>∃ a,vs=[.ref a]∧(((∃ xs,SqL K H1 a xs)∧R (Ite fun H=>SqL K H a) H1)∨((∃ xs,SqT K H1 a xs)∧R (Ite fun H=>SqT K H a) H1))
theorem Ub {P:Program}{w:World}{K:PySem.W.Frag}{elts:List Expr}{kk:Nat}{pos:Pos}{sq:Hp→List V→Prop}{it1:Nat→Heap→Prop} (e it a:Addr) (d:e≠it)
  (hi:∀ i h,it1 i h→∃ o,h.get? it=some o∧∀ v,o.data≠.cell v) (hk:∀ i h h',it1 i h→(∀ o,h.get? it=some o→h'.get? it=some o)→it1 i h')
  (hD:∀ (X:Cx),X.prog=P→X.w=w→X.K=K→X.calm=true→∀ (pins:List (Addr×Obj)) (s:Shared) (σ:L2.St) (H:Hp) (i:Nat) (xs:List V),L2.Inv X pins σ H s→(∃ old,IsEnum s.heap e it i old)→it1 i s.heap→sq H xs→
   (∀ ys,sq H ys→ys=xs)∧∃ (its:List Value) (ob:Heap→Prop),Vals xs its∧a≠e∧ob s.heap∧Draws P w X.A.in1 it [it,a] its.toArray.size (fun i v=>its.toArray[i]?=some v) (fun i h=>it1 i h∧ob h)) :
  Turn P w K (.Tuple elts kk pos) (Ite sq) [e,it] e (fun i h=>(∃ old,IsEnum h e it i old)∧it1 i h) where
 mem:=by simp
 obj:=fun i h st c hc=>by
  obtain ⟨⟨old,he⟩,h1⟩:=st
  simp only [List.mem_cons,List.not_mem_nil,or_false] at hc
  rcases hc with rfl | rfl
  ·exact ⟨_,he,fun v q=>by cases (show Data.fields _=Data.cell v from q)⟩
  ·exact hi i h h1
 keep:=fun i h h' st k=>by
  obtain ⟨⟨old,he⟩,h1⟩:=st
  exact ⟨⟨old,k e (by simp) _ he⟩,hk i h h' h1 fun o g=>k it (by simp) o g⟩
 item:=by
  intro X hP hw hK hc i pins s σ H E I hf st hg
  obtain ⟨xs,x,hs,ex⟩:=hg
  obtain ⟨hone,its,ob,r,ne,o0,D⟩:=hD X hP hw hK hc pins s σ H i xs I st.1 st.2 hs
  subst hP hw hK
  have W:=WalksT.enumerateD D e d (by simp only [List.mem_cons,List.not_mem_nil,or_false]; exact fun q=>q.elim d fun q=>ne q.symm) (by simp)
  have l1:=r.length
  have ix:i < xs.length:=(List.getElem?_eq_some_iff.mp ex).1
  refine W.item i s _ _ (by simp; omega) ⟨st.1,st.2,o0⟩ fun T vals h' tk hv hT tup mid k1=>?_
  obtain ⟨t,u,eu,rfl⟩:=hv
  refine ⟨.ref T,rfl,W.go elts kk pos i T _ _ _ mid fun h2' st2 k2=>?_⟩
  have nT:=W.apart i T h' mid
  have ru:RelV x u:=by
   obtain ⟨u',e1,e2⟩:=r.get ex
   have:its[i]?=some u:=by simpa using eu
   rw [this] at e1; cases e1; exact e2
  have tup2:h2'.IsTuple T #[.int i t,u]:=tup.at fun o g=>k2 T o nT g
  have I2:L2.Inv X pins σ (upd H T (.tup [.int (i:Int),x])) { s with heap:=h2',toks:=tk }:=XS (wr:=[e,it]) I hf (fun c o hcn g=>k2 c o hcn (k1 c o hcn g)) hT ⟨show 2≤sizeLine by decide,[.int i t,u],.cons ⟨t,rfl⟩ (.cons ru .nil),tup2⟩
  refine ⟨.ref T,_,I2,rfl,⟨T,x,rfl,I.hok.fresh hT,rfl,fun xs' q=>by rw [hone _ q]; exact ex⟩,⟨st2.1,st2.2.1⟩,fun c hcm=>?_⟩
  have:c≠T:=fun q=>by
   have lt:∀ {o},s.heap.get? c=some o→False:=fun g=>absurd (Heap.lt_size g) (Nat.not_lt.mpr (by rw [q]; exact hT))
   obtain ⟨⟨_,he⟩,h1⟩:=st
   obtain ⟨_,g,_⟩:=hi _ _ h1
   simp only [List.mem_cons,List.not_mem_nil,or_false] at hcm
   rcases hcm with rfl | rfl
   ·exact lt he
   ·exact lt g
  rw [upd_ne this]
  exact (hf c hcm).1
 done:=by
  intro X hP hw hK hc i pins s σ H E I hf st hg
  obtain ⟨xs,hs,hle⟩:=hg
  obtain ⟨hone,its,ob,r,ne,o0,D⟩:=hD X hP hw hK hc pins s σ H i xs I st.1 st.2 hs
  subst hP hw hK
  have W:=WalksT.enumerateD D e d (by simp only [List.mem_cons,List.not_mem_nil,or_false]; exact fun q=>q.elim d fun q=>ne q.symm) (by simp)
  have l1:=r.length
  have e1:i=its.toArray.size:=by simp; omega
  subst e1
  exact W.done s _ _ ⟨st.1,st.2,o0⟩ fun h' tk k=>⟨rfl,Wz (wr:=[e,it]) I hf k⟩
 self:=fun _ _ _ _ _ st h=>let ⟨⟨_,he⟩,_⟩:=st; wpAny_pyIter_enum he h
theorem Qd {h:Heap}{e it:Addr}{i:Int}{old:Value}{a:Addr}{o:Obj}{n:String} (he:IsEnum h e it i old) (g:h.get? a=some o) (c:o.cls=.type n) (hn:¬n = "enumerate"):a≠e:=fun q=>by
 subst q
 have he:h.get? a=some _:=he
 rw [g] at he; cases he; exact Wr c fun z=>hn z.symm
theorem Qe {h:Heap}{a b:Addr}{o u:Obj}{n m:String} (g:h.get? a=some o) (c:o.cls=.type n) (g2:h.get? b=some u) (c2:u.cls=.type m) (hn:¬n=m):a≠b:=fun q=>by
 subst q
 rw [g] at g2; cases g2; rw [c] at c2; exact Wr c2 hn
theorem Zc6:bootBuiltins "enumerate"=some (.type "enumerate"):=by decide +kernel
theorem ZdU {X:Cx}{elts:List Expr}{kk:Nat}{tp:Pos}{x:Expr}{ta:TA}{p pos:Pos} (hg:Gl X "enumerate") (hm:X.mg "enumerate"=none) (ha:PA X [x] ta) (hs:starEach [x] X.env=[(false,eval x X.env)]):PI X (.Tuple elts kk tp) (.Call (.Name "enumerate" p) [x] [] pos) (Za8 X.K ta):=by
 intro pins s σ H R I h
 refine Call_ (ld_blt I hg hm Zc6 (PyProof.Rows.callWith_type1 (thn (ha pos pins s σ H _ I h) fun us s1 ⟨vs,H1,I1,r1,q1⟩=>?_) hs rfl))
 obtain ⟨a,rfl,q⟩:=q1
 have fo:∀ c∈[s1.heap.objs.size+1,s1.heap.objs.size],FpOk X pins H1 c:=fun c hcm=>by
  have hc:s1.heap.objs.size≤c:=by
   simp only [List.mem_cons,List.not_mem_nil,or_false] at hcm
   rcases hcm with rfl | rfl
   ·exact Nat.le_add_right _ _
   ·exact Nat.le_refl _
  exact I1.fpOk hc (I1.hok.fresh hc)
 cases r1 with
 | cons r rr=>
  cases rr
  cases r
  rcases q with ⟨⟨xs,sq⟩,q⟩ | ⟨⟨xs,sq⟩,q⟩
  ·obtain ⟨its,_,p1,_⟩:=I1.list sq
   refine call_enumerate_list p1.isList fun h' he h1 hsz k=>wpAny_pyIter_enum he ?_
   refine ⟨s1.heap.objs.size+1,[s1.heap.objs.size+1,s1.heap.objs.size],_,_,H1,rfl,I1.kept (t':=s1.toks) k,Ub (it1:=fun i h=>h.IsListIter _ a i) _ _ a (Nat.succ_ne_self _) (fun i h st=>?_) (fun i h h' st k=>st.at k) (fun X hP hw hK hc pins s σ H i xs I he h1 sq=>?_),⟨⟨_,he⟩,h1⟩,fo,q⟩
   ·obtain ⟨o,g,_,f⟩:=st
    exact ⟨o,g,fun v q=>by rw [f] at q; cases q⟩
   ·rw [←hP,←hw]
    rw [←hK] at sq ⊢
    obtain ⟨its,r,p,_⟩:=I.list sq
    obtain ⟨⟨_,he⟩,⟨o2,g2,c2,_⟩⟩:=And.intro he h1
    obtain ⟨o,g,c,_⟩:=p.isList
    exact ⟨fun ys hy=>UF I sq hy,its,fun h=>h.IsList a its.toArray,r,Qd he g c (by decide),p.isList,Draws.list (show X.A.in1.handled=none from I.ok.hd hc) _ a (Qe g c g2 c2 (by decide)) its.toArray⟩
  ·obtain ⟨its,_,p1,_⟩:=I1.tuple sq
   refine VF (show s1.heap.IsTuple a its.toArray from p1) fun h' he h1 hsz k=>wpAny_pyIter_enum he ?_
   refine ⟨s1.heap.objs.size+1,[s1.heap.objs.size+1,s1.heap.objs.size],_,_,H1,rfl,I1.kept (t':=s1.toks) k,Ub (it1:=fun i h=>h.IsTupleIter _ a i) _ _ a (Nat.succ_ne_self _) (fun i h st=>?_) (fun i h h' st k=>st.at k) (fun X hP hw hK hc pins s σ H i xs I he h1 sq=>?_),⟨⟨_,he⟩,h1⟩,fo,q⟩
   ·obtain ⟨o,g,_,f⟩:=st
    exact ⟨o,g,fun v q=>by rw [f] at q; cases q⟩
   ·rw [←hP,←hw]
    rw [←hK] at sq ⊢
    obtain ⟨its,r,p,_⟩:=I.tuple sq
    have p:s.heap.IsTuple a its.toArray:=p
    obtain ⟨⟨_,he⟩,⟨o2,g2,c2,_⟩⟩:=And.intro he h1
    obtain ⟨o,g,c,_⟩:=id p
    exact ⟨fun ys hy=>I.tuple_inj hy sq,its,fun h=>h.IsTuple a its.toArray,r,Qd he g c (by decide),p,Zae (show X.A.in1.handled=none from I.ok.hd hc) _ a (Qe g c g2 c2 (by decide)) its.toArray⟩
theorem VT:∀ {xs:List D}{k i:Nat}{x:D},xs[i]?=some x→(VS k xs)[i]?=some (.int ((k+i:Nat):Int),x)
 | [],_,_,_,h=>nomatch h
 | x :: xs,k,0,_,h=>by cases h; rfl
 | x :: xs,k,i+1,y,h=>by
  show (VS (k+1) xs)[i]?=_
  rw [VT (show xs[i]?=some y from h),show k+1+i=k+(i+1) by omega]
theorem Wo:∀ {xs:List D}{k:Nat},(VS k xs).length=xs.length
 | [],_=>rfl
 | x :: xs,k=>congrArg (·+1) Wo
theorem Zbe {K:PySem.W.Frag}{fi:Ev}{f:Ex}{i j:Nat} (E:Ends) (σ:L2.St) (H:Hp) (h:tS K (VX i j fi f) E σ H):tFor (Za8 K (tCons (tE K fi) tNil)) (gTup K 2 (gCons (gName i) (gCons (gName j) gNil))) (tS K f) E σ H:=by
 obtain ⟨ad,ρ,st,r,st',En,S,e,p⟩:=Yn h
 unfold VX at e
 split at e
 ·rename_i x st1 q1
  split at e
  ·rename_i xs ok hw
   have core:∀ {sq:Hp→List V→Prop}{ad1:List Addr}{H1:Hp} (Good:List Addr→Hp→Prop),(∀ ad H ad' H',Ext ad H ad' H'→Good ad H→Good ad' H')→Good ad1 H1→
     (∀ ad H st,Good ad H→StOk K ad H st→ok st→∃ vs,Dens K ad H vs xs∧sq H vs)→Ext ad H ad1 H1→StOk K ad1 H1 st1→ZgD K f i j (Ite sq) E σ H1:=fun Good gm g1 hv x1 S1=>
    ⟨_,⟨_,.mk (Nat.zero_add _) (En.mono x1) S1 g1 e (p.later x1)⟩,Vk gm (fun ad H st g S o=>by
      obtain ⟨vs,rv,sv⟩:=hv ad H st g S o
      exact ⟨vs,sv,by rw [rv.length,Wo]⟩) fun k ad H st q g S o hq=>by
      obtain ⟨vs,rv,sv⟩:=hv ad H st g S o
      have hk:k < xs.length:=by rw [←Wo (k:=0)]; exact (List.getElem?_eq_some_iff.mp hq).1
      have hg:=List.getElem?_eq_getElem hk
      rw [VT (k:=0) hg,Nat.zero_add] at hq
      cases hq
      obtain ⟨w,ew,dw⟩:=rv.get hg
      exact ⟨_,w,⟨vs,w,sv,ew⟩,.int _,dw,fun x H' ⟨pt,y1,e1,e2,e3,hy⟩=>⟨pt,e1,e2,by have z:=hy vs sv; rw [ew] at z; cases z; exact e3⟩⟩⟩
   refine ⟨ad,ρ,st,x,st1,En,S,q1,fun v ad1 H1 x1 S1 d1=>?_⟩
   cases x with
   | tup ys=>
    cases hw
    obtain ⟨a,vs,rfl,ha,rv⟩:=d1.ofTup
    exact ⟨a,rfl,.inr ⟨⟨vs,ha.sq⟩,core (fun ad H=>TupAt K H a vs∧Dens K ad H vs xs) (fun _ _ _ _ x g=>⟨g.1.mono x,g.2.mono x⟩) ⟨ha,rv⟩ (fun ad H st g _ _=>⟨vs,g.2,g.1.sq⟩) x1 S1⟩⟩
   | lst l=>
    have hw:(match st1[l]? with
     | some c=>some (c.2,fun s=>s[l]?=some c)
     | none=>none)=some (xs,ok):=hw
    cases hc:st1[l]? with
    | none=>rw [hc] at hw; cases hw
    | some c=>
     rw [hc] at hw
     cases hw
     obtain ⟨a,rfl,ha⟩:=d1.ofLst
     obtain ⟨vs,rv,sq⟩:=S1.list ha (show st1[l]?=some (c.1,c.2) from hc)
     exact ⟨a,rfl,.inl ⟨⟨vs,sq⟩,core (fun ad _=>ad[l]?=some a) (fun _ _ _ _ x g=>x.pre _ _ g) ha (fun ad H st g S e=>S.list g (show st[l]?=some (c.1,c.2) from e)) x1 S1⟩⟩
   | _=>cases hw
  ·cases e
 ·cases e
theorem QO {X:Cx}{sc:Scope}{N:List Str}{it a:Expr}{elts:List Expr}{kk:Nat}{tp:Pos}{x:CE} (K:Cxt X G F sc N) (h:WN G sc it=some a) (hp:Zt a=true) (A:PE X a (tE X.K (ev F x))):Zt it=true∧PI X (.Tuple elts kk tp) it (Za8 X.K (tCons (tE X.K (ev F x)) tNil)):=by
 unfold WN at h
 split at h
 ·split at h
  ·rename_i hc
   obtain ⟨rfl,hg,hb⟩:=hc
   cases h
   have hm:X.mg "enumerate"=none:=by
    unfold WA at hb
    split at hb
    ·rename_i q; exact K.gl _ _ q
    ·cases hb
   exact ⟨rfl,ZdU (K.glb _ hg) hm (pa1 hp A) (Zr hp)⟩
  ·cases h
 ·cases h
theorem VJ {X:Cx}{sc:Scope}{N:List Str}{it:Expr}{as:List Expr} (K:Cxt X G F sc N) (h:XO G sc it=some as):∃ p pos a b,it=.Call (.Name "zip" p) [a,b] [] pos∧as=[a,b]∧Gl X "zip"∧X.mg "zip"=none:=by
 unfold XO at h
 split at h
 ·split at h
  ·rename_i hc
   cases h
   obtain ⟨rfl,hg,hb⟩:=hc
   refine ⟨_,_,_,_,rfl,rfl,K.glb _ hg,?_⟩
   unfold WA at hb
   split at hb
   ·rename_i q; exact K.gl _ _ q
   ·cases hb
  ·cases h
 ·cases h
theorem Zem {n i j:Nat} (ihA:YY G F n) (ihS:Yh G F n) {X:Cx}{sc:Scope}{N:List Str} (K:CxtS X G F sc N) {c:CS}{x y:Str}{it:Expr}{as:List Expr}{b:List Stmt}{p p2 pos tp:Pos}{ctx:Nat} (hi:N.idxOf? x=some i) (hj:N.idxOf? y=some j) (hz:XO G sc it=some as) (h:o2 (CS.forP i j) (cEs G n sc N as) (cSs G n sc N b)=some c):PS X (.For (.Tuple [.Name x p,.Name y p2] ctx tp) it b [] pos) (tS X.K (ex F c)):=by
 refine YJ (P:=fun c=>PS X _ (tS X.K (ex F c))) h fun ci cb hc hb=>?_
 obtain ⟨p1,p3,a,b',rfl,rfl,hg,hm⟩:=VJ K.toCxt hz
 obtain ⟨A,_,pl,_⟩:=ihA X sc N K.toCxt _ ci hc
 exact Z0 (ps_for (Ws K) K.calm (ZfH hg hm A pl) (pg_tup K.calm (pgs_cons (YR K hi) (pgs_cons (YR K hj) pgs_nil))) (ihS X sc N K _ cb hb) (Yc rfl)) Zbh
theorem Zel {n i j:Nat} (ihE:ZF G F n) (ihS:Yh G F n) {X:Cx}{sc:Scope}{N:List Str} (K:CxtS X G F sc N) {c:CS}{x y:Str}{it e:Expr}{b:List Stmt}{p p2 pos tp:Pos}{ctx:Nat} (hi:N.idxOf? x=some i) (hj:N.idxOf? y=some j) (hz:WO G sc it=some e) (h:o2 (CS.forE i j) (cE G n sc N e) (cSs G n sc N b)=some c):PS X (.For (.Tuple [.Name x p,.Name y p2] ctx tp) it b [] pos) (tS X.K (ex F c)):=by
 refine YJ (P:=fun c=>PS X _ (tS X.K (ex F c))) h fun ci cb hc hb=>?_
 obtain ⟨pl,A⟩:=QO (elts:=[.Name x p,.Name y p2]) (kk:=ctx) (tp:=tp) K.toCxt hz (Zp hc) (ihE X sc N K.toCxt _ ci hc).pe
 exact Z0 (ps_for (Ws K) K.calm A (pg_tup K.calm (pgs_cons (YR K hi) (pgs_cons (YR K hj) pgs_nil))) (ihS X sc N K _ cb hb) (Yc pl)) Zbe
theorem Zej {n:Nat} (ihE:ZF G F n) (ihS:Yh G F n) {X:Cx}{sc:Scope}{N:List Str} (K:CxtS X G F sc N) {c:CS}{x y z:Str}{it:Expr}{b:List Stmt}{p p2 p3 pos tp:Pos}{ctx:Nat} (h:o3 (fun (p:Nat×Nat) (q:Nat×CE) b=>CS.for4 p.1 p.2 q.1 q.2 b) (o2 Prod.mk (N.idxOf? x) (N.idxOf? y)) (o2 Prod.mk (N.idxOf? z) (cE G n sc N it)) (cSs G n sc N b)=some c):PS X (.For (.Tuple [.Name x p,.Name y p2,.Name z p3] ctx tp) it b [] pos) (tS X.K (ex F c)):=
 WK (P:=fun c=>PS X _ (tS X.K (ex F c))) h fun u v cb hu hv hb=>YJ (P:=fun u:Nat×Nat=>PS X _ (tS X.K (ex F (.for4 u.1 u.2 v.1 v.2 cb)))) hu fun i j hi hj=>YJ (P:=fun v:Nat×CE=>PS X _ (tS X.K (ex F (.for4 i j v.1 v.2 cb)))) hv fun l ci hl hc=>
  Z0 (ps_for (Ws K) K.calm (pi_tup (ihE X sc N K.toCxt _ ci hc).pe) (pg_tup K.calm (pgs_cons (YR K hi) (pgs_cons (YR K hj) (pgs_cons (YR K hl) pgs_nil)))) (ihS X sc N K _ cb hb) (Yc (Zp hc))) Zbd
theorem Zeh {n i j:Nat} (ihE:ZF G F n) (ihS:Yh G F n) {X:Cx}{sc:Scope}{N:List Str} (K:CxtS X G F sc N) {c:CS}{x y:Str}{it:Expr}{b:List Stmt}{p p2 pos tp:Pos}{ctx:Nat} (hi:N.idxOf? x=some i) (hj:N.idxOf? y=some j) (h:o2 (CS.for2 i j) (cE G n sc N it) (cSs G n sc N b)=some c):PS X (.For (.Tuple [.Name x p,.Name y p2] ctx tp) it b [] pos) (tS X.K (ex F c)):=by
 refine YJ (P:=fun c=>PS X _ (tS X.K (ex F c))) h fun ci cb hc hb=>?_
 exact fun pins s σ H D I q=>by
  obtain ⟨_,_,_,_,_,_,_,e,_⟩:=Yn q
  cases e
theorem Zgd {n:Nat} (ihE:ZF G F n) {X:Cx}{sc:Scope}{N:List Str} (K:CxtS X G F sc N) {c:CS}{x m:Str}{e:Expr}{p ap cp pos:Pos} (h:ZgM sc N x m ap cp (cE G n sc N e)=some c):PS X (.Expr (.Call (.Attribute (.Name x p) m ap) [e] [] cp) pos) (tS X.K (ex F c)):=by
 refine Vp h fun hc h=>?_
 by_cases e1:m = "append"
 ·subst e1
  rw [if_pos rfl] at h
  exact YJ (P:=fun c=>PS X _ (tS X.K (ex F c))) h fun i y hi hx=>Z0 (ps_expr (pe_bm PySem.F.plainAttrs_list PySem.F.slot_list_append PySem.F.type_list_append mt_append (Zb8 K.toCxt hc.1 hi) (pa1 (Zp hx) (ihE X sc N K.toCxt _ y hx).pe) rfl (by rw [Zr (Zp hx)]; rfl) hc.2 (Zr (Zp hx)) rfl) rfl) Zdm
 ·rw [if_neg e1] at h
  by_cases e2:m = "extend"
  ·subst e2
   rw [if_pos rfl] at h
   exact YJ (P:=fun c=>PS X _ (tS X.K (ex F c))) h fun i y hi hx=>Z0 (ps_expr (pe_bm PySem.F.plainAttrs_list PySem.F.slot_list_extend PySem.F.type_list_extend mt_extend (Zb8 K.toCxt hc.1 hi) (pa1 (Zp hx) (ihE X sc N K.toCxt _ y hx).pe) rfl (by rw [Zr (Zp hx)]; rfl) hc.2 (Zr (Zp hx)) rfl) rfl) Zdo
  ·rw [if_neg e2] at h; cases h
theorem Zef {n:Nat} (ihE:ZF G F n) (hA:WX G F n) {X:Cx}{sc:Scope}{N:List Str} (K:CxtS X G F sc N) {c:CS}{tg e:Expr}{pos:Pos} (h:ZgN N tg e (cE G n sc N e)=some c):PS X (.Assign [tg] e pos) (tS X.K (ex F c)):=by
 have no:∀ {P:Prop},(none:Option CS)=some c→P:=fun z=>nomatch z
 cases tg with
 | Name x p=>exact Zge ihE hA K h
 | Tuple es ctx tp=>cases es with
  | nil=>exact no h
  | cons a es=>cases a with
   | Name _ _=>cases es with
    | nil=>exact no h
    | cons b es=>cases b with
     | Name _ _=>cases es with
      | nil=>exact Zen ihE K h
      | cons c2 es=>cases c2 with
       | Name _ _=>cases es with
        | nil=>exact Zeo ihE K h
        | cons _ _=>exact no h
       | _=>exact no h
     | _=>exact no h
   | _=>exact no h
 | _=>exact no h
theorem Zek {n:Nat} (ihE:ZF G F n) (ihA:YY G F n) (ihS:Yh G F n) {X:Cx}{sc:Scope}{N:List Str} (K:CxtS X G F sc N) {c:CS}{tg it:Expr}{b:List Stmt}{pos:Pos} (h:Zfl G sc N (cE G n sc N) (cEs G n sc N) tg it (cSs G n sc N b)=some c):PS X (.For tg it b [] pos) (tS X.K (ex F c)):=by
 have no:∀ {P:Prop},(none:Option CS)=some c→P:=fun z=>nomatch z
 cases tg with
 | Name x p=>
  unfold Zfl at h
  cases hr:Wv G sc it with
  | some as=>
   rw [hr] at h
   exact Zei ihA ihS K hr h
  | none=>
   rw [hr] at h
   exact Zeg ihE ihS K h
 | Tuple es ctx tp=>cases es with
  | nil=>exact no h
  | cons a es=>cases a with
   | Name x p=>cases es with
    | nil=>exact no h
    | cons b2 es=>cases b2 with
     | Name y p2=>cases es with
      | nil=>
       replace h:((o2 (fun i j=>og (i≠j) (some (i,j))) (N.idxOf? x) (N.idxOf? y)).join.bind fun p=>(match XO G sc it with
        | some as=>o2 (CS.forP p.1 p.2) (cEs G n sc N as) (cSs G n sc N b)
        | none=>match WO G sc it with
         | some e=>o2 (CS.forE p.1 p.2) (cE G n sc N e) (cSs G n sc N b)
         | none=>o2 (CS.for2 p.1 p.2) (cE G n sc N it) (cSs G n sc N b)))=some c:=h
       refine b_e h fun q hq h=>j_e hq fun hq=>YJ (P:=fun o=>o=some q→PS X _ (tS X.K (ex F c))) hq (fun i j hi hj e=>Vp e fun _ e=>?_) rfl
       cases e
       cases hz:XO G sc it with
       | some as=>
        rw [hz] at h
        exact Zem ihA ihS K hi hj hz h
       | none=>
        rw [hz] at h
        dsimp only at h
        cases he:WO G sc it with
        | some e=>
         rw [he] at h
         exact Zel ihE ihS K hi hj he h
        | none=>
         rw [he] at h
         exact Zeh ihE ihS K hi hj h
      | cons c2 es=>cases c2 with
       | Name _ _=>cases es with
        | nil=>exact Zej ihE ihS K h
        | cons _ _=>exact no h
       | _=>exact no h
     | _=>exact no h
   | _=>exact no h
 | _=>exact no h
theorem Zee {n:Nat} (ihE:ZF G F n) {X:Cx}{sc:Scope}{N:List Str} (K:CxtS X G F sc N) {c:CS}{v:Expr}{pos:Pos} (h:ZgL sc N (cE G n sc N) v=some c):PS X (.Expr v pos) (tS X.K (ex F c)):=by
 have no:∀ {P:Prop},(none:Option CS)=some c→P:=fun z=>nomatch z
 cases v with
 | Call f as kw cp=>cases f with
  | Attribute o m ap=>cases o with
   | Name x p=>cases as with
    | nil=>exact no h
    | cons e es=>cases es with
     | nil=>cases kw with
      | nil=>exact Zgd ihE K h
      | cons _ _=>exact no h
     | cons _ _=>exact no h
   | _=>exact no h
  | Name f fp=>exact Zgc ihE K h
  | _=>exact no h
 | _=>exact no h
theorem Qw {n:Nat} (ihE:ZF G F n) (ihA:YY G F n) (ihS:Yh G F n) (hA:WX G F n):QC G F (n+1):=by
 intro X sc N K s c h
 have no:∀ {P:Prop},(none:Option CS)=some c→P:=fun z=>nomatch z
 cases s with
 | Assign tgs e pos=>cases tgs with
  | nil=>exact no h
  | cons t ts=>cases ts with
   | cons _ _=>cases t with
    | Subscript o k p=>cases o<;>exact no h
    | _=>exact no h
   | nil=>cases t with
    | Subscript o k p=>cases o with
     | Name x q=>exact Zgf ihE K h
     | _=>exact no h
    | _=>exact Zef ihE hA K h
 | Return e pos=>cases e with
  | none=>exact no h
  | some e=>exact Zgg ihE K h
 | If e a b pos=>exact ZhT ihE ihS K h
 | For t it b oe pos=>cases oe with
  | cons _ _=>exact no h
  | nil=>exact Zek ihE ihA ihS K h
 | Expr v pos=>exact Zee ihE K h
 | Pass pos=>
  cases (show some CS.skip=some c from h)
  exact Z0 ps_pass U5
 | Break pos=>
  cases (show some CS.brk=some c from h)
  exact Z0 ps_break Zdn
 | Raise a b pos=>
  cases (show some CS.stop=some c from h)
  exact fun pins s σ H D I q=>by
   obtain ⟨_,_,_,_,_,_,_,e,_⟩:=Yn q
   cases e
 | Continue pos=>
  cases (show some CS.cont=some c from h)
  exact Z0 ps_continue Zbc
 | _=>exact no h
theorem UE {n:Nat} (ihS:QC G F n) (ihSs:Yh G F n):Yh G F (n+1):=by
 intro X sc N K s c h
 cases s with
 | nil=>
  simp only [cSs] at h
  cases h
  exact JJ pss_nil U5
 | cons s r=>
  exact YJ (P:=fun c=>PSs X _ (tS X.K (ex F c))) (show o2 CS.seq (cS G n sc N s) (cSs G n sc N r)=some c from h) fun a b ha hb=>JJ (pss_cons (ihS X sc N K s a ha) (ihSs X sc N K r b hb)) Zdx
end
end Dp



namespace Dp
open PySem PySem.Spec PyProof.Rows L2
variable [ClsTab]
noncomputable def XU (G:Gs) (F:Nat→Fn):Prop:=∀ n,ZF G F n→(∀ X sc N,Cxt X G F sc N→∀ elt gens sc2 pos c,cE G (n+1) sc N (.ListComp elt gens sc2 pos)=some c→SE X F (.ListComp elt gens sc2 pos) c)∧WX G F (n+1)
theorem V8 {G:Gs}{F:Nat→Fn} (hc:XU G F):∀ n,(ZF G F n∧YY G F n∧Ug G F n)∧QC G F n∧Yh G F n∧WX G F n
 | 0=>⟨⟨fun X sc N K e c h=>(nomatch (show (none:Option CE)=some c from h)),fun X sc N K e c h=>(nomatch (show (none:Option CE)=some c from h)),fun X sc N K e c h=>(nomatch (show (none:Option CE)=some c from h))⟩,fun X sc N K e c h=>(nomatch (show (none:Option CS)=some c from h)),fun X sc N K e c h=>(nomatch (show (none:Option CS)=some c from h)),fun X sc N K x i p elt gens sc2 epos pos c _ h=>(nomatch (show (none:Option CE)=some c from h))⟩
 | n+1=>by
  obtain ⟨⟨hE,hA,hO⟩,hS,hSs,hCA⟩:=V8 hc n
  exact ⟨⟨Je hE hA hO (hc n hE).1,Qu hE hA,Qv hE⟩,Qw hE hA hSs hCA,UE hS hSs,(hc n hE).2⟩
noncomputable def ZaE (K:PySem.W.Frag) (G:Gs) (T:Nat→Option FD) (x y:Str) (i:Nat) (f:Addr) (fd:FuncData) (pn N:List Str):Prop:=∃ (st:Stmt) (oc:Value) (od:Option Addr) (dV kV doc pm:Value) (an:Option Addr) (cdv ct:Value) (osl:Array (Option Value)) (code:CS),
  fd=PySem.W.fnOf x y (defArgs st) (defBody st) (defScope st) dV kV doc pm an cdv ct∧K.lookup f=some ⟨oc,od,.func fd,osl⟩∧PySem.W.codeIn K cdv y=true∧FnScope N pn (defScope st)∧(∀ y∈N,Loc (defScope st) y) ∧
  cSs G 60 (defScope st) N (defBody st)=some code∧T i=some ⟨pn.length,N.length,code⟩
structure DefOk (K:PySem.W.Frag) (mg:Str→Option Value) (G:Gs) (T:Nat→Option FD) (x:Str) (i:Nat) (ds:List D) (f:Addr) (fd:FuncData) (pn N:List Str):Prop where
 ob:ZaE K G T x x i f fd pn N
 kp:PySem.W.keepIn K (.ref f)=true
 at_:mg x=some (.ref f)
 bn:∀ m,m≤ds.length→∃ dvs us,(∀ ad H,Dens K ad H dvs (ds.drop m))∧Vals dvs us∧Binds K fd pn us
structure MethOk (K:PySem.W.Frag) (G:Gs) (T:Nat→Option FD) (C:Addr) (x y:Str) (i:Nat) (f:Addr) (fd:FuncData) (pn N:List Str):Prop where
 ob:ZaE K G T x y i f fd pn N
 mt:Meth K C x f
 bn:Binds K fd pn []
structure Text (Pm:Params) (K:PySem.W.Frag) (mg:Str→Option Value) (G:Gs) (T:Nat→Option FD):Prop where
 cst:∀ x d,G.lookup x=some (.cst d)→∃ v u,mg x=some u∧RelV v u∧∀ ad H,Den K ad H v d
 blt:∀ x,G.lookup x=some .blt→mg x=none
 dct:∀ x ks ds,G.lookup x=some (.dct ks ds)→Jl Pm K mg x ks ds
 fn:∀ x i ps ds,G.lookup x=some (.fn i ps ds)→∃ f fd pn N,DefOk K mg G T x i ds f fd pn N
 cls:∀ x i ms subs,G.lookup x=some (.cls i ms subs)→(mg x=some (.ref (ClsTab.ca i))∧NewOk K (ClsTab.ca i)∧∀ i',subs.contains i'=true→SubOk K (ClsTab.ca i') (ClsTab.ca i)) ∧
  ∀ m j ps,ms.lookup m=some (j,ps)→∃ y f fd pn N,MethOk K G T (ClsTab.ca i) m y j f fd pn N
section
variable {P:Program}{w:World}{K:PySem.W.Frag}{mg:Str→Option Value}{base:Heap}{G:Gs}{T:Nat→Option FD}
theorem ZcG {sc:Scope}{x:Str} (h:Wb sc x=true):Vis sc x:=by
 unfold Wb at h
 rw [Bool.and_eq_true] at h
 have h:=h.2
 split at h
 ·rename_i q; exact .inl q
 ·rename_i q; exact .inr (.inl q)
 ·rename_i q; exact .inr (.inr q)
 ·cases h
theorem Jz {sc:Scope}{x:Str} (h:ZN sc x=true):sc.names.lookup x=some .globalImplicit:=by
 unfold ZN at h
 rw [Bool.and_eq_true] at h
 have h:=h.2
 split at h
 ·rename_i q; exact q
 ·cases h
theorem Js {sc:Scope}{x:Str} (h:Vd sc x=true):sc.names.lookup x=some .cell∨sc.names.lookup x=some .free:=by
 unfold Vd at h
 split at h
 ·rename_i q; exact .inl q
 ·rename_i q; exact .inr q
 ·cases h
theorem Zaf {K:PySem.W.Frag}{ad:List Addr}{H:Hp}{N:List Str}{vs:List V}{ds:List D} (h:Dens K ad H vs ds) (hl:ds.length≤N.length):EnvOk K ad H (L2.start N vs) (ds.map some++List.replicate (N.length - ds.length) none):=by
 have e:=h.length
 refine ⟨by unfold L2.start; simp [e],fun i d q=>?_⟩
 by_cases hi:i < ds.length
 ·rw [List.getElem?_append_left (by simpa using hi),List.getElem?_map,List.getElem?_eq_getElem hi] at q
  have q':ds[i]=d:=by simpa using q
  have g:ds[i]?=some d:=by rw [List.getElem?_eq_getElem hi,q']
  obtain ⟨v,e1,e2⟩:=h.get g
  refine ⟨v,?_,e2⟩
  unfold L2.start
  rw [List.getElem?_append_left (by simpa [e] using hi),List.getElem?_map,e1]
  rfl
 ·rw [List.getElem?_append_right (by simpa using hi),List.getElem?_replicate] at q
  split at q<;>cases q
theorem ZfF {n:Nat} (hc:∀ n,XU G (run T n)) (gl:∀ A,Room n A→∀ y g,G.lookup y=some g→GOk P w K mg base A (run T n) y g) {x y:Str}{i:Nat}{f:Addr}{fd:FuncData}{pn N:List Str} (ob:ZaE K G T x y i f fd pn N):FnOk P w K mg base CX0 (n+1) f fd pn (spD K (run T (n+1) i)):=by
 obtain ⟨st,oc,od,dV,kV,doc,pm,an,cdv,ct,osl,code,rfl,lk,hcd,S,hloc,hcode,hT⟩:=ob
 have hrun:run T (n+1) i=fnD (run T n) ⟨pn.length,N.length,code⟩:=by
  show (match T i with | some f=>fnD (run T n) f | none=>fun _ _=>none)=_
  rw [hT]
 refine fn_of lk hcd S (fun vs H Q E h=>?_) (fun A outer s H vs Q E hr h=>?_)
 ·obtain ⟨ad,es,st,d,st',_,hd,e,_⟩:=h
  rw [hrun] at e
  unfold fnD at e
  split at e
  ·rename_i hl
   rw [hd.length]
   exact hl
  ·cases e
 ·obtain ⟨ad,es,s0,d,st',S0,hd,e,p⟩:=h
  rw [hrun] at e
  unfold fnD at e
  split at e
  ·rename_i hl
   have C:CxtS (cxOf CX0 P w K mg base N y (defScope st) f cdv A outer s H E).nox G (run T n) (defScope st) N:={
    hN:=rfl
    vis:=fun y hy=>ZcG hy
    glb:=fun y hy=>Jz hy
    calm:=rfl
    hu:=hr.units
    gl:=gl _ hr
    cel:=fun y hy=>Js hy
    nx:=rfl
    nd:=S.nd
    loc:=hloc
    fn:=fun _=>rfl }
   have B:=(V8 (hc n) 60).2.2.1 _ _ _ C _ _ hcode
   have hpl:pn.length≤N.length:=by have:=congrArg List.length S.pre; rw [List.length_take] at this; omega
   have E0':=Zaf (N:=N) hd (by rw [show es.length=pn.length from hl]; exact hpl)
   refine ⟨_,B.nox,?_⟩
   split at e
   ·rename_i d' st1 q
    cases e
    exact Yv E0' S0 q p
   ·rename_i ρ st1 q
    cases e
    exact Yv E0' S0 q fun σ1 ad1 H1 x1 S1 E1=>(p.later x1).at S1 .non
   ·cases e
  ·cases e
theorem Zeu {i:Nat}{f:Addr}{fd:FuncData}{pn:List Str}:FnOk P w K mg base CX0 0 f fd pn (spD K (run T 0 i)):=by
 refine ⟨fun vs H Q E h=>?_,fun A outer s H args us vs Q E _ _ _ _ h=>?_⟩
 ·obtain ⟨_,_,_,_,_,_,_,e,_⟩:=h; cases e
 ·obtain ⟨_,_,_,_,_,_,_,e,_⟩:=h; cases e
theorem Zg1 {n:Nat} (X:Text w.params K mg G T) (F1:∀ {x y:Str}{i:Nat}{f:Addr}{fd:FuncData}{pn N:List Str},ZaE K G T x y i f fd pn N→FnOk P w K mg base CX0 n f fd pn (spD K (run T n i))) (A:Around) (hr:Room n A):∀ y g,G.lookup y=some g→GOk P w K mg base A (run T n) y g:=fun y g hg=>by
 cases g with
 | cst d=>exact X.cst y d hg
 | blt=>exact X.blt y hg
 | dct ks ds=>exact X.dct y ks ds hg
 | fn j qs es=>
  obtain ⟨f,fd,pn,N,Dk⟩:=X.fn y j qs es hg
  exact ⟨n,f,fd,pn,F1 Dk.ob,hr,Dk.at_,Dk.kp,Dk.bn⟩
 | cls i ms subs=>
  obtain ⟨⟨h1,h2,h3⟩,h4⟩:=X.cls y i ms subs hg
  refine ⟨h1,h2,h3,fun m j ps hm=>?_⟩
  obtain ⟨z,f,fd,pn,N,Mk⟩:=h4 m j ps hm
  exact ⟨n,f,fd,pn,F1 Mk.ob,hr,Mk.mt,Mk.bn⟩
theorem ZaK (hc:∀ n,XU G (run T n)) (X:Text w.params K mg G T):∀ (n:Nat) {x y:Str}{i:Nat}{f:Addr}{fd:FuncData}{pn N:List Str},ZaE K G T x y i f fd pn N→FnOk P w K mg base CX0 n f fd pn (spD K (run T n i))
 | 0,_,_,_,_,_,_,_,_=>Zeu
 | n+1,_,_,_,_,_,_,_,ob=>ZfF hc (fun A hr=>Zg1 X (fun ob=>ZaK hc X n ob) A hr) ob
end
end Dp



namespace Dp
open PySem PySem.Spec PyProof.Rows L2
variable [ClsTab]
section
variable {ad:List Addr}{H:Hp}{p:Addr}{xs ys:List V}
theorem Zbu {K:PySem.W.Frag} (hp:H p=some (.lst xs)):Keeps K ad ad H (upd H p (.lst ys)):=⟨fun h=>h.upd hp (by intro xs z; cases z),id,fun _ h=>by rw [upd_ne (ne_of h hp (by intro z; cases z))]; exact h,fun h n=>⟨by rw [upd_ne (ne_of h hp (by intro z; cases z))]; exact h,n⟩⟩
theorem Den.wr {K:PySem.W.Frag} (hp:H p=some (.lst xs)) {v:V}{d:D} (h:Den K ad H v d):Den K ad (upd H p (.lst ys)) v d:=h.map (Zbu hp)
theorem Dens.wr {K:PySem.W.Frag} (hp:H p=some (.lst xs)) {vs:List V}{ds:List D} (h:Dens K ad H vs ds):Dens K ad (upd H p (.lst ys)) vs ds:=h.map (Zbu hp)
theorem EnvOk.wr {K:PySem.W.Frag}{σ:L2.St}{ρ:Env} (hp:H p=some (.lst xs)) (h:EnvOk K ad H σ ρ):EnvOk K ad (upd H p (.lst ys)) σ ρ:=⟨h.len,fun i d e=>let ⟨v,e1,e2⟩:=h.at_ i d e; ⟨v,e1,e2.wr hp⟩⟩
theorem StOk.wr {K:PySem.W.Frag}{st:Za} (S:StOk K ad H st) (hp:H p=some (.lst xs)) (hn:p∉ad):StOk K ad (upd H p (.lst ys)) st:=
 ⟨S.len,S.nd,fun i c e=>by
  obtain ⟨a,h,zs,r,q⟩:=S.cell i c e
  have ne:a≠p:=fun z=>hn (by rw [←z]; exact List.mem_of_getElem? h)
  refine ⟨a,h,zs,r.wr hp,?_⟩
  rcases q with ⟨b,q⟩ | ⟨b,⟨o,q⟩ | q⟩
  ·exact .inl ⟨b,by rw [upd_ne ne]; exact q⟩
  ·exact .inr ⟨b,.inl ⟨o,by rw [upd_ne ne]; exact q⟩⟩
  ·exact .inr ⟨b,.inr q⟩⟩
theorem Ext.wr {ad0:List Addr}{H0:Hp} (x:Ext ad0 H0 ad H) (hp:H p=some (.lst xs)) (h0:H0 p=none):Ext ad0 H0 ad (upd H p (.lst ys)):=by
 refine ⟨x.pre,fun b zs h=>?_,fun b zs h=>?_,fun b o h n=>?_,x.new⟩
 ·rw [upd_ne (ne_of_none h h0)]; exact x.tup b zs h
 ·rw [upd_ne (ne_of_none h h0)]; exact x.dk b zs h
 ·rw [upd_ne (ne_of_none h h0)]; exact x.keep b o h n
end
theorem Vj {c:Str→NameKind→Bool}:∀ {l:List (Str×NameKind)}{y:Str},(l.map fun (n,k)=>if c n k=true then (n,NameKind.cell) else (n,k)).lookup y=(l.lookup y).map fun k=>if c y k=true then NameKind.cell else k
 | [],_=>rfl
 | (n,k) :: r,y=>by
  have ih:=@Vj c r y
  rw [List.map_cons]
  have e:(if c n k=true then (n,NameKind.cell) else (n,k))=(n,if c n k=true then NameKind.cell else k):=by split<;>rfl
  show List.lookup y ((if c n k=true then (n,NameKind.cell) else (n,k)) :: _)=_
  rw [e,List.lookup_cons,List.lookup_cons]
  cases q:y==n with
  | true=>rw [beq_iff_eq.mp q]; rfl
  | false=>exact ih
theorem YS {sc:Scope}{env:PySem.Env}{y:Str}:(relabel sc env).names.lookup y=(sc.names.lookup y).map fun k=>if (k==NameKind.free&&env.scope.kind==.function&&env.kindOf y==some .cell)=true then NameKind.cell else k:=
 Vj (c:=fun n k=>k==NameKind.free&&env.scope.kind==.function&&env.kindOf n==some .cell)
theorem Y2 {sc:Scope}{env:PySem.Env}{y:Str}{k:NameKind} (h:sc.names.lookup y=some k) (hk:k≠.free):(relabel sc env).names.lookup y=some k:=by
 rw [YS,h]
 have:(k==NameKind.free)=false:=by simpa using hk
 show some (if (k==NameKind.free&&_&&_)=true then NameKind.cell else k)=some k
 rw [this,Bool.false_and,Bool.false_and,if_neg Bool.false_ne_true]
theorem Xi {sc:Scope}{env:PySem.Env}{y:Str} (h:sc.names.lookup y=some .free):(relabel sc env).names.lookup y=some .cell∨(relabel sc env).names.lookup y=some .free:=by
 rw [YS,h]
 show (some (if _ then NameKind.cell else NameKind.free))=_∨(some (if _ then NameKind.cell else NameKind.free))=_
 split
 ·exact .inl rfl
 ·exact .inr rfl
theorem UB {sc:Scope}{env:PySem.Env}{y:Str} (hc:∀ p∈sc.names,p.2≠.cell) (h:(relabel sc env).names.lookup y=some .cell∨(relabel sc env).names.lookup y=some .free):sc.names.lookup y=some .free:=by
 rw [YS] at h
 cases q:sc.names.lookup y with
 | none=>rw [q] at h; rcases h with h | h<;>cases h
 | some k=>
  rw [q] at h
  cases k with
  | free=>rfl
  | cell=>
   have:∀ {l:List (Str×NameKind)},l.lookup y=some .cell→∃ p∈l,p.2=.cell:=fun {l} e=>by
    induction l with
    | nil=>cases e
    | cons a l ih=>
     obtain ⟨n,k⟩:=a
     rw [List.lookup_cons] at e
     split at e
     ·cases e; exact ⟨_,List.mem_cons_self,rfl⟩
     ·obtain ⟨p,hp,e'⟩:=ih e; exact ⟨p,List.mem_cons_of_mem _ hp,e'⟩
   obtain ⟨p,hp,e⟩:=this q
   exact absurd e (hc p hp)
  | _=>rcases h with h | h<;>simp at h
theorem XY {env:PySem.Env}:∀ (l:List (Str×NameKind)) (acc:List (Str×Addr)),(∀ p∈l,p.2=.free→∃ c,env.cells.lookup p.1=some c)→
  ∃ cl,(forIn l acc fun (x:Str×NameKind) (r:List (Str×Addr))=>(do
   if (x.2==NameKind.free)=true then
    let a ←cellOf env x.1
    pure (ForInStep.yield ((x.1,a) :: r))
   else pure (ForInStep.yield r):Sem (ForInStep (List (Str×Addr)))))=pure cl ∧
   (∀ y c,cl.lookup y=some c→acc.lookup y=some c∨((y,NameKind.free)∈l∧env.cells.lookup y=some c))∧(∀ y,(y,NameKind.free)∈l∨(acc.lookup y).isSome→(cl.lookup y).isSome)
 | [],acc,_=>⟨acc,by simp only [List.forIn_nil],fun y c h=>.inl h,fun y h=>by simpa using h⟩
 | (n,k) :: l,acc,h=>by
  by_cases hk:k=.free
  ·subst hk
   obtain ⟨c0,hc0⟩:=h (n,.free) List.mem_cons_self rfl
   obtain ⟨cl,e,h1,h2⟩:=XY (env:=env) l ((n,c0) :: acc) fun p hp=>h p (List.mem_cons_of_mem _ hp)
   refine ⟨cl,?_,fun y c q=>?_,fun y q=>?_⟩
   ·rw [List.forIn_cons]
    simp only [beq_self_eq_true,if_true]
    have:cellOf env n=pure c0:=by unfold cellOf; rw [hc0]
    simp only [this,pure_bind]
    exact e
   ·rcases h1 y c q with z | ⟨z1,z2⟩
    ·rw [List.lookup_cons] at z
     split at z
     ·rename_i hy
      cases z
      rw [beq_iff_eq.mp hy]
      exact .inr ⟨List.mem_cons_self,hc0⟩
     ·exact .inl z
    ·exact .inr ⟨List.mem_cons_of_mem _ z1,z2⟩
   ·refine h2 y ?_
    rcases q with q | q
    ·rcases List.mem_cons.mp q with z | z
     ·cases z
      exact .inr (by rw [List.lookup_cons]; simp)
     ·exact .inl z
    ·refine .inr ?_
     rw [List.lookup_cons]
     split
     ·rfl
     ·exact q
  ·obtain ⟨cl,e,h1,h2⟩:=XY (env:=env) l acc fun p hp=>h p (List.mem_cons_of_mem _ hp)
   refine ⟨cl,?_,fun y c q=>?_,fun y q=>?_⟩
   ·rw [List.forIn_cons]
    have:(k==NameKind.free)=false:=by simpa using hk
    simp only [this,Bool.false_eq_true,if_false,pure_bind]
    exact e
   ·rcases h1 y c q with z | ⟨z1,z2⟩
    ·exact .inl z
    ·exact .inr ⟨List.mem_cons_of_mem _ z1,z2⟩
   ·refine h2 y ?_
    rcases q with q | q
    ·rcases List.mem_cons.mp q with z | z
     ·cases z; exact absurd rfl hk
     ·exact .inl z
    ·exact .inr q
theorem US {env:PySem.Env}{sc:Scope} (h:∀ p∈sc.names,p.2=.free→∃ c,env.cells.lookup p.1=some c):∃ cl,closureFor sc env=pure cl∧(∀ y c,cl.lookup y=some c→env.cells.lookup y=some c)∧∀ y,(y,NameKind.free)∈sc.names→(cl.lookup y).isSome:=by
 obtain ⟨cl,e,h1,h2⟩:=XY (env:=env) sc.names [] h
 refine ⟨cl,?_,fun y c q=>?_,fun y q=>h2 y (.inl q)⟩
 ·unfold closureFor
  rw [show (fun (x:Str×NameKind) (r:List (Str×Addr))=>_)=_ from rfl] at e
  first | exact (by simp only [e,pure_bind]) | (simp only [bind_pure] at *; exact e) | exact e
 ·rcases h1 y c q with z | ⟨_,z⟩
  ·cases z
  ·exact z
end Dp



namespace Dp
open PySem PySem.Spec PyProof.Rows L2
variable [ClsTab]
theorem UT {prog:Program}{w:World}{A:Around}{R:Result→Shared→Prop}{s:Shared}{elt target iter:Expr}{ifs:List Expr}{scope:Scope}{pos:Pos}{it acc:Value}{env:PySem.Env} (I:Nat→Shared→Prop)
  (turn:∀ n s,I n s→wpAny (model prog w) A (pyNext it) (fun r s₁=>match r with
   | none=>R (.ok .next) s₁
   | some v=>wpAny (model prog w) A (letOwnedTupleGo target it v) (fun _ s₁'=>wpAny (model prog w) A (assign target env v) (fun _ s₂=>
     wpAny (model prog w) A (forIn ifs true fun c r=>if r=true then do let ok ←isTrue c env (eval c env); pure (ForInStep.yield ok) else pure (ForInStep.yield r)) (fun ok s₃=>
      if ok=true then wpAny (model prog w) A (eval elt env) (fun x s₄=>
       wpAny (model prog w) A (call (.builtin "list.append") [acc,x]) (fun _ s₅=>∃ m,m < n∧I m s₅) (notedBy (model prog w) A env fun e s'=>R (.error e) s') s₄) (notedBy (model prog w) A env fun e s'=>R (.error e) s') s₃
      else ∃ m,m < n∧I m s₃) (notedBy (model prog w) A env fun e s'=>R (.error e) s') s₂) (notedBy (model prog w) A env fun e s'=>R (.error e) s') s₁') (notedBy (model prog w) A env fun e s'=>R (.error e) s') s₁) (notedBy (model prog w) A env fun e s'=>R (.error e) s') s)
  (n:Nat) (h:I n s):codeAny (model prog w) A (.compLoop (.ListComp elt [⟨target,iter,ifs,0⟩] scope pos) 0 it acc env) R s:=by
 refine codeAny_loop rfl I (fun n s hI=>?_) n h
 show wpAny _ A ((compTurn (.ListComp elt [⟨target,iter,ifs,0⟩] scope pos) 0 it acc env).onRaise (fun x=>do noteFrame x env; theTreesLotGoes x)) _ _ s
 refine wpAny_noted ?_
 rw [compTurn_list]
 refine wpAny_bind (wpAny_standAt (wpAny_bind (wpAny_mono (turn n s hI) (fun r s₁ h₁=>?_) fun _ _ h'=>h')))
 cases r with
 | none=>exact wpAny_pure h₁
 | some v=>
  refine wpAny_bind (wpAny_mono h₁ (fun _ s₁' h₁=>?_) fun _ _ h'=>h')
  refine wpAny_bind (wpAny_mono h₁ (fun _ s₂ h₂=>wpAny_bind (wpAny_mono h₂ (fun ok s₃ h₃=>?_) fun _ _ h'=>h')) fun _ _ h'=>h')
  cases ok with
  | false=>exact wpAny_pure ⟨rfl,h₃⟩
  | true=>
   exact wpAny_bind (wpAny_bind (wpAny_mono h₃ (fun x s₄ h₄=>wpAny_bind (wpAny_mono h₄ (fun _ s₅ h₅=>wpAny_pure (wpAny_pure ⟨rfl,h₅⟩)) fun _ _ h'=>h')) fun _ _ h'=>h'))
noncomputable def cxC (X:Cx) (N:List Str) (env:PySem.Env) (s3:Shared) (H3:Hp) (fp:List Addr) (pins:List (Addr×Obj)):Cx:=
 { X with N:=N,s₀:=s3,H₀:=H3,env:=env,outer:=X.stack,ex:=fp,fn:=fun _=>false,pn:=X.pn++pins,xe:=fun _ _=>False }
section
variable {X:Cx}{pins:List (Addr×Obj)}{σ:L2.St}{H H3:Hp}{s3:Shared}{sc2:Scope}{cl:List (Str×Addr)}{fp:List Addr}{N:List Str}
theorem Zbr (I3:L2.Inv X pins σ H3 s3) {m0:Str→Option Value}{h4:Heap}{tk:Nat}{σ':L2.St} (hk:sc2.kind=.function) (hcell:∀ p∈sc2.names,p.2≠.cell)
  (hns:h4.Ns s3.heap.objs.size m0) (up:∀ b u,s3.heap.get? b=some u→h4.get? b=some u)
  (c1:∀ y c,cl.lookup y=some c→X.env.cells.lookup y=some c) (c2:∀ y,sc2.names.lookup y=some .free→(cl.lookup y).isSome)
  (f3:∀ b∈fp,FpOk X pins H3 b) (fb:∀ b∈fp,b < s3.heap.objs.size)
  (hσ:∀ (i:Nat) (y:Str) (v:V),N[i]?=some y→σ'[i]?=some (some v)→∃ j:Nat,X.N[j]?=some y∧σ[j]?=some (some v)∧sc2.names.lookup y=some .free∧(X.env.scope.names.lookup y=some .cell∨X.env.scope.names.lookup y=some .free)) (hl:σ'.length=N.length) :
  L2.Inv (cxC X N (compEnvC sc2 cl s3.heap.objs.size X.env) s3 H3 fp pins) [] σ' H3 { s3 with heap:=h4,toks:=tk } where
 ok:={
  mod:=I3.ok.mod
  kind:=hk
  glob:=I3.ok.glob
  blt:=I3.ok.blt
  above:=Nat.le_refl _
  inj:=fun x y c e e'=>I3.ok.inj x y c (c1 _ _ e) (c1 _ _ e')
  has:=fun x h=>by
   have e:=UB (env:=X.env) hcell h
   have:=c2 x e
   cases q:cl.lookup x with
   | none=>rw [q] at this; cases this
   | some c=>exact ⟨c,q⟩
  cab:=fun x c h=>nomatch h
  hd:=I3.ok.hd
  frames:=I3.ok.frames
  stk:=.inl rfl
  exf:=fun b hb=>⟨Nat.ne_of_lt (fb b hb),fun x c e=>(f3 b hb).2.2.2.2.1 x c (c1 _ _ e)⟩
  bs:=I3.bs
  bsz:=Nat.le_trans I3.ok.bsz I3.sz
  noex:=fun b o e hb=>by
   rcases (f3 b hb).2.2.2.1 with z | z
   ·exact I3.ok.noex b o e z
   ·exact absurd (Nat.lt_of_lt_of_le (Heap.lt_size e) (Nat.le_trans I3.ok.bsz z)) (Nat.lt_irrefl _)
  exfs:=fun b hb hs=>by
   rcases List.mem_cons.mp (I3.stkSub b hs) with z | z
   ·exact (f3 b hb).2.1 z
   ·exact (f3 b hb).2.2.1 z
  funs:=I3.stack
  frf:=I3.stkFree }
 os:=rfl
 bare:=I3.bare
 base:=Un.kept up
 loc:=⟨m0,hns,fun i y v e1 e2 e3=>by
  obtain ⟨j,g1,g2,g3,g4⟩:=hσ i y v e1 e2
  obtain ⟨m,hn,hl'⟩:=I3.loc
  obtain ⟨u,r,l⟩:=hl' j y v g1 g2 (.inr g4)
  refine ⟨u,r,.inr ⟨Xi g3,?_⟩⟩
  rcases l with ⟨z,_⟩ | ⟨_,c,e,z⟩
  ·have z':X.env.scope.names.lookup y=some .local:=z
   rcases g4 with w | w<;>(rw [z'] at w; cases w)
  ·have q:=c2 y g3
   cases q':cl.lookup y with
   | none=>rw [q'] at q; cases q
   | some c'=>
    have:=c1 _ _ q'
    rw [e] at this; cases this
    obtain ⟨o,ho,hd⟩:=z
    exact ⟨c,q',o,up c o ho,hd⟩⟩
 cell:=fun y c e=>by
  obtain ⟨v,o,ho,hd⟩:=I3.cell y c (c1 _ _ e)
  exact ⟨v,o,up c o ho,hd⟩
 free:=I3.hok.fresh (Nat.le_refl _)
 freeC:=fun y c e=>I3.freeC y c (c1 _ _ e)
 pin:=fun p hp=>by
  have hp':p∈X.pn++pins:=by simpa [cxC] using hp
  obtain ⟨e,n,ne,nf,d⟩:=I3.pin p hp'
  refine ⟨up _ _ e,n,Nat.ne_of_lt (Heap.lt_size e),fun hs=>?_,d⟩
  rcases List.mem_cons.mp (I3.stkSub _ hs) with z | z
  ·exact ne z
  ·exact nf z
 hok:=I3.hok.kept up
 len:=hl
theorem Zbq (I3:L2.Inv X pins σ H3 s3) {env:PySem.Env}{pins':List (Addr×Obj)}{σ':L2.St}{H':Hp}{s':Shared}{h':Heap} (hC:env.locals=s3.heap.objs.size) (I':L2.Inv (cxC X N env s3 H3 fp pins) pins' σ' H' s') (sb:Heap.SameBut s3.heap.objs.size s'.heap h')
  (f3:∀ b∈fp,FpOk X pins H3 b):L2.Inv X pins σ H' { s' with heap:=h' }:=by
 have u:Un (frs X.stack) fp H3 H' s3.heap s'.heap:=I'.base
 have ne:∀ b o,s3.heap.get? b=some o→b≠s3.heap.objs.size:=fun b o e=>Nat.ne_of_lt (Heap.lt_size e)
 have fr:H' s3.heap.objs.size=none:=by have:=I'.free; rw [show (cxC X N env s3 H3 fp pins).env.locals=s3.heap.objs.size from hC] at this; exact this
 refine I3.call' (s':={ s' with heap:=h' }) (ch:=fp) I'.os ⟨fun b o e n hb hx=>?_,fun b o e n hb hx=>?_,u.free,fun b o e hx=>?_,u.tups,u.frzs,u.tbls⟩ (fun b ob e=>?_) I'.bare (fun b hb=>?_)
 ·exact (sb.2 b (ne b o e)).trans (u.keep b o e n hb hx)
 ·obtain ⟨sl,e1⟩:=u.slot b o e n hb hx
  exact ⟨sl,(sb.2 b (ne b o e)).trans e1⟩
 ·obtain ⟨o',e1⟩:=u.there b o e hx
  exact ⟨o',(sb.2 b (ne b o e)).trans e1⟩
 ·refine (I'.hok b ob e).stay (fun c w' hc q=>(sb.2 c ?_).trans q) (fun _ q=>q) fun _ _ q=>q
  rintro rfl
  rcases hc with rfl | hc
  ·rw [fr] at e; cases e
  ·rw [fr] at hc; cases hc
 ·exact ⟨(f3 b hb).2.2.2.1,(f3 b hb).2.1,(f3 b hb).2.2.2.2.1,(f3 b hb).2.2.2.2.2⟩
end
end Dp



namespace Dp
open PySem PySem.Spec PyProof.Rows L2
variable [ClsTab]
theorem Vq {N:List Str}:∀ {l:List Str}{fr:List Nat},Xz N l=some fr→fr.length=l.length∧∀ (i:Nat) (k:Nat),fr[i]?=some k→∃ y,l[i]?=some y∧N[k]?=some y
 | [],fr,h=>by cases h; exact ⟨rfl,fun i k e=>by simp at e⟩
 | x :: r,fr,h=>by
  unfold Xz at h
  split at h
  ·rename_i a as e1 e2
   cases h
   obtain ⟨h1,h2⟩:=Vq e2
   refine ⟨by simp [h1],fun i k e=>?_⟩
   cases i with
   | zero=>simp at e; subst e; exact ⟨x,rfl,X1 e1⟩
   | succ i=>exact h2 i k (by simpa using e)
  ·cases h
theorem StOk.lt {X:Cx}{pins:List (Addr×Obj)}{σ:L2.St}{H:Hp}{s:Shared}{ad:List Addr}{st:Za}{a:Addr} (I:L2.Inv X pins σ H s) (S:StOk X.K ad H st) (h:a∈ad):a < s.heap.objs.size:=by
 obtain ⟨i,hi,e⟩:=List.getElem_of_mem h
 have hi':i < st.length:=by rw [←S.len]; exact hi
 obtain ⟨a',e',xs,r,q⟩:=S.cell i _ (List.getElem?_eq_getElem hi')
 rw [List.getElem?_eq_getElem hi,e] at e'
 cases e'
 rcases q with ⟨_,q⟩ | ⟨_,⟨o,q⟩ | ⟨o,its,n,⟨h1,_⟩,_⟩⟩
 ·exact I.hok.lt q
 ·exact I.hok.lt q
 ·exact Heap.lt_size (I.kIn a o h1)
theorem Za2 {K:PySem.W.Frag}{ad:List Addr}{H:Hp}{σ bs:L2.St}{ρ:Env}{fr:List Nat}{b:D→List (Option D)}{d:D} (E:EnvOk K ad H σ ρ) (hd:EnvOk K ad H bs (b d)):EnvOk K ad H (bs++fr.map fun i=>(σ[i]?).join) (Y0 b ρ fr d):=by
 refine ⟨by simp [Y0,hd.len],fun i e h=>?_⟩
 unfold Y0 at h
 by_cases hi:i < (b d).length
 ·rw [List.getElem?_append_left hi] at h
  rw [List.getElem?_append_left (by rw [hd.len]; exact hi)]
  exact hd.at_ i e h
 ·have hi:(b d).length≤i:=Nat.le_of_not_lt hi
  rw [List.getElem?_append_right hi,List.getElem?_map] at h
  rw [List.getElem?_append_right (by rw [hd.len]; exact hi),List.getElem?_map,hd.len]
  cases q:fr[i - (b d).length]? with
  | none=>rw [q] at h; cases h
  | some k=>
   rw [q] at h
   have h:(ρ[k]?).join=some e:=by simpa using h
   have h2:ρ[k]?=some (some e):=by
    cases z:ρ[k]? with
    | none=>rw [z] at h; cases h
    | some o=>rw [z] at h; rw [show o=some e from h]
   obtain ⟨w,e1,e2⟩:=E.at_ k e h2
   exact ⟨w,by simp [e1],e2⟩
noncomputable def WW (K:PySem.W.Frag) (tg:Expr) (xs:List Str) (b:D→List (Option D)) (ds:List D):Prop:=
 ∀ X:Cx,X.K=K→X.calm=true→X.N.Nodup→(∀ (i:Nat) x,xs[i]?=some x→X.N[i]?=some x)→(∀ y∈xs,X.env.scope.names.lookup y=some .local)→∀ (pins:List (Addr×Obj)) (s:Shared) (os fv:L2.St) (H:Hp) (ad:List Addr) (v:V) (u:Value) (d:D),os.length=xs.length→L2.Inv X pins (os++fv) H s→RelV v u→Den K ad H v d→d∈ds→
  wpAny (model X.prog X.w) X.A (assign tg X.env u) (fun _ s'=>∃ bs,bs.length=xs.length∧EnvOk K ad H bs (b d)∧L2.Inv X pins (bs++fv) H s') X.xe s
theorem UO {K:PySem.W.Frag}{x:Str}{px:Pos}{ds:List D}:WW K (.Name x px) [x] one ds:=by
 intro X hK hc hN hx hl pins s os fv H ad v u d ho I r dv _
 obtain ⟨o,rfl⟩:∃ o,os=[o]:=by match os,ho with | [o],_=>exact ⟨o,rfl⟩
 have lx:=hl x List.mem_cons_self
 have pg:PG X (.Name x px) (gName 0):=pg_name hN (hx 0 x rfl) (.inl lx) (.inr lx)
 refine thn (pg pins s _ H v u (fun σ' H'=>σ'=[some v]++fv∧H'=H) I r ⟨rfl,rfl⟩) fun _ s' ⟨σ',H',I',e,e'⟩=>?_
 subst e; subst e'
 exact ⟨[some v],rfl,⟨rfl,fun i e h=>by
  cases i with
  | zero=>cases h; exact ⟨v,rfl,dv⟩
  | succ i=>exact nomatch (show (none:Option (Option D))=some (some e) from h)⟩,I'⟩
section
variable {X:Cx}{G:Gs}{F:Nat→Fn}{sc sc2:Scope}{N xs:List Str}
theorem YH (h:Xr sc sc2 xs=true):sc2.kind=.function∧(∀ p∈sc2.names,p.2≠.cell)∧(∀ x∈xs,sc2.names.lookup x=some .local)∧(∀ p∈sc2.names,p.2=.local→sc2.names.lookup p.1=some .local)∧(xs++Z3 sc2).Nodup∧∀ y∈Z3 sc2,Vd sc y=true∧sc2.names.lookup y=some .free:=by
 unfold Xr at h
 simp only [Bool.and_eq_true,decide_eq_true_eq,List.all_eq_true,Bool.or_eq_true,Bool.not_eq_true',decide_eq_false_iff_not] at h
 obtain ⟨⟨⟨⟨⟨h1,h2⟩,h3⟩,h4⟩,h5⟩,h6⟩:=h
 exact ⟨h1,h2,h3,fun p hp e=>(h4 p hp).elim (fun z=>absurd e z) id,h5,h6⟩
theorem mem_frees {y:Str}:y∈Z3 sc2↔(y,NameKind.free)∈sc2.names:=by
 unfold Z3
 rw [List.mem_map]
 constructor
 ·rintro ⟨⟨n,k⟩,h,rfl⟩
  rw [List.mem_filter] at h
  have:k=.free:=of_decide_eq_true h.2
  rw [←this]; exact h.1
 ·intro h
  exact ⟨(y,.free),List.mem_filter.mpr ⟨h,by simp⟩,rfl⟩
theorem mem_of_lookup {y:Str}{k:NameKind}:∀ {l:List (Str×NameKind)},l.lookup y=some k→(y,k)∈l
 | [],h=>by cases h
 | (n,q) :: l,h=>by
  rw [List.lookup_cons] at h
  split at h
  ·rename_i e
   cases h
   rw [beq_iff_eq.mp e]
   exact List.mem_cons_self
  ·exact List.mem_cons_of_mem _ (mem_of_lookup h)
theorem ZaZ (Kx:Cxt X G F sc N) (hsc:Xr sc sc2 xs=true) {cl:List (Str×Addr)}{C:Addr}{s3:Shared}{H3:Hp}{fp:List Addr}{pins:List (Addr×Obj)}:Cxt (cxC X (xs++Z3 sc2) (compEnvC sc2 cl C X.env) s3 H3 fp pins) G F sc2 (xs++Z3 sc2):=by
 obtain ⟨h1,h2,h3,h4,h5,h6⟩:=YH hsc
 exact {
  hN:=rfl
  vis:=fun y hy=>by
   rcases ZcG hy with z | z | z
   ·exact .inl (Y2 z (by intro q; cases q))
   ·exact absurd rfl (h2 _ (mem_of_lookup z))
   ·rcases Xi (env:=X.env) z with w | w
    ·exact .inr (.inl w)
    ·exact .inr (.inr w)
  glb:=fun y hy=>Y2 (Jz hy) (by intro q; cases q)
  calm:=Kx.calm
  hu:=Kx.hu
  gl:=Kx.gl
  cel:=fun y hy=>by
   rcases Js hy with z | z
   ·exact absurd rfl (h2 _ (mem_of_lookup z))
   ·exact Xi z
  nx:=rfl }
theorem ZaX {ok:Za→Prop}{f c:D→Za→Res}{xs:List D}{st:Za}{r:List D×Za} (h:YA ok f c xs st=some r):ok st:=by
 unfold YA at h
 split at h
 ·split at h
  ·assumption
  ·cases h
 ·split at h
  ·assumption
  ·cases h
noncomputable def evB (F:Nat→Fn) (c:CE) (b:D→List (Option D)) (ρ:Env) (fr:List Nat):D→Za→Res:=fun d s=>ev F c (Y0 b ρ fr d) s
inductive CI (X:Cx) (tn:Nat→Heap→Prop) (fp:List Addr) (fv σ:L2.St) (ρ:Env) (w:Nat) (ds:List D) (go:List D→Za→Option (List D×Za)) (Good:List Addr→Hp→Prop) (dd:Addr) (ad2:List Addr) (H2:Hp) (st':Za) (ys:List D) (m:Nat) (s:Shared):Prop
 | mk (i:Nat) (o0:L2.St) (H:Hp) (ad:List Addr) (st:Za) (vs:List V) (es zs:List D) (him:i+m=ds.length) (hol:o0.length=w) (I:L2.Inv X [] (o0++fv) H s) (ti:tn i s.heap) (fi:∀ b∈fp,H b=none) (En:EnvOk X.K ad H σ ρ) (S:StOk X.K ad H st) (Gd:Good ad H) (nd:dd∉ad) (hv:H dd=some (.lst vs)) (rv:Dens X.K ad H vs es) (hel:es.length≤i)
  (hcp:go (ds.drop i) st=some (zs,st')) (hys:es++zs=ys) (ex:Ext ad2 H2 ad H):CI X tn fp fv σ ρ w ds go Good dd ad2 H2 st' ys m s
theorem Zab (Kx:Cxt X G F sc2 N) {n:Nat} (ihE:ZF G F n) {elt iter tg:Expr}{pos:Pos}{ifs:List Expr}{fr:List Nat}{ce cc:CE}{bd:D→List (Option D)} (hce:cE G n sc2 N elt=some ce) (hcc:(ifs=[]∧cc=.cst (.bl true))∨∃ e,ifs=[e]∧cE G n sc2 N e=some cc)
  {J:It}{fp:List Addr}{it:Addr}{tn:Nat→Heap→Prop}{ds:List D}{ok:Za→Prop}{Good:List Addr→Hp→Prop} (gm:∀ ad H ad' H',Ext ad H ad' H'→Good ad H→Good ad' H') (gw:∀ ad H p xs ys,H p=some (.lst xs)→Good ad H→Good ad (upd H p (.lst ys)))
  (go:∀ i ad H st,Good ad H→StOk X.K ad H st→ok st→i < ds.length→J.go i H) (stop:∀ i ad H st,Good ad H→StOk X.K ad H st→ok st→ds.length=i→J.stop i H) (yl:∀ i ad H st v H',Good ad H→StOk X.K ad H st→ok st→J.yld i H v H'→i < ds.length→Ext ad H ad H'∧StOk X.K ad H' st∧∃ d,ds[i]?=some d∧Den X.K ad H' v d)
  (T:Turn X.prog X.w X.K tg J fp it tn) (B:WW X.K tg xs bd ds) (hN:X.N.Nodup) (hx:∀ (i:Nat) x,xs[i]?=some x→X.N[i]?=some x) (hl:∀ y∈xs,X.env.scope.names.lookup y=some .local) (exx:X.xe=fun _ _=>False)
  (fpk:∀ {H:Hp},(∀ b∈fp,H b=none)→∀ b∈fp,FpOk X [] H b) {fv σ:L2.St}{ρ:Env} (ec:∀ {ad H bs d},EnvOk X.K ad H σ ρ→EnvOk X.K ad H bs (bd d)→EnvOk X.K ad H (bs++fv) (Y0 bd ρ fr d)) {dd:Addr}{ad2:List Addr}{H2:Hp}{st':Za}{ys:List D} (D0:H2 dd=none) (hz:ds.length≤1000) {R:Result→Shared→Prop}
  (done:∀ s5 σ5 H ad vs,L2.Inv X [] σ5 H s5→StOk X.K ad H st'→dd∉ad→H dd=some (.lst vs)→Dens X.K ad H vs ys→Ext ad2 H2 ad H→R (.ok .next) s5) {s:Shared}{m:Nat} (h0:CI X tn fp fv σ ρ xs.length ds (YA ok (evB F ce bd ρ fr) (evB F cc bd ρ fr)) Good dd ad2 H2 st' ys m s) :
  codeAny (model X.prog X.w) X.A (.compLoop (.ListComp elt [⟨tg,iter,ifs,0⟩] sc2 pos) 0 (.ref it) (.ref dd) X.env) R s:=by
 refine UT _ (fun m s h=>?_) m h0
 cases h with
 | mk i o0 H ad st vs es zs him hol I ti fi En S Gd nd hv rv hel hcp hys ex=>
 have oks:=ZaX hcp
 have none_of:∀ {E:Value→Shared→Prop}{α:Type}{t:Sem α}{R:α→Shared→Prop}{s0:Shared},wpAny (model X.prog X.w) X.A t R X.xe s0→wpAny (model X.prog X.w) X.A t R E s0:=fun h=>by
  rw [exx] at h
  exact wpAny_mono h (fun _ _ q=>q) fun _ _ q=>q.elim
 by_cases hi:i < ds.length
 ·refine thn (T.item X rfl rfl rfl Kx.calm i [] s _ H _ I (fpk fi) ti (go i ad H st Gd S oks hi)) fun r s5 ⟨u,hr,h5'⟩=>?_
  subst hr
  refine thn h5' fun _ s6 ⟨v,H',I6,r6,y6,t6,f6⟩=>?_
  obtain ⟨x6,S6,d,ed,dv⟩:=yl i ad H st v H' Gd S oks y6 hi
  have hd:ds.drop i=d :: ds.drop (i+1):=by
   rw [List.drop_eq_getElem_cons hi]
   rw [List.getElem?_eq_getElem hi] at ed
   cases ed; rfl
  refine thn (none_of (B X rfl Kx.calm hN hx hl _ s6 o0 _ H' ad v u _ hol (I6.pinned (fpk f6) (T.obj _ _ t6)) r6 dv (List.mem_of_getElem? ed))) fun _ s7 ⟨bs,lb,Eb,I7⟩=>?_
  have En6:=En.mono x6
  have En7:=ec En6 Eb
  -- behind the item's turn
  have again:∀ {H9:Hp}{s9:Shared}{ad9:List Addr}{st9:Za}{vs9:List V}{es9 zs9:List D},L2.Inv X ([]++pinsAt fp s6.heap) (bs++fv) H9 s9→StOk X.K ad9 H9 st9→Good ad9 H9→dd∉ad9→H9 dd=some (.lst vs9)→Dens X.K ad9 H9 vs9 es9→es9.length≤i+1→
    YA ok (evB F ce bd ρ fr) (evB F cc bd ρ fr) (ds.drop (i+1)) st9=some (zs9,st')→es9++zs9=ys→Ext ad2 H2 ad9 H9→EnvOk X.K ad9 H9 σ ρ→
    ∃ m',m' < m∧CI X tn fp fv σ ρ xs.length ds (YA ok (evB F ce bd ρ fr) (evB F cc bd ρ fr)) Good dd ad2 H2 st' ys m' s9:=
   fun I9 S9 G9 n9 v9 r9 l9 c9 y9 x9 e9=>
    have pk:=fun b hb o e=>I9.pin (b,o) (List.mem_append_right _ (List.mem_append_right _ (mem_pinsAt hb e)))
    ⟨m - 1,by omega,.mk (i+1) bs _ _ _ _ _ _ (by omega) lb I9.unpinned (T.keep _ _ _ t6 fun b hb o e=>(pk b hb o e).1) (fun b hb=>let ⟨o,e,_⟩:=T.obj _ _ t6 b hb; (pk b hb o e).2.1) e9 S9 G9 n9 v9 r9 l9 c9 y9 x9⟩
  -- the tests
  have tests:∀ {k:Bool}{st2:Za},evB F cc bd ρ fr d st=some (.bl k,st2)→∀ {R:Bool→Shared→Prop}{E:Value→Shared→Prop},(∀ s8 H8 ad8,L2.Inv X ([]++pinsAt fp s6.heap) (bs++fv) H8 s8→Ext ad H' ad8 H8→StOk X.K ad8 H8 st2→R k s8)→
    wpAny (model X.prog X.w) X.A (forIn ifs true fun c r=>if r=true then do let ok ←isTrue c X.env (eval c X.env); pure (ForInStep.yield ok) else pure (ForInStep.yield r)) R E s7:=fun {k st2} q {R E} hR=>by
   rcases hcc with ⟨rfl,rfl⟩ | ⟨e,rfl,he⟩
   ·cases q
    exact wpAny_tests_nil (hR s7 H' ad I7 (Ext.refl _ _) S6)
   ·refine wpAny_tests_one (thn (none_of ((ihE X sc2 _ Kx e cc he).pt _ s7 _ H' (fun k' H8=>k'=k∧∃ ad8,Ext ad H' ad8 H8∧StOk X.K ad8 H8 st2) I7 ⟨ad,Y0 bd ρ fr d,st,k,st2,En7,S6,q,fun ad' H' x S'=>⟨rfl,ad',x,S'⟩⟩)) fun k' s8 ⟨H8,I8,e8,ad8,x8,S8⟩=>?_)
    subst e8; exact hR s8 H8 ad8 I8 x8 S8
  have n8:∀ {ad8 H8},Ext ad H' ad8 H8→dd∉ad8:=fun x8 z=>((x6.trans x8).new dd z).elim nd fun w=>by rw [hv] at w; cases w
  have v8:∀ {ad8 H8},Ext ad H' ad8 H8→H8 dd=some (.lst vs):=fun x8=>(x6.trans x8).keep dd _ hv nd
  have rv6:=rv.mono x6
  have ex6:=ex.trans x6
  have G6:=gm _ _ _ _ x6 Gd
  clear x6 En Eb ex Gd S I hv rv
  rw [hd] at hcp
  unfold YA at hcp
  rw [if_pos oks] at hcp
  split at hcp
  ·rename_i st2 q1
   split at hcp
   ·rename_i y st3 q2
    split at hcp
    ·rename_i zs' st4 q3
     cases hcp
     refine tests q1 fun s8 H8 ad8 I8 x8 S8=>?_
     rw [if_pos rfl]
     refine thn (none_of ((ihE X sc2 _ Kx elt ce hce).pe _ s8 _ H8 (fun v8 H9=>∃ ad9,Ext ad8 H8 ad9 H9∧StOk X.K ad9 H9 st3∧Den X.K ad9 H9 v8 y) I8 ⟨ad8,Y0 bd ρ fr d,st2,y,st3,En7.mono x8,S8,q2,fun v8 ad' H' x S' dn=>⟨ad',x,S',dn⟩⟩)) fun u9 s9 ⟨v9,H9,I9,r9,ad9,x9,S9,d9⟩=>?_
     have x89:=x8.trans x9
     have hv9:=v8 x89
     have hlen:vs.length=es.length:=rv6.length
     refine thn (none_of (mt_append (X:=X) _ s9 _ H9 (.ref dd) [v9] (.ref dd) [u9] (fun _ H10=>H10=upd H9 dd (.lst (vs++[v9]))) I9 rfl (.cons r9 .nil) ⟨dd,vs,v9,rfl,rfl,hv9,Nat.lt_of_le_of_lt (show vs.length≤1000 by omega) (by decide),rfl⟩)) fun u10 s10 ⟨v10,H10,I10,r10,e10⟩=>?_
     subst e10
     have nd9:=n8 x89
     exact again (vs9:=vs++[v9]) (es9:=es++[y]) (zs9:=zs') I10 (S9.wr hv9 nd9) (gw _ _ _ _ _ hv9 (gm _ _ _ _ x89 G6)) nd9 upd_same (((rv6.mono x89).append (.cons d9 .nil)).wr hv9) (by rw [List.length_append,List.length_singleton]; omega) q3 (by rw [←hys,List.append_assoc]; rfl) ((ex6.trans x89).wr hv9 D0) ((En6.mono x89).wr hv9)
    ·cases hcp
   ·cases hcp
  ·rename_i st2 q1
   refine tests q1 fun s8 H8 ad8 I8 x8 S8=>?_
   rw [if_neg Bool.false_ne_true]
   exact again I8 S8 (gm _ _ _ _ x8 G6) (n8 x8) (v8 x8) (rv6.mono x8) (by omega) hcp hys (ex6.trans x8) (En6.mono x8)
  ·cases hcp
 ·refine thn (T.done X rfl rfl rfl Kx.calm i [] s _ H _ I (fpk fi) ti (stop i ad H st Gd S oks (by omega))) fun r s5 ⟨hr,I5⟩=>?_
  subst hr
  rw [List.drop_eq_nil_of_le (Nat.le_of_not_lt hi)] at hcp
  unfold YA at hcp
  rw [if_pos oks] at hcp
  cases hcp
  rw [List.append_nil] at hys
  subst hys
  exact done s5 _ H ad vs I5 S nd hv rv ex
theorem QN (Kx:Cxt X G F sc N) {n:Nat} (ihE:ZF G F n) {elt iter tg:Expr}{pos:Pos}{ifs:List Expr}{fr:List Nat}{ce cc:CE} (hsc:Xr sc sc2 xs=true) (hfr:Xz N (Z3 sc2)=some fr)
  {bd:D→List (Option D)} (hce:cE G n sc2 (xs++Z3 sc2) elt=some ce) (hcc:(ifs=[]∧cc=.cst (.bl true))∨∃ e,ifs=[e]∧cE G n sc2 (xs++Z3 sc2) e=some cc) {cl:List (Str×Addr)}
  (c1:∀ y c,cl.lookup y=some c→X.env.cells.lookup y=some c) (c2:∀ y,(y,NameKind.free)∈sc2.names→(cl.lookup y).isSome)
  {J:It}{fp:List Addr}{it:Addr}{tn:Nat→Heap→Prop}{ds:List D}{ok:Za→Prop}{use:Option (Value→Sem Unit)}{R0:Value→Shared→Prop}{Good:List Addr→Hp→Prop} (gm:∀ ad H ad' H',Ext ad H ad' H'→Good ad H→Good ad' H') (gw:∀ ad H p xs ys,H p=some (.lst xs)→Good ad H→Good ad (upd H p (.lst ys)))
  (go:∀ i ad H st,Good ad H→StOk X.K ad H st→ok st→i < ds.length→J.go i H) (stop:∀ i ad H st,Good ad H→StOk X.K ad H st→ok st→ds.length=i→J.stop i H) (yl:∀ i ad H st v H',Good ad H→StOk X.K ad H st→ok st→J.yld i H v H'→i < ds.length→Ext ad H ad H'∧StOk X.K ad H' st∧∃ d,ds[i]?=some d∧Den X.K ad H' v d)
  {pins:List (Addr×Obj)}{σ:L2.St}{H2:Hp}{s2 s3:Shared}{dd:Addr}{h₁:Heap}{m0:Str→Option Value}{tk:Nat}{Q:VK}{ad2:List Addr}{ρ:Env}{st1 st':Za}{ys:List D} (B:WW X.K tg xs bd ds) (T:Turn X.prog X.w X.K tg J fp it tn) (t2:tn 0 s2.heap) (f2:∀ b∈fp,FpOk X pins H2 b) (fb:∀ b∈fp,b < dd)
  (E2:EnvOk X.K ad2 H2 σ ρ) (S2:StOk X.K ad2 H2 st1) (g2:Good ad2 H2) (hcomp:YA ok (fun d s=>ev F ce (Y0 bd ρ fr d) s) (fun d s=>ev F cc (Y0 bd ρ fr d) s) ds st1=some (ys,st')) (hz:ds.length≤1000) (hp:Post X.K ad2 H2 (.lst st'.length) (st'++[(true,ys)]) Q)
  (hend:∀ C dd s5 H5 m',s5.heap.Ns C m'→(∀ h',Heap.SameBut C s5.heap h'→L2.Inv X pins σ H5 { s5 with heap:=h' })→FpOk X pins H5 C→Q (.ref dd) H5→compPost (model X.prog X.w) X.A X.xe use R0 (.ref dd) C (.ok .next) s5)  (D0:H2 dd=none) (I3:L2.Inv X pins σ (upd H2 dd (.lst [])) s3) (z3:s3.heap.objs.size=dd+1) (nad:dd∉ad2) (hns₁:h₁.Ns s3.heap.objs.size m0) (up:∀ b u,s3.heap.get? b=some u→h₁.get? b=some u) (up0:∀ b u,s2.heap.get? b=some u→s3.heap.get? b=some u) :
  codeAny (model X.prog X.w) X.A (.compStart (.ListComp elt [⟨tg,iter,ifs,0⟩] sc2 pos) 0 (.ref it) (.ref dd) (compEnvC sc2 cl s3.heap.objs.size X.env)) (compPost (model X.prog X.w) X.A X.xe use R0 (.ref dd) s3.heap.objs.size) { s3 with heap:=h₁,toks:=tk }:=by
 obtain ⟨h1,h2,h3,h4,h5,h6⟩:=YH hsc
 have f3:∀ b∈fp,FpOk X pins (upd H2 dd (.lst [])) b:=fun b hb=>⟨by rw [upd_ne (Nat.ne_of_lt (fb b hb))]; exact (f2 b hb).1,(f2 b hb).2⟩
 obtain ⟨fl,fg⟩:=Vq hfr
 have I4:=Zbr (N:=xs++Z3 sc2) (cl:=cl) (fp:=fp) (tk:=tk) (σ':=List.replicate xs.length none++fr.map fun i=>(σ[i]?).join) I3 h1 h2 hns₁ up c1 (fun y e=>c2 y (mem_of_lookup e)) f3 (fun b hb=>by rw [z3]; exact Nat.lt_succ_of_lt (fb b hb)) (fun i y v e1 e2=>by
  by_cases hi:i < xs.length
  ·rw [List.getElem?_append_left (by simpa using hi),List.getElem?_replicate,if_pos hi] at e2; cases e2
  ·have hi:xs.length≤i:=Nat.le_of_not_lt hi
   rw [List.getElem?_append_right (by simpa using hi),List.getElem?_map,List.length_replicate] at e2
   rw [List.getElem?_append_right hi] at e1
   cases q:fr[i - xs.length]? with
   | none=>rw [q] at e2; cases e2
   | some k=>
    rw [q] at e2
    have e2:(σ[k]?).join=some v:=by simpa using e2
    have e3:σ[k]?=some (some v):=by
     cases w:σ[k]? with
     | none=>rw [w] at e2; cases e2
     | some o=>rw [w] at e2; rw [show o=some v from e2]
    obtain ⟨y',g1,g2⟩:=fg _ k q
    rw [e1] at g1; cases g1
    obtain ⟨k1,k2⟩:=h6 y (List.mem_of_getElem? e1)
    exact ⟨k,by rw [Kx.hN]; exact g2,e3,k2,Kx.cel y k1⟩) (by simp [fl])
 have K':=ZaZ (cl:=cl) (C:=s3.heap.objs.size) (s3:=s3) (H3:=upd H2 dd (.lst [])) (fp:=fp) (pins:=pins) Kx hsc
 have loop:=Zab (R:=compPost (model X.prog X.w) X.A X.xe use R0 (.ref dd) s3.heap.objs.size) (pos:=pos) (iter:=iter) K' ihE hce hcc gm gw go stop yl T B h5 (fun i x e=>by show (xs++Z3 sc2)[i]?=some x; rw [List.getElem?_append_left (List.getElem?_eq_some_iff.mp e).1]; exact e) (fun y hy=>Y2 (h3 y hy) (by intro q; cases q)) rfl (fun {H} hn b hb=>⟨hn b hb,by
  show b≠s3.heap.objs.size
  rw [z3]; exact Nat.ne_of_lt (Nat.lt_succ_of_lt (fb b hb)),fun hs=>(List.mem_cons.mp (I3.stkSub b hs)).elim (f2 b hb).2.1 (f2 b hb).2.2.1,.inl hb,fun y c e=>(f2 b hb).2.2.2.2.1 y c (c1 _ _ e),fun p hp=>(f2 b hb).2.2.2.2.2 p (by simpa [cxC] using hp)⟩) (σ:=σ) (ρ:=ρ) (fr:=fr) (fun a b=>Za2 a b) (dd:=dd) (ad2:=ad2) (H2:=H2) (st':=st') (ys:=ys) D0 hz (fun s5 σ5 H ad vs I5 S nd hv rv ex=>by
   obtain ⟨m',hn,_⟩:=I5.loc
   refine hend s3.heap.objs.size dd s5 H m' hn (fun h' sb=>Zbq I3 rfl I5 sb f3) (I3.fpOk (Nat.le_refl _) I5.free) (hp (.ref dd) (ad++[dd]) H ⟨fun j a e=>ZX (ex.pre j a e),ex.tup,ex.dk,ex.keep,fun b hb=>?_⟩ (S.adopt hv nd rv) (.lst (by rw [←S.len]; exact ZM)))
   rcases List.mem_append.mp hb with z | z
   ·exact ex.new b z
   ·rw [List.mem_singleton.mp z]; exact .inr D0)
  (.mk 0 (List.replicate xs.length none) (upd H2 dd (.lst [])) ad2 st1 [] [] ys (Nat.zero_add _) (List.length_replicate ..) I4 (T.keep _ _ _ t2 fun b _ o e=>up b o (up0 b o e)) (fun b hb=>(f3 b hb).1) (E2.mono (Ext.laid D0)) (S2.laid D0) (gm _ _ _ _ (Ext.laid D0) g2) nad upd_same .nil (Nat.le_refl _) hcomp rfl (Ext.laid D0))
 exact codeAny_compStart_list loop (T.self X.A 0 _ _ _ (T.keep _ _ _ t2 fun b _ o e=>up b o (up0 b o e)) loop)
theorem Zaa (Kx:Cxt X G F sc N) {n:Nat} (ihE:ZF G F n) {elt iter tg:Expr}{pos:Pos}{ifs:List Expr}{fr:List Nat}{ce cc:CE} (hsc:Xr sc sc2 xs=true) (hfr:Xz N (Z3 sc2)=some fr)
  {bd:D→List (Option D)} (hce:cE G n sc2 (xs++Z3 sc2) elt=some ce) (hcc:(ifs=[]∧cc=.cst (.bl true))∨∃ e,ifs=[e]∧cE G n sc2 (xs++Z3 sc2) e=some cc) {cl:List (Str×Addr)}
  (c1:∀ y c,cl.lookup y=some c→X.env.cells.lookup y=some c) (c2:∀ y,(y,NameKind.free)∈sc2.names→(cl.lookup y).isSome)
  {J:It}{fp:List Addr}{it:Addr}{tn:Nat→Heap→Prop}{ds:List D}{ok:Za→Prop}{use:Option (Value→Sem Unit)}{R0:Value→Shared→Prop} (Good:List Addr→Hp→Prop) (gm:∀ ad H ad' H',Ext ad H ad' H'→Good ad H→Good ad' H') (gw:∀ ad H p xs ys,H p=some (.lst xs)→Good ad H→Good ad (upd H p (.lst ys)))
  (go:∀ i ad H st,Good ad H→StOk X.K ad H st→ok st→i < ds.length→J.go i H) (stop:∀ i ad H st,Good ad H→StOk X.K ad H st→ok st→ds.length=i→J.stop i H) (yl:∀ i ad H st v H',Good ad H→StOk X.K ad H st→ok st→J.yld i H v H'→i < ds.length→Ext ad H ad H'∧StOk X.K ad H' st∧∃ d,ds[i]?=some d∧Den X.K ad H' v d)
  {pins:List (Addr×Obj)}{σ:L2.St}{H2:Hp}{s2:Shared}{Q:VK}{ad2:List Addr}{ρ:Env}{st1 st':Za}{ys:List D} (I2:L2.Inv X pins σ H2 s2) (B:WW X.K tg xs bd ds) (T:Turn X.prog X.w X.K tg J fp it tn) (t2:tn 0 s2.heap) (f2:∀ b∈fp,FpOk X pins H2 b)
  (E2:EnvOk X.K ad2 H2 σ ρ) (S2:StOk X.K ad2 H2 st1) (g2:Good ad2 H2) (hcomp:YA ok (fun d s=>ev F ce (Y0 bd ρ fr d) s) (fun d s=>ev F cc (Y0 bd ρ fr d) s) ds st1=some (ys,st')) (hz:ds.length≤1000) (hp:Post X.K ad2 H2 (.lst st'.length) (st'++[(true,ys)]) Q)
  (hend:∀ C dd s5 H5 m',s5.heap.Ns C m'→(∀ h',Heap.SameBut C s5.heap h'→L2.Inv X pins σ H5 { s5 with heap:=h' })→FpOk X pins H5 C→Q (.ref dd) H5→compPost (model X.prog X.w) X.A X.xe use R0 (.ref dd) C (.ok .next) s5) :
  wpAny (model X.prog X.w) X.A (newList []) (fun acc s₃=>wpAny (model X.prog X.w) X.A (newFunctionEnv sc2 X.env.globals cl [] X.env.qual none .none (some X.env)) (fun cenv s₄=>
   codeAny (model X.prog X.w) X.A (.compStart (.ListComp elt [⟨tg,iter,ifs,0⟩] sc2 pos) 0 (.ref it) acc { cenv with scope:=relabel sc2 X.env }) (compPost (model X.prog X.w) X.A X.xe use R0 acc cenv.locals) s₄) X.xe s₃) X.xe s2:=by
 obtain ⟨h1,h2,h3,h4,h5,h6⟩:=YH hsc
 have fb:∀ b∈fp,b < s2.heap.objs.size:=fun b hb=>let ⟨o,e,_⟩:=T.obj 0 _ t2 b hb; Heap.lt_size e
 refine wpAny_newObj_type (wpAny_newFunctionEnv h2 (by intro y hy; simp at hy) (fun h₁ hns₁ hsb₁=>?_) h1)
 dsimp only at hns₁ hsb₁ ⊢
 have I3:L2.Inv X pins σ (upd H2 s2.heap.objs.size (.lst [])) { s2 with heap:=s2.heap.push { cls:=.type "list",dict:=none,data:=.seq ([]:List Value).toArray } }:=I2.lnew (its:=[]) (t':=s2.toks) .nil (Nat.zero_le _)
 have e3:s2.heap.push { cls:=.type "list",dict:=none,data:=.seq ([]:List Value).toArray }=({ s2 with heap:=s2.heap.push { cls:=.type "list",dict:=none,data:=.seq ([]:List Value).toArray } }:Shared).heap:=rfl
 exact QN Kx ihE hsc hfr hce hcc c1 c2 gm gw go stop yl B T t2 f2 fb E2 S2 g2 hcomp hz hp hend (I2.hok.fresh (Nat.le_refl _)) I3 (Heap.size_push ..) (fun z=>absurd (S2.lt I2 z) (Nat.lt_irrefl _)) hns₁ (fun b u e=>hsb₁.extBut b u (Nat.ne_of_lt (Heap.lt_size e)) (Heap.get?_push_of_some _ e)) (fun b u e=>Heap.get?_push_of_some _ e)
end
end Dp



namespace Dp
open PySem PySem.Spec PyProof.Rows L2
variable [ClsTab]
noncomputable def ZcO (X:Cx) (σ:L2.St) (ρ:Env) (ds:List D) (ok:Za→Prop) (st1 st2:Za) (ys:List D) (Q:VK) (J:It) (H1:Hp):Prop:=
 ∃ (ad1:List Addr) (Good:List Addr→Hp→Prop),(∀ ad H ad' H',Ext ad H ad' H'→Good ad H→Good ad' H')∧(∀ ad H p xs ys,H p=some (.lst xs)→Good ad H→Good ad (upd H p (.lst ys))) ∧
  (∀ i ad H st,Good ad H→StOk X.K ad H st→ok st→i < ds.length→J.go i H)∧(∀ i ad H st,Good ad H→StOk X.K ad H st→ok st→ds.length=i→J.stop i H)∧(∀ i ad H st v H',Good ad H→StOk X.K ad H st→ok st→J.yld i H v H'→i < ds.length→Ext ad H ad H'∧StOk X.K ad H' st∧∃ d,ds[i]?=some d∧Den X.K ad H' v d) ∧
  EnvOk X.K ad1 H1 σ ρ∧StOk X.K ad1 H1 st1∧Good ad1 H1∧Post X.K ad1 H1 (.lst st2.length) (st2++[(true,ys)]) Q
theorem ZaW {X:Cx}{σ:L2.St}{ρ:Env}{ds:List D}{st st1 st2:Za}{ys:List D}{Q:VK}{H:Hp}{ad:List Addr}{f:Ev} (E:EnvOk X.K ad H σ ρ) (S:StOk X.K ad H st) (q:f ρ st=some (.tup ds,st1)) (p:Post X.K ad H (.lst st2.length) (st2++[(true,ys)]) Q) :
  iTup X.K (tE X.K f) σ H (ZcO X σ ρ ds (fun _=>True) st1 st2 ys Q):=by
 refine ⟨ad,ρ,st,.tup ds,st1,E,S,q,fun v ad1 H1 x1 S1 d1=>?_⟩
 obtain ⟨a,vs,rfl,ha,rv⟩:=d1.ofTup
 refine ⟨a,rfl,⟨vs,(ha).sq⟩,ad1,fun ad H=>TupAt X.K H a vs∧Dens X.K ad H vs ds,fun _ _ _ _ x g=>⟨g.1.mono x,g.2.mono x⟩,fun _ H p xs ys hp g=>⟨g.1.upd hp (by intro xs z; cases z),g.2.wr hp⟩,fun i ad H st g _ _ hi=>?_,fun i ad H st g _ _ hi=>⟨vs,(g.1).sq,by rw [g.2.length]; exact Nat.le_of_eq hi⟩,
  fun i ad H st v H' g S _ y hi=>?_,E.mono x1,S1,⟨ha,rv⟩,p.later x1⟩
 ·obtain ⟨v,e,_⟩:=g.2.get (List.getElem?_eq_getElem hi)
  exact ⟨vs,v,(g.1).sq,e⟩
 ·obtain ⟨w,e,dw⟩:=g.2.get (List.getElem?_eq_getElem hi)
  have:=y.2 vs ((g.1).sq)
  rw [e] at this; cases this
  cases y.1
  exact ⟨Ext.refl _ _,S,_,List.getElem?_eq_getElem hi,dw⟩
theorem ZaV {X:Cx}{σ:L2.St}{ρ:Env}{n:Int}{st st1 st2:Za}{ys:List D}{Q:VK}{H:Hp}{ad:List Addr}{f:Ev} (hn:n < 2 ^ 62∧-(2 ^ 62)≤n) (E:EnvOk X.K ad H σ ρ) (S:StOk X.K ad H st) (q:f ρ st=some (.int n,st1)) (p:Post X.K ad H (.lst st2.length) (st2++[(true,ys)]) Q) :
  iRng1 (tCons (tE X.K f) tNil) σ H (ZcO X σ ρ ((List.range n.toNat).map fun (k:Nat)=>D.int (k:Int)) (fun _=>True) st1 st2 ys Q):=by
 refine ⟨ad,ρ,st,.int n,st1,E,S,q,fun v ad1 H1 x1 S1 d1=>?_⟩
 cases d1.ofInt
 refine ⟨n,rfl,hn.2,hn.1,ad1,fun _ _=>True,fun _ _ _ _ _ _=>trivial,fun _ _ _ _ _ _ _=>trivial,fun i ad H st _ _ _ hi=>(show i < n.toNat by simpa using hi),fun i ad H st _ _ _ hi=>(show n.toNat≤i by simpa using Nat.le_of_eq hi),fun i ad H st v H' _ S _ y hi=>?_,E.mono x1,S1,trivial,p.later x1⟩
 cases y.1
 have hi':i < n.toNat:=by simpa using hi
 refine ⟨Ext.refl _ _,S,.int (i:Int),?_,?_⟩
 ·rw [List.getElem?_map,List.getElem?_range hi']; rfl
 ·rw [y.2,Int.zero_add]; exact .int _
theorem ZaU {X:Cx}{σ:L2.St}{ρ:Env}{l:Nat}{c:JV}{st st1 st2:Za}{ys:List D}{Q:VK}{H:Hp}{ad:List Addr}{f:Ev} (E:EnvOk X.K ad H σ ρ) (S:StOk X.K ad H st) (q:f ρ st=some (.lst l,st1)) (hc:st1[l]?=some c) (p:Post X.K ad H (.lst st2.length) (st2++[(true,ys)]) Q) :
  iList X.K (tE X.K f) σ H (ZcO X σ ρ c.2 (fun s=>s[l]?=some c) st1 st2 ys Q):=by
 refine ⟨ad,ρ,st,.lst l,st1,E,S,q,fun v ad1 H1 x1 S1 d1=>?_⟩
 obtain ⟨a,rfl,ha⟩:=d1.ofLst
 obtain ⟨vs,rv,sq⟩:=S1.list ha (show st1[l]?=some (c.1,c.2) from hc)
 refine ⟨a,rfl,⟨vs,sq⟩,ad1,fun ad _=>ad[l]?=some a,fun _ _ _ _ x g=>x.pre _ _ g,fun _ _ _ _ _ _ g=>g,fun i ad H st g S e hi=>?_,fun i ad H st g S e hi=>?_,fun i ad H st v H' g S e y hi=>?_,E.mono x1,S1,ha,p.later x1⟩
 ·obtain ⟨vs,rv,sq⟩:=S.list g (show st[l]?=some (c.1,c.2) from e)
  obtain ⟨v,e,_⟩:=rv.get (List.getElem?_eq_getElem hi)
  exact ⟨vs,v,sq,e⟩
 ·obtain ⟨vs,rv,sq⟩:=S.list g (show st[l]?=some (c.1,c.2) from e)
  exact ⟨vs,sq,by rw [rv.length]; exact Nat.le_of_eq hi⟩
 ·obtain ⟨vs,rv,sq⟩:=S.list g (show st[l]?=some (c.1,c.2) from e)
  obtain ⟨w,e,dw⟩:=rv.get (List.getElem?_eq_getElem hi)
  have:=y.2 vs sq
  rw [e] at this; cases this
  cases y.1
  exact ⟨Ext.refl _ _,S,_,List.getElem?_eq_getElem hi,dw⟩
theorem Zaz {tg:Expr}{xs:List Str} (h:tgN tg=some xs):∃ x px,tg=.Name x px∧xs=[x]:=by
 unfold tgN at h
 split at h
 ·cases h; exact ⟨_,_,rfl,rfl⟩
 ·cases h
inductive CSh (G:Gs) (n:Nat) (sc:Scope) (N:List Str) (elt:Expr) (sc2:Scope):List Comprehension→CE→Prop
 | mk {tg it:Expr}{ifs:List Expr}{xs:List Str}{fr:List Nat}{r:Option (Option Bool)}{ci ce cc:CE} (htg:tgN tg=some xs) (hsc:Xr sc sc2 xs=true) (hfr:Xz N (Z3 sc2)=some fr) (hi:itC G sc it (cE G n sc N) xs=some (r,ci)) (hce:cE G n sc2 (xs++Z3 sc2) elt=some ce) (hcc:(ifs=[]∧cc=.cst (.bl true))∨∃ e,ifs=[e]∧cE G n sc2 (xs++Z3 sc2) e=some cc):CSh G n sc N elt sc2 [⟨tg,it,ifs,0⟩] (mkC r fr ci ce cc)
theorem Zdf {G:Gs}{n:Nat}{sc:Scope}{N:List Str}{elt:Expr}{gens:List Comprehension}{sc2:Scope}{pos:Pos}{c:CE} (h:cE G (n+1) sc N (.ListComp elt gens sc2 pos)=some c):CSh G n sc N elt sc2 gens c:=by
 replace h:ZeA G sc sc2 N (cE G n sc N) (cE G n sc2) elt gens=some c:=h
 have no:∀ {P:Prop},(none:Option CE)=some c→P:=fun z=>nomatch z
 cases gens with
 | nil=>exact no h
 | cons g gs=>
  obtain ⟨tg,it,ifs,k⟩:=g
  cases k with
  | negSucc _=>cases gs<;>exact no h
  | ofNat m=>cases m with
   | succ _=>cases gs<;>exact no h
   | zero=>cases gs with
    | cons _ _=>exact no h
    | nil=>
     replace h:(match tgN tg with
      | none=>none
      | some xs=>og (Xr sc sc2 xs=true) (o3 (fun fr p (q:CE×CE)=>mkC p.1 fr p.2 q.1 q.2) (Xz N (Z3 sc2)) (itC G sc it (cE G n sc N) xs) (o2 Prod.mk (cE G n sc2 (xs++Z3 sc2) elt) (ifC (cE G n sc2 (xs++Z3 sc2)) ifs))))=some c:=h
     cases htg:tgN tg with
     | none=>rw [htg] at h; cases h
     | some xs=>
      rw [htg] at h
      refine Vp h fun hsc h=>WK (P:=CSh G n sc N elt sc2 _) h fun fr p q hfr hi hq=>YJ (P:=fun q:CE×CE=>CSh G n sc N elt sc2 _ (mkC p.1 fr p.2 q.1 q.2)) hq fun ce cc hce hcc=>.mk htg hsc hfr hi hce ?_
      cases ifs with
      | nil=>cases hcc; exact .inl ⟨rfl,rfl⟩
      | cons a l=>cases l with
       | nil=>exact .inr ⟨a,rfl,hcc⟩
       | cons _ _=>cases hcc
inductive CR (b:D→List (Option D)) (w:D→Za→Option (List D×(Za→Prop))) (fr:List Nat) (fi fe fc:Ev) (ρ:Env) (st:Za):D→Za→Prop
 | mk {x:D}{st1 st2:Za}{ds ys:List D}{ok:Za→Prop} (q1:fi ρ st=some (x,st1)) (q2:w x st1=some (ds,ok)) (hz:ds.length≤1000) (q3:YA ok (fun d s=>fe (Y0 b ρ fr d) s) (fun d s=>fc (Y0 b ρ fr d) s) ds st1=some (ys,st2)):CR b w fr fi fe fc ρ st (.lst st2.length) (st2++[(true,ys)])
theorem VO {b:D→List (Option D)}{w:D→Za→Option (List D×(Za→Prop))}{fr:List Nat}{fi fe fc:Ev}{ρ:Env}{st:Za}{d:D}{st':Za} (e:W7 b w fr fi fe fc ρ st=some (d,st')):CR b w fr fi fe fc ρ st d st':=by
 unfold W7 at e
 split at e
 ·split at e
  ·split at e
   ·split at e
    ·cases e; exact .mk ‹_› ‹_› ‹_› ‹_›
    ·cases e
   ·cases e
  ·cases e
 ·cases e
inductive CIt (X:Cx) (pins:List (Addr×Obj)) (s:Shared) (σ:L2.St) (ρ:Env) (tg it:Expr) (xs:List Str) (F:Nat→Fn) (fr:List Nat) (ce cc:CE) (Q:VK):Prop
 | mk {bd:D→List (Option D)}{ds:List D}{ok:Za→Prop}{st1 st2:Za}{ys:List D} (B:WW X.K tg xs bd ds) (hz:ds.length≤1000) (q3:YA ok (fun d s=>ev F ce (Y0 bd ρ fr d) s) (fun d s=>ev F cc (Y0 bd ρ fr d) s) ds st1=some (ys,st2)) (hp:Zt it=true) (pi:wpAny (model X.prog X.w) X.A (eval it X.env) (fun v s1=>wpAny (model X.prog X.w) X.A (pyIter v) (PIE X pins σ tg (ZcO X σ ρ ds ok st1 st2 ys Q)) X.xe s1) X.xe s):CIt X pins s σ ρ tg it xs F fr ce cc Q
theorem JE {α β:Type}{f:α→β}{o:Option α}{b:β} (h:o.map f=some b):∃ a,o=some a∧f a=b:=by
 cases o with
 | none=>cases h
 | some a=>exact ⟨a,rfl,by cases h; rfl⟩
theorem Zdd {G:Gs}{F:Nat→Fn}{n:Nat} (ihE:ZF G F n) {X:Cx}{sc:Scope}{N:List Str} (Kx:Cxt X G F sc N) {tg it:Expr}{xs:List Str}{fr:List Nat}{r:Option (Option Bool)}{ci ce cc:CE} (htg:tgN tg=some xs) (hi:itC G sc it (cE G n sc N) xs=some (r,ci))
  {pins:List (Addr×Obj)}{s:Shared}{σ:L2.St}{H:Hp}{Q:VK} (I:L2.Inv X pins σ H s) {ad:List Addr}{ρ:Env}{st:Za}{d:D}{st':Za} (E:EnvOk X.K ad H σ ρ) (S:StOk X.K ad H st) (e:ev F (mkC r fr ci ce cc) ρ st=some (d,st')) (p:Post X.K ad H d st' Q):CIt X pins s σ ρ tg it xs F fr ce cc Q:=by
 obtain ⟨x,px,rfl,rfl⟩:=Zaz htg
 ·replace hi:(match Ya G sc it with
   | some a=>(cE G n sc N a).map fun c=>(some (some true),c)
   | none=>(cE G n sc N it).map fun c=>(some (some false),c))=some (r,ci):=hi
  split at hi
  ·rename_i a ha
   obtain ⟨ca,q,hi⟩:=JE hi
   cases hi
   obtain ⟨hp,pi⟩:=WE (tg:=.Name x px) Kx ha (Zp q) (ihE X sc N Kx a _ q).pe
   cases VO e with
   | @mk x0 st1 st2 ds ys ok q1 q2 hz q3=>
    refine .mk UO hz q3 hp (pi pins s σ H _ I ?_)
    cases x0 with
    | int k=>
     have q2:(match (if k < 2 ^ 62∧-(2 ^ 62)≤k then some ((List.range k.toNat).map fun (k:Nat)=>D.int (k:Int)) else none) with
      | some xs=>some (xs,fun _=>True)
      | none=>none)=some (ds,ok):=q2
     by_cases hk:k < 2 ^ 62∧-(2 ^ 62)≤k
     ·rw [if_pos hk] at q2
      cases q2
      exact ZaV hk E S q1 p
     ·rw [if_neg hk] at q2
      cases q2
    | _=>cases q2
  ·obtain ⟨ca,q,hi⟩:=JE hi
   cases hi
   cases VO e with
   | @mk x0 st1 st2 ds ys ok q1 q2 hz q3=>
    refine .mk UO hz q3 (Zp q) ?_
    cases x0 with
    | tup xs=>cases q2; exact pi_tup (ihE X sc N Kx it _ q).pe pins s σ H _ I (ZaW E S q1 p)
    | lst l=>
     have q2:(match st1[l]? with
      | some c=>some (c.2,fun s=>s[l]?=some c)
      | none=>none)=some (ds,ok):=q2
     cases q4:st1[l]? with
     | none=>rw [q4] at q2; cases q2
     | some c0=>
      rw [q4] at q2
      cases q2
      exact pi_list (ihE X sc N Kx it _ q).pe pins s σ H _ I (ZaU E S q1 q4 p)
    | _=>cases q2
theorem Jt {G:Gs}{F:Nat→Fn}{n:Nat} (ihE:ZF G F n) {X:Cx}{sc:Scope}{N:List Str} (Kx:Cxt X G F sc N) {elt:Expr}{gens:List Comprehension}{sc2:Scope}{pos:Pos}{c:CE} (h:cE G (n+1) sc N (.ListComp elt gens sc2 pos)=some c)
  {pins:List (Addr×Obj)}{s:Shared}{σ:L2.St}{H:Hp}{Q:VK} (I:L2.Inv X pins σ H s) (hq:tE X.K (ev F c) σ H Q) {use:Option (Value→Sem Unit)}{R0:Value→Shared→Prop}
  (hend:∀ C dd s5 H5 m',s5.heap.Ns C m'→(∀ h',Heap.SameBut C s5.heap h'→L2.Inv X pins σ H5 { s5 with heap:=h' })→FpOk X pins H5 C→Q (.ref dd) H5→compPost (model X.prog X.w) X.A X.xe use R0 (.ref dd) C (.ok .next) s5) :
  ∃ tg it ifs,gens=[⟨tg,it,ifs,0⟩]∧∀ pos',wpAny (model X.prog X.w) X.A (comprehension (.ListComp elt [⟨tg,it,ifs,0⟩] sc2 pos) sc2 X.env pos' (newList []) false (eval it X.env) use) R0 X.xe s:=by
 cases Zdf h with
 | @mk tg it ifs xs fr r ci ce cc htg hsc hfr hi hce hcc=>
  obtain ⟨h1,h2,h3,h4,h5,h6⟩:=YH hsc
  obtain ⟨ad,ρ,st,d,st',E,S,e,p⟩:=hq
  obtain ⟨cl,ec,c1,c2⟩:=US (env:=X.env) (sc:=sc2) (fun y hy hf=>by
   have hm:(y.1,NameKind.free)∈sc2.names:=by rw [←hf]; exact hy
   exact I.ok.has y.1 (Kx.cel y.1 (h6 y.1 (mem_frees.mpr hm)).1))
  refine ⟨tg,it,ifs,rfl,fun pos'=>?_⟩
  cases Zdd ihE Kx htg hi I E S e p with
  | mk B hz q3 hp pi=>
   refine wpAny_comprehension_free (use:=use) rfl (Yc hp) ec h1 h4 (thn pi fun v s1 h1'=>thn h1' fun itv s2 h2'=>?_)
   obtain ⟨ita,fp,tn,J,H2,rfl,I2,T,t2,f2,ad1,Good,gm,gw,go,stop,yl,E2,S2,g2,p2⟩:=h2'
   exact Zaa Kx ihE hsc hfr hce hcc c1 c2 Good gm gw go stop yl I2 B T t2 f2 E2 S2 g2 q3 hz p2 hend
theorem Zde {G:Gs}{F:Nat→Fn}:XU G F:=by
 intro n ihE
 refine ⟨fun X sc N Kx elt gens sc2 pos c h=>SE.of ?_,fun X sc N K y i p elt gens sc2 epos pos c hi h hsw=>?_⟩
 ·intro pins s σ H Q I hq
  obtain ⟨tg,it,ifs,rfl,go⟩:=Jt ihE Kx h I hq (use:=none) (R0:=EP X pins σ Q) fun C dd s5 H5 m' hn hI _ q=>⟨m',hn,fun h' sb=>⟨.ref dd,H5,hI h' sb,rfl,q⟩⟩
  rw [eval_ListComp]
  exact go _
 ·intro pins s σ H D I hq
  obtain ⟨tg,it,ifs,rfl,go⟩:=Jt ihE K.toCxt h I hq (use:=some (assign (.Name y p) X.env)) (R0:=fun _ s'=>SP X pins D .next s') fun C dd s5 H5 m' hn hI fo q=>by
   have I5:=hI s5.heap (Heap.SameBut.refl _ _)
   show wpAny _ X.A (assign (.Name y p) X.env (.ref dd)) _ _ s5
   refine wpAny_assign_Name (store_ok2 (v:=.ref dd) I5 (by rw [K.hN]; exact K.nd) (by rw [K.hN]; exact X1 hi) (K.loc _ (Ul hi)) rfl (fun s6 I6 ⟨a,sb,ha⟩=>?_) (.inl (K.fn _)))
   have ne:C≠a:=by
    rcases ha with z | z
    ·rw [z]; exact fo.2.1
    ·exact fun w=>fo.2.2.2.2.1 _ _ z w.symm
   exact ⟨m',hn.sameBut sb ne,fun h3 sb3=>⟨_,H5,I6.turned (t':=s6.toks) (fun b o hb e=>sb3.extBut b o hb e) fo.1 fo.2.1 fo.2.2.2.1 fo.2.2.2.2.1 fo.2.2.2.2.2,q⟩⟩
  rw [exec_Assign_Name_used _ _ _ _ hsw]
  refine wpAny_bind (wpAny_standAt (wpAny_bind ?_))
  show wpAny _ X.A (do let _ ←comprehension (.ListComp elt [⟨tg,it,ifs,0⟩] sc2 epos) sc2 X.env _ (newList []) false (eval it X.env) (some (assign (.Name y p) X.env))) _ _ s
  exact wpAny_bind (wpAny_mono (go _) (fun _ s' hq=>wpAny_pure (wpAny_pure hq)) fun _ _ e=>e)
end Dp


namespace Dp
open PySem

inductive P where
 | non | bl (b:Bool) | int (i:Int) | str (x:Str) | tup (xs:List P) | lst (m:Bool) (xs:List P) | dct (ks:List Str) (vs:List P) | obj (i:Nat) | kt (ks:List Str)

mutual
noncomputable def noL:P→Bool
 | .tup xs=>Vo xs
 | .lst _ _=>false
 | .dct _ vs=>Vo vs
 | _=>true
noncomputable def Vo:List P→Bool
 | []=>true
 | x :: xs=>noL x&&Vo xs
end
mutual
noncomputable def ofD:D→Option P
 | .non=>some .non
 | .bl b=>some (.bl b)
 | .int i=>some (.int i)
 | .str x=>some (.str x)
 | .tup xs=>(Wh xs).map .tup
 | .kt ks=>some (.kt ks)
 | _=>none
noncomputable def Wh:List D→Option (List P)
 | []=>some []
 | x :: xs=>match ofD x,Wh xs with
  | some y,some ys=>some (y :: ys)
  | _,_=>none
end
mutual
noncomputable def X6:P→P→Bool
 | .non,.non=>true
 | .bl a,.bl b=>a==b
 | .int a,.int b=>decide (a=b)
 | .str a,.str b=>decide (a=b)
 | .tup a,.tup b=>Xj a b
 | _,_=>false
noncomputable def Xj:List P→List P→Bool
 | [],[]=>true
 | x :: xs,y :: ys=>X6 x y&&Xj xs ys
 | _,_=>false
end
mutual
noncomputable def okP:Nat→P→Bool
 | _,.non=>true
 | _,.int _=>true
 | _,.str _=>true
 | n+1,.tup xs=>VH n xs
 | _,_=>false
noncomputable def VH:Nat→List P→Bool
 | _,[]=>true
 | n,x :: xs=>okP n x&&VH n xs
end
noncomputable def Zb5 (_ _:List P):Option Bool:=none
noncomputable def eqP:P→P→Option Bool
 | .bl a,.bl b=>some (a==b)
 | .bl _,.str _=>some false
 | .str _,.bl _=>some false
 | .bl _,.non=>some false
 | .non,.bl _=>some false
 | .non,.non=>some true
 | .non,.int _=>some false
 | .non,.str _=>some false
 | .int _,.non=>some false
 | .str _,.non=>some false
 | .int a,.int b=>some (decide (a=b))
 | .str a,.str b=>some (decide (a=b))
 | .int _,.str _=>some false
 | .str _,.int _=>some false
 | .tup xs,.tup ys=>if okP 8 (.tup xs)&&okP 8 (.tup ys) then some (Xj xs ys) else Zb5 xs ys
 | .lst _ xs,.lst _ []=>some xs.isEmpty
 | .lst _ [],.lst _ ys=>some ys.isEmpty
 | .lst _ xs,.lst _ ys=>if VH 7 xs&&VH 7 ys then some (Xj xs ys) else none
 | _,_=>none
noncomputable def YL (op:Operator) (x y:P):Option P:=
 match x,y with
 | .int i,.int j=>match Zc2 op i j with
  | some k=>some (.int k)
  | none=>none
 | .tup xs,.tup ys=>if Vc op=true∧xs.length+ys.length≤Zo then some (.tup (xs++ys)) else none
 | .tup [x],.int j=>if Ve op=true∧(j≤1000∧-1000≤j) then some (.tup (List.replicate j.toNat x)) else none
 | .lst _ xs,.lst _ ys=>if Vc op=true∧xs.length+ys.length≤Zo then some (.lst true (xs++ys)) else none
 | .lst true [x],.int j=>if Ve op=true∧(j≤1000∧-1000≤j) then some (.lst true (List.replicate j.toNat x)) else none
 | _,_=>none
noncomputable def inP:Int→List P→Option Bool
 | _,[]=>some false
 | k,.int i :: r=>(inP k r).map fun b=>decide (i=k)||b
 | _,_=>none
noncomputable def Zaj:Str→List P→Option Bool
 | _,[]=>some false
 | k,.str i :: r=>(Zaj k r).map fun b=>decide (i=k)||b
 | _,_=>none
noncomputable def Xk:List Str→List P→Str→Option P
 | k :: ks,v :: vs,x=>if k=x then some v else Xk ks vs x
 | _,_,_=>none
noncomputable def ZbZ (f:Int→Int→Bool):P→P→Option Bool
 | .int i,.int j=>some (f i j)
 | _,_=>none
noncomputable def ltP (x y:P):Option Bool:=ZbZ (fun i j=>decide (i < j)) x y
noncomputable def Zg9 (x y:P):Option Bool:=ltP x y
noncomputable def Zfr (x y:P):Option Bool:=match x,y with
 | .int k,.lst _ xs=>inP k xs
 | .str k,.lst _ xs=>Zaj k xs
 | .int k,.tup xs=>inP k xs
 | .str k,.tup xs=>Zaj k xs
 | .str k,.dct ks vs=>some (Xk ks vs k).isSome
 | _,_=>none
noncomputable def niP (x y:P):Option Bool:=match y with
 | .dct _ _=>none
 | y=>(Zfr x y).map not
noncomputable def ZiC:P→Option Bool
 | .non=>some true
 | .int _=>some false
 | .str _=>some false
 | .bl _=>some false
 | .tup _=>some false
 | .lst _ _=>some false
 | .dct _ _=>none
 | .obj _=>none
 | .kt _=>none
noncomputable def ZiA (b:Bool):P→Option Bool
 | .bl a=>some (a==b)
 | _=>none
noncomputable def Zfs (x:P):P→Option Bool
 | .non=>ZiC x
 | .bl b=>ZiA b x
 | _=>none
noncomputable def Ze9 (op:CmpOp) (x y:P):Option Bool:=
 match op with
 | .Lt=>Zg9 x y
 | .LtE=>ZbZ (fun i j=>decide (i≤j)) x y
 | .Gt=>ZbZ (fun i j=>decide (j < i)) x y
 | .GtE=>ZbZ (fun i j=>decide (j≤i)) x y
 | .Eq=>eqP x y
 | .NotEq=>(eqP x y).map not
 | .In=>Zfr x y
 | .NotIn=>niP x y
 | .Is=>Zfs x y
 | .IsNot=>(Zfs x y).map not
noncomputable def atP (xs:List P) (i:Int):Option P:=(ixN xs.length i).bind fun j=>xs[j]?
noncomputable def ixP:P→P→Option P
 | .tup xs,.int i=>atP xs i
 | .lst _ xs,.int i=>atP xs i
 | .dct ks vs,.str k=>Xk ks vs k
 | .kt ks,.int i=>atP (ks.map .str) i
 | _,_=>none
noncomputable def W9 (xs:List P) (lo hi:Option Int):List P:=(xs.drop (sIx xs.length 0 lo)).take (sIx xs.length xs.length hi - sIx xs.length 0 lo)
noncomputable def Yj (x:P) (lo hi:Option Int):Option P:=
 match x with
 | .tup xs=>if sIx xs.length 0 lo=0∧sIx xs.length xs.length hi=xs.length then some (.tup xs) else some (.tup (W9 xs lo hi))
 | .lst _ xs=>some (.lst true (W9 xs lo hi))
 | _=>none
noncomputable def XB:P→P→P→Option P
 | x,.non,.non=>Yj x none none
 | x,.int i,.non=>Yj x (some i) none
 | x,.non,.int j=>Yj x none (some j)
 | x,.int i,.int j=>Yj x (some i) (some j)
 | _,_,_=>none
noncomputable def QX:P→Option P
 | .tup xs=>some (.int xs.length)
 | .lst _ xs=>some (.int xs.length)
 | .kt ks=>some (.int ks.length)
 | _=>none
noncomputable def U8:Ty→P→Option P
 | .int,.int _=>some (.bl true)
 | .int,.bl _=>some (.bl true)
 | .int,.str _=>some (.bl false)
 | .int,.tup _=>some (.bl false)
 | .int,.non=>some (.bl false)
 | .bool,.bl _=>some (.bl true)
 | .bool,.int _=>some (.bl false)
 | .bool,.str _=>some (.bl false)
 | .bool,.tup _=>some (.bl false)
 | .bool,.non=>some (.bl false)
 | .str,.str _=>some (.bl true)
 | .str,.int _=>some (.bl false)
 | .str,.bl _=>some (.bl false)
 | .str,.tup _=>some (.bl false)
 | .str,.non=>some (.bl false)
 | .tuple,.tup _=>some (.bl true)
 | .tuple,.int _=>some (.bl false)
 | .tuple,.bl _=>some (.bl false)
 | .tuple,.str _=>some (.bl false)
 | .tuple,.non=>some (.bl false)
 | _,_=>none
noncomputable def Zar:P→Option P
 | .int i=>some (.int (-i))
 | _=>none
noncomputable def Zau:P→Option P
 | .bl k=>some (.bl (!k))
 | _=>none
noncomputable def Yu (op:CmpOp) (x y:P):Option P:=(Ze9 op x y).map .bl
noncomputable def Q1:P→Option P
 | .tup xs=>some (.lst true xs)
 | _=>none
noncomputable def VQ:P→P→Option P
 | x,.tup xs=>if xs.length < 1000 then some (.tup (x :: xs)) else none
 | _,_=>none
noncomputable def V5:P→Option P
 | .int i=>some (.int i)
 | _=>none
noncomputable def We (F:Nat→List P→Option P) (tab:List (Nat×Nat)):P→P→Option P
 | .obj i,.tup xs=>match tab.lookup i with
  | some j=>F j (.obj i :: xs)
  | none=>none
 | _,_=>none
noncomputable def Zer:P→P→Option P
 | .kt ks,.tup [.str k]=>match Uk k ks with
  | some i=>some (.int (i:Int))
  | none=>none
 | _,_=>none
noncomputable def W6 (g:List P→Option P) (ds:List D):P→Option P
 | .tup xs=>match Wh ds with
  | some es=>g (xs++es)
  | none=>none
 | _=>none
noncomputable def X5:P→Option P
 | .tup xs=>some (.tup xs)
 | .lst _ xs=>some (.tup xs)
 | _=>none
noncomputable def Vh:P→Option P
 | .tup xs=>some (.lst true xs)
 | .lst _ xs=>some (.lst true xs)
 | _=>none
noncomputable def Ziz:P→Option P
 | .int i=>some (.int i)
 | .bl true=>some (.int 1)
 | .bl false=>some (.int 0)
 | _=>none
noncomputable def ZdL:P→P→Option P
 | .int i,.int j=>some (.int (if j < i then j else i))
 | _,_=>none
noncomputable def ZdI:P→P→Option P
 | .int i,.int j=>some (.int (if j > i then j else i))
 | _,_=>none
noncomputable def ZdA (ng:Bool):P→P→Option P
 | .int x,.int n=>if -(2 ^ 62)≤n∧n < 2 ^ 62 then some (.bl (ng != decide (0≤x∧x < n))) else none
 | _,_=>none
noncomputable def Ut (ks:List Str) (ds:List D):P→Option P
 | .str k=>(ZS ks ds k).bind ofD
 | _=>none
noncomputable def ZJ (n:Int):List P:=(List.range n.toNat).map fun (k:Nat)=>P.int (k:Int)
noncomputable def Vg (rng:Bool) (x:P):Option (List P):=
 match rng,x with
 | true,.int n=>if n < 2 ^ 62∧-(2 ^ 62)≤n then some (ZJ n) else none
 | false,.tup xs=>some xs
 | _,_=>none
noncomputable def YB (f c:P→Option P):List P→Option (List P)
 | []=>some []
 | x :: xs=>match c x with
  | some (.bl true)=>match f x with
   | some y=>match YB f c xs with
    | some ys=>some (y :: ys)
    | none=>none
   | none=>none
  | some (.bl false)=>YB f c xs
  | _=>none
noncomputable def YE (rng:Bool) (x:P):Option (List P):=match Vg rng x with
 | some xs=>some xs
 | none=>match rng,x with
  | false,.lst _ xs=>some xs
  | _,_=>none
noncomputable abbrev Zv:=List (Option P)
noncomputable abbrev PEv:=Zv→Option P
noncomputable def pq1 (fa:PEv) (g:P→Option P):PEv:=fun π=>match fa π with
 | some x=>g x
 | none=>none
noncomputable def pq2 (fa fb:PEv) (g:P→P→Option P):PEv:=fun π=>match fa π with
 | some x=>match fb π with
  | some y=>g x y
  | none=>none
 | none=>none
noncomputable def pq3 (fa fb fc:PEv) (g:P→P→P→Option P):PEv:=fun π=>match fa π with
 | some x=>match fb π with
  | some y=>match fc π with
   | some z=>g x y z
   | none=>none
  | none=>none
 | none=>none
noncomputable def YG (fc ft ff:PEv):PEv:=fun π=>match fc π with
 | some (.bl true)=>ft π
 | some (.bl false)=>ff π
 | _=>none
noncomputable def Wj (i:Nat):PEv:=fun π=>match π[i]? with
 | some (some p)=>some p
 | _=>none
noncomputable def Yd (π:Zv) (fr:List Nat) (p:P):Zv:=some p :: fr.map fun i=>(π[i]?).join
noncomputable def Zcc (p:P):List (Option P):=[some p]
noncomputable def Wi (b:P→List (Option P)) (π:Zv) (fr:List Nat) (p:P):Zv:=b p++fr.map fun i=>(π[i]?).join
noncomputable def Y1 (b:P→List (Option P)) (w:P→Option (List P)) (fr:List Nat) (fi fe fc:PEv):PEv:=fun π=>match fi π with
 | some x=>match w x with
  | some xs=>if xs.length≤1000 then
    match YB (fun p=>fe (Wi b π fr p)) (fun p=>fc (Wi b π fr p)) xs with
    | some ys=>some (.lst true ys)
    | none=>none
   else none
  | none=>none
 | none=>none
noncomputable def pe (F:Nat→List P→Option P):CE→PEv
 | .var i=>Wj i
 | .cst d=>fun _=>ofD d
 | .bin op a b=>pq2 (pe F a) (pe F b) (YL op)
 | .neg a=>pq1 (pe F a) Zar
 | .cmp op a b=>pq2 (pe F a) (pe F b) (Yu op)
 | .not a=>pq1 (pe F a) Zau
 | .and a b=>YG (pe F a) (pe F b) (fun _=>some (.bl false))
 | .or a b=>YG (pe F a) (fun _=>some (.bl true)) (pe F b)
 | .ife c a b=>YG (pe F c) (pe F a) (pe F b)
 | .tupE a=>pe F a
 | .lstE a=>pq1 (pe F a) Q1
 | .anil=>fun _=>some (.tup [])
 | .acons a r=>pq2 (pe F a) (pe F r) VQ
 | .ix a b=>pq2 (pe F a) (pe F b) ixP
 | .slice a lo hi=>pq3 (pe F a) (pe F lo) (pe F hi) XB
 | .nop=>fun _=>some .non
 | .part a=>pq1 (pe F a) V5
 | .call f a ds=>pq1 (pe F a) (W6 (F f) ds)
 | .len a=>pq1 (pe F a) QX
 | .tupleOf a=>pq1 (pe F a) X5
 | .listOf a=>pq1 (pe F a) Vh
 | .intOf _=>fun _=>none
 | .min a b=>pq2 (pe F a) (pe F b) ZdL
 | .max a b=>pq2 (pe F a) (pe F b) ZdI
 | .isi T a=>pq1 (pe F a) (U8 T)
 | .rs _ _=>fun _=>none
 | .inv _=>fun _=>none
 | .tupR _=>fun _=>none
 | .look ks ds a=>pq1 (pe F a) (Ut ks ds)
 | .dget _ _ _=>fun _=>none
 | .inR ng a b=>pq2 (pe F a) (pe F b) (ZdA ng)
 | .all _=>fun _=>none
 | .any _=>fun _=>none
 | .comp rng fr it elt cnd=>Y1 Zcc (YE rng) fr (pe F it) (pe F elt) (pe F cnd)
 | .comp2 _ _ _ _=>fun _=>none
 | .compT _ _ _ _=>fun _=>none
 | .lstR _ _=>fun _=>none
 | .new i=>fun _=>some (.obj i)
 | .meth tab o a=>pq2 (pe F o) (pe F a) (We F tab)
 | .isc _ _=>fun _=>none
 | .tix o a=>pq2 (pe F o) (pe F a) Zer
 | .dict _ _=>fun _=>none

noncomputable def noM (M:List Nat):CE→Bool
 | .var i=>!M.contains i
 | .cst _=>true
 | .bin _ a b=>noM M a&&noM M b
 | .neg a=>noM M a
 | .cmp _ a b=>noM M a&&noM M b
 | .not a=>noM M a
 | .and a b=>noM M a&&noM M b
 | .or a b=>noM M a&&noM M b
 | .ife c a b=>noM M c&&(noM M a&&noM M b)
 | .tupE a=>noM M a
 | .lstE a=>noM M a
 | .anil=>true
 | .acons a r=>noM M a&&noM M r
 | .ix a b=>noM M a&&noM M b
 | .slice a lo hi=>noM M a&&(noM M lo&&noM M hi)
 | .nop=>true
 | .part a=>noM M a
 | .call _ a _=>noM M a
 | .len a=>noM M a
 | .tupleOf a=>noM M a
 | .listOf a=>noM M a
 | .intOf a=>noM M a
 | .min a b=>noM M a&&noM M b
 | .max a b=>noM M a&&noM M b
 | .isi _ a=>noM M a
 | .rs _ a=>noM M a
 | .inv a=>noM M a
 | .tupR a=>noM M a
 | .look _ _ a=>noM M a
 | .dget a k d=>noM M a&&(noM M k&&noM M d)
 | .inR _ a b=>noM M a&&noM M b
 | .all a=>noM M a
 | .any a=>noM M a
 | .comp _ fr it _ _=>noM M it&&fr.all fun i=>!M.contains i
 | .comp2 fr it _ _=>noM M it&&fr.all fun i=>!M.contains i
 | .compT fr it _ _=>noM M it&&fr.all fun i=>!M.contains i
 | .lstR a b=>noM M a&&noM M b
 | .new _=>true
 | .meth _ o a=>noM M o&&noM M a
 | .isc _ a=>noM M a
 | .tix o a=>noM M o&&noM M a
 | .dict _ a=>noM M a
noncomputable def Vf (_:Nat):Bool:=false
noncomputable def WQ:CE→Bool
 | .call f _ _=>Vf f
 | .bin _ _ _=>true
 | .lstE _=>true
 | .slice _ _ _=>true
 | .listOf _=>true
 | .comp ..=>true
 | _=>false
noncomputable def ZC:CS→List Nat
 | .seq a b=>ZC a++ZC b
 | .app i _=>[i]
 | .ext i _=>[i]
 | .put i _ _=>[i]
 | .ite _ a b=>ZC a++ZC b
 | .for1 _ _ _ b=>ZC b
 | .for3 _ _ b=>ZC b
 | .forP _ _ _ b=>ZC b
 | .forE _ _ _ b=>ZC b
 | .for4 _ _ _ _ b=>ZC b
 | .for2 _ _ _ b=>ZC b
 | .whl _ b=>ZC b
 | _=>[]
noncomputable def mvT:CE→List Nat
 | .var j=>[j]
 | _=>[]
noncomputable def Z1:CS→List Nat
 | .seq a b=>Z1 a++Z1 b
 | .app i _=>[i]
 | .ext i _=>[i]
 | .put i _ _=>[i]
 | .set i e=>i :: mvT e
 | .set2 i j _=>[i,j]
 | .set3 i j l _=>[i,j,l]
 | .ite _ a b=>Z1 a++Z1 b
 | .for1 i _ _ b=>i :: Z1 b
 | .for3 i _ b=>i :: Z1 b
 | .forP i j _ b=>i :: j :: Z1 b
 | .forE i j _ b=>i :: j :: Z1 b
 | .for4 i j l _ b=>i :: j :: l :: Z1 b
 | .for2 i j _ b=>i :: j :: Z1 b
 | .whl _ b=>Z1 b
 | _=>[]
inductive PFl where
 | nx (π:Zv) | rt (p:P) | bk (π:Zv) | ct (π:Zv)
noncomputable abbrev PEx:=Zv→Option PFl
noncomputable def Zq (π:Zv) (i:Nat) (p:P):Zv:=π.set i (some p)
noncomputable def ZR (body:P→Zv→Option PFl):List P→Zv→Option PFl
 | [],π=>some (.nx π)
 | d :: ds,π=>match body d π with
  | some (.nx π')=>ZR body ds π'
  | some (.ct π')=>ZR body ds π'
  | some (.bk π')=>some (.nx π')
  | some (.rt v)=>some (.rt v)
  | none=>none
noncomputable def Zcf (f g:PEx):PEx:=fun π=>match f π with
 | some (.nx π')=>g π'
 | r=>r
noncomputable def Zce (f:PEv):PEx:=fun π=>match f π with
 | some d=>some (.rt d)
 | none=>none
noncomputable def Zu (M:List Nat) (e:CE) (p:P):Bool:=noM M e||noL p
noncomputable def WP (M:List Nat) (e:CE) (p:P):Bool:=match p with
 | .lst true xs=>WQ e&&(noM M e||Vo xs)
 | _=>false
noncomputable def mvP (M:List Nat) (i:Nat) (e:CE) (p:P) (π:Zv):Option PFl:=match e with
 | .var j=>if M.contains j&&!M.contains i then some (.nx (Zq (π.set j none) i p)) else none
 | _=>none
noncomputable def Q6 (M:List Nat) (i:Nat) (e:CE) (f:PEv):PEx:=fun π=>match f π with
 | some p=>if (if M.contains i then WP M e p else Zu M e p) then some (.nx (Zq π i p)) else mvP M i e p π
 | none=>none
noncomputable def Zcg (M:List Nat) (i j:Nat) (e:CE) (f:PEv):PEx:=fun π=>match f π with
 | some (.tup [x,y])=>if !M.contains i&&!M.contains j&&Zu M e (.tup [x,y]) then some (.nx (Zq (Zq π i x) j y)) else none
 | _=>none
noncomputable def Qj (M:List Nat) (i j l:Nat) (e:CE) (f:PEv):PEx:=fun π=>match f π with
 | some (.tup [x,y,z])=>if !M.contains i&&!M.contains j&&!M.contains l&&Zu M e (.tup [x,y,z]) then some (.nx (Zq (Zq (Zq π i x) j y) l z)) else none
 | _=>none
noncomputable def Zb4 (M:List Nat) (e:CE) (f:PEv):PEx:=fun π=>match f π with
 | some p=>if Zu M e p then some (.nx π) else none
 | none=>none
noncomputable def Zb7 (M:List Nat) (i:Nat) (e:CE) (f:PEv):PEx:=fun π=>match π[i]? with
 | some (some (.lst true xs))=>match f π with
  | some p=>if M.contains i&&Zu M e p&&decide (xs.length < Zo) then some (.nx (Zq π i (.lst true (xs++[p])))) else none
  | none=>none
 | _=>none
noncomputable def Zb9 (M:List Nat) (i:Nat) (e:CE) (f:PEv):PEx:=fun π=>match π[i]? with
 | some (some (.lst true xs))=>match f π with
  | some (.lst true ys)=>if M.contains i&&noM M e&&decide (xs.length+ys.length≤Zo) then some (.nx (Zq π i (.lst true (xs++ys)))) else none
  | _=>none
 | _=>none
noncomputable def Zcd (M:List Nat) (i:Nat) (e:CE) (k f:PEv):PEx:=fun π=>match f π with
 | some p=>match π[i]? with
  | some (some (.lst true xs))=>match k π with
   | some (.int j)=>match ixN xs.length j with
    | some q=>if M.contains i&&Zu M e p then some (.nx (Zq π i (.lst true (xs.set q p)))) else none
    | none=>none
   | _=>none
  | _=>none
 | none=>none
noncomputable def Zca (c:PEv) (f g:PEx):PEx:=fun π=>match c π with
 | some (.bl true)=>f π
 | some (.bl false)=>g π
 | _=>none
noncomputable def Vz (M T:List Nat) (e:CE) (xs:List P):Bool:=noM M e||(WQ e&&Vo xs)||(match e with
 | .var j=>!T.contains j
 | _=>false)
noncomputable def Q5 (M T:List Nat) (i:Nat) (rng:Bool) (e:CE) (it:PEv) (b:PEx):PEx:=fun π=>match it π with
 | some x=>match Vg rng x with
  | some xs=>if !M.contains i&&(rng||Zu M e x) then ZR (fun d π=>b (Zq π i d)) xs π else none
  | none=>match rng,x with
   | false,.lst _ xs=>if !M.contains i&&Vz M T e xs then ZR (fun d π=>b (Zq π i d)) xs π else none
   | _,_=>none
 | none=>none
noncomputable def Q7 (i j l:Nat) (b:PEx) (d:P) (π:Zv):Option PFl:=match d with
 | .tup [x,y,z]=>b (Zq (Zq (Zq π i x) j y) l z)
 | _=>none
noncomputable def Qg (M:List Nat) (i j l:Nat) (e:CE) (it:PEv) (b:PEx):PEx:=fun π=>match it π with
 | some (.tup xs)=>if !M.contains i&&!M.contains j&&!M.contains l&&Zu M e (.tup xs) then ZR (Q7 i j l b) xs π else none
 | _=>none
noncomputable def YM (body:P→P→Zv→Option PFl):List (P×P)→Zv→Option PFl
 | [],π=>some (.nx π)
 | p :: ps,π=>match body p.1 p.2 π with
  | some (.nx π')=>YM body ps π'
  | some (.ct π')=>YM body ps π'
  | some (.bk π')=>some (.nx π')
  | some (.rt v)=>some (.rt v)
  | none=>none
noncomputable def Qi (M:List Nat) (i j:Nat) (e:CE) (it:PEv) (b:PEx):PEx:=fun π=>match it π with
 | some (.tup [.lst _ xs,.lst _ ys])=>if !M.contains i&&!M.contains j&&noM M e then YM (fun x y π=>b (Zq (Zq π i x) j y)) (xs.zip ys) π else none
 | _=>none
noncomputable def Wt:Nat→List P→List (P×P)
 | _,[]=>[]
 | k,x :: xs=>(.int (k:Int),x) :: Wt (k+1) xs
noncomputable def ZcH:P→Option (List P)
 | .tup xs=>some xs
 | .lst _ xs=>some xs
 | _=>none
noncomputable def Qh (M:List Nat) (i j:Nat) (e:CE) (it:PEv) (b:PEx):PEx:=fun π=>match it π with
 | some x=>match ZcH x with
  | some xs=>if !M.contains i&&!M.contains j&&noM M e then YM (fun x y π=>b (Zq (Zq π i x) j y)) (Wt 0 xs) π else none
  | none=>none
 | none=>none
noncomputable def px (F:Nat→List P→Option P) (M:List Nat):CS→PEx
 | .skip=>fun π=>some (.nx π)
 | .seq a b=>Zcf (px F M a) (px F M b)
 | .ret e=>Zce (pe F e)
 | .set i e=>Q6 M i e (pe F e)
 | .set2 i j e=>Zcg M i j e (pe F e)
 | .app i e=>Zb7 M i e (pe F e)
 | .ext i e=>Zb9 M i e (pe F e)
 | .put i k e=>Zcd M i e (pe F k) (pe F e)
 | .ite c a b=>Zca (pe F c) (px F M a) (px F M b)
 | .for1 i rng it b=>Q5 M (Z1 b) i rng it (pe F it) (px F M b)
 | .forP i j it b=>Qi M i j it (pe F it) (px F M b)
 | .forE i j it b=>Qh M i j it (pe F it) (px F M b)
 | .for3 _ _ _=>fun _=>none
 | .for4 i j l it b=>Qg M i j l it (pe F it) (px F M b)
 | .for2 _ _ _ _=>fun _=>none
 | .whl _ _=>fun _=>none
 | .brk=>fun π=>some (.bk π)
 | .cont=>fun π=>some (.ct π)
 | .stop=>fun _=>none
 | .set3 i j l e=>Qj M i j l e (pe F e)
 | .act e=>Zb4 M e (pe F e)
noncomputable def fnP (F:Nat→List P→Option P) (f:FD):List P→Option P:=fun ds=>
 if ds.length=f.ps∧(ZC f.body).all (fun i=>decide (f.ps≤i))=true then
  match px F (ZC f.body) f.body (ds.map some++List.replicate (f.ns - ds.length) none) with
  | some (.rt d)=>some d
  | some (.nx _)=>some .non
  | _=>none
 else none
noncomputable def Xl:CS→Bool
 | .seq a b=>Xl a&&Xl b
 | .ret _=>false
 | .ite _ a b=>Xl a&&Xl b
 | .for1 _ _ _ b=>Xl b
 | .for3 _ _ b=>Xl b
 | .forP _ _ _ b=>Xl b
 | .forE _ _ _ b=>Xl b
 | .for4 _ _ _ _ b=>Xl b
 | .for2 _ _ _ b=>Xl b
 | .whl _ b=>Xl b
 | _=>true
noncomputable def JP (M:List Nat):CS→Bool
 | .seq (.ret (.var j)) .skip=>M.contains j
 | .seq a b=>Xl a&&JP M b
 | _=>false
noncomputable def Vm (f:FD):Bool:=JP (ZC f.body) f.body
noncomputable def Ze (T:Nat→Option FD):Nat→Nat→List P→Option P
 | 0,_=>fun _=>none
 | n+1,i=>match T i with
  | some f=>if (Vf i&&!Vm f)=true then fun _=>none else fnP (Ze T n) f
  | none=>fun _=>none
end Dp


namespace Dp
open PySem
noncomputable abbrev Fz:=Nat→Prop
mutual
inductive Rel (fz:Fz) (st:Za):P→D→Prop where
 | non:Rel fz st .non .non
 | bl (b:Bool):Rel fz st (.bl b) (.bl b)
 | int (i:Int):Rel fz st (.int i) (.int i)
 | str (x:Str):Rel fz st (.str x) (.str x)
 | tup {ps:List P}{ds:List D} (r:Rels fz st ps ds):Rel fz st (.tup ps) (.tup ds)
 | lst {j:Nat}{m:Bool}{ps:List P}{ds:List D} (hz:fz j) (h:st[j]?=some (m,ds)) (r:Rels fz st ps ds):Rel fz st (.lst m ps) (.lst j)
 | dct {ks:List Str}{ps:List P}{ds:List D} (r:Rels fz st ps ds):Rel fz st (.dct ks ps) (.dct ks ds)
 | obj (i:Nat):Rel fz st (.obj i) (.obj i)
 | kt (ks:List Str):Rel fz st (.kt ks) (.kt ks)
inductive Rels (fz:Fz) (st:Za):List P→List D→Prop where
 | nil:Rels fz st [] []
 | cons {p:P}{d:D}{ps:List P}{ds:List D} (h:Rel fz st p d) (r:Rels fz st ps ds):Rels fz st (p :: ps) (d :: ds)
end
section
variable {fz fz':Fz}{st st':Za}
theorem Rel.mono (h1:∀ i,fz i→fz' i) (h2:∀ i,fz i→st'[i]?=st[i]?) {p:P}{d:D} (h:Rel fz st p d):Rel fz' st' p d:=
 Rel.rec (motive_1:=fun p d _=>Rel fz' st' p d) (motive_2:=fun ps ds _=>Rels fz' st' ps ds) .non .bl .int .str (fun _ r=>.tup r) (fun hz h _ r=>.lst (h1 _ hz) (by rw [h2 _ hz]; exact h) r) (fun _ r=>.dct r) .obj .kt .nil (fun _ _ a b=>.cons a b) h
theorem Rels.mono (h1:∀ i,fz i→fz' i) (h2:∀ i,fz i→st'[i]?=st[i]?) {ps:List P}{ds:List D} (h:Rels fz st ps ds):Rels fz' st' ps ds:=
 Rels.rec (motive_1:=fun _ _ _=>True) (motive_2:=fun ps ds _=>Rels fz' st' ps ds) trivial (fun _=>trivial) (fun _=>trivial) (fun _=>trivial) (fun _ _=>trivial) (fun _ _ _ _=>trivial) (fun _ _=>trivial) (fun _=>trivial) (fun _=>trivial) .nil (fun a _ _ b=>.cons (a.mono h1 h2) b) h
theorem Rel.ofNoL {p:P}{d:D} (hn:noL p=true) (h:Rel fz st p d):Rel fz' st' p d:=
 Rel.rec (motive_1:=fun p d _=>noL p=true→Rel fz' st' p d) (motive_2:=fun ps ds _=>Vo ps=true→Rels fz' st' ps ds) (fun _=>.non) (fun _ _=>.bl _) (fun _ _=>.int _) (fun _ _=>.str _) (fun _ r h=>.tup (r h)) (fun _ _ _ _ h=>by cases h) (fun _ r h=>.dct (r h)) (fun _ _=>.obj _) (fun _ _=>.kt _) (fun _=>.nil) (fun _ _ a b h=>.cons (a (Bool.and_eq_true_iff.mp h).1) (b (Bool.and_eq_true_iff.mp h).2)) h hn
theorem Rels.ofNoL {ps:List P}{ds:List D} (hn:Vo ps=true) (h:Rels fz st ps ds):Rels fz' st' ps ds:=by
 induction ps generalizing ds with
 | nil=>cases h; exact .nil
 | cons p ps ih=>cases h with
  | cons a r=>exact .cons (a.ofNoL (Bool.and_eq_true_iff.mp hn).1) (ih (Bool.and_eq_true_iff.mp hn).2 r)
theorem Rels.length:∀ {ps:List P}{ds:List D},Rels fz st ps ds→ps.length=ds.length
 | _,_,.nil=>rfl
 | _,_,.cons _ r=>congrArg (·+1) (Rels.length r)
theorem Rels.get:∀ {ps:List P}{ds:List D}{i:Nat}{p:P},Rels fz st ps ds→ps[i]?=some p→∃ d,ds[i]?=some d∧Rel fz st p d
 | _,_,_,_,.nil,e=>by simp at e
 | _,_,0,_,.cons h _,e=>by simp at e; subst e; exact ⟨_,rfl,h⟩
 | _,_,i+1,p,.cons _ r,e=>by
  obtain ⟨v,h1,h2⟩:=Rels.get (i:=i) (p:=p) r (by simpa using e)
  exact ⟨v,by simpa using h1,h2⟩
theorem Rels.append:∀ {ps qs:List P}{ds es:List D},Rels fz st ps ds→Rels fz st qs es→Rels fz st (ps++qs) (ds++es)
 | _,_,_,_,.nil,s=>s
 | _,_,_,_,.cons h r,s=>.cons h (Rels.append r s)
theorem Rels.take:∀ {ps:List P}{ds:List D} (n:Nat),Rels fz st ps ds→Rels fz st (ps.take n) (ds.take n)
 | _,_,0,_=>.nil
 | _,_,_+1,.nil=>.nil
 | _,_,n+1,.cons h r=>.cons h (Rels.take n r)
theorem Rels.drop:∀ {ps:List P}{ds:List D} (n:Nat),Rels fz st ps ds→Rels fz st (ps.drop n) (ds.drop n)
 | _,_,0,r=>r
 | _,_,_+1,.nil=>.nil
 | _,_,n+1,.cons _ r=>Rels.drop n r
theorem Rels.set {p:P}{d:D} (h:Rel fz st p d):∀ {ps:List P}{ds:List D} (n:Nat),Rels fz st ps ds→Rels fz st (ps.set n p) (ds.set n d)
 | _,_,_,.nil=>.nil
 | _,_,0,.cons _ r=>.cons h r
 | _,_,n+1,.cons q r=>.cons q (Rels.set h n r)
theorem Rels.rep {p:P}{d:D} (h:Rel fz st p d):∀ n:Nat,Rels fz st (List.replicate n p) (List.replicate n d)
 | 0=>.nil
 | n+1=>.cons h (Rels.rep h n)
mutual
theorem Rel.ofConst:∀ {d:D}{p:P},ofD d=some p→Rel fz st p d
 | .non,p,h=>by cases h; exact .non
 | .bl b,p,h=>by cases h; exact .bl b
 | .int i,p,h=>by cases h; exact .int i
 | .str x,p,h=>by cases h; exact .str x
 | .tup xs,p,h=>by
  have h:(Wh xs).map P.tup=some p:=h
  cases q:Wh xs with
  | none=>rw [q] at h; cases h
  | some ys=>rw [q] at h; cases h; exact .tup (Rels.ofConst q)
 | .lst _,p,h=>by cases h
 | .dct _ _,p,h=>by cases h
 | .obj _,p,h=>by cases h
 | .kt ks,p,h=>by cases h; exact .kt ks
theorem Rels.ofConst:∀ {ds:List D}{ps:List P},Wh ds=some ps→Rels fz st ps ds
 | [],ps,h=>by cases h; exact .nil
 | d :: ds,ps,h=>by
  have h:(match ofD d,Wh ds with
   | some y,some ys=>some (y :: ys)
   | _,_=>none)=some ps:=h
  split at h
  ·rename_i y ys h1 h2
   cases h
   exact .cons (Rel.ofConst h1) (Rels.ofConst h2)
  ·cases h
end
end
noncomputable def Bd (fz:Fz) (st:Za):Prop:=∀ i,fz i→i < st.length
structure Next (fz:Fz) (st:Za) (fz':Fz) (st':Za):Prop where
 old:∀ i,i < st.length→st'[i]?=st[i]?
 len:st.length≤st'.length
 sub:∀ i,fz i→fz' i
 new:∀ i,fz' i→fz i∨st.length≤i
 bd:Bd fz' st'
section
variable {fz fz' fz1 fz2:Fz}{st st' st1 st2:Za}
theorem Next.refl (b:Bd fz st):Next fz st fz st:=⟨fun _ _=>rfl,Nat.le_refl _,fun _ h=>h,fun _ h=>.inl h,b⟩
theorem Next.trans (x:Next fz st fz1 st1) (y:Next fz1 st1 fz2 st2):Next fz st fz2 st2:=
 ⟨fun i h=>(y.old i (Nat.lt_of_lt_of_le h x.len)).trans (x.old i h),Nat.le_trans x.len y.len,fun i h=>y.sub i (x.sub i h),fun i h=>(y.new i h).elim (x.new i) fun z=>.inr (Nat.le_trans x.len z),y.bd⟩
theorem Next.small (b:Bd fz st) (x:Next fz1 st fz' st'):Next fz st fz st':=⟨x.old,x.len,fun _ h=>h,fun _ h=>.inl h,fun i h=>Nat.lt_of_lt_of_le (b i h) x.len⟩
theorem Rel.next {p:P}{d:D} (b:Bd fz st) (x:Next fz st fz' st') (r:Rel fz st p d):Rel fz' st' p d:=r.mono x.sub fun i h=>x.old i (b i h)
theorem Rels.next {p:List P}{d:List D} (b:Bd fz st) (x:Next fz st fz' st') (r:Rels fz st p d):Rels fz' st' p d:=r.mono x.sub fun i h=>x.old i (b i h)
theorem ZeI {α:Type}{l:List α}{x:α}:(l++[x])[l.length]?=some x:=by simp
theorem Zch {m:Bool}{ds:List D} (b:Bd fz st):Next fz st fz (st++[(m,ds)]):=
 ⟨fun i h=>by rw [List.getElem?_append_left h],by simp,fun _ h=>h,fun _ h=>.inl h,fun i h=>by have:=b i h; simp; omega⟩
theorem Q8 {m:Bool}{ds:List D} (b:Bd fz st):Next fz st (fun i=>fz i∨i=st.length) (st++[(m,ds)]):=
 ⟨fun i h=>by rw [List.getElem?_append_left h],by simp,fun _ h=>.inl h,fun i h=>h.elim .inl fun z=>.inr (by omega),fun i h=>by
  rcases h with h | h
  ·have:=b i h; simp; omega
  ·simp; omega⟩
theorem Qk {m:Bool}{ps:List P}{ds:List D} (b:Bd fz st) (r:Rels fz st ps ds):Rel (fun i=>fz i∨i=st.length) (st++[(m,ds)]) (.lst m ps) (.lst st.length):=
 .lst (.inr rfl) ZeI (r.next b (Q8 b))
end
noncomputable abbrev Gives (fz:Fz) (st:Za) (r:Res) (p:P):Prop:=∃ d st' fz',r=some (d,st')∧Next fz st fz' st'∧Rel fz' st' p d
noncomputable def Op1 (o:D→Za→Res) (O:P→Option P):Prop:=∀ fz st x dx p,Bd fz st→Rel fz st x dx→O x=some p→Gives fz st (o dx st) p
noncomputable def Op2 (o:D→D→Za→Res) (O:P→P→Option P):Prop:=∀ fz st x y dx dy p,Bd fz st→Rel fz st x dx→Rel fz st y dy→O x y=some p→Gives fz st (o dx dy st) p
noncomputable def Op3 (o:D→D→D→Za→Res) (O:P→P→P→Option P):Prop:=∀ fz st x y z dx dy dz p,Bd fz st→Rel fz st x dx→Rel fz st y dy→Rel fz st z dz→O x y z=some p→Gives fz st (o dx dy dz st) p
noncomputable abbrev Makes (fz:Fz) (st:Za) (r:Res) (m:Bool) (ps:List P):Prop:=∃ ds,r=some (.lst st.length,st++[(m,ds)])∧Rels fz st ps ds
noncomputable def ZeS (o:D→Za→Res) (O:P→Option P):Prop:=∀ fz st x dx m ps,Bd fz st→Rel fz st x dx→O x=some (.lst m ps)→Makes fz st (o dx st) m ps
noncomputable def ZgG (o:D→D→Za→Res) (O:P→P→Option P):Prop:=∀ fz st x y dx dy m ps,Bd fz st→Rel fz st x dx→Rel fz st y dy→O x y=some (.lst m ps)→Makes fz st (o dx dy st) m ps
noncomputable def ZgH (o:D→D→D→Za→Res) (O:P→P→P→Option P):Prop:=∀ fz st x y z dx dy dz m ps,Bd fz st→Rel fz st x dx→Rel fz st y dy→Rel fz st z dz→O x y z=some (.lst m ps)→Makes fz st (o dx dy dz st) m ps
theorem Gives.same {fz:Fz}{st:Za}{p:P}{d:D} (b:Bd fz st) (r:Rel fz st p d):Gives fz st (some (d,st)) p:=⟨d,st,fz,rfl,Next.refl b,r⟩
theorem Makes.gives {fz:Fz}{st:Za}{r:Res}{m:Bool}{ps:List P} (b:Bd fz st) (h:Makes fz st r m ps):Gives fz st r (.lst m ps):=by
 obtain ⟨ds,e,rr⟩:=h
 exact ⟨_,_,_,e,Q8 b,Qk b rr⟩
section
mutual
theorem Q2 {fz:Fz}{st:Za}:∀ {n:Nat}{p:P}{d:D},Rel fz st p d→okP n p=okD n d
 | n,_,_,.non=>by cases n<;>rfl
 | n,_,_,.bl b=>by cases n<;>rfl
 | n,_,_,.int i=>by cases n<;>rfl
 | n,_,_,.str x=>by cases n<;>rfl
 | 0,_,_,.tup r=>rfl
 | n+1,_,_,.tup r=>WR r
 | n,_,_,.lst _ _ _=>by cases n<;>rfl
 | n,_,_,.dct _=>by cases n<;>rfl
 | n,_,_,.obj _=>by cases n<;>rfl
 | n,_,_,.kt _=>by cases n<;>rfl
theorem WR {fz:Fz}{st:Za}:∀ {n:Nat}{p:List P}{d:List D},Rels fz st p d→VH n p=YQ n d
 | _,_,_,.nil=>rfl
 | n,p :: ps,d :: ds,.cons h r=>by
  show (okP n p&&VH n ps)=(okD n d&&YQ n ds)
  rw [Q2 h,WR r]
end
mutual
theorem Zc1 {fz:Fz}{st:Za}:∀ {p q:P}{d e:D},Rel fz st p d→Rel fz st q e→X6 p q=Z2 d e
 | _,_,_,_,.non,h=>by cases h<;>rfl
 | _,_,_,_,.bl b,h=>by cases h<;>rfl
 | _,_,_,_,.int i,h=>by cases h<;>rfl
 | _,_,_,_,.str x,h=>by cases h<;>rfl
 | _,_,_,_,.tup r,h=>by
  cases h with
  | tup r'=>exact X7 r r'
  | _=>rfl
 | _,_,_,_,.lst _ _ _,h=>by cases h<;>rfl
 | _,_,_,_,.dct _,h=>by cases h<;>rfl
 | _,_,_,_,.obj _,h=>by cases h<;>rfl
 | _,_,_,_,.kt _,h=>by cases h<;>rfl
theorem X7 {fz:Fz}{st:Za}:∀ {p q:List P}{d e:List D},Rels fz st p d→Rels fz st q e→Xj p q=Z8 d e
 | _,_,_,_,.nil,h=>by cases h<;>rfl
 | p :: ps,_,d :: ds,_,.cons a r,h=>by
  cases h with
  | nil=>rfl
  | @cons q e qs es a' r'=>
   show (X6 p q&&Xj ps qs)=(Z2 d e&&Z8 ds es)
   rw [Zc1 a a',X7 r r']
end
theorem ZdN {fz:Fz}{st:Za}{ps:List P}{ds:List D} (r:Rels fz st ps ds):ps.isEmpty=ds.isEmpty:=by cases r<;>rfl
theorem Zb6 {fz:Fz}{st:Za}{ps qs:List P}{ds es:List D}{k:Bool} (r:Rels fz st ps ds) (s:Rels fz st qs es) (h:Zb5 ps qs=some k):JH st ds es=some k:=by cases h
theorem Za3 {fz:Fz}{st:Za}{p q:P}{d e:D}{k:Bool} (r:Rel fz st p d) (s:Rel fz st q e) (h:eqP p q=some k):eqS st d e=some k:=by
 cases r with
 | non=>cases s<;>first | exact h | cases h
 | bl b=>cases s<;>first | exact h | cases h
 | int i=>cases s<;>first | exact h | cases h
 | str x=>cases s<;>first | exact h | cases h
 | @tup ps ds r=>
  cases s with
  | @tup qs es r'=>
   have h:(if okP 8 (.tup ps)&&okP 8 (.tup qs) then some (Xj ps qs) else Zb5 ps qs)=some k:=h
   show (match (if okD 8 (.tup ds)&&okD 8 (.tup es) then some (Z8 ds es) else none) with
    | some k=>some k
    | none=>JH st ds es)=some k
   rw [Q2 (.tup r),Q2 (.tup r'),X7 r r'] at h
   by_cases c:(okD 8 (.tup ds)&&okD 8 (.tup es))=true
   ·rw [if_pos c] at h ⊢
    exact h
   ·rw [if_neg c] at h ⊢
    exact Zb6 r r' h
  | _=>cases h
 | @lst j m ps ds hz hs r=>
  cases s with
  | @lst j' m' qs es hz' hs' r'=>
   show (match st[j]?,st[j']? with
    | some (_,xs),some (_,[])=>some xs.isEmpty
    | some (_,[]),some (_,ys)=>some ys.isEmpty
    | some (_,xs),some (_,ys)=>if YQ 7 xs&&YQ 7 ys then some (Z8 xs ys) else none
    | _,_=>none)=some k
   rw [hs,hs']
   cases r' with
   | nil=>
    have h:some ps.isEmpty=some k:=by
     cases ps<;>exact h
    rw [ZdN r] at h
    exact h
   | cons a b=>
    cases r with
    | nil=>exact h
    | cons a2 b2=>
     have h:(if VH 7 (_ :: _)&&VH 7 (_ :: _) then some (Xj (_ :: _) (_ :: _)) else none)=some k:=h
     rw [WR (.cons a2 b2),WR (.cons a b),X7 (.cons a2 b2) (.cons a b)] at h
     exact h
  | _=>cases h
 | dct r=>cases s<;>cases h
 | obj i=>cases s<;>cases h
 | kt i=>cases s<;>cases h
theorem QT {fz:Fz}{st:Za}{i:Int}:∀ {ps:List P}{ds:List D}{k:Bool},Rels fz st ps ds→inP i ps=some k→Xf i ds=some k
 | _,_,_,.nil,h=>h
 | p :: ps,d :: ds,k,.cons a r,h=>by
  cases a with
  | int j=>
   have h:(inP i ps).map (fun b=>decide (j=i)||b)=some k:=h
   show (Xf i ds).map (fun b=>decide (j=i)||b)=some k
   cases q:inP i ps with
   | none=>rw [q] at h; cases h
   | some k'=>rw [q] at h; rw [QT r q]; exact h
  | _=>cases h
theorem Up {fz:Fz}{st:Za}{i:Str}:∀ {ps:List P}{ds:List D}{k:Bool},Rels fz st ps ds→Zaj i ps=some k→Xg i ds=some k
 | _,_,_,.nil,h=>h
 | p :: ps,d :: ds,k,.cons a r,h=>by
  cases a with
  | str j=>
   have h:(Zaj i ps).map (fun b=>decide (j=i)||b)=some k:=h
   show (Xg i ds).map (fun b=>decide (j=i)||b)=some k
   cases q:Zaj i ps with
   | none=>rw [q] at h; cases h
   | some k'=>rw [q] at h; rw [Up r q]; exact h
  | _=>cases h
theorem QG {fz:Fz}{st:Za}{i:Int}{ps:List P}{ds:List D}{p:P} (r:Rels fz st ps ds) (h:atP ps i=some p):∃ d,atD ds i=some d∧Rel fz st p d:=by
 unfold atP at h
 unfold atD
 rw [←r.length]
 cases q:ixN ps.length i with
 | none=>rw [q] at h; cases h
 | some j=>
  rw [q] at h
  exact r.get h
theorem Ju {fz:Fz}{st:Za}{lo hi:Option Int}{ps:List P}{ds:List D} (r:Rels fz st ps ds):Rels fz st (W9 ps lo hi) (Zad ds lo hi):=by
 unfold W9 Zad
 rw [←r.length]
 exact (r.drop _).take _
end
section
theorem ZhE:Op1 ZdM Zar:=by
 intro fz st x dx p b r h
 cases r<;>first | (cases h; exact .same b (.int _)) | cases h
theorem ZhF:Op1 Zat Zau:=by
 intro fz st x dx p b r h
 cases r<;>first | (cases h; exact .same b (.bl _)) | cases h
theorem ZfE:Op1 JI V5:=by
 intro fz st x dx p b r h
 cases r<;>first | (cases h; exact .same b (.int _)) | cases h
theorem ZfB:Op1 Zao QX:=by
 intro fz st x dx p b r h
 cases r with
 | @tup ps ds r=>
  cases h
  rw [r.length]
  exact .same b (.int _)
 | @lst j m ps ds hz hs r=>
  cases h
  have e:Zao (.lst j) st=some (.int ds.length,st):=by unfold Zao Zft; simp only [hs]
  rw [e,r.length]
  exact .same b (.int _)
 | kt ks=>
  cases h
  exact .same b (.int _)
 | _=>cases h
theorem ZhA (T:Ty):Op1 (Zak T) (U8 T):=by
 intro fz st x dx p b r h
 cases r<;>cases T<;>first | (cases h; exact .same b (.bl _)) | cases h
theorem ZeC:ZeS ZbA Q1:=by
 intro fz st x dx m ps b r h
 cases r with
 | @tup ps ds r=>cases h; exact ⟨ds,rfl,r⟩
 | _=>cases h
theorem ZhB:Op1 ZbA Q1:=by
 intro fz st x dx p b r h
 cases r with
 | @tup ps ds r=>cases h; exact (ZeC fz st _ _ true ps b (.tup r) rfl).gives b
 | _=>cases h
theorem QP:ZeS V0 Vh:=by
 intro fz st x dx m ps b r h
 cases r with
 | @tup ps ds r=>cases h; exact ⟨ds,rfl,r⟩
 | @lst j m ps ds hz hs r=>
  cases h
  exact ⟨ds,by unfold V0; simp only [hs],r⟩
 | _=>cases h
theorem ZfC:Op1 V0 Vh:=by
 intro fz st x dx p b r h
 cases r with
 | @tup ps ds r=>cases h; exact (QP fz st _ _ true ps b (.tup r) rfl).gives b
 | @lst j m ps ds hz hs r=>cases h; exact (QP fz st _ _ true ps b (.lst hz hs r) rfl).gives b
 | _=>cases h
theorem ZdR:Op1 Ww X5:=by
 intro fz st x dx p b r h
 cases r with
 | @tup ps ds r=>cases h; exact .same b (.tup r)
 | @lst j m ps ds hz hs r=>
  cases h
  have e:Ww (.lst j) st=some (.tup ds,st):=by unfold Ww; simp only [hs]
  rw [e]
  exact .same b (.tup r)
 | _=>cases h
theorem ZfA:Op2 Wx VQ:=by
 intro fz st x y dx dy p b r s h
 cases s with
 | @tup ps ds s=>
  have h:(if ps.length < 1000 then some (P.tup (x :: ps)) else none)=some p:=h
  split at h
  ·rename_i c
   cases h
   have e:Wx dx (.tup ds) st=some (.tup (dx :: ds),st):=by unfold Wx; simp only; rw [s.length] at c; rw [if_pos c]
   rw [e]
   exact .same b (.tup (.cons r s))
  ·cases h
 | _=>cases h
theorem ZhD:Op2 ZdK ZdL:=by
 intro fz st x y dx dy p b r s h
 cases r with
 | int i=>
  cases s with
  | int j=>cases h; exact .same b (.int _)
  | _=>cases h
 | _=>cases h
theorem ZhC:Op2 ZdH ZdI:=by
 intro fz st x y dx dy p b r s h
 cases r with
 | int i=>
  cases s with
  | int j=>cases h; exact .same b (.int _)
  | _=>cases h
 | _=>cases h
theorem Wp {fz:Fz}{st:Za}{k:Str}:∀ {ks:List Str}{ps:List P}{ds:List D},Rels fz st ps ds→(∃ p d,Xk ks ps k=some p∧ZS ks ds k=some d∧Rel fz st p d)∨(Xk ks ps k=none∧ZS ks ds k=none)
 | [],_,_,_=>.inr ⟨by simp [Xk],by simp [ZS]⟩
 | _ :: _,_,_,.nil=>.inr ⟨by simp [Xk],by simp [ZS]⟩
 | x :: ks,_,_,.cons h r=>by
  by_cases e:x=k
  ·exact .inl ⟨_,_,by simp [Xk,e],by simp [ZS,e],h⟩
  ·have ih:=Wp (k:=k) (ks:=ks) r
   simp only [Xk,ZS,if_neg e]
   exact ih
theorem Qz {fz:Fz}{st:Za}:∀ l:List Str,Rels fz st (l.map P.str) (l.map D.str)
 | []=>.nil
 | k :: l=>.cons (.str _) (Qz l)
theorem Zjc:Op2 ixR ixP:=by
 intro fz st x y dx dy p b r s h
 cases r with
 | @tup ps ds r=>
  cases s with
  | int j=>
   obtain ⟨d,e,q⟩:=QG r h
   have e:ixR (.tup ds) (.int j) st=some (d,st):=by unfold ixR ixD; simp only [e]
   rw [e]; exact .same b q
  | _=>cases h
 | @lst k m ps ds hz hs r=>
  cases s with
  | int j=>
   obtain ⟨d,e,q⟩:=QG r h
   have e:ixR (.lst k) (.int j) st=some (d,st):=by unfold ixR ixD; simp only [hs,e]
   rw [e]; exact .same b q
  | _=>cases h
 | @dct ks ps ds r=>
  cases s with
  | str z=>
   rcases Wp (k:=z) (ks:=ks) r with ⟨p',d,e1,e2,q⟩ | ⟨e1,_⟩
   ·have h:Xk ks ps z=some p:=h
    rw [e1] at h; cases h
    have e:ixR (.dct ks ds) (.str z) st=some (d,st):=by unfold ixR ixD; simp only [e2]
    rw [e]; exact .same b q
   ·have h:Xk ks ps z=some p:=h
    rw [e1] at h; cases h
  | _=>cases h
 | kt ks=>
  cases s with
  | int j=>
   obtain ⟨d,e,q⟩:=QG (Qz (fz:=fz) (st:=st) ks) h
   have e:ixR (.kt ks) (.int j) st=some (d,st):=by unfold ixR ixD; simp only [e]
   rw [e]; exact .same b q
  | _=>cases h
 | _=>cases h
theorem WT {f:Int→Int→Bool}{fz:Fz}{st:Za}{x y:P}{dx dy:D}{k:Bool} (r:Rel fz st x dx) (s:Rel fz st y dy) (h:ZbZ f x y=some k):Q3 f dx dy=some k:=by
 cases r with
 | int i=>
  cases s with
  | int j=>exact h
  | _=>cases h
 | _=>cases h
theorem Zfu {fz:Fz}{st:Za}{x y:P}{dx dy:D}{k:Bool} (r:Rel fz st x dx) (s:Rel fz st y dy) (h:ltP x y=some k):ltD dx dy=some k:=by exact WT r s h
theorem ZdG {fz:Fz}{st:Za}{x y:P}{dx dy:D}{k:Bool} (r:Rel fz st x dx) (s:Rel fz st y dy) (h:Zg9 x y=some k):ltS st dx dy=some k:=by exact Zfu r s h
theorem Uv {a b:Option Bool}{f:Bool→Bool}{k:Bool} (h:∀ k,a=some k→b=some k) (e:a.map f=some k):b.map f=some k:=by
 cases q:a with
 | none=>rw [q] at e; cases e
 | some k'=>rw [h k' q]; rw [q] at e; exact e
theorem JA {fz:Fz}{st:Za}{x y:P}{dx dy:D}{k:Bool} (r:Rel fz st x dx) (s:Rel fz st y dy) (h:Zfr x y=some k):inS st dx dy=some k:=by
 cases r with
 | int i=>
  cases s with
  | tup rr=>exact QT rr h
  | lst hz hs rr=>
   unfold inS
   simp only [hs]
   exact QT rr h
  | _=>cases h
 | str z=>
  cases s with
  | tup rr=>exact Up rr h
  | lst hz hs rr=>
   unfold inS
   simp only [hs]
   exact Up rr h
  | @dct ks _ _ rr=>
   have h:some (Xk ks _ z).isSome=some k:=h
   show some (ZS ks _ z).isSome=some k
   rcases Wp (k:=z) (ks:=ks) rr with ⟨p',d,e1,e2,_⟩ | ⟨e1,e2⟩
   ·rw [e1] at h; rw [e2]; exact h
   ·rw [e1] at h; rw [e2]; exact h
  | _=>cases h
 | _=>cases h
theorem JB {fz:Fz}{st:Za}{x y:P}{dx dy:D}{k:Bool} (r:Rel fz st x dx) (s:Rel fz st y dy) (h:Zfs x y=some k):isD dx dy=some k:=by
 cases s with
 | non=>cases r<;>first | exact h | cases h
 | bl b=>cases r<;>first | exact h | cases h
 | _=>cases h
theorem ZhG:Op2 Zeq Zer:=by
 intro fz st x y dx dy p b r s h
 cases r with
 | kt ks=>
  cases s with
  | @tup ps ds s=>
   cases s with
   | nil=>cases h
   | cons a s=>
    cases s with
    | cons _ _=>cases a<;>cases h
    | nil=>
     cases a with
     | str k=>
      have h:(match Uk k ks with
       | some i=>some (P.int (i:Int))
       | none=>none)=some p:=h
      show Gives fz st (match Uk k ks with
       | some i=>some (D.int (i:Int),st)
       | none=>none) p
      cases q:Uk k ks with
      | none=>rw [q] at h; cases h
      | some i=>rw [q] at h; cases h; exact .same b (.int _)
     | _=>cases h
  | _=>cases h
 | _=>cases h
theorem ZfD (ks:List Str) (ds:List D):Op1 (V1 ks ds) (Ut ks ds):=by
 intro fz st x dx p b r h
 cases r with
 | str k=>
  have h:(ZS ks ds k).bind ofD=some p:=h
  cases q:ZS ks ds k with
  | none=>rw [q] at h; cases h
  | some d=>
   rw [q] at h
   have e:V1 ks ds (.str k) st=some (d,st):=by unfold V1; simp only [q]
   rw [e]
   exact .same b (Rel.ofConst h)
 | _=>cases h
theorem Zhz (ng:Bool):Op2 (Zfq ng) (ZdA ng):=by
 intro fz st x y dx dy p b r s h
 cases r with
 | int i=>
  cases s with
  | int j=>
   have h:(if -(2 ^ 62)≤j∧j < 2 ^ 62 then some (P.bl (ng != decide (0≤i∧i < j))) else none)=some p:=h
   split at h
   ·rename_i c
    cases h
    have e:Zfq ng (.int i) (.int j) st=some (.bl (ng != decide (0≤i∧i < j)),st):=if_pos c
    rw [e]
    exact .same b (.bl _)
   ·cases h
  | _=>cases h
 | _=>cases h
theorem Zhy (op:CmpOp):Op2 (WI op) (Yu op):=by
 intro fz st x y dx dy p b r s h
 have h:(Ze9 op x y).map P.bl=some p:=h
 cases q:Ze9 op x y with
 | none=>rw [q] at h; cases h
 | some k=>
  rw [q] at h; cases h
  have e:Ze8 op dx dy st=some k:=by
   cases op with
   | Lt=>exact ZdG r s q
   | LtE=>exact WT r s q
   | Gt=>exact WT r s q
   | GtE=>exact WT r s q
   | Eq=>exact Za3 r s q
   | NotEq=>exact Uv (fun k=>Za3 r s) q
   | In=>exact JA r s q
   | NotIn=>
    replace q:niP x y=some k:=q
    show niS st dx dy=some k
    cases s with
    | dct _=>cases q
    | _=>exact Uv (fun k=>JA r (by constructor<;>assumption)) q
   | Is=>exact JB r s q
   | IsNot=>exact Uv (fun k=>JB r s) q
  have e2:WI op dx dy st=some (.bl k,st):=by unfold WI; rw [e]
  rw [e2]
  exact .same b (.bl k)
theorem Za6 (op:Operator):ZgG (VA op) (YL op):=by
 intro fz st x y dx dy m ps b r s h
 unfold YL at h
 split at h
 ·split at h<;>cases h
 ·split at h<;>cases h
 ·split at h<;>cases h
 ·split at h
  ·rename_i xs ys c
   cases h
   cases r with
   | lst hz hs rr=>
    cases s with
    | lst hz' hs' rr'=>
     refine ⟨_,?_,rr.append rr'⟩
     unfold VA Ze7
     simp only [hs,hs',c.1,if_true]
     rw [if_pos (by rw [←rr.length,←rr'.length]; exact c.2)]
  ·cases h
 ·split at h
  ·rename_i z j c
   cases h
   cases r with
   | lst hz hs rr=>
    cases s
    cases rr with
    | cons a rr=>
     cases rr
     refine ⟨_,?_,Rels.rep a _⟩
     unfold VA Zf1
     simp only [hs,c.1,if_true]
     rw [if_pos c.2]
  ·cases h
 ·cases h
theorem Zhx (op:Operator):Op2 (VA op) (YL op):=by
 intro fz st x y dx dy p b r s h
 have h0:=h
 unfold YL at h
 split at h
 ·split at h
  ·rename_i k q
   cases h; cases r; cases s
   unfold VA; simp only [q]; exact .same b (.int _)
  ·cases h
 ·split at h
  ·rename_i c; cases h
   cases r with
   | tup r1=>
    cases s with
    | tup s1=>
     unfold VA; simp only; rw [if_pos ⟨c.1,by rw [←r1.length,←s1.length]; exact c.2⟩]; exact .same b (.tup (r1.append s1))
  ·cases h
 ·split at h
  ·rename_i c; cases h
   cases r with
   | tup r1=>
    cases s
    cases r1 with
    | cons a r1=>
     cases r1
     unfold VA; simp only; rw [if_pos c]; exact .same b (.tup (Rels.rep a _))
  ·cases h
 ·split at h
  ·cases h; exact (Za6 _ fz st _ _ _ _ _ _ b r s h0).gives b
  ·cases h
 ·split at h
  ·cases h; exact (Za6 _ fz st _ _ _ _ _ _ b r s h0).gives b
  ·cases h
 ·cases h
theorem JN {fz:Fz}{st:Za}{x:P}{dx:D}{lo hi:Option Int}{p:P} (b:Bd fz st) (r:Rel fz st x dx) (h:Yj x lo hi=some p):(∃ ps ds,p=.tup ps∧Yy dx lo hi st=some (.tup ds,st)∧Rels fz st ps ds)∨∃ ps,p=.lst true ps∧Makes fz st (Yy dx lo hi st) true ps:=by
 cases r with
 | @tup ps ds r=>
  have h:(if sIx ps.length 0 lo=0∧sIx ps.length ps.length hi=ps.length then some (P.tup ps) else some (P.tup (W9 ps lo hi)))=some p:=h
  split at h
  ·rename_i c
   cases h
   refine .inl ⟨_,_,rfl,?_,r⟩
   unfold Yy
   simp only
   rw [if_pos (by rw [←r.length]; exact c)]
  ·rename_i c
   cases h
   refine .inl ⟨_,_,rfl,?_,Ju r⟩
   unfold Yy
   simp only
   rw [if_neg (by rw [←r.length]; exact c)]
 | @lst j m ps ds hz hs r=>
  cases h
  refine .inr ⟨_,rfl,_,?_,Ju r⟩
  unfold Yy
  simp only [hs]
 | _=>cases h
theorem Zcy {fz:Fz}{st:Za}{x y z:P}{dx dy dz:D}{p:P} (s1:Rel fz st y dy) (s2:Rel fz st z dz) (h:XB x y z=some p):∃ lo hi,Yj x lo hi=some p∧∀ dx,X3 dx dy dz st=Yy dx lo hi st:=by
 unfold XB at h
 split at h
 ·cases s1; cases s2; exact ⟨_,_,h,fun _=>rfl⟩
 ·cases s1; cases s2; exact ⟨_,_,h,fun _=>rfl⟩
 ·cases s1; cases s2; exact ⟨_,_,h,fun _=>rfl⟩
 ·cases s1; cases s2; exact ⟨_,_,h,fun _=>rfl⟩
 ·cases h
theorem ZdQ:Op3 X3 XB:=by
 intro fz st x y z dx dy dz p b r s1 s2 h
 obtain ⟨lo,hi,h0,e⟩:=Zcy (dx:=dx) s1 s2 h
 rw [e]
 rcases JN b r h0 with ⟨ps,ds,rfl,e1,rr⟩ | ⟨ps,rfl,mk⟩
 ·rw [e1]; exact .same b (.tup rr)
 ·exact mk.gives b
theorem Zdi:ZgH X3 XB:=by
 intro fz st x y z dx dy dz m ps b r s1 s2 h
 obtain ⟨lo,hi,h0,e⟩:=Zcy (dx:=dx) s1 s2 h
 rw [e]
 rcases JN b r h0 with ⟨ps,ds,z,e1,rr⟩ | ⟨ps,z,mk⟩
 ·cases z
 ·cases z; exact mk
end
end Dp


namespace Dp
open PySem
noncomputable abbrev PFn:=Nat→List P→Option P
noncomputable def Zev (F:Fn) (G:List P→Option P):Prop:=∀ ps m xs,G ps=some (.lst m xs)→∀ fz st ds,Bd fz st→Rels fz st ps ds→∃ j es st' fz1,F ds st=some (.lst j,st')∧st'[j]?=some (m,es)∧Next fz st fz1 st'∧¬fz1 j∧st.length≤j∧Rels fz1 st' xs es
noncomputable def Ye (F:Nat→Fn) (G:PFn):Prop:=(∀ i ps p,G i ps=some p→∀ fz st ds,Bd fz st→Rels fz st ps ds→Gives fz st (F i ds st) p)∧∀ i,Vf i=true→Zev (F i) (G i)
noncomputable def EnvAll (fz:Fz) (st:Za) (π:Zv) (ρ:Env):Prop:=∀ (i:Nat) (p:P),π[i]?=some (some p)→∃ d,ρ[i]?=some (some d)∧Rel fz st p d
theorem EnvAll.next {fz fz':Fz}{st st':Za}{π:Zv}{ρ:Env} (b:Bd fz st) (x:Next fz st fz' st') (h:EnvAll fz st π ρ):EnvAll fz' st' π ρ:=fun i p e=>
 let ⟨d,e1,r⟩:=h i p e; ⟨d,e1,r.next b x⟩
noncomputable def SEP (f:Ev) (g:PEv):Prop:=∀ π p,g π=some p→∀ fz st ρ,Bd fz st→EnvAll fz st π ρ→Gives fz st (f ρ st) p
noncomputable def SFP (f:Ev) (g:PEv):Prop:=∀ π m ps,g π=some (.lst m ps)→∀ fz st ρ,Bd fz st→EnvAll fz st π ρ→∃ j ds st' fz1,f ρ st=some (.lst j,st')∧st'[j]?=some (m,ds)∧Next fz st fz1 st'∧¬fz1 j∧st.length≤j∧Rels fz1 st' ps ds
section
variable {f fa fb fc:Ev}{g ga gb gc:PEv}
theorem Makes.fresh {fz fz1:Fz}{st st1:Za}{r:Res}{m:Bool}{ps:List P} (x:Next fz st fz1 st1) (h:Makes fz1 st1 r m ps) :
  ∃ j ds st' fz2,r=some (.lst j,st')∧st'[j]?=some (m,ds)∧Next fz st fz2 st'∧¬fz2 j∧st.length≤j∧Rels fz2 st' ps ds:=by
 obtain ⟨ds,e,rr⟩:=h
 refine ⟨_,ds,_,fz1,e,ZeI,x.trans (Zch x.bd),fun z=>?_,x.len,rr.next x.bd (Zch x.bd)⟩
 exact absurd (x.bd _ z) (by omega)
theorem s1 {o:D→Za→Res}{O:P→Option P} (h:SEP f g) (k:Op1 o O):SEP (Yb f o) (pq1 g O):=by
 intro π p e fz st ρ b E
 unfold pq1 at e
 split at e
 ·rename_i x q
  obtain ⟨d,st1,fz1,e1,n1,r1⟩:=h π x q fz st ρ b E
  obtain ⟨d2,st2,fz2,e2,n2,r2⟩:=k fz1 st1 x d p n1.bd r1 e
  exact ⟨d2,st2,fz2,by unfold Yb; rw [e1]; exact e2,n1.trans n2,r2⟩
 ·cases e
theorem s1F {o:D→Za→Res}{O:P→Option P} (h:SEP f g) (k:ZeS o O):SFP (Yb f o) (pq1 g O):=by
 intro π m ps e fz st ρ b E
 unfold pq1 at e
 split at e
 ·rename_i x q
  obtain ⟨d,st1,fz1,e1,n1,r1⟩:=h π x q fz st ρ b E
  have mk:=k fz1 st1 x d m ps n1.bd r1 e
  have e3:Yb f o ρ st=o d st1:=by unfold Yb; rw [e1]
  rw [e3]
  exact mk.fresh n1
 ·cases e
theorem s2 {o:D→D→Za→Res}{O:P→P→Option P} (ha:SEP fa ga) (hb:SEP fb gb) (k:Op2 o O):SEP (Yf fa fb o) (pq2 ga gb O):=by
 intro π p e fz st ρ b E
 unfold pq2 at e
 split at e
 ·rename_i x q
  split at e
  ·rename_i y q'
   obtain ⟨d,st1,fz1,e1,n1,r1⟩:=ha π x q fz st ρ b E
   obtain ⟨d2,st2,fz2,e2,n2,r2⟩:=hb π y q' fz1 st1 ρ n1.bd (E.next b n1)
   obtain ⟨d3,st3,fz3,e3,n3,r3⟩:=k fz2 st2 x y d d2 p n2.bd (r1.next n1.bd n2) r2 e
   exact ⟨d3,st3,fz3,by unfold Yf; rw [e1]; simp only [e2]; exact e3,(n1.trans n2).trans n3,r3⟩
  ·cases e
 ·cases e
theorem s2F {o:D→D→Za→Res}{O:P→P→Option P} (ha:SEP fa ga) (hb:SEP fb gb) (k:ZgG o O):SFP (Yf fa fb o) (pq2 ga gb O):=by
 intro π m ps e fz st ρ b E
 unfold pq2 at e
 split at e
 ·rename_i x q
  split at e
  ·rename_i y q'
   obtain ⟨d,st1,fz1,e1,n1,r1⟩:=ha π x q fz st ρ b E
   obtain ⟨d2,st2,fz2,e2,n2,r2⟩:=hb π y q' fz1 st1 ρ n1.bd (E.next b n1)
   have mk:=k fz2 st2 x y d d2 m ps n2.bd (r1.next n1.bd n2) r2 e
   have e3:Yf fa fb o ρ st=o d d2 st2:=by unfold Yf; rw [e1]; simp only [e2]
   rw [e3]
   exact mk.fresh (n1.trans n2)
  ·cases e
 ·cases e
theorem s3 {o:D→D→D→Za→Res}{O:P→P→P→Option P} (ha:SEP fa ga) (hb:SEP fb gb) (hc:SEP fc gc) (k:Op3 o O):SEP (Qo fa fb fc o) (pq3 ga gb gc O):=by
 intro π p e fz st ρ b E
 unfold pq3 at e
 split at e
 ·rename_i x q
  split at e
  ·rename_i y q'
   split at e
   ·rename_i z q''
    obtain ⟨d,st1,fz1,e1,n1,r1⟩:=ha π x q fz st ρ b E
    obtain ⟨d2,st2,fz2,e2,n2,r2⟩:=hb π y q' fz1 st1 ρ n1.bd (E.next b n1)
    obtain ⟨d3,st3,fz3,e3,n3,r3⟩:=hc π z q'' fz2 st2 ρ n2.bd (E.next b (n1.trans n2))
    obtain ⟨d4,st4,fz4,e4,n4,r4⟩:=k fz3 st3 x y z d d2 d3 p n3.bd (r1.next n1.bd (n2.trans n3)) (r2.next n2.bd n3) r3 e
    exact ⟨d4,st4,fz4,by unfold Qo; rw [e1]; simp only [e2,e3]; exact e4,((n1.trans n2).trans n3).trans n4,r4⟩
   ·cases e
  ·cases e
 ·cases e
theorem s3F {o:D→D→D→Za→Res}{O:P→P→P→Option P} (ha:SEP fa ga) (hb:SEP fb gb) (hc:SEP fc gc) (k:ZgH o O):SFP (Qo fa fb fc o) (pq3 ga gb gc O):=by
 intro π m ps e fz st ρ b E
 unfold pq3 at e
 split at e
 ·rename_i x q
  split at e
  ·rename_i y q'
   split at e
   ·rename_i z q''
    obtain ⟨d,st1,fz1,e1,n1,r1⟩:=ha π x q fz st ρ b E
    obtain ⟨d2,st2,fz2,e2,n2,r2⟩:=hb π y q' fz1 st1 ρ n1.bd (E.next b n1)
    obtain ⟨d3,st3,fz3,e3,n3,r3⟩:=hc π z q'' fz2 st2 ρ n2.bd (E.next b (n1.trans n2))
    have mk:=k fz3 st3 x y z d d2 d3 m ps n3.bd (r1.next n1.bd (n2.trans n3)) (r2.next n2.bd n3) r3 e
    have e4:Qo fa fb fc o ρ st=o d d2 d3 st3:=by unfold Qo; rw [e1]; simp only [e2,e3]
    rw [e4]
    exact mk.fresh ((n1.trans n2).trans n3)
   ·cases e
  ·cases e
 ·cases e
theorem sC {p:P}{d:D} (h:∀ fz st,Rel fz st p d):SEP (evC d) (fun _=>some p):=by
 intro π q e fz st ρ b E
 cases e
 exact .same b (h fz st)
theorem Zct (hc:SEP fc gc) (ha:SEP fa ga) (hb:SEP fb gb):SEP (Xn fc fa fb) (YG gc ga gb):=by
 intro π p e fz st ρ b E
 unfold YG at e
 split at e
 ·rename_i q
  obtain ⟨d,st1,fz1,e1,n1,r1⟩:=hc π _ q fz st ρ b E
  cases r1
  obtain ⟨d2,st2,fz2,e2,n2,r2⟩:=ha π p e fz1 st1 ρ n1.bd (E.next b n1)
  exact ⟨d2,st2,fz2,by unfold Xn; rw [e1]; exact e2,n1.trans n2,r2⟩
 ·rename_i q
  obtain ⟨d,st1,fz1,e1,n1,r1⟩:=hc π _ q fz st ρ b E
  cases r1
  obtain ⟨d2,st2,fz2,e2,n2,r2⟩:=hb π p e fz1 st1 ρ n1.bd (E.next b n1)
  exact ⟨d2,st2,fz2,by unfold Xn; rw [e1]; exact e2,n1.trans n2,r2⟩
 ·cases e
theorem ZjQ (i:Nat):SEP (Y6 i) (Wj i):=by
 intro π p e fz st ρ b E
 unfold Wj at e
 split at e
 ·rename_i q
  cases e
  obtain ⟨d,e1,r⟩:=E i _ q
  exact ⟨d,st,fz,by unfold Y6; rw [e1],Next.refl b,r⟩
 ·cases e
theorem ZhP {F:Fn}{G:List P→Option P}{ds:List D} (hF:∀ ps p,G ps=some p→∀ fz st es,Bd fz st→Rels fz st ps es→Gives fz st (F es st) p):Op1 (UQ F ds) (W6 G ds):=by
 intro fz st x dx p b r h
 cases r with
 | @tup ps es r=>
  have h:(match Wh ds with
   | some es=>G (ps++es)
   | none=>none)=some p:=h
  split at h
  ·rename_i qs q
   exact hF _ p h fz st (es++ds) b (r.append (Rels.ofConst q))
  ·cases h
 | _=>cases h
theorem ZhS {F:Nat→Fn}{G:Nat→List P→Option P}{tab:List (Nat×Nat)} (hF:∀ j ps p,G j ps=some p→∀ fz st es,Bd fz st→Rels fz st ps es→Gives fz st (F j es st) p):Op2 (JF F tab) (We G tab):=by
 intro fz st x y dx dy p b r s h
 cases r with
 | obj i=>
  cases s with
  | @tup ps ds s=>
   have h:(match tab.lookup i with
    | some j=>G j (.obj i :: ps)
    | none=>none)=some p:=h
   show Gives fz st (match tab.lookup i with
    | some j=>F j (.obj i :: ds) st
    | none=>none) p
   cases q:tab.lookup i with
   | none=>rw [q] at h; cases h
   | some j=>
    rw [q] at h
    exact hF j _ p h fz st _ b (.cons (.obj i) s)
  | _=>cases h
 | _=>cases h
theorem Zf2 {F:Fn}{G:List P→Option P}{ds:List D}{fa:Ev}{ga:PEv} (ha:SEP fa ga) (hF:Zev F G):SFP (Yb fa (UQ F ds)) (pq1 ga (W6 G ds)):=by
 intro π m ps h fz st ρ b E
 unfold pq1 at h
 split at h
 ·rename_i x q
  obtain ⟨d,st1,fz1,e1,n1,r1⟩:=ha π x q fz st ρ b E
  cases r1 with
  | @tup qs es r=>
   have h:(match Wh ds with
    | some es=>G (qs++es)
    | none=>none)=some (.lst m ps):=h
   split at h
   ·rename_i ws qq
    obtain ⟨j,us,st2,fz2,e2,f1,n2,f2,f3,f4⟩:=hF _ m ps h fz1 st1 (es++ds) n1.bd (r.append (Rels.ofConst qq))
    refine ⟨j,us,st2,fz2,?_,f1,n1.trans n2,f2,Nat.le_trans n1.len f3,f4⟩
    unfold Yb
    rw [e1]
    exact e2
   ·cases h
  | _=>cases h
 ·cases h
theorem Zaw {fz:Fz}{st:Za} (n:Nat):Rels fz st ((List.range n).map fun (k:Nat)=>P.int (k:Int)) ((List.range n).map fun (k:Nat)=>D.int (k:Int)):=by
 generalize List.range n=l
 induction l with
 | nil=>exact .nil
 | cons a l ih=>exact .cons (.int _) ih
theorem VZ {fz:Fz}{st:Za}{rng:Bool}{x:P}{dx:D}{xs:List P} (r:Rel fz st x dx) (h:Vg rng x=some xs):∃ ds,Xv rng dx=some ds∧Rels fz st xs ds:=by
 cases rng with
 | true=>
  cases r with
  | int n=>
   have h:(if n < 2 ^ 62∧-(2 ^ 62)≤n then some (ZJ n) else none)=some xs:=h
   split at h
   ·rename_i c
    cases h
    refine ⟨_,by unfold Xv; simp only; rw [if_pos c],Zaw _⟩
   ·cases h
  | _=>cases h
 | false=>
  cases r with
  | tup r=>cases h; exact ⟨_,rfl,r⟩
  | _=>cases h
theorem Uc {fz:Fz}{st:Za}{rng:Bool}{x:P}{dx:D}{xs:List P} (b:Bd fz st) (r:Rel fz st x dx) (h:YE rng x=some xs):∃ ds ok,JR rng dx st=some (ds,ok)∧Rels fz st xs ds∧∀ fz' st',Next fz st fz' st'→ok st':=by
 unfold YE at h
 split at h
 ·rename_i ys q
  cases h
  obtain ⟨ds,e,rr⟩:=VZ r q
  exact ⟨ds,_,by unfold JR; rw [e],rr,fun _ _ _=>trivial⟩
 ·split at h
  ·cases h
   cases r with
   | @lst j m ps ds hz hs r=>
    rename_i m _; refine ⟨ds,fun s=>s[j]?=some (m,ds),?_,r,fun fz' st' n=>?_⟩
    ·unfold JR Xv
     simp only [hs]
    ·exact (n.old j (b j hz)).trans hs
  ·cases h
noncomputable def UJ (gb:P→List (Option P)) (bd:D→List (Option D)):Prop:=∀ fz st x d,Rel fz st x d→(gb x).length=(bd d).length∧EnvAll fz st (gb x) (bd d)
theorem JG:UJ Zcc one:=fun fz st x d r=>⟨rfl,fun i p e=>by
 cases i with
 | zero=>cases e; exact ⟨d,rfl,r⟩
 | succ i=>exact nomatch (show (none:Option (Option P))=some (some p) from e)⟩
theorem W8 {gb:P→List (Option P)}{bd:D→List (Option D)} (hb:UJ gb bd) {ok:Za→Prop}{fe fc:Ev}{ge gc:PEv} (he:SEP fe ge) (hc:SEP fc gc) {fr:List Nat}{π:Zv}{ρ:Env}:∀ {xs:List P}{ds:List D}{ys:List P}{fz:Fz}{st:Za},Bd fz st→EnvAll fz st π ρ→Rels fz st xs ds→(∀ fz' st',Next fz st fz' st'→ok st')→
   YB (fun p=>ge (Wi gb π fr p)) (fun p=>gc (Wi gb π fr p)) xs=some ys→∃ es st' fz',YA ok (fun d s=>fe (Y0 bd ρ fr d) s) (fun d s=>fc (Y0 bd ρ fr d) s) ds st=some (es,st')∧Next fz st fz' st'∧Rels fz' st' ys es
 | _,_,ys,fz,st,b,E,.nil,hok,h=>by cases h; exact ⟨[],st,fz,if_pos (hok _ _ (Next.refl b)),Next.refl b,.nil⟩
 | x :: xs,d :: ds,ys,fz,st,b,E,.cons a r,hok,h=>by
  have ok0:=hok _ _ (Next.refl b)
  obtain ⟨hl,hbe⟩:=hb fz st x d a
  have E1:EnvAll fz st (Wi gb π fr x) (Y0 bd ρ fr d):=by
   intro i p e
   unfold Wi at e
   unfold Y0
   by_cases hi:i < (gb x).length
   ·rw [List.getElem?_append_left hi] at e
    rw [List.getElem?_append_left (by rw [←hl]; exact hi)]
    exact hbe i p e
   ·have hi:(gb x).length≤i:=Nat.le_of_not_lt hi
    rw [List.getElem?_append_right hi,List.getElem?_map] at e
    rw [List.getElem?_append_right (by rw [←hl]; exact hi),List.getElem?_map,←hl]
    cases q:fr[i - (gb x).length]? with
    | none=>rw [q] at e; cases e
    | some k=>
     rw [q] at e
     have e:(π[k]?).join=some p:=by simpa using e
     have e2:π[k]?=some (some p):=by
      cases q2:π[k]? with
      | none=>rw [q2] at e; cases e
      | some o=>rw [q2] at e; rw [show o=some p from e]
     obtain ⟨d',e3,r3⟩:=E k p e2
     exact ⟨d',by simp [e3],r3⟩
  unfold YB at h
  split at h
  ·rename_i q
   split at h
   ·rename_i y q1
    split at h
    ·rename_i zs q2
     cases h
     obtain ⟨dc,st1,fz1,e1,n1,r1⟩:=hc _ _ q fz st _ b E1
     cases r1
     obtain ⟨dy,st2,fz2,e2,n2,r2⟩:=he _ _ q1 fz1 st1 _ n1.bd (E1.next b n1)
     obtain ⟨es,st3,fz3,e3,n3,r3⟩:=W8 hb he hc n2.bd (E.next b (n1.trans n2)) (r.next b (n1.trans n2)) (fun _ _ n=>hok _ _ ((n1.trans n2).trans n)) q2
     refine ⟨dy :: es,st3,fz3,?_,(n1.trans n2).trans n3,.cons (r2.next n2.bd n3) r3⟩
     unfold YA
     rw [if_pos ok0]
     simp only [e1,e2,e3]
    ·cases h
   ·cases h
  ·rename_i q
   obtain ⟨dc,st1,fz1,e1,n1,r1⟩:=hc _ _ q fz st _ b E1
   cases r1
   obtain ⟨es,st3,fz3,e3,n3,r3⟩:=W8 hb he hc n1.bd (E.next b n1) (r.next b n1) (fun _ _ n=>hok _ _ (n1.trans n)) h
   refine ⟨es,st3,fz3,?_,n1.trans n3,r3⟩
   unfold YA
   rw [if_pos ok0]
   simp only [e1]
   exact e3
  ·cases h
theorem Zcs {gb:P→List (Option P)}{bd:D→List (Option D)} (hb:UJ gb bd) {gw:P→Option (List P)}{dw:D→Za→Option (List D×(Za→Prop))} (hw:∀ {fz:Fz}{st:Za}{x:P}{dx:D}{xs:List P},Bd fz st→Rel fz st x dx→gw x=some xs→∃ ds ok,dw dx st=some (ds,ok)∧Rels fz st xs ds∧∀ fz' st',Next fz st fz' st'→ok st') {fr:List Nat}{fi fe fc:Ev}{gi ge gc:PEv} (hi:SEP fi gi) (he:SEP fe ge) (hc:SEP fc gc) {π:Zv}{p:P} (e:Y1 gb gw fr gi ge gc π=some p) {fz:Fz}{st:Za}{ρ:Env} (b:Bd fz st) (E:EnvAll fz st π ρ) :
  ∃ ps ds st1 fz1,p=.lst true ps∧W7 bd dw fr fi fe fc ρ st=some (.lst st1.length,st1++[(true,ds)])∧Next fz st fz1 st1∧Rels fz1 st1 ps ds:=by
 unfold Y1 at e
 split at e
 ·rename_i x q
  split at e
  ·rename_i xs q1
   split at e
   ·rename_i c
    split at e
    ·rename_i ys q2
     cases e
     obtain ⟨d,st1,fz1,e1,n1,r1⟩:=hi π x q fz st ρ b E
     obtain ⟨ds,ok,e2,r2,hok⟩:=hw n1.bd r1 q1
     obtain ⟨es,st3,fz3,e3,n3,r3⟩:=W8 hb he hc (fr:=fr) n1.bd (E.next b n1) r2 hok q2
     refine ⟨ys,es,st3,fz3,rfl,?_,n1.trans n3,r3⟩
     unfold W7
     simp only [e1,e2]
     rw [if_pos (by rw [←r2.length]; exact c)]
     simp only [e3]
    ·cases e
   ·cases e
  ·cases e
 ·cases e
theorem ZhQ {gb:P→List (Option P)}{bd:D→List (Option D)} (hb:UJ gb bd) {gw:P→Option (List P)}{dw:D→Za→Option (List D×(Za→Prop))} (hw:∀ {fz:Fz}{st:Za}{x:P}{dx:D}{xs:List P},Bd fz st→Rel fz st x dx→gw x=some xs→∃ ds ok,dw dx st=some (ds,ok)∧Rels fz st xs ds∧∀ fz' st',Next fz st fz' st'→ok st') {fr:List Nat}{fi fe fc:Ev}{gi ge gc:PEv} (hi:SEP fi gi) (he:SEP fe ge) (hc:SEP fc gc):SEP (W7 bd dw fr fi fe fc) (Y1 gb gw fr gi ge gc):=by
 intro π p e fz st ρ b E
 obtain ⟨ps,ds,st1,fz1,rfl,e1,n1,r1⟩:=Zcs hb hw hi he hc e b E
 exact ⟨_,_,_,e1,n1.trans (Q8 n1.bd),Qk n1.bd r1⟩
theorem Zf3 {gb:P→List (Option P)}{bd:D→List (Option D)} (hb:UJ gb bd) {gw:P→Option (List P)}{dw:D→Za→Option (List D×(Za→Prop))} (hw:∀ {fz:Fz}{st:Za}{x:P}{dx:D}{xs:List P},Bd fz st→Rel fz st x dx→gw x=some xs→∃ ds ok,dw dx st=some (ds,ok)∧Rels fz st xs ds∧∀ fz' st',Next fz st fz' st'→ok st') {fr:List Nat}{fi fe fc:Ev}{gi ge gc:PEv} (hi:SEP fi gi) (he:SEP fe ge) (hc:SEP fc gc):SFP (W7 bd dw fr fi fe fc) (Y1 gb gw fr gi ge gc):=by
 intro π m qs e fz st ρ b E
 obtain ⟨ps,ds,st1,fz1,h,e1,n1,r1⟩:=Zcs hb hw hi he hc e b E
 cases h
 exact Makes.fresh n1 ⟨ds,e1,r1⟩
end
theorem Zb {F:Nat→Fn}{G:PFn} (hF:Ye F G):∀ e:CE,SEP (ev F e) (pe G e)
 | .var i=>ZjQ i
 | .cst d=>by
  intro π p e fz st ρ b E
  exact .same b (Rel.ofConst e)
 | .bin op a b=>s2 (Zb hF a) (Zb hF b) (Zhx op)
 | .neg a=>s1 (Zb hF a) ZhE
 | .cmp op a b=>s2 (Zb hF a) (Zb hF b) (Zhy op)
 | .not a=>s1 (Zb hF a) ZhF
 | .and a b=>Zct (Zb hF a) (Zb hF b) (sC fun _ _=>.bl false)
 | .or a b=>Zct (Zb hF a) (sC fun _ _=>.bl true) (Zb hF b)
 | .ife c a b=>Zct (Zb hF c) (Zb hF a) (Zb hF b)
 | .tupE a=>Zb hF a
 | .lstE a=>s1 (Zb hF a) ZhB
 | .anil=>sC fun _ _=>.tup .nil
 | .acons a r=>s2 (Zb hF a) (Zb hF r) ZfA
 | .ix a b=>s2 (Zb hF a) (Zb hF b) Zjc
 | .slice a lo hi=>s3 (Zb hF a) (Zb hF lo) (Zb hF hi) ZdQ
 | .nop=>sC fun _ _=>.non
 | .part a=>s1 (Zb hF a) ZfE
 | .call f a ds=>s1 (Zb hF a) (ZhP (hF.1 f))
 | .len a=>s1 (Zb hF a) ZfB
 | .tupleOf a=>s1 (Zb hF a) ZdR
 | .listOf a=>s1 (Zb hF a) ZfC
 | .intOf _=>fun _ r e=>nomatch (show (none:Option P)=some r from e)
 | .min a b=>s2 (Zb hF a) (Zb hF b) ZhD
 | .max a b=>s2 (Zb hF a) (Zb hF b) ZhC
 | .isi T a=>s1 (Zb hF a) (ZhA T)
 | .rs _ _=>fun _ r e=>nomatch (show (none:Option P)=some r from e)
 | .inv _=>fun _ r e=>nomatch (show (none:Option P)=some r from e)
 | .tupR _=>fun _ r e=>nomatch (show (none:Option P)=some r from e)
 | .look ks ds a=>s1 (Zb hF a) (ZfD ks ds)
 | .dget _ _ _=>fun _ r e=>nomatch (show (none:Option P)=some r from e)
 | .inR ng a b=>s2 (Zb hF a) (Zb hF b) (Zhz ng)
 | .all _=>fun _ r e=>nomatch (show (none:Option P)=some r from e)
 | .any _=>fun _ r e=>nomatch (show (none:Option P)=some r from e)
 | .comp rng fr it elt cnd=>ZhQ JG Uc (Zb hF it) (Zb hF elt) (Zb hF cnd)
 | .comp2 _ _ _ _=>fun _ r e=>nomatch (show (none:Option P)=some r from e)
 | .compT _ _ _ _=>fun _ r e=>nomatch (show (none:Option P)=some r from e)
 | .lstR _ _=>fun _ r e=>nomatch (show (none:Option P)=some r from e)
 | .new i=>sC fun _ _=>.obj i
 | .meth tab o a=>s2 (Zb hF o) (Zb hF a) (ZhS fun j=>hF.1 j)
 | .isc _ _=>fun _ r e=>nomatch (show (none:Option P)=some r from e)
 | .tix o a=>s2 (Zb hF o) (Zb hF a) ZhG
 | .dict _ _=>fun _ r e=>nomatch (show (none:Option P)=some r from e)
theorem Qx {F:Nat→Fn}{G:PFn} (hF:Ye F G):∀ e:CE,WQ e=true→SFP (ev F e) (pe G e)
 | .bin op a b,_=>s2F (Zb hF a) (Zb hF b) (Za6 op)
 | .lstE a,_=>s1F (Zb hF a) ZeC
 | .call f a ds,h=>Zf2 (Zb hF a) (hF.2 f h)
 | .slice a lo hi,_=>s3F (Zb hF a) (Zb hF lo) (Zb hF hi) Zdi
 | .listOf a,_=>s1F (Zb hF a) QP
 | .comp rng fr it elt cnd,_=>Zf3 JG Uc (Zb hF it) (Zb hF elt) (Zb hF cnd)
noncomputable def X0 (M:List Nat) (π:Zv):Zv:=π.mapIdx fun i x=>if M.contains i then none else x
theorem UV {M:List Nat}{π:Zv}{i:Nat} (h:M.contains i=false):(X0 M π)[i]?=π[i]?:=by
 unfold X0
 rw [List.getElem?_mapIdx]
 cases q:π[i]? with
 | none=>rfl
 | some x=>
  show some (if M.contains i then none else x)=some x
  rw [h]; rfl
theorem Za4 {M:List Nat}{π:Zv}{i:Nat}{p:P} (h:(X0 M π)[i]?=some (some p)):M.contains i=false∧π[i]?=some (some p):=by
 unfold X0 at h
 rw [List.getElem?_mapIdx] at h
 cases q:π[i]? with
 | none=>rw [q] at h; cases h
 | some x=>
  rw [q] at h
  have h:(if M.contains i then none else x)=some p:=by simpa using h
  split at h
  ·cases h
  ·rename_i c
   exact ⟨by simpa using c,by rw [h]⟩
theorem Zj {G:PFn}{M:List Nat}{π:Zv}:∀ e:CE,noM M e=true→pe G e (X0 M π)=pe G e π
 | .var i,h=>by
  have h:(!M.contains i)=true:=h
  show Wj i _=Wj i _
  unfold Wj
  rw [UV (by simpa using h)]
 | .cst d,_=>rfl
 | .bin op a b,h=>by
  have h:=(Bool.and_eq_true _ _).mp h
  show pq2 (pe G a) (pe G b) (YL op) _=pq2 (pe G a) (pe G b) (YL op) _
  unfold pq2; rw [Zj a h.1,Zj b h.2]
 | .neg a,h=>by
  show pq1 (pe G a) Zar _=pq1 (pe G a) Zar _
  unfold pq1; rw [Zj a h]
 | .cmp op a b,h=>by
  have h:=(Bool.and_eq_true _ _).mp h
  show pq2 (pe G a) (pe G b) (Yu op) _=pq2 (pe G a) (pe G b) (Yu op) _
  unfold pq2; rw [Zj a h.1,Zj b h.2]
 | .not a,h=>by
  show pq1 (pe G a) Zau _=pq1 (pe G a) Zau _
  unfold pq1; rw [Zj a h]
 | .and a b,h=>by
  have h:=(Bool.and_eq_true _ _).mp h
  show YG (pe G a) (pe G b) _ _=YG (pe G a) (pe G b) _ _
  unfold YG; rw [Zj a h.1,Zj b h.2]
 | .or a b,h=>by
  have h:=(Bool.and_eq_true _ _).mp h
  show YG (pe G a) _ (pe G b) _=YG (pe G a) _ (pe G b) _
  unfold YG; rw [Zj a h.1,Zj b h.2]
 | .ife c a b,h=>by
  have h:=(Bool.and_eq_true _ _).mp h
  have h2:=(Bool.and_eq_true _ _).mp h.2
  show YG (pe G c) (pe G a) (pe G b) _=YG (pe G c) (pe G a) (pe G b) _
  unfold YG; rw [Zj c h.1,Zj a h2.1,Zj b h2.2]
 | .tupE a,h=>Zj a h
 | .lstE a,h=>by
  show pq1 (pe G a) Q1 _=pq1 (pe G a) Q1 _
  unfold pq1; rw [Zj a h]
 | .anil,_=>rfl
 | .acons a b,h=>by
  have h:=(Bool.and_eq_true _ _).mp h
  show pq2 (pe G a) (pe G b) VQ _=pq2 (pe G a) (pe G b) VQ _
  unfold pq2; rw [Zj a h.1,Zj b h.2]
 | .ix a b,h=>by
  have h:=(Bool.and_eq_true _ _).mp h
  show pq2 (pe G a) (pe G b) ixP _=pq2 (pe G a) (pe G b) ixP _
  unfold pq2; rw [Zj a h.1,Zj b h.2]
 | .slice c a b,h=>by
  have h:=(Bool.and_eq_true _ _).mp h
  have h2:=(Bool.and_eq_true _ _).mp h.2
  show pq3 (pe G c) (pe G a) (pe G b) _ _=pq3 (pe G c) (pe G a) (pe G b) _ _
  unfold pq3; rw [Zj c h.1,Zj a h2.1,Zj b h2.2]
 | .nop,_=>rfl
 | .part a,h=>by
  show pq1 (pe G a) V5 _=pq1 (pe G a) V5 _
  unfold pq1; rw [Zj a h]
 | .call f a ds,h=>by
  show pq1 (pe G a) (W6 (G f) ds) _=pq1 (pe G a) (W6 (G f) ds) _
  unfold pq1; rw [Zj a h]
 | .len a,h=>by
  show pq1 (pe G a) QX _=pq1 (pe G a) QX _
  unfold pq1; rw [Zj a h]
 | .tupleOf a,h=>by
  show pq1 (pe G a) X5 _=pq1 (pe G a) X5 _
  unfold pq1; rw [Zj a h]
 | .listOf a,h=>by
  show pq1 (pe G a) Vh _=pq1 (pe G a) Vh _
  unfold pq1; rw [Zj a h]
 | .intOf _,_=>rfl
 | .min a b,h=>by
  have h:=(Bool.and_eq_true _ _).mp h
  show pq2 (pe G a) (pe G b) ZdL _=pq2 (pe G a) (pe G b) ZdL _
  unfold pq2; rw [Zj a h.1,Zj b h.2]
 | .max a b,h=>by
  have h:=(Bool.and_eq_true _ _).mp h
  show pq2 (pe G a) (pe G b) ZdI _=pq2 (pe G a) (pe G b) ZdI _
  unfold pq2; rw [Zj a h.1,Zj b h.2]
 | .isi T a,h=>by
  show pq1 (pe G a) (U8 T) _=pq1 (pe G a) (U8 T) _
  unfold pq1; rw [Zj a h]
 | .rs _ _,_=>rfl
 | .inv _,_=>rfl
 | .tupR _,_=>rfl
 | .look ks ds a,h=>by
  show pq1 (pe G a) (Ut ks ds) _=pq1 (pe G a) (Ut ks ds) _
  unfold pq1; rw [Zj a h]
 | .dget _ _ _,_=>rfl
 | .inR ng a b,h=>by
  have h:=(Bool.and_eq_true _ _).mp h
  show pq2 (pe G a) (pe G b) (ZdA ng) _=pq2 (pe G a) (pe G b) (ZdA ng) _
  unfold pq2; rw [Zj a h.1,Zj b h.2]
 | .all _,_=>rfl
 | .any _,_=>rfl
 | .comp rng fr it elt cnd,h=>by
  have h:=(Bool.and_eq_true _ _).mp h
  have e:∀ b p,Wi b (X0 M π) fr p=Wi b π fr p:=fun b p=>by
   unfold Wi
   congr 1
   refine List.map_congr_left fun i hi=>?_
   have:=List.all_eq_true.mp h.2 i hi
   rw [UV (by simpa using this)]
  show Y1 Zcc (YE rng) fr (pe G it) (pe G elt) (pe G cnd) _=Y1 Zcc (YE rng) fr (pe G it) (pe G elt) (pe G cnd) _
  unfold Y1
  rw [Zj it h.1]
  simp only [e]
 | .comp2 _ _ _ _,_=>rfl
 | .compT _ _ _ _,_=>rfl
 | .new _,_=>rfl
 | .meth tab o a,h=>by
  have h:=(Bool.and_eq_true _ _).mp h
  show pq2 (pe G o) (pe G a) (We G tab) _=pq2 (pe G o) (pe G a) (We G tab) _
  unfold pq2; rw [Zj o h.1,Zj a h.2]
 | .tix o a,h=>by
  have h:=(Bool.and_eq_true _ _).mp h
  show pq2 (pe G o) (pe G a) Zer _=pq2 (pe G o) (pe G a) Zer _
  unfold pq2; rw [Zj o h.1,Zj a h.2]
 | .isc _ _,_=>rfl
 | .lstR _ _,_=>rfl
 | .dict _ _,_=>rfl
end Dp


namespace Dp
open PySem
structure Inv (n0:Nat) (M:List Nat) (fz:Fz) (st:Za) (π:Zv) (ρ:Env):Prop where
 bd:Bd fz st
 lo:n0≤st.length
 len:π.length=ρ.length
 fr:∀ (i:Nat) (p:P),M.contains i=false→π[i]?=some (some p)→∃ d,ρ[i]?=some (some d)∧Rel fz st p d
 mt:∀ (i:Nat) (p:P),M.contains i=true→π[i]?=some (some p)→∃ (j:Nat) (ps:List P) (ds:List D),p=.lst true ps∧ρ[i]?=some (some (.lst j))∧st[j]?=some (true,ds)∧¬fz j∧n0≤j∧Rels fz st ps ds
 ne:∀ (i i':Nat) (p p':P) (j:Nat),M.contains i=true→M.contains i'=true→π[i]?=some (some p)→π[i']?=some (some p')→ρ[i]?=some (some (.lst j))→ρ[i']?=some (some (.lst j))→i=i'
structure Later (n0:Nat) (fz:Fz) (st:Za) (fz':Fz) (st':Za):Prop where
 low:∀ i,i < n0→st'[i]?=st[i]?
 frz:∀ i,fz i→st'[i]?=st[i]?
 sub:∀ i,fz i→fz' i
 new:∀ i,fz' i→fz i∨n0≤i
 len:st.length≤st'.length
section
variable {n0:Nat}{M:List Nat}{fz fz' fz1 fz2:Fz}{st st' st1 st2:Za}{π:Zv}{ρ:Env}
theorem Later.refl:Later n0 fz st fz st:=⟨fun _ _=>rfl,fun _ _=>rfl,fun _ h=>h,fun _ h=>.inl h,Nat.le_refl _⟩
theorem Later.trans (x:Later n0 fz st fz1 st1) (y:Later n0 fz1 st1 fz2 st2):Later n0 fz st fz2 st2:=
 ⟨fun i h=>(y.low i h).trans (x.low i h),fun i h=>(y.frz i (x.sub i h)).trans (x.frz i h),fun i h=>y.sub i (x.sub i h),fun i h=>(y.new i h).elim (x.new i) .inr,Nat.le_trans x.len y.len⟩
theorem Next.later (h:n0≤st.length) (b:Bd fz st) (x:Next fz st fz' st'):Later n0 fz st fz' st':=
 ⟨fun i hi=>x.old i (Nat.lt_of_lt_of_le hi h),fun i hi=>x.old i (b i hi),x.sub,fun i hi=>(x.new i hi).elim .inl fun z=>.inr (Nat.le_trans h z),x.len⟩
theorem Z7 {α:Type}{l:List α}{i:Nat}{x:α} (h:l[i]?=some x):i < l.length:=(List.getElem?_eq_some_iff.mp h).1
theorem Inv.next (I:Inv n0 M fz st π ρ) (x:Next fz st fz' st'):Inv n0 M fz' st' π ρ:=
 ⟨x.bd,Nat.le_trans I.lo x.len,I.len,fun i p h e=>let ⟨d,e1,r⟩:=I.fr i p h e; ⟨d,e1,r.next I.bd x⟩,fun i p h e=>by
  obtain ⟨j,ps,ds,e1,e2,e3,e4,e5,r⟩:=I.mt i p h e
  have hj:=Z7 e3
  exact ⟨j,ps,ds,e1,e2,(x.old j hj).trans e3,fun z=>(x.new j z).elim e4 fun z=>absurd hj (by omega),e5,r.next I.bd x⟩,I.ne⟩
theorem Inv.erase (I:Inv n0 M fz st π ρ):EnvAll fz st (X0 M π) ρ:=fun i p e=>let ⟨h1,h2⟩:=Za4 e; I.fr i p h1 h2
noncomputable def fzM (M:List Nat) (fz:Fz) (π:Zv) (ρ:Env):Fz:=fun i=>fz i∨∃ (k:Nat) (p:P),M.contains k=true∧π[k]?=some (some p)∧ρ[k]?=some (some (.lst i))
theorem Inv.bdM (I:Inv n0 M fz st π ρ):Bd (fzM M fz π ρ) st:=by
 rintro i (h | ⟨k,p,hk,e,e'⟩)
 ·exact I.bd i h
 ·obtain ⟨j,ps,ds,e1,e2,e3,e4,e5,r⟩:=I.mt k p hk e
  rw [e'] at e2; cases e2
  exact Z7 e3
theorem Inv.all (I:Inv n0 M fz st π ρ):EnvAll (fzM M fz π ρ) st π ρ:=by
 intro i p e
 cases h:M.contains i with
 | false=>
  obtain ⟨d,e1,r⟩:=I.fr i p h e
  exact ⟨d,e1,r.mono (fun _ z=>.inl z) fun _ _=>rfl⟩
 | true=>
  obtain ⟨j,ps,ds,e1,e2,e3,e4,e5,r⟩:=I.mt i p h e
  subst e1
  exact ⟨_,e2,.lst (.inr ⟨i,_,h,e,e2⟩) e3 (r.mono (fun _ z=>.inl z) fun _ _=>rfl)⟩
theorem ZT {F:Nat→Fn}{G:PFn} (hF:Ye F G) {e:CE}{p:P} (I:Inv n0 M fz st π ρ) (h:pe G e π=some p) (k:Zu M e p=true):Gives fz st (ev F e ρ st) p:=by
 unfold Zu at k
 rw [Bool.or_eq_true] at k
 rcases k with k | k
 ·rw [←Zj e k] at h
  exact Zb hF e _ p h fz st ρ I.bd I.erase
 ·obtain ⟨d,st',fz',e1,n1,r1⟩:=Zb hF e _ p h _ st ρ I.bdM I.all
  exact ⟨d,st',fz,e1,n1.small I.bd,r1.ofNoL k⟩
theorem UW {F:Nat→Fn}{G:PFn} (hF:Ye F G) {e:CE}{m:Bool}{xs:List P} (I:Inv n0 M fz st π ρ) (h:pe G e π=some (.lst m xs)) (hf:WQ e=true) (k:(noM M e||Vo xs)=true) :
  ∃ j ds st' fz1,ev F e ρ st=some (.lst j,st')∧st'[j]?=some (m,ds)∧Next fz st fz1 st'∧¬fz1 j∧st.length≤j∧Rels fz1 st' xs ds:=by
 rw [Bool.or_eq_true] at k
 rcases k with k | k
 ·rw [←Zj e k] at h
  exact Qx hF e hf _ m xs h fz st ρ I.bd I.erase
 ·obtain ⟨j,ds,st',fz1,e1,e2,n1,hn,hl,r⟩:=Qx hF e hf _ m xs h _ st ρ I.bdM I.all
  exact ⟨j,ds,st',fz,e1,e2,n1.small I.bd,fun z=>absurd (I.bd j z) (by omega),hl,r.ofNoL k⟩
theorem ZU {α:Type}{l:List (Option α)}{i k:Nat}{x y:α} (h:(l.set i (some x))[k]?=some (some y)):(k=i∧y=x∧i < l.length)∨(k≠i∧l[k]?=some (some y)):=by
 rw [List.getElem?_set] at h
 split at h
 ·rename_i e
  subst e
  split at h
  ·rename_i hl
   cases h
   exact .inl ⟨rfl,rfl,hl⟩
  ·cases h
 ·rename_i e
  exact .inr ⟨fun z=>e z.symm,h⟩
theorem Vv {α:Type}{l:List (Option α)}{i:Nat}{x:α} (h:i < l.length):(l.set i (some x))[i]?=some (some x):=by rw [List.getElem?_set,if_pos rfl,if_pos h]
theorem Zi {α:Type}{l:List (Option α)}{i k:Nat}{x:α} (h:k≠i):(l.set i (some x))[k]?=l[k]?:=by rw [List.getElem?_set,if_neg (fun z=>h z.symm)]
theorem Inv.set {i:Nat}{p:P}{d:D} (I:Inv n0 M fz st π ρ) (h:M.contains i=false) (r:Rel fz st p d):Inv n0 M fz st (Zq π i p) (ZB ρ i d):=by
 unfold Zq ZB
 refine ⟨I.bd,I.lo,by rw [List.length_set,List.length_set]; exact I.len,fun k q hk e=>?_,fun k q hk e=>?_,fun k k' q q' j hk hk' e e' e1 e1'=>?_⟩
 ·rcases ZU e with ⟨rfl,rfl,hl⟩ | ⟨hn,e⟩
  ·exact ⟨d,Vv (by rw [←I.len]; exact hl),r⟩
  ·rw [Zi hn]
   exact I.fr k q hk e
 ·rcases ZU e with ⟨rfl,rfl,hl⟩ | ⟨hn,e⟩
  ·rw [h] at hk; cases hk
  ·rw [Zi hn]
   exact I.mt k q hk e
 ·rcases ZU e with ⟨rfl,rfl,hl⟩ | ⟨hn,e⟩
  ·rw [h] at hk; cases hk
  ·rcases ZU e' with ⟨rfl,rfl,hl⟩ | ⟨hn',e'⟩
   ·rw [h] at hk'; cases hk'
   ·rw [Zi hn] at e1
    rw [Zi hn'] at e1'
    exact I.ne k k' q q' j hk hk' e e' e1 e1'
theorem Inv.setM {i j:Nat}{ps:List P}{ds:List D} (I:Inv n0 M fz st π ρ) (h:M.contains i=true) (hs:st[j]?=some (true,ds)) (hz:¬fz j) (hl:n0≤j) (r:Rels fz st ps ds)
  (hn:∀ (k:Nat) (p:P),M.contains k=true→π[k]?=some (some p)→ρ[k]?≠some (some (.lst j))):Inv n0 M fz st (Zq π i (.lst true ps)) (ZB ρ i (.lst j)):=by
 unfold Zq ZB
 refine ⟨I.bd,I.lo,by rw [List.length_set,List.length_set]; exact I.len,fun k q hk e=>?_,fun k q hk e=>?_,fun k k' q q' j' hk hk' e e' e1 e1'=>?_⟩
 ·rcases ZU e with ⟨rfl,rfl,hl⟩ | ⟨hn,e⟩
  ·rw [h] at hk; cases hk
  ·rw [Zi hn]
   exact I.fr k q hk e
 ·rcases ZU e with ⟨rfl,rfl,hl'⟩ | ⟨hn,e⟩
  ·exact ⟨j,ps,ds,rfl,Vv (by rw [←I.len]; exact hl'),hs,hz,hl,r⟩
  ·rw [Zi hn]
   exact I.mt k q hk e
 ·rcases ZU e with ⟨a1,a2,a3⟩ | ⟨a1,a2⟩
  ·rcases ZU e' with ⟨b1,b2,b3⟩ | ⟨b1,b2⟩
   ·rw [a1,b1]
   ·rw [a1,Vv (by rw [←I.len]; exact a3)] at e1
    cases e1
    rw [Zi b1] at e1'
    exact absurd e1' (hn k' q' hk' b2)
  ·rcases ZU e' with ⟨b1,b2,b3⟩ | ⟨b1,b2⟩
   ·rw [b1,Vv (by rw [←I.len]; exact b3)] at e1'
    cases e1'
    rw [Zi a1] at e1
    exact absurd e1 (hn k q hk a2)
   ·rw [Zi a1] at e1
    rw [Zi b1] at e1'
    exact I.ne k k' q q' j' hk hk' a2 b2 e1 e1'
theorem Inv.write {i j:Nat}{p0:P}{ps:List P}{ds:List D} (I:Inv n0 M fz st π ρ) (h:M.contains i=true) (e0:π[i]?=some (some p0)) (ej:ρ[i]?=some (some (.lst j))) (hz:¬fz j) (hl:n0≤j) (hj:j < st.length) (r:Rels fz st ps ds) :
  Inv n0 M fz (st.set j (true,ds)) (Zq π i (.lst true ps)) ρ∧Later n0 fz st fz (st.set j (true,ds)):=by
 have same:∀ k,fz k→(st.set j (true,ds))[k]?=st[k]?:=fun k hk=>by
  rw [List.getElem?_set,if_neg (fun z=>hz (by rw [z]; exact hk))]
 have mono:∀ {q:P}{d:D},Rel fz st q d→Rel fz (st.set j (true,ds)) q d:=fun r=>r.mono (fun _ z=>z) same
 have monos:∀ {q:List P}{d:List D},Rels fz st q d→Rels fz (st.set j (true,ds)) q d:=fun r=>r.mono (fun _ z=>z) same
 refine ⟨⟨fun k hk=>by rw [List.length_set]; exact I.bd k hk,by rw [List.length_set]; exact I.lo,by unfold Zq; rw [List.length_set]; exact I.len,fun k q hk e=>?_,fun k q hk e=>?_,fun k k' q q' j' hk hk' e e' e1 e1'=>?_⟩,
  ⟨fun k hk=>by rw [List.getElem?_set,if_neg (by omega)],same,fun _ z=>z,fun _ z=>.inl z,by rw [List.length_set]; exact Nat.le_refl _⟩⟩
 ·unfold Zq at e
  rcases ZU e with ⟨rfl,rfl,_⟩ | ⟨hn,e⟩
  ·rw [h] at hk; cases hk
  ·obtain ⟨d,e1,r1⟩:=I.fr k q hk e
   exact ⟨d,e1,mono r1⟩
 ·unfold Zq at e
  rcases ZU e with ⟨rfl,rfl,_⟩ | ⟨hn,e⟩
  ·exact ⟨j,ps,ds,rfl,ej,by rw [List.getElem?_set,if_pos rfl,if_pos hj],hz,hl,monos r⟩
  ·obtain ⟨j',qs,es,f1,f2,f3,f4,f5,f6⟩:=I.mt k q hk e
   refine ⟨j',qs,es,f1,f2,?_,f4,f5,monos f6⟩
   rw [List.getElem?_set,if_neg (fun z=>hn (I.ne k i q p0 j hk h e e0 (by rw [z]; exact f2) ej))]
   exact f3
 ·unfold Zq at e e'
  have f:∀ {k:Nat}{q:P},(π.set i (some (P.lst true ps)))[k]?=some (some q)→∃ q',π[k]?=some (some q'):=fun {k q} e=>by
   rcases ZU e with ⟨rfl,_,_⟩ | ⟨_,e⟩
   ·exact ⟨_,e0⟩
   ·exact ⟨_,e⟩
  obtain ⟨_,g⟩:=f e
  obtain ⟨_,g'⟩:=f e'
  exact I.ne k k' _ _ j' hk hk' g g' e1 e1'
end
noncomputable def Zit (n0:Nat) (M:List Nat) (fz:Fz) (st:Za):PFl→Fl→Prop
 | .nx π,.nx ρ=>Inv n0 M fz st π ρ
 | .bk π,.bk ρ=>Inv n0 M fz st π ρ
 | .ct π,.ct ρ=>Inv n0 M fz st π ρ
 | .rt p,.rt d=>Rel fz st p d∧Bd fz st
 | _,_=>False
noncomputable def Kept (M T:List Nat) (π:Zv) (ρ:Env) (st:Za) (π':Zv) (ρ':Env) (st':Za):Prop:=
 ∀ (i:Nat),i∉T→M.contains i=true→π'[i]?=π[i]?∧ρ'[i]?=ρ[i]?∧∀ (j:Nat) (p:P),π[i]?=some (some p)→ρ[i]?=some (some (.lst j))→st'[j]?=st[j]?
noncomputable def KeptF (M T:List Nat) (π:Zv) (ρ:Env) (st:Za) (r:PFl) (r':Fl) (st':Za):Prop:=match r,r' with
 | .nx π',.nx ρ'=>Kept M T π ρ st π' ρ' st'
 | .bk π',.bk ρ'=>Kept M T π ρ st π' ρ' st'
 | .ct π',.ct ρ'=>Kept M T π ρ st π' ρ' st'
 | _,_=>True
theorem Kept.refl {M T:List Nat}{π:Zv}{ρ:Env}{st:Za}:Kept M T π ρ st π ρ st:=fun _ _ _=>⟨rfl,rfl,fun _ _ _ _=>rfl⟩
theorem Kept.trans {M T T1 T2:List Nat}{π π1 π2:Zv}{ρ ρ1 ρ2:Env}{st st1 st2:Za} (s1:∀ i,i∈T1→i∈T) (s2:∀ i,i∈T2→i∈T) (x:Kept M T1 π ρ st π1 ρ1 st1) (y:Kept M T2 π1 ρ1 st1 π2 ρ2 st2):Kept M T π ρ st π2 ρ2 st2:=fun i h hm=>by
 obtain ⟨a1,a2,a3⟩:=x i (fun z=>h (s1 i z)) hm
 obtain ⟨b1,b2,b3⟩:=y i (fun z=>h (s2 i z)) hm
 exact ⟨b1.trans a1,b2.trans a2,fun j p e e'=>(b3 j p (a1.trans e) (a2.trans e')).trans (a3 j p e e')⟩
theorem Kept.more {M T T1:List Nat}{π π1:Zv}{ρ ρ1:Env}{st st1:Za} (s1:∀ i,i∈T1→i∈T) (x:Kept M T1 π ρ st π1 ρ1 st1):Kept M T π ρ st π1 ρ1 st1:=fun i h hm=>x i (fun z=>h (s1 i z)) hm
theorem KeptF.trans {M T T1 T2:List Nat}{π π1:Zv}{ρ ρ1:Env}{st st1 st2:Za}{r:PFl}{r':Fl} (s1:∀ i,i∈T1→i∈T) (s2:∀ i,i∈T2→i∈T) (x:Kept M T1 π ρ st π1 ρ1 st1) (y:KeptF M T2 π1 ρ1 st1 r r' st2):KeptF M T π ρ st r r' st2:=by
 cases r<;>cases r'<;>first | trivial | exact Kept.trans s1 s2 x y
theorem KeptF.more {M T T1:List Nat}{π:Zv}{ρ:Env}{st st2:Za}{r:PFl}{r':Fl} (s1:∀ i,i∈T1→i∈T) (y:KeptF M T1 π ρ st r r' st2):KeptF M T π ρ st r r' st2:=by
 cases r<;>cases r'<;>first | trivial | exact Kept.more s1 y
theorem Next.kept {n0:Nat}{M T:List Nat}{fz fz':Fz}{st st':Za}{π:Zv}{ρ:Env} (I:Inv n0 M fz st π ρ) (x:Next fz st fz' st'):Kept M T π ρ st π ρ st':=fun i _ hm=>⟨rfl,rfl,fun j p e e'=>by
 obtain ⟨j',ps,ds,e1,e2,e3,e4,e5,r⟩:=I.mt i p hm e
 rw [e'] at e2; cases e2
 exact x.old j (Z7 e3)⟩
noncomputable abbrev Xp (n0:Nat) (M T:List Nat) (fz:Fz) (st:Za) (π:Zv) (ρ:Env) (x:Option (Fl×Za)) (r:PFl):Prop:=∃ r' st' fz',x=some (r',st')∧Later n0 fz st fz' st'∧Zit n0 M fz' st' r r'∧KeptF M T π ρ st r r' st'
noncomputable def SX (n0:Nat) (M T:List Nat) (f:Ex) (g:PEx):Prop:=∀ π r,g π=some r→∀ fz st ρ,Inv n0 M fz st π ρ→Xp n0 M T fz st π ρ (f ρ st) r
section
variable {n0:Nat}{M T T1 T2:List Nat}{f f1 f2:Ex}{g g1 g2:PEx}{F:Nat→Fn}{G:PFn}
theorem Zh9 (h1:SX n0 M T1 f1 g1) (h2:SX n0 M T2 f2 g2):SX n0 M (T1++T2) (Zax f1 f2) (Zcf g1 g2):=by
 intro π r e fz st ρ I
 have s1:∀ i,i∈T1→i∈T1++T2:=fun i h=>List.mem_append.mpr (.inl h)
 have s2:∀ i,i∈T2→i∈T1++T2:=fun i h=>List.mem_append.mpr (.inr h)
 unfold Zcf at e
 split at e
 ·rename_i π1 q
  obtain ⟨r1,st1,fz1,e1,l1,R1,k1⟩:=h1 π _ q fz st ρ I
  cases r1 with
  | nx ρ1=>
   obtain ⟨r2,st2,fz2,e2,l2,R2,k2⟩:=h2 π1 r e fz1 st1 ρ1 R1
   exact ⟨r2,st2,fz2,by unfold Zax; rw [e1]; exact e2,l1.trans l2,R2,KeptF.trans s1 s2 k1 k2⟩
  | _=>exact R1.elim
 ·rename_i hn
  obtain ⟨r1,st1,fz1,e1,l1,R1,k1⟩:=h1 π _ e fz st ρ I
  refine ⟨r1,st1,fz1,?_,l1,R1,KeptF.more s1 k1⟩
  unfold Zax
  rw [e1]
  cases r with
  | nx π1=>exact absurd e (hn π1)
  | rt p=>cases r1<;>first | rfl | exact R1.elim
  | bk π1=>cases r1<;>first | rfl | exact R1.elim
  | ct π1=>cases r1<;>first | rfl | exact R1.elim
theorem Zh8 (hF:Ye F G) (e:CE):SX n0 M T (Zcp (ev F e)) (Zce (pe G e)):=by
 intro π r h fz st ρ I
 unfold Zce at h
 split at h
 ·rename_i p q
  cases h
  obtain ⟨d,st',fz',e1,n1,r1⟩:=Zb hF e _ p q _ st ρ I.bdM I.all
  refine ⟨.rt d,st',fz',by unfold Zcp; rw [e1],⟨fun i hi=>n1.old i (Nat.lt_of_lt_of_le hi I.lo),fun i hi=>n1.old i (I.bd i hi),fun i hi=>n1.sub i (.inl hi),fun i hi=>?_,n1.len⟩,⟨r1,n1.bd⟩,trivial⟩
  rcases n1.new i hi with (z | ⟨k,p,hk,e,e'⟩) | z
  ·exact .inl z
  ·obtain ⟨j,ps,ds,f1,f2,f3,f4,f5,r⟩:=I.mt k p hk e
   rw [e'] at f2; cases f2
   exact .inr f5
  ·exact .inr (Nat.le_trans I.lo z)
 ·cases h
theorem XN {α:Type}{l:List (Option α)}{j k:Nat}{x:α} (e:(l.set j none)[k]?=some (some x)):k≠j∧l[k]?=some (some x):=by
 by_cases h:k=j
 ·subst h
  rw [List.getElem?_set] at e
  simp only [if_true] at e
  split at e<;>cases e
 ·rw [List.getElem?_set,if_neg (fun z=>h z.symm)] at e
  exact ⟨h,e⟩
theorem ZjS {i j:Nat}{p:P}{π:Zv}{fz:Fz}{st:Za}{ρ:Env} (I:Inv n0 M fz st π ρ) (hj:M.contains j=true) (hi:M.contains i=false) (q:π[j]?=some (some p)) :
  ∃ d fz',ρ[j]?=some (some d)∧Later n0 fz st fz' st∧Inv n0 M fz' st (Zq (π.set j none) i p) (ZB ρ i d)∧Kept M [i,j] π ρ st (Zq (π.set j none) i p) (ZB ρ i d) st:=by
 obtain ⟨J,ps,ds,rfl,f2,f3,f4,f5,f6⟩:=I.mt j p hj q
 have sub:∀ k,fz k→(fz k∨k=J):=fun k h=>.inl h
 refine ⟨.lst J,fun k=>fz k∨k=J,f2,⟨fun _ _=>rfl,fun _ _=>rfl,sub,fun k h=>h.elim .inl fun z=>.inr (by rw [z]; exact f5),Nat.le_refl _⟩,?_,fun k hk hm=>?_⟩
 ·unfold Zq ZB
  refine ⟨fun k h=>h.elim (I.bd k) fun z=>by rw [z]; exact Z7 f3,I.lo,by rw [List.length_set,List.length_set,List.length_set]; exact I.len,fun k q' hk e=>?_,fun k q' hk e=>?_,fun k k' q' q'' j' hk hk' e e' e1 e1'=>?_⟩
  ·rcases ZU e with ⟨rfl,rfl,hl⟩ | ⟨hn,e⟩
   ·exact ⟨.lst J,Vv (by rw [←I.len]; simpa using hl),.lst (.inr rfl) f3 (f6.mono sub fun _ _=>rfl)⟩
   ·rw [Zi hn]
    obtain ⟨d,e2,r⟩:=I.fr k q' hk (XN e).2
    exact ⟨d,e2,r.mono sub fun _ _=>rfl⟩
  ·rcases ZU e with ⟨rfl,rfl,hl⟩ | ⟨hn,e⟩
   ·rw [hi] at hk; cases hk
   ·rw [Zi hn]
    obtain ⟨nj,e⟩:=XN e
    obtain ⟨J',ps',ds',g1,g2,g3,g4,g5,g6⟩:=I.mt k q' hk e
    refine ⟨J',ps',ds',g1,g2,g3,fun z=>z.elim g4 fun z=>?_,g5,g6.mono sub fun _ _=>rfl⟩
    subst z
    exact nj (I.ne k j _ _ J' hk hj e q g2 f2)
  ·rcases ZU e with ⟨rfl,rfl,hl⟩ | ⟨hn,e⟩
   ·rw [hi] at hk; cases hk
   ·rcases ZU e' with ⟨rfl,rfl,hl⟩ | ⟨hn',e'⟩
    ·rw [hi] at hk'; cases hk'
    ·rw [Zi hn] at e1
     rw [Zi hn'] at e1'
     exact I.ne k k' _ _ j' hk hk' (XN e).2 (XN e').2 e1 e1'
 ·have n1:k≠i:=fun z=>hk (by rw [z]; exact List.mem_cons_self)
  have n2:k≠j:=fun z=>hk (by rw [z]; exact List.mem_cons_of_mem _ (List.mem_singleton.mpr rfl))
  refine ⟨?_,Zi n1,fun _ _ _ _=>rfl⟩
  unfold Zq
  rw [Zi n1,List.getElem?_set,if_neg (fun z=>n2 z.symm)]
theorem Zia (hF:Ye F G) (i:Nat) (e:CE):SX n0 M (i :: mvT e) (Qr i (ev F e)) (Q6 M i e (pe G e)):=by
 intro π r h fz st ρ I
 have kp:∀ {fz':Fz}{st':Za}{d:D}{p:P},Next fz st fz' st'→Kept M (i :: mvT e) π ρ st (Zq π i p) (ZB ρ i d) st':=fun {fz' st' d p} x k hk hm=>by
  have hki:k≠i:=fun z=>hk (by rw [z]; exact List.mem_cons_self)
  have:=Next.kept (T:=i :: mvT e) I x k hk hm
  exact ⟨Zi hki,Zi hki,this.2.2⟩
 unfold Q6 at h
 split at h
 ·rename_i p q
  cases hm:M.contains i with
  | true=>
   rw [hm] at h
   simp only [if_true] at h
   split at h
   ·rename_i c
    cases h
    unfold WP at c
    split at c
    ·rename_i xs
     rw [Bool.and_eq_true] at c
     obtain ⟨j,ds,st',fz1,e1,e2,n1,hn,hl,r⟩:=UW hF I q c.1 c.2
     refine ⟨.nx (ZB ρ i (.lst j)),st',fz1,by unfold Qr; rw [e1],n1.later I.lo I.bd,(I.next n1).setM hm e2 hn (Nat.le_trans I.lo hl) r fun k p hk e e'=>?_,kp n1⟩
     obtain ⟨j',ps,es,f1,f2,f3,f4,f5,_⟩:=I.mt k p hk e
     rw [e'] at f2; cases f2
     exact absurd (Z7 f3) (by omega)
    ·cases c
   ·unfold mvP at h
    split at h
    ·rw [hm,Bool.not_true,Bool.and_false] at h
     cases h
    ·cases h
  | false=>
   rw [hm] at h
   simp only [Bool.false_eq_true,if_false] at h
   split at h
   ·rename_i c
    cases h
    obtain ⟨d,st',fz',e1,n1,r1⟩:=ZT hF I q c
    exact ⟨.nx (ZB ρ i d),st',fz',by unfold Qr; rw [e1],n1.later I.lo I.bd,(I.next n1).set hm r1,kp n1⟩
   ·unfold mvP at h
    split at h
    ·rename_i j _
     split at h
     ·rename_i c
      cases h
      rw [Bool.and_eq_true] at c
      have q:Wj j π=some p:=q
      unfold Wj at q
      split at q
      ·rename_i p' q'
       cases q
       obtain ⟨d,fz',e1,l1,I1,k1⟩:=ZjS I c.1 hm q'
       refine ⟨.nx (ZB ρ i d),st,fz',?_,l1,I1,k1⟩
       show Qr i (Y6 j) ρ st=_
       unfold Qr Y6
       simp only [e1]
      ·cases q
     ·cases h
    ·cases h
 ·cases h
theorem Zgu (hF:Ye F G) (i j:Nat) (e:CE):SX n0 M [i,j] (Qp i j (ev F e)) (Zcg M i j e (pe G e)):=by
 intro π r h fz st ρ I
 have kp:∀ {fz':Fz}{st':Za}{d d':D}{p p':P},Next fz st fz' st'→Kept M [i,j] π ρ st (Zq (Zq π i p) j p') (ZB (ZB ρ i d) j d') st':=fun {fz' st' d d' p p'} x k hk hm=>by
  have hki:k≠i:=fun z=>hk (by rw [z]; exact List.mem_cons_self)
  have hkj:k≠j:=fun z=>hk (by rw [z]; exact List.mem_cons_of_mem _ List.mem_cons_self)
  have:=Next.kept (T:=[i,j]) I x k hk hm
  exact ⟨(Zi hkj).trans (Zi hki),(Zi hkj).trans (Zi hki),this.2.2⟩
 unfold Zcg at h
 split at h
 ·rename_i x y q
  split at h
  ·rename_i c
   cases h
   rw [Bool.and_eq_true,Bool.and_eq_true] at c
   have hi:M.contains i=false:=by simpa using c.1.1
   have hj:M.contains j=false:=by simpa using c.1.2
   obtain ⟨d,st',fz',e1,n1,r1⟩:=ZT hF I q c.2
   cases r1 with
   | tup rr=>
    cases rr with
    | cons a rr=>
     cases rr with
     | cons a' rr=>
      cases rr
      exact ⟨.nx _,st',fz',by unfold Qp; rw [e1],n1.later I.lo I.bd,((I.next n1).set hi a).set hj a',kp n1⟩
  ·cases h
 ·cases h
theorem Zgv (hF:Ye F G) (i j l:Nat) (e:CE):SX n0 M [i,j,l] (Qq i j l (ev F e)) (Qj M i j l e (pe G e)):=by
 intro π r h fz st ρ I
 have kp:∀ {fz':Fz}{st':Za}{d d' d2:D}{p p' p2:P},Next fz st fz' st'→Kept M [i,j,l] π ρ st (Zq (Zq (Zq π i p) j p') l p2) (ZB (ZB (ZB ρ i d) j d') l d2) st':=fun {fz' st' d d' d2 p p' p2} x k hk hm=>by
  have hki:k≠i:=fun z=>hk (by rw [z]; exact List.mem_cons_self)
  have hkj:k≠j:=fun z=>hk (by rw [z]; exact List.mem_cons_of_mem _ List.mem_cons_self)
  have hkl:k≠l:=fun z=>hk (by rw [z]; exact List.mem_cons_of_mem _ (List.mem_cons_of_mem _ List.mem_cons_self))
  have:=Next.kept (T:=[i,j,l]) I x k hk hm
  exact ⟨(Zi hkl).trans ((Zi hkj).trans (Zi hki)),(Zi hkl).trans ((Zi hkj).trans (Zi hki)),this.2.2⟩
 unfold Qj at h
 split at h
 ·rename_i x y z q
  split at h
  ·rename_i c
   cases h
   rw [Bool.and_eq_true,Bool.and_eq_true,Bool.and_eq_true] at c
   have hi:M.contains i=false:=by simpa using c.1.1.1
   have hj:M.contains j=false:=by simpa using c.1.1.2
   have hl:M.contains l=false:=by simpa using c.1.2
   obtain ⟨d,st',fz',e1,n1,r1⟩:=ZT hF I q c.2
   cases r1 with
   | tup rr=>
    cases rr with
    | cons a rr=>
     cases rr with
     | cons a' rr=>
      cases rr with
      | cons a2 rr=>
       cases rr
       exact ⟨.nx _,st',fz',by unfold Qq; rw [e1],n1.later I.lo I.bd,(((I.next n1).set hi a).set hj a').set hl a2,kp n1⟩
  ·cases h
 ·cases h
theorem Zh2 (hF:Ye F G) (e:CE):SX n0 M [] (ZaI (ev F e)) (Zb4 M e (pe G e)):=by
 intro π r h fz st ρ I
 unfold Zb4 at h
 split at h
 ·rename_i p q
  split at h
  ·rename_i c
   cases h
   obtain ⟨d,st',fz',e1,n1,r1⟩:=ZT hF I q c
   exact ⟨.nx ρ,st',fz',by unfold ZaI; rw [e1],n1.later I.lo I.bd,I.next n1,Next.kept I n1⟩
  ·cases h
 ·cases h
theorem Zh3 (hF:Ye F G) (i:Nat) (e:CE):SX n0 M [i] (ZaM i (ev F e)) (Zb7 M i e (pe G e)):=by
 intro π r h fz st ρ I
 unfold Zb7 at h
 split at h
 ·rename_i xs q0
  split at h
  ·rename_i p q
   split at h
   ·rename_i c
    cases h
    rw [Bool.and_eq_true,Bool.and_eq_true] at c
    obtain ⟨⟨hm,hk⟩,hz⟩:=c
    have hz:=of_decide_eq_true hz
    obtain ⟨d,st',fz',e1,n1,r1⟩:=ZT hF I q hk
    have I1:=I.next n1
    obtain ⟨j,ps,ds,f1,f2,f3,f4,f5,f6⟩:=I1.mt i _ hm q0
    cases f1
    obtain ⟨I2,l2⟩:=I1.write hm q0 f2 f4 f5 (Z7 f3) (f6.append (.cons r1 .nil))
    refine ⟨.nx ρ,_,fz',?_,(n1.later I.lo I.bd).trans l2,I2,fun k hk2 hm2=>?_⟩
    ·unfold ZaM
     rw [f2]
     simp only [e1]
     unfold ZcY
     simp only [f3]
     rw [if_pos (by rw [←f6.length]; exact hz)]
    ·have hki:k≠i:=fun z=>hk2 (by rw [z]; exact List.mem_singleton.mpr rfl)
     have kk:=Next.kept (T:=[i]) I n1 k hk2 hm2
     refine ⟨Zi hki,rfl,fun j' p' e e'=>?_⟩
     rw [←kk.2.2 j' p' e e',List.getElem?_set,if_neg (fun z=>hki (I.ne k i p' _ j hm2 hm e q0 (by rw [z]; exact e') f2))]
   ·cases h
  ·cases h
 ·cases h
theorem Zh4 (hF:Ye F G) (i:Nat) (e:CE):SX n0 M [i] (Za5 i (ev F e)) (Zb9 M i e (pe G e)):=by
 intro π r h fz st ρ I
 unfold Zb9 at h
 split at h
 ·rename_i xs q0
  split at h
  ·rename_i ys q
   split at h
   ·rename_i c
    cases h
    rw [Bool.and_eq_true,Bool.and_eq_true] at c
    obtain ⟨⟨hm,hk⟩,hz⟩:=c
    have hz:=of_decide_eq_true hz
    obtain ⟨d,st',fz',e1,n1,r1⟩:=ZT hF I q (show Zu M e _=true by unfold Zu; rw [hk,Bool.true_or])
    have I1:=I.next n1
    obtain ⟨j,ps,ds,f1,f2,f3,f4,f5,f6⟩:=I1.mt i _ hm q0
    cases f1
    cases r1 with
    | @lst jb _ _ db zb sb rb=>
     obtain ⟨I2,l2⟩:=I1.write hm q0 f2 f4 f5 (Z7 f3) (f6.append rb)
     refine ⟨.nx ρ,_,fz',?_,(n1.later I.lo I.bd).trans l2,I2,fun k hk2 hm2=>?_⟩
     ·unfold Za5
      rw [f2]
      simp only [e1]
      unfold Zff
      simp only [f3,sb]
      rw [if_pos (by rw [←f6.length,←rb.length]; exact hz)]
     ·have hki:k≠i:=fun z=>hk2 (by rw [z]; exact List.mem_singleton.mpr rfl)
      have kk:=Next.kept (T:=[i]) I n1 k hk2 hm2
      refine ⟨Zi hki,rfl,fun j' p' e e'=>?_⟩
      rw [←kk.2.2 j' p' e e',List.getElem?_set,if_neg (fun z=>hki (I.ne k i p' _ j hm2 hm e q0 (by rw [z]; exact e') f2))]
   ·cases h
  ·cases h
 ·cases h
theorem Zh7 (hF:Ye F G) (i:Nat) (e k:CE):SX n0 M [i] (Zci i (ev F k) (ev F e)) (Zcd M i e (pe G k) (pe G e)):=by
 intro π r h fz st ρ I
 unfold Zcd at h
 split at h
 ·rename_i p q
  split at h
  ·rename_i xs q0
   split at h
   ·rename_i a qa
    split at h
    ·rename_i b qb
     split at h
     ·rename_i c
      cases h
      rw [Bool.and_eq_true] at c
      obtain ⟨hm,hk⟩:=c
      obtain ⟨d,st',fz',e1,n1,r1⟩:=ZT hF I q hk
      have I1:=I.next n1
      obtain ⟨d2,st2,fz2,e2,n2,r2⟩:=ZT hF I1 qa (by unfold Zu; rw [show noL (.int a)=true from rfl,Bool.or_true])
      cases r2
      have I2:=I1.next n2
      obtain ⟨j,ps,ds,f1,f2,f3,f4,f5,f6⟩:=I2.mt i _ hm q0
      cases f1
      obtain ⟨I3,l3⟩:=I2.write hm q0 f2 f4 f5 (Z7 f3) (f6.set (r1.next n1.bd n2) b)
      refine ⟨.nx ρ,_,fz2,?_,((n1.trans n2).later I.lo I.bd).trans l3,I3,fun k' hk2 hm2=>?_⟩
      ·unfold Zci
       rw [e1]
       simp only [f2,e2]
       unfold UH
       simp only [f3]
       rw [←f6.length,qb]
      ·have hki:k'≠i:=fun z=>hk2 (by rw [z]; exact List.mem_singleton.mpr rfl)
       have kk:=Next.kept (T:=[i]) I (n1.trans n2) k' hk2 hm2
       refine ⟨Zi hki,rfl,fun j' p' e e'=>?_⟩
       rw [←kk.2.2 j' p' e e',List.getElem?_set,if_neg (fun z=>hki (I.ne k' i p' _ j hm2 hm e q0 (by rw [z]; exact e') f2))]
     ·cases h
    ·cases h
   ·cases h
  ·cases h
 ·cases h
theorem Zh6 (hF:Ye F G) (c:CE) (h1:SX n0 M T1 f1 g1) (h2:SX n0 M T2 f2 g2):SX n0 M (T1++T2) (Zal (ev F c) f1 f2) (Zca (pe G c) g1 g2):=by
 intro π r e fz st ρ I
 have s1:∀ i,i∈T1→i∈T1++T2:=fun i h=>List.mem_append.mpr (.inl h)
 have s2:∀ i,i∈T2→i∈T1++T2:=fun i h=>List.mem_append.mpr (.inr h)
 unfold Zca at e
 split at e
 ·rename_i q
  obtain ⟨d,st',fz',e1,n1,r1⟩:=ZT hF I q (by unfold Zu; rw [show noL (.bl true)=true from rfl,Bool.or_true])
  cases r1
  obtain ⟨r2,st2,fz2,e2,l2,R2,k2⟩:=h1 π r e fz' st' ρ (I.next n1)
  exact ⟨r2,st2,fz2,by unfold Zal; rw [e1]; exact e2,(n1.later I.lo I.bd).trans l2,R2,KeptF.trans (T1:=T1) s1 s1 (Next.kept I n1) k2⟩
 ·rename_i q
  obtain ⟨d,st',fz',e1,n1,r1⟩:=ZT hF I q (by unfold Zu; rw [show noL (.bl false)=true from rfl,Bool.or_true])
  cases r1
  obtain ⟨r2,st2,fz2,e2,l2,R2,k2⟩:=h2 π r e fz' st' ρ (I.next n1)
  exact ⟨r2,st2,fz2,by unfold Zal; rw [e1]; exact e2,(n1.later I.lo I.bd).trans l2,R2,KeptF.trans (T1:=T2) s2 s2 (Next.kept I n1) k2⟩
 ·cases e
noncomputable abbrev UL (n0:Nat) (M T:List Nat) (B:P→Zv→Option PFl) (B':D→Env→Za→Option (Fl×Za)):Prop:=∀ x d π r,B x π=some r→∀ fz st ρ,Inv n0 M fz st π ρ→Rel fz st x d→Xp n0 M T fz st π ρ (B' d ρ st) r
theorem Later.rels {fz fz':Fz}{st st':Za}{ps:List P}{ds:List D} (l:Later n0 fz st fz' st') (r:Rels fz st ps ds):Rels fz' st' ps ds:=r.mono l.sub l.frz
theorem XF {B:P→Zv→Option PFl}{B':D→Env→Za→Option (Fl×Za)} (h:UL n0 M T B B'):∀ {xs:List P}{ds:List D}{π:Zv}{r:PFl}{fz:Fz}{st:Za}{ρ:Env},Inv n0 M fz st π ρ→Rels fz st xs ds→ZR B xs π=some r→Xp n0 M T fz st π ρ (Yo B' ds ρ st) r
 | _,_,π,r,fz,st,ρ,I,.nil,e=>by cases e; exact ⟨.nx ρ,st,fz,rfl,Later.refl,I,Kept.refl⟩
 | x :: xs,d :: ds,π,r,fz,st,ρ,I,.cons a rs,e=>by
  unfold ZR at e
  split at e
  ·rename_i π1 q
   obtain ⟨r1,st1,fz1,e1,l1,R1,k1⟩:=h x d π _ q fz st ρ I a
   cases r1 with
   | nx ρ1=>
    obtain ⟨r2,st2,fz2,e2,l2,R2,k2⟩:=XF h (ρ:=ρ1) R1 (l1.rels rs) e
    exact ⟨r2,st2,fz2,by unfold Yo; rw [e1]; exact e2,l1.trans l2,R2,KeptF.trans (fun _ z=>z) (fun _ z=>z) k1 k2⟩
   | _=>exact R1.elim
  ·rename_i π1 q
   obtain ⟨r1,st1,fz1,e1,l1,R1,k1⟩:=h x d π _ q fz st ρ I a
   cases r1 with
   | ct ρ1=>
    obtain ⟨r2,st2,fz2,e2,l2,R2,k2⟩:=XF h (ρ:=ρ1) R1 (l1.rels rs) e
    exact ⟨r2,st2,fz2,by unfold Yo; rw [e1]; exact e2,l1.trans l2,R2,KeptF.trans (fun _ z=>z) (fun _ z=>z) k1 k2⟩
   | _=>exact R1.elim
  ·rename_i π1 q
   cases e
   obtain ⟨r1,st1,fz1,e1,l1,R1,k1⟩:=h x d π _ q fz st ρ I a
   cases r1 with
   | bk ρ1=>exact ⟨.nx ρ1,st1,fz1,by unfold Yo; rw [e1],l1,R1,k1⟩
   | _=>exact R1.elim
  ·rename_i v q
   cases e
   obtain ⟨r1,st1,fz1,e1,l1,R1,k1⟩:=h x d π _ q fz st ρ I a
   cases r1 with
   | rt d'=>exact ⟨.rt d',st1,fz1,by unfold Yo; rw [e1],l1,R1,trivial⟩
   | _=>exact R1.elim
  ·cases e
theorem QZ {B':D→Env→Za→Option (Fl×Za)}{a n k:Nat}{ρ:Env}{st:Za}{m:Bool}{all:List D}{d:D} (h:st[a]?=some (m,all)) (hk:all[k]?=some d):Z4 B' a (n+1) k ρ st=(match B' d ρ st with
  | some (.nx ρ',st')=>Z4 B' a n (k+1) ρ' st'
  | some (.ct ρ',st')=>Z4 B' a n (k+1) ρ' st'
  | some (.bk ρ',st')=>some (.nx ρ',st')
  | some (.rt v,st')=>some (.rt v,st')
  | none=>none):=by
 rw [Z4]; simp only [h,hk]<;>rfl
noncomputable abbrev ZgI (n0:Nat) (M T:List Nat) (a:Nat) (m:Bool) (all:List D) (J:Fz→Za→Zv→Env→Prop):Prop:=
 (∀ fz st π ρ,J fz st π ρ→st[a]?=some (m,all))∧∀ fz st π ρ fz' st' π' ρ',Later n0 fz st fz' st'→Kept M T π ρ st π' ρ' st'→J fz st π ρ→J fz' st' π' ρ'
theorem XG {B:P→Zv→Option PFl}{B':D→Env→Za→Option (Fl×Za)} (h:UL n0 M T B B') {a:Nat}{m:Bool}{all:List D}{J:Fz→Za→Zv→Env→Prop} (hJ:ZgI n0 M T a m all J):∀ {xs:List P}{ds:List D}{k:Nat}{π:Zv}{r:PFl}{fz:Fz}{st:Za}{ρ:Env},
   Inv n0 M fz st π ρ→J fz st π ρ→all.drop k=ds→Rels fz st xs ds→ZR B xs π=some r→Xp n0 M T fz st π ρ (Z4 B' a ds.length k ρ st) r
 | _,_,k,π,r,fz,st,ρ,I,j,hd,.nil,e=>by
  cases e
  refine ⟨.nx ρ,st,fz,?_,Later.refl,I,Kept.refl⟩
  show Z4 B' a 0 k ρ st=_
  unfold Z4
  simp only [hJ.1 _ _ _ _ j]
  rw [if_pos (List.drop_eq_nil_iff.mp hd)]
 | x :: xs,d :: ds,k,π,r,fz,st,ρ,I,j,hd,.cons b rs,e=>by
  have hk:all[k]?=some d:=by
   have:=congrArg (fun l=>l[0]?) hd
   simpa using this
  have hd2:all.drop (k+1)=ds:=by
   have:=congrArg (fun l=>l.drop 1) hd
   simpa using this
  have start:∀ {y},B' d ρ st=some y→Z4 B' a (d :: ds).length k ρ st=(match y with
    | (.nx ρ',st')=>Z4 B' a ds.length (k+1) ρ' st'
    | (.ct ρ',st')=>Z4 B' a ds.length (k+1) ρ' st'
    | (.bk ρ',st')=>some (.nx ρ',st')
    | (.rt v,st')=>some (.rt v,st')):=fun {y} ey=>by
   show Z4 B' a (ds.length+1) k ρ st=_
   rw [QZ (hJ.1 _ _ _ _ j) hk,ey]
   obtain ⟨f,s⟩:=y
   cases f<;>rfl
  unfold ZR at e
  split at e
  ·rename_i π1 q
   obtain ⟨r1,st1,fz1,e1,l1,R1,k1⟩:=h x d π _ q fz st ρ I b
   cases r1 with
   | nx ρ1=>
    obtain ⟨r2,st2,fz2,e2,l2,R2,k2⟩:=XG h hJ (ρ:=ρ1) R1 (hJ.2 _ _ _ _ _ _ _ _ l1 k1 j) hd2 (l1.rels rs) e
    exact ⟨r2,st2,fz2,by rw [start e1]; exact e2,l1.trans l2,R2,KeptF.trans (fun _ z=>z) (fun _ z=>z) k1 k2⟩
   | _=>exact R1.elim
  ·rename_i π1 q
   obtain ⟨r1,st1,fz1,e1,l1,R1,k1⟩:=h x d π _ q fz st ρ I b
   cases r1 with
   | ct ρ1=>
    obtain ⟨r2,st2,fz2,e2,l2,R2,k2⟩:=XG h hJ (ρ:=ρ1) R1 (hJ.2 _ _ _ _ _ _ _ _ l1 k1 j) hd2 (l1.rels rs) e
    exact ⟨r2,st2,fz2,by rw [start e1]; exact e2,l1.trans l2,R2,KeptF.trans (fun _ z=>z) (fun _ z=>z) k1 k2⟩
   | _=>exact R1.elim
  ·rename_i π1 q
   cases e
   obtain ⟨r1,st1,fz1,e1,l1,R1,k1⟩:=h x d π _ q fz st ρ I b
   cases r1 with
   | bk ρ1=>exact ⟨.nx ρ1,st1,fz1,by rw [start e1],l1,R1,k1⟩
   | _=>exact R1.elim
  ·rename_i v q
   cases e
   obtain ⟨r1,st1,fz1,e1,l1,R1,k1⟩:=h x d π _ q fz st ρ I b
   cases r1 with
   | rt d'=>exact ⟨.rt d',st1,fz1,by rw [start e1],l1,R1,trivial⟩
   | _=>exact R1.elim
  ·cases e
theorem ZeK {i:Nat} (hi:M.contains i=false) (h:SX n0 M T f g):UL n0 M (i :: T) (fun d π=>g (Zq π i d)) (fun d ρ s=>f (ZB ρ i d) s):=by
 intro x d π r e fz st ρ I a
 obtain ⟨r1,st1,fz1,e1,l1,R1,k1⟩:=h _ r e fz st _ (I.set hi a)
 refine ⟨r1,st1,fz1,e1,l1,R1,?_⟩
 refine KeptF.trans (T1:=i :: T) (T2:=T) (fun _ z=>z) (fun _ z=>List.mem_cons_of_mem _ z) (fun k hk hm=>?_) k1
 have hki:k≠i:=fun z=>hk (by rw [z]; exact List.mem_cons_self)
 exact ⟨Zi hki,Zi hki,fun _ _ _ _=>rfl⟩
theorem ZhZ {i j l:Nat} (hi:M.contains i=false) (hj:M.contains j=false) (hl:M.contains l=false) (h:SX n0 M T f g):UL n0 M (i :: j :: l :: T) (Q7 i j l g) (Zgp i j l f):=by
 intro x d π r e fz st ρ I a
 unfold Q7 at e
 split at e
 ·rename_i p q u
  cases a with
  | tup a=>
   cases a with
   | cons a1 a=>
    cases a with
    | cons a2 a=>
     cases a with
     | cons a3 a=>
      cases a
      obtain ⟨r1,st1,fz1,e1,l1,R1,k1⟩:=h _ r e fz st _ (((I.set hi a1).set hj a2).set hl a3)
      refine ⟨r1,st1,fz1,e1,l1,R1,?_⟩
      refine KeptF.trans (T1:=i :: j :: l :: T) (T2:=T) (fun _ z=>z) (fun _ z=>List.mem_cons_of_mem _ (List.mem_cons_of_mem _ (List.mem_cons_of_mem _ z))) (fun k hk hm=>?_) k1
      have hki:k≠i:=fun z=>hk (by rw [z]; exact List.mem_cons_self)
      have hkj:k≠j:=fun z=>hk (by rw [z]; exact List.mem_cons_of_mem _ List.mem_cons_self)
      have hkl:k≠l:=fun z=>hk (by rw [z]; exact List.mem_cons_of_mem _ (List.mem_cons_of_mem _ List.mem_cons_self))
      exact ⟨(Zi hkl).trans ((Zi hkj).trans (Zi hki)),(Zi hkl).trans ((Zi hkj).trans (Zi hki)),fun _ _ _ _=>rfl⟩
 ·cases e
theorem ZcI (hF:Ye F G) {B:P→Zv→Option PFl}{B':D→Env→Za→Option (Fl×Za)}{e:CE}{m:Bool}{xs:List P}{T0:List Nat} (h:UL n0 M T B B') (hT:∀ i,M.contains i=true→i∈T→i∈T0) {fz:Fz}{st:Za}{π:Zv}{ρ:Env}{r:PFl} (I:Inv n0 M fz st π ρ)
  (q:pe G e π=some (.lst m xs)) (c:Vz M T0 e xs=true) (el:ZR B xs π=some r):∃ a st1 mm ds,ev F e ρ st=some (.lst a,st1)∧st1[a]?=some (mm,ds)∧Xp n0 M T fz st π ρ (Z4 B' a ds.length 0 ρ st1) r:=by
 have frozen:∀ {a:Nat}{st1:Za}{fz1:Fz}{ds:List D},ev F e ρ st=some (.lst a,st1)→Next fz st fz1 st1→fz1 a→st1[a]?=some (m,ds)→Rels fz1 st1 xs ds→∃ a st1 mm ds,ev F e ρ st=some (.lst a,st1)∧st1[a]?=some (mm,ds)∧Xp n0 M T fz st π ρ (Z4 B' a ds.length 0 ρ st1) r:=fun {a st1 fz1 ds} e1 n1 hz hs rr=>by
  refine ⟨a,st1,m,ds,e1,hs,?_⟩
  obtain ⟨r1,st2,fz2,e2,l2,R2,k2⟩:=XG h (a:=a) (m:=m) (all:=ds) (J:=fun fz st _ _=>fz a∧st[a]?=some (m,ds)) ⟨fun _ _ _ _ j=>j.2,fun _ _ _ _ _ _ _ _ l _ j=>⟨l.sub _ j.1,(l.frz _ j.1).trans j.2⟩⟩ (k:=0) (I.next n1) ⟨hz,hs⟩ rfl rr el
  exact ⟨r1,st2,fz2,e2,(n1.later I.lo I.bd).trans l2,R2,KeptF.trans (T1:=T) (fun _ z=>z) (fun _ z=>z) (Next.kept I n1) k2⟩
 unfold Vz at c
 rw [Bool.or_eq_true,Bool.or_eq_true] at c
 rcases c with (c | c) | c
 ·obtain ⟨d,st',fz',e1,n1,r1⟩:=ZT hF I q (by unfold Zu; rw [c]; rfl)
  cases r1 with
  | lst hz hs rr=>exact frozen e1 n1 hz hs rr
 ·rw [Bool.and_eq_true] at c
  obtain ⟨j,ds,st',fz1,e1,e2,n1,hn,hl,rr⟩:=UW hF I q c.1 (by rw [c.2,Bool.or_true])
  have n2:Next fz st (fun i=>fz1 i∨i=j) st':=⟨n1.old,n1.len,fun i z=>.inl (n1.sub i z),fun i z=>z.elim (n1.new i) fun z=>.inr (by rw [z]; exact hl),fun i z=>z.elim (n1.bd i) fun z=>by rw [z]; exact Z7 e2⟩
  exact frozen e1 n2 (.inr rfl) e2 (rr.mono (fun _ z=>.inl z) fun _ _=>rfl)
 ·split at c
  ·rename_i i
   have c:i∉T0:=by
    intro z
    have:T0.contains i=true:=by simpa using z
    rw [this] at c; cases c
   have q:Wj i π=some (.lst m xs):=q
   unfold Wj at q
   split at q
   ·rename_i q0
    cases q
    cases hm:M.contains i with
    | false=>
     obtain ⟨d,st',fz',e1,n1,r1⟩:=ZT hF I (e:=.var i) (p:=.lst m xs) (by show Wj i π=_; unfold Wj; rw [q0]) (by unfold Zu noM; rw [hm]; rfl)
     cases r1 with
     | lst hz hs rr=>exact frozen e1 n1 hz hs rr
    | true=>
     obtain ⟨j,ps,ds,f1,f2,f3,f4,f5,f6⟩:=I.mt i _ hm q0
     cases f1
     refine ⟨j,st,true,ds,by show Y6 i ρ st=_; unfold Y6; rw [f2],f3,?_⟩
     obtain ⟨r1,st2,fz2,e2,l2,R2,k2⟩:=XG h (a:=j) (m:=true) (all:=ds) (J:=fun fz st π ρ=>(∃ p,π[i]?=some (some p))∧ρ[i]?=some (some (.lst j))∧st[j]?=some (true,ds)) ⟨fun _ _ _ _ j=>j.2.2,fun _ _ _ _ _ _ _ _ l k jj=>by
      obtain ⟨⟨p,jp⟩,j2,j3⟩:=jj
      obtain ⟨k1,k2,k3⟩:=k i (fun z=>c (hT i hm z)) hm
      exact ⟨⟨p,k1.trans jp⟩,k2.trans j2,(k3 j p jp j2).trans j3⟩⟩ (k:=0) I ⟨⟨_,q0⟩,f2,f3⟩ rfl f6 el
     exact ⟨r1,st2,fz2,e2,l2,R2,k2⟩
   ·cases q
  ·cases c
theorem Zh5 (hF:Ye F G) {i:Nat}{rng:Bool}{e:CE} (h:SX n0 M T f g):SX n0 M (i :: T) (UZ i rng (ev F e) f) (Q5 M T i rng e (pe G e) g):=by
 intro π r hp fz st ρ I
 unfold Q5 at hp
 split at hp
 ·rename_i x q
  split at hp
  ·rename_i xs qi
   split at hp
   ·rename_i c
    rw [Bool.and_eq_true] at c
    have hi:M.contains i=false:=by simpa using c.1
    have kp:Zu M e x=true:=by
     cases rng with
     | false=>simpa using c.2
     | true=>
      cases x with
      | int n=>unfold Zu; rw [show noL (.int n)=true from rfl,Bool.or_true]
      | _=>cases qi
    obtain ⟨d,st',fz',e1,n1,r1⟩:=ZT hF I q kp
    obtain ⟨ds,e2,r2⟩:=VZ r1 qi
    obtain ⟨r3,st3,fz3,e3,l3,R3,k3⟩:=XF (ZeK hi h) (I.next n1) r2 hp
    exact ⟨r3,st3,fz3,by unfold UZ; rw [e1]; simp only [e2]; exact e3,(n1.later I.lo I.bd).trans l3,R3,KeptF.trans (T1:=i :: T) (fun _ z=>z) (fun _ z=>z) (Next.kept I n1) k3⟩
   ·cases hp
  ·split at hp
   ·rename_i m xs _
    split at hp
    ·rename_i c
     rw [Bool.and_eq_true] at c
     have hi:M.contains i=false:=by simpa using c.1
     obtain ⟨a,st1,mm,ds,e1,e2,r3,st3,fz3,e3,l3,R3,k3⟩:=ZcI hF (ZeK hi h) (T0:=T) (fun k hk hm=>by
      rcases List.mem_cons.mp hm with z | z
      ·rw [z] at hk; rw [hi] at hk; cases hk
      ·exact z) I q c.2 hp
     refine ⟨r3,st3,fz3,?_,l3,R3,k3⟩
     unfold UZ
     rw [e1]
     simp only [Xv,e2]
     exact e3
    ·cases hp
   ·cases hp
 ·cases hp
theorem Zgr (hF:Ye F G) {i j l:Nat}{e:CE} (h:SX n0 M T f g):SX n0 M (i :: j :: l :: T) (UX i j l (ev F e) f) (Qg M i j l e (pe G e) g):=by
 intro π r hp fz st ρ I
 unfold Qg at hp
 split at hp
 ·rename_i xs q
  split at hp
  ·rename_i c
   rw [Bool.and_eq_true,Bool.and_eq_true,Bool.and_eq_true] at c
   have hi:M.contains i=false:=by simpa using c.1.1.1
   have hj:M.contains j=false:=by simpa using c.1.1.2
   have hl:M.contains l=false:=by simpa using c.1.2
   obtain ⟨d,st',fz',e1,n1,r1⟩:=ZT hF I q c.2
   cases r1 with
   | tup r2=>
    obtain ⟨r3,st3,fz3,e3,l3,R3,k3⟩:=XF (ZhZ hi hj hl h) (I.next n1) r2 hp
    exact ⟨r3,st3,fz3,by unfold UX; rw [e1]; exact e3,(n1.later I.lo I.bd).trans l3,R3,KeptF.trans (T1:=i :: j :: l :: T) (fun _ z=>z) (fun _ z=>z) (Next.kept I n1) k3⟩
  ·cases hp
 ·cases hp
inductive RelsQ (fz:Fz) (st:Za):List (P×P)→List (D×D)→Prop where
 | nil:RelsQ fz st [] []
 | cons {p:P×P}{d:D×D}{ps:List (P×P)}{ds:List (D×D)} (h1:Rel fz st p.1 d.1) (h2:Rel fz st p.2 d.2) (r:RelsQ fz st ps ds):RelsQ fz st (p :: ps) (d :: ds)
theorem RelsQ.zip {fz:Fz}{st:Za}:∀ {xs ys:List P}{ds es:List D},Rels fz st xs ds→Rels fz st ys es→RelsQ fz st (xs.zip ys) (ds.zip es)
 | _,_,_,_,.nil,_=>.nil
 | _,_,_,_,.cons _ _,.nil=>.nil
 | _,_,_,_,.cons a r,.cons b s=>.cons a b (RelsQ.zip r s)
theorem RelsQ.mono {fz fz':Fz}{st st':Za} (l:Later n0 fz st fz' st'):∀ {ps:List (P×P)}{ds:List (D×D)},RelsQ fz st ps ds→RelsQ fz' st' ps ds
 | _,_,.nil=>.nil
 | _,_,.cons a b r=>.cons (a.mono l.sub l.frz) (b.mono l.sub l.frz) (RelsQ.mono l r)
theorem Y9 {i j:Nat} (hi:M.contains i=false) (hj:M.contains j=false) (h:SX n0 M T f g) {ok:Za→Prop}:∀ {xs:List (P×P)}{ds:List (D×D)}{π:Zv}{r:PFl}{fz:Fz}{st:Za}{ρ:Env},Inv n0 M fz st π ρ→RelsQ fz st xs ds→(∀ fz' st',Later n0 fz st fz' st'→ok st')→
  YM (fun x y π=>g (Zq (Zq π i x) j y)) xs π=some r→Xp n0 M (i :: j :: T) fz st π ρ (YF ok (fun x y ρ s=>f (ZB (ZB ρ i x) j y) s) ds ρ st) r
 | _,_,π,r,fz,st,ρ,I,.nil,hok,e=>by cases e; exact ⟨.nx ρ,st,fz,if_pos (hok _ _ Later.refl),Later.refl,I,Kept.refl⟩
 | x :: xs,d :: ds,π,r,fz,st,ρ,I,.cons a b rs,hok,e=>by
  have ok0:=hok _ _ Later.refl
  have tr:∀ {r1:PFl},g (Zq (Zq π i x.1) j x.2)=some r1→Xp n0 M (i :: j :: T) fz st π ρ (f (ZB (ZB ρ i d.1) j d.2) st) r1:=fun {r1} q=>by
   obtain ⟨r2,st2,fz2,e2,l2,R2,k2⟩:=h _ _ q fz st _ ((I.set hi a).set hj b)
   refine ⟨r2,st2,fz2,e2,l2,R2,?_⟩
   have kp:Kept M (i :: j :: T) π ρ st (Zq (Zq π i x.1) j x.2) (ZB (ZB ρ i d.1) j d.2) st:=fun k hk hm=>by
    have hki:k≠i:=fun z=>hk (by rw [z]; exact List.mem_cons_self)
    have hkj:k≠j:=fun z=>hk (by rw [z]; exact List.mem_cons_of_mem _ List.mem_cons_self)
    exact ⟨(Zi hkj).trans (Zi hki),(Zi hkj).trans (Zi hki),fun _ _ _ _=>rfl⟩
   exact KeptF.trans (T1:=i :: j :: T) (T2:=T) (fun _ z=>z) (fun _ z=>List.mem_cons_of_mem _ (List.mem_cons_of_mem _ z)) kp k2
  unfold YM at e
  split at e
  ·rename_i π1 q
   obtain ⟨r1,st1,fz1,e1,l1,R1,k1⟩:=tr q
   cases r1 with
   | nx ρ1=>
    obtain ⟨r2,st2,fz2,e2,l2,R2,k2⟩:=Y9 hi hj h (ρ:=ρ1) R1 (rs.mono l1) (fun _ _ l=>hok _ _ (l1.trans l)) e
    exact ⟨r2,st2,fz2,by unfold YF; rw [if_pos ok0]; simp only [e1]; exact e2,l1.trans l2,R2,KeptF.trans (fun _ z=>z) (fun _ z=>z) k1 k2⟩
   | _=>exact R1.elim
  ·rename_i π1 q
   obtain ⟨r1,st1,fz1,e1,l1,R1,k1⟩:=tr q
   cases r1 with
   | ct ρ1=>
    obtain ⟨r2,st2,fz2,e2,l2,R2,k2⟩:=Y9 hi hj h (ρ:=ρ1) R1 (rs.mono l1) (fun _ _ l=>hok _ _ (l1.trans l)) e
    exact ⟨r2,st2,fz2,by unfold YF; rw [if_pos ok0]; simp only [e1]; exact e2,l1.trans l2,R2,KeptF.trans (fun _ z=>z) (fun _ z=>z) k1 k2⟩
   | _=>exact R1.elim
  ·rename_i π1 q
   cases e
   obtain ⟨r1,st1,fz1,e1,l1,R1,k1⟩:=tr q
   cases r1 with
   | bk ρ1=>exact ⟨.nx ρ1,st1,fz1,by unfold YF; rw [if_pos ok0]; simp only [e1],l1,R1,k1⟩
   | _=>exact R1.elim
  ·rename_i v q
   cases e
   obtain ⟨r1,st1,fz1,e1,l1,R1,k1⟩:=tr q
   cases r1 with
   | rt d'=>exact ⟨.rt d',st1,fz1,by unfold YF; rw [if_pos ok0]; simp only [e1],l1,R1,trivial⟩
   | _=>exact R1.elim
  ·cases e
theorem Zgt (hF:Ye F G) {i j:Nat}{e:CE} (h:SX n0 M T f g):SX n0 M (i :: j :: T) (UY i j (ev F e) f) (Qi M i j e (pe G e) g):=by
 intro π r hp fz st ρ I
 unfold Qi at hp
 split at hp
 ·rename_i m1 xs m2 ys q
  split at hp
  ·rename_i c
   rw [Bool.and_eq_true,Bool.and_eq_true] at c
   have hi:M.contains i=false:=by simpa using c.1.1
   have hj:M.contains j=false:=by simpa using c.1.2
   obtain ⟨d,st',fz',e1,n1,r1⟩:=ZT hF I q (show Zu M e _=true by unfold Zu; rw [c.2,Bool.true_or])
   cases r1 with
   | tup rr=>
    cases rr with
    | cons a rr=>
     cases rr with
     | cons b rr=>
      cases rr
      cases a with
      | @lst ja _ _ da za sa ra=>
       cases b with
       | @lst jb _ _ db zb sb rb=>
        obtain ⟨r3,st3,fz3,e3,l3,R3,k3⟩:=Y9 (ok:=fun s=>s[ja]?=some (m1,da)∧s[jb]?=some (m2,db)) hi hj h (I.next n1) (RelsQ.zip ra rb) (fun fz2 st2 l=>⟨(l.frz ja za).trans sa,(l.frz jb zb).trans sb⟩) hp
        exact ⟨r3,st3,fz3,by unfold UY; rw [e1]; simp only [sa,sb]; exact e3,(n1.later I.lo I.bd).trans l3,R3,KeptF.trans (T1:=i :: j :: T) (fun _ z=>z) (fun _ z=>z) (Next.kept I n1) k3⟩
  ·cases hp
 ·cases hp
theorem RelsQ.enum {fz:Fz}{st:Za}:∀ {xs:List P}{ds:List D}{k:Nat},Rels fz st xs ds→RelsQ fz st (Wt k xs) (VS k ds)
 | _,_,_,.nil=>.nil
 | _,_,k,.cons a r=>.cons (.int _) a (RelsQ.enum r)
theorem Zgs (hF:Ye F G) {i j:Nat}{e:CE} (h:SX n0 M T f g):SX n0 M (i :: j :: T) (VX i j (ev F e) f) (Qh M i j e (pe G e) g):=by
 intro π r hp fz st ρ I
 unfold Qh at hp
 split at hp
 ·rename_i x q
  split at hp
  ·rename_i xs hw
   split at hp
   ·rename_i c
    rw [Bool.and_eq_true,Bool.and_eq_true] at c
    have hi:M.contains i=false:=by simpa using c.1.1
    have hj:M.contains j=false:=by simpa using c.1.2
    obtain ⟨d,st',fz',e1,n1,r1⟩:=ZT hF I q (show Zu M e _=true by unfold Zu; rw [c.2,Bool.true_or])
    cases r1 with
    | tup rr=>
     cases hw
     obtain ⟨r3,st3,fz3,e3,l3,R3,k3⟩:=Y9 (ok:=fun _=>True) hi hj h (I.next n1) (RelsQ.enum rr) (fun _ _ _=>trivial) hp
     exact ⟨r3,st3,fz3,by unfold VX; rw [e1]; exact e3,(n1.later I.lo I.bd).trans l3,R3,KeptF.trans (T1:=i :: j :: T) (fun _ z=>z) (fun _ z=>z) (Next.kept I n1) k3⟩
    | @lst ja m1 _ da za sa ra=>
     cases hw
     obtain ⟨r3,st3,fz3,e3,l3,R3,k3⟩:=Y9 (ok:=fun s=>s[ja]?=some (m1,da)) hi hj h (I.next n1) (RelsQ.enum ra) (fun fz2 st2 l=>(l.frz ja za).trans sa) hp
     exact ⟨r3,st3,fz3,by unfold VX ZeL; rw [e1]; simp only [sa]; exact e3,(n1.later I.lo I.bd).trans l3,R3,KeptF.trans (T1:=i :: j :: T) (fun _ z=>z) (fun _ z=>z) (Next.kept I n1) k3⟩
    | _=>cases hw
   ·cases hp
  ·cases hp
 ·cases hp
theorem Yg (hF:Ye F G):∀ s:CS,SX n0 M (Z1 s) (ex F s) (px G M s)
 | .skip=>fun π r e fz st ρ I=>by cases e; exact ⟨.nx ρ,st,fz,rfl,Later.refl,I,Kept.refl⟩
 | .brk=>fun π r e fz st ρ I=>by cases e; exact ⟨.bk ρ,st,fz,rfl,Later.refl,I,Kept.refl⟩
 | .cont=>fun π r e fz st ρ I=>by cases e; exact ⟨.ct ρ,st,fz,rfl,Later.refl,I,Kept.refl⟩
 | .stop=>fun π r e=>nomatch (show (none:Option PFl)=some r from e)
 | .set3 i j l e=>Zgv hF i j l e
 | .act e=>Zh2 hF e
 | .seq a b=>Zh9 (Yg hF a) (Yg hF b)
 | .ret e=>Zh8 hF e
 | .set i e=>Zia hF i e
 | .set2 i j e=>Zgu hF i j e
 | .app i e=>Zh3 hF i e
 | .ext i e=>Zh4 hF i e
 | .put i k e=>Zh7 hF i e k
 | .ite c a b=>Zh6 hF c (Yg hF a) (Yg hF b)
 | .for1 i rng it b=>Zh5 hF (Yg hF b)
 | .forP i j it b=>Zgt hF (Yg hF b)
 | .forE i j it b=>Zgs hF (Yg hF b)
 | .for3 _ _ _=>fun _ r e=>nomatch (show (none:Option PFl)=some r from e)
 | .for4 i j l it b=>Zgr hF (Yg hF b)
 | .for2 _ _ _ _=>fun _ r e=>nomatch (show (none:Option PFl)=some r from e)
 | .whl _ _=>fun _ r e=>nomatch (show (none:Option PFl)=some r from e)
end
theorem Rels.back {fz:Fz}{st:Za}{ps:List P}{ds:List D}{i:Nat}{d:D} (r:Rels fz st ps ds) (e:ds[i]?=some d):∃ p,ps[i]?=some p:=by
 have h:=Z7 e
 rw [←r.length] at h
 exact ⟨_,List.getElem?_eq_getElem h⟩
theorem inv_start {f:FD}{ps:List P}{fz:Fz}{st:Za}{ds:List D} (c:(ZC f.body).all (fun i=>decide (ps.length≤i))=true) (b:Bd fz st) (r:Rels fz st ps ds) :
  Inv st.length (ZC f.body) fz st (ps.map some++List.replicate (f.ns - ps.length) none) (ds.map some++List.replicate (f.ns - ds.length) none):=by
 have slot:∀ (i:Nat) (q:P),(ps.map some++List.replicate (f.ns - ps.length) none:Zv)[i]?=some (some q)→i < ps.length∧ps[i]?=some q:=fun i q h=>by
  by_cases hi:i < ps.length
  ·rw [List.getElem?_append_left (by simpa using hi),List.getElem?_map] at h
   refine ⟨hi,?_⟩
   cases z:ps[i]? with
   | none=>rw [z] at h; cases h
   | some y=>rw [z] at h; cases h; rfl
  ·rw [List.getElem?_append_right (by simpa using hi),List.getElem?_replicate] at h
   split at h<;>cases h
 have noM:∀ (i:Nat),i < ps.length→(ZC f.body).contains i=false:=fun i hi=>by
  cases z:(ZC f.body).contains i with
  | false=>rfl
  | true=>
   have:=List.all_eq_true.mp c i (by simpa using z)
   have:=of_decide_eq_true this
   omega
 refine ⟨b,Nat.le_refl _,by simp [r.length],fun i q hi h=>?_,fun i q hi h=>?_,fun i i' q q' j hi hi' h h' _ _=>?_⟩
 ·obtain ⟨h1,h2⟩:=slot i q h
  obtain ⟨d,e1,r1⟩:=r.get h2
  refine ⟨d,?_,r1⟩
  rw [List.getElem?_append_left (by simpa [←r.length] using h1),List.getElem?_map,e1]
  rfl
 ·rw [noM i (slot i q h).1] at hi; cases hi
 ·rw [noM i (slot i q h).1] at hi; cases hi
theorem Zfk {F:Nat→Fn}{G:PFn} (hF:Ye F G) (f:FD) {ps:List P}{p:P} (e:fnP G f ps=some p) {fz:Fz}{st:Za}{ds:List D} (b:Bd fz st) (r:Rels fz st ps ds):Gives fz st (fnD F f ds st) p:=by
 unfold fnP at e
 split at e
 ·rename_i c
  have I:Inv st.length (ZC f.body) fz st (ps.map some++List.replicate (f.ns - ps.length) none) (ds.map some++List.replicate (f.ns - ds.length) none):=inv_start (by rw [c.1]; exact c.2) b r
  have hd:ds.length=f.ps:=by rw [←r.length]; exact c.1
  split at e
  ·rename_i d q
   cases e
   obtain ⟨r1,st1,fz1,e1,l1,R1,k1⟩:=Yg (n0:=st.length) hF f.body _ _ q fz st _ I
   cases r1 with
   | rt d'=>exact ⟨d',st1,fz1,by unfold fnD; rw [if_pos hd,e1],⟨l1.low,l1.len,l1.sub,l1.new,R1.2⟩,R1.1⟩
   | _=>exact R1.elim
  ·rename_i π' q
   cases e
   obtain ⟨r1,st1,fz1,e1,l1,R1,k1⟩:=Yg (n0:=st.length) hF f.body _ _ q fz st _ I
   cases r1 with
   | nx ρ'=>exact ⟨.non,st1,fz1,by unfold fnD; rw [if_pos hd,e1],⟨l1.low,l1.len,l1.sub,l1.new,R1.bd⟩,.non⟩
   | _=>exact R1.elim
  ·cases e
 ·cases e
theorem V6 {T:Nat→Option FD}{n i:Nat}{f:FD} (q:T i=some f):Ze T (n+1) i=if (Vf i&&!Vm f)=true then fun _=>none else fnP (Ze T n) f:=by
 show (match T i with | some f=>if (Vf i&&!Vm f)=true then (fun _=>none) else fnP (Ze T n) f | none=>fun _=>none)=_
 rw [q]
theorem Zav {T:Nat→Option FD}{n i:Nat} (q:T i=none):Ze T (n+1) i=fun _=>none:=by
 show (match T i with | some f=>if (Vf i&&!Vm f)=true then (fun _=>none) else fnP (Ze T n) f | none=>fun _=>none)=_
 rw [q]
theorem Zcr {T:Nat→Option FD}{n i:Nat}{f:FD} (q:T i=some f):run T (n+1) i=fnD (run T n) f:=by
 show (match T i with | some f=>fnD (run T n) f | none=>fun _ _=>none)=_
 rw [q]
theorem JM (T:Nat→Option FD):∀ n,Ye (run T n) (Ze T n)
 | 0=>⟨(fun i ps p e=>nomatch (show (none:Option P)=some p from e)),(fun i _ ps m xs e=>nomatch (show (none:Option P)=some (.lst m xs) from e))⟩
 | n+1=>by
  refine ⟨fun i ps p e fz st ds b r=>?_,fun i hi ps m xs e fz st ds b r=>?_⟩
  ·cases q:T i with
   | none=>rw [Zav q] at e; cases e
   | some f=>
    rw [V6 q] at e
    rw [Zcr q]
    split at e
    ·cases e
    ·exact Zfk (JM T n) f e b r
  ·cases hi
theorem ZdD {T:Nat→Option FD}{n i:Nat}{ns:List Int} (h:Ze T n i [.lst false (ns.map .int)]=some (.bl true)):∃ st',run T n i [.lst 0] [(false,ns.map .int)]=some (.bl true,st'):=by
 have r:∀ ns:List Int,Rels (fun i=>i=0) [(false,(ns.map D.int))] [] []:=fun _=>.nil
 have rs:∀ (st:Za) (ns:List Int),Rels (fun i=>i=0) st (ns.map P.int) (ns.map D.int):=fun st ns=>by
  induction ns with
  | nil=>exact .nil
  | cons a l ih=>exact .cons (.int a) ih
 obtain ⟨d,st',fz',e1,n1,r1⟩:=(JM T n).1 i _ _ h (fun i=>i=0) [(false,ns.map D.int)] [.lst 0] (fun i hi=>by rw [hi]; exact Nat.zero_lt_one) (.cons (.lst rfl rfl (rs _ ns)) .nil)
 cases r1
 exact ⟨st',e1⟩
end Dp



namespace Dp
open PySem PySem.Spec PyProof.Rows L2
variable [ClsTab]
theorem Zg6 {α:Type}:∀ {us:List α},us.length=1→∃ a,us=[a]
 | [a],_=>⟨a,rfl⟩
theorem ZdE {α:Type}:∀ {us:List α},us.length=2→∃ a b,us=[a,b]
 | [a,b],_=>⟨a,b,rfl⟩
theorem ZdF {α:Type}:∀ {us:List α},us.length=3→∃ a b c,us=[a,b,c]
 | [a,b,c],_=>⟨a,b,c,rfl⟩
theorem ZiL {α:Type}:∀ {us:List α},us.length=4→∃ a b c d,us=[a,b,c,d]
 | [a,b,c,d],_=>⟨a,b,c,d,rfl⟩
noncomputable def XT (K:PySem.W.Frag) (G:Gs) (T:Nat→Option FD) (C:Addr):List (Str×Nat×Nat)→Prop
 | []=>True
 | (m,j,_) :: r=>(∃ y f fd pn N,MethOk K G T C m y j f fd pn N)∧XT K G T C r
noncomputable def XV (K:PySem.W.Frag) (B:Addr):List Nat→Prop
 | []=>True
 | i :: r=>SubOk K (ClsTab.ca i) B∧XV K B r
noncomputable def Xm (Pm:Params) (K:PySem.W.Frag) (mg:Str→Option Value) (G:Gs) (T:Nat→Option FD):Gs→Prop
 | []=>True
 | (x,.cst d) :: r=>(∃ v u,mg x=some u∧RelV v u∧∀ ad H,Den K ad H v d)∧Xm Pm K mg G T r
 | (x,.blt) :: r=>mg x=none∧Xm Pm K mg G T r
 | (x,.dct ks ds) :: r=>Jl Pm K mg x ks ds∧Xm Pm K mg G T r
 | (x,.fn i _ ds) :: r=>(∃ f fd pn N,DefOk K mg G T x i ds f fd pn N)∧Xm Pm K mg G T r
 | (x,.cls i ms subs) :: r=>((mg x=some (.ref (ClsTab.ca i))∧NewOk K (ClsTab.ca i)∧XV K (ClsTab.ca i) subs)∧XT K G T (ClsTab.ca i) ms)∧Xm Pm K mg G T r
section
variable {P:Program}{w:World}{K:PySem.W.Frag}{mg:Str→Option Value}{base:Heap}{G:Gs}{T:Nat→Option FD}
noncomputable def ZeM (Pm:Params) (K:PySem.W.Frag) (mg:Str→Option Value) (G:Gs) (T:Nat→Option FD) (x:Str):GV→Prop
 | .cst d=>∃ v u,mg x=some u∧RelV v u∧∀ ad H,Den K ad H v d
 | .blt=>mg x=none
 | .dct ks ds=>Jl Pm K mg x ks ds
 | .fn i _ ds=>∃ f fd pn N,DefOk K mg G T x i ds f fd pn N
 | .cls i ms subs=>(mg x=some (.ref (ClsTab.ca i))∧NewOk K (ClsTab.ca i)∧XV K (ClsTab.ca i) subs)∧XT K G T (ClsTab.ca i) ms
theorem Y7 {Pm:Params}:∀ {l:Gs}{x:Str}{g:GV},Xm Pm K mg G T l→l.lookup x=some g→ZeM Pm K mg G T x g
 | [],_,_,_,h=>by cases h
 | (y,v) :: r,x,g,a,h=>by
  have tl:Xm Pm K mg G T r∧ZeM Pm K mg G T y v:=by
   cases v with
   | cst d=>exact ⟨a.2,a.1⟩
   | blt=>exact ⟨a.2,a.1⟩
   | dct ks ds=>exact ⟨a.2,a.1⟩
   | fn i ps ds=>exact ⟨a.2,a.1⟩
   | cls i ms subs=>exact ⟨a.2,a.1⟩
  rw [List.lookup_cons] at h
  cases e:x==y with
  | true=>
   rw [e] at h
   cases h
   rw [beq_iff_eq.mp e]
   exact tl.2
  | false=>
   rw [e] at h
   exact Y7 tl.1 h
theorem JO {B:Addr}:∀ {l:List Nat},XV K B l→∀ i,l.contains i=true→SubOk K (ClsTab.ca i) B
 | [],_,_,h=>by cases h
 | j :: r,a,i,h=>by
  rw [List.contains_cons,Bool.or_eq_true] at h
  rcases h with h | h
  ·rw [beq_iff_eq.mp h]; exact a.1
  ·exact JO a.2 i h
theorem Qa {C:Addr}:∀ {l:List (Str×Nat×Nat)},XT K G T C l→∀ m j ps,l.lookup m=some (j,ps)→∃ y f fd pn N,MethOk K G T C m y j f fd pn N
 | [],_,_,_,_,h=>by cases h
 | (m',j',ps') :: r,a,m,j,ps,h=>by
  rw [List.lookup_cons] at h
  cases e:m==m' with
  | true=>
   rw [e] at h
   cases h
   rw [beq_iff_eq.mp e]
   exact a.1
  | false=>
   rw [e] at h
   exact Qa a.2 m j ps h
theorem Zep {Pm:Params} (h:Xm Pm K mg G T G):Text Pm K mg G T:=
 ⟨fun _ _ e=>Y7 h e,fun _ e=>Y7 h e,fun _ _ _ e=>Y7 h e,fun _ _ _ _ e=>Y7 h e,fun x i ms subs e=>by
  have g:ZeM Pm K mg G T x (.cls i ms subs):=Y7 h e
  exact ⟨⟨g.1.1,g.1.2.1,JO g.1.2.2⟩,Qa g.2⟩⟩
theorem Zfc (hc:∀ n,XU G (run T n)) (X:Text w.params K mg G T) (n:Nat) {x:Str}{i:Nat}{ds:List D}{f:Addr}{fd:FuncData}{pn N:List Str} (Dk:DefOk K mg G T x i ds f fd pn N):FnOk P w K mg base CX0 n f fd pn (spD K (run T n i)):=ZaK hc X n Dk.ob
theorem Zgj {H:Hp}{a:Addr}{ns:List Int}{n i:Nat} (hO:Only H) (hS:SqL K H a (ns.map V.int)) (h:Ze T n i [.lst false (ns.map .int)]=some (.bl true)):spD K (run T n i) [.ref a] H (fun v _=>v=.bl true) fun _ _ _=>False:=by
 obtain ⟨st',e⟩:=ZdD h
 have ds:∀ ns:List Int,Dens K [a] H (ns.map V.int) (ns.map D.int):=fun ns=>by
  induction ns with
  | nil=>exact .nil
  | cons n l ih=>exact .cons (.int n) ih
 refine ⟨[a],[.lst 0],[(false,ns.map .int)],.bl true,st',⟨rfl,fun i j b c d _ _ h3 _=>?_,fun i c hc=>?_⟩,.cons (.lst rfl) .nil,e,fun v ad' H' x S h=>h.ofBl⟩
 ·cases i with
  | zero=>simp at h3
  | succ i=>simp at h3
 ·cases i with
  | succ i=>simp at hc
  | zero=>
   have hc:(false,ns.map D.int)=c:=by simpa using hc
   subst hc
   refine ⟨a,rfl,ns.map V.int,ds ns,.inr ⟨rfl,?_⟩⟩
   rcases hS with (h | ⟨o,h⟩) | ⟨o,its,n,h1,h2,h3,h4,h5,h6⟩
   ·rcases hO a with z | ⟨o,xs,z⟩
    ·rw [h] at z; cases z
    ·rw [h] at z; cases z
   ·exact .inl ⟨o,h⟩
   ·exact .inr ⟨o,its,n,⟨h1,h2⟩,⟨h3,h4⟩,h5,h6⟩
end
noncomputable abbrev fnS (x y:Str) (s:Stmt) (dV kV dc pm:Value) (an:Option Addr) (cd ct:Value):FuncData:=PySem.W.fnOf x y (defArgs s) (defBody s) (defScope s) dV kV dc pm an cd ct
inductive FnAt (K:PySem.W.Frag) (x:Str) (s:Stmt):Prop
 | mk {f:Addr}{oc kV dc pm cd ct:Value}{od an:Option Addr}{sl:Array (Option Value)} (a:PySem.W.nsIn K mainGlobals x=some (some (.ref f))) (l:K.lookup f=some ⟨oc,od,.func (PySem.W.fnOf x x (defArgs s) (defBody s) (defScope s) .none kV dc pm an cd ct),sl⟩) (e:PySem.W.codeIn K cd x=true) (k:PySem.W.keepIn K (.ref f)=true):FnAt K x s
inductive FnAtE (K:PySem.W.Frag) (x:Str) (s:Stmt) (v:Int):Prop
 | mk {f E:Addr}{eo:Obj}{en:Nat}{et:Tok}{oc kV dc pm cd ct:Value}{od an:Option Addr}{sl:Array (Option Value)} (a:PySem.W.nsIn K mainGlobals x=some (some (.ref f))) (l:K.lookup f=some ⟨oc,od,.func (PySem.W.fnOf x x (defArgs s) (defBody s) (defScope s) (.ref E) kV dc pm an cd ct),sl⟩) (e:PySem.W.codeIn K cd x=true) (k:PySem.W.keepIn K (.ref f)=true) (d:K.lookup E=some eo) (g:eo.data=.seq #[.int v et] en):FnAtE K x s v
inductive MtAt (K:PySem.W.Frag) (C:Addr) (x y:Str) (s:Stmt):Prop
 | mk {f:Addr}{oc kV dc pm cd ct:Value}{od an:Option Addr}{sl:Array (Option Value)} (m:PySem.W.findIn K (.ref C) x=some (some (.ref f))) (l:K.lookup f=some ⟨oc,od,.func (PySem.W.fnOf x y (defArgs s) (defBody s) (defScope s) .none kV dc pm an cd ct),sl⟩) (e:PySem.W.codeIn K cd y=true) (k:PySem.W.keepIn K (.ref f)=true) (i:PySem.W.isFn K (.ref f)=true):MtAt K C x y s
structure ClsAt (K:PySem.W.Frag) (x:Str) (C:Addr):Prop where
 ya:PySem.W.nsIn K mainGlobals x=some (some (.ref C))
 yb:PySem.W.makesIn K C=true
 yc:PySem.W.findIn K (.ref C) "__init__"=some (some (.builtin "object.__init__"))
 yd:PySem.W.keepIn K (.ref C)=true
 ye:PySem.W.plainGet K C Str.empty=true
 yf:PySem.W.hasDictIn K C=true
 yg:PySem.W.plainOver K C=true
 yh:PySem.W.findIn K (.ref C) "__setattr__"=some (some (.builtin "object.__setattr__"))
 yi:PySem.W.findIn K (.ref C) "__class__"=some (some (.builtin "object.__class__"))
 yj:PySem.W.mroIn K C (.type "object")=some true
 yk:PySem.W.specialIn K (.builtin "object.__class__") "__get__"=some (some (.builtin "getset_descriptor.__get__"))
 yl:PySem.W.takesIn K (.builtin "object.__class__")=some true
noncomputable abbrev Xe (G:Gs) (s:Stmt) (N ps:List Str) (c:CS):Prop:=FnScope N ps (defScope s)∧(∀ y∈N,L2.Loc (defScope s) y)∧cSs G 60 (defScope s) N (defBody s)=some c
section
variable {Pm:Params}{K:PySem.W.Frag}{mg:Str→Option Value}{G:Gs}{T:Nat→Option FD}{h:Heap}{x y:Str}{i p:Nat}{s:Stmt}{N ps:List Str}{c:CS}{r:Gs}
theorem gD (X:K.In h) (G0:h.Ns mainGlobals mg) (F:FnAt K x s) (q:Xe G s N ps c) (hT:T i=some ⟨ps.length,N.length,c⟩) (hb:∀ kV dc pm an cd ct,Binds K (fnS x x s .none kV dc pm an cd ct) ps []) (t:Xm Pm K mg G T r):Xm Pm K mg G T ((x,.fn i p []) :: r):=by
 cases F with
 | mk a l e k=>exact ⟨⟨_,_,ps,N,⟨s,_,_,_,_,_,_,_,_,_,_,c,rfl,l,e,q.1,q.2.1,q.2.2,hT⟩,k,PySem.W.mg_of X G0 a,fun m hm=>⟨[],[],fun _ _=>by rw [List.drop_nil]; exact .nil,.nil,hb _ _ _ _ _ _⟩⟩,t⟩
theorem gE {v:Int} (X:K.In h) (G0:h.Ns mainGlobals mg) (F:FnAtE K x s v) (q:Xe G s N ps c) (hT:T i=some ⟨ps.length,N.length,c⟩) (hb:∀ E kV dc pm an cd ct eo et en,K.lookup E=some eo→eo.data=.seq #[.int v et] en→Binds K (fnS x x s (.ref E) kV dc pm an cd ct) ps []∧Binds K (fnS x x s (.ref E) kV dc pm an cd ct) ps [.int v et]) (t:Xm Pm K mg G T r):Xm Pm K mg G T ((x,.fn i p [.int v]) :: r):=by
 cases F with
 | mk a l e k d g=>
  refine ⟨⟨_,_,ps,N,⟨s,_,_,_,_,_,_,_,_,_,_,c,rfl,l,e,q.1,q.2.1,q.2.2,hT⟩,k,PySem.W.mg_of X G0 a,fun m hm=>?_⟩,t⟩
  match m,hm with
  | 0,_=>exact ⟨[.int v],[.int v _],fun _ _=>.cons (.int _) .nil,.cons ⟨_,rfl⟩ .nil,(hb _ _ _ _ _ _ _ _ _ _ d g).2⟩
  | 1,_=>exact ⟨[],[],fun _ _=>.nil,.nil,(hb _ _ _ _ _ _ _ _ _ _ d g).1⟩
theorem gM {C:Addr}{r:List (Str×Nat×Nat)} (F:MtAt K C x y s) (q:Xe G s N ps c) (hT:T i=some ⟨ps.length,N.length,c⟩) (hb:∀ kV dc pm an cd ct,Binds K (fnS x y s .none kV dc pm an cd ct) ps []) (t:XT K G T C r):XT K G T C ((x,i,p) :: r):=by
 cases F with
 | mk m l e k j=>exact ⟨⟨y,_,_,ps,N,⟨s,_,_,_,_,_,_,_,_,_,_,c,rfl,l,e,q.1,q.2.1,q.2.2,hT⟩,⟨m,j,k⟩,hb _ _ _ _ _ _⟩,t⟩
theorem gS {C B:Addr}{l:List Nat} (hC:ClsTab.ca i=C) (F:ClsAt K x C) (m:PySem.W.kitOne K (.ref C) (.ref B)=some true) (t:XV K B l):XV K B (i :: l):=by
 subst hC; exact ⟨⟨⟨F.ye,F.yf,F.yg,F.yh⟩,F.yi,F.yk,F.yl,F.yj,m⟩,t⟩
theorem gC {C:Addr}{subs:List Nat}{ms:List (Str×Nat×Nat)} (X:K.In h) (G0:h.Ns mainGlobals mg) (hC:ClsTab.ca i=C) (F:ClsAt K x C) (hs:XV K C subs) (hm:XT K G T C ms) (t:Xm Pm K mg G T r):Xm Pm K mg G T ((x,.cls i ms subs) :: r):=by
 subst hC; exact ⟨⟨⟨PySem.W.mg_of X G0 F.ya,⟨F.yb,F.yc,F.yd,⟨F.ye,F.yf,F.yg,F.yh⟩⟩,hs⟩,hm⟩,t⟩
theorem gB (X:K.In h) (G0:h.Ns mainGlobals mg) (z:PySem.W.nsIn K mainGlobals x=some none) (t:Xm Pm K mg G T r):Xm Pm K mg G T ((x,.blt) :: r):=⟨PySem.W.mg_none_of X G0 z,t⟩
theorem gI {v:Int}{k:Tok} (X:K.In h) (G0:h.Ns mainGlobals mg) (g:PySem.W.nsIn K mainGlobals x=some (some (.int v k))) (t:Xm Pm K mg G T r):Xm Pm K mg G T ((x,.cst (.int v)) :: r):=⟨⟨.int v,_,PySem.W.mg_of X G0 g,⟨_,rfl⟩,fun _ _=>.int _⟩,t⟩
theorem gL {fa:Addr}{z:Str} (X:K.In h) (G0:h.Ns mainGlobals mg) (hfa:mg x=some (.ref fa)) (F:FnAt K x s) (q:Xe G s N [z] c) (hT:T i=some ⟨1,N.length,c⟩) (hb:∀ kV dc pm an cd ct u,bindArgs (fnS x x s .none kV dc pm an cd ct) ⟨[u],[]⟩=pure [(z,u)]):∃ (fd:FuncData) (N:List Str),(∀ (s:Shared) (u:Value),BindsTo s fd ⟨[u],[]⟩ [(z,u)])∧DefOk K mg G T x i [] fa fd [z] N:=by
 cases F with
 | @mk f _ _ _ _ _ _ _ _ _ a l e k=>
  have e':=hfa.symm.trans (PySem.W.mg_of X G0 a)
  have e':fa=f:=by cases e'; rfl
  rw [e']
  exact ⟨_,N,fun _ u=>.of_eq (hb _ _ _ _ _ _ u),⟨s,_,_,_,_,_,_,_,_,_,_,c,rfl,l,e,q.1,q.2.1,q.2.2,hT⟩,k,PySem.W.mg_of X G0 a,fun m hm=>⟨[],[],fun _ _=>by rw [List.drop_nil]; exact .nil,.nil,.all fun us hl=>by obtain ⟨u,rfl⟩:=Zg6 hl; exact hb _ _ _ _ _ _ u⟩⟩
end
section
variable {K:PySem.W.Frag}{fd:FuncData}{ps:List Str}
theorem bd1 (hl:ps.length=1) (h:∀ a,bindArgs fd ⟨[a],[]⟩=pure (ps.zip [a])):Binds K fd ps []:=.all fun us e=>by obtain ⟨_,rfl⟩:=Zg6 (e.trans hl); exact h _
theorem bd2 (hl:ps.length=2) (h:∀ a b,bindArgs fd ⟨[a,b],[]⟩=pure (ps.zip [a,b])):Binds K fd ps []:=.all fun us e=>by obtain ⟨_,_,rfl⟩:=ZdE (e.trans hl); exact h _ _
theorem bd3 (hl:ps.length=3) (h:∀ a b c,bindArgs fd ⟨[a,b,c],[]⟩=pure (ps.zip [a,b,c])):Binds K fd ps []:=.all fun us e=>by obtain ⟨_,_,_,rfl⟩:=ZdF (e.trans hl); exact h _ _ _
theorem bd4 (hl:ps.length=4) (h:∀ a b c d,bindArgs fd ⟨[a,b,c,d],[]⟩=pure (ps.zip [a,b,c,d])):Binds K fd ps []:=.all fun us e=>by obtain ⟨_,_,_,_,rfl⟩:=ZiL (e.trans hl); exact h _ _ _ _
end
omit [ClsTab] in
theorem Zby {l:PySem.W.OpenLaw}{q:Program}{loose:List Str}{XP:(Str→Option Value)→Heap→Prop}{YP:World→Heap→Prop}{d:DefRec}{K:Params→PySem.W.Frag}{G:Gs}{T:Nat→Option FD}{n i:Nat}{x:Str}
  (hn:l.most=some 63) (hdf:d.params.defaults=[]) (hr:Room n callerA) (hY:∀ (w:World) (h:Heap),YP w h→(K w.params).In h) (hc:∀ [ClsTab] n,XU G (run T n))
  (F:∀ (w:World) (mg:Str→Option Value) (fa:Addr) (h:Heap),(K w.params).In h→h.Ns mainGlobals mg→mg d.name=some (.ref fa)→
   ∃ _:ClsTab,Text w.params (K w.params) mg G T∧∃ (fd:FuncData) (N:List Str),(∀ (s:Shared) (u:Value),BindsTo s fd ⟨[u],[]⟩ [(x,u)])∧DefOk (K w.params) mg G T d.name i [] fa fd [x] N)
  (L:∀ ns:List Int,ns.length≤63→Ze T n i [.lst false (ns.map .int)]=some (.bl true)) :
  PySem.W.WalkO q loose XP YP l.row.toRowW d [] (fun f vs=>PySem.call f vs):=
 L2.walk_of (n:=63) (k:=n) (x:=x) (CX:=fun _=>CX0) (sp:=fun w vs H Q E=>∀ c:ClsTab,@spD c (K w.params) (run T n i) vs H Q E) hn (by decide) hdf hr hY
  (fun w mg fa h KX G0 hmg=>by
   obtain ⟨c,X,fd,N,hb,Dk⟩:=F w mg fa h KX G0 hmg
   refine ⟨fd,hb,fun base _ _=>?_⟩
   have fo:=Zfc (P:=l.prog) (w:=w) (base:=base) (fun n=>hc n) X n Dk
   exact ⟨fun vs H Q E z=>fo.len vs H Q E (z c),fun A outer s H args us vs Q E a1 a2 a3 a4 z=>fo.run A outer s H args us vs Q E a1 a2 a3 a4 (z c)⟩)
  (fun w H a ns hl hO hS c=>Zgj hO hS (L ns hl)) fun _ _ _ _ _ z=>z
end Dp


namespace Dp
open PySem
theorem Wd:∀ {l m:List Char},l.map Char.toNat=m.map Char.toNat→l=m
 | [],[],_=>rfl
 | [],_ :: _,h=>by cases h
 | _ :: _,[],h=>by cases h
 | a :: l,b :: m,h=>by
  rw [List.map_cons,List.map_cons] at h
  injection h with h1 h2
  have:a=b:=by
   apply Char.ext
   apply UInt32.toNat_inj.mp
   exact h1
  rw [this,Wd h2]
@[simp] theorem ZjX {a b:String}:(Str.ofString a=Str.ofString b)=(a=b):=by
 apply propext
 constructor
 ·intro h
  rw [Str.ofString_eq_toList,Str.ofString_eq_toList] at h
  injection h with h
  have h2:=congrArg Array.toList h
  simp only [List.toList_toArray] at h2
  exact String.toList_inj.mp (Wd h2)
 ·intro h; rw [h]
section
variable {F:PFn}{π:Zv}{a b c lo hi it elt cnd:CE}{M:List Nat}
noncomputable def VP (c:Option P) (x y:Option P):Option P:=match c with
 | some (.bl true)=>x
 | some (.bl false)=>y
 | _=>none
@[simp] theorem ZgW {k:Bool}{x y:Option P}:VP (some (.bl k)) x y=if k=true then x else y:=by cases k<;>rfl
@[simp] theorem ZgR {α β:Type}{p:Prop} [Decidable p] {u v:Option α}{f:α→Option β}:(if p then u else v).bind f=if p then u.bind f else v.bind f:=by split<;>rfl
@[simp] theorem pe_var {i:Nat}:pe F (.var i) π=(π[i]?).join:=by
 show Wj i π=_
 unfold Wj
 cases π[i]? with
 | none=>rfl
 | some o=>cases o<;>rfl
@[simp] theorem Vt {d:D}:pe F (.cst d) π=ofD d:=Eq.trans rfl rfl
@[simp] theorem Wg {i:Int}:ofD (.int i)=some (.int i):=Eq.trans rfl rfl
@[simp] theorem Zik {i:Str}:ofD (.str i)=some (.str i):=Eq.trans rfl rfl
@[simp] theorem ZhH:Wh []=some []:=Eq.trans rfl rfl
theorem Xh {f:PEv}{g:P→Option P}:pq1 f g π=(f π).bind g:=by unfold pq1; cases f π<;>rfl
theorem Vu {f f':PEv}{g:P→P→Option P}:pq2 f f' g π=(f π).bind fun x=>(f' π).bind fun y=>g x y:=by unfold pq2; cases f π<;>cases f' π<;>rfl
theorem ZfI {f f' f'':PEv}{g:P→P→P→Option P}:pq3 f f' f'' g π=(f π).bind fun x=>(f' π).bind fun y=>(f'' π).bind fun z=>g x y z:=by unfold pq3; cases f π<;>cases f' π<;>cases f'' π<;>rfl
theorem Vs {f g h:PEv}:YG f g h π=VP (f π) (g π) (h π):=by
 unfold YG VP
 rfl
@[simp] theorem Ym {op:Operator}:pe F (.bin op a b) π=(pe F a π).bind fun x=>(pe F b π).bind fun y=>YL op x y:=Vu
@[simp] theorem Zjd {op:CmpOp}:pe F (.cmp op a b) π=(pe F a π).bind fun x=>(pe F b π).bind fun y=>Yu op x y:=Vu
@[simp] theorem Zjf:pe F (.neg a) π=(pe F a π).bind Zar:=Xh
@[simp] theorem pe_not:pe F (.not a) π=(pe F a π).bind Zau:=Xh
@[simp] theorem pe_and:pe F (.and a b) π=VP (pe F a π) (pe F b π) (some (.bl false)):=Vs
@[simp] theorem pe_or:pe F (.or a b) π=VP (pe F a π) (some (.bl true)) (pe F b π):=Vs
@[simp] theorem Uy:pe F (.ife c a b) π=VP (pe F c π) (pe F a π) (pe F b π):=Vs
@[simp] theorem Zio:pe F (.tupE a) π=pe F a π:=Eq.trans rfl rfl
@[simp] theorem Zim:pe F (.lstE a) π=(pe F a π).bind Q1:=Xh
@[simp] theorem Zil:pe F .anil π=some (.tup []):=Eq.trans rfl rfl
@[simp] theorem Xb:pe F (.acons a b) π=(pe F a π).bind fun x=>(pe F b π).bind fun y=>VQ x y:=Vu
@[simp] theorem pe_ix:pe F (.ix a b) π=(pe F a π).bind fun x=>(pe F b π).bind fun y=>ixP x y:=Vu
@[simp] theorem pe_slice:pe F (.slice a lo hi) π=(pe F a π).bind fun x=>(pe F lo π).bind fun y=>(pe F hi π).bind fun z=>XB x y z:=ZfI
@[simp] theorem Zjg:pe F .nop π=some .non:=Eq.trans rfl rfl
@[simp] theorem Zin:pe F (.part a) π=(pe F a π).bind V5:=Xh
@[simp] theorem pe_call {f:Nat}{ds:List D}:pe F (.call f a ds) π=(pe F a π).bind (W6 (F f) ds):=Xh
@[simp] theorem ZfG:pe F (.len a) π=(pe F a π).bind QX:=Xh
@[simp] theorem Q4:pe F (.tupleOf a) π=(pe F a π).bind X5:=Xh
@[simp] theorem Zgy:pe F (.listOf a) π=(pe F a π).bind Vh:=Xh
@[simp] theorem Zje {T:Ty}:pe F (.isi T a) π=(pe F a π).bind (U8 T):=Xh
theorem XL {rng:Bool}{fr:List Nat}:pe F (.comp rng fr it elt cnd) π=(pe F it π).bind fun x=>(YE rng x).bind fun xs=>if xs.length≤1000 then (YB (fun p=>pe F elt (Yd π fr p)) (fun p=>pe F cnd (Yd π fr p)) xs).bind (fun ys=>some (.lst true ys)) else none:=by
 show Y1 Zcc (YE rng) fr (pe F it) (pe F elt) (pe F cnd) π=_
 unfold Y1
 cases pe F it π with
 | none=>rfl
 | some x=>
  simp only [Option.bind_some]
  cases YE rng x with
  | none=>rfl
  | some xs=>
   simp only [Option.bind_some]
   split
   ·show (match YB (fun p=>pe F elt (Yd π fr p)) (fun p=>pe F cnd (Yd π fr p)) xs with
     | some ys=>some (P.lst true ys)
     | none=>none)=_
    cases YB (fun p=>pe F elt (Yd π fr p)) (fun p=>pe F cnd (Yd π fr p)) xs<;>rfl
   ·rfl
@[simp] theorem ZhJ {tab:List (Nat×Nat)}:pe F (.meth tab a b) π=(pe F a π).bind fun x=>(pe F b π).bind fun y=>We F tab x y:=Vu
variable {i j:Int}{xs ys:List P}{x y:P}{m:Bool}
@[simp] theorem XE:YL .Add (.int i) (.int j)=some (.int (i+j)):=Eq.trans rfl rfl
@[simp] theorem Zc4:YL .Sub (.int i) (.int j)=some (.int (i - j)):=Eq.trans rfl rfl
@[simp] theorem WM:YL .Mult (.int i) (.int j)=if ZW i||ZW j then some (.int (i * j)) else none:=by
 show (match (if ZW i||ZW j then some ((i * j)) else none:Option Int) with
  | some k=>some (P.int k)
  | none=>none)=_
 by_cases h:(ZW i||ZW j)=true
 ·rw [if_pos h,if_pos h]
 ·rw [if_neg h,if_neg h]
@[simp] theorem ZaN:YL .FloorDiv (.int i) (.int j)=if 0 < j∧j < 1073741824 then some (.int (i / j)) else if j < 0∧-1073741824 < j then some (.int (i.fdiv j)) else none:=by
 show (match (if 0 < j∧j < 1073741824 then some (i / j) else if j < 0∧-1073741824 < j then some (i.fdiv j) else none:Option Int) with
  | some k=>some (P.int k)
  | none=>none)=_
 by_cases h:0 < j∧j < 1073741824
 ·rw [if_pos h,if_pos h]
 ·rw [if_neg h,if_neg h]
  by_cases h':j < 0∧-1073741824 < j
  ·rw [if_pos h',if_pos h']
  ·rw [if_neg h',if_neg h']
@[simp] theorem Zc3:YL .Mod (.int i) (.int j)=if 0 < j then some (.int (i % j)) else if j < 0 then some (.int (i.fmod j)) else none:=by
 show (match (if 0 < j then some (i % j) else if j < 0 then some (i.fmod j) else none:Option Int) with
  | some k=>some (P.int k)
  | none=>none)=_
 by_cases h:0 < j
 ·rw [if_pos h,if_pos h]
 ·rw [if_neg h,if_neg h]
  by_cases h':j < 0
  ·rw [if_pos h',if_pos h']
  ·rw [if_neg h',if_neg h']
@[simp] theorem Jq:YL .LShift (.int i) (.int j)=if 0≤j∧j≤1000∧ZW i=true then some (.int (i * 2 ^ j.toNat)) else none:=by
 show (match (if 0≤j∧j≤1000∧ZW i=true then some ((i * 2 ^ j.toNat)) else none:Option Int) with
  | some k=>some (P.int k)
  | none=>none)=_
 by_cases h:0≤j∧j≤1000∧ZW i=true
 ·rw [if_pos h,if_pos h]
 ·rw [if_neg h,if_neg h]
@[simp] theorem Zic:YL .Add (.tup xs) (.tup ys)=if xs.length+ys.length≤Zo then some (.tup (xs++ys)) else none:=by
 show (if Vc .Add=true∧xs.length+ys.length≤Zo then some (P.tup (xs++ys)) else none)=_
 by_cases h:xs.length+ys.length≤Zo
 ·rw [if_pos ⟨rfl,h⟩,if_pos h]
 ·rw [if_neg (fun z=>h z.2),if_neg h]
@[simp] theorem Zid:YL .Mult (.tup [x]) (.int j)=if j≤1000∧-1000≤j then some (.tup (List.replicate j.toNat x)) else none:=by
 show (if Ve .Mult=true∧(j≤1000∧-1000≤j) then some (P.tup (List.replicate j.toNat x)) else none)=_
 by_cases h:j≤1000∧-1000≤j
 ·rw [if_pos ⟨rfl,h⟩,if_pos h]
 ·rw [if_neg (fun z=>h z.2),if_neg h]
@[simp] theorem ZgP {m':Bool}:YL .Add (.lst m xs) (.lst m' ys)=if xs.length+ys.length≤Zo then some (.lst true (xs++ys)) else none:=by
 show (if Vc .Add=true∧xs.length+ys.length≤Zo then some (P.lst true (xs++ys)) else none)=_
 by_cases h:xs.length+ys.length≤Zo
 ·rw [if_pos ⟨rfl,h⟩,if_pos h]
 ·rw [if_neg (fun z=>h z.2),if_neg h]
@[simp] theorem ZgQ:YL .Mult (.lst true [x]) (.int j)=if j≤1000∧-1000≤j then some (.lst true (List.replicate j.toNat x)) else none:=by
 show (if Ve .Mult=true∧(j≤1000∧-1000≤j) then some (P.lst true (List.replicate j.toNat x)) else none)=_
 by_cases h:j≤1000∧-1000≤j
 ·rw [if_pos ⟨rfl,h⟩,if_pos h]
 ·rw [if_neg (fun z=>h z.2),if_neg h]
theorem lim_iff:ZW i=true↔-(2 ^ 64) < i∧i < 2 ^ 64:=by unfold ZW; rw [Bool.and_eq_true,decide_eq_true_iff,decide_eq_true_iff]
theorem Ur (h:-(2 ^ 64) < i) (h':i < 2 ^ 64):ZW i=true:=lim_iff.mpr ⟨h,h'⟩
@[simp] theorem Zix:Yu .Lt (.int i) (.int j)=some (.bl (decide (i < j))):=Eq.trans rfl rfl
@[simp] theorem Ziw:Yu .LtE (.int i) (.int j)=some (.bl (decide (i≤j))):=Eq.trans rfl rfl
@[simp] theorem Ziv:Yu .Gt (.int i) (.int j)=some (.bl (decide (j < i))):=Eq.trans rfl rfl
@[simp] theorem Ziu:Yu .GtE (.int i) (.int j)=some (.bl (decide (j≤i))):=Eq.trans rfl rfl
@[simp] theorem Zdc:Yu .Eq (.int i) (.int j)=some (.bl (decide (i=j))):=Eq.trans rfl rfl
@[simp] theorem Zif:Yu .NotEq (.int i) (.int j)=some (.bl (!decide (i=j))):=Eq.trans rfl rfl
@[simp] theorem Zie {s t:Str}:Yu .Eq (.str s) (.str t)=some (.bl (decide (s=t))):=Eq.trans rfl rfl
@[simp] theorem Zig {s t:Str}:Yu .NotEq (.str s) (.str t)=some (.bl (!decide (s=t))):=Eq.trans rfl rfl
@[simp] theorem neg_int:Zar (.int i)=some (.int (-i)):=Eq.trans rfl rfl
@[simp] theorem Zjb:Zau (.bl m)=some (.bl (!m)):=Eq.trans rfl rfl
@[simp] theorem Zij:Q1 (.tup xs)=some (.lst true xs):=Eq.trans rfl rfl
@[simp] theorem ZgX:VQ x (.tup xs)=if xs.length < 1000 then some (.tup (x :: xs)) else none:=Eq.trans rfl rfl
@[simp] theorem ZhI:V5 (.int i)=some (.int i):=Eq.trans rfl rfl
@[simp] theorem Zii:QX (.tup xs)=some (.int xs.length):=Eq.trans rfl rfl
@[simp] theorem Zih:QX (.lst m xs)=some (.int xs.length):=Eq.trans rfl rfl
@[simp] theorem ZgA:X5 (.lst m xs)=some (.tup xs):=Eq.trans rfl rfl
@[simp] theorem Zg8:Vh (.tup xs)=some (.lst true xs):=Eq.trans rfl rfl
@[simp] theorem int_int:Ziz (.int i)=some (.int i):=Eq.trans rfl rfl
@[simp] theorem ix_tup:ixP (.tup xs) (.int i)=atP xs i:=Eq.trans rfl rfl
@[simp] theorem ZiK:ixP (.lst m xs) (.int i)=atP xs i:=Eq.trans rfl rfl
@[simp] theorem ZiG:U8 .tuple (.tup xs)=some (.bl true):=Eq.trans rfl rfl
@[simp] theorem ZiF {s:Str}:U8 .str (.str s)=some (.bl true):=Eq.trans rfl rfl
@[simp] theorem ZiE:U8 .str (.int i)=some (.bl false):=Eq.trans rfl rfl
@[simp] theorem ZgT {g:List P→Option P}{ds:List D}:W6 g ds (.tup xs)=(Wh ds).bind fun es=>g (xs++es):=by
 show (match Wh ds with | some es=>g (xs++es) | none=>none)=_
 cases Wh ds<;>rfl
@[simp] theorem ZhU:XB x (.int i) .non=Yj x (some i) none:=Eq.trans rfl rfl
@[simp] theorem ZhV:XB x .non (.int j)=Yj x none (some j):=Eq.trans rfl rfl
theorem Yw {n:Nat} (h:i=(n:Int)):atP xs i=xs[n]?:=by
 subst h
 unfold atP ixN
 rw [if_pos (by omega)]
 by_cases hn:(n:Int) < xs.length
 ·rw [if_pos hn]; rfl
 ·rw [if_neg hn]
  rw [List.getElem?_eq_none (by omega)]
  rfl
@[simp] theorem Zib {n:Nat}:atP xs ((n:Nat):Int)=xs[n]?:=Yw rfl
@[simp] theorem Zj0:atP xs 2=xs[2]?:=Yw rfl
@[simp] theorem Zj1:atP xs 3=xs[3]?:=Yw rfl
@[simp] theorem Zj2:atP xs 4=xs[4]?:=Yw rfl
@[simp] theorem ZjY:atP xs 0=xs[0]?:=Yw rfl
@[simp] theorem ZjZ:atP xs 1=xs[1]?:=Yw rfl
@[simp] theorem ZjU:atP xs (-1)=xs.getLast?:=by
 unfold atP ixN
 rw [if_neg (by omega)]
 cases xs with
 | nil=>rfl
 | cons x xs=>
  rw [if_pos (by simp only [List.length_cons]; omega),List.getLast?_eq_getElem?]
  show (x :: xs)[(-1+(((x :: xs).length:Nat):Int)).toNat]?=_
  have:(-1+(((x :: xs).length:Nat):Int)).toNat=(x :: xs).length - 1:=by omega
  rw [this]
variable {s t:CS}
noncomputable def Wm (x:Option PFl) (g:Zv→Option PFl):Option PFl:=match x with
 | some (.nx π')=>g π'
 | r=>r
@[simp] theorem Zh {g:PEx}:Wm (some (.nx π)) g=g π:=Eq.trans rfl rfl
@[simp] theorem Ziq {g:PEx}:Wm (some (.rt x)) g=some (.rt x):=Eq.trans rfl rfl
@[simp] theorem Zgz {g:PEx}:Wm none g=none:=Eq.trans rfl rfl
@[simp] theorem ZhY {p:Prop} [Decidable p] {u v:Option PFl}{g:PEx}:Wm (if p then u else v) g=if p then Wm u g else Wm v g:=by split<;>rfl
noncomputable def ZcA (c:Option P) (x y:Option PFl):Option PFl:=match c with
 | some (.bl true)=>x
 | some (.bl false)=>y
 | _=>none
@[simp] theorem YW {k:Bool}{x y:Option PFl}:ZcA (some (.bl k)) x y=if k=true then x else y:=by cases k<;>rfl
@[simp] theorem Zy:px F M .skip π=some (.nx π):=Eq.trans rfl rfl
@[simp] theorem Zk:px F M (.seq s t) π=Wm (px F M s π) (px F M t):=by
 show Zcf _ _ π=_
 unfold Zcf Wm
 rfl
@[simp] theorem Zck:px F M (.ret a) π=(pe F a π).bind fun d=>some (.rt d):=by
 show Zce _ π=_
 unfold Zce
 cases pe F a π<;>rfl
@[simp] theorem XA:px F M (.ite c s t) π=ZcA (pe F c π) (px F M s π) (px F M t π):=by
 show Zca _ _ _ π=_
 unfold Zca ZcA
 rfl
@[simp] theorem Zg {o:Option P}:Zq (o :: π) 0 x=some x :: π:=Eq.trans rfl rfl
@[simp] theorem Zf {o:Option P}{k:Nat}:Zq (o :: π) (k+1) x=o :: Zq π k x:=Eq.trans rfl rfl
theorem ZcX {a b:Bool} (ha:a=true) (hb:b=true):(a&&b)=true:=by rw [ha,hb]; rfl
theorem ZcW {l:List Nat}:(l.all fun i=>!([]:List Nat).contains i)=true:=by
 induction l with
 | nil=>rfl
 | cons a l ih=>exact ih
theorem ZdO:∀ e:CE,noM [] e=true:=by
 intro e
 induction e<;>first | rfl | assumption | (show (_&&_)=true; exact ZcX (by assumption) (by assumption)) | (show (_&&(_&&_))=true; exact ZcX (by assumption) (ZcX (by assumption) (by assumption))) | (show (_&&_)=true; exact ZcX (by assumption) ZcW)
theorem Zbs {e:CE}:Zu [] e x=true:=by unfold Zu; rw [ZdO]; rfl
@[simp] theorem Zd0 {k:Nat}:px F [] (.set k a) π=(pe F a π).bind fun p=>some (.nx (Zq π k p)):=by
 show Q6 _ _ _ _ π=_
 unfold Q6
 cases pe F a π with
 | none=>rfl
 | some p=>simp [Zbs]
theorem Uz {k:Nat}:px F M (.set k a) π=(pe F a π).bind fun p=>if (if M.contains k then WP M a p else Zu M a p) then some (.nx (Zq π k p)) else mvP M k a p π:=by
 show Q6 _ _ _ _ π=_
 unfold Q6
 cases pe F a π<;>rfl
theorem ZdZ {k l q:Nat}{z:P} (h:pe F a π=some (.tup [x,y,z])) (hw:(!M.contains k&&!M.contains l&&!M.contains q&&Zu M a (.tup [x,y,z]))=true):px F M (.set3 k l q a) π=some (.nx (Zq (Zq (Zq π k x) l y) q z)):=by
 show Qj _ _ _ _ _ _ π=_
 unfold Qj
 rw [h]
 show (if (!M.contains k&&!M.contains l&&!M.contains q&&Zu M a (.tup [x,y,z]))=true then some (PFl.nx (Zq (Zq (Zq π k x) l y) q z)) else none)=_
 rw [if_pos hw]
theorem ZfL {p:P} (h:pe F a π=some p) (hw:Zu M a p=true):px F M (.act a) π=some (.nx π):=by
 show Zb4 _ _ _ π=_
 unfold Zb4
 rw [h]
 show (if Zu M a p=true then some (PFl.nx π) else none)=_
 rw [if_pos hw]
theorem Zx {k:Nat}{p:P} (h:pe F a π=some p) (hm:M.contains k=false) (hk:Zu M a p=true):px F M (.set k a) π=some (.nx (Zq π k p)):=by
 rw [Uz,h,Option.bind_some,hm,if_neg Bool.false_ne_true,if_pos hk]
theorem YV {k:Nat}{p:P} (h:pe F a π=some p) (hm:M.contains k=true) (hk:WP M a p=true):px F M (.set k a) π=some (.nx (Zq π k p)):=by
 rw [Uz,h,Option.bind_some,hm,if_pos rfl,if_pos hk]
theorem Q9 {k:Nat} (h:π[k]?=some (some (.lst true xs))):px F M (.app k a) π=(pe F a π).bind fun p=>if M.contains k&&Zu M a p&&decide (xs.length < Zo) then some (.nx (Zq π k (.lst true (xs++[p])))) else none:=by
 show Zb7 _ _ _ _ π=_
 unfold Zb7
 rw [h]
 cases pe F a π<;>rfl
theorem ZfM {k:Nat} (h:π[k]?=some (some (.lst true xs))) (he:pe F a π=some (.lst true ys)) (hw:(M.contains k&&noM M a)=true) (hz:xs.length+ys.length≤Zo):px F M (.ext k a) π=some (.nx (Zq π k (.lst true (xs++ys)))):=by
 show Zb9 _ _ _ _ π=_
 unfold Zb9
 simp only [h,he]
 rw [if_pos (by rw [Bool.and_eq_true]; exact ⟨hw,decide_eq_true hz⟩)]
theorem Zcj {k:Nat} (h:π[k]?=some (some (.lst true xs))) {q:Nat}{j:Int} (hk:pe F b π=some (.int j)) (hq:ixN xs.length j=some q):px F M (.put k b a) π=(pe F a π).bind fun p=>if M.contains k&&Zu M a p then some (.nx (Zq π k (.lst true (xs.set q p)))) else none:=by
 show Zcd _ _ _ _ _ π=_
 unfold Zcd
 cases pe F a π with
 | none=>rfl
 | some p=>
  simp only [h,hk,hq]
  rfl
theorem ZdX {k:Nat} (h:pe F it π=some (.lst m xs)) (hw:!M.contains k&&Vz M (Z1 s) it xs=true):px F M (.for1 k false it s) π=ZR (fun d π=>px F M s (Zq π k d)) xs π:=by
 show Q5 _ _ _ _ _ _ _ π=_
 unfold Q5
 rw [h]
 show (if !M.contains k&&Vz M (Z1 s) it xs then ZR (fun d π=>px F M s (Zq π k d)) xs π else none)=_
 rw [if_pos (by simpa using hw)]
theorem JK {k:Nat}{n:Int} (h:pe F it π=some (.int n)) (h1:n < 2 ^ 62) (h2:-(2 ^ 62)≤n) (hw:M.contains k=false):px F M (.for1 k true it s) π=ZR (fun d π=>px F M s (Zq π k d)) (ZJ n) π:=by
 show Q5 _ _ _ _ _ _ _ π=_
 unfold Q5
 rw [h]
 have e:Vg true (.int n)=some (ZJ n):=by
  show (if n < 2 ^ 62∧-(2 ^ 62)≤n then some (ZJ n) else none)=_
  rw [if_pos ⟨h1,h2⟩]
 simp only [e]
 rw [if_pos (by simpa using hw)]
theorem ZdY {k l:Nat}{m':Bool} (h:pe F it π=some (.tup [.lst m xs,.lst m' ys])) (hw:(!M.contains k&&!M.contains l&&noM M it)=true):px F M (.forP k l it s) π=YM (fun x y π=>px F M s (Zq (Zq π k x) l y)) (xs.zip ys) π:=by
 show Qi _ _ _ _ _ _ π=_
 unfold Qi
 rw [h]
 show (if (!M.contains k&&!M.contains l&&noM M it)=true then _ else _)=_
 rw [if_pos hw]
theorem ZdW {k l:Nat}{x:P} (h:pe F it π=some x) (hx:ZcH x=some xs) (hw:(!M.contains k&&!M.contains l&&noM M it)=true):px F M (.forE k l it s) π=YM (fun x y π=>px F M s (Zq (Zq π k x) l y)) (Wt 0 xs) π:=by
 show Qh _ _ _ _ _ _ π=_
 unfold Qh
 rw [h]
 dsimp only
 rw [hx]
 show (if (!M.contains k&&!M.contains l&&noM M it)=true then _ else _)=_
 rw [if_pos hw]
theorem ZdV {k l m':Nat} (h:pe F it π=some (.tup xs)) (hw:!M.contains k&&!M.contains l&&!M.contains m'&&Zu M it (.tup xs)=true):px F M (.for4 k l m' it s) π=ZR (Q7 k l m' (px F M s)) xs π:=by
 show Qg _ _ _ _ _ _ _ π=_
 unfold Qg
 rw [h]
 show (if !M.contains k&&!M.contains l&&!M.contains m'&&Zu M it (.tup xs) then ZR (Q7 k l m' (px F M s)) xs π else none)=_
 rw [if_pos (by simpa using hw)]
noncomputable def Ua (x:Option PFl) (g:Zv→Option PFl):Option PFl:=match x with
 | some (.nx π')=>g π'
 | some (.ct π')=>g π'
 | some (.bk π')=>some (.nx π')
 | some (.rt v)=>some (.rt v)
 | none=>none
@[simp] theorem Yq {g:PEx}:Ua (some (.nx π)) g=g π:=Eq.trans rfl rfl
@[simp] theorem Zir {g:PEx}:Ua (some (.rt x)) g=some (.rt x):=Eq.trans rfl rfl
theorem Wc {B:P→Zv→Option PFl}:ZR B [] π=some (.nx π):=Eq.trans rfl rfl
theorem Z6 {B:P→Zv→Option PFl}:ZR B (x :: xs) π=Ua (B x π) (ZR B xs):=by
 show (match B x π with
  | some (.nx π')=>ZR B xs π'
  | some (.ct π')=>ZR B xs π'
  | some (.bk π')=>some (.nx π')
  | some (.rt v)=>some (.rt v)
  | none=>none)=_
 unfold Ua
 rfl
theorem mem_range {n:Int}{p:P} (h:p∈ZJ n):∃ k:Nat,p=.int (k:Int)∧(k:Int) < n:=by
 obtain ⟨k,hk,rfl⟩:=List.mem_map.mp h
 exact ⟨k,rfl,by have:=List.mem_range.mp hk; omega⟩
noncomputable def Yx (x:Option PFl):Option P:=match x with
 | some (.rt d)=>some d
 | some (.nx _)=>some .non
 | _=>none
@[simp] theorem ZjP:Yx (some (.rt x))=some x:=Eq.trans rfl rfl
@[simp] theorem ZhO:Yx none=none:=Eq.trans rfl rfl
@[simp] theorem Zip {p:Prop} [Decidable p] {u v:Option PFl}:Yx (if p then u else v)=if p then Yx u else Yx v:=by split<;>rfl
theorem Zfj {f:FD}{ds:List P} (hl:ds.length=f.ps) (hM:(ZC f.body).all (fun i=>decide (f.ps≤i))=true):fnP F f ds=Yx (px F (ZC f.body) f.body (ds.map some++List.replicate (f.ns - ds.length) none)):=by
 unfold fnP
 rw [if_pos ⟨hl,hM⟩]
 rfl
theorem Zm {T:Nat→Option FD}{n k:Nat}{f:FD}{ds:List P} (h:T k=some f) (hl:ds.length=f.ps) (hM:(ZC f.body).all (fun i=>decide (f.ps≤i))=true) (hN:(Vf k&&!Vm f)=false:=by rfl) :
  Ze T (n+1) k ds=Yx (px (Ze T n) (ZC f.body) f.body (ds.map some++List.replicate (f.ns - ds.length) none)):=by
 have:Ze T (n+1) k=fnP (Ze T n) f:=by rw [V6 h,if_neg (by rw [hN]; exact Bool.false_ne_true)]
 rw [this]
 exact Zfj hl hM
theorem Zgx {xs:List P}:YE false (.tup xs)=some xs:=rfl
theorem Zam {n:Int} (h1:n < 2 ^ 62) (h2:-(2 ^ 62)≤n):YE true (.int n)=some (ZJ n):=by
 have e:Vg true (.int n)=some (ZJ n):=by
  show (if n < 2 ^ 62∧-(2 ^ 62)≤n then some (ZJ n) else none)=_
  rw [if_pos ⟨h1,h2⟩]
 unfold YE
 rw [e]
theorem QW {n:Nat} (h:n≤100000):YE true (.int (n:Int))=some (ZJ (n:Int)):=
 Zam (Int.lt_of_le_of_lt (Int.ofNat_le.mpr h) (by decide)) (Int.le_trans (by decide) (Int.natCast_nonneg n))
theorem Wk {n:Int}:(ZJ n).length=n.toNat:=by simp [ZJ]
theorem V2 {B:P→Zv→Option PFl}{I:Nat→Zv→Prop}:∀ (j k:Nat),(∀ i,k≤i→i < k+j→∀ π,I i π→∃ π',B (.int (i:Int)) π=some (.nx π')∧I (i+1) π')→∀ π,I k π→∃ π',ZR B ((List.range' k j).map fun (i:Nat)=>P.int (i:Int)) π=some (.nx π')∧I (k+j) π'
 | 0,k,_,π,h=>⟨π,rfl,h⟩
 | j+1,k,hb,π,h=>by
  obtain ⟨π1,e1,i1⟩:=hb k (Nat.le_refl _) (by omega) π h
  obtain ⟨π2,e2,i2⟩:=V2 j (k+1) (fun i h1 h2=>hb i (by omega) (by omega)) π1 i1
  refine ⟨π2,?_,by rw [show k+(j+1)=k+1+j by omega]; exact i2⟩
  rw [List.range'_succ,List.map_cons,Z6,e1]
  exact e2
theorem YN {B:P→Zv→Option PFl} (I:Nat→Zv→Prop) {m:Nat} (hb:∀ i,i < m→∀ π,I i π→∃ π',B (.int (i:Int)) π=some (.nx π')∧I (i+1) π') {π:Zv} (h:I 0 π):∃ π',ZR B (ZJ (m:Int)) π=some (.nx π')∧I m π':=by
 have:=V2 (B:=B) (I:=I) m 0 (fun i _ h2=>hb i (by omega)) π h
 rw [Nat.zero_add] at this
 have e:ZJ (m:Int)=(List.range' 0 m).map fun (i:Nat)=>P.int (i:Int):=by
  unfold ZJ
  rw [show ((m:Int)).toNat=m by omega,List.range_eq_range']
 rw [e]; exact this
theorem XM {k:Nat}{n:Nat} (h:pe F it π=some (.int (n:Int))) (h1:n≤100000) (hw:M.contains k=false):px F M (.for1 k true it s) π=ZR (fun d π=>px F M s (Zq π k d)) (ZJ (n:Int)) π:=
 JK h (Int.lt_of_le_of_lt (Int.ofNat_le.mpr h1) (by decide)) (Int.le_trans (by decide) (Int.natCast_nonneg n)) hw
mutual
theorem J0:∀ {n:Nat}{x:P},okP n x=true→X6 x x=true
 | _,.non,_=>rfl
 | _,.bl a,_=>by simp [X6]
 | _,.int a,_=>by simp [X6]
 | _,.str a,_=>by simp [X6]
 | 0,.tup a,h=>by simp [okP] at h
 | n+1,.tup a,h=>W2 (n:=n) (x:=a) h
 | _,.lst a b,h=>by simp [okP] at h
 | _,.dct a b,h=>by simp [okP] at h
 | _,.obj a,h=>by simp [okP] at h
 | _,.kt a,h=>by simp [okP] at h
theorem W2:∀ {n:Nat}{x:List P},VH n x=true→Xj x x=true
 | _,[],_=>rfl
 | n,a :: x,h=>by
  have h:(okP n a&&VH n x)=true:=h
  rw [Bool.and_eq_true] at h
  show (X6 a a&&Xj x x)=true
  rw [J0 h.1,W2 h.2]
  rfl
end
end
end Dp


namespace Dp
open PySem
noncomputable def c_around:FD:=⟨1,1,(.seq (.ret (.bin .Sub (.bin .Mod (.bin .Add (.var 0) (.cst (.int (1000000000)))) (.cst (.int (2000000000)))) (.cst (.int (1000000000)))))
 .skip)⟩
noncomputable def c__law_whole:FD:=⟨1,1,(.seq (.ret (.and (.isi .int (.var 0)) (.not (.isi .bool (.var 0)))))
 .skip)⟩
noncomputable def c_divided:FD:=⟨2,2,(.seq (.ite (.cmp .Eq (.var 1) (.cst (.int (0)))) (.seq (.ret (.cst (.int (0))))
 .skip) .skip)
 (.seq (.ret (.call 0 (.acons (.bin .FloorDiv (.var 0) (.var 1)) .anil) []))
 .skip))⟩
noncomputable def c_left_over:FD:=⟨2,2,(.seq (.ite (.cmp .Eq (.var 1) (.cst (.int (0)))) (.seq (.ret (.var 0))
 .skip) .skip)
 (.seq (.ret (.bin .Sub (.var 0) (.bin .Mult (.var 1) (.bin .FloorDiv (.var 0) (.var 1)))))
 .skip))⟩
noncomputable def c_reckon:FD:=⟨3,3,(.seq (.ite (.cmp .Eq (.var 1) (.cst (.str (S "+")))) (.seq (.ret (.call 0 (.acons (.bin .Add (.var 0) (.var 2)) .anil) []))
 .skip) .skip)
 (.seq (.ite (.cmp .Eq (.var 1) (.cst (.str (S "-")))) (.seq (.ret (.call 0 (.acons (.bin .Sub (.var 0) (.var 2)) .anil) []))
 .skip) .skip)
 (.seq (.ite (.cmp .Eq (.var 1) (.cst (.str (S "*")))) (.seq (.ret (.call 0 (.acons (.bin .Mult (.var 0) (.var 2)) .anil) []))
 .skip) .skip)
 (.seq (.ite (.cmp .Eq (.var 1) (.cst (.str (S "/")))) (.seq (.ret (.call 1 (.acons (.var 0) (.acons (.var 2) .anil)) []))
 .skip) .skip)
 (.seq (.ret (.call 2 (.acons (.var 0) (.acons (.var 2) .anil)) []))
 .skip)))))⟩
noncomputable def ZaB:FD:=⟨1,2,(.seq (.set 1 (.lstE (.acons (.neg (.cst (.int (1000000000)))) (.acons (.neg (.cst (.int (999999999)))) (.acons (.neg (.cst (.int (2)))) (.acons (.neg (.cst (.int (1)))) (.acons (.cst (.int (0))) (.acons (.cst (.int (1))) (.acons (.cst (.int (2))) (.acons (.cst (.int (999999999))) .anil))))))))))
 (.seq (.ite (.cmp .Eq (.bin .Mod (.var 0) (.cst (.int (3)))) (.cst (.int (0)))) (.seq (.ret (.ix (.var 1) (.bin .Mod (.bin .FloorDiv (.var 0) (.cst (.int (3)))) (.cst (.int (8))))))
 .skip) .skip)
 (.seq (.ite (.cmp .Eq (.bin .Mod (.var 0) (.cst (.int (3)))) (.cst (.int (1)))) (.seq (.ret (.bin .Sub (.bin .Mod (.bin .FloorDiv (.var 0) (.cst (.int (3)))) (.cst (.int (13)))) (.cst (.int (6)))))
 .skip) .skip)
 (.seq (.ret (.bin .Sub (.bin .Mod (.bin .Mult (.bin .FloorDiv (.var 0) (.cst (.int (3)))) (.cst (.int (48271)))) (.cst (.int (2000000000)))) (.cst (.int (1000000000)))))
 .skip))))⟩
noncomputable def Zc9:FD:=⟨1,1,(.seq (.ret (.and (.call 17 (.acons (.var 0) .anil) []) (.and (.cmp .LtE (.neg (.cst (.int (1000000000)))) (.var 0)) (.cmp .LtE (.var 0) (.cst (.int (999999999)))))))
 .skip)⟩
noncomputable def ZaQ:FD:=⟨2,2,(.seq (.ite (.cmp .Gt (.var 1) (.cst (.int (0)))) (.seq (.ret (.and (.cmp .LtE (.cst (.int (0))) (.var 0)) (.cmp .Lt (.var 0) (.var 1))))
 .skip) .skip)
 (.seq (.ret (.and (.cmp .Lt (.var 1) (.var 0)) (.cmp .LtE (.var 0) (.cst (.int (0))))))
 .skip))⟩
noncomputable def c_replaced:FD:=⟨3,3,(.seq (.ret (.bin .Add (.bin .Add (.slice (.var 0) .nop (.part (.var 1))) (.tupE (.acons (.var 2) .anil))) (.slice (.var 0) (.part (.bin .Add (.var 1) (.cst (.int (1))))) .nop)))
 .skip)⟩
noncomputable def c_is_so:FD:=⟨3,3,(.seq (.ite (.cmp .Eq (.var 1) (.cst (.str (S "<")))) (.seq (.ret (.cmp .Lt (.var 0) (.var 2)))
 .skip) .skip)
 (.seq (.ite (.cmp .Eq (.var 1) (.cst (.str (S "<=")))) (.seq (.ret (.cmp .LtE (.var 0) (.var 2)))
 .skip) .skip)
 (.seq (.ite (.cmp .Eq (.var 1) (.cst (.str (S "=")))) (.seq (.ret (.cmp .Eq (.var 0) (.var 2)))
 .skip) .skip)
 (.seq (.ite (.cmp .Eq (.var 1) (.cst (.str (S ">=")))) (.seq (.ret (.cmp .GtE (.var 0) (.var 2)))
 .skip) .skip)
 (.seq (.ite (.cmp .Eq (.var 1) (.cst (.str (S ">")))) (.seq (.ret (.cmp .Gt (.var 0) (.var 2)))
 .skip) .skip)
 (.seq (.ret (.cmp .NotEq (.var 0) (.var 2)))
 .skip))))))⟩
noncomputable def c_worth:FD:=⟨2,2,(.seq (.ite (.cmp .Eq (.ix (.var 0) (.cst (.int (0)))) (.cst (.str (S "name")))) (.seq (.ret (.ix (.var 1) (.ix (.var 0) (.cst (.int (1))))))
 .skip) .skip)
 (.seq (.ret (.ix (.var 0) (.cst (.int (1)))))
 .skip))⟩
noncomputable def c_at_end:FD:=⟨2,2,(.seq (.ret (.cmp .GtE (.ix (.var 1) (.cst (.int (0)))) (.len (.ix (.var 0) (.cst (.int (2)))))))
 .skip)⟩
noncomputable def c_values_behind:FD:=⟨2,3,(.seq (.ite (.cmp .NotEq (.ix (.var 0) (.cst (.int (0)))) (.cst (.str (S "put")))) (.seq (.ret (.var 1))
 .skip) .skip)
 (.seq (.set 2 (.call 3 (.acons (.call 5 (.acons (.ix (.var 0) (.cst (.int (2)))) (.acons (.var 1) .anil)) []) (.acons (.ix (.var 0) (.cst (.int (3)))) (.acons (.call 5 (.acons (.ix (.var 0) (.cst (.int (4)))) (.acons (.var 1) .anil)) []) .anil))) []))
 (.seq (.ret (.call 42 (.acons (.var 1) (.acons (.ix (.var 0) (.cst (.int (1)))) (.acons (.var 2) .anil))) []))
 .skip)))⟩
noncomputable def c_place_behind:FD:=⟨3,3,(.seq (.ite (.cmp .Eq (.ix (.var 0) (.cst (.int (0)))) (.cst (.str (S "go")))) (.seq (.ret (.ix (.var 0) (.cst (.int (1)))))
 .skip) .skip)
 (.seq (.ite (.and (.cmp .Eq (.ix (.var 0) (.cst (.int (0)))) (.cst (.str (S "if")))) (.call 4 (.acons (.call 5 (.acons (.ix (.var 0) (.cst (.int (1)))) (.acons (.var 2) .anil)) []) (.acons (.ix (.var 0) (.cst (.int (2)))) (.acons (.call 5 (.acons (.ix (.var 0) (.cst (.int (3)))) (.acons (.var 2) .anil)) []) .anil))) [])) (.seq (.ret (.ix (.var 0) (.cst (.int (4)))))
 .skip) .skip)
 (.seq (.ret (.bin .Add (.var 1) (.cst (.int (1)))))
 .skip)))⟩
noncomputable def c_moved:FD:=⟨2,5,(.seq (.ite (.call 7 (.acons (.var 0) (.acons (.var 1) .anil)) []) (.seq (.ret (.tupE (.acons (.cst (.str (S "none"))) .anil)))
 .skip) .skip)
 (.seq (.set 2 (.ix (.var 1) (.cst (.int (0)))))
 (.seq (.set 3 (.ix (.var 1) (.cst (.int (1)))))
 (.seq (.set 4 (.ix (.ix (.var 0) (.cst (.int (2)))) (.var 2)))
 (.seq (.ite (.cmp .Eq (.ix (.var 4) (.cst (.int (0)))) (.cst (.str (S "tell")))) (.seq (.ret (.tupE (.acons (.cst (.str (S "told"))) (.acons (.call 5 (.acons (.ix (.var 4) (.cst (.int (1)))) (.acons (.var 3) .anil)) []) .anil))))
 .skip) .skip)
 (.seq (.ret (.tupE (.acons (.call 9 (.acons (.var 4) (.acons (.var 2) (.acons (.var 3) .anil))) []) (.acons (.call 8 (.acons (.var 4) (.acons (.var 3) .anil)) []) .anil))))
 .skip))))))⟩
noncomputable def c__law_worth:FD:=⟨2,2,(.seq (.ite (.cmp .Eq (.ix (.var 0) (.cst (.int (0)))) (.cst (.str (S "name")))) (.seq (.ret (.ix (.var 1) (.ix (.var 0) (.cst (.int (1))))))
 .skip) .skip)
 (.seq (.ret (.ix (.var 0) (.cst (.int (1)))))
 .skip))⟩
noncomputable def QH:CS:=(.seq (.set 1 (.bin .Mult (.var 1) (.cst (.int (2)))))
 .skip)
noncomputable def ZaR:FD:=⟨1,3,(.seq (.set 1 (.cst (.int (1))))
 (.seq (.for1 2 true (.var 0) QH)
 (.seq (.ret (.var 1))
 .skip)))⟩
noncomputable def c_began:FD:=⟨2,2,(.seq (.ret (.tupE (.acons (.cst (.int (0))) (.acons (.bin .Add (.var 1) (.bin .Mult (.tupE (.acons (.cst (.int (0))) .anil)) (.bin .Sub (.ix (.var 0) (.cst (.int (1)))) (.len (.var 1))))) .anil))))
 .skip)⟩
noncomputable def c_is_outcome:FD:=⟨1,1,(.seq (.ret (.isi .str (.ix (.var 0) (.cst (.int (0))))))
 .skip)⟩
noncomputable def YK:CS:=(.seq (.set 6 (.call 10 (.acons (.var 0) (.acons (.var 3) .anil)) []))
 (.seq (.app 4 (.var 6))
 (.seq (.ite (.call 11 (.acons (.var 6) .anil) []) (.seq (.ret (.tupleOf (.var 4)))
 .skip) .skip)
 (.seq (.set 3 (.var 6))
 .skip))))
noncomputable def c_trail:FD:=⟨3,7,(.seq (.set 3 (.call 6 (.acons (.var 0) (.acons (.var 1) .anil)) []))
 (.seq (.set 4 (.lstE (.acons (.var 3) .anil)))
 (.seq (.for1 5 true (.var 2) YK)
 (.seq (.app 4 (.ife (.call 7 (.acons (.var 0) (.acons (.var 3) .anil)) []) (.tupE (.acons (.cst (.str (S "none"))) .anil)) (.tupE (.acons (.cst (.str (S "late"))) .anil))))
 (.seq (.ret (.tupleOf (.var 4)))
 .skip)))))⟩
noncomputable def c_outcome:FD:=⟨3,3,(.seq (.ret (.ix (.call 12 (.acons (.var 0) (.acons (.var 1) (.acons (.var 2) .anil))) []) (.neg (.cst (.int (1))))))
 .skip)⟩
noncomputable def WJ:CE:=(.comp false [] (.var 1) (.ix (.var 0) (.cst (.int (0)))) (.cst (.bl true)))
noncomputable def VE:FD:=⟨1,2,(.seq (.set 1 (.slice (.var 0) .nop (.part (.neg (.cst (.int (1)))))))
 (.seq (.ite (.cmp .NotEq (.ix (.ix (.var 0) (.neg (.cst (.int (1))))) (.cst (.int (0)))) (.cst (.str (S "told")))) (.seq (.set 1 (.slice (.var 1) .nop (.part (.neg (.cst (.int (1)))))))
 .skip) .skip)
 (.seq (.ret WJ)
 .skip)))⟩
noncomputable def UM:CS:=(.seq (.set 1 (.bin .BitOr (.var 1) (.call 43 (.acons (.var 2) .anil) [])))
 .skip)
noncomputable def J3:FD:=⟨1,3,(.seq (.set 1 (.cst (.int (0))))
 (.seq (.for1 2 false (.call 14 (.acons (.var 0) .anil) []) UM)
 (.seq (.ret (.var 1))
 .skip)))⟩
noncomputable def Ze6:FD:=⟨3,3,(.seq (.ret (.call 44 (.acons (.call 12 (.acons (.var 0) (.acons (.var 1) (.acons (.var 2) .anil))) []) .anil) []))
 .skip)⟩
noncomputable def VD:FD:=⟨2,2,(.seq (.ret (.and (.cmp .Eq (.ix (.var 0) (.cst (.int (0)))) (.cst (.str (S "number")))) (.cmp .Eq (.ix (.var 1) (.cst (.int (0)))) (.cst (.str (S "number"))))))
 .skip)⟩
noncomputable def W4:FD:=⟨3,3,(.seq (.ite (.cmp .Lt (.ix (.var 0) (.var 2)) (.ix (.var 0) (.var 1))) (.seq (.ret (.call 42 (.acons (.call 42 (.acons (.var 0) (.acons (.var 1) (.acons (.ix (.var 0) (.var 2)) .anil))) []) (.acons (.var 2) (.acons (.ix (.var 0) (.var 1)) .anil))) []))
 .skip) .skip)
 (.seq (.ret (.var 0))
 .skip))⟩
noncomputable def W3:FD:=⟨1,1,(.seq (.ite (.and (.cmp .Eq (.ix (.var 0) (.cst (.int (3)))) (.cst (.str (S "-")))) (.cmp .Eq (.ix (.ix (.var 0) (.cst (.int (4)))) (.cst (.int (0)))) (.cst (.str (S "number"))))) (.seq (.ret (.bin .Add (.slice (.var 0) .nop (.part (.cst (.int (3))))) (.tupE (.acons (.cst (.str (S "+"))) (.acons (.tupE (.acons (.cst (.str (S "number"))) (.acons (.call 0 (.acons (.neg (.ix (.ix (.var 0) (.cst (.int (4)))) (.cst (.int (1))))) .anil) []) .anil))) .anil)))))
 .skip) .skip)
 (.seq (.ret (.var 0))
 .skip))⟩
noncomputable def XQ:FD:=⟨1,4,(.seq (.set 1 (.ix (.var 0) (.cst (.int (2)))))
 (.seq (.set 2 (.ix (.var 0) (.cst (.int (3)))))
 (.seq (.set 3 (.ix (.var 0) (.cst (.int (4)))))
 (.seq (.ite (.or (.and (.cmp .Eq (.var 2) (.cst (.str (S "*")))) (.cmp .Eq (.var 3) (.cst (.tup [(.str (S "number")),(.int (0))])))) (.or (.and (.cmp .Eq (.var 2) (.cst (.str (S "mod")))) (.cmp .Eq (.var 3) (.cst (.tup [(.str (S "number")),(.int (1))])))) (.and (.cmp .Eq (.var 2) (.cst (.str (S "-")))) (.cmp .Eq (.var 1) (.var 3))))) (.seq (.ret (.tupE (.acons (.cst (.str (S "put"))) (.acons (.ix (.var 0) (.cst (.int (1)))) (.acons (.cst (.tup [(.str (S "number")),(.int (0))])) (.acons (.cst (.str (S "+"))) (.acons (.cst (.tup [(.str (S "number")),(.int (0))])) .anil)))))))
 .skip) .skip)
 (.seq (.ite (.and (.cmp .In (.var 2) (.tupE (.acons (.cst (.str (S "*"))) (.acons (.cst (.str (S "/"))) .anil)))) (.cmp .Eq (.var 3) (.cst (.tup [(.str (S "number")),(.int (1))])))) (.seq (.ret (.tupE (.acons (.cst (.str (S "put"))) (.acons (.ix (.var 0) (.cst (.int (1)))) (.acons (.var 1) (.acons (.cst (.str (S "+"))) (.acons (.cst (.tup [(.str (S "number")),(.int (0))])) .anil)))))))
 .skip) .skip)
 (.seq (.ret (.var 0))
 .skip))))))⟩
noncomputable def QI:FD:=⟨1,1,(.seq (.ite (.call 73 (.acons (.ix (.var 0) (.cst (.int (2)))) (.acons (.ix (.var 0) (.cst (.int (4)))) .anil)) []) (.seq (.ret (.tupE (.acons (.cst (.str (S "put"))) (.acons (.ix (.var 0) (.cst (.int (1)))) (.acons (.tupE (.acons (.cst (.str (S "number"))) (.acons (.call 3 (.acons (.ix (.ix (.var 0) (.cst (.int (2)))) (.cst (.int (1)))) (.acons (.ix (.var 0) (.cst (.int (3)))) (.acons (.ix (.ix (.var 0) (.cst (.int (4)))) (.cst (.int (1)))) .anil))) []) .anil))) (.acons (.cst (.str (S "+"))) (.acons (.cst (.tup [(.str (S "number")),(.int (0))])) .anil)))))))
 .skip) .skip)
 (.seq (.set 0 (.call 75 (.acons (.var 0) .anil) []))
 (.seq (.ite (.cmp .In (.ix (.var 0) (.cst (.int (3)))) (.tupE (.acons (.cst (.str (S "+"))) (.acons (.cst (.str (S "*"))) .anil)))) (.seq (.set 0 (.call 74 (.acons (.var 0) (.acons (.cst (.int (2))) (.acons (.cst (.int (4))) .anil))) []))
 .skip) .skip)
 (.seq (.set 0 (.call 76 (.acons (.var 0) .anil) []))
 (.seq (.ite (.cmp .Eq (.var 0) (.tupE (.acons (.cst (.str (S "put"))) (.acons (.ix (.var 0) (.cst (.int (1)))) (.acons (.tupE (.acons (.cst (.str (S "name"))) (.acons (.ix (.var 0) (.cst (.int (1)))) .anil))) (.acons (.cst (.str (S "+"))) (.acons (.cst (.tup [(.str (S "number")),(.int (0))])) .anil))))))) (.seq (.ret (.cst (.tup [(.str (S "skip"))])))
 .skip) .skip)
 (.seq (.ret (.var 0))
 .skip))))))⟩
noncomputable def X9:FD:=⟨1,1,(.seq (.ite (.cmp .Eq (.ix (.var 0) (.cst (.int (2)))) (.cst (.str (S ">")))) (.seq (.ret (.tupE (.acons (.cst (.str (S "if"))) (.acons (.ix (.var 0) (.cst (.int (3)))) (.acons (.cst (.str (S "<"))) (.acons (.ix (.var 0) (.cst (.int (1)))) (.acons (.ix (.var 0) (.cst (.int (4)))) .anil)))))))
 .skip) .skip)
 (.seq (.ite (.cmp .Eq (.ix (.var 0) (.cst (.int (2)))) (.cst (.str (S ">=")))) (.seq (.ret (.tupE (.acons (.cst (.str (S "if"))) (.acons (.ix (.var 0) (.cst (.int (3)))) (.acons (.cst (.str (S "<="))) (.acons (.ix (.var 0) (.cst (.int (1)))) (.acons (.ix (.var 0) (.cst (.int (4)))) .anil)))))))
 .skip) .skip)
 (.seq (.ret (.var 0))
 .skip)))⟩
noncomputable def Ui:FD:=⟨1,1,(.seq (.ret (.or (.call 73 (.acons (.ix (.var 0) (.cst (.int (1)))) (.acons (.ix (.var 0) (.cst (.int (3)))) .anil)) []) (.cmp .Eq (.ix (.var 0) (.cst (.int (1)))) (.ix (.var 0) (.cst (.int (3)))))))
 .skip)⟩
noncomputable def J4:FD:=⟨1,2,(.seq (.set 1 (.call 4 (.acons (.ix (.ix (.var 0) (.cst (.int (1)))) (.cst (.int (1)))) (.acons (.ix (.var 0) (.cst (.int (2)))) (.acons (.ix (.ix (.var 0) (.cst (.int (3)))) (.cst (.int (1)))) .anil))) []))
 (.seq (.ret (.ife (.var 1) (.tupE (.acons (.cst (.str (S "go"))) (.acons (.ix (.var 0) (.cst (.int (4)))) .anil))) (.cst (.tup [(.str (S "skip"))]))))
 .skip))⟩
noncomputable def W5:FD:=⟨1,3,(.seq (.set 1 (.ix (.var 0) (.cst (.int (1)))))
 (.seq (.set 2 (.ix (.var 0) (.cst (.int (3)))))
 (.seq (.ite (.cmp .NotEq (.ix (.var 0) (.cst (.int (2)))) (.cst (.str (S "<=")))) (.seq (.ret (.var 0))
 .skip) .skip)
 (.seq (.ite (.and (.cmp .Eq (.ix (.var 2) (.cst (.int (0)))) (.cst (.str (S "number")))) (.cmp .Lt (.ix (.var 2) (.cst (.int (1)))) (.cst (.int (999999999))))) (.seq (.ret (.tupE (.acons (.cst (.str (S "if"))) (.acons (.var 1) (.acons (.cst (.str (S "<"))) (.acons (.tupE (.acons (.cst (.str (S "number"))) (.acons (.bin .Add (.ix (.var 2) (.cst (.int (1)))) (.cst (.int (1)))) .anil))) (.acons (.ix (.var 0) (.cst (.int (4)))) .anil)))))))
 .skip) .skip)
 (.seq (.ite (.and (.cmp .Eq (.ix (.var 1) (.cst (.int (0)))) (.cst (.str (S "number")))) (.cmp .Gt (.ix (.var 1) (.cst (.int (1)))) (.cst (.int (-1000000000))))) (.seq (.ret (.tupE (.acons (.cst (.str (S "if"))) (.acons (.tupE (.acons (.cst (.str (S "number"))) (.acons (.bin .Sub (.ix (.var 1) (.cst (.int (1)))) (.cst (.int (1)))) .anil))) (.acons (.cst (.str (S "<"))) (.acons (.var 2) (.acons (.ix (.var 0) (.cst (.int (4)))) .anil)))))))
 .skip) .skip)
 (.seq (.ret (.var 0))
 .skip))))))⟩
noncomputable def J2:FD:=⟨2,2,(.seq (.ite (.cmp .Eq (.ix (.var 0) (.cst (.int (4)))) (.bin .Add (.var 1) (.cst (.int (1))))) (.seq (.ret (.cst (.tup [(.str (S "skip"))])))
 .skip) .skip)
 (.seq (.set 0 (.call 78 (.acons (.var 0) .anil) []))
 (.seq (.ite (.call 79 (.acons (.var 0) .anil) []) (.seq (.ret (.call 80 (.acons (.var 0) .anil) []))
 .skip) .skip)
 (.seq (.ite (.cmp .In (.ix (.var 0) (.cst (.int (2)))) (.tupE (.acons (.cst (.str (S "="))) (.acons (.cst (.str (S "!="))) .anil)))) (.seq (.set 0 (.call 74 (.acons (.var 0) (.acons (.cst (.int (1))) (.acons (.cst (.int (3))) .anil))) []))
 .skip) .skip)
 (.seq (.ret (.call 81 (.acons (.var 0) .anil) []))
 .skip)))))⟩
noncomputable def QJ:FD:=⟨2,2,(.seq (.ite (.cmp .Eq (.ix (.var 0) (.cst (.int (0)))) (.cst (.str (S "put")))) (.seq (.ret (.call 77 (.acons (.var 0) .anil) []))
 .skip) .skip)
 (.seq (.ite (.cmp .Eq (.ix (.var 0) (.cst (.int (0)))) (.cst (.str (S "if")))) (.seq (.ret (.call 82 (.acons (.var 0) (.acons (.var 1) .anil)) []))
 .skip) .skip)
 (.seq (.ite (.cmp .Eq (.var 0) (.tupE (.acons (.cst (.str (S "go"))) (.acons (.bin .Add (.var 1) (.cst (.int (1)))) .anil)))) (.seq (.ret (.cst (.tup [(.str (S "skip"))])))
 .skip) .skip)
 (.seq (.ret (.var 0))
 .skip))))⟩
noncomputable def XW:FD:=⟨2,2,(.seq (.ite (.cmp .Lt (.var 1) (.len (.var 0))) (.seq (.ret (.ix (.var 0) (.var 1)))
 .skip) .skip)
 (.seq (.ret (.cst (.int (0))))
 .skip))⟩
noncomputable def Xq:FD:=⟨1,1,(.seq (.ite (.cmp .Eq (.bin .Mod (.var 0) (.cst (.int (3)))) (.cst (.int (0)))) (.seq (.ret (.ix (.lstE (.acons (.neg (.cst (.int (1000000000)))) (.acons (.cst (.int (999999999))) (.acons (.neg (.cst (.int (1)))) (.acons (.cst (.int (0))) (.acons (.cst (.int (1))) (.acons (.cst (.int (2))) (.acons (.neg (.cst (.int (999999999)))) (.acons (.cst (.int (999999998))) .anil))))))))) (.bin .Mod (.bin .FloorDiv (.var 0) (.cst (.int (3)))) (.cst (.int (8))))))
 .skip) .skip)
 (.seq (.ret (.bin .Sub (.bin .Mod (.bin .Mult (.bin .FloorDiv (.var 0) (.cst (.int (3)))) (.cst (.int (48271)))) (.cst (.int (2000000000)))) (.cst (.int (1000000000)))))
 .skip))⟩
noncomputable def X8:FD:=⟨2,2,(.seq (.ite (.and (.cmp .Gt (.var 1) (.cst (.int (0)))) (.cmp .Lt (.bin .Mod (.var 0) (.cst (.int (5)))) (.cst (.int (3))))) (.seq (.ret (.tupE (.acons (.cst (.str (S "name"))) (.acons (.bin .Mod (.bin .FloorDiv (.var 0) (.cst (.int (5)))) (.var 1)) .anil))))
 .skip) .skip)
 (.seq (.ret (.tupE (.acons (.cst (.str (S "number"))) (.acons (.call 18 (.acons (.bin .FloorDiv (.var 0) (.cst (.int (5)))) .anil) []) .anil))))
 .skip))⟩
noncomputable def XX:FD:=⟨2,5,(.seq (.set 2 (.call 71 (.acons (.ix (.var 0) (.cst (.int (1)))) (.acons (.var 1) .anil)) []))
 (.seq (.set 3 (.call 71 (.acons (.ix (.var 0) (.cst (.int (2)))) (.acons (.var 1) .anil)) []))
 (.seq (.set 4 (.bin .Mod (.bin .FloorDiv (.ix (.var 0) (.cst (.int (3)))) (.cst (.int (65)))) (.cst (.int (6)))))
 (.seq (.ite (.cmp .Eq (.var 4) (.cst (.int (1)))) (.seq (.ret (.tupE (.acons (.var 2) (.acons (.var 2) .anil))))
 .skip) .skip)
 (.seq (.ite (.and (.cmp .Eq (.var 4) (.cst (.int (3)))) (.cmp .Gt (.var 1) (.cst (.int (0))))) (.seq (.ret (.tupE (.acons (.tupE (.acons (.cst (.str (S "name"))) (.acons (.bin .Mod (.bin .Mod (.ix (.var 0) (.cst (.int (3)))) (.cst (.int (5)))) (.var 1)) .anil))) (.acons (.tupE (.acons (.cst (.str (S "number"))) (.acons (.bin .Mod (.ix (.var 0) (.cst (.int (2)))) (.cst (.int (2)))) .anil))) .anil))))
 .skip) .skip)
 (.seq (.ite (.cmp .Eq (.var 4) (.cst (.int (4)))) (.seq (.ret (.tupE (.acons (.var 2) (.acons (.tupE (.acons (.cst (.str (S "number"))) (.acons (.bin .Mod (.ix (.var 0) (.cst (.int (2)))) (.cst (.int (2)))) .anil))) .anil))))
 .skip) .skip)
 (.seq (.ite (.cmp .Eq (.var 4) (.cst (.int (5)))) (.seq (.ret (.tupE (.acons (.tupE (.acons (.cst (.str (S "number"))) (.acons (.bin .Mod (.ix (.var 0) (.cst (.int (1)))) (.cst (.int (2)))) .anil))) (.acons (.var 3) .anil))))
 .skip) .skip)
 (.seq (.ret (.tupE (.acons (.var 2) (.acons (.var 3) .anil))))
 .skip))))))))⟩
noncomputable def VC:FD:=⟨4,8,(.seq (.set2 4 5 (.call 84 (.acons (.var 0) (.acons (.var 1) .anil)) []))
 (.seq (.set 6 (.bin .Mod (.bin .FloorDiv (.ix (.var 0) (.cst (.int (3)))) (.cst (.int (5)))) (.bin .Add (.var 2) (.cst (.int (1))))))
 (.seq (.ite (.cmp .Eq (.bin .Mod (.bin .FloorDiv (.ix (.var 0) (.cst (.int (3)))) (.cst (.int (65)))) (.cst (.int (6)))) (.cst (.int (2)))) (.seq (.set 6 (.bin .Add (.var 3) (.cst (.int (1)))))
 .skip) .skip)
 (.seq (.set 7 (.bin .FloorDiv (.ix (.var 0) (.cst (.int (0)))) (.cst (.int (8)))))
 (.seq (.ite (.and (.cmp .Lt (.bin .Mod (.ix (.var 0) (.cst (.int (0)))) (.cst (.int (8)))) (.cst (.int (3)))) (.cmp .Gt (.var 1) (.cst (.int (0))))) (.seq (.ret (.tupE (.acons (.cst (.str (S "put"))) (.acons (.bin .Mod (.bin .Mod (.ix (.var 0) (.cst (.int (3)))) (.cst (.int (5)))) (.var 1)) (.acons (.var 4) (.acons (.ix (.lstE (.acons (.cst (.str (S "+"))) (.acons (.cst (.str (S "-"))) (.acons (.cst (.str (S "*"))) (.acons (.cst (.str (S "/"))) (.acons (.cst (.str (S "mod"))) .anil)))))) (.bin .Mod (.var 7) (.cst (.int (5))))) (.acons (.var 5) .anil)))))))
 .skip) .skip)
 (.seq (.ite (.cmp .Lt (.bin .Mod (.ix (.var 0) (.cst (.int (0)))) (.cst (.int (8)))) (.cst (.int (5)))) (.seq (.ret (.tupE (.acons (.cst (.str (S "if"))) (.acons (.var 4) (.acons (.ix (.lstE (.acons (.cst (.str (S "<"))) (.acons (.cst (.str (S "<="))) (.acons (.cst (.str (S "="))) (.acons (.cst (.str (S ">="))) (.acons (.cst (.str (S ">"))) (.acons (.cst (.str (S "!="))) .anil))))))) (.bin .Mod (.var 7) (.cst (.int (6))))) (.acons (.var 5) (.acons (.var 6) .anil)))))))
 .skip) .skip)
 (.seq (.ite (.cmp .Eq (.bin .Mod (.ix (.var 0) (.cst (.int (0)))) (.cst (.int (8)))) (.cst (.int (5)))) (.seq (.ret (.tupE (.acons (.cst (.str (S "go"))) (.acons (.var 6) .anil))))
 .skip) .skip)
 (.seq (.ite (.cmp .Eq (.bin .Mod (.ix (.var 0) (.cst (.int (0)))) (.cst (.int (8)))) (.cst (.int (6)))) (.seq (.ret (.tupE (.acons (.cst (.str (S "tell"))) (.acons (.var 4) .anil))))
 .skip) .skip)
 (.seq (.ret (.tupE (.acons (.cst (.str (S "skip"))) .anil)))
 .skip)))))))))⟩
noncomputable def XZ:CE:=(.comp true [1,0] (.len (.var 1)) (.var 0) (.not (.call 36 (.acons (.ix (.var 2) (.var 0)) (.acons (.ix (.var 1) (.var 0)) .anil)) [])))
noncomputable def J1:FD:=⟨2,2,(.seq (.ite (.isi .tuple (.var 1)) (.seq (.ite (.or (.not (.isi .tuple (.var 0))) (.cmp .NotEq (.len (.var 0)) (.len (.var 1)))) (.seq (.ret (.cst (.bl false)))
 .skip) .skip)
 (.seq (.ret (.cmp .Eq XZ (.lstE .anil)))
 .skip)) .skip)
 (.seq (.ite (.isi .str (.var 1)) (.seq (.ret (.and (.isi .str (.var 0)) (.cmp .Eq (.var 0) (.var 1))))
 .skip) .skip)
 (.seq (.ret (.and (.isi .int (.var 0)) (.and (.not (.isi .bool (.var 0))) (.cmp .Eq (.var 0) (.var 1)))))
 .skip)))⟩
noncomputable def c__law_round:FD:=⟨1,1,(.seq (.ret (.bin .Sub (.bin .Mod (.bin .Add (.var 0) (.cst (.int (1000000000)))) (.cst (.int (2000000000)))) (.cst (.int (1000000000)))))
 .skip)⟩
noncomputable def c_operand_places:FD:=⟨1,1,(.seq (.ret (.look [(S "put"),(S "if"),(S "tell"),(S "go"),(S "skip")] [(.tup [(.int (2)),(.int (4))]),(.tup [(.int (1)),(.int (3))]),(.tup [(.int (1))]),(.tup []),(.tup [])] (.ix (.var 0) (.cst (.int (0))))))
 .skip)⟩
noncomputable def c_Step_word:FD:=⟨1,1,(.seq (.ret (.cst (.str (S "none"))))
 .skip)⟩
noncomputable def c_Step_turned:FD:=⟨3,3,(.seq (.ret (.tupE .anil))
 .skip)⟩
noncomputable def c_More_word:FD:=⟨1,1,(.seq (.ret (.cst (.str (S "more"))))
 .skip)⟩
noncomputable def WH:CS:=(.seq (.ite (.cmp .Eq (.ix (.ix (.var 1) (.var 4)) (.cst (.int (0)))) (.cst (.str (S "number")))) (.seq (.app 3 (.call 42 (.acons (.var 1) (.acons (.var 4) (.acons (.tupE (.acons (.cst (.str (S "number"))) (.acons (.call 0 (.acons (.bin .Add (.ix (.ix (.var 1) (.var 4)) (.cst (.int (1)))) (.cst (.int (1)))) .anil) []) .anil))) .anil))) []))
 .skip) .skip)
 .skip)
noncomputable def c_More_turned:FD:=⟨3,5,(.seq (.set 3 (.lstE .anil))
 (.seq (.for1 4 false (.call 113 (.acons (.var 1) .anil) []) WH)
 (.seq (.ret (.tupleOf (.var 3)))
 .skip)))⟩
noncomputable def c_Out_word:FD:=⟨1,1,(.seq (.ret (.cst (.str (S "out"))))
 .skip)⟩
noncomputable def c_Out_turned:FD:=⟨3,3,(.seq (.ite (.cmp .Eq (.ix (.var 1) (.cst (.int (0)))) (.cst (.str (S "skip")))) (.seq (.ret (.tupE .anil))
 .skip) .skip)
 (.seq (.ret (.tupE (.acons (.tupE (.acons (.cst (.str (S "skip"))) .anil)) .anil)))
 .skip))⟩
noncomputable def c_Turn_word:FD:=⟨1,1,(.seq (.ret (.cst (.str (S "turn"))))
 .skip)⟩
noncomputable def c_Turn_turned:FD:=⟨3,3,(.seq (.ite (.cmp .NotEq (.ix (.var 1) (.cst (.int (0)))) (.cst (.str (S "if")))) (.seq (.ret (.tupE .anil))
 .skip) .skip)
 (.seq (.ret (.tupE (.acons (.call 42 (.acons (.var 1) (.acons (.cst (.int (2))) (.acons (.look [(S "<"),(S ">="),(S "<="),(S ">"),(S "="),(S "!=")] [(.str (S ">=")),(.str (S "<")),(.str (S ">")),(.str (S "<=")),(.str (S "!=")),(.str (S "="))] (.ix (.var 1) (.cst (.int (2))))) .anil))) []) .anil)))
 .skip))⟩
noncomputable def c_Swap_word:FD:=⟨1,1,(.seq (.ret (.cst (.str (S "swap"))))
 .skip)⟩
noncomputable def c_Swap_turned:FD:=⟨3,3,(.seq (.ite (.and (.cmp .Eq (.ix (.var 1) (.cst (.int (0)))) (.cst (.str (S "put")))) (.cmp .NotEq (.ix (.var 1) (.cst (.int (2)))) (.ix (.var 1) (.cst (.int (4)))))) (.seq (.ret (.tupE (.acons (.tupE (.acons (.cst (.str (S "put"))) (.acons (.ix (.var 1) (.cst (.int (1)))) (.acons (.ix (.var 1) (.cst (.int (4)))) (.acons (.ix (.var 1) (.cst (.int (3)))) (.acons (.ix (.var 1) (.cst (.int (2)))) .anil)))))) .anil)))
 .skip) .skip)
 (.seq (.ite (.and (.cmp .Eq (.ix (.var 1) (.cst (.int (0)))) (.cst (.str (S "if")))) (.cmp .NotEq (.ix (.var 1) (.cst (.int (1)))) (.ix (.var 1) (.cst (.int (3)))))) (.seq (.ret (.tupE (.acons (.tupE (.acons (.cst (.str (S "if"))) (.acons (.ix (.var 1) (.cst (.int (3)))) (.acons (.ix (.var 1) (.cst (.int (2)))) (.acons (.ix (.var 1) (.cst (.int (1)))) (.acons (.ix (.var 1) (.cst (.int (4)))) .anil)))))) .anil)))
 .skip) .skip)
 (.seq (.ret (.tupE .anil))
 .skip)))⟩
noncomputable def c_Far_word:FD:=⟨1,1,(.seq (.ret (.cst (.str (S "far"))))
 .skip)⟩
noncomputable def c_Far_turned:FD:=⟨3,3,(.seq (.ite (.or (.cmp .NotIn (.ix (.var 1) (.cst (.int (0)))) (.tupE (.acons (.cst (.str (S "go"))) (.acons (.cst (.str (S "if"))) .anil)))) (.cmp .GtE (.ix (.var 1) (.neg (.cst (.int (1))))) (.var 2))) (.seq (.ret (.tupE .anil))
 .skip) .skip)
 (.seq (.ret (.tupE (.acons (.bin .Add (.slice (.var 1) .nop (.part (.neg (.cst (.int (1)))))) (.tupE (.acons (.bin .Add (.ix (.var 1) (.neg (.cst (.int (1))))) (.cst (.int (1)))) .anil))) .anil)))
 .skip))⟩
noncomputable def c_behind:FD:=⟨2,2,(.seq (.ret (.ix (.var 0) (.bin .Mod (.bin .Add (.tix (.var 0) (.acons (.var 1) .anil)) (.cst (.int (1)))) (.len (.var 0)))))
 .skip)⟩
noncomputable def c_Sign_word:FD:=⟨1,1,(.seq (.ret (.cst (.str (S "sign"))))
 .skip)⟩
noncomputable def c_Sign_turned:FD:=⟨3,3,(.seq (.ite (.cmp .Eq (.ix (.var 1) (.cst (.int (0)))) (.cst (.str (S "put")))) (.seq (.ret (.tupE (.acons (.call 42 (.acons (.var 1) (.acons (.cst (.int (3))) (.acons (.call 70 (.acons (.cst (.kt [(S "+"),(S "-"),(S "*"),(S "/"),(S "mod")])) (.acons (.ix (.var 1) (.cst (.int (3)))) .anil)) []) .anil))) []) .anil)))
 .skip) .skip)
 (.seq (.ite (.cmp .Eq (.ix (.var 1) (.cst (.int (0)))) (.cst (.str (S "if")))) (.seq (.ret (.tupE (.acons (.call 42 (.acons (.var 1) (.acons (.cst (.int (2))) (.acons (.call 70 (.acons (.cst (.kt [(S "<"),(S "<="),(S "="),(S ">="),(S ">"),(S "!=")])) (.acons (.ix (.var 1) (.cst (.int (2)))) .anil)) []) .anil))) []) .anil)))
 .skip) .skip)
 (.seq (.ret (.tupE .anil))
 .skip)))⟩
noncomputable def VR:CE:=(.comp false [4,6] (.meth [(146,148),(169,171),(149,151),(157,159),(152,154),(160,162),(163,165)] (.var 6) (.acons (.var 5) (.acons (.len (.var 1)) .anil))) (.tupE (.acons (.var 1) (.acons (.meth [(146,147),(169,170),(149,150),(157,158),(152,153),(160,161),(163,164)] (.var 2) .anil) (.acons (.var 0) .anil)))) (.cst (.bl true)))
noncomputable def XD:CS:=(.seq (.ext 3 VR)
 .skip)
noncomputable def Y4:CS:=(.seq (.for1 6 false (.var 2) XD)
 .skip)
noncomputable def c_fakes:FD:=⟨1,7,(.seq (.set 1 (.ix (.var 0) (.cst (.int (2)))))
 (.seq (.set 2 (.lstE (.acons (.new 169) (.acons (.new 149) (.acons (.new 157) (.acons (.new 152) (.acons (.new 160) (.acons (.new 163) .anil))))))))
 (.seq (.set 3 (.lstE .anil))
 (.seq (.forE 4 5 (.var 1) Y4)
 (.seq (.ret (.tupleOf (.var 3)))
 .skip)))))⟩
noncomputable def c_fake_of:FD:=⟨3,3,(.seq (.ret (.tupE (.acons (.ix (.var 0) (.cst (.int (0)))) (.acons (.ix (.var 0) (.cst (.int (1)))) (.acons (.call 42 (.acons (.ix (.var 0) (.cst (.int (2)))) (.acons (.var 1) (.acons (.var 2) .anil))) []) .anil)))))
 .skip)⟩
noncomputable def c_check_trials:FD:=⟨1,1,(.seq (.ite (.cmp .Gt (.len (.var 0)) (.cst (.int (10)))) (.seq .stop
 .skip) .skip)
 .skip)⟩
noncomputable def YI:CE:=(.comp false [2,0] (.var 1) (.call 13 (.acons (.var 2) (.acons (.var 0) (.acons (.var 1) .anil))) []) (.cst (.bl true)))
noncomputable def c_outcomes:FD:=⟨3,3,(.seq (.ret YI)
 .skip)⟩
noncomputable def Yi:CS:=(.seq (.ite (.cmp .NotEq (.var 4) (.var 5)) (.seq (.set 2 (.bin .Add (.var 2) (.var 3)))
 .skip) .skip)
 (.seq (.set 3 (.bin .Mult (.var 3) (.cst (.int (2)))))
 .skip))
noncomputable def c_bits_unlike:FD:=⟨2,6,(.seq (.set 2 (.cst (.int (0))))
 (.seq (.set 3 (.cst (.int (1))))
 (.seq (.forP 4 5 (.acons (.var 0) (.acons (.var 1) .anil)) Yi)
 (.seq (.ret (.var 2))
 .skip))))⟩
noncomputable def c_bits_of:FD:=⟨3,8,(.seq (.act (.call 181 (.acons (.var 1) .anil) []))
 (.seq (.set 3 (.call 182 (.acons (.var 0) (.acons (.var 1) (.acons (.var 2) .anil))) []))
 (.seq (.set 4 (.lstE .anil))
 (.seq (.for4 5 6 7 (.call 172 (.acons (.var 0) .anil) []) (.seq (.app 4 (.call 183 (.acons (.var 3) (.acons (.call 182 (.acons (.call 180 (.acons (.var 0) (.acons (.var 5) (.acons (.var 7) .anil))) []) (.acons (.var 1) (.acons (.var 2) .anil))) []) .anil)) []))
 .skip))
 (.seq (.ret (.tupleOf (.var 4)))
 .skip)))))⟩
noncomputable def c__law_cell_at_k55:FD:=⟨2,2,(.seq (.ite (.cmp .Lt (.var 1) (.len (.var 0))) (.seq (.ret (.ix (.var 0) (.var 1)))
 .skip) .skip)
 (.seq (.ret (.bin .Mod (.bin .Mult (.bin .Add (.bin .Mod (.ix (.bin .Add (.var 0) (.lstE (.acons (.cst (.int (0))) .anil))) (.cst (.int (0)))) (.cst (.int (1000003)))) (.cst (.int (11)))) (.bin .Add (.bin .Mult (.var 1) (.var 1)) (.cst (.int (30011))))) (.cst (.int (2147483647)))))
 .skip))⟩
noncomputable def c__law_number:FD:=⟨1,1,(.seq (.ite (.cmp .Eq (.bin .Mod (.var 0) (.cst (.int (4)))) (.cst (.int (0)))) (.seq (.ret (.ix (.lstE (.acons (.neg (.cst (.int (1000000000)))) (.acons (.cst (.int (999999999))) (.acons (.cst (.int (0))) (.acons (.cst (.int (1))) (.acons (.neg (.cst (.int (1)))) .anil)))))) (.bin .Mod (.bin .FloorDiv (.var 0) (.cst (.int (4)))) (.cst (.int (5))))))
 .skip) .skip)
 (.seq (.ite (.cmp .Eq (.bin .Mod (.var 0) (.cst (.int (4)))) (.cst (.int (1)))) (.seq (.ret (.bin .Sub (.bin .Mod (.bin .FloorDiv (.var 0) (.cst (.int (4)))) (.cst (.int (2000000000)))) (.cst (.int (1000000000)))))
 .skip) .skip)
 (.seq (.ret (.bin .Sub (.bin .Mod (.bin .FloorDiv (.var 0) (.cst (.int (4)))) (.cst (.int (9)))) (.cst (.int (4)))))
 .skip)))⟩
noncomputable def c__law_operand_k55:FD:=⟨2,2,(.seq (.ite (.and (.cmp .Gt (.var 1) (.cst (.int (0)))) (.cmp .Gt (.bin .Mod (.var 0) (.cst (.int (3)))) (.cst (.int (0))))) (.seq (.ret (.tupE (.acons (.cst (.str (S "name"))) (.acons (.bin .Mod (.bin .FloorDiv (.var 0) (.cst (.int (3)))) (.var 1)) .anil))))
 .skip) .skip)
 (.seq (.ret (.tupE (.acons (.cst (.str (S "number"))) (.acons (.call 185 (.acons (.bin .FloorDiv (.var 0) (.cst (.int (3)))) .anil) []) .anil))))
 .skip))⟩
noncomputable def c__law_row_k55:FD:=⟨3,7,(.seq (.set 3 (.bin .Mod (.ix (.var 0) (.cst (.int (0)))) (.cst (.int (8)))))
 (.seq (.set 4 (.bin .FloorDiv (.ix (.var 0) (.cst (.int (0)))) (.cst (.int (8)))))
 (.seq (.set 5 (.call 28 (.acons (.ix (.var 0) (.cst (.int (1)))) (.acons (.var 1) .anil)) []))
 (.seq (.set 6 (.call 28 (.acons (.ix (.var 0) (.cst (.int (2)))) (.acons (.var 1) .anil)) []))
 (.seq (.ite (.and (.cmp .Lt (.var 3) (.cst (.int (3)))) (.cmp .Gt (.var 1) (.cst (.int (0))))) (.seq (.ret (.tupE (.acons (.cst (.str (S "put"))) (.acons (.bin .Mod (.var 4) (.var 1)) (.acons (.var 5) (.acons (.ix (.lstE (.acons (.cst (.str (S "+"))) (.acons (.cst (.str (S "-"))) (.acons (.cst (.str (S "*"))) (.acons (.cst (.str (S "/"))) (.acons (.cst (.str (S "mod"))) .anil)))))) (.bin .Mod (.bin .FloorDiv (.var 4) (.var 1)) (.cst (.int (5))))) (.acons (.var 6) .anil)))))))
 .skip) .skip)
 (.seq (.ite (.cmp .Lt (.var 3) (.cst (.int (5)))) (.seq (.ret (.tupE (.acons (.cst (.str (S "if"))) (.acons (.var 5) (.acons (.ix (.lstE (.acons (.cst (.str (S "<"))) (.acons (.cst (.str (S "<="))) (.acons (.cst (.str (S "="))) (.acons (.cst (.str (S ">="))) (.acons (.cst (.str (S ">"))) (.acons (.cst (.str (S "!="))) .anil))))))) (.bin .Mod (.var 4) (.cst (.int (6))))) (.acons (.var 6) (.acons (.bin .Mod (.bin .FloorDiv (.var 4) (.cst (.int (6)))) (.bin .Add (.var 2) (.cst (.int (1))))) .anil)))))))
 .skip) .skip)
 (.seq (.ite (.cmp .Eq (.var 3) (.cst (.int (5)))) (.seq (.ret (.tupE (.acons (.cst (.str (S "go"))) (.acons (.bin .Mod (.var 4) (.bin .Add (.var 2) (.cst (.int (1))))) .anil))))
 .skip) .skip)
 (.seq (.ite (.cmp .Eq (.var 3) (.cst (.int (6)))) (.seq (.ret (.tupE (.acons (.cst (.str (S "tell"))) (.acons (.var 5) .anil))))
 .skip) .skip)
 (.seq (.ret (.ix (.lstE (.acons (.tupE (.acons (.cst (.str (S "tell"))) (.acons (.var 6) .anil))) (.acons (.tupE (.acons (.cst (.str (S "skip"))) .anil)) .anil))) (.bin .Mod (.var 4) (.cst (.int (2))))))
 .skip)))))))))⟩
noncomputable def Z9:CE:=(.comp true [6,0] (.cst (.int (3))) (.call 27 (.acons (.var 2) (.acons (.bin .Add (.bin .Add (.cst (.int (3))) (.bin .Mult (.cst (.int (3))) (.var 1))) (.var 0)) .anil)) []) (.cst (.bl true)))
noncomputable def ZP:CS:=(.seq (.set 9 (.call 185 (.acons (.bin .Add (.bin .FloorDiv (.var 2) (.cst (.int (18)))) (.var 7)) .anil) []))
 (.seq (.app 8 (.tupE (.acons (.min (.var 9) (.cst (.int (3)))) (.acons (.max (.var 9) (.cst (.int (3)))) .anil))))
 .skip))
noncomputable def ZQ:CS:=(.seq (.app 5 (.call 29 (.acons Z9 (.acons (.var 4) (.acons (.var 1) .anil))) []))
 .skip)
noncomputable def c__law_program_k55:FD:=⟨2,10,(.seq (.set 2 (.call 27 (.acons (.var 0) (.acons (.cst (.int (0))) .anil)) []))
 (.seq (.set 3 (.bin .Mod (.var 2) (.cst (.int (3)))))
 (.seq (.set 4 (.bin .Add (.var 3) (.bin .Mod (.bin .FloorDiv (.var 2) (.cst (.int (3)))) (.bin .Sub (.cst (.int (6))) (.var 3)))))
 (.seq (.set 5 (.lstE .anil))
 (.seq (.for1 6 true (.var 1) ZQ)
 (.seq (.set 8 (.lstE .anil))
 (.seq (.for1 7 true (.var 3) ZP)
 (.seq (.ret (.tupE (.acons (.tupleOf (.var 8)) (.acons (.var 4) (.acons (.tupleOf (.var 5)) .anil)))))
 .skip))))))))⟩
noncomputable def c__law_counter:FD:=⟨1,2,(.seq (.set 1 (.tupE (.acons (.tupE (.acons (.cst (.str (S "put"))) (.acons (.cst (.int (0))) (.acons (.tupE (.acons (.cst (.str (S "name"))) (.acons (.cst (.int (0))) .anil))) (.acons (.cst (.str (S "+"))) (.acons (.tupE (.acons (.cst (.str (S "number"))) (.acons (.cst (.int (1))) .anil))) .anil)))))) (.acons (.tupE (.acons (.cst (.str (S "if"))) (.acons (.tupE (.acons (.cst (.str (S "name"))) (.acons (.cst (.int (0))) .anil))) (.acons (.cst (.str (S "<"))) (.acons (.tupE (.acons (.cst (.str (S "number"))) (.acons (.bin .Add (.cst (.int (40))) (.bin .Mod (.var 0) (.cst (.int (21))))) .anil))) (.acons (.cst (.int (0))) .anil)))))) .anil))))
 (.seq (.ret (.tupE (.acons (.tupE (.acons (.tupE (.acons (.neg (.cst (.int (1000)))) (.acons (.cst (.int (1000))) .anil))) .anil)) (.acons (.bin .Add (.cst (.int (1))) (.bin .Mod (.bin .FloorDiv (.var 0) (.cst (.int (21)))) (.cst (.int (2))))) (.acons (.bin .Add (.var 1) (.tupE (.acons (.tupE (.acons (.cst (.str (S "tell"))) (.acons (.tupE (.acons (.cst (.str (S "name"))) (.acons (.cst (.int (0))) .anil))) .anil))) .anil))) .anil)))))
 .skip))⟩
noncomputable def c__law_sum:FD:=⟨3,3,(.seq (.ite (.cmp .Eq (.var 1) (.cst (.str (S "+")))) (.seq (.ret (.call 89 (.acons (.bin .Add (.var 0) (.var 2)) .anil) []))
 .skip) .skip)
 (.seq (.ite (.cmp .Eq (.var 1) (.cst (.str (S "-")))) (.seq (.ret (.call 89 (.acons (.bin .Sub (.var 0) (.var 2)) .anil) []))
 .skip) .skip)
 (.seq (.ite (.cmp .Eq (.var 1) (.cst (.str (S "*")))) (.seq (.ret (.call 89 (.acons (.bin .Mult (.var 0) (.var 2)) .anil) []))
 .skip) .skip)
 (.seq (.ite (.cmp .Eq (.var 1) (.cst (.str (S "/")))) (.seq (.ret (.ife (.cmp .Eq (.var 2) (.cst (.int (0)))) (.cst (.int (0))) (.call 89 (.acons (.bin .FloorDiv (.var 0) (.var 2)) .anil) [])))
 .skip) .skip)
 (.seq (.ret (.ife (.cmp .Eq (.var 2) (.cst (.int (0)))) (.var 0) (.bin .Sub (.var 0) (.bin .Mult (.var 2) (.bin .FloorDiv (.var 0) (.var 2))))))
 .skip)))))⟩
noncomputable def c__law_so_k55:FD:=⟨3,3,(.seq (.ite (.cmp .Lt (.var 0) (.var 2)) (.seq (.ret (.cmp .In (.var 1) (.lstE (.acons (.cst (.str (S "<"))) (.acons (.cst (.str (S "<="))) (.acons (.cst (.str (S "!="))) .anil))))))
 .skip) .skip)
 (.seq (.ite (.cmp .Gt (.var 0) (.var 2)) (.seq (.ret (.cmp .In (.var 1) (.lstE (.acons (.cst (.str (S ">"))) (.acons (.cst (.str (S ">="))) (.acons (.cst (.str (S "!="))) .anil))))))
 .skip) .skip)
 (.seq (.ret (.cmp .In (.var 1) (.lstE (.acons (.cst (.str (S "<="))) (.acons (.cst (.str (S "="))) (.acons (.cst (.str (S ">="))) .anil))))))
 .skip)))⟩
noncomputable def ZL:CS:=(.seq (.ite (.cmp .Eq (.var 5) (.len (.var 0))) (.seq (.ret (.tupE (.acons (.cst (.str (S "none"))) .anil)))
 .skip) .skip)
 (.seq (.set 7 (.ix (.var 0) (.var 5)))
 (.seq (.set 5 (.bin .Add (.var 5) (.cst (.int (1)))))
 (.seq (.ite (.cmp .Eq (.ix (.var 7) (.cst (.int (0)))) (.cst (.str (S "tell")))) (.seq (.ret (.tupE (.acons (.cst (.str (S "told"))) (.acons (.call 34 (.acons (.ix (.var 7) (.cst (.int (1)))) (.acons (.var 4) .anil)) []) .anil))))
 .skip) .skip)
 (.seq (.ite (.cmp .Eq (.ix (.var 7) (.cst (.int (0)))) (.cst (.str (S "put")))) (.seq (.put 4 (.ix (.var 7) (.cst (.int (1)))) (.call 187 (.acons (.call 34 (.acons (.ix (.var 7) (.cst (.int (2)))) (.acons (.var 4) .anil)) []) (.acons (.ix (.var 7) (.cst (.int (3)))) (.acons (.call 34 (.acons (.ix (.var 7) (.cst (.int (4)))) (.acons (.var 4) .anil)) []) .anil))) []))
 .skip) .skip)
 (.seq (.ite (.cmp .Eq (.ix (.var 7) (.cst (.int (0)))) (.cst (.str (S "go")))) (.seq (.set 5 (.ix (.var 7) (.cst (.int (1)))))
 .skip) .skip)
 (.seq (.ite (.cmp .Eq (.ix (.var 7) (.cst (.int (0)))) (.cst (.str (S "if")))) (.seq (.set 8 (.call 34 (.acons (.ix (.var 7) (.cst (.int (1)))) (.acons (.var 4) .anil)) []))
 (.seq (.ite (.call 33 (.acons (.var 8) (.acons (.ix (.var 7) (.cst (.int (2)))) (.acons (.call 34 (.acons (.ix (.var 7) (.cst (.int (3)))) (.acons (.var 4) .anil)) []) .anil))) []) (.seq (.set 5 (.ix (.var 7) (.cst (.int (4)))))
 .skip) .skip)
 .skip)) .skip)
 .skip)))))))
noncomputable def c__law_outcome:FD:=⟨4,9,(.seq (.set 4 (.bin .Add (.listOf (.var 2)) (.bin .Mult (.lstE (.acons (.cst (.int (0))) .anil)) (.bin .Sub (.var 1) (.len (.var 2))))))
 (.seq (.set 5 (.cst (.int (0))))
 (.seq (.for1 6 true (.var 3) ZL)
 (.seq (.ite (.cmp .Eq (.var 5) (.len (.var 0))) (.seq (.ret (.tupE (.acons (.cst (.str (S "none"))) .anil)))
 .skip) .skip)
 (.seq (.ret (.tupE (.acons (.cst (.str (S "late"))) .anil)))
 .skip)))))⟩
noncomputable def Yl:CE:=(.comp false [3,5,6] (.var 2) (.call 188 (.acons (.var 3) (.acons (.var 2) (.acons (.var 0) (.acons (.var 1) .anil)))) []) (.cst (.bl true)))
noncomputable def ZY:CS:=(.seq (.ite (.cmp .NotEq (.call 188 (.acons (.var 11) (.acons (.var 5) (.acons (.ix (.var 2) (.var 13)) (.acons (.var 3) .anil)))) []) (.ix (.var 8) (.var 13))) (.seq (.set 12 (.bin .Add (.var 12) (.bin .LShift (.cst (.int (1))) (.var 13))))
 .skip) .skip)
 .skip)
noncomputable def ZZ:CS:=(.seq (.set 10 (.ix (.ix (.var 7) (.var 9)) (.cst (.int (0)))))
 (.seq (.set 11 (.bin .Add (.bin .Add (.slice (.var 6) .nop (.part (.var 10))) (.tupE (.acons (.ix (.ix (.var 7) (.var 9)) (.cst (.int (2)))) .anil))) (.slice (.var 6) (.part (.bin .Add (.var 10) (.cst (.int (1))))) .nop)))
 (.seq (.set 12 (.cst (.int (0))))
 (.seq (.for1 13 true (.len (.var 2)) ZY)
 (.seq (.ite (.or (.not (.call 17 (.acons (.ix (.var 0) (.var 9)) .anil) [])) (.cmp .NotEq (.ix (.var 0) (.var 9)) (.var 12))) (.seq (.ret (.cst (.bl false)))
 .skip) .skip)
 .skip)))))
noncomputable def c__law_holds_k55:FD:=⟨4,14,(.seq (.set3 4 5 6 (.var 1))
 (.seq (.set 7 (.call 172 (.acons (.var 1) .anil) []))
 (.seq (.ite (.or (.not (.isi .tuple (.var 0))) (.cmp .NotEq (.len (.var 0)) (.len (.var 7)))) (.seq (.ret (.cst (.bl false)))
 .skip) .skip)
 (.seq (.set 8 Yl)
 (.seq (.for1 9 true (.len (.var 0)) ZZ)
 (.seq (.ret (.cst (.bl true)))
 .skip))))))⟩
noncomputable def Xs:CE:=(.comp true [8,4,0,7] (.len (.ix (.var 4) (.cst (.int (0))))) (.call 27 (.acons (.var 3) (.acons (.bin .Add (.bin .Add (.var 4) (.bin .Mult (.var 1) (.len (.ix (.var 2) (.cst (.int (0))))))) (.var 0)) .anil)) []) (.cst (.bl true)))
noncomputable def Wy:CE:=(.comp false [] (.var 9) (.call 185 (.acons (.var 0) .anil) []) (.cst (.bl true)))
noncomputable def Yz:CS:=(.seq (.set 9 Xs)
 (.seq (.app 5 (.tupleOf Wy))
 .skip))
noncomputable def c_law_k55:FD:=⟨1,10,(.seq (.set 1 (.bin .Mod (.call 27 (.acons (.var 0) (.acons (.cst (.int (1))) .anil)) []) (.cst (.int (72)))))
 (.seq (.set 2 (.bin .Mod (.call 27 (.acons (.var 0) (.acons (.cst (.int (2))) .anil)) []) (.cst (.int (4)))))
 (.seq (.set 3 (.bin .Mod (.bin .FloorDiv (.call 27 (.acons (.var 0) (.acons (.cst (.int (2))) .anil)) []) (.cst (.int (4)))) (.cst (.int (4)))))
 (.seq (.ite (.cmp .Eq (.bin .Mod (.var 1) (.cst (.int (8)))) (.cst (.int (1)))) (.seq (.set 2 (.bin .Mod (.bin .FloorDiv (.call 27 (.acons (.var 0) (.acons (.cst (.int (2))) .anil)) []) (.cst (.int (4)))) (.cst (.int (13)))))
 (.seq (.set 3 (.cst (.int (1))))
 .skip)) .skip)
 (.seq (.ite (.cmp .Eq (.bin .Mod (.var 1) (.cst (.int (8)))) (.cst (.int (2)))) (.seq (.set 2 (.bin .Mod (.var 2) (.cst (.int (3)))))
 (.seq (.set 3 (.cst (.int (10))))
 .skip)) .skip)
 (.seq (.ite (.cmp .Eq (.bin .FloorDiv (.var 1) (.cst (.int (8)))) (.cst (.int (4)))) (.seq (.set 4 (.call 186 (.acons (.call 27 (.acons (.var 0) (.acons (.cst (.int (2))) .anil)) []) .anil) []))
 (.seq (.set 5 (.lstE (.acons (.tupE (.acons (.bin .Sub (.bin .Mod (.call 27 (.acons (.var 0) (.acons (.cst (.int (3))) .anil)) []) (.cst (.int (7)))) (.cst (.int (3)))) .anil)) .anil)))
 (.seq (.ite (.cmp .Eq (.bin .Mod (.bin .FloorDiv (.call 27 (.acons (.var 0) (.acons (.cst (.int (1))) .anil)) []) (.cst (.int (72)))) (.cst (.int (2)))) (.cst (.int (0)))) (.seq (.ret (.call 48 (.acons (.call 184 (.acons (.var 4) (.acons (.tupleOf (.var 5)) .anil)) [(.int (100))]) (.acons (.var 4) (.acons (.var 5) (.acons (.cst (.int (100))) .anil)))) []))
 .skip) .skip)
 (.seq (.set 6 (.bin .Add (.cst (.int (70))) (.bin .Mod (.bin .FloorDiv (.call 27 (.acons (.var 0) (.acons (.cst (.int (1))) .anil)) []) (.cst (.int (144)))) (.cst (.int (131))))))
 (.seq (.ret (.call 48 (.acons (.call 184 (.acons (.var 4) (.acons (.tupleOf (.var 5)) (.acons (.var 6) .anil))) []) (.acons (.var 4) (.acons (.var 5) (.acons (.var 6) .anil)))) []))
 .skip))))) .skip)
 (.seq (.set 4 (.call 30 (.acons (.var 0) (.acons (.var 2) .anil)) []))
 (.seq (.set 7 (.bin .Add (.cst (.int (3))) (.bin .Mult (.cst (.int (3))) (.var 2))))
 (.seq (.set 5 (.lstE .anil))
 (.seq (.for1 8 true (.var 3) Yz)
 (.seq (.ite (.and (.cmp .Eq (.bin .Mod (.bin .FloorDiv (.call 27 (.acons (.var 0) (.acons (.cst (.int (1))) .anil)) []) (.cst (.int (72)))) (.cst (.int (3)))) (.cst (.int (0)))) (.cmp .Gt (.var 3) (.cst (.int (1))))) (.seq (.put 5 (.bin .Sub (.var 3) (.cst (.int (1)))) (.ix (.var 5) (.cst (.int (0)))))
 .skip) .skip)
 (.seq (.set 6 (.bin .Mod (.bin .FloorDiv (.call 27 (.acons (.var 0) (.acons (.cst (.int (1))) .anil)) []) (.cst (.int (216)))) (.cst (.int (10)))))
 (.seq (.ret (.call 48 (.acons (.call 184 (.acons (.var 4) (.acons (.tupleOf (.var 5)) (.acons (.var 6) .anil))) []) (.acons (.var 4) (.acons (.var 5) (.acons (.var 6) .anil)))) []))
 .skip)))))))))))))⟩
end Dp

namespace Dp
open PySem
noncomputable def ZK (x:Int):Int:=(x+1000000000) % 2000000000 - 1000000000
theorem JZ {x:Int}:-1000000000≤ZK x:=by unfold ZK; omega
theorem JY {x:Int}:ZK x≤999999999:=by unfold ZK; omega
noncomputable def quo (a b:Int):Int:=a.fdiv b
theorem WU {a b:Int} (h:0 < b):a / b=quo a b:=(Int.fdiv_eq_ediv_of_nonneg a (Int.le_of_lt h)).symm
theorem Zd1 {a b:Int} (h:b < 0):quo a b=-a / -b:=by
 unfold quo
 rw [←Int.neg_fdiv_neg]
 exact Int.fdiv_eq_ediv_of_nonneg _ (by omega)
theorem Zco {a b:Int} (h:0 < b):0≤a - b * quo a b∧a - b * quo a b < b:=by
 rw [←WU h]
 have e:=Int.emod_def a b
 have h1:=Int.emod_nonneg a (show b≠0 by omega)
 have h2:=Int.emod_lt_of_pos a h
 omega
theorem Zcn {a b:Int} (h:b < 0):b < a - b * quo a b∧a - b * quo a b≤0:=by
 rw [Zd1 h]
 have e:=Int.emod_def (-a) (-b)
 have h1:=Int.emod_nonneg (-a) (show -b≠0 by omega)
 have h2:=Int.emod_lt_of_pos (-a) (show 0 < -b by omega)
 rw [Int.neg_mul] at e
 omega
noncomputable def Yp (a:Int) (s:Str) (b:Int):Int:=
 if s=S "+" then ZK (a+b) else if s=S "-" then ZK (a - b) else if s=S "*" then ZK (a * b) else
 if s=S "/" then (if b=0 then 0 else ZK (quo a b)) else if b=0 then a else a - b * quo a b
noncomputable def Y8 (a:Int) (s:Str) (b:Int):Bool:=
 if s=S "<" then decide (a < b) else if s=S "<=" then decide (a≤b) else if s=S "=" then decide (a=b) else if s=S ">=" then decide (b≤a) else if s=S ">" then decide (b < a) else !decide (a=b)
noncomputable def Sm (a:Int):Prop:=-1000000000≤a∧a≤999999999
instance {a:Int}:Decidable (Sm a):=inferInstanceAs (Decidable (_∧_))
theorem Sm.around {x:Int}:Sm (ZK x):=⟨JZ,JY⟩
theorem Sm.lim {a:Int} (h:Sm a):ZW a=true:=Ur (by have:=h.1; omega) (by have:=h.2; omega)
theorem UA {a b:Int}{s:Str} (ha:Sm a) (hb:Sm b):Sm (Yp a s b):=by
 unfold Yp
 split; · exact .around
 split; · exact .around
 split; · exact .around
 split
 ·split
  ·exact ⟨by omega,by omega⟩
  ·exact .around
 ·split
  ·exact ha
  ·rename_i h0
   rcases Int.lt_trichotomy b 0 with h | h | h
   ·have:=Zcn (a:=a) h
    exact ⟨by have:=hb.1; omega,by omega⟩
   ·exact absurd h h0
   ·have:=Zco (a:=a) h
    exact ⟨by omega,by have:=hb.2; omega⟩
structure NumT (T:Nat→Option FD):Prop where
 t0:T 0=some c_around
 t1:T 1=some c_divided
 t2:T 2=some c_left_over
 t3:T 3=some c_reckon
section
variable {T:Nat→Option FD}{n:Nat}{a b x:Int}{s:Str}
theorem WY (h:T 0=some c_around):Ze T (n+1) 0 [.int x]=some (.int (ZK x)):=by
 rw [Zm (f:=c_around) h rfl rfl]
 simp [c_around,ZC,ZK]
theorem JW (t:NumT T) (hb:Sm b):Ze T (n+2) 1 [.int a,.int b]=some (.int (if b=0 then 0 else ZK (quo a b))):=by
 rw [Zm (f:=c_divided) t.t1 rfl rfl]
 have h1:=hb.1
 have h2:=hb.2
 rcases Int.lt_trichotomy b 0 with h | h | h
 ·have:¬0 < b:=by omega
  simp [c_divided,ZC,WY t.t0,this,h,show ¬b=0 by omega,show -1073741824 < b by omega,quo]
 ·simp [c_divided,ZC,h]
 ·simp [c_divided,ZC,WY t.t0,h,show ¬b=0 by omega,show b < 1073741824 by omega,WU h]
theorem ZeN (t:NumT T) (hb:Sm b):Ze T (n+1) 2 [.int a,.int b]=some (.int (if b=0 then a else a - b * quo a b)):=by
 rw [Zm (f:=c_left_over) t.t2 rfl rfl]
 have h1:=hb.1
 have h2:=hb.2
 rcases Int.lt_trichotomy b 0 with h | h | h
 ·have:¬0 < b:=by omega
  simp [c_left_over,ZC,this,h,show ¬b=0 by omega,show -1073741824 < b by omega,hb.lim,quo]
 ·simp [c_left_over,ZC,h]
 ·simp [c_left_over,ZC,h,show ¬b=0 by omega,show b < 1073741824 by omega,hb.lim,WU h]
theorem ZaC (t:NumT T) (ha:Sm a) (hb:Sm b):Ze T (n+3) 3 [.int a,.str s,.int b]=some (.int (Yp a s b)):=by
 rw [Zm (f:=c_reckon) t.t3 rfl rfl]
 unfold Yp
 simp [c_reckon,ZC,WY t.t0,JW t hb,ZeN t hb,ha.lim]
 split; · rfl
 split; · rfl
 split; · rfl
 split<;>rfl
theorem ZcQ (h:T 4=some c_is_so):Ze T (n+1) 4 [.int a,.str s,.int b]=some (.bl (Y8 a s b)):=by
 rw [Zm (f:=c_is_so) h rfl rfl]
 unfold Y8
 simp [c_is_so,ZC]
 split; · rfl
 split; · rfl
 split; · rfl
 split; · rfl
 split<;>rfl
end
end Dp


namespace Dp
open PySem
section
variable {T:Nat→Option FD}{n:Nat}{a b c x:Int}{s:Str}
end
end Dp


namespace Dp
open PySem
inductive Opd where
 | name (i:Nat) | num (c:Int)
inductive Row where
 | put (x:Nat) (y:Opd) (s:Str) (z:Opd) | ifr (y:Opd) (s:Str) (z:Opd) (t:Nat) | go (t:Nat) | tell (y:Opd) | skip
noncomputable def ZI:Opd→P
 | .name i=>.tup [.str (S "name"),.int (i:Int)]
 | .num c=>.tup [.str (S "number"),.int c]
noncomputable def Zd:Row→P
 | .put x y s z=>.tup [.str (S "put"),.int (x:Int),ZI y,.str s,ZI z]
 | .ifr y s z t=>.tup [.str (S "if"),ZI y,.str s,ZI z,.int (t:Int)]
 | .go t=>.tup [.str (S "go"),.int (t:Int)]
 | .tell y=>.tup [.str (S "tell"),ZI y]
 | .skip=>.tup [.str (S "skip")]
structure Prog where
 takes:P
 many:Nat
 rows:List Row
noncomputable def Zs (p:Prog):P:=.tup [p.takes,.int (p.many:Int),.tup (p.rows.map Zd)]
noncomputable abbrev StM:=Nat×List Int
noncomputable def Zn (vs:List Int):P:=.tup (vs.map .int)
noncomputable def Yr (s:StM):P:=.tup [.int (s.1:Int),Zn s.2]
inductive Out where
 | none | told (v:Int) | late
noncomputable def Zc:Out→P
 | .none=>.tup [.str (S "none")]
 | .told v=>.tup [.str (S "told"),.int v]
 | .late=>.tup [.str (S "late")]
noncomputable def YT (m:Nat):Opd→Prop
 | .name i=>i < m
 | .num c=>Sm c
noncomputable def Jn (m n:Nat):Row→Prop
 | .put x y _ z=>x < m∧YT m y∧YT m z
 | .ifr y _ z t=>YT m y∧YT m z∧t≤n
 | .go t=>t≤n
 | .tell y=>YT m y
 | .skip=>True
structure ProgOk (p:Prog):Prop where
 rows:∀ r∈p.rows,Jn p.many p.rows.length r
 many:p.many≤100
 size:p.rows.length≤100
structure VsOk (m:Nat) (vs:List Int):Prop where
 len:vs.length=m
 sm:∀ v∈vs,Sm v
noncomputable def Zl (vs:List Int):Opd→Int
 | .name i=>vs.getD i 0
 | .num c=>c
theorem Xd {m:Nat}{vs:List Int}{o:Opd} (h:VsOk m vs) (ho:YT m o):Sm (Zl vs o):=by
 cases o with
 | name i=>
  have hi:i < vs.length:=by rw [h.len]; exact ho
  show Sm (vs.getD i 0)
  rw [List.getD_eq_getElem?_getD,List.getElem?_eq_getElem hi]
  exact h.sm _ (List.getElem_mem hi)
 | num c=>exact ho
noncomputable def Wf (vs:List Int):Row→List Int
 | .put x y s z=>vs.set x (Yp (Zl vs y) s (Zl vs z))
 | _=>vs
noncomputable def Vn (k:Nat) (vs:List Int):Row→Nat
 | .go t=>t
 | .ifr y s z t=>if Y8 (Zl vs y) s (Zl vs z)=true then t else k+1
 | _=>k+1
inductive Thing where
 | st (s:StM) | out (o:Out)
noncomputable def Xo:Thing→P
 | .st s=>Yr s
 | .out o=>Zc o
noncomputable def Z5 (rows:List Row) (s:StM):Thing:=match rows[s.1]? with
 | Option.none=>.out .none
 | some (.tell y)=>.out (.told (Zl s.2 y))
 | some r=>.st (Vn s.1 s.2 r,Wf s.2 r)
structure StOkM (p:Prog) (s:StM):Prop where
 k:s.1≤p.rows.length
 vs:VsOk p.many s.2
theorem UG {p:Prog}{s s':StM} (hp:ProgOk p) (h:StOkM p s) (e:Z5 p.rows s=.st s'):StOkM p s':=by
 unfold Z5 at e
 split at e
 ·cases e
 ·cases e
 ·rename_i r hn hr
  have ro:=hp.rows r (List.mem_of_getElem? hr)
  have hk:s.1 < p.rows.length:=(List.getElem?_eq_some_iff.mp hr).1
  cases e
  refine ⟨?_,?_⟩
  ·cases r with
   | go t=>exact ro
   | ifr y z w t=>
    show (if _ then t else s.1+1)≤_
    split
    ·exact ro.2.2
    ·exact hk
   | _=>exact hk
  ·cases r with
   | put x y z w=>
    refine ⟨by show (List.set _ _ _).length=_; rw [List.length_set]; exact h.vs.len,fun v hv=>?_⟩
    rcases List.mem_or_eq_of_mem_set hv with hv | hv
    ·exact h.vs.sm v hv
    ·rw [hv]
     exact UA (Xd h.vs ro.2.1) (Xd h.vs ro.2.2)
   | _=>exact h.vs
noncomputable def ZO (rows:List Row):Nat→StM→List StM×Option Out×StM
 | 0,s=>([],Option.none,s)
 | l+1,s=>match Z5 rows s with
  | .out o=>([],some o,s)
  | .st s'=>(s' :: (ZO rows l s').1,(ZO rows l s').2)
noncomputable def Za1 (rows:List Row) (s:StM):Out:=if rows.length≤s.1 then .none else .late
noncomputable def WL (rows:List Row) (l:Nat) (s:StM):Out:=match (ZO rows l s).2.1 with
 | some o=>o
 | Option.none=>Za1 rows (ZO rows l s).2.2
noncomputable def UI (rows:List Row) (l:Nat) (s:StM):List Thing:=.st s :: ((ZO rows l s).1.map .st++[.out (WL rows l s)])
noncomputable def ZA (p:Prog) (ins:List Int):StM:=(0,ins++List.replicate (p.many - ins.length) 0)
theorem Qy {p:Prog}{ins:List Int} (h:ins.length≤p.many) (hs:∀ v∈ins,Sm v):StOkM p (ZA p ins):=
 ⟨Nat.zero_le _,by show (ins++_).length=_; simp; omega,fun v hv=>by
  rcases List.mem_append.mp hv with hv | hv
  ·exact hs v hv
  ·rw [(List.mem_replicate.mp hv).2]; exact ⟨by omega,by omega⟩⟩
structure MoveT (T:Nat→Option FD):Prop where
 num:NumT T
 t4:T 4=some c_is_so
 t5:T 5=some c_worth
 t7:T 7=some c_at_end
 t8:T 8=some c_values_behind
 t9:T 9=some c_place_behind
 t10:T 10=some c_moved
 t42:T 42=some c_replaced
structure MachT (T:Nat→Option FD):Prop extends MoveT T where
 t6:T 6=some c_began
section
variable {T:Nat→Option FD}{n:Nat}{p:Prog}{s:StM}{vs:List Int}{o:Opd}{r:Row}{k m:Nat}{ins:List Int}
theorem Uf (h:T 5=some c_worth) (ho:YT vs.length o):Ze T (n+1) 5 [ZI o,Zn vs]=some (.int (Zl vs o)):=by
 rw [Zm (f:=c_worth) h rfl rfl]
 cases o with
 | name i=>
  have hi:i < vs.length:=ho
  simp [c_worth,ZC,ZI,Zn,Zl,hi]
 | num c=>simp [c_worth,ZC,ZI,Zl]
theorem ZcP (h:T 6=some c_began) (h1:ins.length≤p.many) (h2:p.many≤100):Ze T (n+1) 6 [Zs p,Zn ins]=some (Yr (ZA p ins)):=by
 rw [Zm (f:=c_began) h rfl rfl]
 have e:((p.many:Int) - (ins.length:Int)).toNat=p.many - ins.length:=by omega
 simp [c_began,ZC,Zs,Zn,Yr,ZA,Zo,e]
 omega
theorem UK (h:T 7=some c_at_end):Ze T (n+1) 7 [Zs p,Yr s]=some (.bl (decide (p.rows.length≤s.1))):=by
 rw [Zm (f:=c_at_end) h rfl rfl]
 simp [c_at_end,ZC,Zs,Yr]
theorem Zfb {xs:List P}{x:Nat} (h:x≤xs.length):W9 xs Option.none (some (x:Int))=xs.take x:=by
 unfold W9
 have e:sIx xs.length xs.length (some (x:Int))=x:=by
  show (if (x:Int) < 0 then ((x:Int)+(xs.length:Int)).toNat else Nat.min ((x:Int)).toNat xs.length)=_
  rw [if_neg (by omega)]
  exact Nat.min_eq_left h
 rw [e]
 rfl
theorem Zfa {xs:List P}{x:Nat} (h:x≤xs.length):W9 xs (some (x:Int)) Option.none=xs.drop x:=by
 unfold W9
 have e:sIx xs.length 0 (some (x:Int))=x:=by
  show (if (x:Int) < 0 then ((x:Int)+(xs.length:Int)).toNat else Nat.min ((x:Int)).toNat xs.length)=_
  rw [if_neg (by omega)]
  exact Nat.min_eq_left h
 rw [e]
 show ((xs.drop x).take (xs.length - x))=_
 rw [List.take_of_length_le (by simp)]
theorem Qt {xs:List P}{x:Nat} (h:x < xs.length):Yj (.tup xs) Option.none (some (x:Int))=some (.tup (xs.take x)):=by
 show (if sIx xs.length 0 Option.none=0∧sIx xs.length xs.length (some (x:Int))=xs.length then some (P.tup xs) else some (P.tup (W9 xs Option.none (some (x:Int)))))=_
 have e:sIx xs.length xs.length (some (x:Int))=x:=by
  show (if (x:Int) < 0 then ((x:Int)+(xs.length:Int)).toNat else Nat.min ((x:Int)).toNat xs.length)=_
  rw [if_neg (by omega)]
  exact Nat.min_eq_left (by omega)
 rw [if_neg (by rw [e]; omega),Zfb (by omega)]
theorem Qs {xs:List P}{x:Nat} (h:x < xs.length):Yj (.tup xs) (some ((x:Int)+1)) Option.none=some (.tup (xs.drop (x+1))):=by
 rw [show (x:Int)+1=((x+1:Nat):Int) by omega]
 show (if sIx xs.length 0 (some ((x+1:Nat):Int))=0∧sIx xs.length xs.length Option.none=xs.length then some (P.tup xs) else some (P.tup (W9 xs (some ((x+1:Nat):Int)) Option.none)))=_
 have e:sIx xs.length 0 (some ((x+1:Nat):Int))=x+1:=by
  show (if ((x+1:Nat):Int) < 0 then (((x+1:Nat):Int)+(xs.length:Int)).toNat else Nat.min (((x+1:Nat):Int)).toNat xs.length)=_
  rw [if_neg (by omega)]
  exact Nat.min_eq_left (by omega)
 rw [if_neg (by rw [e]; omega),Zfa (by omega)]
theorem WZ {xs:List P}{x:Nat}{q:P} (t:T 42=some c_replaced) (hx:x < xs.length) (hl:xs.length≤1000):Ze T (n+1) 42 [.tup xs,.int (x:Int),q]=some (.tup (xs.set x q)):=by
 rw [Zm (f:=c_replaced) t rfl rfl]
 have s1:=Qt (xs:=xs) (x:=x) hx
 have s2:=Qs (xs:=xs) (x:=x) hx
 simp [c_replaced,ZC,s1,s2,Zo,show min x xs.length+1+(xs.length - (x+1))≤1000000 by omega,show min x xs.length+1≤1000000 by omega]
 rw [List.set_eq_take_append_cons_drop,if_pos hx]
theorem ZaD (t:MoveT T) (hv:VsOk m vs) (hm:m≤100) (hr:Jn m k r):Ze T (n+4) 8 [Zd r,Zn vs]=some (Zn (Wf vs r)):=by
 rw [Zm (f:=c_values_behind) t.t8 rfl rfl]
 cases r with
 | put x y s z=>
  have hx:x < vs.length:=by rw [hv.len]; exact hr.1
  have w:∀ j o,YT m o→Ze T (j+1) 5 [ZI o,Zn vs]=some (.int (Zl vs o)):=fun j o ho=>Uf t.t5 (by rw [hv.len]; exact ho)
  have re:∀ j,Ze T (j+3) 3 [.int (Zl vs y),.str s,.int (Zl vs z)]=some (.int (Yp (Zl vs y) s (Zl vs z))):=fun j=>ZaC t.num (Xd hv hr.2.1) (Xd hv hr.2.2)
  have hl:=hv.len
  have rp:Ze T (n+3) 42 [Zn vs,.int (x:Int),.int (Yp (Zl vs y) s (Zl vs z))]=some (.tup ((vs.map P.int).set x (.int (Yp (Zl vs y) s (Zl vs z))))):=WZ (n:=n+2) t.t42 (by simpa using hx) (by simp; omega)
  simp [c_values_behind,ZC,Zd,w _ _ hr.2.1,w _ _ hr.2.2,re]
  rw [rp]
  simp [Wf,Zn,List.map_set]
 | ifr y s z t=>simp [c_values_behind,ZC,Zd,Wf]
 | go t=>simp [c_values_behind,ZC,Zd,Wf]
 | tell y=>simp [c_values_behind,ZC,Zd,Wf]
 | skip=>simp [c_values_behind,ZC,Zd,Wf]
theorem Jb {o:Option PFl}{v:P} (h:o=some (.rt v)):Yx o=some v:=by rw [h]; rfl
theorem ZH {F:PFn}{M:List Nat}{c e:CE}{r:CS}{π:Zv}{v:P} (h:pe F c π=some (.bl true)) (he:pe F e π=some v):px F M (.seq (.ite c (.seq (.ret e) .skip) .skip) r) π=some (.rt v):=by
 rw [Zk,XA,h,YW,if_pos rfl,Zk,Zck,he]; rfl
theorem Zw {F:PFn}{M:List Nat}{c:CE}{a r:CS}{π:Zv} (h:pe F c π=some (.bl false)):px F M (.seq (.ite c a .skip) r) π=px F M r π:=by
 rw [Zk,XA,h,YW,if_neg Bool.false_ne_true,Zy,Zh]
theorem Yt {F:PFn}{k:Nat}{e:CE}{r:CS}{π:Zv}{v:P} (h:pe F e π=some v):px F [] (.seq (.set k e) r) π=px F [] r (Zq π k v):=by
 rw [Zk,Zd0,h,Option.bind_some,Zh]
theorem ZV {F:PFn}{M:List Nat}{e:CE}{r:CS}{π:Zv}{v:P} (h:pe F e π=some v):px F M (.seq (.ret e) r) π=some (.rt v):=by
 rw [Zk,Zck,h]; rfl
theorem ZcS (t:MoveT T) (hv:VsOk m vs) (hr:Jn m p.rows.length r):Ze T (n+2) 9 [Zd r,.int (k:Int),Zn vs]=some (.int (Vn k vs r:Int)):=by
 rw [Zm (f:=c_place_behind) t.t9 rfl rfl]
 refine Jb ?_
 cases r with
 | ifr y s z t'=>
  have w:∀ o,YT m o→Ze T (n+1) 5 [ZI o,Zn vs]=some (.int (Zl vs o)):=fun o ho=>Uf t.t5 (by rw [hv.len]; exact ho)
  have so:Ze T (n+1) 4 [.int (Zl vs y),.str s,.int (Zl vs z)]=some (.bl (Y8 (Zl vs y) s (Zl vs z))):=ZcQ t.t4
  have c:pe (Ze T (n+1)) (.and (.cmp .Eq (.ix (.var 0) (.cst (.int (0)))) (.cst (.str (S "if")))) (.call 4 (.acons (.call 5 (.acons (.ix (.var 0) (.cst (.int (1)))) (.acons (.var 2) .anil)) []) (.acons (.ix (.var 0) (.cst (.int (2)))) (.acons (.call 5 (.acons (.ix (.var 0) (.cst (.int (3)))) (.acons (.var 2) .anil)) []) .anil))) [])) [some (.tup [.str (S "if"),ZI y,.str s,ZI z,.int (t':Int)]),some (.int (k:Int)),some (Zn vs)]=some (.bl (Y8 (Zl vs y) s (Zl vs z))):=by
   simp [w _ hr.1,w _ hr.2.1,so]
  rw [show Vn k vs (.ifr y s z t')=if Y8 (Zl vs y) s (Zl vs z)=true then t' else k+1 from rfl]
  cases q:Y8 (Zl vs y) s (Zl vs z) with
  | true=>rw [q] at c; exact (Zw rfl).trans (ZH c rfl)
  | false=>rw [q] at c; exact (Zw rfl).trans ((Zw c).trans (ZV rfl))
 | go t=>exact ZH rfl rfl
 | _=>exact (Zw rfl).trans ((Zw rfl).trans (ZV rfl))
theorem ZcR (t:MoveT T) (hp:ProgOk p) (hs:StOkM p s):Ze T (n+5) 10 [Zs p,Yr s]=some (Xo (Z5 p.rows s)):=by
 rw [Zm (f:=c_moved) t.t10 rfl rfl]
 have ae:Ze T (n+4) 7 [Zs p,Yr s]=some (.bl (decide (p.rows.length≤s.1))):=UK t.t7
 unfold Z5
 by_cases hk:p.rows.length≤s.1
 ·rw [List.getElem?_eq_none hk]
  exact Jb (ZH (by exact ae.trans (by rw [decide_eq_true hk])) rfl)
 ·obtain ⟨r,hr⟩:∃ r,p.rows[s.1]?=some r:=⟨_,List.getElem?_eq_getElem (Nat.lt_of_not_le hk)⟩
  have ro:=hp.rows r (List.mem_of_getElem? hr)
  have pl:Ze T (n+4) 9 [Zd r,.int (s.1:Int),Zn s.2]=some (.int (Vn s.1 s.2 r:Int)):=ZcS (p:=p) (n:=n+2) t hs.vs ro
  have va:Ze T (n+4) 8 [Zd r,Zn s.2]=some (Zn (Wf s.2 r)):=ZaD t hs.vs hp.many ro
  have ir:atP (p.rows.map Zd) (s.1:Int)=some (Zd r):=by rw [Yw rfl,List.getElem?_map,hr]; rfl
  rw [hr]
  refine Jb ((Zw (by exact ae.trans (by rw [decide_eq_false hk]))).trans ((Yt (v:=.int (s.1:Int)) rfl).trans ((Yt (v:=Zn s.2) rfl).trans ((Yt (v:=Zd r) (by exact ir)).trans ?_))))
  have fin:∀ {q:CS},px (Ze T (n+4)) [] (.seq (.ret (.tupE (.acons (.call 9 (.acons (.var 4) (.acons (.var 2) (.acons (.var 3) .anil))) []) (.acons (.call 8 (.acons (.var 4) (.acons (.var 3) .anil)) []) .anil)))) q) [some (Zs p),some (Yr s),some (.int (s.1:Int)),some (Zn s.2),some (Zd r)]=some (.rt (.tup [.int (Vn s.1 s.2 r:Int),Zn (Wf s.2 r)])):=ZV (by simp [pl,va])
  cases r with
  | tell y=>
   have w:Ze T (n+4) 5 [ZI y,Zn s.2]=some (.int (Zl s.2 y)):=Uf t.t5 (by rw [hs.vs.len]; exact ro)
   have e:pe (Ze T (n+4)) (.tupE (.acons (.cst (.str (S "told"))) (.acons (.call 5 (.acons (.ix (.var 4) (.cst (.int (1)))) (.acons (.var 3) .anil)) []) .anil))) [some (Zs p),some (Yr s),some (.int (s.1:Int)),some (Zn s.2),some (.tup [.str (S "tell"),ZI y])]=some (Xo (.out (.told (Zl s.2 y)))):=by simp [Xo,Zc,w]
   exact ZH rfl e
  | _=>exact (Zw rfl).trans fin
noncomputable def WB:Thing→Bool
 | .st _=>false
 | .out _=>true
theorem Ue (h:T 11=some c_is_outcome) {th:Thing}:Ze T (n+1) 11 [Xo th]=some (.bl (WB th)):=by
 rw [Zm (f:=c_is_outcome) h rfl rfl]
 cases th with
 | st s=>simp [c_is_outcome,ZC,Xo,Yr,WB]
 | out o=>cases o<;>simp [c_is_outcome,ZC,Xo,Zc,WB]
theorem Vy (t:MachT T) (t11:T 11=some c_is_outcome) (hp:ProgOk p) {x1 x2:Option P}:∀ {xs:List P}{s:StM}{ths:List P}{x5 x6:Option P},StOkM p s→ths.length+xs.length < 1000→
  (∀ o,(ZO p.rows xs.length s).2.1=some o→ZR (fun d π=>px (Ze T (n+6)) [4,4] YK (Zq π 5 d)) xs [some (Zs p),x1,x2,some (Yr s),some (.lst true ths),x5,x6]=some (.rt (.tup (ths++(ZO p.rows xs.length s).1.map Yr++[Zc o])))) ∧
  ((ZO p.rows xs.length s).2.1=Option.none→∃ y5 y6,ZR (fun d π=>px (Ze T (n+6)) [4,4] YK (Zq π 5 d)) xs [some (Zs p),x1,x2,some (Yr s),some (.lst true ths),x5,x6]=some (.nx [some (Zs p),x1,x2,some (Yr (ZO p.rows xs.length s).2.2),some (.lst true (ths++(ZO p.rows xs.length s).1.map Yr)),y5,y6]))
 | [],s,ths,x5,x6,_,_=>⟨fun o h=>(by cases h),fun _=>⟨x5,x6,by rw [Wc]; simp [ZO]⟩⟩
 | x :: xs,s,ths,x5,x6,hs,hl=>by
  have mv:=ZcR (n:=n+1) t.toMoveT hp hs
  have io:Ze T (n+6) 11 [Xo (Z5 p.rows s)]=some (.bl (WB (Z5 p.rows s))):=Ue t11
  have hl':ths.length+xs.length+1 < 1000:=by simpa [Nat.add_assoc] using hl
  have body:px (Ze T (n+6)) [4,4] YK [some (Zs p),x1,x2,some (Yr s),some (.lst true ths),some x,x6]=(if WB (Z5 p.rows s)=true then some (.rt (.tup (ths++[Xo (Z5 p.rows s)]))) else some (.nx [some (Zs p),x1,x2,some (Xo (Z5 p.rows s)),some (.lst true (ths++[Xo (Z5 p.rows s)])),some x,some (Xo (Z5 p.rows s))])):=by
   have k1:∀ x,Zu [4,4] (.call 10 (.acons (.var 0) (.acons (.var 3) .anil)) []) x=true:=fun _=>rfl
   have k2:∀ x,Zu [4,4] (.var 6) x=true:=fun _=>rfl
   unfold YK
   simp only [Zk]
   rw [Uz]
   simp [mv,k1]
   rw [Q9 (xs:=ths) rfl]
   simp [k2,io,show ths.length < Zo by unfold Zo; omega]
   cases WB (Z5 p.rows s) with
   | true=>simp
   | false=>rw [Uz]; simp [k2]
  rw [Z6]
  have e0:Zq [some (Zs p),x1,x2,some (Yr s),some (.lst true ths),x5,x6] 5 x=[some (Zs p),x1,x2,some (Yr s),some (.lst true ths),some x,x6]:=rfl
  rw [e0,body]
  cases hst:Z5 p.rows s with
  | out o=>
   have e1:ZO p.rows (x :: xs).length s=([],some o,s):=by
    show (match Z5 p.rows s with
     | .out o=>([],some o,s)
     | .st s'=>(s' :: (ZO p.rows xs.length s').1,(ZO p.rows xs.length s').2))=_
    rw [hst]
   rw [e1]
   refine ⟨fun o' h=>?_,fun h=>by cases h⟩
   cases h
   simp [WB,Xo]
  | st s'=>
   have e1:ZO p.rows (x :: xs).length s=(s' :: (ZO p.rows xs.length s').1,(ZO p.rows xs.length s').2):=by
    show (match Z5 p.rows s with
     | .out o=>([],some o,s)
     | .st s'=>(s' :: (ZO p.rows xs.length s').1,(ZO p.rows xs.length s').2))=_
    rw [hst]
   rw [e1]
   have ih:=Vy t t11 hp (x1:=x1) (x2:=x2) (xs:=xs) (s:=s') (ths:=ths++[Yr s']) (x5:=some x) (x6:=some (Yr s')) (UG hp hs hst) (by simp; omega)
   simp only [WB,Bool.false_eq_true,if_false,Yq,Xo]
   refine ⟨fun o h=>?_,fun h=>?_⟩
   ·rw [ih.1 o h]
    simp
   ·obtain ⟨y5,y6,e⟩:=ih.2 h
    exact ⟨y5,y6,by rw [e]; simp⟩
theorem Qn {rows:List Row}:∀ {l:Nat}{s:StM},((ZO rows l s).1).length≤l
 | 0,_=>Nat.le_refl _
 | l+1,s=>by
  show ((match Z5 rows s with
   | .out o=>([],some o,s)
   | .st s'=>(s' :: (ZO rows l s').1,(ZO rows l s').2)):List StM×Option Out×StM).1.length≤l+1
  split
  ·exact Nat.zero_le _
  ·exact Nat.succ_le_succ Qn
structure TrailT (T:Nat→Option FD):Prop extends MachT T where
 t11:T 11=some c_is_outcome
 t12:T 12=some c_trail
theorem ZcT (t:TrailT T) (hp:ProgOk p) (h1:ins.length≤p.many) (hs:∀ v∈ins,Sm v) {l:Nat} (hl:l≤900) :
  Ze T (n+7) 12 [Zs p,Zn ins,.int (l:Int)]=some (.tup ((UI p.rows l (ZA p ins)).map Xo)):=by
 rw [Zm (f:=c_trail) t.t12 rfl rfl]
 have hm:ZC c_trail.body=[4,4]:=rfl
 rw [hm]
 have bg:=ZcP (n:=n+5) t.t6 h1 hp.many
 have so:=Qy (p:=p) h1 hs
 have ae:∀ j s,Ze T (j+1) 7 [Zs p,Yr s]=some (.bl (decide (p.rows.length≤s.1))):=fun j s=>UK t.t7
 have lp:=Vy (n:=n) t.toMachT t.t11 hp (x1:=some (Zn ins)) (x2:=some (.int (l:Int))) (xs:=ZJ (l:Int)) (s:=ZA p ins) (ths:=[Yr (ZA p ins)]) (x5:=Option.none) (x6:=Option.none) so (by simp [ZJ]; omega)
 have rl:(ZJ (l:Int)).length=l:=by simp [ZJ]
 rw [rl] at lp
 have pre:px (Ze T (n+6)) [4,4] c_trail.body ([Zs p,Zn ins,.int (l:Int)].map some++List.replicate (c_trail.ns - [Zs p,Zn ins,.int (l:Int)].length) Option.none) =
   Wm (ZR (fun d π=>px (Ze T (n+6)) [4,4] YK (Zq π 5 d)) (ZJ (l:Int)) [some (Zs p),some (Zn ins),some (.int (l:Int)),some (Yr (ZA p ins)),some (.lst true [Yr (ZA p ins)]),Option.none,Option.none]) (px (Ze T (n+6)) [4,4] (.seq (.app 4 (.ife (.call 7 (.acons (.var 0) (.acons (.var 3) .anil)) []) (.tupE (.acons (.cst (.str (S "none"))) .anil)) (.tupE (.acons (.cst (.str (S "late"))) .anil)))) (.seq (.ret (.tupleOf (.var 4))) .skip))):=by
  show px (Ze T (n+6)) [4,4] c_trail.body [some (Zs p),some (Zn ins),some (.int (l:Int)),Option.none,Option.none,Option.none,Option.none]=_
  unfold c_trail
  rw [Zk,Zx (p:=Yr (ZA p ins)) (by simp [bg]) rfl rfl,Zh,Zk,YV (p:=.lst true [Yr (ZA p ins)]) (by simp) rfl rfl,Zh,Zk]
  simp only [Zg,Zf]
  rw [JK (n:=(l:Int)) (by simp) (by omega) (by omega) rfl]
 rw [pre]
 unfold UI WL
 cases q:(ZO p.rows l (ZA p ins)).2.1 with
 | some o=>
  rw [lp.1 o q]
  simp [Xo]
 | none=>
  obtain ⟨y5,y6,e⟩:=lp.2 q
  rw [e]
  simp only [Zh,Zk]
  rw [Q9 (xs:=[Yr (ZA p ins)]++(ZO p.rows l (ZA p ins)).1.map Yr) rfl]
  have hz:((ZO p.rows l (ZA p ins)).1).length≤l:=Qn
  have k1:∀ x,Zu [4,4] (.ife (.call 7 (.acons (.var 0) (.acons (.var 3) .anil)) []) (.tupE (.acons (.cst (.str (S "none"))) .anil)) (.tupE (.acons (.cst (.str (S "late"))) .anil))) x=true:=fun _=>rfl
  by_cases he:p.rows.length≤(ZO p.rows l (ZA p ins)).2.2.1
  ·simp [ae,he,k1,Za1,Xo,Zc,show ((ZO p.rows l (ZA p ins)).1).length+1 < Zo by unfold Zo; omega]
  ·simp [ae,he,k1,Za1,Xo,Zc,show ((ZO p.rows l (ZA p ins)).1).length+1 < Zo by unfold Zo; omega]
structure SeenT (T:Nat→Option FD):Prop extends TrailT T where
 t13:T 13=some c_outcome
 t14:T 14=some VE
 t15:T 15=some Ze6
 t43:T 43=some ZaR
 t44:T 44=some J3
theorem Ji {rows:List Row}{l:Nat}{s:StM}:(UI rows l s).getLast?=some (.out (WL rows l s)):=by
 unfold UI
 rw [←List.cons_append,List.getLast?_concat]
theorem Za0 {o:Out}:Xo (.out o)=Zc o:=rfl
end
end Dp


namespace Dp
open PySem
end Dp


namespace Dp
open PySem
noncomputable def eqO:Opd→Opd→Bool
 | .name i,.name j=>decide (i=j)
 | .num c,.num d=>decide (c=d)
 | _,_=>false
theorem ZgO {a b:Opd}:X6 (ZI a) (ZI b)=eqO a b:=by
 cases a<;>cases b<;>simp [ZI,eqO,X6,Xj]
 omega
structure MadeT (T:Nat→Option FD):Prop where
 num:NumT T
 t4:T 4=some c_is_so
 t42:T 42=some c_replaced
 t73:T 73=some VD
 t74:T 74=some W4
 t75:T 75=some W3
 t76:T 76=some XQ
 t77:T 77=some QI
 t78:T 78=some X9
 t79:T 79=some Ui
 t80:T 80=some J4
 t81:T 81=some W5
 t82:T 82=some J2
 t83:T 83=some QJ
section
variable {T:Nat→Option FD}{n:Nat}{y z:Opd}{s:Str}{x t k:Nat}
theorem Zfd:Zd (.put x y s z)=.tup [.str (S "put"),.int (x:Int),ZI y,.str s,ZI z]:=rfl
theorem ZgY:Zd (.ifr y s z t)=.tup [.str (S "if"),ZI y,.str s,ZI z,.int (t:Int)]:=rfl
noncomputable def PSg (s:Str):Prop:=s=S "+"∨s=S "-"∨s=S "*"∨s=S "/"∨s=S "mod"
noncomputable def ISg (s:Str):Prop:=s=S "<"∨s=S "<="∨s=S "="∨s=S ">="∨s=S ">"∨s=S "!="
noncomputable def OSm:Opd→Prop
 | .num c=>Sm c
 | .name _=>True
noncomputable def RSg:Row→Prop
 | .put _ y s z=>PSg s∧OSm y∧OSm z
 | .ifr _ s _ _=>ISg s
 | _=>True
end
end Dp


namespace Dp
open PySem
noncomputable def sgA (i:Int):Str:=([S "+",S "-",S "*",S "/",S "mod"]:List Str).getD i.toNat (S "+")
noncomputable def sgB (i:Int):Str:=([S "<",S "<=",S "=",S ">=",S ">",S "!="]:List Str).getD i.toNat (S "<")
theorem Zgh (i:Int):PSg (sgA i):=by
 unfold sgA
 rcases h:i.toNat with _ | _ | _ | _ | _ | k
 ·exact .inl rfl
 ·exact .inr (.inl rfl)
 ·exact .inr (.inr (.inl rfl))
 ·exact .inr (.inr (.inr (.inl rfl)))
 ·exact .inr (.inr (.inr (.inr rfl)))
 ·exact .inl (by simp [List.getD])
theorem Zgi (i:Int):ISg (sgB i):=by
 unfold sgB
 rcases h:i.toNat with _ | _ | _ | _ | _ | _ | k
 ·exact .inl rfl
 ·exact .inr (.inl rfl)
 ·exact .inr (.inr (.inl rfl))
 ·exact .inr (.inr (.inr (.inl rfl)))
 ·exact .inr (.inr (.inr (.inr (.inl rfl))))
 ·exact .inr (.inr (.inr (.inr (.inr rfl))))
 ·exact .inl (by simp [List.getD])
theorem Zb0 {m:Nat}{o:Opd} (h:YT m o):OSm o:=by
 cases o with
 | name i=>trivial
 | num c=>exact h
structure RowT (T:Nat→Option FD):Prop where
 t18:T 18=some Xq
 t27:T 27=some XW
 t71:T 71=some X8
 t84:T 84=some XX
 t72:T 72=some VC
section
variable {T:Nat→Option FD}{n:Nat}{c c0 c1 c2 c3:Int}{m many at_:Nat}{b:Bool}
theorem r5 (c:Int):c % 5=0∨c % 5=1∨c % 5=2∨c % 5=3∨c % 5=4:=by omega
theorem r6 (c:Int):c % 6=0∨c % 6=1∨c % 6=2∨c % 6=3∨c % 6=4∨c % 6=5:=by omega
theorem ZiH:atP [.str (S "+"),.str (S "-"),.str (S "*"),.str (S "/"),.str (S "mod")] (c % 5)=some (.str (sgA (c % 5))):=by
 rcases r5 c with h | h | h | h | h<;>rw [h]<;>rfl
theorem ZiI:atP [.str (S "<"),.str (S "<="),.str (S "="),.str (S ">="),.str (S ">"),.str (S "!=")] (c % 6)=some (.str (sgB (c % 6))):=by
 rcases r6 c with h | h | h | h | h | h<;>rw [h]<;>rfl
end
end Dp


namespace Dp
open PySem
section
variable {T:Nat→Option FD}{n:Nat}{a:Int}{s:Str}{y:Opd}
end
end Dp


namespace Dp
open PySem
structure LawOT (T:Nat→Option FD):Prop where
 t34:T 34=some c__law_worth
 t89:T 89=some c__law_round
 t187:T 187=some c__law_sum
 t33:T 33=some c__law_so_k55
 t188:T 188=some c__law_outcome
section
variable {T:Nat→Option FD}{n:Nat}{F:PFn}{p:Prog}{s:StM}{vs:List Int}{o:Opd}{r:Row}{k m:Nat}{ins:List Int}{a b:Int}{sg:Str}
theorem W0 {M:List Nat}{c:CE}{a b q:CS}{π π':Zv} (h:pe F c π=some (.bl true)) (ha:px F M a π=some (.nx π')):px F M (.seq (.ite c a b) q) π=px F M q π':=by
 rw [Zk,XA,h,YW,if_pos rfl,ha,Zh]
theorem ZcN (h:T 34=some c__law_worth) (ho:YT vs.length o):Ze T (n+1) 34 [ZI o,.lst true (vs.map .int)]=some (.int (Zl vs o)):=by
 rw [Zm (f:=c__law_worth) h rfl rfl]
 cases o with
 | name i=>
  have hi:i < vs.length:=ho
  simp [c__law_worth,ZC,ZI,Zl,hi]
 | num c=>simp [c__law_worth,ZC,ZI,Zl]
theorem ZcM (h:T 89=some c__law_round):Ze T (n+1) 89 [.int a]=some (.int (ZK a)):=by
 rw [Zm (f:=c__law_round) h rfl rfl]
 simp [c__law_round,ZC,ZK]
theorem Zfw {i j:Int} (h:ZW j=true):YL .Mult (.int i) (.int j)=some (.int (i * j)):=by
 rw [WM,h,Bool.or_true,if_pos rfl]
theorem Zcl (hb:Sm b) (h:¬b=0):YL .FloorDiv (.int a) (.int b)=some (.int (quo a b)):=by
 have h1:=hb.1
 have h2:=hb.2
 rw [ZaN]
 rcases Int.lt_trichotomy b 0 with q | q | q
 ·rw [if_neg (by omega),if_pos ⟨q,by omega⟩]; rfl
 ·exact absurd q h
 ·rw [if_pos ⟨q,by omega⟩,WU q]
theorem ZgB (t:LawOT T) (hs:PSg sg) (ha:Sm a) (hb:Sm b):Ze T (n+2) 187 [.int a,.str sg,.int b]=some (.int (Yp a sg b)):=by
 rw [Zm (f:=c__law_sum) t.t187 rfl rfl]
 have rd:∀ x,Ze T (n+1) 89 [.int x]=some (.int (ZK x)):=fun x=>ZcM t.t89
 have go:∀ {e:CE}{v:Int},pe (Ze T (n+1)) e [some (.int a),some (.str sg),some (.int b)]=some (.int v)→pe (Ze T (n+1)) (.call 89 (.acons e .anil) []) [some (.int a),some (.str sg),some (.int b)]=some (.int (ZK v)):=fun {e v} h=>by
  rw [pe_call,Xb,h]
  exact rd v
 have pz:pe (Ze T (n+1)) (.cmp .Eq (.var 2) (.cst (.int (0)))) [some (.int a),some (.str sg),some (.int b)]=some (.bl (decide (b=0))):=Zdc
 show Yx (px (Ze T (n+1)) [] c__law_sum.body [some (.int a),some (.str sg),some (.int b)])=_
 unfold c__law_sum
 rcases hs with rfl | rfl | rfl | rfl | rfl
 ·rw [ZH (by rfl) (go rfl)]; rfl
 ·rw [Zw (by rfl),ZH (by rfl) (go rfl)]; rfl
 ·rw [Zw (by rfl),Zw (by rfl),ZH (by rfl) (go (e:=.bin .Mult (.var 0) (.var 2)) (v:=a * b) (by exact Zfw hb.lim))]; rfl
 ·rw [Zw (by rfl),Zw (by rfl),Zw (by rfl)]
  by_cases h:b=0
  ·rw [ZH (v:=.int 0) (by rfl) (by rw [Uy,pz,decide_eq_true h]; rfl)]
   subst h; rfl
  ·rw [ZH (v:=.int (ZK (quo a b))) (by rfl) (by rw [Uy,pz,decide_eq_false h]; exact go (Zcl hb h))]
   show some (P.int _)=some (P.int (if b=0 then 0 else ZK (quo a b)))
   rw [if_neg h]
 ·rw [Zw (by rfl),Zw (by rfl),Zw (by rfl),Zw (by rfl)]
  by_cases h:b=0
  ·rw [ZV (v:=.int a) (by rw [Uy,pz,decide_eq_true h]; rfl)]
   subst h; rfl
  ·have md:pe (Ze T (n+1)) (.bin .Sub (.var 0) (.bin .Mult (.var 2) (.bin .FloorDiv (.var 0) (.var 2)))) [some (.int a),some (.str (S "mod")),some (.int b)]=some (.int (a - b * quo a b)):=by
    simp only [Ym,pe_var,List.getElem?_cons_zero,List.getElem?_cons_succ,Option.join_some,Option.bind_some]
    rw [Zcl hb h,Option.bind_some,WM,hb.lim,Bool.true_or,if_pos rfl,Option.bind_some,Zc4]
   rw [ZV (v:=.int (a - b * quo a b)) (by rw [Uy,pz,decide_eq_false h]; exact md)]
   show some (P.int _)=some (P.int (if b=0 then a else a - b * quo a b))
   rw [if_neg h]
theorem Zis (t:LawOT T) (hs:ISg sg):Ze T (n+1) 33 [.int a,.str sg,.int b]=some (.bl (Y8 a sg b)):=by
 rw [Zm (f:=c__law_so_k55) t.t33 rfl rfl]
 show Yx (px (Ze T n) [] c__law_so_k55.body [some (.int a),some (.str sg),some (.int b)])=_
 unfold c__law_so_k55
 have q1:pe (Ze T n) (.cmp .Lt (.var 0) (.var 2)) [some (.int a),some (.str sg),some (.int b)]=some (.bl (decide (a < b))):=rfl
 have q2:pe (Ze T n) (.cmp .Gt (.var 0) (.var 2)) [some (.int a),some (.str sg),some (.int b)]=some (.bl (decide (a > b))):=rfl
 have fin:∀ {s':Str}{v:Bool},Y8 a s' b=v→some (P.bl v)=some (P.bl (Y8 a s' b)):=fun h=>by rw [h]
 rcases Int.lt_trichotomy a b with h | h | h
 ·rw [decide_eq_true h] at q1
  rcases hs with rfl | rfl | rfl | rfl | rfl | rfl
  ·rw [ZH (v:=.bl true) q1 (by rfl)]; exact fin (decide_eq_true (by omega))
  ·rw [ZH (v:=.bl true) q1 (by rfl)]; exact fin (decide_eq_true (by omega))
  ·rw [ZH (v:=.bl false) q1 (by rfl)]; exact fin (decide_eq_false (by omega))
  ·rw [ZH (v:=.bl false) q1 (by rfl)]; exact fin (decide_eq_false (by omega))
  ·rw [ZH (v:=.bl false) q1 (by rfl)]; exact fin (decide_eq_false (by omega))
  ·rw [ZH (v:=.bl true) q1 (by rfl)]; exact fin (show (!decide (a=b))=true by rw [decide_eq_false (by omega)]; rfl)
 ·rw [decide_eq_false (by omega)] at q1
  rw [decide_eq_false (by omega)] at q2
  rcases hs with rfl | rfl | rfl | rfl | rfl | rfl
  ·rw [Zw q1,Zw q2,ZV (v:=.bl false) (by rfl)]; exact fin (decide_eq_false (by omega))
  ·rw [Zw q1,Zw q2,ZV (v:=.bl true) (by rfl)]; exact fin (decide_eq_true (by omega))
  ·rw [Zw q1,Zw q2,ZV (v:=.bl true) (by rfl)]; exact fin (decide_eq_true (by omega))
  ·rw [Zw q1,Zw q2,ZV (v:=.bl true) (by rfl)]; exact fin (decide_eq_true (by omega))
  ·rw [Zw q1,Zw q2,ZV (v:=.bl false) (by rfl)]; exact fin (decide_eq_false (by omega))
  ·rw [Zw q1,Zw q2,ZV (v:=.bl false) (by rfl)]; exact fin (show (!decide (a=b))=false by rw [decide_eq_true (by omega)]; rfl)
 ·rw [decide_eq_false (by omega)] at q1
  rw [decide_eq_true h] at q2
  rcases hs with rfl | rfl | rfl | rfl | rfl | rfl
  ·rw [Zw q1,ZH (v:=.bl false) q2 (by rfl)]; exact fin (decide_eq_false (by omega))
  ·rw [Zw q1,ZH (v:=.bl false) q2 (by rfl)]; exact fin (decide_eq_false (by omega))
  ·rw [Zw q1,ZH (v:=.bl false) q2 (by rfl)]; exact fin (decide_eq_false (by omega))
  ·rw [Zw q1,ZH (v:=.bl true) q2 (by rfl)]; exact fin (decide_eq_true (by omega))
  ·rw [Zw q1,ZH (v:=.bl true) q2 (by rfl)]; exact fin (decide_eq_true (by omega))
  ·rw [Zw q1,ZH (v:=.bl true) q2 (by rfl)]; exact fin (show (!decide (a=b))=true by rw [decide_eq_false (by omega)]; rfl)
theorem Zb2 (t:LawOT T) (hp:ProgOk p) (hg:∀ r∈p.rows,RSg r) (hs:StOkM p s) {x:P}{x1 x2 x3 x7 x8:Option P} :
  (∀ o,Z5 p.rows s=.out o→px (Ze T (n+2)) [4] ZL [some (.tup (p.rows.map Zd)),x1,x2,x3,some (.lst true (s.2.map .int)),some (.int (s.1:Int)),some x,x7,x8]=some (.rt (Zc o))) ∧
  (∀ s',Z5 p.rows s=.st s'→∃ y7 y8,px (Ze T (n+2)) [4] ZL [some (.tup (p.rows.map Zd)),x1,x2,x3,some (.lst true (s.2.map .int)),some (.int (s.1:Int)),some x,x7,x8]=some (.nx [some (.tup (p.rows.map Zd)),x1,x2,x3,some (.lst true (s'.2.map .int)),some (.int (s'.1:Int)),some x,y7,y8])):=by
 obtain ⟨k,vs⟩:=s
 have hk:=hs.k
 have hv:=hs.vs
 simp only at hk hv
 unfold ZL
 unfold Z5
 simp only
 by_cases he:k=p.rows.length
 ·subst he
  rw [List.getElem?_eq_none (Nat.le_refl _)]
  refine ⟨fun o h=>?_,fun s' h=>by cases h⟩
  cases h
  rw [ZH (v:=Zc .none) (by simp) (by rfl)]
 ·have hk':k < p.rows.length:=by omega
  obtain ⟨r,hr⟩:∃ r,p.rows[k]?=some r:=⟨_,List.getElem?_eq_getElem hk'⟩
  have ro:=hp.rows r (List.mem_of_getElem? hr)
  have rg:=hg r (List.mem_of_getElem? hr)
  have ir:atP (p.rows.map Zd) (k:Int)=some (Zd r):=by rw [Yw rfl,List.getElem?_map,hr]; rfl
  have w:∀ o,YT p.many o→Ze T (n+2) 34 [ZI o,.lst true (vs.map .int)]=some (.int (Zl vs o)):=fun o ho=>ZcN (n:=n+1) t.t34 (by rw [hv.len]; exact ho)
  have c0:pe (Ze T (n+2)) (.cmp .Eq (.var 5) (.len (.var 0))) [some (.tup (p.rows.map Zd)),x1,x2,x3,some (.lst true (vs.map .int)),some (.int (k:Int)),some x,x7,x8]=some (.bl false):=by
   simp; omega
  rw [hr]
  rw [Zw c0,Zk,Zx (p:=Zd r) (by simp [ir]) rfl rfl,Zh]
  simp only [Zg,Zf]
  rw [Zk,Zx (p:=.int ((k+1:Nat):Int)) (by simp) rfl rfl,Zh]
  simp only [Zg,Zf]
  cases r with
  | tell y=>
   refine ⟨fun o h=>?_,fun s' h=>by cases h⟩
   cases h
   rw [show Zd (.tell y)=.tup [.str (S "tell"),ZI y] from rfl,ZH (v:=Zc (.told (Zl vs y))) (by rfl) (by simp [w y ro,Zc])]
  | put x y sg z=>
   refine ⟨fun o h=>(by cases h),fun s' h=>?_⟩
   cases h
   have hx:x < vs.length:=by rw [hv.len]; exact ro.1
   have sm:=ZgB (n:=n) t rg.1 (Xd hv ro.2.1) (Xd hv ro.2.2)
   refine ⟨some (Zd (.put x y sg z)),x8,?_⟩
   rw [Zfd,Zw (by rfl),W0 (π':=[some (.tup (p.rows.map Zd)),x1,x2,x3,some (.lst true ((vs.set x (Yp (Zl vs y) sg (Zl vs z))).map .int)),some (.int ((k+1:Nat):Int)),some _,some (.tup [.str (S "put"),.int (x:Int),ZI y,.str sg,ZI z]),x8]) (by rfl) (by
    rw [Zk,Zcj (xs:=vs.map .int) (q:=x) (j:=(x:Int)) rfl (by simp) (by unfold ixN; simp; omega)]
    rw [show pe (Ze T (n+2)) (.call 187 (.acons (.call 34 (.acons (.ix (.var 7) (.cst (.int (2)))) (.acons (.var 4) .anil)) []) (.acons (.ix (.var 7) (.cst (.int (3)))) (.acons (.call 34 (.acons (.ix (.var 7) (.cst (.int (4)))) (.acons (.var 4) .anil)) []) .anil))) []) [some (.tup (p.rows.map Zd)),x1,x2,x3,some (.lst true (vs.map .int)),some (.int ((k+1:Nat):Int)),some _,some (.tup [.str (S "put"),.int (x:Int),ZI y,.str sg,ZI z]),x8]=some (.int (Yp (Zl vs y) sg (Zl vs z))) by simp [w y ro.2.1,w z ro.2.2,sm],Option.bind_some,if_pos (by rfl),Zh,Zy,List.map_set]
    rfl),Zw (by rfl),Zw (by rfl),Zy]
   rfl
  | go t'=>
   refine ⟨fun o h=>(by cases h),fun s' h=>?_⟩
   cases h
   refine ⟨some (Zd (.go t')),x8,?_⟩
   rw [show Zd (.go t')=.tup [.str (S "go"),.int (t':Int)] from rfl,Zw (by rfl),Zw (by rfl),W0 (π':=[some (.tup (p.rows.map Zd)),x1,x2,x3,some (.lst true (vs.map .int)),some (.int (t':Int)),some x,some (.tup [.str (S "go"),.int (t':Int)]),x8]) (by rfl) (by
    rw [Zk,Zx (p:=.int (t':Int)) (by rfl) rfl rfl,Zh,Zy]
    rfl),Zw (by rfl),Zy]
   rfl
  | ifr y sg z t'=>
   refine ⟨fun o h=>(by cases h),fun s' h=>?_⟩
   cases h
   have so:=Zis (n:=n+1) (a:=Zl vs y) (b:=Zl vs z) t (show ISg sg from rg)
   refine ⟨some (Zd (.ifr y sg z t')),some (.int (Zl vs y)),?_⟩
   have e8:pe (Ze T (n+2)) (.call 34 (.acons (.ix (.var 7) (.cst (.int (1)))) (.acons (.var 4) .anil)) []) [some (.tup (p.rows.map Zd)),x1,x2,x3,some (.lst true (vs.map .int)),some (.int ((k+1:Nat):Int)),some x,some (.tup [.str (S "if"),ZI y,.str sg,ZI z,.int (t':Int)]),x8]=some (.int (Zl vs y)):=by simp [w y ro.1]
   rw [ZgY,Zw (by rfl),Zw (by rfl),Zw (by rfl),W0 (π':=[some (.tup (p.rows.map Zd)),x1,x2,x3,some (.lst true (vs.map .int)),some (.int ((Vn k vs (.ifr y sg z t'):Nat):Int)),some x,some (.tup [.str (S "if"),ZI y,.str sg,ZI z,.int (t':Int)]),some (.int (Zl vs y))]) (by rfl) (by
    rw [Zk,Zx e8 rfl rfl,Zh]
    simp only [Zg,Zf]
    have c8:pe (Ze T (n+2)) (.call 33 (.acons (.var 8) (.acons (.ix (.var 7) (.cst (.int (2)))) (.acons (.call 34 (.acons (.ix (.var 7) (.cst (.int (3)))) (.acons (.var 4) .anil)) []) .anil))) []) [some (.tup (p.rows.map Zd)),x1,x2,x3,some (.lst true (vs.map .int)),some (.int ((k+1:Nat):Int)),some x,some (.tup [.str (S "if"),ZI y,.str sg,ZI z,.int (t':Int)]),some (.int (Zl vs y))]=some (.bl (Y8 (Zl vs y) sg (Zl vs z))):=by simp [w z ro.2.1,so]
    rw [show Vn k vs (.ifr y sg z t')=(if Y8 (Zl vs y) sg (Zl vs z)=true then t' else k+1) from rfl]
    cases hq:Y8 (Zl vs y) sg (Zl vs z) with
    | true=>
     rw [hq] at c8
     rw [W0 (π':=[some (.tup (p.rows.map Zd)),x1,x2,x3,some (.lst true (vs.map .int)),some (.int (t':Int)),some x,some (.tup [.str (S "if"),ZI y,.str sg,ZI z,.int (t':Int)]),some (.int (Zl vs y))]) c8 (by
      rw [Zk,Zx (p:=.int (t':Int)) (by rfl) rfl rfl,Zh,Zy]
      rfl),Zy]
     rfl
    | false=>
     rw [hq] at c8
     rw [Zw c8,Zy]
     rfl),Zy]
   rfl
  | skip=>
   refine ⟨fun o h=>(by cases h),fun s' h=>?_⟩
   cases h
   refine ⟨some (Zd .skip),x8,?_⟩
   rw [show Zd .skip=.tup [.str (S "skip")] from rfl,Zw (by rfl),Zw (by rfl),Zw (by rfl),Zw (by rfl),Zy]
   rfl
theorem Qf (t:LawOT T) (hp:ProgOk p) (hg:∀ r∈p.rows,RSg r) {x1 x2 x3:Option P}:∀ {xs:List P}{s:StM}{x6 x7 x8:Option P},StOkM p s→
  (∀ o,(ZO p.rows xs.length s).2.1=some o→ZR (fun d π=>px (Ze T (n+2)) [4] ZL (Zq π 6 d)) xs [some (.tup (p.rows.map Zd)),x1,x2,x3,some (.lst true (s.2.map .int)),some (.int (s.1:Int)),x6,x7,x8]=some (.rt (Zc o))) ∧
  ((ZO p.rows xs.length s).2.1=Option.none→∃ y6 y7 y8,ZR (fun d π=>px (Ze T (n+2)) [4] ZL (Zq π 6 d)) xs [some (.tup (p.rows.map Zd)),x1,x2,x3,some (.lst true (s.2.map .int)),some (.int (s.1:Int)),x6,x7,x8]=some (.nx [some (.tup (p.rows.map Zd)),x1,x2,x3,some (.lst true ((ZO p.rows xs.length s).2.2.2.map .int)),some (.int ((ZO p.rows xs.length s).2.2.1:Int)),y6,y7,y8]))
 | [],s,x6,x7,x8,_=>⟨fun o h=>(by cases h),fun _=>⟨x6,x7,x8,Wc⟩⟩
 | x :: xs,s,x6,x7,x8,hs=>by
  have tn:=Zb2 (n:=n) t hp hg hs (x:=x) (x1:=x1) (x2:=x2) (x3:=x3) (x7:=x7) (x8:=x8)
  have e0:Zq [some (.tup (p.rows.map Zd)),x1,x2,x3,some (.lst true (s.2.map .int)),some (.int (s.1:Int)),x6,x7,x8] 6 x=[some (.tup (p.rows.map Zd)),x1,x2,x3,some (.lst true (s.2.map .int)),some (.int (s.1:Int)),some x,x7,x8]:=rfl
  rw [Z6,e0]
  cases hst:Z5 p.rows s with
  | out o=>
   have e1:ZO p.rows (x :: xs).length s=([],some o,s):=by
    show (match Z5 p.rows s with
     | .out o=>([],some o,s)
     | .st s'=>(s' :: (ZO p.rows xs.length s').1,(ZO p.rows xs.length s').2))=_
    rw [hst]
   rw [e1,tn.1 o hst]
   refine ⟨fun o' h=>?_,fun h=>(by cases h)⟩
   cases h
   rfl
  | st s'=>
   have e1:ZO p.rows (x :: xs).length s=(s' :: (ZO p.rows xs.length s').1,(ZO p.rows xs.length s').2):=by
    show (match Z5 p.rows s with
     | .out o=>([],some o,s)
     | .st s'=>(s' :: (ZO p.rows xs.length s').1,(ZO p.rows xs.length s').2))=_
    rw [hst]
   obtain ⟨y7,y8,e⟩:=tn.2 s' hst
   rw [e1,e,Yq]
   exact Qf t hp hg (UG hp hs hst)
theorem Zcq (hp:ProgOk p):∀ {l:Nat}{s:StM},StOkM p s→StOkM p (ZO p.rows l s).2.2
 | 0,s,h=>h
 | l+1,s,h=>by
  show StOkM p ((match Z5 p.rows s with
   | .out o=>([],some o,s)
   | .st s'=>(s' :: (ZO p.rows l s').1,(ZO p.rows l s').2)):List StM×Option Out×StM).2.2
  cases e:Z5 p.rows s with
  | out o=>exact h
  | st s'=>exact Zcq hp (UG hp h e)
theorem VL (t:LawOT T) (hp:ProgOk p) (hg:∀ r∈p.rows,RSg r) (h1:ins.length≤p.many) (hs:∀ v∈ins,Sm v) {l:Nat} (hl:l≤900) :
  Ze T (n+3) 188 [.tup (p.rows.map Zd),.int (p.many:Int),Zn ins,.int (l:Int)]=some (Zc (WL p.rows l (ZA p ins))):=by
 rw [Zm (f:=c__law_outcome) t.t188 rfl rfl]
 have so:=Qy (p:=p) h1 hs
 have hm:=hp.many
 have rl:(ZJ (l:Int)).length=l:=by simp [ZJ]
 have lp:=Qf (n:=n) t hp hg (x1:=some (.int (p.many:Int))) (x2:=some (Zn ins)) (x3:=some (.int (l:Int))) (xs:=ZJ (l:Int)) (s:=ZA p ins) (x6:=Option.none) (x7:=Option.none) (x8:=Option.none) so
 rw [rl] at lp
 show Yx (px (Ze T (n+2)) [4] c__law_outcome.body [some (.tup (p.rows.map Zd)),some (.int (p.many:Int)),some (Zn ins),some (.int (l:Int)),Option.none,Option.none,Option.none,Option.none,Option.none])=_
 unfold c__law_outcome
 have e:((p.many:Int) - (ins.length:Int)).toNat=p.many - ins.length:=by omega
 rw [Zk,YV (p:=.lst true ((ZA p ins).2.map .int)) (by
  unfold Zn ZA
  simp [e,Zo]
  omega) rfl (by rfl),Zh]
 simp only [Zg,Zf]
 rw [Zk,Zx (p:=.int ((ZA p ins).1:Int)) (by rfl) rfl rfl,Zh]
 simp only [Zg,Zf]
 rw [Zk,XM (n:=l) (by rfl) (by omega) rfl]
 unfold WL
 cases q:(ZO p.rows l (ZA p ins)).2.1 with
 | some o=>
  rw [lp.1 o q]
  rfl
 | none=>
  obtain ⟨y6,y7,y8,e⟩:=lp.2 q
  have sk:=Zcq hp so (l:=l)
  rw [e,Zh]
  by_cases he:p.rows.length≤(ZO p.rows l (ZA p ins)).2.2.1
  ·have he':(ZO p.rows l (ZA p ins)).2.2.1=p.rows.length:=Nat.le_antisymm sk.k he
   rw [ZH (v:=Zc .none) (by rw [he']; simp) (by rfl)]
   simp [Za1,he]
  ·rw [Zw (by simp; omega),ZV (v:=Zc .late) (by rfl)]
   simp [Za1,he]
end
end Dp


namespace Dp
open PySem
noncomputable def num:List (Str×Nat):=[(S "HuntError",177),(S "TooMany",178),(S "TooMany.__init__",179),(S "replaced",42),(S "operand_places",113),(S "around",0),(S "divided",1),(S "left_over",2),(S "reckon",3),(S "is_so",4),(S "behind",70),(S "Step",146),(S "Step.word",147),(S "Step.turned",148),(S "Sign",169),(S "Sign.word",170),(S "Sign.turned",171),(S "More",149),(S "More.word",150),(S "More.turned",151),(S "Turn",157),(S "Turn.word",158),(S "Turn.turned",159),(S "Out",152),(S "Out.word",153),(S "Out.turned",154),(S "Swap",160),(S "Swap.word",161),(S "Swap.turned",162),(S "Far",163),(S "Far.word",164),(S "Far.turned",165),(S "fakes",172),(S "fake_of",180),(S "worth",5),(S "began",6),(S "at_end",7),(S "values_behind",8),(S "place_behind",9),(S "moved",10),(S "is_outcome",11),(S "trail",12),(S "outcome",13),(S "check_trials",181),(S "outcomes",182),(S "bits_unlike",183),(S "bits_of",184),(S "_law_whole",17),(S "_law_cell_at",27),(S "_law_number",185),(S "_law_operand",28),(S "_law_row",29),(S "_law_program",30),(S "_law_counter",186),(S "_law_round",89),(S "_law_sum",187),(S "_law_so",33),(S "_law_worth",34),(S "_law_outcome",188),(S "_law_holds",48),(S "law",16)]
noncomputable def T:Nat→Option FD
 | 42=>some c_replaced
 | 113=>some c_operand_places
 | 0=>some c_around
 | 1=>some c_divided
 | 2=>some c_left_over
 | 3=>some c_reckon
 | 4=>some c_is_so
 | 70=>some c_behind
 | 147=>some c_Step_word
 | 148=>some c_Step_turned
 | 170=>some c_Sign_word
 | 171=>some c_Sign_turned
 | 150=>some c_More_word
 | 151=>some c_More_turned
 | 158=>some c_Turn_word
 | 159=>some c_Turn_turned
 | 153=>some c_Out_word
 | 154=>some c_Out_turned
 | 161=>some c_Swap_word
 | 162=>some c_Swap_turned
 | 164=>some c_Far_word
 | 165=>some c_Far_turned
 | 172=>some c_fakes
 | 180=>some c_fake_of
 | 5=>some c_worth
 | 6=>some c_began
 | 7=>some c_at_end
 | 8=>some c_values_behind
 | 9=>some c_place_behind
 | 10=>some c_moved
 | 11=>some c_is_outcome
 | 12=>some c_trail
 | 13=>some c_outcome
 | 181=>some c_check_trials
 | 182=>some c_outcomes
 | 183=>some c_bits_unlike
 | 184=>some c_bits_of
 | 17=>some c__law_whole
 | 27=>some c__law_cell_at_k55
 | 185=>some c__law_number
 | 28=>some c__law_operand_k55
 | 29=>some c__law_row_k55
 | 30=>some c__law_program_k55
 | 186=>some c__law_counter
 | 89=>some c__law_round
 | 187=>some c__law_sum
 | 33=>some c__law_so_k55
 | 34=>some c__law_worth
 | 188=>some c__law_outcome
 | 48=>some c__law_holds_k55
 | 16=>some c_law_k55
 | _=>none
end Dp


namespace Dp
open PySem
theorem Zgl:TrailT T:=⟨⟨⟨⟨rfl,rfl,rfl,rfl⟩,rfl,rfl,rfl,rfl,rfl,rfl,rfl⟩,rfl⟩,rfl,rfl⟩
theorem ZhX:LawOT T:=⟨rfl,rfl,rfl,rfl,rfl⟩
section
variable {n:Nat}{F:PFn}{m many:Nat}{c0 c1 c2 c3:Int}{r:Row}{y z:Opd}{s:Str}{x t:Nat}
noncomputable def JX:Row→Prop
 | .put _ _ s _=>PSg s
 | .ifr _ s _ _=>ISg s
 | _=>True
noncomputable def nxA (s:Str):Str:=if s=S "+" then S "-" else if s=S "-" then S "*" else if s=S "*" then S "/" else if s=S "/" then S "mod" else S "+"
noncomputable def nxB (s:Str):Str:=if s=S "<" then S "<=" else if s=S "<=" then S "=" else if s=S "=" then S ">=" else if s=S ">=" then S ">" else if s=S ">" then S "!=" else S "<"
noncomputable def Wl:Row→List Row
 | .put x y s z=>[.put x y (nxA s) z]
 | .ifr y s z t=>[.ifr y (nxB s) z t]
 | _=>[]
theorem ZjT (h:PSg s):Ze T (n+1) 70 [.kt [S "+",S "-",S "*",S "/",S "mod"],.str s]=some (.str (nxA s)):=by
 rw [Zm (f:=c_behind) rfl rfl rfl]
 rcases h with rfl | rfl | rfl | rfl | rfl<;>rfl
theorem ZjW (h:ISg s):Ze T (n+1) 70 [.kt [S "<",S "<=",S "=",S ">=",S ">",S "!="],.str s]=some (.str (nxB s)):=by
 rw [Zm (f:=c_behind) rfl rfl rfl]
 rcases h with rfl | rfl | rfl | rfl | rfl | rfl<;>rfl
theorem ZeP (h:JX r):Ze T (n+2) 171 [.obj 169,Zd r,.int (many:Int)]=some (.tup ((Wl r).map Zd)):=by
 cases r with
 | put x y s z=>
  rcases (h:PSg s) with rfl | rfl | rfl | rfl | rfl<;>rfl
 | ifr y s z t=>
  rcases (h:ISg s) with rfl | rfl | rfl | rfl | rfl | rfl<;>rfl
 | _=>rfl
noncomputable def WC:Opd→List Opd
 | .name _=>[]
 | .num c=>[.num (ZK (c+1))]
noncomputable def Xx:Row→List Row
 | .put x y s z=>(WC y).map (fun y'=>.put x y' s z)++(WC z).map (fun z'=>.put x y s z')
 | .ifr y s z t=>(WC y).map (fun y'=>.ifr y' s z t)++(WC z).map (fun z'=>.ifr y s z' t)
 | .tell y=>(WC y).map .tell
 | _=>[]
theorem Xa:(WC y).length≤1:=by cases y<;>simp [WC]
theorem V3:(Xx r).length≤2:=by
 cases r with
 | put x y s z=>have:=Xa (y:=y); have:=Xa (y:=z); simp [Xx]; omega
 | ifr y s z t=>have:=Xa (y:=y); have:=Xa (y:=z); simp [Xx]; omega
 | tell y=>have:=Xa (y:=y); simp [Xx]; omega
 | go t=>simp [Xx]
 | skip=>simp [Xx]
theorem ZeO:Ze T (n+2) 151 [.obj 149,Zd r,.int (many:Int)]=some (.tup ((Xx r).map Zd)):=by
 cases r with
 | put x y s z=>cases y<;>cases z<;>rfl
 | ifr y s z t=>cases y<;>cases z<;>rfl
 | tell y=>cases y<;>rfl
 | _=>rfl
noncomputable def Ux:Row→List Row
 | .skip=>[]
 | _=>[.skip]
theorem ZgF:Ze T (n+1) 154 [.obj 152,Zd r,.int (many:Int)]=some (.tup ((Ux r).map Zd)):=by
 cases r<;>rfl
noncomputable def ZgV (s:Str):Str:=if s=S "<" then S ">=" else if s=S ">=" then S "<" else if s=S ">" then S "<=" else if s=S "<=" then S ">" else if s=S "=" then S "!=" else S "="
noncomputable def Wn:Row→List Row
 | .ifr y s z t=>[.ifr y (ZgV s) z t]
 | _=>[]
theorem ZeR (h:JX r):Ze T (n+2) 159 [.obj 157,Zd r,.int (many:Int)]=some (.tup ((Wn r).map Zd)):=by
 cases r with
 | ifr y s z t=>
  rcases (h:ISg s) with rfl | rfl | rfl | rfl | rfl | rfl<;>rfl
 | _=>rfl
theorem ne_O:Yu .NotEq (ZI y) (ZI z)=some (.bl (!eqO y z)):=by
 have e:Yu .NotEq (ZI y) (ZI z)=some (.bl (!X6 (ZI y) (ZI z))):=by
  cases y<;>cases z<;>rfl
 rw [e,ZgO]
noncomputable def XC:Row→List Row
 | .put x y s z=>if eqO y z=true then [] else [.put x z s y]
 | .ifr y s z t=>if eqO y z=true then [] else [.ifr z s y t]
 | _=>[]
theorem QA:(XC r).length≤1:=by
 cases r<;>simp [XC]
 all_goals split<;>simp
theorem ZeQ:Ze T (n+1) 162 [.obj 160,Zd r,.int (many:Int)]=some (.tup ((XC r).map Zd)):=by
 cases r with
 | put x y s z=>
  rw [Zm (f:=c_Swap_turned) rfl rfl rfl]
  show Yx (px (Ze T n) [] c_Swap_turned.body [some (.obj 160),some (Zd (.put x y s z)),some (.int (many:Int))])=_
  unfold c_Swap_turned
  cases q:eqO y z
  ·rw [ZH (v:=.tup [Zd (.put x z s y)]) (by exact ne_O.trans (by rw [q]; rfl)) (by rfl)]
   simp only [XC,q]
   rfl
  ·rw [Zw (by exact ne_O.trans (by rw [q]; rfl)),Zw (by rfl),ZV (v:=.tup []) (by rfl)]
   simp only [XC,q]
   rfl
 | ifr y s z t=>
  rw [Zm (f:=c_Swap_turned) rfl rfl rfl]
  show Yx (px (Ze T n) [] c_Swap_turned.body [some (.obj 160),some (Zd (.ifr y s z t)),some (.int (many:Int))])=_
  unfold c_Swap_turned
  cases q:eqO y z
  ·rw [Zw (by rfl),ZH (v:=.tup [Zd (.ifr z s y t)]) (by exact ne_O.trans (by rw [q]; rfl)) (by rfl)]
   simp only [XC,q]
   rfl
  ·rw [Zw (by rfl),Zw (by exact ne_O.trans (by rw [q]; rfl)),ZV (v:=.tup []) (by rfl)]
   simp only [XC,q]
   rfl
 | _=>rfl
noncomputable def Va (many:Nat):Row→List Row
 | .go t=>if t < many then [.go (t+1)] else []
 | .ifr y s z t=>if t < many then [.ifr y s z (t+1)] else []
 | _=>[]
theorem Jv:(Va many r).length≤1:=by
 cases r<;>simp [Va]
 all_goals split<;>simp
theorem sl2 {a b:P}:Yj (.tup [a,b]) Option.none (some (-1))=some (.tup [a]):=rfl
theorem sl5 {a b c d e:P}:Yj (.tup [a,b,c,d,e]) Option.none (some (-1))=some (.tup [a,b,c,d]):=rfl
theorem ZgE:Ze T (n+1) 165 [.obj 163,Zd r,.int (many:Int)]=some (.tup ((Va many r).map Zd)):=by
 cases r with
 | go t=>
  rw [Zm (f:=c_Far_turned) rfl rfl rfl]
  show Yx (px (Ze T n) [] c_Far_turned.body [some (.obj 163),some (Zd (.go t)),some (.int (many:Int))])=_
  unfold c_Far_turned
  by_cases q:t < many
  ·rw [Zw (by show some (P.bl (decide ((t:Int)≥(many:Int))))=_; rw [decide_eq_false (by omega)]),ZV (v:=.tup [Zd (.go (t+1))]) (by rfl)]
   simp only [Va,q]
   rfl
  ·rw [ZH (v:=.tup []) (by show some (P.bl (decide ((t:Int)≥(many:Int))))=_; rw [decide_eq_true (by omega)]) (by rfl)]
   simp only [Va,q]
   rfl
 | ifr y s z t=>
  rw [Zm (f:=c_Far_turned) rfl rfl rfl]
  show Yx (px (Ze T n) [] c_Far_turned.body [some (.obj 163),some (Zd (.ifr y s z t)),some (.int (many:Int))])=_
  unfold c_Far_turned
  by_cases q:t < many
  ·rw [Zw (by show some (P.bl (decide ((t:Int)≥(many:Int))))=_; rw [decide_eq_false (by omega)]),ZV (v:=.tup [Zd (.ifr y s z (t+1))]) (by rfl)]
   simp only [Va,q]
   rfl
  ·rw [ZH (v:=.tup []) (by show some (P.bl (decide ((t:Int)≥(many:Int))))=_; rw [decide_eq_true (by omega)]) (by rfl)]
   simp only [Va,q]
   rfl
 | _=>rfl
theorem Jp {M:List Nat}{k:Nat}{e:CE}{q:CS}{π:Zv}{p:P}{xs:List P} (h:π[k]?=some (some (.lst true xs))) (he:pe F e π=some p) (hk:(M.contains k&&Zu M e p)=true) (hl:xs.length≤1000):px F M (.seq (.app k e) q) π=px F M q (Zq π k (.lst true (xs++[p]))):=by
 have z:xs.length < Zo:=by unfold Zo; omega
 rw [Zk,Q9 h,he,Option.bind_some,if_pos (by rw [hk,decide_eq_true z]; rfl),Zh]
noncomputable def fkR (many:Nat) (r:Row):List (Str×Row):=
 (Wl r).map (S "sign",·)++((Xx r).map (S "more",·)++((Wn r).map (S "turn",·)++((Ux r).map (S "out",·)++((XC r).map (S "swap",·)++(Va many r).map (S "far",·)))))
noncomputable def YC (k:Nat) (q:Str×Row):P:=.tup [.int (k:Int),.str q.1,Zd q.2]
noncomputable def XR (many:Nat):Nat→List Row→List P
 | _,[]=>[]
 | k,r :: rs=>(fkR many r).map (YC k)++XR many (k+1) rs
theorem Jw:(fkR many r).length≤8:=by
 have h1:(Wl r).length≤1:=by cases r<;>simp [Wl]
 have h2:=V3 (r:=r)
 have h3:(Wn r).length≤1:=by cases r<;>simp [Wn]
 have h4:(Ux r).length≤1:=by cases r<;>simp [Ux]
 have h5:=QA (r:=r)
 have h6:=Jv (many:=many) (r:=r)
 simp [fkR]
 omega
theorem VW:∀ (rs:List Row) (k:Nat),(XR many k rs).length≤8 * rs.length
 | [],_=>Nat.le_refl _
 | r :: rs,k=>by
  have h1:=Jw (many:=many) (r:=r)
  have h2:=VW rs (k+1)
  simp only [XR,List.length_append,List.length_map,List.length_cons]
  omega
theorem Zac {π:Zv}{fr:List Nat}{it elt:CE}{rs:List Row}{g:Row→P} (hi:pe F it π=some (.tup (rs.map Zd))) (hl:rs.length≤1000) (hf:∀ r,pe F elt (Yd π fr (Zd r))=some (g r)):pe F (.comp false fr it elt (.cst (.bl true))) π=some (.lst true (rs.map g)):=by
 have cr:∀ rs:List Row,YB (fun p=>pe F elt (Yd π fr p)) (fun p=>pe F (.cst (.bl true)) (Yd π fr p)) (rs.map Zd)=some (rs.map g):=fun rs=>by
  induction rs with
  | nil=>rfl
  | cons r rs ih=>
   rw [List.map_cons]
   unfold YB
   rw [show pe F (.cst (.bl true)) (Yd π fr (Zd r))=some (.bl true) from rfl,hf]
   simp only
   rw [ih]
   rfl
 rw [XL,hi,Option.bind_some,show YE false (.tup (rs.map Zd))=some (rs.map Zd) from rfl,Option.bind_some,if_pos (by rw [List.length_map]; exact hl),cr]
 rfl
noncomputable def Zgm:List (Nat×Nat):=[(146,148),(169,171),(149,151),(157,159),(152,154),(160,162),(163,165)]
noncomputable def Zgn:List (Nat×Nat):=[(146,147),(169,170),(149,150),(157,158),(152,153),(160,161),(163,164)]
theorem Zdj {x0 x2:Option P}{rows told:List P}{k i:Nat}{rs:List Row}{w:Str} (hT:We F Zgm (.obj i) (.tup [Zd r,.int (rows.length:Int)])=some (.tup (rs.map Zd))) (hW:We F Zgn (.obj i) (.tup [])=some (.str w)) (hr:rs.length≤10) (ht:told.length≤200) :
  px F [3] XD [x0,some (.tup rows),x2,some (.lst true told),some (.int (k:Int)),some (Zd r),some (.obj i)]=some (.nx [x0,some (.tup rows),x2,some (.lst true (told++rs.map fun q=>YC k (w,q))),some (.int (k:Int)),some (Zd r),some (.obj i)]):=by
 unfold Zgm at hT
 unfold Zgn at hW
 have e:pe F VR [x0,some (.tup rows),x2,some (.lst true told),some (.int (k:Int)),some (Zd r),some (.obj i)]=some (.lst true (rs.map fun q=>YC k (w,q))):=
  Zac (by first | rfl | simp [hT]) (by omega) fun q=>by
   show pe F _ [some (Zd q),some (.int (k:Int)),some (.obj i)]=_
   simp [hW,YC]
 unfold XD
 rw [Zk,ZfM (xs:=told) (ys:=rs.map fun q=>YC k (w,q)) rfl e rfl (by rw [List.length_map]; unfold Zo; omega),Zh,Zy]
 rfl
theorem Zfi {x0 x6:Option P}{rows told:List P}{k:Nat} (hS:F 171 [.obj 169,Zd r,.int (rows.length:Int)]=some (.tup ((Wl r).map Zd))) (hM:F 151 [.obj 149,Zd r,.int (rows.length:Int)]=some (.tup ((Xx r).map Zd))) (hU:F 159 [.obj 157,Zd r,.int (rows.length:Int)]=some (.tup ((Wn r).map Zd)))
  (hO:F 154 [.obj 152,Zd r,.int (rows.length:Int)]=some (.tup ((Ux r).map Zd))) (hP:F 162 [.obj 160,Zd r,.int (rows.length:Int)]=some (.tup ((XC r).map Zd))) (hA:F 165 [.obj 163,Zd r,.int (rows.length:Int)]=some (.tup ((Va rows.length r).map Zd)))
  (w1:F 170 [.obj 169]=some (.str (S "sign"))) (w2:F 150 [.obj 149]=some (.str (S "more"))) (w3:F 158 [.obj 157]=some (.str (S "turn"))) (w4:F 153 [.obj 152]=some (.str (S "out"))) (w5:F 161 [.obj 160]=some (.str (S "swap"))) (w6:F 164 [.obj 163]=some (.str (S "far"))) (ht:told.length≤150) :
  px F [3] Y4 [x0,some (.tup rows),some (.lst true [.obj 169,.obj 149,.obj 157,.obj 152,.obj 160,.obj 163]),some (.lst true told),some (.int (k:Int)),some (Zd r),x6]=some (.nx [x0,some (.tup rows),some (.lst true [.obj 169,.obj 149,.obj 157,.obj 152,.obj 160,.obj 163]),some (.lst true (told++(fkR rows.length r).map (YC k))),some (.int (k:Int)),some (Zd r),some (.obj 163)]):=by
 have h1:(Wl r).length≤1:=by cases r<;>simp [Wl]
 have h2:=V3 (r:=r)
 have h3:(Wn r).length≤1:=by cases r<;>simp [Wn]
 have h4:(Ux r).length≤1:=by cases r<;>simp [Ux]
 have h5:=QA (r:=r)
 have h6:=Jv (many:=rows.length) (r:=r)
 have st:∀ {told:List P}{i:Nat}{rs:List Row}{w:Str}{x6:Option P},We F Zgm (.obj i) (.tup [Zd r,.int (rows.length:Int)])=some (.tup (rs.map Zd))→We F Zgn (.obj i) (.tup [])=some (.str w)→rs.length≤10→told.length≤200→
   px F [3] XD (Zq [x0,some (.tup rows),some (.lst true [.obj 169,.obj 149,.obj 157,.obj 152,.obj 160,.obj 163]),some (.lst true told),some (.int (k:Int)),some (Zd r),x6] 6 (.obj i))=some (.nx [x0,some (.tup rows),some (.lst true [.obj 169,.obj 149,.obj 157,.obj 152,.obj 160,.obj 163]),some (.lst true (told++rs.map fun q=>YC k (w,q))),some (.int (k:Int)),some (Zd r),some (.obj i)]):=fun a b c d=>Zdj a b c d
 unfold Y4
 rw [Zk,ZdX (m:=true) (xs:=[.obj 169,.obj 149,.obj 157,.obj 152,.obj 160,.obj 163]) (by first | rfl | simp) (by rfl)]
 rw [Z6,st (i:=169) (rs:=Wl r) (w:=S "sign") hS w1 (by omega) (by omega),Yq]
 rw [Z6,st (i:=149) (rs:=Xx r) (w:=S "more") hM w2 (by omega) (by simp; omega),Yq]
 rw [Z6,st (i:=157) (rs:=Wn r) (w:=S "turn") hU w3 (by omega) (by simp; omega),Yq]
 rw [Z6,st (i:=152) (rs:=Ux r) (w:=S "out") hO w4 (by omega) (by simp; omega),Yq]
 rw [Z6,st (i:=160) (rs:=XC r) (w:=S "swap") hP w5 (by omega) (by simp; omega),Yq]
 rw [Z6,st (i:=163) (rs:=Va rows.length r) (w:=S "far") hA w6 (by omega) (by simp; omega),Yq,Wc,Zh,Zy]
 simp only [fkR,List.map_append,List.map_map,List.append_assoc,Function.comp_def]
theorem VU {B:P→P→Zv→Option PFl}{x y:P}{ps:List (P×P)}{π:Zv}:YM B ((x,y) :: ps) π=Ua (B x y π) (YM B ps):=by
 show (match B x y π with
  | some (.nx π')=>YM B ps π'
  | some (.ct π')=>YM B ps π'
  | some (.bk π')=>some (.nx π')
  | some (.rt v)=>some (.rt v)
  | none=>none)=_
 unfold Ua
 rfl
theorem Jy {x0:Option P}{rows:List P}{st:P} (row:∀ (r:Row) (told:List P) (k:Nat) (x6:Option P),JX r→told.length≤150→px F [3] Y4 [x0,some (.tup rows),some st,some (.lst true told),some (.int (k:Int)),some (Zd r),x6]=some (.nx [x0,some (.tup rows),some st,some (.lst true (told++(fkR rows.length r).map (YC k))),some (.int (k:Int)),some (Zd r),some (.obj 163)])) :
  ∀ (rs:List Row) (k:Nat) (told:List P) (x4 x5 x6:Option P),(∀ r∈rs,JX r)→told.length+8 * rs.length≤150→
  ∃ y4 y5 y6,YM (fun x y π=>px F [3] Y4 (Zq (Zq π 4 x) 5 y)) (Wt k (rs.map Zd)) [x0,some (.tup rows),some st,some (.lst true told),x4,x5,x6]=some (.nx [x0,some (.tup rows),some st,some (.lst true (told++XR rows.length k rs)),y4,y5,y6])
 | [],k,told,x4,x5,x6,_,_=>⟨x4,x5,x6,by rw [XR,List.append_nil]; rfl⟩
 | r :: rs,k,told,x4,x5,x6,h,hl=>by
  have hr:=Jw (many:=rows.length) (r:=r)
  rw [List.length_cons] at hl
  obtain ⟨y4,y5,y6,e⟩:=Jy row rs (k+1) (told++(fkR rows.length r).map (YC k)) (some (.int (k:Int))) (some (Zd r)) (some (.obj 163)) (fun q hq=>h q (List.mem_cons_of_mem _ hq)) (by simp; omega)
  refine ⟨y4,y5,y6,?_⟩
  show YM _ ((.int (k:Int),Zd r) :: Wt (k+1) (rs.map Zd)) _=_
  rw [VU]
  simp only [Zg,Zf]
  rw [row r told k x6 (h r List.mem_cons_self) (by omega),Yq,e,XR,List.append_assoc]
theorem Jm {p:Prog} (hg:∀ r∈p.rows,JX r) (hl:p.rows.length≤12):Ze T (n+4) 172 [Zs p]=some (.tup (XR p.rows.length 0 p.rows)):=by
 rw [Zm (f:=c_fakes) rfl rfl rfl]
 show Yx (px (Ze T (n+3)) [3] c_fakes.body [some (Zs p),none,none,none,none,none,none])=_
 have el:(p.rows.map Zd).length=p.rows.length:=List.length_map ..
 obtain ⟨y4,y5,y6,e⟩:=Jy (F:=Ze T (n+3)) (x0:=some (Zs p)) (rows:=p.rows.map Zd) (st:=.lst true [.obj 169,.obj 149,.obj 157,.obj 152,.obj 160,.obj 163]) (fun r told k x6 h hl=>
  Zfi (ZeP (n:=n+1) h) (ZeO (n:=n+1)) (ZeR (n:=n+1) h) (ZgF (n:=n+2)) (ZeQ (n:=n+2)) (ZgE (n:=n+2)) rfl rfl rfl rfl rfl rfl hl) p.rows 0 [] none none none hg (by simp; omega)
 rw [el,List.nil_append] at e
 unfold c_fakes
 rw [Zk,Zx (p:=.tup (p.rows.map Zd)) (by first | rfl | simp [Zs]) rfl rfl,Zh]
 simp only [Zg,Zf]
 rw [Zk,Zx (p:=.lst true [.obj 169,.obj 149,.obj 157,.obj 152,.obj 160,.obj 163]) (by first | rfl | simp) rfl rfl,Zh]
 simp only [Zg,Zf]
 rw [Zk,YV (p:=.lst true []) (by first | rfl | simp) rfl rfl,Zh]
 simp only [Zg,Zf]
 rw [Zk,ZdW (x:=.tup (p.rows.map Zd)) (xs:=p.rows.map Zd) (by first | rfl | simp) rfl rfl,e,Zh,ZV (v:=.tup (XR p.rows.length 0 p.rows)) (by first | rfl | simp)]
 rfl
noncomputable def fkT (many:Nat):Nat→List Row→List (Nat×Str×Row)
 | _,[]=>[]
 | k,r :: rs=>(fkR many r).map (fun q=>(k,q))++fkT many (k+1) rs
theorem Wa:∀ (rs:List Row) (k:Nat),XR many k rs=(fkT many k rs).map fun t=>YC t.1 t.2
 | [],_=>rfl
 | r :: rs,k=>by
  rw [XR,fkT,List.map_append,List.map_map,Wa rs (k+1)]
  rfl
noncomputable def ROk (m N:Nat) (r:Row):Prop:=Jn m N r∧RSg r
theorem JL (h:RSg r):JX r:=by
 cases r with
 | put x y s z=>exact h.1
 | ifr y s z t=>exact h
 | _=>trivial
theorem Zfy (h:PSg s):PSg (nxA s):=by
 rcases h with rfl | rfl | rfl | rfl | rfl
 ·exact .inr (.inl rfl)
 ·exact .inr (.inr (.inl rfl))
 ·exact .inr (.inr (.inr (.inl rfl)))
 ·exact .inr (.inr (.inr (.inr rfl)))
 ·exact .inl rfl
theorem Zfz (h:ISg s):ISg (nxB s):=by
 rcases h with rfl | rfl | rfl | rfl | rfl | rfl
 ·exact .inr (.inl rfl)
 ·exact .inr (.inr (.inl rfl))
 ·exact .inr (.inr (.inr (.inl rfl)))
 ·exact .inr (.inr (.inr (.inr (.inl rfl))))
 ·exact .inr (.inr (.inr (.inr (.inr rfl))))
 ·exact .inl rfl
theorem Zdg (h:ISg s):ISg (ZgV s):=by
 rcases h with rfl | rfl | rfl | rfl | rfl | rfl
 ·exact .inr (.inr (.inr (.inl rfl)))
 ·exact .inr (.inr (.inr (.inr (.inl rfl))))
 ·exact .inr (.inr (.inr (.inr (.inr rfl))))
 ·exact .inl rfl
 ·exact .inr (.inl rfl)
 ·exact .inr (.inr (.inl rfl))
theorem YO {q:Opd} (h:q∈WC y):YT m q∧OSm q:=by
 cases y with
 | name i=>cases h
 | num c=>
  rw [List.mem_singleton.mp h]
  exact ⟨Sm.around,Sm.around⟩
theorem Zfh (h:ROk m many r):∀ q∈fkR many r,ROk m many q.2:=by
 intro q hq
 obtain ⟨ok,sg⟩:=h
 have go:(∃ r',r'∈Wl r++Xx r++Wn r++Ux r++XC r++Va many r∧q.2=r'):=by
  refine ⟨q.2,?_,rfl⟩
  simp only [fkR,List.mem_append,List.mem_map] at hq ⊢
  rcases hq with ⟨a,h,rfl⟩ | ⟨a,h,rfl⟩ | ⟨a,h,rfl⟩ | ⟨a,h,rfl⟩ | ⟨a,h,rfl⟩ | ⟨a,h,rfl⟩<;>simp [h]
 obtain ⟨r',hr,rfl⟩:=go
 generalize q.2=r' at hr ⊢
 simp only [List.mem_append] at hr
 cases r with
 | put x y s z=>
  rcases hr with ((((h | h) | h) | h) | h) | h
  ·rw [List.mem_singleton.mp h]
   exact ⟨ok,Zfy sg.1,sg.2⟩
  ·rcases List.mem_append.mp h with h | h
   ·obtain ⟨o,ho,rfl⟩:=List.mem_map.mp h
    exact ⟨⟨ok.1,(YO ho).1,ok.2.2⟩,sg.1,(YO (m:=m) ho).2,sg.2.2⟩
   ·obtain ⟨o,ho,rfl⟩:=List.mem_map.mp h
    exact ⟨⟨ok.1,ok.2.1,(YO ho).1⟩,sg.1,sg.2.1,(YO (m:=m) ho).2⟩
  ·cases h
  ·rw [List.mem_singleton.mp h]
   exact ⟨trivial,trivial⟩
  ·replace h:r'∈(if eqO y z=true then [] else [Row.put x z s y]):=h
   split at h
   ·cases h
   ·rw [List.mem_singleton.mp h]
    exact ⟨⟨ok.1,ok.2.2,ok.2.1⟩,sg.1,sg.2.2,sg.2.1⟩
  ·cases h
 | ifr y s z t=>
  rcases hr with ((((h | h) | h) | h) | h) | h
  ·rw [List.mem_singleton.mp h]
   exact ⟨ok,Zfz sg⟩
  ·rcases List.mem_append.mp h with h | h
   ·obtain ⟨o,ho,rfl⟩:=List.mem_map.mp h
    exact ⟨⟨(YO ho).1,ok.2⟩,sg⟩
   ·obtain ⟨o,ho,rfl⟩:=List.mem_map.mp h
    exact ⟨⟨ok.1,(YO ho).1,ok.2.2⟩,sg⟩
  ·rw [List.mem_singleton.mp h]
   exact ⟨ok,Zdg sg⟩
  ·rw [List.mem_singleton.mp h]
   exact ⟨trivial,trivial⟩
  ·replace h:r'∈(if eqO y z=true then [] else [Row.ifr z s y t]):=h
   split at h
   ·cases h
   ·rw [List.mem_singleton.mp h]
    exact ⟨⟨ok.2.1,ok.1,ok.2.2⟩,sg⟩
  ·replace h:r'∈(if t < many then [Row.ifr y s z (t+1)] else []):=h
   split at h
   ·rename_i hl
    rw [List.mem_singleton.mp h]
    exact ⟨⟨ok.1,ok.2.1,hl⟩,sg⟩
   ·cases h
 | go t=>
  rcases hr with ((((h | h) | h) | h) | h) | h
  ·cases h
  ·cases h
  ·cases h
  ·rw [List.mem_singleton.mp h]
   exact ⟨trivial,trivial⟩
  ·cases h
  ·replace h:r'∈(if t < many then [Row.go (t+1)] else []):=h
   split at h
   ·rename_i hl
    rw [List.mem_singleton.mp h]
    exact ⟨hl,trivial⟩
   ·cases h
 | tell y=>
  rcases hr with ((((h | h) | h) | h) | h) | h
  ·cases h
  ·obtain ⟨o,ho,rfl⟩:=List.mem_map.mp h
   exact ⟨(YO ho).1,trivial⟩
  ·cases h
  ·rw [List.mem_singleton.mp h]
   exact ⟨trivial,trivial⟩
  ·cases h
  ·cases h
 | skip=>
  rcases hr with ((((h | h) | h) | h) | h) | h<;>cases h
theorem QQ:∀ {rs:List Row}{k:Nat},(∀ r∈rs,ROk m many r)→∀ t∈fkT many k rs,(k≤t.1∧t.1 < k+rs.length)∧ROk m many t.2.2
 | [],_,_,t,h=>nomatch h
 | r :: rs,k,g,t,h=>by
  rcases List.mem_append.mp h with h | h
  ·obtain ⟨q,hq,rfl⟩:=List.mem_map.mp h
   exact ⟨⟨Nat.le_refl _,by simp⟩,Zfh (g r List.mem_cons_self) q hq⟩
  ·obtain ⟨⟨h1,h2⟩,h3⟩:=QQ (fun q hq=>g q (List.mem_cons_of_mem _ hq)) t h
   exact ⟨⟨by omega,by simp; omega⟩,h3⟩
structure PG (p:Prog):Prop where
 rows:∀ r∈p.rows,ROk p.many p.rows.length r
 many:p.many≤100
 size:p.rows.length≤12
theorem PG.ok {p:Prog} (h:PG p):ProgOk p:=⟨fun r hr=>(h.rows r hr).1,h.many,by have:=h.size; omega⟩
noncomputable def ZE (p:Prog) (k:Nat) (r:Row):Prog:=⟨p.takes,p.many,p.rows.set k r⟩
theorem PG.turn {p:Prog}{k:Nat} (h:PG p) (hr:ROk p.many p.rows.length r):PG (ZE p k r):=
 ⟨fun q hq=>by
  show ROk p.many (p.rows.set k r).length q
  rw [List.length_set]
  rcases List.mem_or_eq_of_mem_set hq with z | z
  ·exact h.rows q z
  ·rw [z]; exact hr,h.many,by show (p.rows.set k r).length≤12; rw [List.length_set]; exact h.size⟩
theorem ZeT {p:Prog}{k:Nat} (hk:k < p.rows.length) (hl:p.rows.length≤12):Ze T (n+2) 180 [Zs p,.int (k:Int),Zd r]=some (Zs (ZE p k r)):=by
 rw [Zm (f:=c_fake_of) rfl rfl rfl]
 have rp:=WZ (T:=T) (n:=n) (xs:=p.rows.map Zd) (x:=k) (q:=Zd r) rfl (by simpa using hk) (by simp; omega)
 simp [c_fake_of,ZC,Zs,ZE,rp,List.map_set]
theorem ZeU {p:Prog}{ins:List Int}{l:Nat} (hp:ProgOk p) (h1:ins.length≤p.many) (hs:∀ v∈ins,Sm v) (hl:l≤900) :
  Ze T (n+8) 13 [Zs p,Zn ins,.int (l:Int)]=some (Zc (WL p.rows l (ZA p ins))):=by
 rw [Zm (f:=c_outcome) rfl rfl rfl]
 have tr:=ZcT (n:=n) Zgl hp h1 hs hl
 simp only [c_outcome,ZC,List.map_cons,List.map_nil,List.length_cons,List.length_nil,List.cons_append,List.nil_append,List.replicate]
 simp [tr,Ji,Za0]
noncomputable def WG (m:Nat) (ts:List (List Int)):Prop:=ts.length≤10∧∀ i∈ts,i.length≤m∧∀ v∈i,Sm v
noncomputable def Zz (p:Prog) (ts:List (List Int)) (l:Nat):List Out:=ts.map fun i=>WL p.rows l (ZA p i)
theorem Uj {f c:P→Option P}{g:List Int→P} (hc:∀ x,c x=some (.bl true)):∀ (ts:List (List Int)),(∀ i∈ts,f (Zn i)=some (g i))→YB f c (ts.map Zn)=some (ts.map g)
 | [],_=>rfl
 | t :: ts,h=>by
  rw [List.map_cons]
  unfold YB
  rw [hc,h t List.mem_cons_self]
  simp only
  rw [Uj hc ts fun i hi=>h i (List.mem_cons_of_mem _ hi)]
  rfl
theorem ZaH {p:Prog}{ts:List (List Int)}{l:Nat} (hp:ProgOk p) (ht:WG p.many ts) (hl:l≤900) :
  Ze T (n+9) 182 [Zs p,.tup (ts.map Zn),.int (l:Int)]=some (.lst true ((Zz p ts l).map Zc)):=by
 rw [Zm (f:=c_outcomes) rfl rfl rfl]
 have e:pe (Ze T (n+8)) YI [some (Zs p),some (.tup (ts.map Zn)),some (.int (l:Int))]=some (.lst true ((Zz p ts l).map Zc)):=by
  unfold YI
  rw [XL]
  show ((some (P.tup (ts.map Zn))).bind fun x=>_)=_
  rw [Option.bind_some,show YE false (.tup (ts.map Zn))=some (ts.map Zn) from rfl,Option.bind_some,if_pos (by have:=ht.1; simp; omega)]
  have cp:=Uj (f:=fun q=>pe (Ze T (n+8)) (.call 13 (.acons (.var 2) (.acons (.var 0) (.acons (.var 1) .anil))) []) (Yd [some (Zs p),some (.tup (ts.map Zn)),some (.int (l:Int))] [2,0] q)) (c:=fun q=>pe (Ze T (n+8)) (.cst (.bl true)) (Yd [some (Zs p),some (.tup (ts.map Zn)),some (.int (l:Int))] [2,0] q)) (g:=fun i=>Zc (WL p.rows l (ZA p i))) (fun _=>rfl) ts fun i hi=>by
   have o:=ZeU (n:=n) hp (ht.2 i hi).1 (ht.2 i hi).2 hl
   show pe (Ze T (n+8)) _ [some (Zn i),some (.int (l:Int)),some (Zs p)]=_
   simp [o]
  rw [cp]
  simp [Zz,Function.comp_def]
 show Yx (px (Ze T (n+8)) [] (.seq (.ret YI) .skip) [some (Zs p),some (.tup (ts.map Zn)),some (.int (l:Int))])=_
 rw [ZV e]
 rfl
theorem ZcU {ts:List P} (h:ts.length≤10):Ze T (n+1) 181 [.tup ts]=some .non:=by
 rw [Zm (f:=c_check_trials) rfl rfl rfl]
 show Yx (px (Ze T n) [] c_check_trials.body [some (.tup ts)])=_
 unfold c_check_trials
 rw [Zw (by simp; omega),Zy]
 rfl
noncomputable def X2 (a b:Out):Bool:=match Yu .NotEq (Zc a) (Zc b) with
 | some (.bl c)=>c
 | _=>false
theorem ZbR {a b:Out}:Yu .NotEq (Zc a) (Zc b)=some (.bl (X2 a b)):=by
 cases a<;>cases b<;>rfl
theorem Zas {a b:Out}:X2 a b=X2 b a:=by
 have e:∀ v w:Int,X2 (.told v) (.told w)=!(decide (v=w)):=fun v w=>by
  have h:Yu .NotEq (Zc (.told v)) (Zc (.told w))=some (.bl (!X6 (Zc (.told v)) (Zc (.told w)))):=rfl
  have h3:X2 (.told v) (.told w)=!X6 (Zc (.told v)) (Zc (.told w)):=by
   unfold X2
   rw [h]
  rw [h3]
  congr 1
  simp [Zc,X6,Xj]
 cases a<;>cases b<;>first | rfl | skip
 rw [e,e]
 congr 1
 exact decide_eq_decide.mpr ⟨Eq.symm,Eq.symm⟩
noncomputable def YU (w:Int):List (Out×Out)→Int
 | []=>0
 | q :: qs=>(if X2 q.1 q.2=true then w else 0)+YU (w * 2) qs
theorem QB {x0 x1:Option P}:∀ (qs:List (Out×Out)) (b w:Int) (x4 x5:Option P),
  ∃ y3 y4 y5,YM (fun x y π=>px F [] Yi (Zq (Zq π 4 x) 5 y)) (qs.map fun q=>(Zc q.1,Zc q.2)) [x0,x1,some (.int b),some (.int w),x4,x5]=some (.nx [x0,x1,some (.int (b+YU w qs)),y3,y4,y5])
 | [],b,w,x4,x5=>⟨_,x4,x5,by rw [YU,Int.add_zero]; rfl⟩
 | q :: qs,b,w,x4,x5=>by
  obtain ⟨y3,y4,y5,e⟩:=QB (x0:=x0) (x1:=x1) qs (b+if X2 q.1 q.2=true then w else 0) (w * 2) (some (Zc q.1)) (some (Zc q.2))
  refine ⟨y3,y4,y5,?_⟩
  rw [List.map_cons,VU]
  simp only [Zg,Zf]
  have l2:ZW 2=true:=by decide
  have o:px F [] Yi [x0,x1,some (.int b),some (.int w),some (Zc q.1),some (Zc q.2)]=some (.nx [x0,x1,some (.int (b+if X2 q.1 q.2=true then w else 0)),some (.int (w * 2)),some (Zc q.1),some (Zc q.2)]):=by
   unfold Yi
   have c:pe F (.cmp .NotEq (.var 4) (.var 5)) [x0,x1,some (.int b),some (.int w),some (Zc q.1),some (Zc q.2)]=some (.bl (X2 q.1 q.2)):=ZbR
   have mu:∀ (b':Int),pe F (.bin .Mult (.var 3) (.cst (.int (2)))) [x0,x1,some (.int b'),some (.int w),some (Zc q.1),some (Zc q.2)]=some (.int (w * 2)):=fun b'=>by
    show YL .Mult (.int w) (.int 2)=_
    rw [WM,l2,Bool.or_true,if_pos rfl]
   cases hq:X2 q.1 q.2 with
   | true=>
    rw [hq] at c
    rw [W0 (π':=[x0,x1,some (.int (b+w)),some (.int w),some (Zc q.1),some (Zc q.2)]) c (by
     rw [Yt (v:=.int (b+w)) (by rfl),Zy]
     rfl),Yt (mu _),Zy]
    rfl
   | false=>
    rw [hq] at c
    rw [Zw c,Yt (mu _),Zy]
    simp only [Zg,Zf,Bool.false_eq_true,if_false,Int.add_zero]
  rw [o,Yq,e,YU,Int.add_assoc]
theorem ZgK {as bs:List Out}:Ze T (n+1) 183 [.lst true (as.map Zc),.lst true (bs.map Zc)]=some (.int (YU 1 (as.zip bs))):=by
 rw [Zm (f:=c_bits_unlike) rfl rfl rfl]
 show Yx (px (Ze T n) [] c_bits_unlike.body [some (.lst true (as.map Zc)),some (.lst true (bs.map Zc)),none,none,none,none])=_
 unfold c_bits_unlike
 rw [Yt (v:=.int 0) (by rfl)]
 simp only [Zg,Zf]
 rw [Yt (v:=.int 1) (by rfl)]
 simp only [Zg,Zf]
 obtain ⟨y3,y4,y5,e⟩:=QB (F:=Ze T n) (x0:=some (.lst true (as.map Zc))) (x1:=some (.lst true (bs.map Zc))) (as.zip bs) 0 1 none none
 rw [Zk,ZdY (m:=true) (m':=true) (xs:=as.map Zc) (ys:=bs.map Zc) (by rfl) (by rfl),List.zip_map]
 rw [show (as.zip bs).map (Prod.map Zc Zc)=(as.zip bs).map (fun q=>(Zc q.1,Zc q.2)) from rfl,e,Zh,ZV rfl,Int.zero_add]
 rfl
noncomputable def YZ (p:Prog) (ts:List (List Int)) (l:Nat) (t:Nat×Str×Row):Int:=YU 1 ((Zz p ts l).zip (Zz (ZE p t.1 t.2.2) ts l))
theorem Zc8 {p:Prog}{ts:List (List Int)}{l:Nat}{told:List P}{t:Nat×Str×Row}{x5 x6 x7:Option P} (h180:F 180 [Zs p,.int (t.1:Int),Zd t.2.2]=some (Zs (ZE p t.1 t.2.2))) (h182:F 182 [Zs (ZE p t.1 t.2.2),.tup (ts.map Zn),.int (l:Int)]=some (.lst true ((Zz (ZE p t.1 t.2.2) ts l).map Zc)))
  (h183:F 183 [.lst true ((Zz p ts l).map Zc),.lst true ((Zz (ZE p t.1 t.2.2) ts l).map Zc)]=some (.int (YZ p ts l t))) (hl:told.length≤1000) :
  Q7 5 6 7 (px F [4] (.seq (.app 4 (.call 183 (.acons (.var 3) (.acons (.call 182 (.acons (.call 180 (.acons (.var 0) (.acons (.var 5) (.acons (.var 7) .anil))) []) (.acons (.var 1) (.acons (.var 2) .anil))) []) .anil)) [])) .skip)) (YC t.1 t.2) [some (Zs p),some (.tup (ts.map Zn)),some (.int (l:Int)),some (.lst true ((Zz p ts l).map Zc)),some (.lst true told),x5,x6,x7] =
   some (.nx [some (Zs p),some (.tup (ts.map Zn)),some (.int (l:Int)),some (.lst true ((Zz p ts l).map Zc)),some (.lst true (told++[.int (YZ p ts l t)])),some (.int (t.1:Int)),some (.str t.2.1),some (Zd t.2.2)]):=by
 show px F [4] _ [some (Zs p),some (.tup (ts.map Zn)),some (.int (l:Int)),some (.lst true ((Zz p ts l).map Zc)),some (.lst true told),some (.int (t.1:Int)),some (.str t.2.1),some (Zd t.2.2)]=_
 rw [Jp (xs:=told) (p:=.int (YZ p ts l t)) rfl (by first | rfl | simp [h180,h182,h183]) (by rfl) hl,Zy]
 rfl
theorem Jr {p:Prog}{ts:List (List Int)}{l:Nat}:∀ (fs:List (Nat×Str×Row)) (told:List P) (x5 x6 x7:Option P),(∀ t∈fs,F 180 [Zs p,.int (t.1:Int),Zd t.2.2]=some (Zs (ZE p t.1 t.2.2))∧F 182 [Zs (ZE p t.1 t.2.2),.tup (ts.map Zn),.int (l:Int)]=some (.lst true ((Zz (ZE p t.1 t.2.2) ts l).map Zc))∧F 183 [.lst true ((Zz p ts l).map Zc),.lst true ((Zz (ZE p t.1 t.2.2) ts l).map Zc)]=some (.int (YZ p ts l t)))→told.length+fs.length≤900→
  ∃ y5 y6 y7,ZR (Q7 5 6 7 (px F [4] (.seq (.app 4 (.call 183 (.acons (.var 3) (.acons (.call 182 (.acons (.call 180 (.acons (.var 0) (.acons (.var 5) (.acons (.var 7) .anil))) []) (.acons (.var 1) (.acons (.var 2) .anil))) []) .anil)) [])) .skip))) (fs.map fun t=>YC t.1 t.2) [some (Zs p),some (.tup (ts.map Zn)),some (.int (l:Int)),some (.lst true ((Zz p ts l).map Zc)),some (.lst true told),x5,x6,x7] =
   some (.nx [some (Zs p),some (.tup (ts.map Zn)),some (.int (l:Int)),some (.lst true ((Zz p ts l).map Zc)),some (.lst true (told++fs.map fun t=>.int (YZ p ts l t))),y5,y6,y7])
 | [],told,x5,x6,x7,_,_=>⟨x5,x6,x7,by rw [List.map_nil,List.map_nil,List.append_nil]; exact Wc⟩
 | t :: fs,told,x5,x6,x7,h,hl=>by
  rw [List.length_cons] at hl
  obtain ⟨h1,h2,h3⟩:=h t List.mem_cons_self
  obtain ⟨y5,y6,y7,e⟩:=Jr fs (told++[.int (YZ p ts l t)]) (some (.int (t.1:Int))) (some (.str t.2.1)) (some (Zd t.2.2)) (fun q hq=>h q (List.mem_cons_of_mem _ hq)) (by simp; omega)
  refine ⟨y5,y6,y7,?_⟩
  rw [List.map_cons,Z6,Zc8 h1 h2 h3 (by omega),Yq,e,List.append_assoc]
  rfl
theorem Jx {p:Prog} (h:p.rows.length≤12):(fkT p.rows.length 0 p.rows).length≤96:=by
 have:=VW (many:=p.rows.length) p.rows 0
 rw [Wa,List.length_map] at this
 omega
theorem ZaF {p:Prog}{ts:List (List Int)}{l:Nat} (hp:PG p) (ht:WG p.many ts) (hl:l≤900) :
  Ze T (n+10) 184 [Zs p,.tup (ts.map Zn),.int (l:Int)]=some (.tup ((fkT p.rows.length 0 p.rows).map fun t=>.int (YZ p ts l t))):=by
 rw [Zm (f:=c_bits_of) rfl rfl rfl]
 have f1:=Jm (n:=n+5) (p:=p) (fun r hr=>JL (hp.rows r hr).2) hp.size
 rw [Wa] at f1
 have o1:=ZaH (n:=n) hp.ok ht hl
 have ck:=ZcU (n:=n+8) (ts:=ts.map Zn) (by simpa using ht.1)
 have fl:=Jx hp.size
 obtain ⟨y5,y6,y7,e⟩:=Jr (F:=Ze T (n+9)) (p:=p) (ts:=ts) (l:=l) (fkT p.rows.length 0 p.rows) [] none none none (fun t h=>by
  obtain ⟨⟨_,h2⟩,h3⟩:=QQ (m:=p.many) hp.rows t h
  have ht':WG (ZE p t.1 t.2.2).many ts:=ht
  exact ⟨ZeT (n:=n+7) (by omega) hp.size,ZaH (n:=n) (hp.turn h3).ok ht' hl,ZgK (n:=n+8)⟩) (by simp; omega)
 show Yx (px (Ze T (n+9)) [4] c_bits_of.body [some (Zs p),some (.tup (ts.map Zn)),some (.int (l:Int)),none,none,none,none,none])=_
 unfold c_bits_of
 rw [Zk,ZfL (p:=.non) (by first | rfl | simp [ck]) (by rfl),Zh]
 rw [Zk,Zx (p:=.lst true ((Zz p ts l).map Zc)) (by first | rfl | simp [o1]) rfl rfl,Zh]
 simp only [Zg,Zf]
 rw [Zk,YV (p:=.lst true []) (by rfl) rfl rfl,Zh]
 simp only [Zg,Zf]
 rw [Zk,ZdV (xs:=(fkT p.rows.length 0 p.rows).map fun t=>YC t.1 t.2) (by first | rfl | simp [f1]) (by rfl),e,Zh,List.nil_append,ZV (v:=.tup ((fkT p.rows.length 0 p.rows).map fun t=>.int (YZ p ts l t))) (by rfl)]
 rfl
theorem VN {q:Out×Out}:∀ (qs:List (Out×Out)) (w:Int),YU w (qs++[q])=YU w qs+(if X2 q.1 q.2=true then w * 2 ^ qs.length else 0)
 | [],w=>by simp [YU]
 | a :: qs,w=>by
  rw [List.cons_append,YU,YU,VN qs (w * 2),List.length_cons,Int.add_assoc,show w * 2 * 2 ^ qs.length=w * 2 ^ (qs.length+1) by rw [Int.pow_succ,Int.mul_assoc,Int.mul_comm 2]]
theorem ZdB {p:Prog}{ts:List (List Int)}{l i:Nat}{rows:P}{ds:List Out}{b:Int}{o d:Out}{x0 x1 x4 x6 x7 x9 x10:Option P} (hi:i < 100) (h188:∀ v,ts[i]?=some v→F 188 [rows,.int (m:Int),Zn v,.int (l:Int)]=some (Zc o)) (hit:i < ts.length) (hd:ds[i]?=some d) :
  px F [] ZY [x0,x1,some (.lst true (ts.map Zn)),some (.int (l:Int)),x4,some (.int (m:Int)),x6,x7,some (.lst true (ds.map Zc)),x9,x10,some rows,some (.int b),some (.int (i:Int))] =
   some (.nx [x0,x1,some (.lst true (ts.map Zn)),some (.int (l:Int)),x4,some (.int (m:Int)),x6,x7,some (.lst true (ds.map Zc)),x9,x10,some rows,some (.int (b+if X2 o d=true then 2 ^ i else 0)),some (.int (i:Int))]):=by
 have a1:atP (ts.map Zn) (i:Int)=some (Zn ts[i]):=by rw [Yw rfl,List.getElem?_map,List.getElem?_eq_getElem hit]; rfl
 have a2:atP (ds.map Zc) (i:Int)=some (Zc d):=by rw [Yw rfl,List.getElem?_map,hd]; rfl
 have h:=h188 _ (List.getElem?_eq_getElem hit)
 unfold ZY
 have c:pe F (.cmp .NotEq (.call 188 (.acons (.var 11) (.acons (.var 5) (.acons (.ix (.var 2) (.var 13)) (.acons (.var 3) .anil)))) []) (.ix (.var 8) (.var 13))) [x0,x1,some (.lst true (ts.map Zn)),some (.int (l:Int)),x4,some (.int (m:Int)),x6,x7,some (.lst true (ds.map Zc)),x9,x10,some rows,some (.int b),some (.int (i:Int))]=some (.bl (X2 o d)):=by
  rw [←ZbR]
  simp [a1,a2,h]
 cases hq:X2 o d with
 | true=>
  rw [hq] at c
  rw [W0 (π':=[x0,x1,some (.lst true (ts.map Zn)),some (.int (l:Int)),x4,some (.int (m:Int)),x6,x7,some (.lst true (ds.map Zc)),x9,x10,some rows,some (.int (b+2 ^ i)),some (.int (i:Int))]) c (by
   rw [Yt (v:=.int (b+2 ^ i)) (by
    have l1:ZW 1=true:=by decide
    have sh:YL .LShift (.int 1) (.int (i:Int))=some (.int (2 ^ i)):=by
     rw [Jq,if_pos ⟨by omega,by omega,l1⟩,Int.one_mul,Int.toNat_natCast]
    simp [-Jq,sh]),Zy]
   rfl),Zy]
  rfl
 | false=>
  rw [hq] at c
  rw [Zw c,Zy]
  simp only [Bool.false_eq_true,if_false,Int.add_zero]
theorem ZaA {a:Int}:Ze T (n+1) 17 [.int a]=some (.bl true):=by
 rw [Zm (f:=c__law_whole) rfl rfl rfl]
 rfl
theorem Vr {p:Prog}{ts:List (List Int)}{l i:Nat} (h:i < ts.length):(Zz p ts l)[i]?=some (WL p.rows l (ZA p ts[i])):=by
 unfold Zz
 rw [List.getElem?_map,List.getElem?_eq_getElem h]
 rfl
theorem ZcL {as bs:List Out}{i:Nat}{a b:Out} (h1:as[i]?=some a) (h2:bs[i]?=some b):(as.zip bs).take (i+1)=(as.zip bs).take i++[(a,b)]:=by
 have h:(as.zip bs)[i]?=some (a,b):=by
  rw [List.getElem?_zip_eq_some]
  exact ⟨h1,h2⟩
 rw [List.take_succ,h]
 rfl
theorem Zb1 {p:Prog}{ts:List (List Int)}{l j:Nat}{t:Nat×Str×Row}{fs:List (Nat×Str×Row)} (hp:PG p) (ht:WG p.many ts) (hl:l≤900) (hj:fs[j]?=some t) (hk:t.1 < p.rows.length) (hr:ROk p.many p.rows.length t.2.2) {x4 x10 x11 x12 x13:Option P} :
  ∃ y10 y11 y12 y13,px (Ze T (n+3)) [] ZZ [some (.tup (fs.map fun t=>.int (YZ p ts l t))),some (Zs p),some (.lst true (ts.map Zn)),some (.int (l:Int)),x4,some (.int (p.many:Int)),some (.tup (p.rows.map Zd)),some (.tup (fs.map fun t=>YC t.1 t.2)),some (.lst true ((Zz p ts l).map Zc)),some (.int (j:Int)),x10,x11,x12,x13] =
   some (.nx [some (.tup (fs.map fun t=>.int (YZ p ts l t))),some (Zs p),some (.lst true (ts.map Zn)),some (.int (l:Int)),x4,some (.int (p.many:Int)),some (.tup (p.rows.map Zd)),some (.tup (fs.map fun t=>YC t.1 t.2)),some (.lst true ((Zz p ts l).map Zc)),some (.int (j:Int)),y10,y11,y12,y13]):=by
 have a7:atP (fs.map fun t=>YC t.1 t.2) (j:Int)=some (YC t.1 t.2):=by rw [Yw rfl,List.getElem?_map,hj]; rfl
 have a0:atP (fs.map fun t=>P.int (YZ p ts l t)) (j:Int)=some (.int (YZ p ts l t)):=by rw [Yw rfl,List.getElem?_map,hj]; rfl
 have hsz:=hp.size
 have li:t.1 < (p.rows.map Zd).length:=by simpa using hk
 have l1:=Qt li
 have l2:=Qs li
 have ok':=(hp.turn (k:=t.1) hr).ok
 have g':∀ r∈(ZE p t.1 t.2.2).rows,RSg r:=fun q hq=>((hp.turn (k:=t.1) hr).rows q hq).2
 unfold ZZ
 rw [Yt (v:=.int (t.1:Int)) (by first | rfl | simp [hj,YC])]
 simp only [Zg,Zf]
 have sz:∀ k,k≤30→k≤Zo:=fun k h=>by unfold Zo; omega
 have e11:pe (Ze T (n+3)) (.bin .Add (.bin .Add (.slice (.var 6) .nop (.part (.var 10))) (.tupE (.acons (.ix (.ix (.var 7) (.var 9)) (.cst (.int (2)))) .anil))) (.slice (.var 6) (.part (.bin .Add (.var 10) (.cst (.int (1))))) .nop)) [some (.tup (fs.map fun t=>.int (YZ p ts l t))),some (Zs p),some (.lst true (ts.map Zn)),some (.int (l:Int)),x4,some (.int (p.many:Int)),some (.tup (p.rows.map Zd)),some (.tup (fs.map fun t=>YC t.1 t.2)),some (.lst true ((Zz p ts l).map Zc)),some (.int (j:Int)),some (.int (t.1:Int)),x11,x12,x13]=some (.tup ((ZE p t.1 t.2.2).rows.map Zd)):=by
  have e1:t.1+1≤Zo:=sz _ (by omega)
  have e2:t.1+1+(p.rows.length - (t.1+1))≤Zo:=sz _ (by omega)
  show _=some (P.tup ((p.rows.set t.1 t.2.2).map Zd))
  rw [List.map_set,List.set_eq_take_append_cons_drop,if_pos li]
  generalize hR:p.rows.map Zd=R at l1 l2 li ⊢
  have lR:R.length=p.rows.length:=by rw [←hR]; simp
  simp [l1,l2,hj,YC,lR,Nat.min_eq_left (Nat.le_of_lt hk),e1,e2]
 rw [Yt e11]
 simp only [Zg,Zf]
 rw [Yt (v:=.int 0) (by rfl)]
 simp only [Zg,Zf]
 obtain ⟨π,e,y13,rfl⟩:=YN (B:=fun d π=>px (Ze T (n+3)) [] ZY (Zq π 13 d)) (fun i π=>∃ y13,π=[some (.tup (fs.map fun t=>.int (YZ p ts l t))),some (Zs p),some (.lst true (ts.map Zn)),some (.int (l:Int)),x4,some (.int (p.many:Int)),some (.tup (p.rows.map Zd)),some (.tup (fs.map fun t=>YC t.1 t.2)),some (.lst true ((Zz p ts l).map Zc)),some (.int (j:Int)),some (.int (t.1:Int)),some (.tup ((ZE p t.1 t.2.2).rows.map Zd)),some (.int (YU 1 (((Zz p ts l).zip (Zz (ZE p t.1 t.2.2) ts l)).take i))),y13]) (m:=ts.length) (fun i hi π hπ=>by
  obtain ⟨y13,rfl⟩:=hπ
  have hi10:=ht.1
  have e:=ZdB (F:=Ze T (n+3)) (p:=p) (ts:=ts) (m:=p.many) (l:=l) (i:=i) (rows:=.tup ((ZE p t.1 t.2.2).rows.map Zd)) (ds:=Zz p ts l) (b:=YU 1 (((Zz p ts l).zip (Zz (ZE p t.1 t.2.2) ts l)).take i)) (o:=WL (ZE p t.1 t.2.2).rows l (ZA (ZE p t.1 t.2.2) ts[i])) (d:=WL p.rows l (ZA p ts[i])) (x0:=some (.tup (fs.map fun t=>.int (YZ p ts l t)))) (x1:=some (Zs p)) (x4:=x4) (x6:=some (.tup (p.rows.map Zd))) (x7:=some (.tup (fs.map fun t=>YC t.1 t.2))) (x9:=some (.int (j:Int))) (x10:=some (.int (t.1:Int))) (by omega) (fun v hv=>by
   rw [List.getElem?_eq_getElem hi] at hv
   cases hv
   have tr:=ht.2 _ (List.getElem_mem hi)
   exact VL (n:=n) (p:=ZE p t.1 t.2.2) ZhX ok' g' tr.1 tr.2 hl) hi (Vr hi)
  refine ⟨_,e,some (.int (i:Int)),?_⟩
  rw [ZcL (Vr hi) (Vr hi),VN,Zas,Int.one_mul]
  have ln:(((Zz p ts l).zip (Zz (ZE p t.1 t.2.2) ts l)).take i).length=i:=by
   rw [List.length_take,List.length_zip]
   unfold Zz
   simp
   omega
  rw [ln]) (π:=[some (.tup (fs.map fun t=>.int (YZ p ts l t))),some (Zs p),some (.lst true (ts.map Zn)),some (.int (l:Int)),x4,some (.int (p.many:Int)),some (.tup (p.rows.map Zd)),some (.tup (fs.map fun t=>YC t.1 t.2)),some (.lst true ((Zz p ts l).map Zc)),some (.int (j:Int)),some (.int (t.1:Int)),some (.tup ((ZE p t.1 t.2.2).rows.map Zd)),some (.int 0),x13]) ⟨x13,rfl⟩
 have ln:((Zz p ts l).zip (Zz (ZE p t.1 t.2.2) ts l)).take ts.length=(Zz p ts l).zip (Zz (ZE p t.1 t.2.2) ts l):=List.take_of_length_le (by
  rw [List.length_zip]; unfold Zz; simp)
 rw [ln] at e
 rw [Zk,XM (n:=ts.length) (by first | rfl | simp) (by have:=ht.1; omega) rfl,e,Zh]
 refine ⟨some (.int (t.1:Int)),some (.tup ((ZE p t.1 t.2.2).rows.map Zd)),some (.int (YU 1 ((Zz p ts l).zip (Zz (ZE p t.1 t.2.2) ts l)))),y13,?_⟩
 rw [Zw (by
  have w:=ZaA (n:=n+2) (a:=YZ p ts l t)
  simp [hj,w]
  rfl),Zy]
theorem Jo {p:Prog}{ts:List (List Int)}{l:Nat} (hp:PG p) (ht:WG p.many ts) (hl:l≤900) :
  Ze T (n+5) 48 [.tup ((fkT p.rows.length 0 p.rows).map fun t=>.int (YZ p ts l t)),Zs p,.lst true (ts.map Zn),.int (l:Int)]=some (.bl true):=by
 rw [Zm (f:=c__law_holds_k55) rfl rfl rfl]
 have f1:=Jm (n:=n) (p:=p) (fun r hr=>JL (hp.rows r hr).2) hp.size
 rw [Wa] at f1
 have fl:=Jx hp.size
 have ok:=QQ (k:=0) (m:=p.many) (many:=p.rows.length) hp.rows
 generalize fkT p.rows.length 0 p.rows=fs at f1 fl ok ⊢
 have e8:∀ x0 x1 x4 x7 x8 x9 x10 x11 x12 x13,pe (Ze T (n+4)) Yl [x0,x1,some (.lst true (ts.map Zn)),some (.int (l:Int)),x4,some (.int (p.many:Int)),some (.tup (p.rows.map Zd)),x7,x8,x9,x10,x11,x12,x13]=some (.lst true ((Zz p ts l).map Zc)):=fun x0 x1 x4 x7 x8 x9 x10 x11 x12 x13=>by
  unfold Yl
  rw [XL]
  show ((some (P.lst true (ts.map Zn))).bind fun x=>_)=_
  rw [Option.bind_some,show YE false (.lst true (ts.map Zn))=some (ts.map Zn) from rfl,Option.bind_some,if_pos (by have:=ht.1; simp; omega)]
  have cp:=Uj (f:=fun q=>pe (Ze T (n+4)) (.call 188 (.acons (.var 3) (.acons (.var 2) (.acons (.var 0) (.acons (.var 1) .anil)))) []) (Yd [x0,x1,some (.lst true (ts.map Zn)),some (.int (l:Int)),x4,some (.int (p.many:Int)),some (.tup (p.rows.map Zd)),x7,x8,x9,x10,x11,x12,x13] [3,5,6] q)) (c:=fun q=>pe (Ze T (n+4)) (.cst (.bl true)) (Yd [x0,x1,some (.lst true (ts.map Zn)),some (.int (l:Int)),x4,some (.int (p.many:Int)),some (.tup (p.rows.map Zd)),x7,x8,x9,x10,x11,x12,x13] [3,5,6] q)) (g:=fun i=>Zc (WL p.rows l (ZA p i))) (fun _=>rfl) ts fun i hi=>by
   have o:=VL (n:=n+1) (p:=p) ZhX hp.ok (fun r hr=>(hp.rows r hr).2) (ht.2 i hi).1 (ht.2 i hi).2 hl
   show pe (Ze T (n+4)) _ [some (Zn i),some (.int (l:Int)),some (.int (p.many:Int)),some (.tup (p.rows.map Zd))]=_
   simp [o]
  rw [cp]
  simp [Zz,Function.comp_def]
 show Yx (px (Ze T (n+4)) [] c__law_holds_k55.body [some (.tup (fs.map fun t=>.int (YZ p ts l t))),some (Zs p),some (.lst true (ts.map Zn)),some (.int (l:Int)),none,none,none,none,none,none,none,none,none,none])=_
 obtain ⟨π,e,y9,y10,y11,y12,y13,rfl⟩:=YN (B:=fun d π=>px (Ze T (n+4)) [] ZZ (Zq π 9 d)) (fun i π=>∃ y9 y10 y11 y12 y13,π=[some (.tup (fs.map fun t=>.int (YZ p ts l t))),some (Zs p),some (.lst true (ts.map Zn)),some (.int (l:Int)),some p.takes,some (.int (p.many:Int)),some (.tup (p.rows.map Zd)),some (.tup (fs.map fun t=>YC t.1 t.2)),some (.lst true ((Zz p ts l).map Zc)),y9,y10,y11,y12,y13]) (m:=fs.length) (fun i hi π hπ=>by
  obtain ⟨y9,y10,y11,y12,y13,rfl⟩:=hπ
  obtain ⟨⟨_,h2⟩,h3⟩:=ok fs[i] (List.getElem_mem hi)
  obtain ⟨z10,z11,z12,z13,e⟩:=Zb1 (n:=n+1) (x4:=some p.takes) (x10:=y10) (x11:=y11) (x12:=y12) (x13:=y13) hp ht hl (List.getElem?_eq_getElem hi) (by omega) h3
  exact ⟨_,e,some (.int (i:Int)),z10,z11,z12,z13,rfl⟩) (π:=[some (.tup (fs.map fun t=>.int (YZ p ts l t))),some (Zs p),some (.lst true (ts.map Zn)),some (.int (l:Int)),some p.takes,some (.int (p.many:Int)),some (.tup (p.rows.map Zd)),some (.tup (fs.map fun t=>YC t.1 t.2)),some (.lst true ((Zz p ts l).map Zc)),none,none,none,none,none]) ⟨none,none,none,none,none,rfl⟩
 unfold c__law_holds_k55
 rw [Zk,ZdZ (x:=p.takes) (y:=.int (p.many:Int)) (z:=.tup (p.rows.map Zd)) (by rfl) (by rfl),Zh]
 simp only [Zg,Zf]
 rw [Yt (v:=.tup (fs.map fun t=>YC t.1 t.2)) (by first | rfl | simp [f1])]
 simp only [Zg,Zf]
 rw [Zw (by first | rfl | simp)]
 rw [Yt (e8 _ _ _ _ _ _ _ _ _ _)]
 simp only [Zg,Zf]
 rw [Zk,XM (n:=fs.length) (by first | rfl | simp) (by omega) rfl,e,Zh,ZV (v:=.bl true) (by rfl)]
 rfl
theorem Qb {i j:Int} (h:ZW i=true):YL .Mult (.int i) (.int j)=some (.int (i * j)):=by
 rw [WM,h,Bool.true_or,if_pos rfl]
theorem ZhW {e:CE}{π:Zv}{i:Int} (h:ZW i=true) (he:pe F e π=some (.int i)):pe F (.bin .Mult e e) π=some (.int (i * i)):=by
 rw [Ym,he,Option.bind_some,Option.bind_some,Qb h]
theorem JC {k:Nat} (h:k≤1000):∃ i:Int,i=(k:Int)∧ZW i=true:=⟨_,rfl,Ur (by omega) (by omega)⟩
theorem J9 {A B:Int}{e1 e2:CE}{π:Zv} (hA:ZW A=true) (h1:pe F e1 π=some (.int A)) (h2:pe F e2 π=some (.int B)):pe F (.bin .Mod (.bin .Mult e1 (.bin .Add e2 (.cst (.int (30011))))) (.cst (.int (2147483647)))) π=some (.int (A * (B+30011) % 2147483647)):=by
 rw [Ym,Ym,h1,Option.bind_some,Ym,h2,Option.bind_some,Vt,Wg,Option.bind_some,XE,Option.bind_some,Qb hA,Option.bind_some,Vt,Wg,Option.bind_some,Zc3,if_pos (by omega)]
theorem Zay {h0:Int}:ZW (h0 % 1000003+11)=true:=Ur (by omega) (by omega)
theorem QD {ns:List Int}{k:Nat} (hn:ns.length≤63) (hk:k≤1000):∃ c,Ze T (n+1) 27 [.lst false (ns.map .int),.int (k:Int)]=some (.int c):=by
 rw [Zm (f:=c__law_cell_at_k55) rfl rfl rfl]
 show ∃ c,Yx (px (Ze T n) [] c__law_cell_at_k55.body [some (.lst false (ns.map .int)),some (.int (k:Int))])=_
 unfold c__law_cell_at_k55
 by_cases h:k < ns.length
 ·refine ⟨ns[k],?_⟩
  rw [ZH (v:=.int ns[k]) (by first | rfl | simp [h]) (by first | rfl | simp [h])]
  rfl
 ·rw [Zw (by simp; omega)]
  obtain ⟨h0,e0⟩:∃ h0,pe (Ze T n) (.ix (.bin .Add (.var 0) (.lstE (.acons (.cst (.int (0))) .anil))) (.cst (.int (0)))) [some (.lst false (ns.map .int)),some (.int (k:Int))]=some (.int h0):=by
   have hz:ns.length+1≤Zo:=by unfold Zo; omega
   cases ns with
   | nil=>exact ⟨0,by rfl⟩
   | cons a l=>exact ⟨a,by
     rw [List.length_cons] at hz
     simp [hz]⟩
  have e1:pe (Ze T n) (.bin .Add (.bin .Mod (.ix (.bin .Add (.var 0) (.lstE (.acons (.cst (.int (0))) .anil))) (.cst (.int (0)))) (.cst (.int (1000003)))) (.cst (.int (11)))) [some (.lst false (ns.map .int)),some (.int (k:Int))]=some (.int (h0 % 1000003+11)):=by
   rw [Ym,Ym,e0]
   simp
  obtain ⟨i,hi,lk⟩:=JC hk
  rw [←hi] at e1 ⊢
  exact ⟨_,by rw [ZV (J9 Zay e1 (ZhW lk rfl))]; rfl⟩
theorem ZaG {c:Int}:∃ v,Sm v∧Ze T (n+1) 185 [.int c]=some (.int v):=by
 rw [Zm (f:=c__law_number) rfl rfl rfl]
 by_cases h:c % 4=0
 ·rcases (show c / 4 % 5=0∨c / 4 % 5=1∨c / 4 % 5=2∨c / 4 % 5=3∨c / 4 % 5=4 by omega) with e | e | e | e | e
  ·exact ⟨-1000000000,⟨by omega,by omega⟩,by simp [c__law_number,ZC,h,e]⟩
  ·exact ⟨999999999,⟨by omega,by omega⟩,by simp [c__law_number,ZC,h,e]⟩
  ·exact ⟨0,⟨by omega,by omega⟩,by simp [c__law_number,ZC,h,e]⟩
  ·exact ⟨1,⟨by omega,by omega⟩,by simp [c__law_number,ZC,h,e]⟩
  ·exact ⟨-1,⟨by omega,by omega⟩,by simp [c__law_number,ZC,h,e]⟩
 ·by_cases h1:c % 4=1
  ·exact ⟨c / 4 % 2000000000 - 1000000000,⟨by omega,by omega⟩,by simp [c__law_number,ZC,h1]⟩
  ·exact ⟨c / 4 % 9 - 4,⟨by omega,by omega⟩,by simp [c__law_number,ZC,h,h1]⟩
theorem Zex {c:Int}:∃ o,YT m o∧Ze T (n+2) 28 [.int c,.int (m:Int)]=some (ZI o):=by
 rw [Zm (f:=c__law_operand_k55) rfl rfl rfl]
 obtain ⟨v,sv,nb⟩:=ZaG (n:=n) (c:=c / 3)
 by_cases h:0 < m∧0 < c % 3
 ·obtain ⟨h1,h2⟩:=h
  have:=Int.emod_nonneg (c / 3) (show (m:Int)≠0 by omega)
  have:=Int.emod_lt_of_pos (c / 3) (show 0 < (m:Int) by omega)
  have e:((c / 3 % (m:Int)).toNat:Int)=c / 3 % (m:Int):=by omega
  refine ⟨.name (c / 3 % (m:Int)).toNat,by show (c / 3 % (m:Int)).toNat < m; omega,?_⟩
  simp [c__law_operand_k55,ZC,h1,h2,ZI,e]
 ·refine ⟨.num v,sv,?_⟩
  by_cases h1:0 < m
  ·have h2:¬0 < c % 3:=fun z=>h ⟨h1,z⟩
   simp [c__law_operand_k55,ZC,h1,h2,nb,ZI]
  ·have h3:m=0:=by omega
   subst h3
   simp [c__law_operand_k55,ZC,nb,ZI]
theorem ZgJ {b:Bool}{size:Nat} (hm:m≤100):∃ r,ROk m size r∧Ze T (n+3) 29 [.lst b [.int c0,.int c1,.int c2],.int (m:Int),.int (size:Int)]=some (Zd r):=by
 rw [Zm (f:=c__law_row_k55) rfl rfl rfl]
 obtain ⟨y,hy,ey⟩:=Zex (n:=n) (m:=m) (c:=c1)
 obtain ⟨z,hz,ez⟩:=Zex (n:=n) (m:=m) (c:=c2)
 have oy:=Zb0 hy
 have oz:=Zb0 hz
 show ∃ r,ROk m size r∧Yx (px (Ze T (n+2)) [] c__law_row_k55.body [some (.lst b [.int c0,.int c1,.int c2]),some (.int (m:Int)),some (.int (size:Int)),none,none,none,none])=_
 unfold c__law_row_k55
 rw [Yt (v:=.int (c0 % 8)) (by first | rfl | simp)]
 simp only [Zg,Zf]
 rw [Yt (v:=.int (c0 / 8)) (by first | rfl | simp)]
 simp only [Zg,Zf]
 rw [Yt (v:=ZI y) (by first | rfl | simp [ey])]
 simp only [Zg,Zf]
 rw [Yt (v:=ZI z) (by first | rfl | simp [ez])]
 simp only [Zg,Zf]
 have ia:∀ {i:Int},atP [.str (S "+"),.str (S "-"),.str (S "*"),.str (S "/"),.str (S "mod")] (i % 5)=some (.str (sgA (i % 5))):=ZiH
 have ib:∀ {i:Int},atP [.str (S "<"),.str (S "<="),.str (S "="),.str (S ">="),.str (S ">"),.str (S "!=")] (i % 6)=some (.str (sgB (i % 6))):=ZiI
 have ps:(0:Int) < (size:Int)+1:=by omega
 by_cases h1:c0 % 8 < 3∧0 < m
 ·obtain ⟨x,ex,hx⟩:∃ x:Nat,c0 / 8 % (m:Int)=(x:Int)∧x < m:=⟨(c0 / 8 % (m:Int)).toNat,by
   have:=Int.emod_nonneg (c0 / 8) (show (m:Int)≠0 by omega)
   omega,by
   have:=Int.emod_nonneg (c0 / 8) (show (m:Int)≠0 by omega)
   have:=Int.emod_lt_of_pos (c0 / 8) (show 0 < (m:Int) by omega)
   omega⟩
  refine ⟨.put x y (sgA (c0 / 8 / (m:Int) % 5)) z,⟨⟨hx,hy,hz⟩,Zgh _,oy,oz⟩,?_⟩
  rw [ZH (v:=Zd (.put x y (sgA (c0 / 8 / (m:Int) % 5)) z)) (by first | rfl | simp [h1.1,h1.2]) (by first | rfl | simp [ia,ex,h1.2,Zd,show (m:Int) < 1073741824 by omega])]
  rfl
 rw [Zw (by
  by_cases h2:c0 % 8 < 3
  ·have h3:m=0:=by omega
   subst h3
   simp [h2]
  ·simp [h2])]
 have tq:∀ c:Int,∃ t:Nat,c % ((size:Int)+1)=(t:Int)∧t≤size:=fun c=>⟨(c % ((size:Int)+1)).toNat,by
  have:=Int.emod_nonneg c (show (size:Int)+1≠0 by omega)
  omega,by
  have:=Int.emod_nonneg c (show (size:Int)+1≠0 by omega)
  have:=Int.emod_lt_of_pos c ps
  omega⟩
 by_cases h2:c0 % 8 < 5
 ·obtain ⟨t,et,ht⟩:=tq (c0 / 8 / 6)
  refine ⟨.ifr y (sgB (c0 / 8 % 6)) z t,⟨⟨hy,hz,ht⟩,Zgi _⟩,?_⟩
  rw [ZH (v:=Zd (.ifr y (sgB (c0 / 8 % 6)) z t)) (by first | rfl | simp [h2]) (by first | rfl | simp [ib,Zd,ps,et])]
  rfl
 rw [Zw (by first | rfl | simp [h2])]
 by_cases h3:c0 % 8=5
 ·obtain ⟨t,et,ht⟩:=tq (c0 / 8)
  refine ⟨.go t,⟨ht,trivial⟩,?_⟩
  rw [ZH (v:=Zd (.go t)) (by first | rfl | simp [h3]) (by first | rfl | simp [Zd,ps,et])]
  rfl
 rw [Zw (by first | rfl | simp [h3])]
 by_cases h4:c0 % 8=6
 ·refine ⟨.tell y,⟨hy,trivial⟩,?_⟩
  rw [ZH (v:=Zd (.tell y)) (by first | rfl | simp [h4]) (by first | rfl | simp [Zd])]
  rfl
 rw [Zw (by first | rfl | simp [h4])]
 rcases (show c0 / 8 % 2=0∨c0 / 8 % 2=1 by omega) with e | e
 ·refine ⟨.tell z,⟨hz,trivial⟩,?_⟩
  rw [ZV (v:=Zd (.tell z)) (by first | rfl | simp [Zd,e])]
  rfl
 ·refine ⟨.skip,⟨trivial,trivial⟩,?_⟩
  rw [ZV (v:=Zd .skip) (by first | rfl | simp [Zd,e])]
  rfl
theorem ZcV {c:Int}:∃ p:Prog,PG p∧(∃ a,p.takes=.tup [a])∧1≤p.many∧Ze T (n+1) 186 [.int c]=some (Zs p):=by
 obtain ⟨q,eq,hq⟩:∃ q:Nat,1+c / 21 % 2=(q:Int)∧(1≤q∧q≤2):=⟨(1+c / 21 % 2).toNat,by omega,by omega⟩
 refine ⟨⟨.tup [.tup [.int (-1000),.int 1000]],q,[.put 0 (.name 0) (S "+") (.num 1),.ifr (.name 0) (S "<") (.num (40+c % 21)) 0,.tell (.name 0)]⟩,⟨fun r hr=>?_,by show q≤100; omega,by simp⟩,⟨_,rfl⟩,hq.1,?_⟩
 ·simp only [List.mem_cons,List.not_mem_nil,or_false] at hr
  have z:(0:Nat) < q:=by omega
  rcases hr with rfl | rfl | rfl
  ·exact ⟨⟨z,z,by show Sm 1; exact ⟨by omega,by omega⟩⟩,.inl rfl,trivial,by show Sm 1; exact ⟨by omega,by omega⟩⟩
  ·exact ⟨⟨z,by show Sm _; exact ⟨by omega,by omega⟩,Nat.zero_le _⟩,.inl rfl⟩
  ·exact ⟨z,trivial⟩
 ·rw [Zm (f:=c__law_counter) rfl rfl rfl]
  simp [c__law_counter,ZC,Zs,Zd,ZI,eq,Zo]
theorem l3:ZW 3=true:=by decide
theorem Zfm {e:CE}{π:Zv}{k j q:Nat} (hk:pe F (.var 1) π=some (.int (k:Int))) (hj:pe F (.var 0) π=some (.int (j:Int))) (hq:q=3+3 * k+j):pe F (.bin .Add (.bin .Add (.cst (.int (3))) (.bin .Mult (.cst (.int (3))) (.var 1))) (.var 0)) π=some (.int (q:Int)):=by
 have e:(q:Int)=3+3 * (k:Int)+(j:Int):=by omega
 rw [e,Ym,Ym,Ym,Vt,Wg,Option.bind_some,hk,Option.bind_some,Option.bind_some,Qb l3,Option.bind_some,XE,Option.bind_some,hj,Option.bind_some,XE]
theorem Zdb {ns:List Int}{k:Nat}{x1 x2 x3 x4 x5 x7 x8 x9:Option P} (hk:k≤12) (h27:∀ k:Nat,k≤1000→∃ c,F 27 [.lst false (ns.map .int),.int (k:Int)]=some (.int c)):∃ c0 c1 c2,pe F Z9 [some (.lst false (ns.map .int)),x1,x2,x3,x4,x5,some (.int (k:Int)),x7,x8,x9]=some (.lst true [.int c0,.int c1,.int c2]):=by
 have one:∀ j:Nat,j≤2→∃ c,pe F (.call 27 (.acons (.var 2) (.acons (.bin .Add (.bin .Add (.cst (.int (3))) (.bin .Mult (.cst (.int (3))) (.var 1))) (.var 0)) .anil)) []) (Yd [some (.lst false (ns.map .int)),x1,x2,x3,x4,x5,some (.int (k:Int)),x7,x8,x9] [6,0] (.int (j:Int)))=some (.int c):=fun j hj=>by
  obtain ⟨c,e⟩:=h27 (3+3 * k+j) (by omega)
  refine ⟨c,?_⟩
  have hp:Yd [some (.lst false (ns.map .int)),x1,x2,x3,x4,x5,some (.int (k:Int)),x7,x8,x9] [6,0] (.int (j:Int))=[some (.int (j:Int)),some (.int (k:Int)),some (.lst false (ns.map .int))]:=rfl
  rw [hp,pe_call,Xb,Xb,Zfm (e:=.nop) (k:=k) (j:=j) rfl rfl rfl]
  simp [-Int.natCast_add,-Int.natCast_mul,e]
 obtain ⟨c0,e0⟩:=one 0 (by omega)
 obtain ⟨c1,e1⟩:=one 1 (by omega)
 obtain ⟨c2,e2⟩:=one 2 (by omega)
 refine ⟨c0,c1,c2,?_⟩
 unfold Z9
 rw [XL]
 show ((some (P.int 3)).bind fun x=>_)=_
 rw [Option.bind_some,show YE true (.int 3)=some [.int ((0:Nat):Int),.int ((1:Nat):Int),.int ((2:Nat):Int)] from rfl,Option.bind_some,if_pos (by first | rfl | simp)]
 have t:∀ p:P,pe F (.cst (.bl true)) (Yd [some (.lst false (ns.map .int)),x1,x2,x3,x4,x5,some (.int (k:Int)),x7,x8,x9] [6,0] p)=some (.bl true):=fun _=>rfl
 simp only [YB,t,e0,e1,e2,Option.bind_some]
theorem ZeV {ns:List Int}{size:Nat} (hn:ns.length≤63) (hz:size≤12):∃ (p:Prog) (tks:List P),PG p∧p.takes=.tup tks∧tks.length≤p.many∧tks.length≤2∧Ze T (n+5) 30 [.lst false (ns.map .int),.int (size:Int)]=some (Zs p):=by
 rw [Zm (f:=c__law_program_k55) rfl rfl rfl]
 have h27:∀ k:Nat,k≤1000→∃ c,Ze T (n+4) 27 [.lst false (ns.map .int),.int (k:Int)]=some (.int c):=fun k hk=>QD (n:=n+3) hn hk
 obtain ⟨hd,e0⟩:=h27 0 (by omega)
 have e0:Ze T (n+4) 27 [.lst false (ns.map .int),.int 0]=some (.int hd):=e0
 obtain ⟨tk,et,ht⟩:∃ tk:Nat,hd % 3=(tk:Int)∧tk≤2:=⟨(hd % 3).toNat,by omega,by omega⟩
 have p6:(0:Int) < 6 - (tk:Int):=by omega
 obtain ⟨m,em,hm⟩:∃ m:Nat,(tk:Int)+hd / 3 % (6 - (tk:Int))=(m:Int)∧(tk≤m∧m≤8):=by
  have h1:=Int.emod_nonneg (hd / 3) (show (6:Int) - (tk:Int)≠0 by omega)
  have h2:=Int.emod_lt_of_pos (hd / 3) p6
  exact ⟨((tk:Int)+hd / 3 % (6 - (tk:Int))).toNat,by omega,by omega⟩
 show ∃ (p:Prog) (tks:List P),PG p∧p.takes=.tup tks∧tks.length≤p.many∧tks.length≤2∧Yx (px (Ze T (n+4)) [5,8] c__law_program_k55.body [some (.lst false (ns.map .int)),some (.int (size:Int)),none,none,none,none,none,none,none,none])=some (Zs p)
 obtain ⟨π,e1,rs,z6,hl1,hr1,rfl⟩:=YN (B:=fun d π=>px (Ze T (n+4)) [5,8] ZQ (Zq π 6 d)) (fun i π=>∃ (rs:List Row) (y6:Option P),rs.length=i∧(∀ r∈rs,ROk m size r)∧π=[some (.lst false (ns.map .int)),some (.int (size:Int)),some (.int hd),some (.int (tk:Int)),some (.int (m:Int)),some (.lst true (rs.map Zd)),y6,none,none,none]) (m:=size) (fun i hi π hπ=>by
  obtain ⟨rs,y6,hl,hr,rfl⟩:=hπ
  obtain ⟨c0,c1,c2,ce⟩:=Zdb (F:=Ze T (n+4)) (ns:=ns) (k:=i) (x1:=some (.int (size:Int))) (x2:=some (.int hd)) (x3:=some (.int (tk:Int))) (x4:=some (.int (m:Int))) (x5:=some (.lst true (rs.map Zd))) (x7:=none) (x8:=none) (x9:=none) (by omega) h27
  obtain ⟨r,gr,er⟩:=ZgJ (n:=n+1) (b:=true) (m:=m) (size:=size) (c0:=c0) (c1:=c1) (c2:=c2) (by omega)
  refine ⟨[some (.lst false (ns.map .int)),some (.int (size:Int)),some (.int hd),some (.int (tk:Int)),some (.int (m:Int)),some (.lst true ((rs++[r]).map Zd)),some (.int (i:Int)),none,none,none],?_,rs++[r],some (.int (i:Int)),by simp [hl],fun q hq=>?_,rfl⟩
  ·show px (Ze T (n+4)) [5,8] ZQ [some (.lst false (ns.map .int)),some (.int (size:Int)),some (.int hd),some (.int (tk:Int)),some (.int (m:Int)),some (.lst true (rs.map Zd)),some (.int (i:Int)),none,none,none]=_
   unfold ZQ
   rw [Jp (xs:=rs.map Zd) (p:=Zd r) rfl (by rw [pe_call,Xb,ce]; simp [er]) rfl (by rw [List.length_map]; omega),Zy,List.map_append]
   rfl
  ·rcases List.mem_append.mp hq with z | z
   ·exact hr q z
   ·rw [List.mem_singleton.mp z]; exact gr) (π:=[some (.lst false (ns.map .int)),some (.int (size:Int)),some (.int hd),some (.int (tk:Int)),some (.int (m:Int)),some (.lst true []),none,none,none,none]) ⟨[],none,rfl,(fun _ z=>nomatch z),rfl⟩
 obtain ⟨π,e2,ts,z7,z9,hl2,rfl⟩:=YN (B:=fun d π=>px (Ze T (n+4)) [5,8] ZP (Zq π 7 d)) (fun i π=>∃ (ts:List P) (y7 y9:Option P),ts.length=i∧π=[some (.lst false (ns.map .int)),some (.int (size:Int)),some (.int hd),some (.int (tk:Int)),some (.int (m:Int)),some (.lst true (rs.map Zd)),z6,y7,some (.lst true ts),y9]) (m:=tk) (fun i hi π hπ=>by
  obtain ⟨ts,y7,y9,hl,rfl⟩:=hπ
  obtain ⟨v,_,ev⟩:=ZaG (n:=n+3) (c:=hd / 18+(i:Int))
  obtain ⟨a,ea⟩:∃ a:P,pe (Ze T (n+4)) (.tupE (.acons (.min (.var 9) (.cst (.int (3)))) (.acons (.max (.var 9) (.cst (.int (3)))) .anil))) [some (.lst false (ns.map .int)),some (.int (size:Int)),some (.int hd),some (.int (tk:Int)),some (.int (m:Int)),some (.lst true (rs.map Zd)),z6,some (.int (i:Int)),some (.lst true ts),some (.int v)]=some a:=⟨.tup [.int (if 3 < v then 3 else v),.int (if 3 > v then 3 else v)],by first | rfl | simp⟩
  refine ⟨[some (.lst false (ns.map .int)),some (.int (size:Int)),some (.int hd),some (.int (tk:Int)),some (.int (m:Int)),some (.lst true (rs.map Zd)),z6,some (.int (i:Int)),some (.lst true (ts++[a])),some (.int v)],?_,ts++[a],some (.int (i:Int)),some (.int v),by simp [hl],rfl⟩
  show px (Ze T (n+4)) [5,8] ZP [some (.lst false (ns.map .int)),some (.int (size:Int)),some (.int hd),some (.int (tk:Int)),some (.int (m:Int)),some (.lst true (rs.map Zd)),z6,some (.int (i:Int)),some (.lst true ts),y9]=_
  unfold ZP
  rw [Zk,Zx (p:=.int v) (by first | rfl | simp [ev]) rfl rfl,Zh]
  simp only [Zg,Zf]
  rw [Jp (xs:=ts) (p:=a) rfl ea rfl (by omega),Zy]
  rfl) (π:=[some (.lst false (ns.map .int)),some (.int (size:Int)),some (.int hd),some (.int (tk:Int)),some (.int (m:Int)),some (.lst true (rs.map Zd)),z6,none,some (.lst true []),none]) ⟨[],none,none,rfl,rfl⟩
 refine ⟨⟨.tup ts,m,rs⟩,ts,⟨fun r hr=>by rw [show (⟨.tup ts,m,rs⟩:Prog).rows.length=size from hl1]; exact hr1 r hr,by show m≤100; omega,by show rs.length≤12; omega⟩,rfl,by show ts.length≤m; omega,by omega,?_⟩
 unfold c__law_program_k55
 rw [Zk,Zx (p:=.int hd) (by first | rfl | simp [e0]) rfl rfl,Zh]
 simp only [Zg,Zf]
 rw [Zk,Zx (p:=.int (tk:Int)) (by first | rfl | simp [et]) rfl rfl,Zh]
 simp only [Zg,Zf]
 rw [Zk,Zx (p:=.int (m:Int)) (by first | rfl | simp [show (tk:Int) < 6 by omega,em]) rfl rfl,Zh]
 simp only [Zg,Zf]
 rw [Zk,YV (p:=.lst true []) (by rfl) rfl rfl,Zh]
 simp only [Zg,Zf]
 rw [Zk,XM (n:=size) (by rfl) (by omega) rfl,e1,Zh]
 rw [Zk,YV (p:=.lst true []) (by rfl) rfl rfl,Zh]
 simp only [Zg,Zf]
 rw [Zk,XM (n:=tk) (by rfl) (by omega) rfl,e2,Zh]
 rw [ZV (v:=Zs ⟨.tup ts,m,rs⟩) (by rfl)]
 rfl
theorem ZeF:∀ {vs:List Int},Vo (vs.map P.int)=true
 | []=>rfl
 | v :: vs=>by
  show (noL (.int v)&&Vo (vs.map P.int))=true
  rw [ZeF (vs:=vs)]
  rfl
theorem ZbU {f c:P→Option P}{cs:List Int} (hc:∀ x,c x=some (.bl true)) (hf:∀ x:Int,∃ v,Sm v∧f (.int x)=some (.int v)):∃ vs:List Int,vs.length=cs.length∧(∀ v∈vs,Sm v)∧YB f c (cs.map .int)=some (vs.map .int):=by
 induction cs with
 | nil=>exact ⟨[],rfl,(fun _ z=>nomatch z),rfl⟩
 | cons a cs ih=>
  obtain ⟨vs,h1,h2,h3⟩:=ih
  obtain ⟨v,hv,ev⟩:=hf a
  refine ⟨v :: vs,by simp [h1],fun w hw=>?_,?_⟩
  ·rcases List.mem_cons.mp hw with z | z
   ·rw [z]; exact hv
   ·exact h2 w z
  ·rw [List.map_cons]
   unfold YB
   rw [hc,ev]
   simp only
   rw [h3]
   rfl
theorem Qm {f c:P→Option P} (hc:∀ x,c x=some (.bl true)):∀ (xs:List P),(∀ x∈xs,∃ v,f x=some (.int v))→∃ vs:List Int,vs.length=xs.length∧YB f c xs=some (vs.map .int)
 | [],_=>⟨[],rfl,rfl⟩
 | x :: xs,h=>by
  obtain ⟨v,ev⟩:=h x List.mem_cons_self
  obtain ⟨vs,h1,h2⟩:=Qm hc xs fun y hy=>h y (List.mem_cons_of_mem _ hy)
  refine ⟨v :: vs,by simp [h1],?_⟩
  unfold YB
  rw [hc,ev]
  simp only
  rw [h2]
  rfl
theorem Zdk {π:Zv}{a i j q t:Nat}{tks:List P} (hi:i≤1000) (ha:pe F (.var 4) π=some (.int (a:Int))) (h1:pe F (.var 1) π=some (.int (i:Int))) (h2:pe F (.len (.ix (.var 2) (.cst (.int (0))))) π=some (.int (t:Int))) (hj:pe F (.var 0) π=some (.int (j:Int))) (hq:q=a+i * t+j):pe F (.bin .Add (.bin .Add (.var 4) (.bin .Mult (.var 1) (.len (.ix (.var 2) (.cst (.int (0))))))) (.var 0)) π=some (.int (q:Int)):=by
 have e:(q:Int)=(a:Int)+(i:Int) * (t:Int)+(j:Int):=by rw [hq]; simp
 obtain ⟨i',hi',lk⟩:=JC hi
 rw [←hi'] at h1 e
 rw [e,Ym,Ym,ha,Option.bind_some,Ym,h1,Option.bind_some,h2,Option.bind_some,Qb lk,Option.bind_some,XE,Option.bind_some,hj,Option.bind_some,XE]
theorem Zes {ns:List Int}{p:Prog}{tks:List P}{i st:Nat}{ts:List (List Int)}{x1 x2 x3 x6 x9:Option P} (htk:p.takes=.tup tks) (hl:tks.length≤2) (hm:tks.length≤p.many) (hi:i≤10) (hs:st≤100) (ht:ts.length≤10) (h27:∀ k:Nat,k≤1000→∃ c,F 27 [.lst false (ns.map .int),.int (k:Int)]=some (.int c)) (h185:∀ c,∃ v,Sm v∧F 185 [.int c]=some (.int v)) :
  ∃ v y9,(v.length≤p.many∧∀ a∈v,Sm a)∧px F [5,5] Yz [some (.lst false (ns.map .int)),x1,x2,x3,some (Zs p),some (.lst true (ts.map Zn)),x6,some (.int (st:Int)),some (.int (i:Int)),x9]=some (.nx [some (.lst false (ns.map .int)),x1,x2,x3,some (Zs p),some (.lst true ((ts++[v]).map Zn)),x6,some (.int (st:Int)),some (.int (i:Int)),y9]):=by
 have lt:∀ π:Zv,∀ k,pe F (.var k) π=some (Zs p)→pe F (.len (.ix (.var k) (.cst (.int (0))))) π=some (.int (tks.length:Int)):=fun π k h=>by
  rw [ZfG,pe_ix,h,Option.bind_some,Vt,Wg,Option.bind_some,show ixP (Zs p) (.int 0)=some p.takes from rfl,htk,Option.bind_some]
  rfl
 obtain ⟨cs,l1,e9⟩:∃ cs:List Int,cs.length=tks.length∧pe F Xs [some (.lst false (ns.map .int)),x1,x2,x3,some (Zs p),some (.lst true (ts.map Zn)),x6,some (.int (st:Int)),some (.int (i:Int)),x9]=some (.lst true (cs.map .int)):=by
  obtain ⟨cs,h1,h2⟩:=Qm (f:=fun q=>pe F (.call 27 (.acons (.var 3) (.acons (.bin .Add (.bin .Add (.var 4) (.bin .Mult (.var 1) (.len (.ix (.var 2) (.cst (.int (0))))))) (.var 0)) .anil)) []) (Yd [some (.lst false (ns.map .int)),x1,x2,x3,some (Zs p),some (.lst true (ts.map Zn)),x6,some (.int (st:Int)),some (.int (i:Int)),x9] [8,4,0,7] q)) (c:=fun q=>pe F (.cst (.bl true)) (Yd [some (.lst false (ns.map .int)),x1,x2,x3,some (Zs p),some (.lst true (ts.map Zn)),x6,some (.int (st:Int)),some (.int (i:Int)),x9] [8,4,0,7] q)) (fun _=>rfl) (ZJ (tks.length:Int)) (fun x hx=>by
   obtain ⟨j,rfl,hj⟩:=mem_range hx
   have hp:Yd [some (.lst false (ns.map .int)),x1,x2,x3,some (Zs p),some (.lst true (ts.map Zn)),x6,some (.int (st:Int)),some (.int (i:Int)),x9] [8,4,0,7] (.int (j:Int))=[some (.int (j:Int)),some (.int (i:Int)),some (Zs p),some (.lst false (ns.map .int)),some (.int (st:Int))]:=rfl
   have hb:i * tks.length≤10 * 2:=Nat.mul_le_mul hi hl
   obtain ⟨c,e⟩:=h27 (st+i * tks.length+j) (by omega)
   refine ⟨c,?_⟩
   rw [hp,pe_call,Xb,Xb,Zdk (tks:=tks) (a:=st) (i:=i) (j:=j) (t:=tks.length) (by omega) rfl rfl (lt _ 2 rfl) rfl rfl]
   simp [-Int.natCast_add,-Int.natCast_mul,e])
  refine ⟨cs,by rw [h1,Wk]; omega,?_⟩
  unfold Xs
  rw [XL,lt _ 4 rfl,Option.bind_some,QW (by omega),Option.bind_some,Wk,if_pos (by omega),h2]
  rfl
 obtain ⟨v,l2,sv,ev⟩:=ZbU (f:=fun q=>pe F (.call 185 (.acons (.var 0) .anil) []) (Yd [some (.lst false (ns.map .int)),x1,x2,x3,some (Zs p),some (.lst true (ts.map Zn)),x6,some (.int (st:Int)),some (.int (i:Int)),some (.lst true (cs.map .int))] [] q)) (c:=fun q=>pe F (.cst (.bl true)) (Yd [some (.lst false (ns.map .int)),x1,x2,x3,some (Zs p),some (.lst true (ts.map Zn)),x6,some (.int (st:Int)),some (.int (i:Int)),some (.lst true (cs.map .int))] [] q)) (cs:=cs) (fun _=>rfl) (fun x=>by
  obtain ⟨w,hw,ew⟩:=h185 x
  refine ⟨w,hw,?_⟩
  show pe F _ [some (.int x)]=_
  simp [ew])
 refine ⟨v,some (.lst true (cs.map .int)),⟨by omega,sv⟩,?_⟩
 unfold Yz
 rw [Zk,Zx e9 rfl rfl,Zh]
 simp only [Zg,Zf]
 rw [Jp (xs:=ts.map Zn) (p:=Zn v) rfl (by
  unfold Wy
  rw [Q4,XL]
  show (((some (P.lst true (cs.map .int))).bind fun x=>_).bind X5)=_
  rw [Option.bind_some,show YE false (.lst true (cs.map .int))=some (cs.map .int) from rfl,Option.bind_some,if_pos (by simp; omega),ev]
  rfl) rfl (by rw [List.length_map]; omega),Zy,List.map_append]
 rfl
theorem ZfK {ts:List (List Int)}{v:List Int}{i:Nat} (h:WG m ts) (hv:v∈ts):WG m (ts.set i v):=by
 refine ⟨by rw [List.length_set]; exact h.1,fun q hq=>?_⟩
 rcases List.mem_or_eq_of_mem_set hq with z | z
 ·exact h.2 q z
 ·rw [z]; exact h.2 v hv
theorem ZeD {p:Prog}{ts:List (List Int)}{l:Nat}{π:Zv} (hp:PG p) (ht:WG p.many ts) (hl:l≤900) (h4:π[4]?=some (some (Zs p))) (h5:π[5]?=some (some (.lst true (ts.map Zn)))) (h6:π[6]?=some (some (.int (l:Int)))) :
  pe (Ze T (n+10)) (.call 48 (.acons (.call 184 (.acons (.var 4) (.acons (.tupleOf (.var 5)) (.acons (.var 6) .anil))) []) (.acons (.var 4) (.acons (.var 5) (.acons (.var 6) .anil)))) []) π=some (.bl true):=by
 have b:=ZaF (n:=n) hp ht hl
 have w:=Jo (n:=n+5) hp ht hl
 simp [h4,h5,h6,b,w]
theorem Zfg {p:Prog}{ts:List (List Int)}{π:Zv} (hp:PG p) (ht:WG p.many ts) (h4:π[4]?=some (some (Zs p))) (h5:π[5]?=some (some (.lst true (ts.map Zn)))) :
  pe (Ze T (n+10)) (.call 48 (.acons (.call 184 (.acons (.var 4) (.acons (.tupleOf (.var 5)) .anil)) [(.int (100))]) (.acons (.var 4) (.acons (.var 5) (.acons (.cst (.int (100))) .anil)))) []) π=some (.bl true):=by
 have b:=ZaF (n:=n) (l:=100) hp ht (by omega)
 have w:=Jo (n:=n+5) (l:=100) hp ht (by omega)
 rw [show ((100:Nat):Int)=100 from rfl] at b w
 simp [h4,h5,b,w,Wh]
theorem Zbx {ns:List Int}{w:Int}{size count:Nat} (hn:ns.length≤63) (hz:size≤12) (hc:count≤10) :
  Yx (px (Ze T (n+10)) [5,5] (.seq (.set 4 (.call 30 (.acons (.var 0) (.acons (.var 2) .anil)) []))
 (.seq (.set 7 (.bin .Add (.cst (.int (3))) (.bin .Mult (.cst (.int (3))) (.var 2))))
 (.seq (.set 5 (.lstE .anil))
 (.seq (.for1 8 true (.var 3) Yz)
 (.seq (.ite (.and (.cmp .Eq (.bin .Mod (.bin .FloorDiv (.call 27 (.acons (.var 0) (.acons (.cst (.int (1))) .anil)) []) (.cst (.int (72)))) (.cst (.int (3)))) (.cst (.int (0)))) (.cmp .Gt (.var 3) (.cst (.int (1))))) (.seq (.put 5 (.bin .Sub (.var 3) (.cst (.int (1)))) (.ix (.var 5) (.cst (.int (0)))))
 .skip) .skip)
 (.seq (.set 6 (.bin .Mod (.bin .FloorDiv (.call 27 (.acons (.var 0) (.acons (.cst (.int (1))) .anil)) []) (.cst (.int (216)))) (.cst (.int (10)))))
 (.seq (.ret (.call 48 (.acons (.call 184 (.acons (.var 4) (.acons (.tupleOf (.var 5)) (.acons (.var 6) .anil))) []) (.acons (.var 4) (.acons (.var 5) (.acons (.var 6) .anil)))) []))
 .skip))))))) [some (.lst false (ns.map .int)),some (.int w),some (.int (size:Int)),some (.int (count:Int)),none,none,none,none,none,none])=some (.bl true):=by
 have h27:∀ k:Nat,k≤1000→∃ c,Ze T (n+10) 27 [.lst false (ns.map .int),.int (k:Int)]=some (.int c):=fun k hk=>QD (n:=n+9) hn hk
 have h185:∀ c,∃ v,Sm v∧Ze T (n+10) 185 [.int c]=some (.int v):=fun c=>ZaG (n:=n+9)
 obtain ⟨c1,e1⟩:=h27 1 (by omega)
 have e1:Ze T (n+10) 27 [.lst false (ns.map .int),.int 1]=some (.int c1):=e1
 obtain ⟨p,tks,gp,htk,hm,h2,e30⟩:=ZeV (n:=n+5) (ns:=ns) (size:=size) hn hz
 rw [Zk,Zx (p:=Zs p) (by first | rfl | simp [e30]) rfl rfl,Zh]
 simp only [Zg,Zf]
 have e7:pe (Ze T (n+10)) (.bin .Add (.cst (.int (3))) (.bin .Mult (.cst (.int (3))) (.var 2))) [some (.lst false (ns.map .int)),some (.int w),some (.int (size:Int)),some (.int (count:Int)),some (Zs p),none,none,none,none,none]=some (.int ((3+3 * size:Nat):Int)):=by
  rw [show ((3+3 * size:Nat):Int)=3+3 * (size:Int) by omega,Ym,Ym,Vt,Wg,Option.bind_some,Option.bind_some,show pe (Ze T (n+10)) (.var 2) [some (.lst false (ns.map .int)),some (.int w),some (.int (size:Int)),some (.int (count:Int)),some (Zs p),none,none,none,none,none]=some (.int (size:Int)) from rfl,Option.bind_some,Qb l3,Option.bind_some,XE]
 rw [Zk,Zx e7 rfl rfl,Zh]
 simp only [Zg,Zf]
 rw [Zk,YV (p:=.lst true []) (by rfl) rfl rfl,Zh]
 simp only [Zg,Zf]
 obtain ⟨π,e,ts,y8,y9,hl,hts,rfl⟩:=YN (B:=fun d π=>px (Ze T (n+10)) [5,5] Yz (Zq π 8 d)) (fun i π=>∃ (ts:List (List Int)) (y8 y9:Option P),ts.length=i∧(∀ v∈ts,v.length≤p.many∧∀ a∈v,Sm a)∧π=[some (.lst false (ns.map .int)),some (.int w),some (.int (size:Int)),some (.int (count:Int)),some (Zs p),some (.lst true (ts.map Zn)),none,some (.int ((3+3 * size:Nat):Int)),y8,y9]) (m:=count) (fun i hi π hπ=>by
  obtain ⟨ts,y8,y9,hl,hv,rfl⟩:=hπ
  obtain ⟨v,z9,gv,e⟩:=Zes (F:=Ze T (n+10)) (ns:=ns) (i:=i) (st:=3+3 * size) (ts:=ts) (x1:=some (.int w)) (x2:=some (.int (size:Int))) (x3:=some (.int (count:Int))) (x6:=none) (x9:=y9) htk h2 hm (by omega) (by omega) (by omega) h27 h185
  refine ⟨_,e,ts++[v],some (.int (i:Int)),z9,by simp [hl],fun q hq=>?_,rfl⟩
  rcases List.mem_append.mp hq with z | z
  ·exact hv q z
  ·rw [List.mem_singleton.mp z]; exact gv) (π:=[some (.lst false (ns.map .int)),some (.int w),some (.int (size:Int)),some (.int (count:Int)),some (Zs p),some (.lst true []),none,some (.int ((3+3 * size:Nat):Int)),none,none]) ⟨[],none,none,rfl,(fun _ z=>nomatch z),rfl⟩
 rw [Zk,XM (n:=count) (by rfl) (by omega) rfl,e,Zh]
 have tok:WG p.many ts:=⟨by omega,hts⟩
 obtain ⟨l,el,hl9⟩:∃ l:Nat,c1 / 216 % 10=(l:Int)∧l≤9:=⟨(c1 / 216 % 10).toNat,by omega,by omega⟩
 have tail:∀ ts:List (List Int),WG p.many ts→Yx (px (Ze T (n+10)) [5,5] (.seq (.set 6 (.bin .Mod (.bin .FloorDiv (.call 27 (.acons (.var 0) (.acons (.cst (.int (1))) .anil)) []) (.cst (.int (216)))) (.cst (.int (10)))))
 (.seq (.ret (.call 48 (.acons (.call 184 (.acons (.var 4) (.acons (.tupleOf (.var 5)) (.acons (.var 6) .anil))) []) (.acons (.var 4) (.acons (.var 5) (.acons (.var 6) .anil)))) []))
 .skip)) [some (.lst false (ns.map .int)),some (.int w),some (.int (size:Int)),some (.int (count:Int)),some (Zs p),some (.lst true (ts.map Zn)),none,some (.int ((3+3 * size:Nat):Int)),y8,y9])=some (.bl true):=fun ts tok=>by
  rw [Zk,Zx (p:=.int (l:Int)) (by first | rfl | simp [e1,el]) rfl rfl,Zh]
  simp only [Zg,Zf]
  rw [ZV (ZeD (n:=n) gp tok (by omega) rfl rfl rfl)]
  rfl
 by_cases hq:c1 / 72 % 3=0∧1 < count
 ·obtain ⟨q1,q2⟩:=hq
  have h0:0 < ts.length:=by omega
  have a0:pe (Ze T (n+10)) (.ix (.var 5) (.cst (.int (0)))) [some (.lst false (ns.map .int)),some (.int w),some (.int (size:Int)),some (.int (count:Int)),some (Zs p),some (.lst true (ts.map Zn)),none,some (.int ((3+3 * size:Nat):Int)),y8,y9]=some (Zn ts[0]):=by
   have at0:atP (ts.map Zn) 0=some (Zn ts[0]):=by
    rw [show (0:Int)=((0:Nat):Int) from rfl,Yw rfl,List.getElem?_map,List.getElem?_eq_getElem h0]; rfl
   exact at0
  rw [W0 (π':=[some (.lst false (ns.map .int)),some (.int w),some (.int (size:Int)),some (.int (count:Int)),some (Zs p),some (.lst true ((ts.set (count - 1) ts[0]).map Zn)),none,some (.int ((3+3 * size:Nat):Int)),y8,y9]) (by first | rfl | simp [e1,q1,show (1:Int) < (count:Int) by omega]) (by
   rw [Zk,Zcj (xs:=ts.map Zn) (q:=count - 1) (j:=((count - 1:Nat):Int)) rfl (by simp; omega) (by unfold ixN; rw [if_pos (by omega),if_pos (by rw [List.length_map]; omega),Int.toNat_natCast]),a0,Option.bind_some,if_pos (by
    show (true&&(noM [5,5] _||Vo (ts[0].map P.int)))=true
    rw [ZeF,Bool.or_true]; rfl),Zh,Zy,List.map_set]
   rfl)]
  exact tail _ (ZfK tok (List.getElem_mem h0))
 ·rw [Zw (by
   by_cases q1:c1 / 72 % 3=0
   ·have q2:¬1 < count:=fun z=>hq ⟨q1,z⟩
    simp [e1,q1,show (count:Int)≤1 by omega]
   ·simp [e1,q1])]
  exact tail ts tok
theorem Zan {n:Nat}{ns:List Int} (hn:ns.length≤63):Ze T (n+11) 16 [.lst false (ns.map .int)]=some (.bl true):=by
 rw [Zm (f:=c_law_k55) rfl rfl rfl]
 have h27:∀ k:Nat,k≤1000→∃ c,Ze T (n+10) 27 [.lst false (ns.map .int),.int (k:Int)]=some (.int c):=fun k hk=>QD (n:=n+9) hn hk
 obtain ⟨c1,e1⟩:=h27 1 (by omega)
 obtain ⟨c2,e2⟩:=h27 2 (by omega)
 obtain ⟨c3,e3⟩:=h27 3 (by omega)
 have e1:Ze T (n+10) 27 [.lst false (ns.map .int),.int 1]=some (.int c1):=e1
 have e2:Ze T (n+10) 27 [.lst false (ns.map .int),.int 2]=some (.int c2):=e2
 have e3:Ze T (n+10) 27 [.lst false (ns.map .int),.int 3]=some (.int c3):=e3
 show Yx (px (Ze T (n+10)) [5,5] c_law_k55.body [some (.lst false (ns.map .int)),none,none,none,none,none,none,none,none,none])=_
 unfold c_law_k55
 rw [Zk,Zx (p:=.int (c1 % 72)) (by first | rfl | simp [e1]) rfl rfl,Zh]
 simp only [Zg,Zf]
 obtain ⟨z0,ez0,hz0⟩:∃ z:Nat,c2 % 4=(z:Int)∧z≤3:=⟨(c2 % 4).toNat,by omega,by omega⟩
 obtain ⟨k0,ek0,hk0⟩:∃ z:Nat,c2 / 4 % 4=(z:Int)∧z≤3:=⟨(c2 / 4 % 4).toNat,by omega,by omega⟩
 rw [Zk,Zx (p:=.int (z0:Int)) (by first | rfl | simp [e2,ez0]) rfl rfl,Zh]
 simp only [Zg,Zf]
 rw [Zk,Zx (p:=.int (k0:Int)) (by first | rfl | simp [e2,ek0]) rfl rfl,Zh]
 simp only [Zg,Zf]
 obtain ⟨z1,k1,hz1,hk1,s1⟩:∃ z k:Nat,z≤12∧k≤10∧px (Ze T (n+10)) [5,5] (.ite (.cmp .Eq (.bin .Mod (.var 1) (.cst (.int (8)))) (.cst (.int (1)))) (.seq (.set 2 (.bin .Mod (.bin .FloorDiv (.call 27 (.acons (.var 0) (.acons (.cst (.int (2))) .anil)) []) (.cst (.int (4)))) (.cst (.int (13)))))
 (.seq (.set 3 (.cst (.int (1))))
 .skip)) .skip) [some (.lst false (ns.map .int)),some (.int (c1 % 72)),some (.int (z0:Int)),some (.int (k0:Int)),none,none,none,none,none,none]=some (.nx [some (.lst false (ns.map .int)),some (.int (c1 % 72)),some (.int (z:Int)),some (.int (k:Int)),none,none,none,none,none,none]):=by
  by_cases h:c1 % 72 % 8=1
  ·obtain ⟨z,ez,hz⟩:∃ z:Nat,c2 / 4 % 13=(z:Int)∧z≤12:=⟨(c2 / 4 % 13).toNat,by omega,by omega⟩
   refine ⟨z,1,hz,by omega,?_⟩
   rw [XA,show pe (Ze T (n+10)) (.cmp .Eq (.bin .Mod (.var 1) (.cst (.int (8)))) (.cst (.int (1)))) [some (.lst false (ns.map .int)),some (.int (c1 % 72)),some (.int (z0:Int)),some (.int (k0:Int)),none,none,none,none,none,none]=some (.bl true) by simp [-Int.emod_emod_of_dvd,h],YW,if_pos rfl]
   rw [Zk,Zx (p:=.int (z:Int)) (by first | rfl | simp [e2,ez]) rfl rfl,Zh]
   simp only [Zg,Zf]
   rw [Zk,Zx (p:=.int 1) (by rfl) rfl rfl,Zh,Zy]
   rfl
  ·refine ⟨z0,k0,by omega,by omega,?_⟩
   rw [XA,show pe (Ze T (n+10)) (.cmp .Eq (.bin .Mod (.var 1) (.cst (.int (8)))) (.cst (.int (1)))) [some (.lst false (ns.map .int)),some (.int (c1 % 72)),some (.int (z0:Int)),some (.int (k0:Int)),none,none,none,none,none,none]=some (.bl false) by simp [-Int.emod_emod_of_dvd,h],YW]
   rfl
 obtain ⟨z2,k2,hz2,hk2,s2⟩:∃ z k:Nat,z≤12∧k≤10∧px (Ze T (n+10)) [5,5] (.ite (.cmp .Eq (.bin .Mod (.var 1) (.cst (.int (8)))) (.cst (.int (2)))) (.seq (.set 2 (.bin .Mod (.var 2) (.cst (.int (3)))))
 (.seq (.set 3 (.cst (.int (10))))
 .skip)) .skip) [some (.lst false (ns.map .int)),some (.int (c1 % 72)),some (.int (z1:Int)),some (.int (k1:Int)),none,none,none,none,none,none]=some (.nx [some (.lst false (ns.map .int)),some (.int (c1 % 72)),some (.int (z:Int)),some (.int (k:Int)),none,none,none,none,none,none]):=by
  by_cases h:c1 % 72 % 8=2
  ·obtain ⟨z,ez,hz⟩:∃ z:Nat,(z1:Int) % 3=(z:Int)∧z≤12:=⟨((z1:Int) % 3).toNat,by omega,by omega⟩
   refine ⟨z,10,hz,by omega,?_⟩
   rw [XA,show pe (Ze T (n+10)) (.cmp .Eq (.bin .Mod (.var 1) (.cst (.int (8)))) (.cst (.int (2)))) [some (.lst false (ns.map .int)),some (.int (c1 % 72)),some (.int (z1:Int)),some (.int (k1:Int)),none,none,none,none,none,none]=some (.bl true) by simp [-Int.emod_emod_of_dvd,h],YW,if_pos rfl]
   rw [Zk,Zx (p:=.int (z:Int)) (by first | rfl | simp [ez]) rfl rfl,Zh]
   simp only [Zg,Zf]
   rw [Zk,Zx (p:=.int 10) (by rfl) rfl rfl,Zh,Zy]
   rfl
  ·refine ⟨z1,k1,by omega,by omega,?_⟩
   rw [XA,show pe (Ze T (n+10)) (.cmp .Eq (.bin .Mod (.var 1) (.cst (.int (8)))) (.cst (.int (2)))) [some (.lst false (ns.map .int)),some (.int (c1 % 72)),some (.int (z1:Int)),some (.int (k1:Int)),none,none,none,none,none,none]=some (.bl false) by simp [-Int.emod_emod_of_dvd,h],YW]
   rfl
 rw [Zk,s1,Zh,Zk,s2,Zh]
 by_cases h4:c1 % 72 / 8=4
 ·rw [Zk,XA,show pe (Ze T (n+10)) (.cmp .Eq (.bin .FloorDiv (.var 1) (.cst (.int (8)))) (.cst (.int (4)))) [some (.lst false (ns.map .int)),some (.int (c1 % 72)),some (.int (z2:Int)),some (.int (k2:Int)),none,none,none,none,none,none]=some (.bl true) by simp [h4],YW,if_pos rfl]
  obtain ⟨p,gp,⟨a,htk⟩,hm,e186⟩:=ZcV (n:=n+9) (c:=c2)
  rw [Zk,Zx (p:=Zs p) (by first | rfl | simp [e2,e186]) rfl rfl,Zh]
  simp only [Zg,Zf]
  have tok:WG p.many [[c3 % 7 - 3]]:=⟨by simp,fun v hv=>by
   rw [List.mem_singleton.mp hv]
   exact ⟨hm,fun a ha=>by rw [List.mem_singleton.mp ha]; exact ⟨by omega,by omega⟩⟩⟩
  rw [Zk,YV (p:=.lst true ([[c3 % 7 - 3]].map Zn)) (by first | rfl | simp [e3,Zn]) rfl rfl,Zh]
  simp only [Zg,Zf]
  by_cases h0:c1 / 72 % 2=0
  ·rw [ZH (v:=.bl true) (by first | rfl | simp [e1,h0]) (Zfg (n:=n) gp tok rfl rfl)]
   rfl
  ·rw [Zw (by simp [e1]; omega)]
   obtain ⟨l,el,hl⟩:∃ l:Nat,70+c1 / 144 % 131=(l:Int)∧l≤900:=⟨(70+c1 / 144 % 131).toNat,by omega,by omega⟩
   rw [Zk,Zx (p:=.int (l:Int)) (by first | rfl | simp [e1,el]) rfl rfl,Zh]
   simp only [Zg,Zf]
   rw [ZV (ZeD (n:=n) gp tok hl rfl rfl rfl)]
   rfl
 ·rw [Zw (by first | rfl | simp [h4])]
  exact Zbx (n:=n) hn hz2 hk2
end
end Dp


noncomputable def PySem.W.Fast.tw10079618074197125824:Nat:=0
noncomputable def PySem.W.Fast.tw10082389392732150089:Nat:=0
noncomputable def PySem.W.Fast.tw10120169441930696046:Nat:=0
noncomputable def PySem.W.Fast.tw10146528790383487422:Nat:=0
noncomputable def PySem.W.Fast.tw10391017012676377590:Nat:=0
noncomputable def PySem.W.Fast.tw10508033403809484038:Nat:=0
noncomputable def PySem.W.Fast.tw10556996842936711473:Nat:=0
noncomputable def PySem.W.Fast.tw10716403419894267639:Nat:=0
noncomputable def PySem.W.Fast.tw10747154254508089157:Nat:=0
noncomputable def PySem.W.Fast.tw10799088138669204867:Nat:=0
noncomputable def PySem.W.Fast.tw10840920002500067247:Nat:=0
noncomputable def PySem.W.Fast.tw10961721966333471423:Nat:=0
noncomputable def PySem.W.Fast.tw11050682572682511899:Nat:=0
noncomputable def PySem.W.Fast.tw11071662947326369560:Nat:=0
noncomputable def PySem.W.Fast.tw11105325321523625618:Nat:=0
noncomputable def PySem.W.Fast.tw11340091332963968245:Nat:=0
noncomputable def PySem.W.Fast.tw11458884142598790792:Nat:=0
noncomputable def PySem.W.Fast.tw11499122924106049341:Nat:=0
noncomputable def PySem.W.Fast.tw11698140489969816536:Nat:=0
noncomputable def PySem.W.Fast.tw12011054662610752506:Nat:=0
noncomputable def PySem.W.Fast.tw12179988189117550799:Nat:=0
noncomputable def PySem.W.Fast.tw12193754933487857671:Nat:=0
noncomputable def PySem.W.Fast.tw12228975633913846687:Nat:=0
noncomputable def PySem.W.Fast.tw12303791991580828352:Nat:=0
noncomputable def PySem.W.Fast.tw1236244299745819862:Nat:=0
noncomputable def PySem.W.Fast.tw12483776822849084822:Nat:=0
noncomputable def PySem.W.Fast.tw12700293297170817074:Nat:=0
noncomputable def PySem.W.Fast.tw12874701759110772444:Nat:=0
noncomputable def PySem.W.Fast.tw12974341150626563704:Nat:=0
noncomputable def PySem.W.Fast.tw13062558379386145939:Nat:=0
noncomputable def PySem.W.Fast.tw13094417977079709968:Nat:=0
noncomputable def PySem.W.Fast.tw13108930451194226547:Nat:=0
noncomputable def PySem.W.Fast.tw13132728082059282863:Nat:=0
noncomputable def PySem.W.Fast.tw13194699099891371714:Nat:=0
noncomputable def PySem.W.Fast.tw13202699685868156422:Nat:=0
noncomputable def PySem.W.Fast.tw13249720756346405334:Nat:=0
noncomputable def PySem.W.Fast.tw13327178051785377787:Nat:=0
noncomputable def PySem.W.Fast.tw13345403903619046112:Nat:=0
noncomputable def PySem.W.Fast.tw13423024343954568708:Nat:=0
noncomputable def PySem.W.Fast.tw13452243421483137852:Nat:=0
noncomputable def PySem.W.Fast.tw13483076088445404962:Nat:=0
noncomputable def PySem.W.Fast.tw13609387999075176366:Nat:=0
noncomputable def PySem.W.Fast.tw13688015952571732650:Nat:=0
noncomputable def PySem.W.Fast.tw13726894954282428331:Nat:=0
noncomputable def PySem.W.Fast.tw13739999886214353796:Nat:=0
noncomputable def PySem.W.Fast.tw13918481268378204455:Nat:=0
noncomputable def PySem.W.Fast.tw14003455289866737398:Nat:=0
noncomputable def PySem.W.Fast.tw14006848566259506139:Nat:=0
noncomputable def PySem.W.Fast.tw14054226276794451778:Nat:=0
noncomputable def PySem.W.Fast.tw14119169381483870034:Nat:=0
noncomputable def PySem.W.Fast.tw14139991478213780995:Nat:=0
noncomputable def PySem.W.Fast.tw14249208352962756420:Nat:=0
noncomputable def PySem.W.Fast.tw14306479560030838366:Nat:=0
noncomputable def PySem.W.Fast.tw14412297374216894778:Nat:=0
noncomputable def PySem.W.Fast.tw14569713932990890793:Nat:=0
noncomputable def PySem.W.Fast.tw14671363829256101267:Nat:=0
noncomputable def PySem.W.Fast.tw14697269298142235034:Nat:=0
noncomputable def PySem.W.Fast.tw1486175567190844910:Nat:=0
noncomputable def PySem.W.Fast.tw15250142907172422880:Nat:=0
noncomputable def PySem.W.Fast.tw15430780888514075809:Nat:=0
noncomputable def PySem.W.Fast.tw1550984107855281788:Nat:=0
noncomputable def PySem.W.Fast.tw15511514267222559785:Nat:=0
noncomputable def PySem.W.Fast.tw15534262482125657322:Nat:=0
noncomputable def PySem.W.Fast.tw15539599552829563554:Nat:=0
noncomputable def PySem.W.Fast.tw15578545903952875211:Nat:=0
noncomputable def PySem.W.Fast.tw15582934325772331531:Nat:=0
noncomputable def PySem.W.Fast.tw15594415678825165068:Nat:=0
noncomputable def PySem.W.Fast.tw15806484719740559618:Nat:=0
noncomputable def PySem.W.Fast.tw16239778631056189809:Nat:=0
noncomputable def PySem.W.Fast.tw16368851940648992954:Nat:=0
noncomputable def PySem.W.Fast.tw16381966090855274913:Nat:=0
noncomputable def PySem.W.Fast.tw1641337378941701629:Nat:=0
noncomputable def PySem.W.Fast.tw16515715711020826558:Nat:=0
noncomputable def PySem.W.Fast.tw16551807653241619562:Nat:=0
noncomputable def PySem.W.Fast.tw16562345397195494073:Nat:=0
noncomputable def PySem.W.Fast.tw16586459468223592839:Nat:=0
noncomputable def PySem.W.Fast.tw16834403719288931009:Nat:=0
noncomputable def PySem.W.Fast.tw16896811709015244246:Nat:=0
noncomputable def PySem.W.Fast.tw16946397489424231993:Nat:=0
noncomputable def PySem.W.Fast.tw16951935620971012238:Nat:=0
noncomputable def PySem.W.Fast.tw16968707764673001954:Nat:=0
noncomputable def PySem.W.Fast.tw17174509552007703578:Nat:=0
noncomputable def PySem.W.Fast.tw17275052166197303395:Nat:=0
noncomputable def PySem.W.Fast.tw17303126470907287504:Nat:=0
noncomputable def PySem.W.Fast.tw17778851432867473043:Nat:=0
noncomputable def PySem.W.Fast.tw17862320130634304886:Nat:=0
noncomputable def PySem.W.Fast.tw17935069041308275170:Nat:=0
noncomputable def PySem.W.Fast.tw18082499091651351711:Nat:=0
noncomputable def PySem.W.Fast.tw18126229985243305229:Nat:=0
noncomputable def PySem.W.Fast.tw18237419873345513560:Nat:=0
noncomputable def PySem.W.Fast.tw18338248361744456563:Nat:=0
noncomputable def PySem.W.Fast.tw18349085759179687219:Nat:=0
noncomputable def PySem.W.Fast.tw18357550576793150898:Nat:=0
noncomputable def PySem.W.Fast.tw1861765506273876065:Nat:=0
noncomputable def PySem.W.Fast.tw1921560976310179403:Nat:=0
noncomputable def PySem.W.Fast.tw2003272623717982990:Nat:=0
noncomputable def PySem.W.Fast.tw2070591612674659102:Nat:=0
noncomputable def PySem.W.Fast.tw2072634349902644772:Nat:=0
noncomputable def PySem.W.Fast.tw2139218036640264782:Nat:=0
noncomputable def PySem.W.Fast.tw2441278480725037496:Nat:=0
noncomputable def PySem.W.Fast.tw2826162160400640562:Nat:=0
noncomputable def PySem.W.Fast.tw2908735270654450753:Nat:=0
noncomputable def PySem.W.Fast.tw2919640251268581571:Nat:=0
noncomputable def PySem.W.Fast.tw2967901468253311675:Nat:=0
noncomputable def PySem.W.Fast.tw3206952691663847223:Nat:=0
noncomputable def PySem.W.Fast.tw350347431961169680:Nat:=0
noncomputable def PySem.W.Fast.tw3748053457107573242:Nat:=0
noncomputable def PySem.W.Fast.tw3983178795240893531:Nat:=0
noncomputable def PySem.W.Fast.tw398456309046388489:Nat:=0
noncomputable def PySem.W.Fast.tw4211279608777074443:Nat:=0
noncomputable def PySem.W.Fast.tw4211685631116860677:Nat:=0
noncomputable def PySem.W.Fast.tw4368871777863320705:Nat:=0
noncomputable def PySem.W.Fast.tw4398500639367231583:Nat:=0
noncomputable def PySem.W.Fast.tw4423910851293158240:Nat:=0
noncomputable def PySem.W.Fast.tw4494910550515546002:Nat:=0
noncomputable def PySem.W.Fast.tw4637025299839600432:Nat:=0
noncomputable def PySem.W.Fast.tw4660911721821331354:Nat:=0
noncomputable def PySem.W.Fast.tw4778267842254978948:Nat:=0
noncomputable def PySem.W.Fast.tw4913463230727763389:Nat:=0
noncomputable def PySem.W.Fast.tw505625610336892755:Nat:=0
noncomputable def PySem.W.Fast.tw508000870196468300:Nat:=0
noncomputable def PySem.W.Fast.tw5199414630753016:Nat:=0
noncomputable def PySem.W.Fast.tw5207867772661712339:Nat:=0
noncomputable def PySem.W.Fast.tw5282729577495495863:Nat:=0
noncomputable def PySem.W.Fast.tw5336800388532536030:Nat:=0
noncomputable def PySem.W.Fast.tw5355341843776078393:Nat:=0
noncomputable def PySem.W.Fast.tw5759035749219069218:Nat:=0
noncomputable def PySem.W.Fast.tw5759479415752102139:Nat:=0
noncomputable def PySem.W.Fast.tw5797573572725519417:Nat:=0
noncomputable def PySem.W.Fast.tw5803378660130697386:Nat:=0
noncomputable def PySem.W.Fast.tw5880605602581215669:Nat:=0
noncomputable def PySem.W.Fast.tw6090601412353483038:Nat:=0
noncomputable def PySem.W.Fast.tw6132061094614105125:Nat:=0
noncomputable def PySem.W.Fast.tw6233084018722304168:Nat:=0
noncomputable def PySem.W.Fast.tw6733469587379177247:Nat:=0
noncomputable def PySem.W.Fast.tw6738152118249750116:Nat:=0
noncomputable def PySem.W.Fast.tw6844205036900730270:Nat:=0
noncomputable def PySem.W.Fast.tw6873080833365434273:Nat:=0
noncomputable def PySem.W.Fast.tw7101480667108029959:Nat:=0
noncomputable def PySem.W.Fast.tw7139419918439463206:Nat:=0
noncomputable def PySem.W.Fast.tw7215965618418825115:Nat:=0
noncomputable def PySem.W.Fast.tw7349234503310311228:Nat:=0
noncomputable def PySem.W.Fast.tw7377385853990623637:Nat:=0
noncomputable def PySem.W.Fast.tw751993705532366152:Nat:=0
noncomputable def PySem.W.Fast.tw7601335915354105762:Nat:=0
noncomputable def PySem.W.Fast.tw7665122608346837717:Nat:=0
noncomputable def PySem.W.Fast.tw7742065821959877335:Nat:=0
noncomputable def PySem.W.Fast.tw7768055986024215994:Nat:=0
noncomputable def PySem.W.Fast.tw7952056171233996792:Nat:=0
noncomputable def PySem.W.Fast.tw811424836335448758:Nat:=0
noncomputable def PySem.W.Fast.tw8247447364880324149:Nat:=0
noncomputable def PySem.W.Fast.tw8452890820279508651:Nat:=0
noncomputable def PySem.W.Fast.tw8814208862369083784:Nat:=0
noncomputable def PySem.W.Fast.tw9006225640519840924:Nat:=0
noncomputable def PySem.W.Fast.tw9055764554814538654:Nat:=0
noncomputable def PySem.W.Fast.tw9097174830151298686:Nat:=0
noncomputable def PySem.W.Fast.tw9145471709736126323:Nat:=0
noncomputable def PySem.W.Fast.tw9145753514918619933:Nat:=0
noncomputable def PySem.W.Fast.tw9248221117101244449:Nat:=0
noncomputable def PySem.W.Fast.tw9263535740332732852:Nat:=0
noncomputable def PySem.W.Fast.tw9435994993624600200:Nat:=0
noncomputable def PySem.W.Fast.tw955421861619439681:Nat:=0
noncomputable def PySem.W.Fast.tw96303130429329203:Nat:=0
noncomputable def PySem.W.Fast.tw9645234701993807744:Nat:=0
noncomputable def PySem.W.Fast.tw9932955878743222561:Nat:=0
noncomputable def PySem.W.Fast.tw9988647807216040388:Nat:=0
namespace Dp
open PySem L2
noncomputable def top (i:Nat):Stmt:=PySem.Challenge.pw_fakehunt_k55_bits_of_fakes.main.body.getD i (.Pass ⟨0,0,0,0⟩)
noncomputable def G:Gs:=[(S "Step",GV.cls 146 [(S "word",147,1),(S "turned",148,3)] [146,169,149,157,152,160,163]),(S "Sign",GV.cls 169 [(S "word",170,1),(S "turned",171,3)] [169]),(S "More",GV.cls 149 [(S "word",150,1),(S "turned",151,3)] [149]),(S "Turn",GV.cls 157 [(S "word",158,1),(S "turned",159,3)] [157]),(S "Out",GV.cls 152 [(S "word",153,1),(S "turned",154,3)] [152]),(S "Swap",GV.cls 160 [(S "word",161,1),(S "turned",162,3)] [160]),(S "Far",GV.cls 163 [(S "word",164,1),(S "turned",165,3)] [163]),(S "OPERAND_PLACES",GV.dct [(S "put"),(S "if"),(S "tell"),(S "go"),(S "skip")] [(.tup [(.int (2)),(.int (4))]),(.tup [(.int (1)),(.int (3))]),(.tup [(.int (1))]),(.tup []),(.tup [])]),(S "replaced",GV.fn 42 3 []),(S "operand_places",GV.fn 113 1 []),(S "HALF",GV.cst (.int (1000000000))),(S "RING",GV.cst (.int (2000000000))),(S "PUT_SIGNS",GV.cst (.kt [(S "+"),(S "-"),(S "*"),(S "/"),(S "mod")])),(S "IF_SIGNS",GV.cst (.kt [(S "<"),(S "<="),(S "="),(S ">="),(S ">"),(S "!=")])),(S "around",GV.fn 0 1 []),(S "divided",GV.fn 1 2 []),(S "left_over",GV.fn 2 2 []),(S "reckon",GV.fn 3 3 []),(S "is_so",GV.fn 4 3 []),(S "CONTRARIES",GV.dct [(S "<"),(S ">="),(S "<="),(S ">"),(S "="),(S "!=")] [(.str (S ">=")),(.str (S "<")),(.str (S ">")),(.str (S "<=")),(.str (S "!=")),(.str (S "="))]),(S "behind",GV.fn 70 2 []),(S "fakes",GV.fn 172 1 []),(S "fake_of",GV.fn 180 3 []),(S "worth",GV.fn 5 2 []),(S "began",GV.fn 6 2 []),(S "at_end",GV.fn 7 2 []),(S "values_behind",GV.fn 8 2 []),(S "place_behind",GV.fn 9 3 []),(S "moved",GV.fn 10 2 []),(S "is_outcome",GV.fn 11 1 []),(S "trail",GV.fn 12 3 [(.int (100))]),(S "outcome",GV.fn 13 3 [(.int (100))]),(S "MOST_TRIALS",GV.cst (.int (10))),(S "check_trials",GV.fn 181 1 []),(S "outcomes",GV.fn 182 3 []),(S "bits_unlike",GV.fn 183 2 []),(S "bits_of",GV.fn 184 3 [(.int (100))]),(S "_law_whole",GV.fn 17 1 []),(S "_law_cell_at",GV.fn 27 2 []),(S "_law_number",GV.fn 185 1 []),(S "_law_operand",GV.fn 28 2 []),(S "_law_row",GV.fn 29 3 []),(S "_law_program",GV.fn 30 2 []),(S "_law_counter",GV.fn 186 1 []),(S "_law_round",GV.fn 89 1 []),(S "_law_sum",GV.fn 187 3 []),(S "_law_so",GV.fn 33 3 []),(S "_law_worth",GV.fn 34 2 []),(S "_law_outcome",GV.fn 188 4 []),(S "_law_holds",GV.fn 48 4 []),(S "law",GV.fn 16 1 []),(S "len",GV.blt),(S "range",GV.blt),(S "tuple",GV.blt),(S "list",GV.blt),(S "int",GV.blt),(S "bool",GV.blt),(S "str",GV.blt),(S "min",GV.blt),(S "max",GV.blt),(S "isinstance",GV.blt),(S "all",GV.blt),(S "any",GV.blt),(S "zip",GV.blt),(S "sorted",GV.blt),(S "enumerate",GV.blt)]
noncomputable abbrev n_5:List Str:=[S "things",S "i",S "thing"]
noncomputable abbrev n_6:List Str:=[S "row"]
noncomputable abbrev Zha:List Str:=[S "number"]
noncomputable abbrev Zhb:List Str:=[S "one",S "other"]
noncomputable abbrev Zhc:List Str:=[S "one",S "other"]
noncomputable abbrev Zhd:List Str:=[S "one",S "sign",S "other"]
noncomputable abbrev Zhe:List Str:=[S "one",S "sign",S "other"]
noncomputable abbrev Zhf:List Str:=[S "ring",S "sign"]
noncomputable abbrev ZiZ:List Str:=[S "program",S "rows",S "steps",S "told",S "k",S "row",S "step"]
noncomputable abbrev ZiN:List Str:=[S "program"]
noncomputable abbrev Zhg:List Str:=[S "program",S "k",S "row"]
noncomputable abbrev Zhh:List Str:=[S "operand",S "values"]
noncomputable abbrev Zhi:List Str:=[S "program",S "inputs"]
noncomputable abbrev Zhj:List Str:=[S "program",S "state"]
noncomputable abbrev Zi0:List Str:=[S "row",S "values",S "number"]
noncomputable abbrev ZiO:List Str:=[S "row",S "values"]
noncomputable abbrev Zhk:List Str:=[S "row",S "k",S "values"]
noncomputable abbrev Zi1:List Str:=[S "program",S "state",S "k",S "values",S "row"]
noncomputable abbrev ZiP:List Str:=[S "program",S "state"]
noncomputable abbrev Zhl:List Str:=[S "thing"]
noncomputable abbrev Zi2:List Str:=[S "program",S "inputs",S "limit",S "state",S "things",S "done",S "thing"]
noncomputable abbrev ZiQ:List Str:=[S "program",S "inputs",S "limit"]
noncomputable abbrev Zhm:List Str:=[S "program",S "inputs",S "limit"]
noncomputable abbrev Zhn:List Str:=[S "trials"]
noncomputable abbrev Zho:List Str:=[S "program",S "trials",S "limit"]
noncomputable abbrev Zi3:List Str:=[S "things",S "beside",S "bits",S "bit",S "thing",S "along"]
noncomputable abbrev ZiR:List Str:=[S "things",S "beside"]
noncomputable abbrev Zi4:List Str:=[S "program",S "trials",S "limit",S "own",S "told",S "k",S "word",S "row"]
noncomputable abbrev ZiS:List Str:=[S "program",S "trials",S "limit"]
noncomputable abbrev Zhp:List Str:=[S "_law_found"]
noncomputable abbrev Zhq:List Str:=[S "_law_script",S "_law_k"]
noncomputable abbrev Zhr:List Str:=[S "_law_cell"]
noncomputable abbrev Zhs:List Str:=[S "_law_cell",S "_law_many"]
noncomputable abbrev Zi5:List Str:=[S "_law_cells",S "_law_many",S "_law_size",S "_law_what",S "_law_more",S "_law_one",S "_law_other"]
noncomputable abbrev ZiT:List Str:=[S "_law_cells",S "_law_many",S "_law_size"]
noncomputable abbrev Zi6:List Str:=[S "_law_script",S "_law_size",S "_law_head",S "_law_taken",S "_law_many",S "_law_rows",S "_law_k",S "_law_j",S "_law_takes",S "_law_low"]
noncomputable abbrev ZiU:List Str:=[S "_law_script",S "_law_size"]
noncomputable abbrev Zi7:List Str:=[S "_law_cell",S "_law_rows"]
noncomputable abbrev ZiV:List Str:=[S "_law_cell"]
noncomputable abbrev Zht:List Str:=[S "_law_number_here"]
noncomputable abbrev Zhu:List Str:=[S "_law_one",S "_law_sign",S "_law_other"]
noncomputable abbrev Zhv:List Str:=[S "_law_one",S "_law_sign",S "_law_other"]
noncomputable abbrev Zhw:List Str:=[S "_law_operand_here",S "_law_values"]
noncomputable abbrev Zi8:List Str:=[S "_law_rows",S "_law_many",S "_law_inputs",S "_law_limit",S "_law_values",S "_law_at",S "_law_turn",S "_law_row_here",S "_law_one"]
noncomputable abbrev ZiW:List Str:=[S "_law_rows",S "_law_many",S "_law_inputs",S "_law_limit"]
noncomputable abbrev Zi9:List Str:=[S "_law_found",S "_law_program_here",S "_law_trials",S "_law_limit",S "_law_takes",S "_law_many",S "_law_rows",S "_law_others",S "_law_due",S "_law_at",S "_law_k",S "_law_turned",S "_law_bits",S "_law_i"]
noncomputable abbrev ZiX:List Str:=[S "_law_found",S "_law_program_here",S "_law_trials",S "_law_limit"]
noncomputable abbrev Zja:List Str:=[S "_law_script",S "_law_way",S "_law_size",S "_law_count",S "_law_program_here",S "_law_trials",S "_law_limit",S "_law_start",S "_law_i",S "_law_cells"]
noncomputable abbrev ZiY:List Str:=[S "_law_script"]
noncomputable abbrev ZbD:List Str:=[S "self"]
noncomputable abbrev ZbE:List Str:=[S "self",S "row",S "many"]
noncomputable abbrev ZbF:List Str:=[S "self"]
noncomputable abbrev ZbG:List Str:=[S "self",S "row",S "many"]
noncomputable abbrev ZbH:List Str:=[S "self"]
noncomputable abbrev Zfx:List Str:=[S "self",S "row",S "many",S "rows",S "i"]
noncomputable abbrev Zfv:List Str:=[S "self",S "row",S "many"]
noncomputable abbrev ZbI:List Str:=[S "self"]
noncomputable abbrev ZbJ:List Str:=[S "self",S "row",S "many"]
noncomputable abbrev ZbK:List Str:=[S "self"]
noncomputable abbrev ZbL:List Str:=[S "self",S "row",S "many"]
noncomputable abbrev ZbM:List Str:=[S "self"]
noncomputable abbrev ZbN:List Str:=[S "self",S "row",S "many"]
noncomputable abbrev ZbO:List Str:=[S "self"]
noncomputable abbrev ZbP:List Str:=[S "self",S "row",S "many"]
noncomputable def Ys (i k:Nat):Stmt:=match top i with
 | .ClassDef _ _ _ b _ _ _ _ _ _ _=>b.getD k (.Pass ⟨0,0,0,0⟩)
 | s=>s
noncomputable abbrev Cmp (i:Nat) (N ps:List Str) (c:CS):Prop:=Xe G (top i) N ps c
theorem q_5:Cmp 5 n_5 n_5 c_replaced.body:=⟨⟨rfl,rfl,rfl,by decide +kernel,rfl,by decide +kernel,by decide +kernel⟩,by unfold L2.Loc; decide +kernel,by kernel_rfl⟩
theorem q_6:Cmp 6 n_6 n_6 c_operand_places.body:=⟨⟨rfl,rfl,rfl,by decide +kernel,rfl,by decide +kernel,by decide +kernel⟩,by unfold L2.Loc; decide +kernel,by kernel_rfl⟩
theorem Zjh:Cmp 12 Zha Zha c_around.body:=⟨⟨rfl,rfl,rfl,by decide +kernel,rfl,by decide +kernel,by decide +kernel⟩,by unfold L2.Loc; decide +kernel,by kernel_rfl⟩
theorem Zji:Cmp 13 Zhb Zhb c_divided.body:=⟨⟨rfl,rfl,rfl,by decide +kernel,rfl,by decide +kernel,by decide +kernel⟩,by unfold L2.Loc; decide +kernel,by kernel_rfl⟩
theorem Zjj:Cmp 14 Zhc Zhc c_left_over.body:=⟨⟨rfl,rfl,rfl,by decide +kernel,rfl,by decide +kernel,by decide +kernel⟩,by unfold L2.Loc; decide +kernel,by kernel_rfl⟩
theorem Zjk:Cmp 15 Zhd Zhd c_reckon.body:=⟨⟨rfl,rfl,rfl,by decide +kernel,rfl,by decide +kernel,by decide +kernel⟩,by unfold L2.Loc; decide +kernel,by kernel_rfl⟩
theorem Zjl:Cmp 16 Zhe Zhe c_is_so.body:=⟨⟨rfl,rfl,rfl,by decide +kernel,rfl,by decide +kernel,by decide +kernel⟩,by unfold L2.Loc; decide +kernel,by kernel_rfl⟩
theorem Zjm:Cmp 19 Zhf Zhf c_behind.body:=⟨⟨rfl,rfl,rfl,by decide +kernel,rfl,by decide +kernel,by decide +kernel⟩,by unfold L2.Loc; decide +kernel,by kernel_rfl⟩
theorem Zjn:Cmp 28 ZiZ ZiN c_fakes.body:=⟨⟨rfl,rfl,rfl,by decide +kernel,rfl,by decide +kernel,by decide +kernel⟩,by unfold L2.Loc; decide +kernel,by kernel_rfl⟩
theorem Zjo:Cmp 29 Zhg Zhg c_fake_of.body:=⟨⟨rfl,rfl,rfl,by decide +kernel,rfl,by decide +kernel,by decide +kernel⟩,by unfold L2.Loc; decide +kernel,by kernel_rfl⟩
theorem Zjp:Cmp 31 Zhh Zhh c_worth.body:=⟨⟨rfl,rfl,rfl,by decide +kernel,rfl,by decide +kernel,by decide +kernel⟩,by unfold L2.Loc; decide +kernel,by kernel_rfl⟩
theorem Zjq:Cmp 32 Zhi Zhi c_began.body:=⟨⟨rfl,rfl,rfl,by decide +kernel,rfl,by decide +kernel,by decide +kernel⟩,by unfold L2.Loc; decide +kernel,by kernel_rfl⟩
theorem Zjr:Cmp 33 Zhj Zhj c_at_end.body:=⟨⟨rfl,rfl,rfl,by decide +kernel,rfl,by decide +kernel,by decide +kernel⟩,by unfold L2.Loc; decide +kernel,by kernel_rfl⟩
theorem Zjs:Cmp 34 Zi0 ZiO c_values_behind.body:=⟨⟨rfl,rfl,rfl,by decide +kernel,rfl,by decide +kernel,by decide +kernel⟩,by unfold L2.Loc; decide +kernel,by kernel_rfl⟩
theorem Zjt:Cmp 35 Zhk Zhk c_place_behind.body:=⟨⟨rfl,rfl,rfl,by decide +kernel,rfl,by decide +kernel,by decide +kernel⟩,by unfold L2.Loc; decide +kernel,by kernel_rfl⟩
theorem Zju:Cmp 36 Zi1 ZiP c_moved.body:=⟨⟨rfl,rfl,rfl,by decide +kernel,rfl,by decide +kernel,by decide +kernel⟩,by unfold L2.Loc; decide +kernel,by kernel_rfl⟩
theorem Zjv:Cmp 37 Zhl Zhl c_is_outcome.body:=⟨⟨rfl,rfl,rfl,by decide +kernel,rfl,by decide +kernel,by decide +kernel⟩,by unfold L2.Loc; decide +kernel,by kernel_rfl⟩
theorem Zjw:Cmp 38 Zi2 ZiQ c_trail.body:=⟨⟨rfl,rfl,rfl,by decide +kernel,rfl,by decide +kernel,by decide +kernel⟩,by unfold L2.Loc; decide +kernel,by kernel_rfl⟩
theorem Zjx:Cmp 39 Zhm Zhm c_outcome.body:=⟨⟨rfl,rfl,rfl,by decide +kernel,rfl,by decide +kernel,by decide +kernel⟩,by unfold L2.Loc; decide +kernel,by kernel_rfl⟩
theorem Zjy:Cmp 42 Zhn Zhn c_check_trials.body:=⟨⟨rfl,rfl,rfl,by decide +kernel,rfl,by decide +kernel,by decide +kernel⟩,by unfold L2.Loc; decide +kernel,by kernel_rfl⟩
theorem Zjz:Cmp 43 Zho Zho c_outcomes.body:=⟨⟨rfl,rfl,rfl,by decide +kernel,rfl,by decide +kernel,by decide +kernel⟩,by unfold L2.Loc; decide +kernel,by kernel_rfl⟩
theorem ZjA:Cmp 44 Zi3 ZiR c_bits_unlike.body:=⟨⟨rfl,rfl,rfl,by decide +kernel,rfl,by decide +kernel,by decide +kernel⟩,by unfold L2.Loc; decide +kernel,by kernel_rfl⟩
theorem ZjB:Cmp 45 Zi4 ZiS c_bits_of.body:=⟨⟨rfl,rfl,rfl,by decide +kernel,rfl,by decide +kernel,by decide +kernel⟩,by unfold L2.Loc; decide +kernel,by kernel_rfl⟩
theorem ZjC:Cmp 47 Zhp Zhp c__law_whole.body:=⟨⟨rfl,rfl,rfl,by decide +kernel,rfl,by decide +kernel,by decide +kernel⟩,by unfold L2.Loc; decide +kernel,by kernel_rfl⟩
theorem ZjD:Cmp 48 Zhq Zhq c__law_cell_at_k55.body:=⟨⟨rfl,rfl,rfl,by decide +kernel,rfl,by decide +kernel,by decide +kernel⟩,by unfold L2.Loc; decide +kernel,by kernel_rfl⟩
theorem ZjE:Cmp 49 Zhr Zhr c__law_number.body:=⟨⟨rfl,rfl,rfl,by decide +kernel,rfl,by decide +kernel,by decide +kernel⟩,by unfold L2.Loc; decide +kernel,by kernel_rfl⟩
theorem ZjF:Cmp 50 Zhs Zhs c__law_operand_k55.body:=⟨⟨rfl,rfl,rfl,by decide +kernel,rfl,by decide +kernel,by decide +kernel⟩,by unfold L2.Loc; decide +kernel,by kernel_rfl⟩
theorem ZjG:Cmp 51 Zi5 ZiT c__law_row_k55.body:=⟨⟨rfl,rfl,rfl,by decide +kernel,rfl,by decide +kernel,by decide +kernel⟩,by unfold L2.Loc; decide +kernel,by kernel_rfl⟩
theorem ZjH:Cmp 52 Zi6 ZiU c__law_program_k55.body:=⟨⟨rfl,rfl,rfl,by decide +kernel,rfl,by decide +kernel,by decide +kernel⟩,by unfold L2.Loc; decide +kernel,by kernel_rfl⟩
theorem ZjI:Cmp 53 Zi7 ZiV c__law_counter.body:=⟨⟨rfl,rfl,rfl,by decide +kernel,rfl,by decide +kernel,by decide +kernel⟩,by unfold L2.Loc; decide +kernel,by kernel_rfl⟩
theorem ZjJ:Cmp 54 Zht Zht c__law_round.body:=⟨⟨rfl,rfl,rfl,by decide +kernel,rfl,by decide +kernel,by decide +kernel⟩,by unfold L2.Loc; decide +kernel,by kernel_rfl⟩
theorem ZjK:Cmp 55 Zhu Zhu c__law_sum.body:=⟨⟨rfl,rfl,rfl,by decide +kernel,rfl,by decide +kernel,by decide +kernel⟩,by unfold L2.Loc; decide +kernel,by kernel_rfl⟩
theorem ZjL:Cmp 56 Zhv Zhv c__law_so_k55.body:=⟨⟨rfl,rfl,rfl,by decide +kernel,rfl,by decide +kernel,by decide +kernel⟩,by unfold L2.Loc; decide +kernel,by kernel_rfl⟩
theorem ZjM:Cmp 57 Zhw Zhw c__law_worth.body:=⟨⟨rfl,rfl,rfl,by decide +kernel,rfl,by decide +kernel,by decide +kernel⟩,by unfold L2.Loc; decide +kernel,by kernel_rfl⟩
theorem ZjN:Cmp 58 Zi8 ZiW c__law_outcome.body:=⟨⟨rfl,rfl,rfl,by decide +kernel,rfl,by decide +kernel,by decide +kernel⟩,by unfold L2.Loc; decide +kernel,by kernel_rfl⟩
theorem ZjO:Cmp 59 Zi9 ZiX c__law_holds_k55.body:=⟨⟨rfl,rfl,rfl,by decide +kernel,rfl,by decide +kernel,by decide +kernel⟩,by unfold L2.Loc; decide +kernel,by kernel_rfl⟩
theorem ZhN:Cmp 60 Zja ZiY c_law_k55.body:=⟨⟨rfl,rfl,rfl,by decide +kernel,rfl,by decide +kernel,by decide +kernel⟩,by unfold L2.Loc; decide +kernel,by kernel_rfl⟩
theorem ZfN:Xe G (Ys 20 0) ZbD ZbD c_Step_word.body:=⟨⟨rfl,rfl,rfl,by decide +kernel,rfl,by decide +kernel,by decide +kernel⟩,by unfold L2.Loc; decide +kernel,by kernel_rfl⟩
theorem ZfO:Xe G (Ys 20 1) ZbE ZbE c_Step_turned.body:=⟨⟨rfl,rfl,rfl,by decide +kernel,rfl,by decide +kernel,by decide +kernel⟩,by unfold L2.Loc; decide +kernel,by kernel_rfl⟩
theorem ZfP:Xe G (Ys 21 0) ZbF ZbF c_Sign_word.body:=⟨⟨rfl,rfl,rfl,by decide +kernel,rfl,by decide +kernel,by decide +kernel⟩,by unfold L2.Loc; decide +kernel,by kernel_rfl⟩
theorem ZfQ:Xe G (Ys 21 1) ZbG ZbG c_Sign_turned.body:=⟨⟨rfl,rfl,rfl,by decide +kernel,rfl,by decide +kernel,by decide +kernel⟩,by unfold L2.Loc; decide +kernel,by kernel_rfl⟩
theorem ZfR:Xe G (Ys 22 0) ZbH ZbH c_More_word.body:=⟨⟨rfl,rfl,rfl,by decide +kernel,rfl,by decide +kernel,by decide +kernel⟩,by unfold L2.Loc; decide +kernel,by kernel_rfl⟩
theorem ZfS:Xe G (Ys 22 1) Zfx Zfv c_More_turned.body:=⟨⟨rfl,rfl,rfl,by decide +kernel,rfl,by decide +kernel,by decide +kernel⟩,by unfold L2.Loc; decide +kernel,by kernel_rfl⟩
theorem ZfT:Xe G (Ys 23 0) ZbI ZbI c_Turn_word.body:=⟨⟨rfl,rfl,rfl,by decide +kernel,rfl,by decide +kernel,by decide +kernel⟩,by unfold L2.Loc; decide +kernel,by kernel_rfl⟩
theorem ZfU:Xe G (Ys 23 1) ZbJ ZbJ c_Turn_turned.body:=⟨⟨rfl,rfl,rfl,by decide +kernel,rfl,by decide +kernel,by decide +kernel⟩,by unfold L2.Loc; decide +kernel,by kernel_rfl⟩
theorem ZfV:Xe G (Ys 24 0) ZbK ZbK c_Out_word.body:=⟨⟨rfl,rfl,rfl,by decide +kernel,rfl,by decide +kernel,by decide +kernel⟩,by unfold L2.Loc; decide +kernel,by kernel_rfl⟩
theorem ZfW:Xe G (Ys 24 1) ZbL ZbL c_Out_turned.body:=⟨⟨rfl,rfl,rfl,by decide +kernel,rfl,by decide +kernel,by decide +kernel⟩,by unfold L2.Loc; decide +kernel,by kernel_rfl⟩
theorem ZfX:Xe G (Ys 25 0) ZbM ZbM c_Swap_word.body:=⟨⟨rfl,rfl,rfl,by decide +kernel,rfl,by decide +kernel,by decide +kernel⟩,by unfold L2.Loc; decide +kernel,by kernel_rfl⟩
theorem ZfY:Xe G (Ys 25 1) ZbN ZbN c_Swap_turned.body:=⟨⟨rfl,rfl,rfl,by decide +kernel,rfl,by decide +kernel,by decide +kernel⟩,by unfold L2.Loc; decide +kernel,by kernel_rfl⟩
theorem ZfZ:Xe G (Ys 26 0) ZbO ZbO c_Far_word.body:=⟨⟨rfl,rfl,rfl,by decide +kernel,rfl,by decide +kernel,by decide +kernel⟩,by unfold L2.Loc; decide +kernel,by kernel_rfl⟩
theorem Zf0:Xe G (Ys 26 1) ZbP ZbP c_Far_turned.body:=⟨⟨rfl,rfl,rfl,by decide +kernel,rfl,by decide +kernel,by decide +kernel⟩,by unfold L2.Loc; decide +kernel,by kernel_rfl⟩
@[reducible] noncomputable def tab (l:List (Nat×Addr)):ClsTab:=⟨fun i=>(l.lookup i).getD 0⟩
section
variable [ct:ClsTab]
theorem ZeW {Pm:Params}{K:PySem.W.Frag}{h:Heap}{mg:Str→Option Value}{fa:Addr} (X:K.In h) (G0:h.Ns mainGlobals mg) (hfa:mg "law"=some (.ref fa))
  {C0:Addr}
  {C1:Addr}
  {C2:Addr}
  {C3:Addr}
  {C4:Addr}
  {C5:Addr}
  {C6:Addr}
  {A7:Addr}{ob7:Obj}{ep7:Nat}{t7_0:Tok}{B7_0:Addr}{bo7_0:Obj}{bn7_0:Nat}{u7_0_0:Tok}{u7_0_1:Tok}{t7_1:Tok}{B7_1:Addr}{bo7_1:Obj}{bn7_1:Nat}{u7_1_0:Tok}{u7_1_1:Tok}{t7_2:Tok}{B7_2:Addr}{bo7_2:Obj}{bn7_2:Nat}{u7_2_0:Tok}{t7_3:Tok}{B7_3:Addr}{bo7_3:Obj}{bn7_3:Nat}{t7_4:Tok}{B7_4:Addr}{bo7_4:Obj}{bn7_4:Nat}
  {t10:Tok}
  {t11:Tok}
  {A12:Addr}{ob12:Obj}{on12:Nat}{t12_0:Tok}{t12_1:Tok}{t12_2:Tok}{t12_3:Tok}{t12_4:Tok}
  {A13:Addr}{ob13:Obj}{on13:Nat}{t13_0:Tok}{t13_1:Tok}{t13_2:Tok}{t13_3:Tok}{t13_4:Tok}{t13_5:Tok}
  {A19:Addr}{ob19:Obj}{ep19:Nat}{t19_0:Tok}{u19_0:Tok}{t19_1:Tok}{u19_1:Tok}{t19_2:Tok}{u19_2:Tok}{t19_3:Tok}{u19_3:Tok}{t19_4:Tok}{u19_4:Tok}{t19_5:Tok}{u19_5:Tok}
  {t32:Tok}
(yz0:ClsTab.ca 146=C0) (yz1:ClsTab.ca 169=C1) (yz2:ClsTab.ca 149=C2) (yz3:ClsTab.ca 157=C3) (yz4:ClsTab.ca 152=C4) (yz5:ClsTab.ca 160=C5) (yz6:ClsTab.ca 163=C6)
  (y0:ClsAt K "Step" C0) (ym0_0:PySem.W.kitOne K (.ref C0) (.ref C0)=some true) (ym0_1:PySem.W.kitOne K (.ref C1) (.ref C0)=some true) (ym0_2:PySem.W.kitOne K (.ref C2) (.ref C0)=some true) (ym0_3:PySem.W.kitOne K (.ref C3) (.ref C0)=some true) (ym0_4:PySem.W.kitOne K (.ref C4) (.ref C0)=some true) (ym0_5:PySem.W.kitOne K (.ref C5) (.ref C0)=some true) (ym0_6:PySem.W.kitOne K (.ref C6) (.ref C0)=some true) (w0_147:MtAt K C0 "word" "Step.word" (Ys 20 0)) (w0_148:MtAt K C0 "turned" "Step.turned" (Ys 20 1))
  (y1:ClsAt K "Sign" C1) (ym1_1:PySem.W.kitOne K (.ref C1) (.ref C1)=some true) (w1_170:MtAt K C1 "word" "Sign.word" (Ys 21 0)) (w1_171:MtAt K C1 "turned" "Sign.turned" (Ys 21 1))
  (y2:ClsAt K "More" C2) (ym2_2:PySem.W.kitOne K (.ref C2) (.ref C2)=some true) (w2_150:MtAt K C2 "word" "More.word" (Ys 22 0)) (w2_151:MtAt K C2 "turned" "More.turned" (Ys 22 1))
  (y3:ClsAt K "Turn" C3) (ym3_3:PySem.W.kitOne K (.ref C3) (.ref C3)=some true) (w3_158:MtAt K C3 "word" "Turn.word" (Ys 23 0)) (w3_159:MtAt K C3 "turned" "Turn.turned" (Ys 23 1))
  (y4:ClsAt K "Out" C4) (ym4_4:PySem.W.kitOne K (.ref C4) (.ref C4)=some true) (w4_153:MtAt K C4 "word" "Out.word" (Ys 24 0)) (w4_154:MtAt K C4 "turned" "Out.turned" (Ys 24 1))
  (y5:ClsAt K "Swap" C5) (ym5_5:PySem.W.kitOne K (.ref C5) (.ref C5)=some true) (w5_161:MtAt K C5 "word" "Swap.word" (Ys 25 0)) (w5_162:MtAt K C5 "turned" "Swap.turned" (Ys 25 1))
  (y6:ClsAt K "Far" C6) (ym6_6:PySem.W.kitOne K (.ref C6) (.ref C6)=some true) (w6_164:MtAt K C6 "word" "Far.word" (Ys 26 0)) (w6_165:MtAt K C6 "turned" "Far.turned" (Ys 26 1))
  (g7:PySem.W.nsIn K mainGlobals "OPERAND_PLACES"=some (some (.ref A7))) (d7:K.lookup A7=some ob7) (f7c:ob7.cls=.type "dict") (f7d:ob7.dict=none) (f7s:ob7.slots=#[]) (e7:ob7.data=.dict #[⟨PyData.keyHash Pm "put",.str "put" t7_0,.ref B7_0⟩,⟨PyData.keyHash Pm "if",.str "if" t7_1,.ref B7_1⟩,⟨PyData.keyHash Pm "tell",.str "tell" t7_2,.ref B7_2⟩,⟨PyData.keyHash Pm "go",.str "go" t7_3,.ref B7_3⟩,⟨PyData.keyHash Pm "skip",.str "skip" t7_4,.ref B7_4⟩] ep7) (s7:(A7==sysModules)=false)
  (h7_0:K.lookup B7_0=some bo7_0) (i7_0:bo7_0.cls=.type "tuple") (j7_0:bo7_0.data=.seq #[.int (2) u7_0_0,.int (4) u7_0_1] bn7_0)
  (h7_1:K.lookup B7_1=some bo7_1) (i7_1:bo7_1.cls=.type "tuple") (j7_1:bo7_1.data=.seq #[.int (1) u7_1_0,.int (3) u7_1_1] bn7_1)
  (h7_2:K.lookup B7_2=some bo7_2) (i7_2:bo7_2.cls=.type "tuple") (j7_2:bo7_2.data=.seq #[.int (1) u7_2_0] bn7_2)
  (h7_3:K.lookup B7_3=some bo7_3) (i7_3:bo7_3.cls=.type "tuple") (j7_3:bo7_3.data=.seq #[] bn7_3)
  (h7_4:K.lookup B7_4=some bo7_4) (i7_4:bo7_4.cls=.type "tuple") (j7_4:bo7_4.data=.seq #[] bn7_4)
  (a8:FnAt K "replaced" (top 5))
  (a9:FnAt K "operand_places" (top 6))
  (g10:PySem.W.nsIn K mainGlobals "HALF"=some (some (.int (1000000000) t10)))
  (g11:PySem.W.nsIn K mainGlobals "RING"=some (some (.int (2000000000) t11)))
  (g12:PySem.W.nsIn K mainGlobals "PUT_SIGNS"=some (some (.ref A12))) (d12:K.lookup A12=some ob12) (f12c:ob12.cls=.type "tuple") (f12d:ob12.dict=none) (e12:ob12.data=.seq #[.str "+" t12_0,.str "-" t12_1,.str "*" t12_2,.str "/" t12_3,.str "mod" t12_4] on12)
  (g13:PySem.W.nsIn K mainGlobals "IF_SIGNS"=some (some (.ref A13))) (d13:K.lookup A13=some ob13) (f13c:ob13.cls=.type "tuple") (f13d:ob13.dict=none) (e13:ob13.data=.seq #[.str "<" t13_0,.str "<=" t13_1,.str "=" t13_2,.str ">=" t13_3,.str ">" t13_4,.str "!=" t13_5] on13)
  (a14:FnAt K "around" (top 12))
  (a15:FnAt K "divided" (top 13))
  (a16:FnAt K "left_over" (top 14))
  (a17:FnAt K "reckon" (top 15))
  (a18:FnAt K "is_so" (top 16))
  (g19:PySem.W.nsIn K mainGlobals "CONTRARIES"=some (some (.ref A19))) (d19:K.lookup A19=some ob19) (f19c:ob19.cls=.type "dict") (f19d:ob19.dict=none) (f19s:ob19.slots=#[]) (e19:ob19.data=.dict #[⟨PyData.keyHash Pm "<",.str "<" t19_0,.str ">=" u19_0⟩,⟨PyData.keyHash Pm ">=",.str ">=" t19_1,.str "<" u19_1⟩,⟨PyData.keyHash Pm "<=",.str "<=" t19_2,.str ">" u19_2⟩,⟨PyData.keyHash Pm ">",.str ">" t19_3,.str "<=" u19_3⟩,⟨PyData.keyHash Pm "=",.str "=" t19_4,.str "!=" u19_4⟩,⟨PyData.keyHash Pm "!=",.str "!=" t19_5,.str "=" u19_5⟩] ep19) (s19:(A19==sysModules)=false)
  (a20:FnAt K "behind" (top 19))
  (a21:FnAt K "fakes" (top 28))
  (a22:FnAt K "fake_of" (top 29))
  (a23:FnAt K "worth" (top 31))
  (a24:FnAt K "began" (top 32))
  (a25:FnAt K "at_end" (top 33))
  (a26:FnAt K "values_behind" (top 34))
  (a27:FnAt K "place_behind" (top 35))
  (a28:FnAt K "moved" (top 36))
  (a29:FnAt K "is_outcome" (top 37))
  (a30:FnAtE K "trail" (top 38) 100)
  (a31:FnAtE K "outcome" (top 39) 100)
  (g32:PySem.W.nsIn K mainGlobals "MOST_TRIALS"=some (some (.int (10) t32)))
  (a33:FnAt K "check_trials" (top 42))
  (a34:FnAt K "outcomes" (top 43))
  (a35:FnAt K "bits_unlike" (top 44))
  (a36:FnAtE K "bits_of" (top 45) 100)
  (a37:FnAt K "_law_whole" (top 47))
  (a38:FnAt K "_law_cell_at" (top 48))
  (a39:FnAt K "_law_number" (top 49))
  (a40:FnAt K "_law_operand" (top 50))
  (a41:FnAt K "_law_row" (top 51))
  (a42:FnAt K "_law_program" (top 52))
  (a43:FnAt K "_law_counter" (top 53))
  (a44:FnAt K "_law_round" (top 54))
  (a45:FnAt K "_law_sum" (top 55))
  (a46:FnAt K "_law_so" (top 56))
  (a47:FnAt K "_law_worth" (top 57))
  (a48:FnAt K "_law_outcome" (top 58))
  (a49:FnAt K "_law_holds" (top 59))
  (a50:FnAt K "law" (top 60))
  (z51:PySem.W.nsIn K mainGlobals "len"=some none)
  (z52:PySem.W.nsIn K mainGlobals "range"=some none)
  (z53:PySem.W.nsIn K mainGlobals "tuple"=some none)
  (z54:PySem.W.nsIn K mainGlobals "list"=some none)
  (z55:PySem.W.nsIn K mainGlobals "int"=some none)
  (z56:PySem.W.nsIn K mainGlobals "bool"=some none)
  (z57:PySem.W.nsIn K mainGlobals "str"=some none)
  (z58:PySem.W.nsIn K mainGlobals "min"=some none)
  (z59:PySem.W.nsIn K mainGlobals "max"=some none)
  (z60:PySem.W.nsIn K mainGlobals "isinstance"=some none)
  (z61:PySem.W.nsIn K mainGlobals "all"=some none)
  (z62:PySem.W.nsIn K mainGlobals "any"=some none)
  (z63:PySem.W.nsIn K mainGlobals "zip"=some none)
  (z64:PySem.W.nsIn K mainGlobals "sorted"=some none)
  (z65:PySem.W.nsIn K mainGlobals "enumerate"=some none) :
  Text Pm K mg G T∧∃ (fd:FuncData) (N:List Str),(∀ (s:Shared) (u:Value),BindsTo s fd ⟨[u],[]⟩ [(S "_law_script",u)])∧DefOk K mg G T "law" 16 [] fa fd [S "_law_script"] N:=by
 exact ⟨Zep (gC X G0 yz0 y0 (gS yz0 y0 ym0_0 (gS yz1 y1 ym0_1 (gS yz2 y2 ym0_2 (gS yz3 y3 ym0_3 (gS yz4 y4 ym0_4 (gS yz5 y5 ym0_5 (gS yz6 y6 ym0_6 trivial))))))) (gM w0_147 ZfN rfl (fun _ _ _ _ _ _=>bd1 rfl fun _=>rfl) (gM w0_148 ZfO rfl (fun _ _ _ _ _ _=>bd3 rfl fun _ _ _=>rfl) trivial)) (gC X G0 yz1 y1 (gS yz1 y1 ym1_1 trivial) (gM w1_170 ZfP rfl (fun _ _ _ _ _ _=>bd1 rfl fun _=>rfl) (gM w1_171 ZfQ rfl (fun _ _ _ _ _ _=>bd3 rfl fun _ _ _=>rfl) trivial)) (gC X G0 yz2 y2 (gS yz2 y2 ym2_2 trivial) (gM w2_150 ZfR rfl (fun _ _ _ _ _ _=>bd1 rfl fun _=>rfl) (gM w2_151 ZfS rfl (fun _ _ _ _ _ _=>bd3 rfl fun _ _ _=>rfl) trivial)) (gC X G0 yz3 y3 (gS yz3 y3 ym3_3 trivial) (gM w3_158 ZfT rfl (fun _ _ _ _ _ _=>bd1 rfl fun _=>rfl) (gM w3_159 ZfU rfl (fun _ _ _ _ _ _=>bd3 rfl fun _ _ _=>rfl) trivial)) (gC X G0 yz4 y4 (gS yz4 y4 ym4_4 trivial) (gM w4_153 ZfV rfl (fun _ _ _ _ _ _=>bd1 rfl fun _=>rfl) (gM w4_154 ZfW rfl (fun _ _ _ _ _ _=>bd3 rfl fun _ _ _=>rfl) trivial)) (gC X G0 yz5 y5 (gS yz5 y5 ym5_5 trivial) (gM w5_161 ZfX rfl (fun _ _ _ _ _ _=>bd1 rfl fun _=>rfl) (gM w5_162 ZfY rfl (fun _ _ _ _ _ _=>bd3 rfl fun _ _ _=>rfl) trivial)) (gC X G0 yz6 y6 (gS yz6 y6 ym6_6 trivial) (gM w6_164 ZfZ rfl (fun _ _ _ _ _ _=>bd1 rfl fun _=>rfl) (gM w6_165 Zf0 rfl (fun _ _ _ _ _ _=>bd3 rfl fun _ _ _=>rfl) trivial)) (⟨⟨A7,ob7,#[⟨PyData.keyHash Pm "put",.str "put" t7_0,.ref B7_0⟩,⟨PyData.keyHash Pm "if",.str "if" t7_1,.ref B7_1⟩,⟨PyData.keyHash Pm "tell",.str "tell" t7_2,.ref B7_2⟩,⟨PyData.keyHash Pm "go",.str "go" t7_3,.ref B7_3⟩,⟨PyData.keyHash Pm "skip",.str "skip" t7_4,.ref B7_4⟩],ep7,PySem.W.mg_of X G0 g7,d7,⟨f7c,f7d,f7s⟩,e7,s7,(by simp),(show EsOk Pm K [⟨PyData.keyHash Pm "put",.str "put" t7_0,.ref B7_0⟩,⟨PyData.keyHash Pm "if",.str "if" t7_1,.ref B7_1⟩,⟨PyData.keyHash Pm "tell",.str "tell" t7_2,.ref B7_2⟩,⟨PyData.keyHash Pm "go",.str "go" t7_3,.ref B7_3⟩,⟨PyData.keyHash Pm "skip",.str "skip" t7_4,.ref B7_4⟩] _ _ from .cons (v:=.ref B7_0) (t:=t7_0) rfl rfl (show RelV (.ref B7_0) (.ref B7_0) from rfl) (fun _ _=>.tup (xs:=[.int (2),.int (4)]) (.inr ⟨bo7_0,#[.int (2) u7_0_0,.int (4) u7_0_1],bn7_0,h7_0,i7_0,j7_0,(show (2:Nat)≤sizeLine by decide),.cons ⟨_,rfl⟩ (.cons ⟨_,rfl⟩ (.nil))⟩) (.cons (.int _) (.cons (.int _) (.nil)))) (.cons (v:=.ref B7_1) (t:=t7_1) rfl rfl (show RelV (.ref B7_1) (.ref B7_1) from rfl) (fun _ _=>.tup (xs:=[.int (1),.int (3)]) (.inr ⟨bo7_1,#[.int (1) u7_1_0,.int (3) u7_1_1],bn7_1,h7_1,i7_1,j7_1,(show (2:Nat)≤sizeLine by decide),.cons ⟨_,rfl⟩ (.cons ⟨_,rfl⟩ (.nil))⟩) (.cons (.int _) (.cons (.int _) (.nil)))) (.cons (v:=.ref B7_2) (t:=t7_2) rfl rfl (show RelV (.ref B7_2) (.ref B7_2) from rfl) (fun _ _=>.tup (xs:=[.int (1)]) (.inr ⟨bo7_2,#[.int (1) u7_2_0],bn7_2,h7_2,i7_2,j7_2,(show (1:Nat)≤sizeLine by decide),.cons ⟨_,rfl⟩ (.nil)⟩) (.cons (.int _) (.nil))) (.cons (v:=.ref B7_3) (t:=t7_3) rfl rfl (show RelV (.ref B7_3) (.ref B7_3) from rfl) (fun _ _=>.tup (xs:=[]) (.inr ⟨bo7_3,#[],bn7_3,h7_3,i7_3,j7_3,(show (0:Nat)≤sizeLine by decide),.nil⟩) (.nil)) (.cons (v:=.ref B7_4) (t:=t7_4) rfl rfl (show RelV (.ref B7_4) (.ref B7_4) from rfl) (fun _ _=>.tup (xs:=[]) (.inr ⟨bo7_4,#[],bn7_4,h7_4,i7_4,j7_4,(show (0:Nat)≤sizeLine by decide),.nil⟩) (.nil)) (.nil))))))⟩,gD X G0 a8 q_5 rfl (fun _ _ _ _ _ _=>bd3 rfl fun _ _ _=>rfl) (gD X G0 a9 q_6 rfl (fun _ _ _ _ _ _=>bd1 rfl fun _=>rfl) (gI X G0 g10 (gI X G0 g11 (⟨⟨.ref A12,.ref A12,PySem.W.mg_of X G0 g12,rfl,fun _ _=>.kt (its:=#[.str "+" t12_0,.str "-" t12_1,.str "*" t12_2,.str "/" t12_3,.str "mod" t12_4]) d12 f12c f12d e12 (show (5:Nat)≤sizeLine by decide) (.cons ⟨_,rfl⟩ (.cons ⟨_,rfl⟩ (.cons ⟨_,rfl⟩ (.cons ⟨_,rfl⟩ (.cons ⟨_,rfl⟩ (.nil))))))⟩,⟨⟨.ref A13,.ref A13,PySem.W.mg_of X G0 g13,rfl,fun _ _=>.kt (its:=#[.str "<" t13_0,.str "<=" t13_1,.str "=" t13_2,.str ">=" t13_3,.str ">" t13_4,.str "!=" t13_5]) d13 f13c f13d e13 (show (6:Nat)≤sizeLine by decide) (.cons ⟨_,rfl⟩ (.cons ⟨_,rfl⟩ (.cons ⟨_,rfl⟩ (.cons ⟨_,rfl⟩ (.cons ⟨_,rfl⟩ (.cons ⟨_,rfl⟩ (.nil)))))))⟩,gD X G0 a14 Zjh rfl (fun _ _ _ _ _ _=>bd1 rfl fun _=>rfl) (gD X G0 a15 Zji rfl (fun _ _ _ _ _ _=>bd2 rfl fun _ _=>rfl) (gD X G0 a16 Zjj rfl (fun _ _ _ _ _ _=>bd2 rfl fun _ _=>rfl) (gD X G0 a17 Zjk rfl (fun _ _ _ _ _ _=>bd3 rfl fun _ _ _=>rfl) (gD X G0 a18 Zjl rfl (fun _ _ _ _ _ _=>bd3 rfl fun _ _ _=>rfl) (⟨⟨A19,ob19,#[⟨PyData.keyHash Pm "<",.str "<" t19_0,.str ">=" u19_0⟩,⟨PyData.keyHash Pm ">=",.str ">=" t19_1,.str "<" u19_1⟩,⟨PyData.keyHash Pm "<=",.str "<=" t19_2,.str ">" u19_2⟩,⟨PyData.keyHash Pm ">",.str ">" t19_3,.str "<=" u19_3⟩,⟨PyData.keyHash Pm "=",.str "=" t19_4,.str "!=" u19_4⟩,⟨PyData.keyHash Pm "!=",.str "!=" t19_5,.str "=" u19_5⟩],ep19,PySem.W.mg_of X G0 g19,d19,⟨f19c,f19d,f19s⟩,e19,s19,(by simp),(show EsOk Pm K [⟨PyData.keyHash Pm "<",.str "<" t19_0,.str ">=" u19_0⟩,⟨PyData.keyHash Pm ">=",.str ">=" t19_1,.str "<" u19_1⟩,⟨PyData.keyHash Pm "<=",.str "<=" t19_2,.str ">" u19_2⟩,⟨PyData.keyHash Pm ">",.str ">" t19_3,.str "<=" u19_3⟩,⟨PyData.keyHash Pm "=",.str "=" t19_4,.str "!=" u19_4⟩,⟨PyData.keyHash Pm "!=",.str "!=" t19_5,.str "=" u19_5⟩] _ _ from .cons (v:=.str ">=") (t:=t19_0) rfl rfl (show RelV (.str ">=") (.str ">=" u19_0) from ⟨_,rfl⟩) (fun _ _=>.str _) (.cons (v:=.str "<") (t:=t19_1) rfl rfl (show RelV (.str "<") (.str "<" u19_1) from ⟨_,rfl⟩) (fun _ _=>.str _) (.cons (v:=.str ">") (t:=t19_2) rfl rfl (show RelV (.str ">") (.str ">" u19_2) from ⟨_,rfl⟩) (fun _ _=>.str _) (.cons (v:=.str "<=") (t:=t19_3) rfl rfl (show RelV (.str "<=") (.str "<=" u19_3) from ⟨_,rfl⟩) (fun _ _=>.str _) (.cons (v:=.str "!=") (t:=t19_4) rfl rfl (show RelV (.str "!=") (.str "!=" u19_4) from ⟨_,rfl⟩) (fun _ _=>.str _) (.cons (v:=.str "=") (t:=t19_5) rfl rfl (show RelV (.str "=") (.str "=" u19_5) from ⟨_,rfl⟩) (fun _ _=>.str _) (.nil)))))))⟩,gD X G0 a20 Zjm rfl (fun _ _ _ _ _ _=>bd2 rfl fun _ _=>rfl) (gD X G0 a21 Zjn rfl (fun _ _ _ _ _ _=>bd1 rfl fun _=>rfl) (gD X G0 a22 Zjo rfl (fun _ _ _ _ _ _=>bd3 rfl fun _ _ _=>rfl) (gD X G0 a23 Zjp rfl (fun _ _ _ _ _ _=>bd2 rfl fun _ _=>rfl) (gD X G0 a24 Zjq rfl (fun _ _ _ _ _ _=>bd2 rfl fun _ _=>rfl) (gD X G0 a25 Zjr rfl (fun _ _ _ _ _ _=>bd2 rfl fun _ _=>rfl) (gD X G0 a26 Zjs rfl (fun _ _ _ _ _ _=>bd2 rfl fun _ _=>rfl) (gD X G0 a27 Zjt rfl (fun _ _ _ _ _ _=>bd3 rfl fun _ _ _=>rfl) (gD X G0 a28 Zju rfl (fun _ _ _ _ _ _=>bd2 rfl fun _ _=>rfl) (gD X G0 a29 Zjv rfl (fun _ _ _ _ _ _=>bd1 rfl fun _=>rfl) (gE X G0 a30 Zjw rfl (fun _ _ _ _ _ _ _ _ _ _ d e=>⟨fun s us hK hl=>by obtain ⟨_,_,_,rfl⟩:=ZdF (show us.length=3 by simpa using hl); exact PySem.W.binds_K hK rfl d e rfl rfl,fun s us hK hl=>by obtain ⟨_,_,rfl⟩:=ZdE (show us.length=2 by simpa using hl); exact PySem.W.binds_K hK rfl d e rfl rfl⟩) (gE X G0 a31 Zjx rfl (fun _ _ _ _ _ _ _ _ _ _ d e=>⟨fun s us hK hl=>by obtain ⟨_,_,_,rfl⟩:=ZdF (show us.length=3 by simpa using hl); exact PySem.W.binds_K hK rfl d e rfl rfl,fun s us hK hl=>by obtain ⟨_,_,rfl⟩:=ZdE (show us.length=2 by simpa using hl); exact PySem.W.binds_K hK rfl d e rfl rfl⟩) (gI X G0 g32 (gD X G0 a33 Zjy rfl (fun _ _ _ _ _ _=>bd1 rfl fun _=>rfl) (gD X G0 a34 Zjz rfl (fun _ _ _ _ _ _=>bd3 rfl fun _ _ _=>rfl) (gD X G0 a35 ZjA rfl (fun _ _ _ _ _ _=>bd2 rfl fun _ _=>rfl) (gE X G0 a36 ZjB rfl (fun _ _ _ _ _ _ _ _ _ _ d e=>⟨fun s us hK hl=>by obtain ⟨_,_,_,rfl⟩:=ZdF (show us.length=3 by simpa using hl); exact PySem.W.binds_K hK rfl d e rfl rfl,fun s us hK hl=>by obtain ⟨_,_,rfl⟩:=ZdE (show us.length=2 by simpa using hl); exact PySem.W.binds_K hK rfl d e rfl rfl⟩) (gD X G0 a37 ZjC rfl (fun _ _ _ _ _ _=>bd1 rfl fun _=>rfl) (gD X G0 a38 ZjD rfl (fun _ _ _ _ _ _=>bd2 rfl fun _ _=>rfl) (gD X G0 a39 ZjE rfl (fun _ _ _ _ _ _=>bd1 rfl fun _=>rfl) (gD X G0 a40 ZjF rfl (fun _ _ _ _ _ _=>bd2 rfl fun _ _=>rfl) (gD X G0 a41 ZjG rfl (fun _ _ _ _ _ _=>bd3 rfl fun _ _ _=>rfl) (gD X G0 a42 ZjH rfl (fun _ _ _ _ _ _=>bd2 rfl fun _ _=>rfl) (gD X G0 a43 ZjI rfl (fun _ _ _ _ _ _=>bd1 rfl fun _=>rfl) (gD X G0 a44 ZjJ rfl (fun _ _ _ _ _ _=>bd1 rfl fun _=>rfl) (gD X G0 a45 ZjK rfl (fun _ _ _ _ _ _=>bd3 rfl fun _ _ _=>rfl) (gD X G0 a46 ZjL rfl (fun _ _ _ _ _ _=>bd3 rfl fun _ _ _=>rfl) (gD X G0 a47 ZjM rfl (fun _ _ _ _ _ _=>bd2 rfl fun _ _=>rfl) (gD X G0 a48 ZjN rfl (fun _ _ _ _ _ _=>bd4 rfl fun _ _ _ _=>rfl) (gD X G0 a49 ZjO rfl (fun _ _ _ _ _ _=>bd4 rfl fun _ _ _ _=>rfl) (gD X G0 a50 ZhN rfl (fun _ _ _ _ _ _=>bd1 rfl fun _=>rfl) (gB X G0 z51 (gB X G0 z52 (gB X G0 z53 (gB X G0 z54 (gB X G0 z55 (gB X G0 z56 (gB X G0 z57 (gB X G0 z58 (gB X G0 z59 (gB X G0 z60 (gB X G0 z61 (gB X G0 z62 (gB X G0 z63 (gB X G0 z64 (gB X G0 z65 (trivial))))))))))))))))))))))))))))))))))))))))))))))⟩)))))⟩⟩))))⟩)))))))),gL X G0 hfa a50 ZhN rfl fun _ _ _ _ _ _ _=>rfl⟩
theorem ZdP:∀ n,XU G (run T n):=fun _=>Zde
end
end Dp
open PySem PySem.W PyProof.Rows
set_option maxRecDepth 100000 in
set_option maxHeartbeats 0 in
theorem PySem.Challenge.cw_fakehunt_k55_bits_of_fakes_holds : PySem.Challenge.rw_fakehunt_k55_bits_of_fakes.Holds := by
 w_on; o_law; k_head; (case hw=>w_witness2)
 k_fill
 refine Dp.Zby (l:=PySem.Challenge.rw_fakehunt_k55_bits_of_fakes) (G:=Dp.G) (T:=Dp.T) (n:=11) (i:=16) (x := "_law_script") rfl rfl ⟨rfl,by decide,by decide⟩ (fun w h Y=>PySem.W.kIn_of Y) Dp.ZdP ?F (fun ns hn=>Dp.Zan hn)
 case F=>
  intro w mg fa h KX G0 hmg
  refine' ⟨Dp.tab [(146,?C0),(169,?C1),(149,?C2),(157,?C3),(152,?C4),(160,?C5),(163,?C6)],Dp.ZeW (ct:=Dp.tab [(146,?C0),(169,?C1),(149,?C2),(157,?C3),(152,?C4),(160,?C5),(163,?C6)]) (Pm:=w.params) (C0:=?C0) (C1:=?C1) (C2:=?C2) (C3:=?C3) (C4:=?C4) (C5:=?C5) (C6:=?C6) KX G0 hmg ?z0 ?z1 ?z2 ?z3 ?z4 ?z5 ?z6 ⟨?_,?_,?_,?_,?_,?_,?_,?_,?_,?_,?_,?_⟩ ?_ ?_ ?_ ?_ ?_ ?_ ?_ (.mk ?_ ?_ ?_ ?_ ?_) (.mk ?_ ?_ ?_ ?_ ?_) ⟨?_,?_,?_,?_,?_,?_,?_,?_,?_,?_,?_,?_⟩ ?_ (.mk ?_ ?_ ?_ ?_ ?_) (.mk ?_ ?_ ?_ ?_ ?_) ⟨?_,?_,?_,?_,?_,?_,?_,?_,?_,?_,?_,?_⟩ ?_ (.mk ?_ ?_ ?_ ?_ ?_) (.mk ?_ ?_ ?_ ?_ ?_) ⟨?_,?_,?_,?_,?_,?_,?_,?_,?_,?_,?_,?_⟩ ?_ (.mk ?_ ?_ ?_ ?_ ?_) (.mk ?_ ?_ ?_ ?_ ?_) ⟨?_,?_,?_,?_,?_,?_,?_,?_,?_,?_,?_,?_⟩ ?_ (.mk ?_ ?_ ?_ ?_ ?_) (.mk ?_ ?_ ?_ ?_ ?_) ⟨?_,?_,?_,?_,?_,?_,?_,?_,?_,?_,?_,?_⟩ ?_ (.mk ?_ ?_ ?_ ?_ ?_) (.mk ?_ ?_ ?_ ?_ ?_) ⟨?_,?_,?_,?_,?_,?_,?_,?_,?_,?_,?_,?_⟩ ?_ (.mk ?_ ?_ ?_ ?_ ?_) (.mk ?_ ?_ ?_ ?_ ?_) ?_ ?_ ?_ ?_ ?_ ?_ ?_ ?_ ?_ ?_ ?_ ?_ ?_ ?_ ?_ ?_ ?_ ?_ ?_ ?_ ?_ ?_ (.mk ?_ ?_ ?_ ?_) (.mk ?_ ?_ ?_ ?_) ?_ ?_ ?_ ?_ ?_ ?_ ?_ ?_ ?_ ?_ ?_ ?_ (.mk ?_ ?_ ?_ ?_) (.mk ?_ ?_ ?_ ?_) (.mk ?_ ?_ ?_ ?_) (.mk ?_ ?_ ?_ ?_) (.mk ?_ ?_ ?_ ?_) ?_ ?_ ?_ ?_ ?_ ?_ ?_ (.mk ?_ ?_ ?_ ?_) (.mk ?_ ?_ ?_ ?_) (.mk ?_ ?_ ?_ ?_) (.mk ?_ ?_ ?_ ?_) (.mk ?_ ?_ ?_ ?_) (.mk ?_ ?_ ?_ ?_) (.mk ?_ ?_ ?_ ?_) (.mk ?_ ?_ ?_ ?_) (.mk ?_ ?_ ?_ ?_) (.mk ?_ ?_ ?_ ?_) (.mk ?_ ?_ ?_ ?_ ?_ ?_) (.mk ?_ ?_ ?_ ?_ ?_ ?_) ?_ (.mk ?_ ?_ ?_ ?_) (.mk ?_ ?_ ?_ ?_) (.mk ?_ ?_ ?_ ?_) (.mk ?_ ?_ ?_ ?_ ?_ ?_) (.mk ?_ ?_ ?_ ?_) (.mk ?_ ?_ ?_ ?_) (.mk ?_ ?_ ?_ ?_) (.mk ?_ ?_ ?_ ?_) (.mk ?_ ?_ ?_ ?_) (.mk ?_ ?_ ?_ ?_) (.mk ?_ ?_ ?_ ?_) (.mk ?_ ?_ ?_ ?_) (.mk ?_ ?_ ?_ ?_) (.mk ?_ ?_ ?_ ?_) (.mk ?_ ?_ ?_ ?_) (.mk ?_ ?_ ?_ ?_) (.mk ?_ ?_ ?_ ?_) (.mk ?_ ?_ ?_ ?_) ?_ ?_ ?_ ?_ ?_ ?_ ?_ ?_ ?_ ?_ ?_ ?_ ?_ ?_ ?_⟩
  all_goals (first | k_is | exact rfl | skip)
  all_goals (first | k_is | exact rfl | skip)

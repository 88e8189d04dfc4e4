import PyProof.Rows.All
import Wide.All
import OpenK.AllK
import Wide.FinOn
import Lean
import PyProof.EqAt
import PyProof.EqKinds
import PyProof.TupleCall
import PySem.Challenge.RW_fakehunt_k45_boxes
set_option Elab.async false
set_option linter.all false
set_option maxRecDepth 100000
set_option maxHeartbeats 4000000
set_option genSizeOf false
namespace L2
open PySem PySem.Spec PyProof.Rows

noncomputable abbrev Key:=Sum Int Str
noncomputable def keyIs:Key→Value→Bool
  | .inl k,v=>Value.isInt k v
  | .inr x,v=>Value.isStrOf x v
noncomputable def keyH (w:World):Key→Int
  | .inl k=>hashInt k
  | .inr x=>hashStr w x
theorem keyIs_shape:∀ {k:Key}{v:Value},keyIs k v=true→(∃ i t,k=Sum.inl i∧v=Value.int i t)∨(∃ x t,k=Sum.inr x∧v=Value.str x t)
  | .inl i,v,h=>by
    obtain ⟨t,e⟩:=Value.isInt_shape (k:=i) (v:=v) h
    exact .inl ⟨i,t,rfl,e⟩
  | .inr x,v,h=>by
    obtain ⟨t,e⟩:=Value.isStrOf_shape (x:=x) (v:=v) h
    exact .inr ⟨x,t,rfl,e⟩
theorem keyIs_int (i:Int) (t:Tok):keyIs (.inl i) (.int i t)=true:=by simp [keyIs,Value.isInt]
theorem keyIs_str (x:Str) (t:Tok):keyIs (.inr x) (.str x t)=true:=by simp [keyIs,Value.isStrOf]
theorem key_ll (a b:Int):decide ((Sum.inl a:Key)=Sum.inl b)=(a==b):=by
  by_cases e:a=b
  · subst e; simp
  · have h:¬(Sum.inl a:Key)=Sum.inl b:=fun q=>e (Sum.inl.inj q)
    rw [decide_eq_false h]
    exact (beq_eq_false_iff_ne.mpr e).symm
theorem key_rr (a b:Str):decide ((Sum.inr a:Key)=Sum.inr b)=decide (a=b):=by
  by_cases e:a=b
  · subst e; simp
  · have h:¬(Sum.inr a:Key)=Sum.inr b:=fun q=>e (Sum.inr.inj q)
    rw [decide_eq_false h,decide_eq_false e]
theorem key_lr (a:Int) (b:Str):decide ((Sum.inl a:Key)=Sum.inr b)=false:=decide_eq_false (fun q=>nomatch q)
theorem key_rl (a:Str) (b:Int):decide ((Sum.inr a:Key)=Sum.inl b)=false:=decide_eq_false (fun q=>nomatch q)

noncomputable def mixKind (prog:Program) (w:World):PySem.KeyKind prog w Key where
  is:=keyIs
  hash:=keyH w
  inj:=fun v a b ha hb=>by
    rcases keyIs_shape ha with ⟨i,t,rfl,rfl⟩ | ⟨x,t,rfl,rfl⟩
    · rcases keyIs_shape hb with ⟨j,u,rfl,e⟩ | ⟨y,u,rfl,e⟩
      · injection e with e1 _; rw [e1]
      · exact nomatch e
    · rcases keyIs_shape hb with ⟨j,u,rfl,e⟩ | ⟨y,u,rfl,e⟩
      · exact nomatch e
      · injection e with e1 _; rw [e1]
  byValue:=fun k v h=>by
    rcases keyIs_shape h with ⟨i,t,rfl,rfl⟩ | ⟨x,t,rfl,rfl⟩<;>rfl
  pyHash:=fun hv h=>by
    rcases keyIs_shape hv with ⟨i,t,rfl,rfl⟩ | ⟨x,t,rfl,rfl⟩
    · exact wpAny_pyHash_int h
    · exact wpAny_pyHash_str h
  eqBool:=fun hu hv h=>by
    rcases keyIs_shape hu with ⟨i,t,rfl,rfl⟩ | ⟨x,t,rfl,rfl⟩
    · rcases keyIs_shape hv with ⟨j,u,rfl,rfl⟩ | ⟨y,u,rfl,rfl⟩
      · rw [key_ll] at h; exact wpAny_eqBool_int h
      · rw [key_lr] at h; exact SeqAt.EqAt.int_str i t y u _ _ _ _ h
    · rcases keyIs_shape hv with ⟨j,u,rfl,rfl⟩ | ⟨y,u,rfl,rfl⟩
      · rw [key_rl] at h; exact SeqAt.EqAt.str_int x t j u _ _ _ _ h
      · rw [key_rr] at h; exact wpAny_eqBool_str h
  «strs»:=fun k x t v h=>by
    rcases keyIs_shape h with ⟨i,u,rfl,e⟩ | ⟨y,u,rfl,e⟩
    · exact nomatch e
    · injection e with e1 _
      subst e1
      cases v<;>rfl

theorem mixKind_int (prog:Program) (w:World) (i:Int) (t:Tok):(mixKind prog w).is (.inl i) (.int i t)=true:=keyIs_int i t
theorem mixKind_str (prog:Program) (w:World) (x:Str) (t:Tok):(mixKind prog w).is (.inr x) (.str x t)=true:=keyIs_str x t
end L2

namespace L2
open PySem PySem.Spec PyProof.Rows

inductive V where
  | non | bl (b:Bool) | int (i:Int) | str (x:Str) | byt (b:Array UInt8) | flt (b:UInt64) | ref (a:Addr) | ty (n:String)
  deriving DecidableEq

def RelV:V→Value→Prop
  | .non,u=>u=Value.none
  | .bl b,u=>u=Value.bool b
  | .int i,u=>∃ t,u=Value.int i t
  | .str x,u=>∃ t,u=Value.str x t
  | .byt b,u=>∃ t,u=Value.bytes b t
  | .flt b,u=>∃ t,u=Value.float b t
  | .ref a,u=>u=Value.ref a
  | .ty n,u=>u=Value.type n

abbrev Vals:List V→List Value→Prop:=Paired RelV
theorem Vals.length {xs:List V}{us:List Value} (r:Vals xs us):xs.length=us.length:=Paired.length r
theorem Vals.get:∀ {xs:List V}{us:List Value}{i:Nat}{x:V},Vals xs us→xs[i]?=some x→∃ u,us[i]?=some u∧RelV x u
  | _,_,_,_,.nil,e=>by simp at e
  | _,_,0,_,.cons r _,e=>by simp at e; subst e; exact ⟨_,rfl,r⟩
  | _,_,i+1,x,.cons _ t,e=>by
    obtain ⟨u,h1,h2⟩:=Vals.get (i:=i) (x:=x) t (by simpa using e)
    exact ⟨u,by simpa using h1,h2⟩
theorem Vals.set {x:V}{u:Value} (r:RelV x u):∀ {xs:List V}{us:List Value} (i:Nat),Vals xs us→Vals (xs.set i x) (us.set i u)
  | _,_,_,.nil=>.nil
  | _,_,0,.cons _ t=>.cons r t
  | _,_,i+1,.cons q t=>.cons q (Vals.set r i t)
theorem Vals.append:∀ {xs ys:List V}{us ws:List Value},Vals xs us→Vals ys ws→Vals (xs++ys) (us++ws)
  | _,_,_,_,.nil,s=>s
  | _,_,_,_,.cons r t,s=>.cons r (Vals.append t s)
theorem Vals.take:∀ {xs:List V}{us:List Value} (n:Nat),Vals xs us→Vals (xs.take n) (us.take n)
  | _,_,0,_=>.nil
  | _,_,_+1,.nil=>.nil
  | _,_,n+1,.cons r t=>.cons r (Vals.take n t)
theorem Vals.drop:∀ {xs:List V}{us:List Value} (n:Nat),Vals xs us→Vals (xs.drop n) (us.drop n)
  | _,_,0,r=>r
  | _,_,_+1,.nil=>.nil
  | _,_,n+1,.cons _ t=>Vals.drop n t

def RelO:Option V→Option Value→Prop
  | some v,some u=>RelV v u
  | none,none=>True
  | _,_=>False
def KV {κ:Type}:List (κ×V)→List (κ×Value)→Prop:=Paired fun (p:κ×V) (q:κ×Value)=>p.1=q.1∧RelV p.2 q.2

noncomputable def kV:Key→V
  | .inl i=>.int i
  | .inr x=>.str x

inductive HO where
    | lst (xs:List V)
    | tup (xs:List V)
    | dK (kvs:List (Key×V)) | dT (kvs:List (List Key×V))
    | set (S:Int→Bool) (n:Nat)
    | ins (C dx:Addr) (fs:List (Str×V))
    | own (x:Addr)
    | xd (fs:List (Str×V))
    | met (f x:Addr)
    | rng (lo hi:Int)
    | frz (o:Obj) (u:HO)
    | tbl (ps:Array Value)
    | ext (φ:Heap→Prop)

noncomputable abbrev Hp:=Addr→Option HO
noncomputable def upd (H:Hp) (a:Addr) (o:HO):Hp:=fun b=>if b=a then some o else H b
theorem upd_same {H:Hp}{a:Addr}{o:HO}:upd H a o a=some o:=by unfold upd; rw [if_pos rfl]
theorem upd_ne {H:Hp}{a b:Addr}{o:HO} (h:b≠a):upd H a o b=H b:=by unfold upd; rw [if_neg h]
theorem upd_upd {H:Hp}{a:Addr}{o u:HO}:upd (upd H a o) a u=upd H a u:=by
  funext b; unfold upd; split<;>rfl
theorem ne_of {H:Hp}{a b:Addr}{o u:HO} (h:H a=some o) (h':H b=some u) (d:o≠u):a≠b:=by
  intro e; subst e; rw [h] at h'; exact d (Option.some.inj h')
theorem ne_of_none {H:Hp}{a b:Addr}{o:HO} (h:H a=some o) (h':H b=none):a≠b:=by
  intro e; subst e; rw [h] at h'; cases h'

section
variable (P:Program) (w:World)
def ObjOk (H:Hp) (h:Heap) (a:Addr):HO→Prop
  | .lst xs=>xs.length≤sizeLine∧∃ (its:List Value) (n:Nat),Vals xs its∧h.get? a=some { cls:=.type "list",data:=.seq its.toArray n }
  | .tup xs=>xs.length≤sizeLine∧∃ its:List Value,Vals xs its∧IsTup h a its.toArray
  | .dK kvs=>kvs.length≤sizeLine∧(a==sysModules)=false∧∃ vs,KV kvs vs∧h.DictOf (mixKind P w) a vs
  | .dT kvs=>kvs.length≤sizeLine∧(a==sysModules)=false∧∃ xs:List (List Key×Addr×Value),
      Paired (fun (p:List Key×V) (q:List Key×Addr×Value)=>p.1=q.1∧H q.2.1=some (.tup (p.1.map kV))∧RelV p.2 q.2.2) kvs xs ∧
      ∃ o es ep,h.get? a=some o∧o.ExactDict∧o.data=.dict es ep∧es.toList=xs.map (entryOfKey (tupleKind (mixKind P w)))∧(xs.map (·.1)).Nodup
  | .set S n=>h.SetOf (intKind P w) a S n
  | .ins C dx fs=>H dx=some (.own a)∧fs.length≤1000∧dx≠a∧h.get? a=some (PySem.W.instObj C dx) ∧
      ∃ mA,h.Ns1 dx mA∧(∀ f,RelO (fs.lookup f) (mA f))∧PySem.Within mA (fs.map (·.1))
  | .own _=>∃ o,h.get? a=some o
  | .xd fs=>∃ mA,h.Ns1 a mA∧∀ f,RelO (fs.lookup f) (mA f)
  | .rng lo hi=>∃ t u v,h.get? a=some { cls:=.type "range",data:=.fields #[.int lo t,.int hi u,.int 1 v] }
  | .frz o u=>h.get? a=some o∧ObjOk H h a u
  | .tbl ps=>h.get? a=some { cls:=.none,data:=.fields ps }
  | .met f x=>h.get? a=some (PySem.W.methodObj (.ref f) (.ref x))
  | .ext φ=>φ h∧(∃ o,h.get? a=some o)∧∀ h1 h2:Heap,φ h1→(∀ o,h1.get? a=some o→h2.get? a=some o)→φ h2
def HOk (H:Hp) (h:Heap):Prop:=∀ a o,H a=some o→ObjOk P w H h a o
end

section
variable {P:Program}{w:World}{H H':Hp}{h h':Heap}{a:Addr}{o:HO}
theorem ObjOk.lt (x:ObjOk P w H h a o):a < h.objs.size:=by
  cases o with
  | lst xs=>obtain ⟨_,_,_,_,e⟩:=x; exact Heap.lt_size e
  | tup xs=>obtain ⟨_,_,_,p⟩:=x; exact p.lt
  | dK kvs=>obtain ⟨_,_,_,_,o,_,_,e,_⟩:=x; exact Heap.lt_size e
  | dT kvs=>obtain ⟨_,_,_,_,o,_,_,e,_⟩:=x; exact Heap.lt_size e
  | set S n=>obtain ⟨o,_,_,_,e,_⟩:=x; exact Heap.lt_size e
  | ins C dx fs=>obtain ⟨_,_,_,e,_⟩:=x; exact Heap.lt_size e
  | own y=>obtain ⟨_,e⟩:=x; exact Heap.lt_size e
  | xd fs=>obtain ⟨_,⟨_,_,_,e,_⟩,_⟩:=x; exact Heap.lt_size e
  | rng lo hi=>obtain ⟨_,_,_,e⟩:=x; exact Heap.lt_size e
  | frz ob u=>obtain ⟨e,_⟩:=x; exact Heap.lt_size e
  | tbl ps=>exact Heap.lt_size (show h.get? a=some _ from x)
  | met f y=>exact Heap.lt_size (show h.get? a=some _ from x)
  | ext φ=>obtain ⟨_,⟨_,e⟩,_⟩:=x; exact Heap.lt_size e
theorem Paired.mapP {α β:Type}{F G:α→β→Prop}:∀ {l₁:List α}{l₂:List β},Paired F l₁ l₂→(∀ a b,F a b→G a b)→Paired G l₁ l₂
  | _,_,.nil,_=>.nil
  | _,_,.cons r t,f=>.cons (f _ _ r) (Paired.mapP t f)
theorem ObjOk.stay (x:ObjOk P w H h a o) (k:∀ b u,(b=a∨H b=some (.own a))→h.get? b=some u→h'.get? b=some u)
    (ho:∀ b,H b=some (.own a)→H' b=some (.own a)) (ht:∀ b xs,H b=some (.tup xs)→H' b=some (.tup xs)):ObjOk P w H' h' a o:=by
  induction o with
  | lst xs=>obtain ⟨z,its,n,r,e⟩:=x; exact ⟨z,its,n,r,k _ _ (.inl rfl) e⟩
  | tup xs=>obtain ⟨z,its,r,ob,e,c⟩:=x; exact ⟨z,its,r,ob,k _ _ (.inl rfl) e,c⟩
  | dK kvs=>obtain ⟨z,y,vs,r,ob,es,ep,e,c⟩:=x; exact ⟨z,y,vs,r,ob,es,ep,k _ _ (.inl rfl) e,c⟩
  | dT kvs=>
    obtain ⟨z,y,xs,r,ob,es,ep,e,c⟩:=x
    exact ⟨z,y,xs,Paired.mapP r fun p q z=>⟨z.1,ht _ _ z.2.1,z.2.2⟩,ob,es,ep,k _ _ (.inl rfl) e,c⟩
  | set S n=>obtain ⟨ob,es,ep,t,e,c⟩:=x; exact ⟨ob,es,ep,t,k _ _ (.inl rfl) e,c⟩
  | ins C dx fs=>
    obtain ⟨d,z,ne,e,mA,⟨od,es,ep,e2,c⟩,r⟩:=x
    exact ⟨ho _ d,z,ne,k _ _ (.inl rfl) e,mA,⟨od,es,ep,k _ _ (.inr d) e2,c⟩,r⟩
  | own y=>obtain ⟨ob,e⟩:=x; exact ⟨ob,k _ _ (.inl rfl) e⟩
  | xd fs=>obtain ⟨mA,⟨od,es,ep,e,c⟩,r⟩:=x; exact ⟨mA,⟨od,es,ep,k _ _ (.inl rfl) e,c⟩,r⟩
  | rng lo hi=>obtain ⟨t,u,v,e⟩:=x; exact ⟨t,u,v,k _ _ (.inl rfl) e⟩
  | frz ob u ih=>obtain ⟨e,q⟩:=x; exact ⟨k _ _ (.inl rfl) e,ih q⟩
  | tbl ps=>
    have e:h.get? a=some { cls:=.none,data:=.fields ps }:=x
    show h'.get? a=some { cls:=.none,data:=.fields ps }
    exact k a _ (.inl rfl) e
  | met f y=>
    have e:h.get? a=some (PySem.W.methodObj (.ref f) (.ref y)):=x
    show h'.get? a=some (PySem.W.methodObj (.ref f) (.ref y))
    exact k a _ (.inl rfl) e
  | ext φ=>obtain ⟨p,⟨o,e⟩,st⟩:=x; exact ⟨st _ _ p fun o q=>k _ _ (.inl rfl) q,⟨o,k _ _ (.inl rfl) e⟩,st⟩
theorem HOk.lt (x:HOk P w H h) (e:H a=some o):a < h.objs.size:=(x a o e).lt
theorem HOk.fresh (x:HOk P w H h) (e:h.objs.size≤a):H a=none:=by
  cases q:H a with
  | none=>rfl
  | some u=>exact absurd (Nat.lt_of_lt_of_le (x.lt q) e) (Nat.lt_irrefl _)
theorem HOk.kept (x:HOk P w H h) (k:∀ b u,h.get? b=some u→h'.get? b=some u):HOk P w H h':=fun a o e=>
  (x a o e).stay (fun b u _ q=>k b u q) (fun _ q=>q) fun _ _ q=>q
theorem HOk.laid (x:HOk P w H h) (k:∀ b u,h.get? b=some u→h'.get? b=some u) (hp:h.objs.size≤a) (new:ObjOk P w (upd H a o) h' a o):HOk P w (upd H a o) h':=fun b u e=>by
  have hn:=x.fresh hp
  by_cases hb:b=a
  · subst hb; rw [upd_same] at e; cases e; exact new
  · rw [upd_ne hb] at e
    exact (x b u e).stay (fun c v _ q=>k c v q) (fun c q=>by rw [upd_ne (ne_of_none q hn)]; exact q) fun c xs q=>by rw [upd_ne (ne_of_none q hn)]; exact q
end

def Rd (H:Hp) (a:Addr) (u:HO):Prop:=H a=some u∨∃ o,H a=some (.frz o u)
theorem Rd.ok {P:Program}{w:World}{H:Hp}{h:Heap}{a:Addr}{u:HO} (r:Rd H a u) (x:HOk P w H h):ObjOk P w H h a u:=by
  rcases r with r | ⟨o,r⟩
  · exact x a u r
  · obtain ⟨_,q⟩:=x a _ r
    exact q
def Mut:Option HO→Prop
  | some (.lst _)=>True
  | some (.dK _)=>True
  | some (.dT _)=>True
  | some (.set _ _)=>True
  | some (.ins _ _ _)=>True
  | some (.ext _)=>True
  | _=>False
section
variable {P:Program}{w:World}{H:Hp}{h h':Heap}{x e:Addr}{o':HO}
theorem HOk.write (ok:HOk P w H h) (mu:Mut (H x)) (he:e=x∨H e=some (.own x)) (k:∀ b u,b≠e→h.get? b=some u→h'.get? b=some u) (heo:∃ u,h'.get? e=some u)
    (new:ObjOk P w (upd H x o') h' x o'):HOk P w (upd H x o') h':=fun b u q=>by
  have nown:∀ c y,H c=some (.own y)→c≠x:=fun c y r z=>by subst z; rw [r] at mu; exact mu
  have ntup:∀ c xs,H c=some (.tup xs)→c≠x:=fun c xs r z=>by subst z; rw [r] at mu; exact mu
  by_cases hb:b=x
  · subst hb; rw [upd_same] at q; cases q; exact new
  · rw [upd_ne hb] at q
    by_cases hbe:b=e
    · have q':H b=some (.own x):=by
        rcases he with z | z
        · exact absurd (hbe.trans z) hb
        · rw [hbe]; exact z
      rw [q] at q'; cases q'
      obtain ⟨v,hv⟩:=heo
      exact ⟨v,by rw [hbe]; exact hv⟩
    · refine (ok b u q).stay (fun c v hc r=>k c v ?_ r) (fun c r=>by rw [upd_ne (nown c b r)]; exact r) fun c xs r=>by rw [upd_ne (ntup c xs r)]; exact r
      rcases hc with rfl | hc
      · exact hbe
      · rintro rfl
        rcases he with z | z
        · exact nown c b hc z
        · rw [hc] at z; cases z; exact hb rfl
end

structure Un (fs ex:List Addr) (H H':Hp) (h h':Heap):Prop where
  keep:∀ b o,h.get? b=some o→H b=none→b∉fs→b∉ex→h'.get? b=some o
  slot:∀ b o,h.get? b=some o→H b=none→b∈fs→b∉ex→∃ sl,h'.get? b=some { o with slots:=sl }
  free:∀ b o,h.get? b=some o→H b=none→b∉ex→H' b=none
  there:∀ b o,h.get? b=some o→b∉ex→∃ o',h'.get? b=some o'
  tups:∀ b xs,H b=some (.tup xs)→H' b=some (.tup xs)
  frzs:∀ b o u,H b=some (.frz o u)→H' b=some (.frz o u)
  tbls:∀ b ps,H b=some (.tbl ps)→∃ more,H' b=some (.tbl (ps++more))
section
variable {fs fs' ex ex':List Addr}{H H1 H2:Hp}{h h1 h2 h':Heap}{a x e:Addr}{o:HO}
theorem Un.any (u:Un fs ex H H1 h h1) {b:Addr}{ob:Obj} (q:h.get? b=some ob) (n:H b=none) (hx:b∉ex):∃ sl,h1.get? b=some { ob with slots:=sl }:=by
  by_cases hb:b∈fs
  · exact u.slot b ob q n hb hx
  · exact ⟨ob.slots,u.keep b ob q n hb hx⟩
theorem Un.kept (k:∀ b u,h.get? b=some u→h'.get? b=some u):Un fs ex H H h h':=
  ⟨fun b ob q _ _ _=>k b ob q,fun b ob q _ _ _=>⟨ob.slots,k b ob q⟩,fun _ _ _ n _=>n,fun b ob q _=>⟨ob,k b ob q⟩,fun _ _ q=>q,fun _ _ _ q=>q,fun _ ps q=>⟨#[],by rw [q]; simp⟩⟩
theorem Un.refl:Un fs ex H H h h:=Un.kept fun _ _ q=>q
theorem Un.laid (k:∀ b u,h.get? b=some u→h'.get? b=some u) (hp:h.objs.size≤a) (hn:H a=none):Un fs ex H (upd H a o) h h' where
  keep:=fun b u q _ _ _=>k b u q
  slot:=fun b u q _ _ _=>⟨u.slots,k b u q⟩
  free:=fun b u q n _=>by rw [upd_ne (Nat.ne_of_lt (Nat.lt_of_lt_of_le (Heap.lt_size q) hp))]; exact n
  there:=fun b u q _=>⟨u,k b u q⟩
  tups:=fun b xs q=>by rw [upd_ne (ne_of_none q hn)]; exact q
  frzs:=fun b u xs q=>by rw [upd_ne (ne_of_none q hn)]; exact q
  tbls:=fun b ps q=>⟨#[],by rw [upd_ne (ne_of_none q hn),q]; simp⟩
theorem Un.write (mu:Mut (H x)) (he:e=x∨H e=some (.own x)) (k:∀ b u,b≠e→h.get? b=some u→h'.get? b=some u) (heo:∃ u,h'.get? e=some u):Un fs ex H (upd H x o) h h':=by
  have hx:∀ b,H b=none→b≠x:=fun b n z=>by subst z; rw [n] at mu; exact mu
  have hb:∀ b,H b=none→b≠e:=fun b n z=>by
    subst z
    rcases he with r | r
    · exact hx b n r
    · rw [n] at r; cases r
  have hm:∀ b u,H b=some u→¬Mut (some u)→b≠x:=fun b u q nm z=>by subst z; rw [q] at mu; exact nm mu
  refine ⟨fun b u q n _ _=>k b u (hb b n) q,fun b u q n _ _=>⟨u.slots,k b u (hb b n) q⟩,fun b u q n _=>by rw [upd_ne (hx b n)]; exact n,fun b u q _=>?_,
    fun b xs q=>by rw [upd_ne (hm b _ q fun z=>z)]; exact q,fun b u xs q=>by rw [upd_ne (hm b _ q fun z=>z)]; exact q,fun b ps q=>⟨#[],by rw [upd_ne (hm b _ q fun z=>z),q]; simp⟩⟩
  by_cases hbe:b=e
  · subst hbe; exact heo
  · exact ⟨u,k b u hbe q⟩
end

noncomputable def trk (h:Heap) (H:Hp):List Addr:=(List.range h.objs.size).filter fun a=>(H a).isSome
noncomputable def hidT (h:Heap) (H:Hp):Heap:=PySem.W.hideAll h (trk h H)
theorem hidT_size (h:Heap) (H:Hp):(hidT h H).objs.size=h.objs.size:=PySem.W.hideAll_size _ _
theorem hidT_get {h:Heap}{H:Hp}{b:Addr}{o:Obj} (e:h.get? b=some o) (n:H b=none):(hidT h H).get? b=some o:=
  PySem.W.hideAll_get _ e fun hm=>by
    have q:(H b).isSome=true:=(List.mem_filter.mp hm).2
    rw [n] at q; simp at q
theorem of_hidT {h:Heap}{H:Hp}{b:Addr}{o:Obj} (e:(hidT h H).get? b=some o):h.get? b=some o∧H b=none:=by
  have e':h.get? b=some o:=PySem.W.of_hideAll (trk h H) e
  refine ⟨e',?_⟩
  cases q:H b with
  | none=>rfl
  | some x=>
    have hm:b∈trk h H:=List.mem_filter.mpr ⟨List.mem_range.mpr (Heap.lt_size e'),by simp [q]⟩
    have z:(hidT h H).get? b=none:=PySem.W.hideAll_none (trk h H) hm
    rw [z] at e; cases e

end L2

namespace L2
open PySem PySem.Spec PyProof.Rows

structure Mod (K:PySem.W.Frag) (mg:Str→Option Value) (base:Heap):Prop where
  kin:K.In base
  glob:base.Ns mainGlobals mg
  blt:∃ mb,base.Ns builtinsNs mb∧∀ x:Str,x ≠ "__name__"→mb x=bootBuiltins x
  nolimit:base.NoLimit

structure Cx where
  prog:Program
  w:World
  K:PySem.W.Frag
  mg:Str→Option Value
  base:Heap
  A:Around
  N:List Str
  s₀:Shared
  H₀:Hp
  env:Env
  outer:List Env
  stack:List Env
  ex:List Addr
  fn:Str→Bool
  calm:Bool
  pn:List (Addr×Obj)
  xe:Value→Shared→Prop
noncomputable def frs (l:List Env):List Addr:=l.filterMap (·.frame)
noncomputable abbrev Cx.fs (X:Cx):List Addr:=frs X.outer

def Vis (sc:Scope) (x:Str):Prop:=sc.names.lookup x=some .local∨sc.names.lookup x=some .cell∨sc.names.lookup x=some .free
def Loc (sc:Scope) (x:Str):Prop:=sc.names.lookup x=some .local∨sc.names.lookup x=some .cell
def Look (env:Env) (h:Heap) (m:Str→Option Value) (x:Str) (u:Value):Prop:=
  (env.kindOf x=some .local∧m x=some u)∨((env.kindOf x=some .cell∨env.kindOf x=some .free)∧∃ c,env.cells.lookup x=some c∧h.IsCell c (some u))

structure Cx.Ok (X:Cx):Prop where
  mod:Mod X.K X.mg X.base
  kind:X.env.scope.kind=.function
  glob:X.env.globals=mainGlobals
  blt:X.env.builtins=builtinsNs
  above:X.s₀.heap.objs.size≤X.env.locals
  inj:∀ x y c,X.env.cells.lookup x=some c→X.env.cells.lookup y=some c→x=y
  has:∀ x,(X.env.kindOf x=some .cell∨X.env.kindOf x=some .free)→∃ c,X.env.cells.lookup x=some c
  cab:∀ x c,X.fn x=true→X.env.cells.lookup x=some c→X.s₀.heap.objs.size≤c
  hd:X.calm=true→X.A.handled=none
  frames:X.A.frames=some X.stack
  stk:X.stack=X.outer∨(X.stack=X.env :: X.outer∧X.env.frame=some X.env.locals)
  exf:∀ b∈X.ex,b≠X.env.locals∧∀ x c,X.env.cells.lookup x=some c→c≠b
  bs:∀ b o,X.base.get? b=some o→X.s₀.heap.get? b=some o∧X.H₀ b=none
  bsz:X.base.objs.size≤X.s₀.heap.objs.size
  noex:∀ b o,X.base.get? b=some o→b∉X.ex
  exfs:∀ b∈X.ex,b∉X.fs
  funs:X.s₀.heap.FunFrames X.base X.outer
  frf:∀ b∈X.fs,X.H₀ b=none

structure Inv (X:Cx) (pins:List (Addr×Obj)) (σ:List (Option V)) (H:Hp) (s:Shared):Prop where
  ok:X.Ok
  os:s.os=X.s₀.os
  bare:AllBare s.gens
  base:Un X.fs X.ex X.H₀ H X.s₀.heap s.heap
  loc:∃ m,s.heap.Ns X.env.locals m∧∀ (i:Nat) (x:Str) (v:V),X.N[i]?=some x→σ[i]?=some (some v)→Vis X.env.scope x→∃ u,RelV v u∧Look X.env s.heap m x u
  cell:∀ x c,X.env.cells.lookup x=some c→∃ v,s.heap.IsCell c v
  free:H X.env.locals=none
  freeC:∀ x c,X.env.cells.lookup x=some c→H c=none
  pin:∀ p∈X.pn++pins,s.heap.get? p.1=some p.2∧H p.1=none∧p.1≠X.env.locals∧p.1∉X.fs∧∀ v,p.2.data≠.cell v
  hok:HOk X.prog X.w H s.heap
  len:σ.length=X.N.length

section
variable {X:Cx}{pins:List (Addr×Obj)}{σ:List (Option V)}{H H':Hp}{s:Shared}{h':Heap}

theorem Cx.Ok.nofr (ok:X.Ok) {b:Addr}{o:Obj} (e:X.base.get? b=some o):b∉X.fs:=fun hb=>by
  have:=(ok.funs.mem hb).1
  rw [e] at this; cases this
theorem Inv.bs (I:Inv X pins σ H s):∀ b o,X.base.get? b=some o→s.heap.get? b=some o∧H b=none:=fun b o e=>
  ⟨I.base.keep b o (I.ok.bs b o e).1 (I.ok.bs b o e).2 (I.ok.nofr e) (I.ok.noex b o e),I.base.free b o (I.ok.bs b o e).1 (I.ok.bs b o e).2 (I.ok.noex b o e)⟩
theorem Inv.bk (I:Inv X pins σ H s):∀ b o,X.base.get? b=some o→s.heap.get? b=some o:=fun b o e=>(I.bs b o e).1
theorem Inv.mod (I:Inv X pins σ H s):Mod X.K X.mg X.base:=I.ok.mod
theorem Inv.kIn (I:Inv X pins σ H s):X.K.In s.heap:=I.ok.mod.kin.keeps I.bk
theorem Inv.lt (I:Inv X pins σ H s):X.env.locals < s.heap.objs.size:=let ⟨_,hn,_⟩:=I.loc; hn.lt
theorem Inv.sz (I:Inv X pins σ H s):X.s₀.heap.objs.size≤s.heap.objs.size:=Nat.le_trans I.ok.above (Nat.le_of_lt I.lt)
theorem Inv.nofs (I:Inv X pins σ H s) {a:Addr} (h:s.heap.objs.size≤a):a∉X.fs:=fun hb=>by
  obtain ⟨_,o,ho,_⟩:=I.ok.funs.mem hb
  exact absurd (Nat.lt_of_lt_of_le (Heap.lt_size ho) (Nat.le_trans I.sz h)) (Nat.lt_irrefl _)
theorem Inv.cne (I:Inv X pins σ H s):∀ x c,X.env.cells.lookup x=some c→c≠X.env.locals:=fun x c e z=>by
  obtain ⟨v,o,ho,hd⟩:=I.cell x c e
  obtain ⟨m,⟨o',es,ep,ho',hd',_⟩,_⟩:=I.loc
  rw [z,ho'] at ho; cases ho; rw [hd'] at hd; cases hd
theorem Inv.funs (I:Inv X pins σ H s):s.heap.FunFrames X.base X.outer:=by
  have all:∀ (l:List Env),(∀ b∈frs l,b∈X.fs)→X.s₀.heap.FunFrames X.base l→s.heap.FunFrames X.base l:=by
    intro l
    induction l with
    | nil=>intro _ _; trivial
    | cons env r ih=>
      intro hs hl
      obtain ⟨hk,⟨L,o,hf,hn,ho,hd⟩,hr⟩:=hl
      have hL:L∈X.fs:=hs L (by unfold frs; rw [List.filterMap_cons,hf]; exact List.mem_cons_self)
      obtain ⟨sl,e⟩:=I.base.slot L o ho (I.ok.frf L hL) hL fun z=>I.ok.exfs L z hL
      exact ⟨hk,⟨L,_,hf,hn,e,hd⟩,ih (fun b hb=>hs b (by unfold frs; rw [List.filterMap_cons,hf]; exact List.mem_cons_of_mem _ hb)) hr⟩
  exact all X.outer (fun _ hb=>hb) I.ok.funs

theorem Inv.stack (I:Inv X pins σ H s):s.heap.FunFrames X.base X.stack:=by
  rcases I.ok.stk with e | ⟨e,hf⟩
  · rw [e]; exact I.funs
  · rw [e]
    obtain ⟨m,hn,_⟩:=I.loc
    refine .cons (by rw [I.ok.kind]; decide) hf hn ?_ I.funs
    exact Heap.get?_none_of_le (Nat.le_trans I.ok.bsz I.ok.above)
theorem Inv.stkSub (I:Inv X pins σ H s):∀ b∈frs X.stack,b∈X.env.locals :: X.fs:=fun b hb=>by
  rcases I.ok.stk with e | ⟨e,hf⟩
  · rw [e] at hb; exact List.mem_cons_of_mem _ hb
  · rw [e] at hb
    unfold frs at hb
    rw [List.filterMap_cons,hf] at hb
    exact hb
theorem Inv.stkFree (I:Inv X pins σ H s):∀ b∈frs X.stack,H b=none:=fun b hb=>by
  rcases List.mem_cons.mp (I.stkSub b hb) with e | hb
  · rw [e]; exact I.free
  · obtain ⟨_,o,ho,_⟩:=I.ok.funs.mem hb
    exact I.base.free b o ho (I.ok.frf b hb) fun z=>I.ok.exfs b z hb

theorem Inv.step {g':Array GenState}{t':Nat}{d':Drawn}{ch:List Addr} (I:Inv X pins σ H s)
    (hch:∀ b∈ch,(b∈X.ex∨X.s₀.heap.objs.size≤b)∧b≠X.env.locals∧(∀ x c,X.env.cells.lookup x=some c→c≠b)∧∀ p∈X.pn++pins,p.1≠b)
    (keep:∀ b o,b≠X.env.locals→b∉X.fs→b∉ch→s.heap.get? b=some o→H b=none→h'.get? b=some o)
    (slot:∀ b o,b≠X.env.locals→b∈X.fs→b∉ch→s.heap.get? b=some o→H b=none→∃ sl,h'.get? b=some { o with slots:=sl }) (free:∀ b o,b∉ch→s.heap.get? b=some o→H b=none→H' b=none)
    (there:∀ b o,b∉ch→s.heap.get? b=some o→∃ o',h'.get? b=some o')
    (tups:∀ b xs,H b=some (.tup xs)→H' b=some (.tup xs)) (frzs:∀ b o u,H b=some (.frz o u)→H' b=some (.frz o u)) (tbls:∀ b ps,H b=some (.tbl ps)→∃ more,H' b=some (.tbl (ps++more)))
    (ns:∀ m,s.heap.Ns X.env.locals m→h'.Ns X.env.locals m) (hok:HOk X.prog X.w H' h') (hg:AllBare g') :
    Inv X pins σ H' { s with heap:=h',gens:=g',drawn:=d',toks:=t' }:=by
  have neL:∀ b o,X.s₀.heap.get? b=some o→b≠X.env.locals:=fun b o e=>Nat.ne_of_lt (Nat.lt_of_lt_of_le (Heap.lt_size e) I.ok.above)
  have neC:∀ b o,X.s₀.heap.get? b=some o→b∉X.ex→b∉ch:=fun b o e hx hb=>by
    rcases (hch b hb).1 with z | z
    · exact hx z
    · exact absurd (Nat.lt_of_lt_of_le (Heap.lt_size e) z) (Nat.lt_irrefl _)
  have cellK:∀ x c,X.env.cells.lookup x=some c→∀ v,s.heap.IsCell c v→h'.IsCell c v:=fun x c e v ⟨o,ho,hd⟩=>by
    have nch:c∉ch:=fun z=>(hch c z).2.2.1 x c e rfl
    by_cases hc:c∈X.fs
    · obtain ⟨sl,q⟩:=slot c o (I.cne x c e) hc nch ho (I.freeC x c e)
      exact ⟨_,q,hd⟩
    · exact ⟨o,keep c o (I.cne x c e) hc nch ho (I.freeC x c e),hd⟩
  refine ⟨I.ok,I.os,hg,⟨fun b o e n hb hx=>?_,fun b o e n hb hx=>?_,fun b o e n hx=>?_,fun b o e hx=>?_,fun b xs e=>tups b xs (I.base.tups b xs e),fun b o xs e=>frzs b o xs (I.base.frzs b o xs e),fun b ps e=>?_⟩,?_,fun x c e=>?_,?_,fun x c e=>?_,fun p hp=>?_,hok,I.len⟩
  · exact keep b o (neL b o e) hb (neC b o e hx) (I.base.keep b o e n hb hx) (I.base.free b o e n hx)
  · obtain ⟨sl,e1⟩:=I.base.slot b o e n hb hx
    obtain ⟨sl',e2⟩:=slot b _ (neL b o e) hb (neC b o e hx) e1 (I.base.free b o e n hx)
    exact ⟨sl',e2⟩
  · obtain ⟨o',e1⟩:=I.base.there b o e hx
    exact free b o' (neC b o e hx) e1 (I.base.free b o e n hx)
  · obtain ⟨o',e1⟩:=I.base.there b o e hx
    exact there b o' (neC b o e hx) e1
  · obtain ⟨m1,e1⟩:=I.base.tbls b ps e
    obtain ⟨m2,e2⟩:=tbls b _ e1
    exact ⟨m1++m2,by rw [e2,Array.append_assoc]⟩
  · obtain ⟨m,hn,hl⟩:=I.loc
    refine ⟨m,ns m hn,fun i x v e1 e2 e3=>?_⟩
    obtain ⟨u,r,l⟩:=hl i x v e1 e2 e3
    refine ⟨u,r,?_⟩
    rcases l with l | ⟨k,c,e,z⟩
    · exact .inl l
    · exact .inr ⟨k,c,e,cellK x c e _ z⟩
  · obtain ⟨v,z⟩:=I.cell x c e
    exact ⟨v,cellK x c e v z⟩
  · obtain ⟨m,⟨o,_,_,ho,_⟩,_⟩:=I.loc
    exact free _ o (fun z=>(hch _ z).2.1 rfl) ho I.free
  · obtain ⟨v,o,ho,hd⟩:=I.cell x c e
    exact free c o (fun z=>(hch c z).2.2.1 x c e rfl) ho (I.freeC x c e)
  · obtain ⟨e,n,ne,nf,d⟩:=I.pin p hp
    have nch:p.1∉ch:=fun z=>(hch p.1 z).2.2.2 p hp rfl
    exact ⟨keep p.1 p.2 ne nf nch e n,free p.1 p.2 nch e n,ne,nf,d⟩
theorem Inv.un {t':Nat} (I:Inv X pins σ H s) (u:Un X.fs [] H H' s.heap h') (hok:HOk X.prog X.w H' h'):Inv X pins σ H' { s with heap:=h',toks:=t' }:=by
  obtain ⟨m,⟨o,es,ep,ho,r⟩,_⟩:=id I.loc
  obtain ⟨sl,hL⟩:=u.any ho I.free (by simp)
  exact I.step (g':=s.gens) (d':=s.drawn) (ch:=[]) (fun _ z=>nomatch z) (fun b o _ hb _ e n=>u.keep b o e n hb (by simp)) (fun b o _ hb _ e n=>u.slot b o e n hb (by simp)) (fun b o _ e n=>u.free b o e n (by simp)) (fun b o _ e=>u.there b o e (by simp)) u.tups u.frzs u.tbls (fun m' hm=>by
    obtain ⟨o',es',ep',ho',r'⟩:=hm
    rw [ho] at ho'; cases ho'
    exact ⟨_,es',ep',hL,r'⟩) hok I.bare
theorem Inv.call {g':Array GenState}{t':Nat}{d':Drawn}{ch:List Addr} (I:Inv X pins σ H s) (u:Un (frs X.stack) ch H H' s.heap h') (hok:HOk X.prog X.w H' h') (hg:AllBare g')
    (hch:∀ b∈ch,(b∈X.ex∨X.s₀.heap.objs.size≤b)∧b≠X.env.locals∧(∀ x c,X.env.cells.lookup x=some c→c≠b)∧∀ p∈X.pn++pins,p.1≠b) :
    Inv X pins σ H' { s with heap:=h',gens:=g',drawn:=d',toks:=t' }:=by
  obtain ⟨m,⟨o,es,ep,ho,r⟩,_⟩:=id I.loc
  obtain ⟨sl,hL⟩:=u.any ho I.free fun z=>(hch _ z).2.1 rfl
  exact I.step (ch:=ch) hch (fun b o hL hb hc e n=>u.keep b o e n (fun z=>(List.mem_cons.mp (I.stkSub b z)).elim hL hb) hc) (fun b o _ _ hc e n=>u.any e n hc) (fun b o hc e n=>u.free b o e n hc) (fun b o hc e=>u.there b o e hc) u.tups u.frzs u.tbls (fun m' hm=>by
    obtain ⟨o',es',ep',ho',r'⟩:=hm
    rw [ho] at ho'; cases ho'
    exact ⟨_,es',ep',hL,r'⟩) hok hg
theorem Inv.turned {t':Nat}{it:Addr} (I:Inv X pins σ H s) (k:∀ b o,b≠it→s.heap.get? b=some o→h'.get? b=some o) (hn:H it=none) (hL:it≠X.env.locals)
    (h1:it∈X.ex∨X.s₀.heap.objs.size≤it) (h2:∀ x c,X.env.cells.lookup x=some c→c≠it) (h3:∀ p∈X.pn++pins,p.1≠it):Inv X pins σ H { s with heap:=h',toks:=t' }:=by
  have nit:∀ b u,H b=some u→b≠it:=fun b u e z=>by rw [z,hn] at e; cases e
  refine I.step (g':=s.gens) (d':=s.drawn) (ch:=[it]) (fun b hb=>?_) (fun b o _ _ hc e _=>k b o (fun z=>hc (by simp [z])) e) (fun b o _ _ hc e _=>⟨o.slots,k b o (fun z=>hc (by simp [z])) e⟩) (fun _ _ _ _ n=>n)
    (fun b o hc e=>⟨o,k b o (fun z=>hc (by simp [z])) e⟩) (fun _ _ e=>e) (fun _ _ _ e=>e) (fun b ps e=>⟨#[],by rw [e]; simp⟩) (fun m hm=>?_) (fun b u e=>?_) I.bare
  · have e:b=it:=by simpa using hb
    subst e
    exact ⟨h1,hL,h2,h3⟩
  · obtain ⟨o,es,ep,ho,r⟩:=hm
    exact ⟨o,es,ep,k _ o (Ne.symm hL) ho,r⟩
  · refine (I.hok b u e).stay (fun c v hc q=>k c v ?_ q) (fun _ q=>q) fun _ _ q=>q
    rcases hc with z | z
    · rw [z]; exact nit b u e
    · exact nit c _ z
theorem Inv.tok (I:Inv X pins σ H s) (t:Nat):Inv X pins σ H { s with toks:=t }:=I.un (h':=s.heap) (t':=t) Un.refl I.hok
theorem Inv.kept {t':Nat} (I:Inv X pins σ H s) (k:∀ b u,s.heap.get? b=some u→h'.get? b=some u):Inv X pins σ H { s with heap:=h',toks:=t' }:=I.un (Un.kept k) (I.hok.kept k)
theorem Inv.laid {a:Addr}{o:HO}{t':Nat} (I:Inv X pins σ H s) (k:∀ b u,s.heap.get? b=some u→h'.get? b=some u) (hp:s.heap.objs.size≤a) (new:ObjOk X.prog X.w (upd H a o) h' a o) :
    Inv X pins σ (upd H a o) { s with heap:=h',toks:=t' }:=I.un (Un.laid k hp (I.hok.fresh hp)) (I.hok.laid k hp new)
theorem Inv.write {x e:Addr}{o:HO}{t':Nat} (I:Inv X pins σ H s) (mu:Mut (H x)) (he:e=x∨H e=some (.own x)) (k:∀ b u,b≠e→s.heap.get? b=some u→h'.get? b=some u) (heo:∃ u,h'.get? e=some u)
    (new:ObjOk X.prog X.w (upd H x o) h' x o):Inv X pins σ (upd H x o) { s with heap:=h',toks:=t' }:=I.un (Un.write mu he k heo) (I.hok.write mu he k heo new)
theorem Inv.pins_of {pins':List (Addr×Obj)} (I:Inv X pins σ H s) (h:∀ p∈pins',s.heap.get? p.1=some p.2∧H p.1=none∧p.1≠X.env.locals∧p.1∉X.fs∧∀ v,p.2.data≠.cell v):Inv X pins' σ H s:=
  ⟨I.ok,I.os,I.bare,I.base,I.loc,I.cell,I.free,I.freeC,fun p hp=>(List.mem_append.mp hp).elim (fun z=>I.pin p (List.mem_append_left _ z)) (h p),I.hok,I.len⟩

theorem nodup_ix {N:List Str} (hN:N.Nodup) {i j:Nat}{x:Str} (a:N[i]?=some x) (b:N[j]?=some x):i=j:=by
  obtain ⟨h1,e1⟩:=List.getElem?_eq_some_iff.mp a
  obtain ⟨h2,e2⟩:=List.getElem?_eq_some_iff.mp b
  exact (List.getElem_inj hN).mp (e1.trans e2.symm)

theorem store_ok2 {M:Model}{A:Around}{E:Value→Shared→Prop}{i:Nat}{x:Str}{v:V}{u:Value}{Q:Unit→Shared→Prop} (I:Inv X pins σ H s) (hN:X.N.Nodup) (hi:X.N[i]?=some x) (hx:Loc X.env.scope x) (r:RelV v u)
    (h:∀ s',Inv X pins (σ.set i (some v)) H s'→(∃ a,Heap.SameBut a s.heap s'.heap∧(a=X.env.locals∨X.env.cells.lookup x=some a))→Q () s') (hf:X.fn x=true∨X.env.scope.names.lookup x=some .local:=by first | exact .inl rfl | exact .inr rfl | assumption):wpAny M A (storeName X.env x u) Q E s:=by
  obtain ⟨m,hn,hl⟩:=id I.loc
  have hcls:(X.env.scope.kind==.class||(X.env.scope.kind==.module&&X.env.locals != X.env.globals))=false:=by rw [I.ok.kind]; rfl
  have hiσ:i < σ.length:=by rw [I.len]; exact (List.getElem?_eq_some_iff.mp hi).1
  have cne:=I.cne
  have tracked:∀ {a:Addr}{h':Heap},(∃ o,s.heap.get? a=some o∧H a=none)→Heap.SameBut a s.heap h'→HOk X.prog X.w H h':=fun {a h'} ha hs b ob e=>by
    obtain ⟨_,_,hfree⟩:=ha
    refine (I.hok b ob e).stay (fun c w' hc q=>(hs.2 c ?_).trans q) (fun _ q=>q) fun _ _ q=>q
    rintro rfl
    rcases hc with rfl | hc
    · rw [hfree] at e; cases e
    · rw [hfree] at hc; cases hc
  rcases hx with hk | hk
  · refine wpAny_storeName_local hk hn (fun h' hn' hs=>?_) hcls
    obtain ⟨oL,_,_,hoL,_⟩:=id hn
    refine h _ ⟨I.ok,I.os,I.bare,⟨fun b o e n hb hx=>?_,fun b o e n hb hx=>?_,I.base.free,fun b o e hx=>?_,I.base.tups,I.base.frzs,I.base.tbls⟩,⟨_,hn',fun j y v' e1 e2 e3=>?_⟩,fun y c e=>?_,I.free,I.freeC,fun p hp=>?_,tracked ⟨oL,hoL,I.free⟩ hs,by simpa using I.len⟩ ⟨_,hs,.inl rfl⟩
    · exact (hs.2 b (Nat.ne_of_lt (Nat.lt_of_lt_of_le (Heap.lt_size e) I.ok.above))).trans (I.base.keep b o e n hb hx)
    · obtain ⟨sl,e1⟩:=I.base.slot b o e n hb hx
      exact ⟨sl,(hs.2 b (Nat.ne_of_lt (Nat.lt_of_lt_of_le (Heap.lt_size e) I.ok.above))).trans e1⟩
    · obtain ⟨o',e1⟩:=I.base.there b o e hx
      exact ⟨o',(hs.2 b (Nat.ne_of_lt (Nat.lt_of_lt_of_le (Heap.lt_size e) I.ok.above))).trans e1⟩
    · by_cases hj:j=i
      · subst hj
        rw [hi] at e1; cases e1
        rw [List.getElem?_set_self hiσ] at e2
        cases e2
        exact ⟨u,r,.inl ⟨hk,by simp⟩⟩
      · rw [List.getElem?_set_ne (Ne.symm hj)] at e2
        obtain ⟨u',r',q⟩:=hl j y v' e1 e2 e3
        refine ⟨u',r',?_⟩
        rcases q with ⟨k,e⟩ | ⟨k,c,e,z⟩
        · refine .inl ⟨k,?_⟩
          have:y≠x:=fun e=>hj (nodup_ix hN e1 (e ▸ hi))
          simp [this,e]
        · exact .inr ⟨k,c,e,z.sameBut hs (cne y c e)⟩
    · obtain ⟨w',z⟩:=I.cell y c e
      exact ⟨w',z.sameBut hs (cne y c e)⟩
    · obtain ⟨e,n,ne,nf,d⟩:=I.pin p hp
      exact ⟨(hs.2 p.1 ne).trans e,n,ne,nf,d⟩
  · have hfn:X.fn x=true:=by
      rcases hf with z | z
      · exact z
      · rw [z] at hk; cases hk
    obtain ⟨c,hc⟩:=I.ok.has x (.inl hk)
    obtain ⟨w',z⟩:=I.cell x c hc
    refine wpAny_storeName_cell I.ok.kind hk hc z (fun h' hc' hs=>?_)
    obtain ⟨oc,hoc,hocd⟩:=id z
    refine h { s with heap:=h' } ⟨I.ok,I.os,I.bare,⟨fun b o e n hb hx=>?_,fun b o e n hb hx=>?_,I.base.free,fun b o e hx=>?_,I.base.tups,I.base.frzs,I.base.tbls⟩,⟨m,hn.sameBut hs (Ne.symm (cne x c hc)),fun j y v' e1 e2 e3=>?_⟩,fun y c' e=>?_,I.free,I.freeC,fun p hp=>?_,tracked ⟨oc,hoc,I.freeC x c hc⟩ hs,by simpa using I.len⟩ ⟨c,hs,.inr hc⟩
    · exact (hs.2 b (Nat.ne_of_lt (Nat.lt_of_lt_of_le (Heap.lt_size e) (I.ok.cab x c hfn hc)))).trans (I.base.keep b o e n hb hx)
    · obtain ⟨sl,e1⟩:=I.base.slot b o e n hb hx
      exact ⟨sl,(hs.2 b (Nat.ne_of_lt (Nat.lt_of_lt_of_le (Heap.lt_size e) (I.ok.cab x c hfn hc)))).trans e1⟩
    · obtain ⟨o',e1⟩:=I.base.there b o e hx
      exact ⟨o',(hs.2 b (Nat.ne_of_lt (Nat.lt_of_lt_of_le (Heap.lt_size e) (I.ok.cab x c hfn hc)))).trans e1⟩
    · by_cases hj:j=i
      · subst hj
        rw [hi] at e1; cases e1
        rw [List.getElem?_set_self hiσ] at e2
        cases e2
        exact ⟨u,r,.inr ⟨.inl hk,c,hc,hc'⟩⟩
      · rw [List.getElem?_set_ne (Ne.symm hj)] at e2
        obtain ⟨u',r',q⟩:=hl j y v' e1 e2 e3
        refine ⟨u',r',?_⟩
        rcases q with q | ⟨k,c',e,z'⟩
        · exact .inl q
        · refine .inr ⟨k,c',e,z'.sameBut hs ?_⟩
          rintro rfl
          exact hj (nodup_ix hN e1 (I.ok.inj _ _ _ e hc ▸ hi))
    · by_cases hcc:c'=c
      · subst hcc; exact ⟨_,hc'⟩
      · obtain ⟨w2,z2⟩:=I.cell y c' e
        exact ⟨w2,z2.sameBut hs hcc⟩
    · obtain ⟨e,n,ne,nf,d⟩:=I.pin p hp
      refine ⟨(hs.2 p.1 ?_).trans e,n,ne,nf,d⟩
      intro q
      rw [q,hoc] at e
      have q':oc=p.2:=Option.some.inj e
      exact d w' (by rw [←q']; exact hocd)
theorem store_ok {M:Model}{A:Around}{E:Value→Shared→Prop}{i:Nat}{x:Str}{v:V}{u:Value}{Q:Unit→Shared→Prop} (I:Inv X pins σ H s) (hN:X.N.Nodup) (hi:X.N[i]?=some x) (hx:Loc X.env.scope x) (r:RelV v u)
    (h:∀ s',Inv X pins (σ.set i (some v)) H s'→Q () s') (hf:X.fn x=true∨X.env.scope.names.lookup x=some .local:=by first | exact .inl rfl | exact .inr rfl | assumption):wpAny M A (storeName X.env x u) Q E s:=
  store_ok2 I hN hi hx r (fun s' I' _=>h s' I') hf
theorem Inv.call' {s':Shared}{ch:List Addr} (I:Inv X pins σ H s) (ho:s'.os=s.os) (u:Un (frs X.stack) ch H H' s.heap s'.heap) (hok:HOk X.prog X.w H' s'.heap) (hg:AllBare s'.gens)
    (hch:∀ b∈ch,(b∈X.ex∨X.s₀.heap.objs.size≤b)∧b≠X.env.locals∧(∀ x c,X.env.cells.lookup x=some c→c≠b)∧∀ p∈X.pn++pins,p.1≠b):Inv X pins σ H' s':=by
  obtain ⟨h',g',d',t',o'⟩:=s'
  have e:o'=s.os:=ho
  subst e
  exact I.call (g':=g') (t':=t') (d':=d') u hok hg hch
end

abbrev XK:=Value→Option Addr→Hp→Prop
noncomputable abbrev St:=List (Option V)
abbrev VK:=V→Hp→Prop
abbrev TE:=St→Hp→VK→Prop
abbrev TT:=St→Hp→(Bool→Hp→Prop)→Prop
abbrev TA:=St→Hp→(List V→Hp→Prop)→Prop
structure Ends where
  nx:St→Hp→Prop
  rt:VK
  bk:St→Hp→Prop:=fun _ _=>False
  ct:St→Hp→Prop:=fun _ _=>False
abbrev TS:=Ends→St→Hp→Prop

def EP (X:Cx) (pins:List (Addr×Obj)) (σ:St) (Q:VK) (u:Value) (s':Shared):Prop:=∃ v H',Inv X pins σ H' s'∧RelV v u∧Q v H'
def TP (X:Cx) (pins:List (Addr×Obj)) (σ:St) (Q:Bool→Hp→Prop) (b:Bool) (s':Shared):Prop:=∃ H',Inv X pins σ H' s'∧Q b H'
def AP (X:Cx) (pins:List (Addr×Obj)) (σ:St) (Q:List V→Hp→Prop) (us:List Value) (s':Shared):Prop:=∃ vs H',Inv X pins σ H' s'∧Vals vs us∧Q vs H'
def SP (X:Cx) (pins:List (Addr×Obj)) (D:Ends) (f:Flow) (s':Shared):Prop:=
  match f with
  | .next=>∃ σ' H',Inv X pins σ' H' s'∧D.nx σ' H'
  | .brk=>∃ σ' H',Inv X pins σ' H' s'∧D.bk σ' H'
  | .cont=>∃ σ' H',Inv X pins σ' H' s'∧D.ct σ' H'
  | .ret u=>∃ v σ' H',Inv X pins σ' H' s'∧RelV v u∧D.rt v H'

def PE (X:Cx) (e:Expr) (t:TE):Prop:=
  ∀ (pins:List (Addr×Obj)) (s:Shared) (σ:St) (H:Hp) (Q:VK),Inv X pins σ H s→t σ H Q→wpAny (model X.prog X.w) X.A (eval e X.env) (EP X pins σ Q) X.xe s
def PT (X:Cx) (e:Expr) (t:TT):Prop:=
  ∀ (pins:List (Addr×Obj)) (s:Shared) (σ:St) (H:Hp) (Q:Bool→Hp→Prop),Inv X pins σ H s→t σ H Q→wpAny (model X.prog X.w) X.A (isTrue e X.env (eval e X.env)) (TP X pins σ Q) X.xe s
def PW (X:Cx) (e:Expr) (t:TT):Prop:=
  ∀ (whole:Sem Value) (pins:List (Addr×Obj)) (s:Shared) (σ:St) (H:Hp) (Q:Bool→Hp→Prop),Inv X pins σ H s→t σ H Q→wpAny (model X.prog X.w) X.A (isTrue e X.env whole) (TP X pins σ Q) X.xe s
theorem PW.pt {X:Cx}{e:Expr}{t:TT} (h:PW X e t):PT X e t:=h _
def PA (X:Cx) (es:List Expr) (t:TA):Prop:=
  ∀ (pos:Pos) (pins:List (Addr×Obj)) (s:Shared) (σ:St) (H:Hp) (Q:List V→Hp→Prop),Inv X pins σ H s→t σ H Q→wpAny (model X.prog X.w) X.A (spliced (backTo pos (starEach es X.env))) (AP X pins σ Q) X.xe s
def PS (X:Cx) (st:Stmt) (t:TS):Prop:=
  ∀ (pins:List (Addr×Obj)) (s:Shared) (σ:St) (H:Hp) (D:Ends),Inv X pins σ H s→t D σ H→wpAny (model X.prog X.w) X.A (exec st X.env) (SP X pins D) X.xe s
def PSs (X:Cx) (st:List Stmt) (t:TS):Prop:=
  ∀ (pins:List (Addr×Obj)) (s:Shared) (σ:St) (H:Hp) (D:Ends),Inv X pins σ H s→t D σ H→wpAny (model X.prog X.w) X.A (execs st X.env) (SP X pins D) X.xe s
theorem thn {α:Type}{t:Sem α}{Q Q':α→Shared→Prop}{M:Model}{A:Around}{E:Value→Shared→Prop}{s:Shared} (h:wpAny M A t Q E s) (hQ:∀ a s,Q a s→Q' a s):wpAny M A t Q' E s:=wpAny_mono h hQ fun _ _ x=>x
end L2

namespace L2
open PySem PySem.Spec PyProof.Rows
section
variable {X:Cx}

theorem bin {a b:Expr}{ta tb:TE} (ha:PE X a ta) (hb:PE X b tb) {pins:List (Addr×Obj)}{s:Shared}{σ:St}{H:Hp}{R:V→V→Hp→Prop} (I:Inv X pins σ H s) (h:ta σ H fun x H1=>tb σ H1 fun y H2=>R x y H2)
    {α:Type}{Q:α→Shared→Prop}{f:Value→Value→Sem α}
    (hf:∀ v u s2 x y H2,Inv X pins σ H2 s2→RelV x v→RelV y u→R x y H2→wpAny (model X.prog X.w) X.A (f v u) Q X.xe s2) :
    wpAny (model X.prog X.w) X.A (eval a X.env) (fun v s₁=>wpAny (model X.prog X.w) X.A (eval b X.env) (fun u s₂=>wpAny (model X.prog X.w) X.A (f v u) Q X.xe s₂) X.xe s₁) X.xe s:=by
  refine thn (ha pins s σ H _ I h) fun v s1 ⟨x,H1,I1,r1,q1⟩=>?_
  refine thn (hb pins s1 σ H1 _ I1 q1) fun u s2 ⟨y,H2,I2,r2,q2⟩=>?_
  exact hf v u s2 x y H2 I2 r1 r2 q2

noncomputable def tVar (i:Nat):TE:=fun σ H Q=>∃ v,σ[i]?=some (some v)∧Q v H
noncomputable def tC (v:V):TE:=fun _ H Q=>Q v H
theorem pe_var {i:Nat}{x:Str}{pos:Pos} (hN:X.N[i]?=some x) (hv:Vis X.env.scope x) (hd:(x==("__debug__":Str))=false:=by decide) (hcd:(x==("__classdict__":Str))=false:=by decide):PE X (.Name x pos) (tVar i):=by
  intro pins s σ H Q I h
  obtain ⟨v,e,h⟩:=h
  obtain ⟨m,hn,hl⟩:=I.loc
  obtain ⟨u,r,l⟩:=hl i x v hN e hv
  have fin:EP X pins σ Q u s:=⟨v,H,I,r,h⟩
  rcases l with ⟨hk,hm⟩ | ⟨hk,c,hc,hcell⟩
  · exact wpAny_Name (wpAny_loadName_local I.ok.kind hk hn hm fin) hd
  · rcases hk with hk | hk
    · exact wpAny_Name (wpAny_loadName_cell I.ok.kind hk hc hcell fin) hd
    · exact wpAny_Name (wpAny_loadName_free I.ok.kind hk hc hcell fin hcd) hd
theorem pe_int {i j pos}:PE X (.Constant (.int i) j pos) (tC (.int i)):=fun _ _ _ H _ I h=>wpAny_Constant_int ⟨.int i,H,I.tok _,⟨_,rfl⟩,h⟩
theorem pe_bl {b j pos}:PE X (.Constant (.bool b) j pos) (tC (.bl b)):=fun _ _ _ H _ I h=>Constant_bool ⟨.bl b,H,I,rfl,h⟩
theorem pe_non {j pos}:PE X (.Constant .none j pos) (tC .non):=fun _ _ _ H _ I h=>Constant_none ⟨.non,H,I,rfl,h⟩
theorem pe_str {x j pos}:PE X (.Constant (.str x) j pos) (tC (.str x)):=fun _ _ _ H _ I h=>Calls.Constant_str ⟨.str x,H,I.tok _,⟨_,rfl⟩,h⟩

def Gl (X:Cx) (x:Str):Prop:=X.env.kindOf x=some .globalImplicit
theorem ld_glob {E:Value→Shared→Prop}{pins:List (Addr×Obj)}{s:Shared}{σ:St}{H:Hp}{x:Str}{u:Value}{pos:Pos}{Q:Value→Shared→Prop} (I:Inv X pins σ H s) (hg:Gl X x) (hm:X.mg x=some u) (h:Q u s)
    (hd:(x==("__debug__":Str))=false:=by decide):wpAny (model X.prog X.w) X.A (eval (.Name x pos) X.env) Q E s:=
  Calls.Name_function_global I.ok.kind hg (Calls.loadGlobal_global (by rw [I.ok.glob]; exact I.mod.glob.keeps I.bk) hm h) hd
theorem ld_blt {E:Value→Shared→Prop}{pins:List (Addr×Obj)}{s:Shared}{σ:St}{H:Hp}{x:Str}{u:Value}{pos:Pos}{Q:Value→Shared→Prop} (I:Inv X pins σ H s) (hg:Gl X x) (hm:X.mg x=none) (hv:bootBuiltins x=some u) (h:Q u s)
    (hn:x ≠ "__name__":=by decide) (hd:(x==("__debug__":Str))=false:=by decide):wpAny (model X.prog X.w) X.A (eval (.Name x pos) X.env) Q E s:=by
  obtain ⟨mb,h1,h2⟩:=I.mod.blt
  exact Calls.Name_function_global I.ok.kind hg (Calls.loadGlobal_builtin (by rw [I.ok.glob]; exact I.mod.glob.keeps I.bk) hm (by rw [I.ok.blt]; exact h1.keeps I.bk) ((h2 x hn).trans hv) h) hd
theorem pe_glob {x:Str}{v:V}{u:Value}{pos:Pos} (hg:Gl X x) (hm:X.mg x=some u) (r:RelV v u) (hd:(x==("__debug__":Str))=false:=by decide):PE X (.Name x pos) (tC v):=
  fun _ _ _ H _ I h=>ld_glob I hg hm ⟨v,H,I,r,h⟩ hd
theorem pe_bltn {x:Str}{v:V}{u:Value}{pos:Pos} (hg:Gl X x) (hm:X.mg x=none) (hv:bootBuiltins x=some u) (r:RelV v u) (hn:x ≠ "__name__":=by decide) (hd:(x==("__debug__":Str))=false:=by decide):PE X (.Name x pos) (tC v):=
  fun _ _ _ H _ I h=>ld_blt I hg hm hv ⟨v,H,I,r,h⟩ hn hd

def t2I (ta tb:TE) (k:Int→Int→Hp→Prop):St→Hp→Prop:=fun σ H=>ta σ H fun x H1=>tb σ H1 fun y H2=>∃ i j,x=.int i∧y=.int j∧k i j H2
variable {a b:Expr}{ta tb:TE}{pos:Pos}

def PC (X:Cx) (op:CmpOp) (a b:Expr) (t:TE):Prop:=
  ∀ (pins:List (Addr×Obj)) (s:Shared) (σ:St) (H:Hp) (Q:VK),Inv X pins σ H s→t σ H Q→
    wpAny (model X.prog X.w) X.A (eval a X.env) (fun v s₁=>wpAny (model X.prog X.w) X.A (eval b X.env) (fun u s₂=>wpAny (model X.prog X.w) X.A (compareOp op v u) (EP X pins σ Q) X.xe s₂) X.xe s₁) X.xe s
theorem nobehind (b:Expr) {op:CmpOp} (h:op≠.In) (h2:op≠.NotIn):behindInMarks op b=false:=by
  have e1:(op==CmpOp.In)=false:=by cases op<;>first | rfl | exact absurd rfl h
  have e2:(op==CmpOp.NotIn)=false:=by cases op<;>first | rfl | exact absurd rfl h2
  cases b<;>simp [behindInMarks,e1,e2]
noncomputable def tCmp (p:Int→Int→Bool) (ta tb:TE):TE:=fun σ H Q=>t2I ta tb (fun i j H2=>Q (.bl (p i j)) H2) σ H
noncomputable abbrev tEqI:TE→TE→TE:=tCmp fun i j=>decide (i=j)
theorem pc_int {op:CmpOp}{p:Int→Int→Bool} (ha:PE X a ta) (hb:PE X b tb)
    (rule:∀ (i j:Int) (t u:Tok) (Q:Value→Shared→Prop) (s:Shared),Q (.bool (p i j)) s→wpAny (model X.prog X.w) X.A (compareOp op (.int i t) (.int j u)) Q X.xe s):PC X op a b (tCmp p ta tb):=by
  intro pins s σ H Q I h
  refine bin ha hb I h fun v u s2 x y H2 I2 rx ry q=>?_
  obtain ⟨i,j,rfl,rfl,q⟩:=q
  obtain ⟨t,rfl⟩:=rx
  obtain ⟨t',rfl⟩:=ry
  exact rule i j t t' _ s2 ⟨.bl _,H2,I2,rfl,q⟩
theorem pc_eqI (ha:PE X a ta) (hb:PE X b tb):PC X .Eq a b (tEqI ta tb):=pc_int ha hb fun _ _ _ _ _ _ h=>eq_int (by rw [Bool.beq_eq_decide_eq]; exact h)
noncomputable def tNotN (ta:TE):TE:=fun σ H Q=>ta σ H fun x H1=>Q (.bl (!decide (x=.non))) H1
theorem RelV.none_iff {x:V}{v:Value} (r:RelV x v):(v==Value.none)=decide (x=.non):=by
  cases x with
  | non=>cases r; rfl
  | bl _=>cases r; rfl
  | int _=>obtain ⟨t,rfl⟩:=r; rfl
  | str _=>obtain ⟨t,rfl⟩:=r; rfl
  | byt _=>obtain ⟨t,rfl⟩:=r; rfl
  | flt _=>obtain ⟨t,rfl⟩:=r; rfl
  | ref _=>cases r; rfl
  | ty _=>cases r; rfl
theorem pc_notN {j pos'} (ha:PE X a ta):PC X .IsNot a (.Constant .none j pos') (tNotN ta):=by
  intro pins s σ H Q I h
  refine thn (ha pins s σ H _ I h) fun v s1 ⟨x,H1,I1,r1,q1⟩=>?_
  exact Constant_none (isnot_none_gen ⟨.bl _,H1,I1,by rw [r1.none_iff]; rfl,q1⟩)
noncomputable def tB (t:TE):TT:=fun σ H Q=>t σ H fun x H1=>∃ c,x=.bl c∧Q c H1
theorem pe_cmp {op:CmpOp}{t:TE} (h:PC X op a b t) (h1:behindInMarks op b=false:=by first | exact nobehind _ (by decide) (by decide) | rfl):PE X (.Compare a [op] [b] pos) t:=fun pins s σ H Q I hw=>wpAny_Compare1 (h pins s σ H Q I hw) h1
theorem pt_val {e:Expr}{t:TE} (h:PE X e t) (he:∀ whole,isTrue e X.env whole=(do let v ←whole; standAt e.pos; holding [v] (truthy v)):=by intro _; rfl):PT X e (tB t):=by
  intro pins s σ H Q I hw
  refine isTrue_plain (thn (h pins s σ H _ I hw) fun v s1 ⟨x,H1,I1,r1,q1⟩=>?_) (he _)
  obtain ⟨d,rfl,q⟩:=q1
  cases r1
  exact wpAny_truthy_bool ⟨H1,I1,q⟩

variable {tA tB':TT}{rest:List Expr}
noncomputable def tAnd (t u:TT):TT:=fun σ H Q=>t σ H fun c H1=>if c=true then u σ H1 Q else Q false H1
noncomputable def tOr (t u:TT):TT:=fun σ H Q=>t σ H fun c H1=>if c=true then Q true H1 else u σ H1 Q
noncomputable def tNot (t:TT):TT:=fun σ H Q=>t σ H fun c H1=>Q (!c) H1
theorem pw_and1 (ha:PT X a tA):PW X (.BoolOp .And [a] pos) tA:=by
  intro wh pins s σ H Q I h
  refine isTrue_and (thn (ha pins s σ H Q I h) fun c s1 e=>?_)
  cases c with
  | true=>exact isTrue_and_nil e
  | false=>exact e
theorem pw_or1 (ha:PT X a tA):PW X (.BoolOp .Or [a] pos) tA:=by
  intro wh pins s σ H Q I h
  refine isTrue_or (thn (ha pins s σ H Q I h) fun c s1 e=>?_)
  cases c with
  | false=>exact isTrue_or_nil e
  | true=>exact e
theorem pw_and (ha:PT X a tA) (hb:PW X (.BoolOp .And (b :: rest) pos) tB'):PW X (.BoolOp .And (a :: b :: rest) pos) (tAnd tA tB'):=by
  intro wh pins s σ H Q I h
  refine isTrue_and (thn (ha pins s σ H _ I h) fun c s1 ⟨H1,I1,q1⟩=>?_)
  cases c with
  | true=>exact hb wh pins s1 σ H1 Q I1 q1
  | false=>exact ⟨H1,I1,q1⟩
theorem pw_or (ha:PT X a tA) (hb:PW X (.BoolOp .Or (b :: rest) pos) tB'):PW X (.BoolOp .Or (a :: b :: rest) pos) (tOr tA tB'):=by
  intro wh pins s σ H Q I h
  refine isTrue_or (thn (ha pins s σ H _ I h) fun c s1 ⟨H1,I1,q1⟩=>?_)
  cases c with
  | true=>exact ⟨H1,I1,q1⟩
  | false=>exact hb wh pins s1 σ H1 Q I1 q1
theorem pt_not (ha:PT X a tA):PT X (.UnaryOp .Not a pos) (tNot tA):=by
  intro pins s σ H Q I h
  exact isTrue_not (ha pins s σ H (fun c H1=>Q (!c) H1) I h)
noncomputable def tAndV (ta tb:TE):TE:=fun σ H Q=>ta σ H fun x H1=>∃ c,x=.bl c∧if c=true then tb σ H1 Q else Q (.bl false) H1
noncomputable def tOrV (ta tb:TE):TE:=fun σ H Q=>ta σ H fun x H1=>∃ c,x=.bl c∧if c=true then Q (.bl true) H1 else tb σ H1 Q
noncomputable def tNotV (ta:TE):TE:=fun σ H Q=>ta σ H fun x H1=>∃ c,x=.bl c∧Q (.bl (!c)) H1
theorem pe_one {op}{t:TE} (h:PE X a t):PE X (.BoolOp op [a] pos) t:=fun pins s σ H Q I hw=>BoolOp_one (h pins s σ H Q I hw)
theorem pe_and (ha:PE X a ta) (hb:PE X (.BoolOp .And (b :: rest) pos) tb):PE X (.BoolOp .And (a :: b :: rest) pos) (tAndV ta tb):=by
  intro pins s σ H Q I h
  refine BoolOp_and (thn (ha pins s σ H _ I h) fun v s1 ⟨x,H1,I1,r1,q1⟩=>?_)
  obtain ⟨c,rfl,q1⟩:=q1
  cases r1
  refine wpAny_truthy_bool ?_
  cases c with
  | true=>exact hb pins s1 σ H1 Q I1 q1
  | false=>exact ⟨.bl false,H1,I1,rfl,q1⟩
theorem pe_or (ha:PE X a ta) (hb:PE X (.BoolOp .Or (b :: rest) pos) tb):PE X (.BoolOp .Or (a :: b :: rest) pos) (tOrV ta tb):=by
  intro pins s σ H Q I h
  refine BoolOp_or (thn (ha pins s σ H _ I h) fun v s1 ⟨x,H1,I1,r1,q1⟩=>?_)
  obtain ⟨c,rfl,q1⟩:=q1
  cases r1
  refine wpAny_truthy_bool ?_
  cases c with
  | false=>exact hb pins s1 σ H1 Q I1 q1
  | true=>exact ⟨.bl true,H1,I1,rfl,q1⟩
theorem pe_not (ha:PE X a ta):PE X (.UnaryOp .Not a pos) (tNotV ta):=by
  intro pins s σ H Q I h
  refine UnaryOp_ (thn (ha pins s σ H _ I h) fun v s1 ⟨x,H1,I1,r1,q1⟩=>?_)
  obtain ⟨c,rfl,q1⟩:=q1
  cases r1
  exact not_of (wpAny_truthy_bool ⟨.bl (!c),H1,I1,rfl,q1⟩)
noncomputable def tIf (t:TT) (ta tb:TE):TE:=fun σ H Q=>t σ H fun c H1=>if c=true then ta σ H1 Q else tb σ H1 Q
theorem pe_ifExp {c:Expr} (hc:PT X c tA) (ha:PE X a ta) (hb:PE X b tb):PE X (.IfExp c a b pos) (tIf tA ta tb):=by
  intro pins s σ H Q I h
  refine wpAny_IfExp (thn (hc pins s σ H _ I h) fun d s1 ⟨H1,I1,q1⟩=>?_)
  cases d with
  | true=>exact ha pins s1 σ H1 Q I1 q1
  | false=>exact hb pins s1 σ H1 Q I1 q1
end
end L2

namespace L2
open PySem PySem.Spec PyProof.Rows

def SqL (K:PySem.W.Frag) (H:Hp) (a:Addr) (xs:List V):Prop:=
  Rd H a (.lst xs) ∨
    ∃ (o:Obj) (its:Array Value) (n:Nat),K.lookup a=some o∧o.cls=.type "list"∧o.dict=none∧o.data=.seq its n∧its.size≤sizeLine∧Vals xs its.toList
def SqT (K:PySem.W.Frag) (H:Hp) (a:Addr) (xs:List V):Prop:=
  Rd H a (.tup xs) ∨
    ∃ (o:Obj) (its:Array Value) (n:Nat),K.lookup a=some o∧o.cls=.type "tuple"∧o.data=.seq its n∧its.size≤sizeLine∧Vals xs its.toList
noncomputable def absV:Value→Option V
  | .none=>some .non
  | .bool b=>some (.bl b)
  | .int i _=>some (.int i)
  | .str x _=>some (.str x)
  | .bytes b _=>some (.byt b)
  | .float b _=>some (.flt b)
  | .ref a=>some (.ref a)
  | .type n=>some (.ty n)
  | _=>none
theorem RelV.abs {x:V}{u:Value} (r:RelV x u):absV u=some x:=by
  cases x with
  | non=>cases r; rfl
  | bl _=>cases r; rfl
  | int _=>obtain ⟨t,rfl⟩:=r; rfl
  | str _=>obtain ⟨t,rfl⟩:=r; rfl
  | byt _=>obtain ⟨t,rfl⟩:=r; rfl
  | flt _=>obtain ⟨t,rfl⟩:=r; rfl
  | ref _=>cases r; rfl
  | ty _=>cases r; rfl
theorem RelV.inj {x y:V}{u:Value} (r:RelV x u) (q:RelV y u):x=y:=Option.some.inj (r.abs.symm.trans q.abs)
theorem Vals.inj:∀ {xs ys:List V}{us:List Value},Vals xs us→Vals ys us→xs=ys
  | _,_,_,.nil,.nil=>rfl
  | _,_,_,.cons r t,.cons r' t'=>by rw [r.inj r',Vals.inj t t']
section
variable {X:Cx}{pins:List (Addr×Obj)}{σ:St}{H:Hp}{s:Shared}{a:Addr}{xs ys:List V}
theorem SqT.of {K:PySem.W.Frag} (h:H a=some (.tup xs)):SqT K H a xs:=.inl (.inl h)
theorem Inv.list (I:Inv X pins σ H s) (h:SqL X.K H a xs):∃ its:List Value,Vals xs its∧PlainL s.heap a its.toArray∧xs.length≤sizeLine:=by
  rcases h with h | ⟨o,its,n,hk,hc,hd,hs,hz,r⟩
  · obtain ⟨z,its,n,r,e⟩:=h.ok I.hok
    exact ⟨its,r,⟨_,n,e,rfl,rfl,rfl⟩,z⟩
  · refine ⟨its.toList,r,⟨o,n,I.kIn a o hk,hc,hd,by simpa using hs⟩,?_⟩
    have e:=r.length
    simp only [Array.length_toList] at e
    omega
theorem Inv.tuple (I:Inv X pins σ H s) (h:SqT X.K H a xs):∃ its:List Value,Vals xs its∧IsTup s.heap a its.toArray∧xs.length≤sizeLine:=by
  rcases h with h | ⟨o,its,n,hk,hc,hs,hz,r⟩
  · obtain ⟨z,its,r,p⟩:=h.ok I.hok
    exact ⟨its,r,p,z⟩
  · refine ⟨its.toList,r,⟨o,I.kIn a o hk,hc,n,by simpa using hs⟩,?_⟩
    have e:=r.length
    simp only [Array.length_toList] at e
    omega
theorem Inv.list_inj (I:Inv X pins σ H s) (h:SqL X.K H a xs) (h':SqL X.K H a ys):xs=ys:=by
  obtain ⟨its,r,⟨o,n,e,_,_,d⟩,_⟩:=I.list h
  obtain ⟨its',r',⟨o',n',e',_,_,d'⟩,_⟩:=I.list h'
  rw [e] at e'; cases e'
  rw [d] at d'
  injection d' with d1 _
  have:its=its':=by simpa using congrArg Array.toList d1
  subst this
  exact r.inj r'
theorem Inv.tuple_inj (I:Inv X pins σ H s) (h:SqT X.K H a xs) (h':SqT X.K H a ys):xs=ys:=by
  obtain ⟨its,r,⟨o,e,_,n,d⟩,_⟩:=I.tuple h
  obtain ⟨its',r',⟨o',e',_,n',d'⟩,_⟩:=I.tuple h'
  rw [e] at e'; cases e'
  rw [d] at d'
  injection d' with d1 _
  have:its=its':=by simpa using congrArg Array.toList d1
  subst this
  exact r.inj r'
end

noncomputable abbrev Cx.wish (X:Cx) (E:Value→Shared→Prop):Cx:={ X with xe:=E }
noncomputable abbrev Cx.nox (X:Cx):Cx:=X.wish fun _ _=>False
theorem Cx.Ok.wish {X:Cx} (ok:X.Ok) (E:Value→Shared→Prop):(X.wish E).Ok:=
  ⟨ok.mod,ok.kind,ok.glob,ok.blt,ok.above,ok.inj,ok.has,ok.cab,ok.hd,ok.frames,ok.stk,ok.exf,ok.bs,ok.bsz,ok.noex,ok.exfs,ok.funs,ok.frf⟩
theorem Cx.Ok.unwish {X:Cx}{E:Value→Shared→Prop} (ok:(X.wish E).Ok):X.Ok:=
  ⟨ok.mod,ok.kind,ok.glob,ok.blt,ok.above,ok.inj,ok.has,ok.cab,ok.hd,ok.frames,ok.stk,ok.exf,ok.bs,ok.bsz,ok.noex,ok.exfs,ok.funs,ok.frf⟩
section
variable {X:Cx}{pins:List (Addr×Obj)}{σ:St}{H:Hp}{s:Shared}{E:Value→Shared→Prop}
theorem Inv.wish (I:Inv X pins σ H s) (E:Value→Shared→Prop):Inv (X.wish E) pins σ H s:=⟨I.ok.wish E,I.os,I.bare,I.base,I.loc,I.cell,I.free,I.freeC,I.pin,I.hok,I.len⟩
theorem Inv.unwish (I:Inv (X.wish E) pins σ H s):Inv X pins σ H s:=⟨I.ok.unwish,I.os,I.bare,I.base,I.loc,I.cell,I.free,I.freeC,I.pin,I.hok,I.len⟩
theorem SP.unwish {D:Ends}{f:Flow}{s':Shared} (h:SP (X.wish E) pins D f s'):SP X pins D f s':=by
  cases f with
  | next=>obtain ⟨σ',H',I,q⟩:=h; exact ⟨σ',H',I.unwish,q⟩
  | brk=>obtain ⟨σ',H',I,q⟩:=h; exact ⟨σ',H',I.unwish,q⟩
  | cont=>obtain ⟨σ',H',I,q⟩:=h; exact ⟨σ',H',I.unwish,q⟩
  | ret u=>obtain ⟨v,σ',H',I,r,q⟩:=h; exact ⟨v,σ',H',I.unwish,r,q⟩
theorem PE.nox {e:Expr}{t:TE} (h:PE X.nox e t):PE X e t:=fun pins s σ H Q I hw=>
  wpAny_mono (h pins s σ H Q (I.wish _) hw) (fun _ _ ⟨v,H',I',r,q⟩=>⟨v,H',I'.unwish,r,q⟩) fun _ _ z=>False.elim z
theorem PT.nox {e:Expr}{t:TT} (h:PT X.nox e t):PT X e t:=fun pins s σ H Q I hw=>
  wpAny_mono (h pins s σ H Q (I.wish _) hw) (fun _ _ ⟨H',I',q⟩=>⟨H',I'.unwish,q⟩) fun _ _ z=>False.elim z
theorem PSs.nox {st:List Stmt}{t:TS} (h:PSs X.nox st t):PSs X st t:=fun pins s σ H D I hw=>
  wpAny_mono (h pins s σ H D (I.wish _) hw) (fun _ _ q=>q.unwish) fun _ _ z=>False.elim z
end

section
variable {X:Cx}{st:Stmt}{rest:List Stmt}{t u:TS}{e:Expr}{te:TE}{pos:Pos}
noncomputable def tNext:TS:=fun D σ H=>D.nx σ H
noncomputable def tSeq (t u:TS):TS:=fun D σ H=>t { D with nx:=u D } σ H
theorem pss_nil:PSs X [] tNext:=fun _ _ σ H _ I h=>wpAny_execs_nil ⟨σ,H,I,h⟩
theorem pss_cons (h1:PS X st t) (h2:PSs X rest u):PSs X (st :: rest) (tSeq t u):=by
  intro pins s σ H D I h
  refine wpAny_execs_cons (thn (h1 pins s σ H { D with nx:=u D } I h) fun f s1 q=>?_)
  cases f with
  | next=>
    obtain ⟨σ',H',I',q⟩:=q
    exact h2 pins s1 σ' H' D I' q
  | ret v=>exact q
  | brk=>exact q
  | cont=>exact q
theorem pss_one (h1:PS X st t):PSs X [st] t:=by
  intro pins s σ H D I h
  refine wpAny_execs_cons (thn (h1 pins s σ H D I h) fun f s1 q=>?_)
  cases f with
  | next=>exact wpAny_execs_nil q
  | ret v=>exact q
  | brk=>exact q
  | cont=>exact q
noncomputable def tBreak:TS:=fun D σ H=>D.bk σ H
noncomputable def tCont:TS:=fun D σ H=>D.ct σ H
theorem ps_pass:PS X (.Pass pos) tNext:=fun _ _ σ H _ I h=>wpAny_Pass ⟨σ,H,I,h⟩
theorem ps_break:PS X (.Break pos) tBreak:=fun _ _ σ H _ I h=>wpAny_Break ⟨σ,H,I,h⟩
theorem ps_continue:PS X (.Continue pos) tCont:=fun _ _ σ H _ I h=>wpAny_Continue ⟨σ,H,I,h⟩
theorem Inv.quiet {pins:List (Addr×Obj)}{σ:St}{H:Hp}{s:Shared} (I:Inv X pins σ H s):interactive X.env=false:=by simp [interactive,I.ok.kind]
noncomputable def tDrop (te:TE):TS:=fun D σ H=>te σ H fun _ H1=>D.nx σ H1
theorem ps_expr (he:PE X e te) (hs:swapsWith e none pos.line X.env=pure false:=by rfl):PS X (.Expr e pos) (tDrop te):=by
  intro pins s σ H D I h
  exact wpAny_Expr_any (thn (he pins s σ H _ I h) fun v s1 ⟨x,H1,I1,r1,q1⟩=>⟨σ,H1,I1,q1⟩) I.quiet hs
noncomputable def tRet (te:TE):TS:=fun D σ H=>te σ H D.rt
theorem ps_ret (he:PE X e te):PS X (.Return (some e) pos) (tRet te):=by
  intro pins s σ H D I h
  exact wpAny_Return_some (thn (he pins s σ H _ I h) fun v s1 ⟨x,H1,I1,r1,q1⟩=>⟨x,σ,H1,I1,r1,q1⟩)
noncomputable def tIfS (c:TT) (t u:TS):TS:=fun D σ H=>c σ H fun b H1=>if b=true then t D σ H1 else u D σ H1
theorem ps_if {c:Expr}{a b:List Stmt}{tc:TT} (hc:PT X c tc) (ha:PSs X a t) (hb:PSs X b u):PS X (.If c a b pos) (tIfS tc t u):=by
  intro pins s σ H D I h
  refine wpAny_If (thn (hc pins s σ H _ I h) fun d s1 ⟨H1,I1,q1⟩=>?_)
  cases d with
  | true=>exact ha pins s1 σ H1 D I1 q1
  | false=>exact hb pins s1 σ H1 D I1 q1
noncomputable def tNever:TS:=fun _ _ _=>False
theorem pss_never {sts:List Stmt}:PSs X sts tNever:=fun _ _ _ _ _ _ h=>h.elim
end

abbrev TG:=V→St→Hp→(St→Hp→Prop)→Prop
abbrev TGs:=List V→St→Hp→(St→Hp→Prop)→Prop
def PG (X:Cx) (target:Expr) (t:TG):Prop:=
  ∀ (pins:List (Addr×Obj)) (s:Shared) (σ:St) (H:Hp) (v:V) (u:Value) (Q:St→Hp→Prop),Inv X pins σ H s→RelV v u→t v σ H Q→
    wpAny (model X.prog X.w) X.A (assign target X.env u) (fun _ s'=>∃ σ' H',Inv X pins σ' H' s'∧Q σ' H') X.xe s
def PGs (X:Cx) (ts:List Expr) (t:TGs):Prop:=
  ∀ (pins:List (Addr×Obj)) (s:Shared) (σ:St) (H:Hp) (vs:List V) (us:List Value) (Q:St→Hp→Prop),Inv X pins σ H s→Vals vs us→t vs σ H Q→
    wpAny (model X.prog X.w) X.A (assignInOrder ((assignEach ts X.env).map (·.2)) us) (fun _ s'=>∃ σ' H',Inv X pins σ' H' s'∧Q σ' H') X.xe s
abbrev TSet:=V→V→V→Hp→(Hp→Prop)→Prop
def PSet (X:Cx) (t:TSet):Prop:=
  ∀ (pins:List (Addr×Obj)) (s:Shared) (σ:St) (H:Hp) (o i v:V) (ov iv u:Value) (Q:Hp→Prop),Inv X pins σ H s→RelV o ov→RelV i iv→RelV v u→t o i v H Q→
    wpAny (model X.prog X.w) X.A (setItem ov iv u) (fun _ s'=>∃ H',Inv X pins σ H' s'∧Q H') X.xe s
section
variable {X:Cx}{pos:Pos}
noncomputable def gName (i:Nat):TG:=fun v σ H Q=>Q (σ.set i (some v)) H
theorem pg_name {i:Nat}{x:Str} (hN:X.N.Nodup) (hi:X.N[i]?=some x) (hx:Loc X.env.scope x) (hf:X.fn x=true∨X.env.scope.names.lookup x=some .local:=by first | exact .inl rfl | exact .inr rfl | assumption):PG X (.Name x pos) (gName i):=by
  intro pins s σ H v u Q I r h
  exact wpAny_assign_Name (store_ok I hN hi hx r (fun s' I'=>⟨_,H,I',h⟩) hf)
noncomputable def gNil:TGs:=fun vs σ H Q=>vs=[]∧Q σ H
noncomputable def gCons (t:TG) (u:TGs):TGs:=fun vs σ H Q=>∃ v r,vs=v :: r∧t v σ H fun σ' H'=>u r σ' H' Q
theorem pgs_nil:PGs X [] gNil:=by
  intro pins s σ H vs us Q I r h
  obtain ⟨e,h⟩:=h
  subst e
  cases r
  exact assignInOrder_nil ⟨σ,H,I,h⟩
theorem pgs_cons {e:Expr}{es:List Expr}{t:TG}{u:TGs} (h1:PG X e t) (h2:PGs X es u)
    (hs:(assignEach (e :: es) X.env).map (·.2)=assign e X.env :: (assignEach es X.env).map (·.2):=by rfl):PGs X (e :: es) (gCons t u):=by
  intro pins s σ H vs us Q I r h
  obtain ⟨v,vr,e1,h⟩:=h
  subst e1
  cases r with
  | cons r rr=>
    rw [hs]
    refine assignInOrder_cons (thn (h1 pins s σ H _ _ _ I r h) fun _ s1 ⟨σ1,H1,I1,q1⟩=>?_)
    exact h2 pins s1 σ1 H1 _ _ Q I1 rr q1
noncomputable def gTup (K:PySem.W.Frag) (n:Nat) (t:TGs):TG:=fun v σ H Q=>∃ a xs,v=.ref a∧SqT K H a xs∧xs.length=n∧t xs σ H Q
theorem pg_tup {es:List Expr}{k:Nat}{t:TGs}{n:Nat} (hc:X.calm=true) (h:PGs X es t)
    (hn:(assignEach es X.env).length=n:=by rfl) (hst:(assignEach es X.env).findIdx? (·.1)=none:=by rfl):PG X (.Tuple es k pos) (gTup X.K n t):=by
  intro pins s σ H v u Q I r hw
  obtain ⟨a,xs,e1,hq,hl,hw⟩:=hw
  subst e1
  cases r
  obtain ⟨its,rv,ht,hz⟩:=I.tuple hq
  refine assign_Tuple_tuple (I.ok.hd hc) ht (by simp [hn,←hl,rv.length]) hst fun h' hx=>?_
  have I1:Inv X pins σ H { s with heap:=h' }:=I.kept (t':=s.toks) fun b o e=>hx b o (Nat.ne_of_lt (Heap.lt_size e)) e
  exact h pins _ σ H xs _ Q I1 (by simpa using rv) hw
noncomputable def gSub (to ti:TE) (t:TSet):TG:=fun v σ H Q=>to σ H fun o H1=>ti σ H1 fun i H2=>t o i v H2 fun H3=>Q σ H3
theorem pg_sub {o i:Expr}{to ti:TE}{t:TSet} (ho:PE X o to) (hi:PE X i ti) (hs:PSet X t)
    (ha:∀ v,assign (.Subscript o i pos) X.env v=(do
      let ov ←holding [v] (eval o X.env)
      let iv ←holding [v,ov] (eval i X.env)
      standAt pos
      holding [v,ov,iv] (setItem ov iv v)
      release [v,ov,iv] []):=by intro _; rfl):PG X (.Subscript o i pos) (gSub to ti t):=by
  intro pins s σ H v u Q I r h
  rw [ha]
  refine wpAny_bind (wpAny_holding (thn (ho pins s σ H _ I h) fun ov s1 ⟨x,H1,I1,r1,q1⟩=>?_))
  refine wpAny_bind (wpAny_holding (thn (hi pins s1 σ H1 _ I1 q1) fun iv s2 ⟨y,H2,I2,r2,q2⟩=>?_))
  refine wpAny_bind (wpAny_standAt (wpAny_bind (wpAny_holding (thn (hs pins s2 σ H2 x y v ov iv u _ I2 r1 r2 r q2) fun _ s3 ⟨H3,I3,q3⟩=>?_))))
  exact wpAny_release ⟨σ,H3,I3,q3⟩
noncomputable def tAsg (te:TE) (g:TG):TS:=fun D σ H=>te σ H fun x H1=>g x σ H1 D.nx
theorem ps_asg {tg e:Expr}{te:TE}{g:TG} (he:PE X e te) (hg:PG X tg g) (hs:swapsWithSole [tg] e pos.line X.env=pure false:=by rfl) (hw:swappedStores [tg] e X.env=pure none:=by rfl)
    (h1:(assignEach [tg] X.env).map (·.2)=[assign tg X.env]:=by rfl):PS X (.Assign [tg] e pos) (tAsg te g):=by
  intro pins s σ H D I h
  refine wpAny_Assign_stores (thn (he pins s σ H _ I h) fun v s1 ⟨x,H1,I1,r1,q1⟩=>?_) hs hw
  rw [h1]
  exact thn (hg pins s1 σ H1 x v _ I1 r1 q1) fun _ s2 q=>q
theorem ps_set {i:Nat}{x:Str}{e:Expr}{te:TE}{pos':Pos} (hN:X.N.Nodup) (hi:X.N[i]?=some x) (hx:Loc X.env.scope x) (he:PE X e te) (hs:swapsWith e (some (.Name x pos')) pos.line X.env=pure false:=by rfl) (hf:X.fn x=true∨X.env.scope.names.lookup x=some .local:=by first | exact .inl rfl | exact .inr rfl | assumption) :
    PS X (.Assign [.Name x pos'] e pos) (tAsg te (gName i)):=by
  intro pins s σ H D I h
  refine wpAny_Assign_Name (thn (he pins s σ H _ I h) fun v s1 ⟨y,H1,I1,r1,q1⟩=>?_) hs
  exact store_ok I1 hN hi hx r1 (fun s2 I2=>⟨_,H1,I2,q1⟩) hf
end

section
variable {X:Cx}{pos:Pos}
end

structure It where
  go:Nat→Hp→Prop
  yld:Nat→Hp→V→Hp→Prop
  stop:Nat→Hp→Prop
def FpOk (X:Cx) (pins:List (Addr×Obj)) (H:Hp) (b:Addr):Prop:=
  H b=none∧b≠X.env.locals∧b∉X.fs∧(b∈X.ex∨X.s₀.heap.objs.size≤b)∧(∀ x c,X.env.cells.lookup x=some c→c≠b)∧∀ p∈X.pn++pins,p.1≠b
theorem Inv.fpOk {X:Cx}{pins:List (Addr×Obj)}{σ:St}{H H':Hp}{s:Shared}{b:Addr} (I:Inv X pins σ H s) (hb:s.heap.objs.size≤b) (hn:H' b=none):FpOk X pins H' b:=by
  refine ⟨hn,Nat.ne_of_gt (Nat.lt_of_lt_of_le I.lt hb),I.nofs hb,.inr (Nat.le_trans I.sz hb),fun x c e z=>?_,fun p hp z=>?_⟩
  · obtain ⟨v,q⟩:=I.cell x c e
    exact absurd (Nat.lt_of_lt_of_le q.lt (by rw [z]; exact hb)) (Nat.lt_irrefl _)
  · exact absurd (Nat.lt_of_lt_of_le (Heap.lt_size (I.pin p hp).1) (by rw [z]; exact hb)) (Nat.lt_irrefl _)
structure Turn (P:Program) (w:World) (K:PySem.W.Frag) (tg:Expr) (J:It) (fp:List Addr) (it:Addr) (tn:Nat→Heap→Prop):Prop where
  mem:it∈fp
  obj:∀ i h,tn i h→∀ b∈fp,∃ o,h.get? b=some o∧∀ v,o.data≠.cell v
  keep:∀ i h h',tn i h→(∀ b∈fp,∀ o,h.get? b=some o→h'.get? b=some o)→tn i h'
  item:∀ (X:Cx),X.prog=P→X.w=w→X.K=K→X.calm=true→∀ (i:Nat) (pins:List (Addr×Obj)) (s:Shared) (σ:St) (H:Hp) (E:Value→Shared→Prop),Inv X pins σ H s→(∀ b∈fp,FpOk X pins H b)→tn i s.heap→J.go i H→
    wpAny (model P w) X.A (pyNext (.ref it)) (fun r s1=>∃ u,r=some u ∧
      wpAny (model P w) X.A (letOwnedTupleGo tg (.ref it) u) (fun _ s2=>∃ x H',Inv X pins σ H' s2∧RelV x u∧J.yld i H x H'∧tn (i+1) s2.heap∧∀ b∈fp,H' b=none) E s1) E s
  done:∀ (X:Cx),X.prog=P→X.w=w→X.K=K→X.calm=true→∀ (i:Nat) (pins:List (Addr×Obj)) (s:Shared) (σ:St) (H:Hp) (E:Value→Shared→Prop),Inv X pins σ H s→(∀ b∈fp,FpOk X pins H b)→tn i s.heap→J.stop i H→
    wpAny (model P w) X.A (pyNext (.ref it)) (fun r s1=>r=none∧Inv X pins σ H s1) E s
  self:∀ (A:Around) (i:Nat) (s:Shared) (Q:Value→Shared→Prop) (E:Value→Shared→Prop),tn i s.heap→Q (.ref it) s→wpAny (model P w) A (pyIter (.ref it)) Q E s
abbrev TI:=St→Hp→(It→Hp→Prop)→Prop
def PIE (X:Cx) (pins:List (Addr×Obj)) (σ:St) (tg:Expr) (R:It→Hp→Prop) (itv:Value) (s2:Shared):Prop:=
  ∃ (it:Addr) (fp:List Addr) (tn:Nat→Heap→Prop) (J:It) (H':Hp),itv=.ref it∧Inv X pins σ H' s2∧Turn X.prog X.w X.K tg J fp it tn∧tn 0 s2.heap∧(∀ b∈fp,FpOk X pins H' b)∧R J H'
def PI (X:Cx) (tg iter:Expr) (wi:TI):Prop:=
  ∀ (pins:List (Addr×Obj)) (s:Shared) (σ:St) (H:Hp) (R:It→Hp→Prop),Inv X pins σ H s→wi σ H R→
    wpAny (model X.prog X.w) X.A (eval iter X.env) (fun v s1=>wpAny (model X.prog X.w) X.A (pyIter v) (PIE X pins σ tg R) X.xe s1) X.xe s

theorem go_of {M:Model}{A:Around}{E:Value→Shared→Prop}{s:Shared}{tg:Expr}{it:Addr}{u:Value}{o:Obj}{n:String}{vs:Array Value}{Q:Unit→Shared→Prop} (ho:s.heap.get? it=some o) (hc:o.cls=.type n) (hd:o.data=.fields vs)
    (hn:["enumerate", "zip", "dict_itemiterator", "dict_reverseitemiterator", "odict_iterator", "itertools.zip_longest", "itertools.pairwise"].contains n=false) (hQ:Q () s):wpAny M A (letOwnedTupleGo tg (.ref it) u) Q E s:=by
  unfold letOwnedTupleGo
  cases tg<;>first
    | exact wpAny_pure hQ
    | (cases u<;>first
        | exact wpAny_pure hQ
        | (refine wpAny_bind (wpAny_load ho ?_)
           rw [hc,hd]
           show wpAny M A (if (["enumerate", "zip", "dict_itemiterator", "dict_reverseitemiterator", "odict_iterator", "itertools.zip_longest", "itertools.pairwise"].contains n&&vs[0]?==some (rawInt _))=true then _ else _) Q E s
           rw [if_neg (by intro h; rw [hn,Bool.false_and] at h; cases h)]
           exact wpAny_pure hQ))

noncomputable def Itl (K:PySem.W.Frag) (a:Addr):It:=
  ⟨fun i H=>∃ xs x,SqL K H a xs∧xs[i]?=some x,fun i H x H'=>H'=H∧∀ xs,SqL K H a xs→xs[i]?=some x,fun i H=>∃ xs,SqL K H a xs∧xs.length≤i⟩
noncomputable def Itt (K:PySem.W.Frag) (a:Addr):It:=
  ⟨fun i H=>∃ xs x,SqT K H a xs∧xs[i]?=some x,fun i H x H'=>H'=H∧∀ xs,SqT K H a xs→xs[i]?=some x,fun i H=>∃ xs,SqT K H a xs∧xs.length≤i⟩
noncomputable def Itr (lo:Int) (n:Nat):It:=⟨fun i _=>i < n,fun i H x H'=>H'=H∧x=.int (lo+i),fun i _=>n≤i⟩
theorem turn_list {P:Program}{w:World}{K:PySem.W.Frag}{tg:Expr} (a it:Addr):Turn P w K tg (Itl K a) [it] it (fun i h=>h.IsListIter it a i) where
  mem:=by simp
  obj:=fun i h st b hb=>by
    have e:b=it:=by simpa using hb
    subst e
    obtain ⟨o,e,c,d⟩:=st
    exact ⟨o,e,fun v z=>by rw [d] at z; cases z⟩
  keep:=fun i h h' st k=>st.at fun o e=>k it (by simp) o e
  item:=by
    intro X hP hw hK hc i pins s σ H E I hf st hg
    subst hP hw hK
    obtain ⟨xs,x,hq,hx⟩:=hg
    obtain ⟨its,rv,p,hz⟩:=I.list hq
    obtain ⟨u,hu,ru⟩:=rv.get hx
    obtain ⟨f0,f1,f2,f3,f4,f5⟩:=hf it (by simp)
    refine wpAny_pyNext_list_item st p.isList (x:=u) (by simpa using hu) fun h' st' sb=>?_
    have I1:Inv X pins σ H { s with heap:=h' }:=I.turned (t':=s.toks) (fun b o hb e=>(sb.2 b hb).trans e) f0 f1 f3 f4 f5
    obtain ⟨o,e,c,d⟩:=id st'
    exact ⟨u,rfl,go_of (s:={ s with heap:=h' }) e c d (by decide) ⟨x,H,I1,ru,⟨rfl,fun ys hy=>by rw [I.list_inj hy hq]; exact hx⟩,st',fun b hb=>(hf b hb).1⟩⟩
  done:=by
    intro X hP hw hK hc i pins s σ H E I hf st hg
    subst hP hw hK
    obtain ⟨xs,hq,hx⟩:=hg
    obtain ⟨its,rv,p,hz⟩:=I.list hq
    obtain ⟨f0,f1,f2,f3,f4,f5⟩:=hf it (by simp)
    have hl:=rv.length
    exact wpAny_pyNext_list_end (I.ok.hd hc) st p.isList (by simp; omega) fun h' eb=>⟨rfl,I.turned (t':=s.toks) (fun b o hb e=>eb b o hb e) f0 f1 f3 f4 f5⟩
  self:=fun _ _ _ _ _ st h=>wpAny_pyIter_listiter st h
theorem turn_tuple {P:Program}{w:World}{K:PySem.W.Frag}{tg:Expr} (a it:Addr):Turn P w K tg (Itt K a) [it] it (fun i h=>h.IsTupleIter it a i) where
  mem:=by simp
  obj:=fun i h st b hb=>by
    have e:b=it:=by simpa using hb
    subst e
    obtain ⟨o,e,c,d⟩:=st
    exact ⟨o,e,fun v z=>by rw [d] at z; cases z⟩
  keep:=fun i h h' st k=>st.at fun o e=>k it (by simp) o e
  item:=by
    intro X hP hw hK hc i pins s σ H E I hf st hg
    subst hP hw hK
    obtain ⟨xs,x,hq,hx⟩:=hg
    obtain ⟨its,rv,p,hz⟩:=I.tuple hq
    obtain ⟨u,hu,ru⟩:=rv.get hx
    obtain ⟨f0,f1,f2,f3,f4,f5⟩:=hf it (by simp)
    refine wpAny_pyNext_tuple_item st (show s.heap.IsTuple a its.toArray from p) (x:=u) (by simpa using hu) fun h' st' sb=>?_
    have I1:Inv X pins σ H { s with heap:=h' }:=I.turned (t':=s.toks) (fun b o hb e=>(sb.2 b hb).trans e) f0 f1 f3 f4 f5
    obtain ⟨o,e,c,d⟩:=id st'
    exact ⟨u,rfl,go_of (s:={ s with heap:=h' }) e c d (by decide) ⟨x,H,I1,ru,⟨rfl,fun ys hy=>by rw [I.tuple_inj hy hq]; exact hx⟩,st',fun b hb=>(hf b hb).1⟩⟩
  done:=by
    intro X hP hw hK hc i pins s σ H E I hf st hg
    subst hP hw hK
    obtain ⟨xs,hq,hx⟩:=hg
    obtain ⟨its,rv,p,hz⟩:=I.tuple hq
    obtain ⟨f0,f1,f2,f3,f4,f5⟩:=hf it (by simp)
    have hl:=rv.length
    exact wpAny_pyNext_tuple_end (I.ok.hd hc) st (show s.heap.IsTuple a its.toArray from p) (by simp; omega) fun h' eb=>⟨rfl,I.turned (t':=s.toks) (fun b o hb e=>eb b o hb e) f0 f1 f3 f4 f5⟩
  self:=fun _ _ _ _ _ st h=>wpAny_pyIter_tupleiter st h
theorem turn_range {P:Program}{w:World}{K:PySem.W.Frag}{tg:Expr} (it:Addr) (lo:Int) (n:Nat):Turn P w K tg (Itr lo n) [it] it (fun i h=>IsRangeIter h it (lo+(i:Nat) * 1) ((n:Int) - (i:Nat)) 1) where
  mem:=by simp
  obj:=fun i h st b hb=>by
    have e:b=it:=by simpa using hb
    subst e
    exact ⟨_,st,fun v z=>by
      have z':Data.fields _=Data.cell v:=z
      cases z'⟩
  keep:=fun i h h' st k=>k it (by simp) _ st
  item:=by
    intro X hP hw hK hc i pins s σ H E I hf st hg
    subst hP hw hK
    obtain ⟨f0,f1,f2,f3,f4,f5⟩:=hf it (by simp)
    have W:=Walks.range (prog:=X.prog) (w:=X.w) (I.ok.hd hc) it lo 1 n
    refine W.item i s _ _ hg st fun v h' tk hv st' kk=>?_
    obtain ⟨t,rfl⟩:=hv
    have I1:Inv X pins σ H { s with heap:=h',toks:=tk }:=I.turned (fun b o hb e=>kk b o (by simpa using hb) e) f0 f1 f3 f4 f5
    refine ⟨_,rfl,go_of (s:={ s with heap:=h',toks:=tk }) (n := "range_iterator") st' rfl rfl (by decide) ⟨.int (lo+i),H,I1,⟨t,?_⟩,⟨rfl,rfl⟩,st',fun b hb=>(hf b hb).1⟩⟩
    rw [Int.mul_one]
  done:=by
    intro X hP hw hK hc i pins s σ H E I hf st hg
    subst hP hw hK
    obtain ⟨f0,f1,f2,f3,f4,f5⟩:=hf it (by simp)
    exact wpAny_pyNext_range_end (I.ok.hd hc) st (by have:n≤i:=hg; omega) fun h' eb=>⟨rfl,I.turned (t':=s.toks) (fun b o hb e=>eb b o hb e) f0 f1 f3 f4 f5⟩
  self:=fun _ _ _ _ _ st h=>wpAny_pyIter_rangeiter st h
end L2

namespace L2
open PySem PySem.Spec PyProof.Rows
section
variable {X:Cx}{tg:Expr}
noncomputable def iList (K:PySem.W.Frag) (tl:TE):TI:=fun σ H R=>tl σ H fun x H1=>∃ a,x=.ref a∧(∃ xs,SqL K H1 a xs)∧R (Itl K a) H1
noncomputable def iTup (K:PySem.W.Frag) (tl:TE):TI:=fun σ H R=>tl σ H fun x H1=>∃ a,x=.ref a∧(∃ xs,SqT K H1 a xs)∧R (Itt K a) H1
theorem pi_list {l:Expr}{tl:TE} (hl:PE X l tl):PI X tg l (iList X.K tl):=by
  intro pins s σ H R I h
  refine thn (hl pins s σ H _ I h) fun v s1 ⟨x,H1,I1,r1,q1⟩=>?_
  obtain ⟨a,e,⟨xs,hq⟩,q⟩:=q1
  subst e
  cases r1
  obtain ⟨its,rv,p,hz⟩:=I1.list hq
  refine wpAny_pyIter_list p.isList ?_
  refine ⟨s1.heap.objs.size,[s1.heap.objs.size],_,_,H1,rfl,I1.kept (t':=s1.toks) fun b o e=>Heap.get?_push_of_some _ e,turn_list a _,⟨_,Heap.get?_push_size _ rfl,rfl,rfl⟩,fun b hb=>?_,q⟩
  have e:b=s1.heap.objs.size:=by simpa using hb
  subst e
  exact I1.fpOk (Nat.le_refl _) (I1.hok.fresh (Nat.le_refl _))
theorem pi_tup {l:Expr}{tl:TE} (hl:PE X l tl):PI X tg l (iTup X.K tl):=by
  intro pins s σ H R I h
  refine thn (hl pins s σ H _ I h) fun v s1 ⟨x,H1,I1,r1,q1⟩=>?_
  obtain ⟨a,e,⟨xs,hq⟩,q⟩:=q1
  subst e
  cases r1
  obtain ⟨its,rv,p,hz⟩:=I1.tuple hq
  refine wpAny_pyIter_tuple (show s1.heap.IsTuple a its.toArray from p) ?_
  refine ⟨s1.heap.objs.size,[s1.heap.objs.size],_,_,H1,rfl,I1.kept (t':=s1.toks) fun b o e=>Heap.get?_push_of_some _ e,turn_tuple a _,⟨_,Heap.get?_push_size _ rfl,rfl,rfl⟩,fun b hb=>?_,q⟩
  have e:b=s1.heap.objs.size:=by simpa using hb
  subst e
  exact I1.fpOk (Nat.le_refl _) (I1.hok.fresh (Nat.le_refl _))
theorem range_it {pins:List (Addr×Obj)}{σ:St}{H:Hp}{s:Shared}{R:It→Hp→Prop}{E:Value→Shared→Prop}{lo hi:Int}{t u v:Tok}{tk:Nat} (I:Inv X pins σ H s) (h1:-(2 ^ 62)≤lo) (h2:lo < 2 ^ 62) (h3:-(2 ^ 62)≤hi) (h4:hi < 2 ^ 62)
    (q:R (Itr lo (hi - lo).toNat) H):wpAny (model X.prog X.w) X.A (pyIter (.ref s.heap.objs.size)) (PIE X pins σ tg R) E { s with heap:=s.heap.push { cls:=.type "range",data:=.fields #[.int lo t,.int hi u,.int 1 v] },toks:=tk }:=by
  refine wpAny_pyIter_range (IsRange.new ..) (small_one h1 h2 h3 h4) ?_
  have I1:Inv X pins σ H { s with heap:=s.heap.push { cls:=.type "range",data:=.fields #[.int lo t,.int hi u,.int 1 v] },toks:=tk }:=I.kept fun b o e=>Heap.get?_push_of_some _ e
  refine ⟨(s.heap.push { cls:=.type "range",data:=.fields #[.int lo t,.int hi u,.int 1 v] }).objs.size,[(s.heap.push { cls:=.type "range",data:=.fields #[.int lo t,.int hi u,.int 1 v] }).objs.size],_,_,H,rfl,
    I1.kept (t':=tk) fun b o e=>Heap.get?_push_of_some _ e,turn_range _ lo (hi - lo).toNat,?_,fun b hb=>?_,q⟩
  · have e1:lo+((0:Nat):Int) * 1=lo:=by simp
    have e2:(((hi - lo).toNat:Nat):Int) - ((0:Nat):Int)=Builtin.Range.rangeSize lo hi 1:=by rw [rangeSize_one]; split<;>omega
    show IsRangeIter _ _ (lo+((0:Nat):Int) * 1) ((((hi - lo).toNat:Nat):Int) - ((0:Nat):Int)) 1
    rw [e1,e2]
    exact Heap.get?_push_size _ rfl
  · have e:b=(s.heap.push { cls:=.type "range",data:=.fields #[.int lo t,.int hi u,.int 1 v] }).objs.size:=by simpa using hb
    subst e
    exact I1.fpOk (Nat.le_refl _) (I1.hok.fresh (Nat.le_refl _))
noncomputable def iRng1 (ta:TA):TI:=fun σ H R=>ta σ H fun vs H1=>∃ j:Int,vs=[.int j]∧-(2 ^ 62)≤j∧j < 2 ^ 62∧R (Itr 0 j.toNat) H1
noncomputable def iRng2 (ta:TA):TI:=fun σ H R=>ta σ H fun vs H1=>∃ i j:Int,vs=[.int i,.int j]∧(-(2 ^ 62)≤i∧i < 2 ^ 62∧-(2 ^ 62)≤j∧j < 2 ^ 62)∧R (Itr i (j - i).toNat) H1
theorem pi_range1 {a:Expr}{ta:TA}{p pos:Pos} (hg:Gl X "range") (hm:X.mg "range"=none) (ha:PA X [a] ta) (hs:starEach [a] X.env=[(false,eval a X.env)]:=by rfl):PI X tg (.Call (.Name "range" p) [a] [] pos) (iRng1 ta):=by
  intro pins s σ H R I h
  refine Call_ (ld_blt I hg hm boot_range (PyProof.Rows.callWith_type1 (thn (ha pos pins s σ H _ I h) fun us s1 ⟨vs,H1,I1,r1,q1⟩=>?_) hs rfl))
  obtain ⟨j,e,q1,q2,q⟩:=q1
  subst e
  cases r1 with
  | cons r rr=>
    cases rr
    obtain ⟨t,rfl⟩:=r
    exact call_range_1 (range_it I1 (by omega) (by omega) q1 q2 (by simpa using q))
theorem pi_range2 {a b:Expr}{ta:TA}{p pos:Pos} (hg:Gl X "range") (hm:X.mg "range"=none) (ha:PA X [a,b] ta) (hs:starEach [a,b] X.env=[(false,eval a X.env),(false,eval b X.env)]:=by rfl) (hs2:starEach [b] X.env=[(false,eval b X.env)]:=by rfl) :
    PI X tg (.Call (.Name "range" p) [a,b] [] pos) (iRng2 ta):=by
  intro pins s σ H R I h
  refine Call_ (ld_blt I hg hm boot_range (PyProof.Rows.callWith_type1 (thn (ha pos pins s σ H _ I h) fun us s1 ⟨vs,H1,I1,r1,q1⟩=>?_) (by rw [hs,hs2]) (by rw [hs2]; rfl)))
  obtain ⟨i,j,e,⟨q1,q2,q3,q4⟩,q⟩:=q1
  subst e
  cases r1 with
  | cons r rr=>
    cases rr with
    | cons r' rr=>
      cases rr
      obtain ⟨t,rfl⟩:=r
      obtain ⟨t',rfl⟩:=r'
      exact call_range_2 (range_it I1 q1 q2 q3 q4 q)

noncomputable def tFor (wi:TI) (g:TG) (tb:TS):TS:=fun D σ H=>wi σ H fun J H1=>∃ W:Nat→Nat→St→Hp→Prop,(∃ m,W 0 m σ H1)∧∀ i m σ H,W i m σ H→
  (J.stop i H∧D.nx σ H)∨(J.go i H∧∃ N:St→Hp→Prop,(∀ σ' H',N σ' H'→∃ m',m' < m∧W (i+1) m' σ' H')∧∀ x H',J.yld i H x H'→g x σ H' fun σ2 H2=>tb { D with nx:=N,ct:=N,bk:=D.nx } σ2 H2)
noncomputable def pinsAt (fp:List Addr) (h:Heap):List (Addr×Obj):=fp.filterMap fun b=>(h.get? b).map fun o=>(b,o)
theorem mem_pinsAt {fp:List Addr}{h:Heap}{b:Addr}{o:Obj} (hb:b∈fp) (e:h.get? b=some o):(b,o)∈pinsAt fp h:=List.mem_filterMap.mpr ⟨b,hb,by rw [e]; rfl⟩
theorem of_pinsAt {fp:List Addr}{h:Heap}{p:Addr×Obj} (hp:p∈pinsAt fp h):p.1∈fp∧h.get? p.1=some p.2:=by
  obtain ⟨b,hb,e⟩:=List.mem_filterMap.mp hp
  cases q:h.get? b with
  | none=>rw [q] at e; cases e
  | some o=>
    rw [q] at e
    have e':(b,o)=p:=Option.some.inj e
    subst e'
    exact ⟨hb,q⟩
theorem Inv.pinned {pins:List (Addr×Obj)}{σ:St}{H:Hp}{s:Shared}{fp:List Addr} (I:Inv X pins σ H s) (hf:∀ b∈fp,FpOk X pins H b) (ho:∀ b∈fp,∃ o,s.heap.get? b=some o∧∀ v,o.data≠.cell v):Inv X (pins++pinsAt fp s.heap) σ H s:=
  I.pins_of fun p hp=>(List.mem_append.mp hp).elim (fun z=>I.pin p (List.mem_append_right _ z)) fun z=>by
    obtain ⟨hb,e⟩:=of_pinsAt z
    obtain ⟨f0,f1,f2,_⟩:=hf p.1 hb
    obtain ⟨o,e',d⟩:=ho p.1 hb
    rw [e] at e'; cases e'
    exact ⟨e,f0,f1,f2,d⟩
theorem Inv.unpinned {pins pl:List (Addr×Obj)}{σ:St}{H:Hp}{s:Shared} (I:Inv X (pins++pl) σ H s):Inv X pins σ H s:=I.pins_of fun p hp=>I.pin p (List.mem_append_right _ (List.mem_append_left _ hp))
theorem ps_for {iter:Expr}{body:List Stmt}{wi:TI}{g:TG}{tb:TS}{pos:Pos} (hp:PassesOwn (model X.prog X.w) X.A X.env X.xe) (hc:X.calm=true) (hi:PI X tg iter wi) (hg:PG X tg g) (hb:PSs X body tb)
    (hs:∀ x,foldedSetIterable iter X.env x=pure x:=by intro _; rfl):PS X (.For tg iter body [] pos) (tFor wi g tb):=by
  intro pins s σ H D I h
  refine wpAny_For (thn (hi pins s σ H _ I h) fun v s1 h1=>thn h1 fun itv s2 h2=>?_) hs
  obtain ⟨it,fp,tn,J,H2,e,I2,T,st2,f2,W,⟨m0,w0⟩,turn⟩:=h2
  subst e
  -- what stays true of the iterator's objects through the loop
  have stat:∀ {H':Hp},(∀ b∈fp,H' b=none)→∀ b∈fp,FpOk X pins H' b:=fun hn b hb=>⟨hn b hb,(f2 b hb).2⟩
  refine codeAny_forLoop_any (fun n s'=>∃ i σ' H',Inv X pins σ' H' s'∧tn i s'.heap∧(∀ b∈fp,H' b=none)∧W i n σ' H') ?_ m0 ⟨0,σ,H2,I2,st2,fun b hb=>(f2 b hb).1,w0⟩
  rintro n s3 ⟨i,σ3,H3,I3,st3,fr3,w3⟩
  rcases turn i n σ3 H3 w3 with ⟨stop,qn⟩ | ⟨go,N,hN,step⟩
  · refine wpAny_passesOwn hp (thn (T.done X rfl rfl rfl hc i pins s3 σ3 H3 X.xe I3 (stat fr3) st3 stop) fun r s4 ⟨hr,I4⟩=>?_)
    subst hr
    exact wpAny_execs_nil ⟨σ3,H3,I4,qn⟩
  · refine wpAny_passesOwn hp (thn (T.item X rfl rfl rfl hc i pins s3 σ3 H3 X.xe I3 (stat fr3) st3 go) fun r s4 ⟨u,hr,h4⟩=>?_)
    subst hr
    refine wpAny_passesOwn hp (thn h4 fun _ s5 ⟨x,H5,I5,r5,y5,st5,fr5⟩=>?_)
    have I5':=I5.pinned (stat fr5) (T.obj _ _ st5)
    refine wpAny_passesOwn hp (thn (hg _ s5 σ3 H5 x u _ I5' r5 (step x H5 y5)) fun _ s6 ⟨σ6,H6,I6,q6⟩=>?_)
    refine wpAny_passesOwn hp (thn (hb _ s6 σ6 H6 _ I6 q6) fun f s7 q7=>?_)
    have again:∀ {σ7:St}{H7:Hp},Inv X (pins++pinsAt fp s5.heap) σ7 H7 s7→N σ7 H7→∃ m,m < n∧∃ i σ' H',Inv X pins σ' H' s7∧tn i s7.heap∧(∀ b∈fp,H' b=none)∧W i m σ' H':=fun {σ7 H7} I7 n7=>by
      obtain ⟨m',hm,w7⟩:=hN σ7 H7 n7
      refine ⟨m',hm,i+1,σ7,H7,I7.unpinned,T.keep _ _ _ st5 fun b hb o e=>(I7.pin (b,o) (List.mem_append_right _ (List.mem_append_right _ (mem_pinsAt hb e)))).1,fun b hb=>?_,w7⟩
      obtain ⟨o,e,d⟩:=T.obj _ _ st5 b hb
      exact (I7.pin (b,o) (List.mem_append_right _ (List.mem_append_right _ (mem_pinsAt hb e)))).2.1
    cases f with
    | next=>obtain ⟨σ7,H7,I7,n7⟩:=q7; exact again I7 n7
    | cont=>obtain ⟨σ7,H7,I7,n7⟩:=q7; exact again I7 n7
    | brk=>obtain ⟨σ7,H7,I7,q7⟩:=q7; exact ⟨σ7,H7,I7.unpinned,q7⟩
    | ret v=>obtain ⟨x7,σ7,H7,I7,r7,q7⟩:=q7; exact ⟨x7,σ7,H7,I7.unpinned,r7,q7⟩
end

theorem for_tup {K:PySem.W.Frag}{a:Addr}{xs:List V}{g:TG}{tb:TS}{D:Ends}{σ:St}{H:Hp} (Pv:Nat→St→Hp→Prop) (h0:Pv 0 σ H) (hl:∀ i σ H,i≤xs.length→Pv i σ H→SqT K H a xs)
    (hs:∀ i x σ H,xs[i]?=some x→Pv i σ H→g x σ H fun σ2 H2=>tb { D with nx:=Pv (i+1),ct:=Pv (i+1),bk:=D.nx } σ2 H2) (hd:∀ σ H,Pv xs.length σ H→D.nx σ H) :
    ∃ W:Nat→Nat→St→Hp→Prop,(∃ m,W 0 m σ H)∧∀ i m σ H,W i m σ H→
      ((Itt K a).stop i H∧D.nx σ H)∨((Itt K a).go i H∧∃ N:St→Hp→Prop,(∀ σ' H',N σ' H'→∃ m',m' < m∧W (i+1) m' σ' H')∧∀ x H',(Itt K a).yld i H x H'→g x σ H' fun σ2 H2=>tb { D with nx:=N,ct:=N,bk:=D.nx } σ2 H2):=by
  refine ⟨fun i m σ H=>m=xs.length - i∧i≤xs.length∧Pv i σ H,⟨xs.length,by simp,Nat.zero_le _,h0⟩,?_⟩
  rintro i m σ H ⟨rfl,hi,p⟩
  have q:=hl i σ H hi p
  by_cases hlt:i < xs.length
  · refine .inr ⟨⟨xs,xs[i],q,by simp [hlt]⟩,Pv (i+1),fun σ' H' p'=>⟨xs.length - (i+1),by omega,rfl,hlt,p'⟩,fun x H' y=>?_⟩
    obtain ⟨e,y⟩:=y
    subst e
    exact hs i x σ _ (y xs q) p
  · have e:i=xs.length:=by omega
    subst e
    exact .inl ⟨⟨xs,q,Nat.le_refl _⟩,hd σ H p⟩
theorem for_range {lo:Int}{n:Nat}{g:TG}{tb:TS}{D:Ends}{σ:St}{H:Hp} (Pv:Nat→St→Hp→Prop) (h0:Pv 0 σ H)
    (hs:∀ i σ H,i < n→Pv i σ H→g (.int (lo+i)) σ H fun σ2 H2=>tb { D with nx:=Pv (i+1),ct:=Pv (i+1),bk:=D.nx } σ2 H2) (hd:∀ σ H,Pv n σ H→D.nx σ H) :
    ∃ W:Nat→Nat→St→Hp→Prop,(∃ m,W 0 m σ H)∧∀ i m σ H,W i m σ H→
      ((Itr lo n).stop i H∧D.nx σ H)∨((Itr lo n).go i H∧∃ N:St→Hp→Prop,(∀ σ' H',N σ' H'→∃ m',m' < m∧W (i+1) m' σ' H')∧∀ x H',(Itr lo n).yld i H x H'→g x σ H' fun σ2 H2=>tb { D with nx:=N,ct:=N,bk:=D.nx } σ2 H2):=by
  refine ⟨fun i m σ H=>m=n - i∧i≤n∧Pv i σ H,⟨n,by simp,Nat.zero_le _,h0⟩,?_⟩
  rintro i m σ H ⟨rfl,hi,p⟩
  by_cases hlt:i < n
  · refine .inr ⟨hlt,Pv (i+1),fun σ' H' p'=>⟨n - (i+1),by omega,rfl,hlt,p'⟩,fun x H' y=>?_⟩
    obtain ⟨e,y⟩:=y
    subst e y
    exact hs i σ _ hlt p
  · have e:i=n:=by omega
    subst e
    exact .inl ⟨Nat.le_refl _,hd σ H p⟩
end L2

namespace L2
open PySem PySem.Spec PyProof.Rows

abbrev R2:=V→V→Hp→VK→Prop
def OpR (X:Cx) (f:Value→Value→Sem Value) (r:R2):Prop:=
  ∀ (pins:List (Addr×Obj)) (s:Shared) (σ:St) (H:Hp) (x y:V) (v u:Value) (Q:VK),Inv X pins σ H s→RelV x v→RelV y u→r x y H Q→
    wpAny (model X.prog X.w) X.A (f v u) (EP X pins σ Q) X.xe s
def UnR (X:Cx) (f:Value→Sem Value) (r:V→Hp→VK→Prop):Prop:=
  ∀ (pins:List (Addr×Obj)) (s:Shared) (σ:St) (H:Hp) (x:V) (v:Value) (Q:VK),Inv X pins σ H s→RelV x v→r x H Q→
    wpAny (model X.prog X.w) X.A (f v) (EP X pins σ Q) X.xe s
def CallR (X:Cx) (f:Value) (r:List V→Hp→VK→Prop):Prop:=
  ∀ (pins:List (Addr×Obj)) (s:Shared) (σ:St) (H:Hp) (xs:List V) (us:List Value) (Q:VK),Inv X pins σ H s→Vals xs us→r xs H Q→
    wpAny (model X.prog X.w) X.A (call f us) (EP X pins σ Q) X.xe s

noncomputable def tOp (r:R2) (ta tb:TE):TE:=fun σ H Q=>ta σ H fun x H1=>tb σ H1 fun y H2=>r x y H2 Q
noncomputable def tUn (r:V→Hp→VK→Prop) (ta:TE):TE:=fun σ H Q=>ta σ H fun x H1=>r x H1 Q
noncomputable def rI (C:Int→Int→Prop) (g:Int→Int→V):R2:=fun x y H Q=>∃ i j,x=.int i∧y=.int j∧C i j∧Q (g i j) H
noncomputable def rI0 (g:Int→Int→V):R2:=fun x y H Q=>∃ i j,x=.int i∧y=.int j∧Q (g i j) H
def rU (g:Int→V):V→Hp→VK→Prop:=fun x H Q=>∃ i,x=.int i∧Q (g i) H

section
variable {X:Cx}{a b c:Expr}{ta tb tc:TE}{pos:Pos}

theorem binT (ha:PE X a ta) (hb:PE X b tb) {pins:List (Addr×Obj)}{s:Shared}{σ:St}{H:Hp}{R:V→V→Hp→Prop} (I:Inv X pins σ H s)
    (h:ta σ H fun x H1=>tb σ H1 fun y H2=>R x y H2) {Q:Value→Shared→Prop}{f:Value→Value→Sem Value}
    (hf:∀ v u s2 x y H2,Inv X pins σ H2 s2→RelV x v→RelV y u→R x y H2→wpAny (model X.prog X.w) X.A (f v u) Q X.xe s2) :
    wpAny (model X.prog X.w) X.A (eval a X.env) (fun v s₁=>wpAny (model X.prog X.w) X.A (eval b X.env) (fun u s₂=>wpAny (model X.prog X.w) X.A (f v u) Q X.xe s₂) X.xe s₁) X.xe s:=by
  refine thn (ha pins s σ H _ I h) fun v s1 ⟨x,H1,I1,r1,q1⟩=>?_
  refine thn (hb pins s1 σ H1 _ I1 q1) fun u s2 ⟨y,H2,I2,r2,q2⟩=>?_
  exact hf v u s2 x y H2 I2 r1 r2 q2

theorem pe_op {op:Operator}{r:R2} (ho:OpR X (binaryOp op) r) (ha:PE X a ta) (hb:PE X b tb):PE X (.BinOp a op b pos) (tOp r ta tb):=by
  intro pins s σ H Q I h
  exact wpAny_BinOp (binT ha hb I h fun v u s2 x y H2 I2 rx ry q=>ho pins s2 σ H2 x y v u Q I2 rx ry q)
theorem pe_un {op:UnaryOp}{r:V→Hp→VK→Prop} (ho:UnR X (unaryOp op) r) (ha:PE X a ta):PE X (.UnaryOp op a pos) (tUn r ta):=by
  intro pins s σ H Q I h
  exact UnaryOp_ (thn (ha pins s σ H _ I h) fun v s1 ⟨x,H1,I1,r1,q1⟩=>ho pins s1 σ H1 x v Q I1 r1 q1)

theorem opI {f:Value→Value→Sem Value}{C:Int→Int→Prop}{g:Int→Int→Int}
    (rule:∀ (i j:Int) (t u:Tok) (s:Shared) (Q:Value→Shared→Prop) (E:Value→Shared→Prop),C i j→Q (.int (g i j) s.toks) { s with toks:=s.toks+1 }→wpAny (model X.prog X.w) X.A (f (.int i t) (.int j u)) Q E s) :
    OpR X f (rI C fun i j=>.int (g i j)):=by
  intro pins s σ H x y v u Q I rx ry h
  obtain ⟨i,j,rfl,rfl,hc,q⟩:=h
  obtain ⟨t,rfl⟩:=rx
  obtain ⟨t',rfl⟩:=ry
  exact rule i j t t' s _ _ hc ⟨.int (g i j),H,I.tok _,⟨_,rfl⟩,q⟩
theorem opI0 {f:Value→Value→Sem Value}{g:Int→Int→Int}
    (rule:∀ (i j:Int) (t u:Tok) (s:Shared) (Q:Value→Shared→Prop) (E:Value→Shared→Prop),Q (.int (g i j) s.toks) { s with toks:=s.toks+1 }→wpAny (model X.prog X.w) X.A (f (.int i t) (.int j u)) Q E s) :
    OpR X f (rI0 fun i j=>.int (g i j)):=by
  intro pins s σ H x y v u Q I rx ry h
  obtain ⟨i,j,rfl,rfl,q⟩:=h
  obtain ⟨t,rfl⟩:=rx
  obtain ⟨t',rfl⟩:=ry
  exact rule i j t t' s _ _ ⟨.int (g i j),H,I.tok _,⟨_,rfl⟩,q⟩
theorem opB0 {f:Value→Value→Sem Value}{g:Int→Int→Bool}
    (rule:∀ (i j:Int) (t u:Tok) (s:Shared) (Q:Value→Shared→Prop) (E:Value→Shared→Prop),Q (.bool (g i j)) s→wpAny (model X.prog X.w) X.A (f (.int i t) (.int j u)) Q E s) :
    OpR X f (rI0 fun i j=>.bl (g i j)):=by
  intro pins s σ H x y v u Q I rx ry h
  obtain ⟨i,j,rfl,rfl,q⟩:=h
  obtain ⟨t,rfl⟩:=rx
  obtain ⟨t',rfl⟩:=ry
  exact rule i j t t' s _ _ ⟨.bl (g i j),H,I,rfl,q⟩

def CDiv (i j:Int):Prop:=0 < j∧j < 1073741824
def CDivN (i j:Int):Prop:=j≠0∧j.natAbs < 1073741824
def CMul (i j:Int):Prop:=(-(2 ^ 64) < i∧i < 2 ^ 64)∨(-(2 ^ 64) < j∧j < 2 ^ 64)
theorem CMul.ok {i j:Int} (h:CMul i j):IntMulOk i j:=by
  rcases h with ⟨h1,h2⟩ | ⟨h1,h2⟩
  · exact .of_left (intBits_le_64 h1 h2)
  · exact .of_right (intBits_le_64 h1 h2)

theorem op_add:OpR X (binaryOp .Add) (rI0 fun i j=>.int (i+j)):=opI0 fun _ _ _ _ _ _ _ q=>add_int q
theorem op_sub:OpR X (binaryOp .Sub) (rI0 fun i j=>.int (i - j)):=opI0 fun _ _ _ _ _ _ _ q=>sub_int q
theorem op_mul:OpR X (binaryOp .Mult) (rI CMul fun i j=>.int (i * j)):=opI fun _ _ _ _ _ _ _ hc q=>mul_int q hc.ok
theorem op_fdiv:OpR X (binaryOp .FloorDiv) (rI CDiv fun i j=>.int (i / j)):=opI fun i j _ _ _ _ _ hc q=>by
  have h1:(0:Int) < j:=hc.1
  have h2:j < 1073741824:=hc.2
  exact floordiv_int (by omega) (by rw [Int.fdiv_eq_ediv_of_nonneg i (by omega)]; exact q) (.inl (PyProof.noPylong_small (by omega)))
theorem op_fdivN:OpR X (binaryOp .FloorDiv) (rI CDivN fun i j=>.int (i.fdiv j)):=opI fun _ _ _ _ _ _ _ hc q=>floordiv_int hc.1 q (.inl (PyProof.noPylong_small hc.2))
theorem op_mod:OpR X (binaryOp .Mod) (rI (fun _ j=>0 < j) fun i j=>.int (i % j)):=opI fun i j _ _ _ _ _ hc q=>by
  have h1:(0:Int) < j:=hc
  exact mod_int' (by omega) (by rw [Int.fmod_eq_emod_of_nonneg i (by omega)]; exact q)
theorem op_modN:OpR X (binaryOp .Mod) (rI (fun _ j=>j≠0) fun i j=>.int (i.fmod j)):=opI fun _ _ _ _ _ _ _ hc q=>mod_int' hc q


theorem unI {f:Value→Sem Value}{g:Int→Int}
    (rule:∀ (i:Int) (t:Tok) (s:Shared) (Q:Value→Shared→Prop) (E:Value→Shared→Prop),Q (.int (g i) s.toks) { s with toks:=s.toks+1 }→wpAny (model X.prog X.w) X.A (f (.int i t)) Q E s) :
    UnR X f (rU fun i=>.int (g i)):=by
  intro pins s σ H x v Q I rx h
  obtain ⟨i,rfl,q⟩:=h
  obtain ⟨t,rfl⟩:=rx
  exact rule i t s _ _ ⟨.int (g i),H,I.tok _,⟨_,rfl⟩,q⟩
theorem un_neg:UnR X (unaryOp .USub) (rU fun i=>.int (-i)):=unI fun _ _ _ _ _ q=>neg_int q

end

noncomputable def scal:V→V→Bool
  | .non,.non=>true | .non,.int _=>true | .int _,.non=>true | .non,.bl _=>true | .bl _,.non=>true | .non,.str _=>true | .str _,.non=>true
  | .int _,.int _=>true | .bl _,.bl _=>true | .str _,.str _=>true | .byt _,.byt _=>true
  | .int _,.str _=>true | .str _,.int _=>true | .bl _,.str _=>true | .str _,.bl _=>true
  | _,_=>false
noncomputable def rEq:R2:=fun x y H Q=>scal x y=true∧Q (.bl (decide (x=y))) H
noncomputable def rNe:R2:=fun x y H Q=>scal x y=true∧Q (.bl (!decide (x=y))) H

theorem dec_int {i j:Int}:decide (V.int i=V.int j)=(i==j):=by
  rw [Bool.eq_iff_iff]
  simp
theorem dec_bl {i j:Bool}:decide (V.bl i=V.bl j)=(i==j):=by
  rw [Bool.eq_iff_iff]
  simp
theorem dec_str {i j:Str}:decide (V.str i=V.str j)=(i==j):=by
  rw [Bool.eq_iff_iff]
  simp
theorem dec_byt {i j:Array UInt8}:decide (V.byt i=V.byt j)=(i.toList==j.toList):=by
  rw [Bool.eq_iff_iff]
  cases i
  cases j
  simp

section
variable {X:Cx}{a b c:Expr}{ta tb tc:TE}{pos:Pos}
theorem fin_bl {pins:List (Addr×Obj)}{σ:St}{H:Hp}{s:Shared}{Q:VK}{k k':Bool} (I:Inv X pins σ H s) (q:Q (.bl k) H) (e:k=k'):EP X pins σ Q (.bool k') s:=by
  subst e
  exact ⟨.bl k,H,I,rfl,q⟩
theorem op_eq:OpR X (compareOp .Eq) rEq:=by
  intro pins s σ H x y v u Q I rx ry h
  obtain ⟨hs,q⟩:=h
  cases x with
  | non=>
    cases rx
    cases y with
    | non=>cases ry; exact PySem.EqNone.eq_none_none (fin_bl I q (by simp))
    | bl j=>cases ry; exact PySem.EqNone.eq_none_bool (fin_bl I q (by simp))
    | int j=>obtain ⟨t',rfl⟩:=ry; exact PySem.EqNone.eq_none_int (fin_bl I q (by simp))
    | str j=>obtain ⟨t',rfl⟩:=ry; exact PySem.EqNone.eq_none_str (fin_bl I q (by simp))
    | _=>exact absurd (show false=true from hs) Bool.false_ne_true
  | bl i=>
    cases rx
    cases y with
    | non=>cases ry; exact PySem.EqNone.eq_bool_none (fin_bl I q (by simp))
    | bl j=>cases ry; exact eq_bool (fin_bl I q dec_bl)
    | str j=>obtain ⟨t',rfl⟩:=ry; exact PySem.EqMixed.eq_bool_str (fin_bl I q (by simp))
    | _=>exact absurd (show false=true from hs) Bool.false_ne_true
  | int i=>
    obtain ⟨t,rfl⟩:=rx
    cases y with
    | non=>cases ry; exact PySem.EqNone.eq_int_none (fin_bl I q (by simp))
    | int j=>obtain ⟨t',rfl⟩:=ry; exact eq_int (fin_bl I q dec_int)
    | str j=>obtain ⟨t',rfl⟩:=ry; exact PySem.EqMixed.eq_int_str (fin_bl I q (by simp))
    | _=>exact absurd (show false=true from hs) Bool.false_ne_true
  | str i=>
    obtain ⟨t,rfl⟩:=rx
    cases y with
    | non=>cases ry; exact PySem.EqNone.eq_str_none (fin_bl I q (by simp))
    | bl j=>cases ry; exact PySem.EqMixed.eq_str_bool (fin_bl I q (by simp))
    | int j=>obtain ⟨t',rfl⟩:=ry; exact PySem.EqMixed.eq_str_int (fin_bl I q (by simp))
    | str j=>obtain ⟨t',rfl⟩:=ry; exact eq_str (fin_bl I q dec_str)
    | _=>exact absurd (show false=true from hs) Bool.false_ne_true
  | byt i=>
    obtain ⟨t,rfl⟩:=rx
    cases y with
    | byt j=>obtain ⟨t',rfl⟩:=ry; exact PySem.W.eq_bytes (fin_bl I q dec_byt)
    | _=>exact absurd (show false=true from hs) Bool.false_ne_true
  | _=>cases y<;>exact absurd (show false=true from hs) Bool.false_ne_true
theorem op_ne:OpR X (compareOp .NotEq) rNe:=by
  intro pins s σ H x y v u Q I rx ry h
  obtain ⟨hs,q⟩:=h
  cases x with
  | non=>
    cases rx
    cases y with
    | non=>cases ry; exact PySem.EqNone.ne_none_none (fin_bl I q (by simp))
    | bl j=>cases ry; exact PySem.EqNone.ne_none_bool (fin_bl I q (by simp))
    | int j=>obtain ⟨t',rfl⟩:=ry; exact PySem.EqNone.ne_none_int (fin_bl I q (by simp))
    | str j=>obtain ⟨t',rfl⟩:=ry; exact PySem.EqNone.ne_none_str (fin_bl I q (by simp))
    | _=>exact absurd (show false=true from hs) Bool.false_ne_true
  | bl i=>
    cases rx
    cases y with
    | non=>cases ry; exact PySem.EqNone.ne_bool_none (fin_bl I q (by simp))
    | bl j=>cases ry; exact ne_bool (fin_bl I q (congrArg not dec_bl))
    | str j=>obtain ⟨t',rfl⟩:=ry; exact PySem.EqMixed.ne_bool_str (fin_bl I q (by simp))
    | _=>exact absurd (show false=true from hs) Bool.false_ne_true
  | int i=>
    obtain ⟨t,rfl⟩:=rx
    cases y with
    | non=>cases ry; exact PySem.EqNone.ne_int_none (fin_bl I q (by simp))
    | int j=>obtain ⟨t',rfl⟩:=ry; exact ne_int (fin_bl I q (congrArg not dec_int))
    | str j=>obtain ⟨t',rfl⟩:=ry; exact PySem.EqMixed.ne_int_str (fin_bl I q (by simp))
    | _=>exact absurd (show false=true from hs) Bool.false_ne_true
  | str i=>
    obtain ⟨t,rfl⟩:=rx
    cases y with
    | non=>cases ry; exact PySem.EqNone.ne_str_none (fin_bl I q (by simp))
    | bl j=>cases ry; exact PySem.EqMixed.ne_str_bool (fin_bl I q (by simp))
    | int j=>obtain ⟨t',rfl⟩:=ry; exact PySem.EqMixed.ne_str_int (fin_bl I q (by simp))
    | str j=>obtain ⟨t',rfl⟩:=ry; exact ne_str (fin_bl I q (congrArg not dec_str))
    | _=>exact absurd (show false=true from hs) Bool.false_ne_true
  | byt i=>
    obtain ⟨t,rfl⟩:=rx
    cases y with
    | byt j=>obtain ⟨t',rfl⟩:=ry; exact PySem.W.ne_bytes (fin_bl I q (congrArg not dec_byt))
    | _=>exact absurd (show false=true from hs) Bool.false_ne_true
  | _=>cases y<;>exact absurd (show false=true from hs) Bool.false_ne_true

theorem op_lt:OpR X (compareOp .Lt) (rI0 fun i j=>.bl (decide (i < j))):=opB0 fun _ _ _ _ _ _ _ q=>lt_int q
theorem op_le:OpR X (compareOp .LtE) (rI0 fun i j=>.bl (decide (i≤j))):=opB0 fun _ _ _ _ _ _ _ q=>le_int q
theorem op_gt:OpR X (compareOp .Gt) (rI0 fun i j=>.bl (decide (j < i))):=opB0 fun _ _ _ _ _ _ _ q=>gt_int q
theorem op_ge:OpR X (compareOp .GtE) (rI0 fun i j=>.bl (decide (j≤i))):=opB0 fun _ _ _ _ _ _ _ q=>ge_int q
theorem op_in_str:OpR X (compareOp .In) (fun x y H Q=>∃ i j,x=.str i∧y=.str j∧Q (.bl (!(Builtin.Str.occurrences j i 0 j.length 1).isEmpty)) H):=by
  intro pins s σ H x y v u Q I rx ry h
  obtain ⟨i,j,rfl,rfl,q⟩:=h
  obtain ⟨t,rfl⟩:=rx
  obtain ⟨t',rfl⟩:=ry
  exact in_str (fin_bl I q rfl)

theorem op_isN:OpR X (compareOp .Is) (fun x y H Q=>y=.non∧Q (.bl (decide (x=.non))) H):=by
  intro pins s σ H x y v u Q I rx ry h
  obtain ⟨rfl,q⟩:=h
  cases ry
  refine is_none_gen (fin_bl I q ?_)
  cases x<;>first
    | (cases rx; rfl)
    | (obtain ⟨t,rfl⟩:=rx; rfl)
theorem op_notN:OpR X (compareOp .IsNot) (fun x y H Q=>y=.non∧Q (.bl (!decide (x=.non))) H):=by
  intro pins s σ H x y v u Q I rx ry h
  obtain ⟨rfl,q⟩:=h
  cases ry
  refine isnot_none_gen (fin_bl I q ?_)
  cases x<;>first
    | (cases rx; rfl)
    | (obtain ⟨t,rfl⟩:=rx; rfl)



theorem pe_cmpR {op:CmpOp}{r:R2} (ho:OpR X (compareOp op) r) (ha:PE X a ta) (hb:PE X b tb) (hm:behindInMarks op b=false):PE X (.Compare a [op] [b] pos) (tOp r ta tb):=by
  intro pins s σ H Q I h
  exact wpAny_Compare1 (binT ha hb I h fun v u s2 x y H2 I2 rx ry q=>ho pins s2 σ H2 x y v u Q I2 rx ry q) hm
noncomputable def tTest (t:TE):TT:=fun σ H Q=>t σ H fun x H'=>∃ k,x=.bl k∧Q k H'
theorem pt_cmpR {op:CmpOp}{r:R2} (ho:OpR X (compareOp op) r) (ha:PE X a ta) (hb:PE X b tb) (hm:behindInMarks op b=false):PT X (.Compare a [op] [b] pos) (tTest (tOp r ta tb)):=by
  intro pins s σ H Q I h
  refine wpAny_isTrue_Compare1 (thn (ha pins s σ H _ I h) fun v s1 ⟨x,H1,I1,r1,q1⟩=>thn (hb pins s1 σ H1 _ I1 q1) fun u s2 ⟨y,H2,I2,r2,q2⟩=>
    thn (ho pins s2 σ H2 x y v u _ I2 r1 r2 q2) fun c s3 ⟨z,H3,I3,r3,k,e,q3⟩=>?_) hm
  subst e
  cases r3
  exact wpAny_truthy_bool ⟨H3,I3,q3⟩

theorem line63:(sizeLine:Nat) < 2 ^ 63:=by rw [sizeLine_eq]; decide

theorem op_add_str:OpR X (binaryOp .Add) (fun x y H Q=>∃ i j,x=.str i∧y=.str j∧i.length+j.length≤sizeLine∧Q (.str (i++j)) H):=by
  intro pins s σ H x y v u Q I rx ry h
  obtain ⟨i,j,rfl,rfl,hz,q⟩:=h
  obtain ⟨t,rfl⟩:=rx
  obtain ⟨t',rfl⟩:=ry
  exact add_str (fun t' tk=>⟨.str (i++j),H,I.tok _,⟨_,rfl⟩,q⟩) hz


theorem vals1 {x:V}{us:List Value} (r:Vals [x] us):∃ u,us=[u]∧RelV x u:=by
  cases r with
  | cons r1 r2=>cases r2; exact ⟨_,rfl,r1⟩
theorem vals2 {x y:V}{us:List Value} (r:Vals [x,y] us):∃ u w',us=[u,w']∧RelV x u∧RelV y w':=by
  cases r with
  | cons r1 r2=>
    cases r2 with
    | cons r3 r4=>cases r4; exact ⟨_,_,rfl,r1,r3⟩
theorem call_max2 (hc:X.calm=true):CallR X (.builtin "max") (fun xs H Q=>∃ i j,xs=[.int i,.int j]∧Q (.int (if j > i then j else i)) H):=by
  intro pins s σ H xs us Q I r h
  obtain ⟨i,j,rfl,q⟩:=h
  obtain ⟨u,w',rfl,⟨t,rfl⟩,⟨t',rfl⟩⟩:=vals2 r
  refine max_two_ints (I.ok.hd hc) fun h' tk k=>⟨_,H,I.kept k,?_,q⟩
  by_cases hj:j > i
  · rw [if_pos hj,if_pos hj]; exact ⟨_,rfl⟩
  · rw [if_neg hj,if_neg hj]; exact ⟨_,rfl⟩
theorem call_min2 (hc:X.calm=true):CallR X (.builtin "min") (fun xs H Q=>∃ i j,xs=[.int i,.int j]∧Q (.int (if j < i then j else i)) H):=by
  intro pins s σ H xs us Q I r h
  obtain ⟨i,j,rfl,q⟩:=h
  obtain ⟨u,w',rfl,⟨t,rfl⟩,⟨t',rfl⟩⟩:=vals2 r
  refine min_two_ints (I.ok.hd hc) fun h' tk k=>⟨_,H,I.kept k,?_,q⟩
  by_cases hj:j < i
  · rw [if_pos hj,if_pos hj]; exact ⟨_,rfl⟩
  · rw [if_neg hj,if_neg hj]; exact ⟨_,rfl⟩
def LenV (K:PySem.W.Frag) (x:V) (H:Hp) (n:Nat):Prop:=
  match x with
  | .str y=>y.length≤sizeLine∧n=y.length
  | .byt y=>y.size≤sizeLine∧n=y.size
  | .ref p=>(∃ xs,SqL K H p xs∧n=xs.length)∨∃ xs,SqT K H p xs∧n=xs.length
  | _=>False
theorem call_len:CallR X (.builtin "len") (fun xs H Q=>∃ x n,xs=[x]∧LenV X.K x H n∧Q (.int n) H):=by
  intro pins s σ H xs us Q I r h
  obtain ⟨x,n,rfl,e,q⟩:=h
  obtain ⟨u,rfl,rx⟩:=vals1 r
  have hl:=line63
  have hs:sizeLine=16777216:=sizeLine_eq
  cases x with
  | str y=>
    obtain ⟨t,rfl⟩:=rx
    obtain ⟨hy,e'⟩:y.length≤sizeLine∧n=y.length:=e
    subst e'
    exact len_str (by omega) ⟨.int _,H,I.tok _,⟨_,rfl⟩,q⟩
  | byt y=>
    obtain ⟨t,rfl⟩:=rx
    obtain ⟨hy,e'⟩:y.size≤sizeLine∧n=y.size:=e
    subst e'
    exact PySem.W.len_bytes (by omega) ⟨.int _,H,I.tok _,⟨_,rfl⟩,q⟩
  | ref p=>
    cases rx
    have e':(∃ xs,SqL X.K H p xs∧n=xs.length)∨∃ xs,SqT X.K H p xs∧n=xs.length:=e
    rcases e' with ⟨xs,hx,e'⟩ | ⟨xs,hx,e'⟩
    · subst e'
      obtain ⟨its,r',pl,hz⟩:=I.list hx
      have hlen:=r'.length
      exact Calls.call_len_list pl.isList (by simp only [List.size_toArray]; omega) ⟨.int xs.length,H,I.tok _,⟨_,by simp only [List.size_toArray]; rw [hlen]⟩,q⟩
    · subst e'
      obtain ⟨its,r',pl,hz⟩:=I.tuple hx
      have hlen:=r'.length
      exact len_tuple pl (by simp only [List.size_toArray]; omega) ⟨.int xs.length,H,I.tok _,⟨_,by simp only [List.size_toArray]; rw [hlen]⟩,q⟩
  | _=>exact (show False from e).elim
end
end L2

namespace L2
open PySem PySem.Spec PyProof.Rows

structure ObjM (h:Heap) (x dx C:Addr) (mA:Str→Option Value):Prop where
  obj:h.get? x=some (PySem.W.instObj C dx)
  ns:h.Ns1 dx mA
  ne:dx≠x

theorem lookIn_ns {h:Heap}{dx:Addr}{mA:Str→Option Value} (n:h.Ns1 dx mA):∃ od,h.get? dx=some od∧∀ name,PySem.W.lookIn name od=some (mA name):=by
  obtain ⟨o,es,ep,ho,hd,hk,_,hm⟩:=n
  refine ⟨o,ho,fun name=>?_⟩
  have e:=hm name
  unfold nsFind findBy at e
  rw [←Array.find?_toList] at e
  unfold PySem.W.lookIn
  rw [hd]
  dsimp only
  split
  · rename_i y q
    rw [q] at e
    exact congrArg some e
  · rename_i q
    rw [q] at e
    have a:es.toList.any (·.refKey)=false:=by
      rw [List.any_eq_false]
      intro y hy
      obtain ⟨z,t,hkey⟩:=hk y (Array.mem_toList_iff.mp hy)
      simp [DictEntry.refKey,hkey]
    have a':¬es.toList.any (·.refKey)=true:=by rw [a]; exact Bool.false_ne_true
    rw [if_neg a']
    exact congrArg some e

theorem ObjM.look {h:Heap}{x dx C:Addr}{mA:Str→Option Value} (I:ObjM h x dx C mA):∃ od,PySem.W.InstAt h x (PySem.W.instObj C dx) C (some od)∧∀ name,PySem.W.lookIn name od=some (mA name):=
  let ⟨od,ho,hl⟩:=lookIn_ns I.ns
  ⟨od,⟨I.obj,rfl,rfl,ho⟩,hl⟩

section
variable {prog:Program}{w:World}{A:Around}{E:Value→Shared→Prop}{s:Shared}{K:PySem.W.Frag}{x dx C f:Addr}{mA:Str→Option Value}{name:Str}{v:Value}





end


theorem RelO.some_of {v:V}{o:Option Value} (r:RelO (some v) o):∃ u,o=some u∧RelV v u:=by
  cases o with
  | none=>exact (show False from r).elim
  | some u=>exact ⟨u,rfl,r⟩
theorem RelO.none_of {o:Option Value} (r:RelO none o):o=none:=by
  cases o with
  | none=>rfl
  | some u=>exact (show False from r).elim
theorem handed_of {v:V}{u:Value} (r:RelV v u):PySem.W.handedIn u=true:=by
  cases v with
  | non=>cases (show u=Value.none from r); rfl
  | bl b=>cases (show u=Value.bool b from r); rfl
  | int i=>obtain ⟨t,e⟩:=(show ∃ t,u=Value.int i t from r); cases e; rfl
  | str x=>obtain ⟨t,e⟩:=(show ∃ t,u=Value.str x t from r); cases e; rfl
  | byt b=>obtain ⟨t,e⟩:=(show ∃ t,u=Value.bytes b t from r); cases e; rfl
  | flt b=>obtain ⟨t,e⟩:=(show ∃ t,u=Value.float b t from r); cases e; rfl
  | ref a=>cases (show u=Value.ref a from r); rfl
  | ty n=>cases (show u=Value.type n from r); rfl

section
variable {P:Program}{w:World}{H H':Hp}{h h':Heap}{a C dx:Addr}{fs fs':List (Str×V)}
theorem ins_get (hok:HOk P w H h) (e:H a=some (.ins C dx fs)):∃ mA,ObjM h a dx C mA∧(∀ f,RelO (fs.lookup f) (mA f))∧PySem.Within mA (fs.map (·.1))∧fs.length≤1000∧H dx=some (.own a):=by
  obtain ⟨d,z,ne,ob,mA,n,r,q⟩:=(show ObjOk P w H h a (.ins C dx fs) from hok a _ e)
  exact ⟨mA,⟨ob,n,ne⟩,r,q,z,d⟩
end

structure Cls (K:PySem.W.Frag) (C:Addr):Prop where
  pg:PySem.W.plainGet K C Str.empty=true
  hd:PySem.W.hasDictIn K C=true
  po:PySem.W.plainOver K C=true
  sa:PySem.W.findIn K (.ref C) "__setattr__"=some (some (.builtin "object.__setattr__"))
theorem Cls.get {K:PySem.W.Frag}{C:Addr} (c:Cls K C) (f:Str):PySem.W.plainGet K C f=true:=c.pg
structure Con (K:PySem.W.Frag) (C:Addr) (f:Str) (v:V) (u:Value):Prop where
  at_:PySem.W.findIn K (.ref C) f=some (some u)
  rel:RelV v u
  get:PySem.W.specialIn K u "__get__"=some none
  cp:PySem.W.copiedNames.contains f=false
structure Meth (K:PySem.W.Frag) (C:Addr) (m:Str) (f:Addr):Prop where
  at_:PySem.W.findIn K (.ref C) m=some (some (.ref f))
  fn:PySem.W.isFn K (.ref f)=true
  kp:PySem.W.keepIn K (.ref f)=true

section
variable {X:Cx}{pins:List (Addr×Obj)}{σ:St}{H:Hp}{s:Shared}{a C dx:Addr}{fs:List (Str×V)}{f:Str}{v:V}{A:Around}{E:Value→Shared→Prop}





theorem Inv.made (I:Inv X pins σ H s):Inv X pins σ (upd (upd H s.heap.objs.size (.own (s.heap.objs.size+1))) (s.heap.objs.size+1) (.ins C s.heap.objs.size []))
    { s with heap:=(s.heap.push PySem.W.emptyDict).push (PySem.W.instObj C s.heap.objs.size) }:=by
  have e1:(s.heap.push PySem.W.emptyDict).get? s.heap.objs.size=some PySem.W.emptyDict:=Heap.get?_push_size s.heap rfl
  have e2:((s.heap.push PySem.W.emptyDict).push (PySem.W.instObj C s.heap.objs.size)).get? (s.heap.objs.size+1)=some (PySem.W.instObj C s.heap.objs.size):=by
    have:=Heap.get?_push_size (s.heap.push PySem.W.emptyDict) (o:=PySem.W.instObj C s.heap.objs.size) rfl
    rwa [Heap.size_push] at this
  have e3:(s.heap.push PySem.W.emptyDict).Ns s.heap.objs.size (fun _=>none):=⟨PySem.W.emptyDict,#[],_,e1,rfl,(fun e he=>absurd he (by simp)),fun _=>rfl⟩
  have I1:=I.laid (a:=s.heap.objs.size) (o:=.own (s.heap.objs.size+1)) (h':=s.heap.push PySem.W.emptyDict) (t':=s.toks) (fun b u q=>Heap.get?_push_of_some _ q) (Nat.le_refl _) ⟨_,e1⟩
  refine I1.laid (a:=s.heap.objs.size+1) (o:=.ins C s.heap.objs.size []) (t':=s.toks) (fun b u q=>Heap.get?_push_of_some _ q) (Nat.le_of_eq (Heap.size_push _ _)) ?_
  have ne:s.heap.objs.size≠s.heap.objs.size+1:=Nat.ne_of_lt (Nat.lt_succ_self _)
  refine ⟨by rw [upd_ne ne,upd_same],Nat.zero_le _,ne,e2,fun _=>none,(Heap.Ns1.of_empty e3).at fun o q=>Heap.get?_push_of_some _ q,fun _=>True.intro,fun y hy=>absurd rfl hy⟩

theorem attr_of {prog:Program}{w:World}{env:Env}{e:Expr}{f:Str}{pos:Pos}{s:Shared}{Q:Value→Shared→Prop} (hb:attributeBase e f env (eval e env)=eval e env)
    (h:wpAny (model prog w) A (eval e env) (fun o s₁=>wpAny (model prog w) A (getAttr o f true) Q E s₁) E s):wpAny (model prog w) A (eval (.Attribute e f pos) env) Q E s:=
  Attribute_any_ h (by rw [arm_eval_Attribute,hb])
end


section
variable {X:Cx}{o e value:Expr}{f:Str}{pos pos' tpos:Pos}{ta tv:TE}

end

section
variable {X:Cx}{pins:List (Addr×Obj)}{σ:St}{H:Hp}{s:Shared}{A:Around}{E:Value→Shared→Prop}{Q:Value→Shared→Prop}{c:Value}{b:Bool}
inductive TyOf (K:PySem.W.Frag) (H:Hp):V→Value→Prop where
  | non:TyOf K H .non (.type "NoneType")
  | bl (x:Bool):TyOf K H (.bl x) (.type "bool")
  | int (i:Int):TyOf K H (.int i) (.type "int")
  | str (x:Str):TyOf K H (.str x) (.type "str")
  | flt (x:UInt64):TyOf K H (.flt x) (.type "float")
  | lst {a:Addr}{xs:List V} (e:H a=some (.lst xs)):TyOf K H (.ref a) (.type "list")
  | frz {a:Addr}{o:Obj}{xs:List V} (e:H a=some (.frz o (.lst xs))):TyOf K H (.ref a) (.type "list")
  | tup {a:Addr}{xs:List V} (e:H a=some (.tup xs)):TyOf K H (.ref a) (.type "tuple")
  | dK {a:Addr}{kvs:List (Key×V)} (e:H a=some (.dK kvs)):TyOf K H (.ref a) (.type "dict")
  | dT {a:Addr}{kvs:List (List Key×V)} (e:H a=some (.dT kvs)):TyOf K H (.ref a) (.type "dict")
  | ins {a C dx:Addr}{fs:List (Str×V)} (e:H a=some (.ins C dx fs)) (cl:Cls K C) (ha:PySem.W.findIn K (.ref C) "__class__"=some (some (.builtin "object.__class__")))
      (hn:PySem.W.specialIn K (.builtin "object.__class__") "__get__"=some (some (.builtin "getset_descriptor.__get__"))) (htk:PySem.W.takesIn K (.builtin "object.__class__")=some true)
      (hm:PySem.W.mroIn K C (.type "object")=some true):TyOf K H (.ref a) (.ref C)
theorem isinst_ok {x:V}{u t:Value} (I:Inv X pins σ H s) (rx:RelV x u) (ty:TyOf X.K H x t) (e:PySem.W.kitOne X.K t c=some b) (h:∀ tk,Q (.bool b) { s with toks:=tk }) :
    wpAny (model X.prog X.w) A (call (.builtin "isinstance") [u,c]) Q E s:=by
  cases ty with
  | non=>cases (show u=Value.none from rx); exact PySem.W.kia_one PySem.W.kitx_none I.kIn True.intro e (fun z=>nomatch z) h
  | bl y=>cases (show u=Value.bool y from rx); exact PySem.W.kia_one PySem.W.kitx_bool I.kIn True.intro e (fun z=>nomatch z) h
  | int i=>obtain ⟨t,q⟩:=(show ∃ t,u=Value.int i t from rx); cases q; exact PySem.W.kia_one PySem.W.kitx_int I.kIn True.intro e (fun z=>nomatch z) h
  | str y=>obtain ⟨t,q⟩:=(show ∃ t,u=Value.str y t from rx); cases q; exact PySem.W.kia_one PySem.W.kitx_str I.kIn True.intro e (fun z=>nomatch z) h
  | flt y=>obtain ⟨t,q⟩:=(show ∃ t,u=Value.float y t from rx); cases q; exact PySem.W.kia_one PySem.W.kitx_float I.kIn True.intro e (fun z=>nomatch z) h
  | @lst a xs ea=>
    cases (show u=Value.ref a from rx)
    obtain ⟨_,_,n,_,h1⟩:=(show ObjOk X.prog X.w H s.heap a (.lst xs) from I.hok a _ ea)
    exact PySem.W.kia_one PySem.W.kitx_list I.kIn ⟨_,h1,rfl⟩ e (fun z=>nomatch z) h
  | @frz a ob xs ea=>
    cases (show u=Value.ref a from rx)
    obtain ⟨_,_,_,n,_,h1⟩:=(show ObjOk X.prog X.w H s.heap a (.frz ob (.lst xs)) from I.hok a _ ea)
    exact PySem.W.kia_one PySem.W.kitx_list I.kIn ⟨_,h1,rfl⟩ e (fun z=>nomatch z) h
  | @tup a xs ea=>
    cases (show u=Value.ref a from rx)
    obtain ⟨_,_,_,p⟩:=(show ObjOk X.prog X.w H s.heap a (.tup xs) from I.hok a _ ea)
    obtain ⟨o,h1,h2,_⟩:=p
    exact PySem.W.kia_one PySem.W.kitx_tuple I.kIn ⟨o,h1,h2⟩ e (fun z=>nomatch z) h
  | @dK a kvs ea=>
    cases (show u=Value.ref a from rx)
    obtain ⟨_,_,vs,_,p⟩:=(show ObjOk X.prog X.w H s.heap a (.dK kvs) from I.hok a _ ea)
    obtain ⟨o,es,ep,h1,h2,_⟩:=p
    exact PySem.W.kia_one PySem.W.kitx_dict I.kIn ⟨o,h1,h2.1⟩ e (fun z=>nomatch z) h
  | @dT a kvs ea=>
    cases (show u=Value.ref a from rx)
    obtain ⟨_,_,xs,_,o,es,ep,h1,h2,_⟩:=(show ObjOk X.prog X.w H s.heap a (.dT kvs) from I.hok a _ ea)
    exact PySem.W.kia_one PySem.W.kitx_dict I.kIn ⟨o,h1,h2.1⟩ e (fun z=>nomatch z) h
  | @ins a C dx fs ea cl ha hn htk hm=>
    cases (show u=Value.ref a from rx)
    obtain ⟨mA,O,_⟩:=ins_get I.hok ea
    obtain ⟨od,J,_⟩:=O.look
    exact PySem.W.kia_one (PySem.W.kitx_own (cl.get _) cl.hd ha hn htk hm) I.kIn J e (fun z=>nomatch z) h
end
end L2

namespace L2
open PySem PySem.Spec PyProof.Rows

structure Room (k:Nat) (A:Around):Prop where
  hd:A.handled=none
  dp:A.depth+3 * k+5 < recursionLimit
  un:A.units+16 * k+200 < cLine
theorem Room.mono {j k:Nat}{A:Around} (r:Room k A) (h:j≤k):Room j A:=⟨r.hd,by have:=r.dp; omega,by have:=r.un; omega⟩
theorem Room.deeper {k:Nat}{A:Around} (r:Room (k+1) A) (env:Env):Room k (A.deeper env):=
  ⟨r.hd,by have:=r.dp; show A.depth+1+3 * k+5 < _; omega,by have:=r.un; show A.units+3+16 * k+200 < _; omega⟩
theorem make_depth {A:Around}{C:Addr}{us:List Value}{kw:List (Str×Value)}:(A.under (.builtin "type.__call__" ⟨.ref C :: us,kw⟩)).depth=A.depth+1:=by
  first | rfl | simp [Around.under,Code.weight,Code.isCreation,Code.isGuard,Code.isCaller,Code.frames,Code.isFrame,guardIds]
theorem make_units {A:Around}{C:Addr}{us:List Value}{kw:List (Str×Value)}:(A.under (.builtin "type.__call__" ⟨.ref C :: us,kw⟩)).units=A.units+1:=by
  first | rfl | simp [Around.under,Code.cUnits,Code.frames,Code.isFrame]
theorem Room.make {k:Nat}{A:Around} (r:Room (k+1) A) (C:Addr) (us:List Value) (kw:List (Str×Value)):Room k (A.under (.builtin "type.__call__" ⟨.ref C :: us,kw⟩)):=
  ⟨r.hd,by have:=r.dp; rw [make_depth]; omega,by have:=r.un; rw [make_units]; omega⟩
theorem Room.depth {k:Nat}{A:Around} (r:Room k A):A.depth < recursionLimit:=by have:=r.dp; omega
theorem Room.units {k:Nat}{A:Around} (r:Room k A):A.units+64 < cLine:=by have:=r.un; omega

noncomputable def tNil:TA:=fun _ H Q=>Q [] H
noncomputable def tCons (ta:TE) (tr:TA):TA:=fun σ H Q=>ta σ H fun x H1=>tr σ H1 fun xs H2=>Q (x :: xs) H2
section
variable {X:Cx}{e:Expr}{es:List Expr}{te:TE}{t:TA}{pos:Pos}
theorem pa_nil:PA X [] tNil:=fun _ _ _ _ H Q I h=>Calls.spliced_nil ⟨[],H,I,.nil,h⟩
theorem pa_cons (ha:PE X e te) (hr:PA X es t) (hs:starEach (e :: es) X.env=(false,eval e X.env) :: starEach es X.env:=by rfl):PA X (e :: es) (tCons te t):=by
  intro pos pins s σ H Q I h
  rw [hs]
  show wpAny _ _ (spliced ((false,eval e X.env) :: backTo pos (starEach es X.env))) _ _ s
  refine Calls.spliced_cons (thn (ha pins s σ H _ I h) fun u s1 ⟨x,H1,I1,r1,q1⟩=>?_)
  exact thn (hr pos pins s1 σ H1 _ I1 q1) fun us s2 ⟨xs,H2,I2,r2,q2⟩=>⟨x :: xs,H2,I2,.cons r1 r2,q2⟩

noncomputable def tTup (t:TA):TE:=fun σ H Q=>t σ H fun xs H1=>xs.length≤sizeLine∧∀ p,H1 p=none→Q (.ref p) (upd H1 p (.tup xs))
noncomputable def tLst (t:TA):TE:=fun σ H Q=>t σ H fun xs H1=>xs.length≤sizeLine∧∀ p,H1 p=none→Q (.ref p) (upd H1 p (.lst xs))
theorem pe_tup {x1} (h:PA X es t):PE X (.Tuple es x1 pos) (tTup t):=by
  intro pins s σ H Q I hq
  refine wpAny_Tuple_spliced (thn (h pos pins s σ H _ I hq) fun us s1 ⟨xs,H1,I1,r,z,q⟩=>⟨by rw [←r.length]; exact z,?_⟩)
  have hf:H1 s1.heap.objs.size=none:=I1.hok.fresh (Nat.le_refl _)
  refine ⟨.ref s1.heap.objs.size,upd H1 s1.heap.objs.size (.tup xs),I1.laid (t':=s1.toks) (fun b u e=>Heap.get?_push_of_some _ e) (Nat.le_refl _) ?_,rfl,q _ hf⟩
  exact ⟨z,us,r,⟨_,Heap.get?_push_size _ rfl,rfl,_,rfl⟩⟩
theorem pe_lst (h:PA X es t):PE X (.List es pos) (tLst t):=by
  intro pins s σ H Q I hq
  refine wpAny_List_spliced (thn (h pos pins s σ H _ I hq) fun us s1 ⟨xs,H1,I1,r,z,q⟩=>⟨by rw [←r.length]; exact z,?_⟩)
  have hf:H1 s1.heap.objs.size=none:=I1.hok.fresh (Nat.le_refl _)
  refine ⟨.ref s1.heap.objs.size,upd H1 s1.heap.objs.size (.lst xs),I1.laid (t':=s1.toks) (fun b u e=>Heap.get?_push_of_some _ e) (Nat.le_refl _) ?_,rfl,q _ hf⟩
  exact ⟨z,us,0,r,Heap.get?_push_size _ rfl⟩
end

abbrev Sp:=List V→Hp→VK→XK→Prop
abbrev CXT:=List Env→Hp→Shared→XK→Value→Shared→Prop

structure Env0 (P:Program) (w:World) (K:PySem.W.Frag) (mg:Str→Option Value) (base:Heap) (A:Around) (outer:List Env) (s:Shared) (H:Hp):Prop where
  frames:A.frames=some outer
  mod:Mod K mg base
  bs:∀ b o,base.get? b=some o→s.heap.get? b=some o∧H b=none
  bsz:base.objs.size≤s.heap.objs.size
  funs:s.heap.FunFrames base outer
  frf:∀ b∈frs outer,H b=none
  hok:HOk P w H s.heap
  bare:AllBare s.gens
def CE (outer:List Env) (P:Program) (w:World) (H:Hp) (s:Shared) (Q:VK) (u:Value) (s':Shared):Prop:=
  ∃ v H',s'.os=s.os∧AllBare s'.gens∧Un (frs outer) [] H H' s.heap s'.heap∧HOk P w H' s'.heap∧RelV v u∧Q v H'
def CR (CX:CXT) (outer:List Env) (P:Program) (w:World) (H:Hp) (s:Shared) (Q:VK) (E:XK) (r:Result) (s':Shared):Prop:=
  match r with
  | .ok (.ret u)=>CE outer P w H s Q u s'
  | .ok _=>False
  | .error e=>CX outer H s E e s'
structure FnOk (P:Program) (w:World) (K:PySem.W.Frag) (mg:Str→Option Value) (base:Heap) (CX:CXT) (k:Nat) (f:Addr) (fd:FuncData) (ps:List Str) (sp:Sp):Prop where
  len:∀ vs H Q E,sp vs H Q E→vs.length=ps.length
  run:∀ (A:Around) (outer:List Env) (s:Shared) (H:Hp) (args:Args) (us:List Value) (vs:List V) (Q:VK) (E:XK),Room k A→Env0 P w K mg base A outer s H→BindsTo s fd args (ps.zip us)→Vals vs us→sp vs H Q E→
    codeAny (model P w) A (.call (.ref f) args) (CR CX outer P w H s Q E) s

theorem Env0.make {P:Program}{w:World}{K:PySem.W.Frag}{mg:Str→Option Value}{base:Heap}{A:Around}{outer:List Env}{s:Shared}{H:Hp} (e:Env0 P w K mg base A outer s H) (C:Addr) (us:List Value) (kw:List (Str×Value)) :
    Env0 P w K mg base (A.under (.builtin "type.__call__" ⟨.ref C :: us,kw⟩)) outer s H:=⟨by first | exact e.frames | (simpa [Around.under,Code.envs,Code.isFrame,pushEnvs] using e.frames),e.mod,e.bs,e.bsz,e.funs,e.frf,e.hok,e.bare⟩

section
variable {X:Cx}{pins:List (Addr×Obj)}{σ:St}{H:Hp}{s s':Shared}
theorem Inv.env0 (I:Inv X pins σ H s):Env0 X.prog X.w X.K X.mg X.base X.A X.stack s H:=
  ⟨I.ok.frames,I.ok.mod,I.bs,Nat.le_trans I.ok.bsz I.sz,I.stack,I.stkFree,I.hok,I.bare⟩
theorem Inv.after {Q:VK}{u:Value} (I:Inv X pins σ H s) (h:CE X.stack X.prog X.w H s Q u s'):EP X pins σ Q u s':=by
  obtain ⟨v,H',os,bare,un,hok,r,q⟩:=h
  obtain ⟨hh,g,d,t,os'⟩:=s'
  obtain rfl:os'=s.os:=os
  exact ⟨v,H',I.call (h':=hh) (g':=g) (d':=d) (t':=t) (ch:=[]) un hok bare (fun b z=>absurd z (by simp)),r,q⟩
end

noncomputable def tCall (sp:Sp) (dvs:List V) (E:XK) (t:TA):TE:=fun σ H Q=>t σ H fun vs H1=>sp (vs++dvs) H1 Q E

def Binds (K:PySem.W.Frag) (fd:FuncData) (ps:List Str) (ds:List Value):Prop:=
  ∀ (s:Shared) (us:List Value),K.In s.heap→(us++ds).length=ps.length→BindsTo s fd ⟨us,[]⟩ (ps.zip (us++ds))
theorem Binds.all {K:PySem.W.Frag}{fd:FuncData}{ps:List Str} (h:∀ us:List Value,us.length=ps.length→bindArgs fd ⟨us,[]⟩=pure (ps.zip us)):Binds K fd ps []:=fun s us _ hl=>by
  rw [List.append_nil] at hl ⊢
  exact .of_eq (h us hl)

def Passes (CX:CXT) (X:Cx) (E:XK):Prop:=∀ (pins:List (Addr×Obj)) (σ:St) (H:Hp) (s:Shared) (e:Value) (s':Shared),Inv X pins σ H s→CX X.stack H s E e s'→X.xe e s'

section
variable {X:Cx}{CX:CXT}{k:Nat}{f C:Addr}{fd:FuncData}{ps:List Str}{sp:Sp}{dvs:List V}{ds:List Value}{E:XK}{x m:Str}{p pos apos:Pos}{e o:Expr}{es:List Expr}{ta:TE}{t:TA}

theorem run_fn {pins:List (Addr×Obj)}{σ:St}{H:Hp}{s:Shared}{Q:VK}{us:List Value}{vs:List V} (F:FnOk X.prog X.w X.K X.mg X.base CX k f fd ps sp) (hr:Room k X.A) (hb:Binds X.K fd ps ds) (hd:Vals dvs ds) (hx:Passes CX X E)
    (I:Inv X pins σ H s) (r:Vals vs us) (h:sp (vs++dvs) H Q E):wpAny (model X.prog X.w) X.A (call (.ref f) us) (EP X pins σ Q) X.xe s:=by
  have r2:Vals (vs++dvs) (us++ds):=r.append hd
  have hl:(us++ds).length=ps.length:=by rw [←r2.length]; exact F.len _ _ _ _ h
  refine wpAny_call (codeAny_mono (F.run X.A X.stack s H ⟨us,[]⟩ (us++ds) (vs++dvs) Q E hr I.env0 (hb s us I.kIn hl) r2 h) fun r s' hq=>?_)
  cases r with
  | error e=>exact hx pins σ H s e s' I hq
  | ok fl=>
    cases fl with
    | ret u=>exact I.after hq
    | next=>exact False.elim hq
    | brk=>exact False.elim hq
    | cont=>exact False.elim hq

theorem pe_call (F:FnOk X.prog X.w X.K X.mg X.base CX k f fd ps sp) (hr:Room k X.A) (hg:Gl X x) (hm:X.mg x=some (.ref f)) (hk:PySem.W.keepIn X.K (.ref f)=true) (hb:Binds X.K fd ps ds) (hd:Vals dvs ds) (hx:Passes CX X E)
    (ha:PA X (e :: es) t) (hdb:(x==("__debug__":Str))=false:=by decide) (he:starEach (e :: es) X.env=(false,eval e X.env) :: starEach es X.env:=by rfl) (hpl:(backTo pos (starEach es X.env)).any (·.1)=false:=by rfl) :
    PE X (.Call (.Name x p) (e :: es) [] pos) (tCall sp dvs E t):=by
  intro pins s σ H Q I h
  refine wpAny_Call_Name_kw (ld_glob I hg hm ?_ hdb)
  refine PySem.W.callWith_K (h₀:=X.base) I.ok.mod.kin hk (thn (ha pos pins s σ H _ I h) fun us s1 ⟨vs,H1,I1,r,q⟩=>⟨I1.kIn,?_⟩) he hpl
  exact run_fn F hr hb hd hx I1 r q
theorem pe_call0 (F:FnOk X.prog X.w X.K X.mg X.base CX k f fd ps sp) (hr:Room k X.A) (hg:Gl X x) (hm:X.mg x=some (.ref f)) (hk:PySem.W.keepIn X.K (.ref f)=true) (hb:Binds X.K fd ps ds) (hd:Vals dvs ds) (hx:Passes CX X E)
    (hdb:(x==("__debug__":Str))=false:=by decide):PE X (.Call (.Name x p) [] [] pos) (tCall sp dvs E tNil):=by
  intro pins s σ H Q I h
  refine wpAny_Call_Name_kw (ld_glob I hg hm ?_ hdb)
  exact PySem.W.callWith_K0 I.kIn hk (run_fn (us:=[]) F hr hb hd hx I .nil h)


structure Mk (K:PySem.W.Frag) (C f:Addr):Prop where
  makes:PySem.W.makesIn K C=true
  init:PySem.W.findIn K (.ref C) "__init__"=some (some (.ref f))
  fn:PySem.W.isFn K (.ref f)=true
  kp:PySem.W.keepIn K (.ref C)=true

end

section
variable {X:Cx}{CX:CXT}{k:Nat}{f C:Addr}{fd:FuncData}{ps ks:List Str}{sp:Sp}{E:XK}{x m:Str}{p pos apos kpos:Pos}{e o:Expr}{es:List Expr}{kws:List Keyword}{te ta:TE}{t tk:TA}{nm:Option Str}

structure KBinds (K:PySem.W.Frag) (fd:FuncData) (ps ks:List Str) (g:List Value→List Value→List Value) (gV:List V→List V→List V):Prop where
  to:∀ (s:Shared) (us ws:List Value),K.In s.heap→(g us ws).length=ps.length→BindsTo s fd ⟨us,ks.zip ws⟩ (ps.zip (g us ws))
  rel:∀ {vs:List V}{us:List Value}{zs:List V}{ws:List Value},Vals vs us→Vals zs ws→Vals (gV vs zs) (g us ws)
variable {g:List Value→List Value→List Value}{gV:List V→List V→List V}
end

structure FnScope (N P:List Str) (sc:Scope):Prop where
  kind:sc.kind=.function
  co:sc.isCoroutine=false
  gen:sc.isGenerator=false
  nd:N.Nodup
  pre:N.take P.length=P
  par:∀ x∈P,sc.names.lookup x=some .local∨sc.names.lookup x=some .cell
  nofree:∀ y∈sc.names,y.2≠.free

theorem bindL_out {kindOf:Str→Option NameKind}{x:Str}:∀ {binds:List (Str×Value)}{m:Str→Option Value},(∀ v,(x,v)∉binds)→bindL kindOf binds m x=m x
  | [],_,_=>rfl
  | (n,v) :: r,m,h=>by
    unfold bindL
    rw [bindL_out fun w hw=>h w (List.mem_cons_of_mem _ hw)]
    split
    · have:x≠n:=by rintro rfl; exact h v List.mem_cons_self
      simp [this]
    · rfl
theorem bindC_out {kindOf:Str→Option NameKind}{x:Str}:∀ {binds:List (Str×Value)}{m:Str→Option Value},(∀ v,(x,v)∉binds)→bindC kindOf binds m x=m x
  | [],_,_=>rfl
  | (n,v) :: r,m,h=>by
    unfold bindC
    rw [bindC_out fun w hw=>h w (List.mem_cons_of_mem _ hw)]
    split
    · rfl
    · have:x≠n:=by rintro rfl; exact h v List.mem_cons_self
      simp [this]
theorem bindL_get {kindOf:Str→Option NameKind}{x:Str}{v:Value}:∀ {P:List Str}{vs:List Value}{i:Nat}{m:Str→Option Value},P.Nodup→P[i]?=some x→vs[i]?=some v→kindOf x=some .local→
    bindL kindOf (P.zip vs) m x=some v
  | [],_,_,_,_,h,_,_=>by simp at h
  | _ :: _,[],_,_,_,_,h,_=>by simp at h
  | p :: P,w :: vs,0,m,nd,h1,h2,hk=>by
    simp at h1 h2; subst h1; subst h2
    show bindL kindOf ((p,w) :: P.zip vs) m p=_
    unfold bindL
    rw [bindL_out fun v hv=>(List.nodup_cons.mp nd).1 (List.of_mem_zip hv).1,if_pos hk]
    simp
  | p :: P,w :: vs,i+1,m,nd,h1,h2,hk=>by
    show bindL kindOf ((p,w) :: P.zip vs) m x=_
    unfold bindL
    exact bindL_get (i:=i) (List.nodup_cons.mp nd).2 (by simpa using h1) (by simpa using h2) hk
theorem bindC_get {kindOf:Str→Option NameKind}{x:Str}{v:Value}:∀ {P:List Str}{vs:List Value}{i:Nat}{m:Str→Option Value},P.Nodup→P[i]?=some x→vs[i]?=some v→kindOf x≠some .local→
    bindC kindOf (P.zip vs) m x=some v
  | [],_,_,_,_,h,_,_=>by simp at h
  | _ :: _,[],_,_,_,_,h,_=>by simp at h
  | p :: P,w :: vs,0,m,nd,h1,h2,hk=>by
    simp at h1 h2; subst h1; subst h2
    show bindC kindOf ((p,w) :: P.zip vs) m p=_
    unfold bindC
    rw [bindC_out fun v hv=>(List.nodup_cons.mp nd).1 (List.of_mem_zip hv).1,if_neg hk]
    simp
  | p :: P,w :: vs,i+1,m,nd,h1,h2,hk=>by
    show bindC kindOf ((p,w) :: P.zip vs) m x=_
    unfold bindC
    exact bindC_get (i:=i) (List.nodup_cons.mp nd).2 (by simpa using h1) (by simpa using h2) hk

noncomputable def start (N:List Str) (vs:List V):St:=vs.map some++List.replicate (N.length - vs.length) none

noncomputable def cxOf (CX:CXT) (P:Program) (w:World) (K:PySem.W.Frag) (mg:Str→Option Value) (base:Heap) (N:List Str) (qual:Str) (scope:Scope) (f:Addr) (cd:Value) (A:Around) (outer:List Env) (s:Shared) (H:Hp) (E:XK):Cx where
  prog:=P
  w:=w
  K:=K
  mg:=mg
  base:=base
  A:=A.deeper (envOfC qual scope s.heap.objs.size f cd)
  N:=N
  s₀:=s
  H₀:=H
  env:=envOfC qual scope s.heap.objs.size f cd
  outer:=outer
  stack:=envOfC qual scope s.heap.objs.size f cd :: outer
  ex:=[]
  calm:=true
  fn:=fun _=>true
  pn:=[]
  xe:=fun e s'=>wpAny (model P w) (A.deeper (envOfC qual scope s.heap.objs.size f cd)) (leaving (envOfC qual scope s.heap.objs.size f cd) e) (fun _ s''=>CX outer H s E e s'') (fun e' s''=>CX outer H s E e' s'') s'

theorem cell_has {sc:Scope}{n:Nat}{x:Str} (h:sc.names.lookup x=some .cell):∃ c,(cellsFrom n sc.names []).lookup x=some c:=by
  have q:=PySem.W.cellsFrom_some sc.names n [] (.inl h)
  exact Option.isSome_iff_exists.mp q

theorem inv_start {CX:CXT}{P:Program}{w:World}{K:PySem.W.Frag}{mg:Str→Option Value}{base:Heap}{N ps:List Str}{qual:Str}{scope:Scope}{f:Addr}{cd:Value}{A:Around}{outer:List Env}{s s1:Shared}{H:Hp}{E:XK}{us:List Value}{vs:List V}
    (S:FnScope N ps scope) (hd:A.handled=none) (e0:Env0 P w K mg base A outer s H) (hl:vs.length=ps.length) (r:Vals vs us)
    (x:InCallC s s.heap.objs.size (bindL (envOfC qual scope s.heap.objs.size f cd).kindOf (ps.zip us) fun _=>none) (cellsFrom (s.heap.objs.size+1) scope.names []) (bindC (envOfC qual scope s.heap.objs.size f cd).kindOf (ps.zip us) fun _=>none) s1) :
    Inv (cxOf CX P w K mg base N qual scope f cd A outer s H E) [] (start N vs) H s1:=by
  have hpl:ps.length≤N.length:=by have:=congrArg List.length S.pre; rw [List.length_take] at this; omega
  obtain ⟨h1,tk,rfl,hk⟩:=x.done
  have noA:∀ b:Addr,b∉(cxOf CX P w K mg base N qual scope f cd A outer s H E).ex:=fun b z=>absurd (show b∈([]:List Addr) from z) (by simp)
  refine ⟨⟨e0.mod,S.kind,rfl,rfl,Nat.le_refl _,fun y z c h1 h2=>?_,fun y hy=>?_,fun y c _ h=>?_,fun _=>hd,Around.frames_deeper e0.frames,.inr ⟨rfl,rfl⟩,fun b z=>absurd z (noA b),e0.bs,e0.bsz,fun b _ _=>noA b,fun b z=>absurd z (noA b),e0.funs,e0.frf⟩,
    rfl,e0.bare,Un.kept hk,⟨_,x.toInCall.ns,fun i y v h1 h2 h3=>?_⟩,fun y c h=>⟨_,x.cell y c h⟩,e0.hok.fresh (Nat.le_refl _),fun y c h=>?_,fun p hp=>absurd (show p∈([]:List (Addr×Obj)) from hp) (by simp),e0.hok.kept hk,?_⟩
  · exact name_of_addr x.apart (PySem.mem_of_lookup h1) (PySem.mem_of_lookup h2)
  · have hy:scope.names.lookup y=some .cell∨scope.names.lookup y=some .free:=hy
    rcases hy with hy | hy
    · exact cell_has hy
    · exact absurd rfl (S.nofree _ (PySem.mem_of_lookup hy))
  · exact Nat.le_of_lt (x.above y c (PySem.mem_of_lookup h))
  · have hi:i < vs.length:=by
      unfold start at h2
      by_cases hi:i < vs.length
      · exact hi
      · rw [List.getElem?_append_right (by simpa using hi)] at h2
        rw [List.getElem?_replicate] at h2
        split at h2<;>cases h2
    have ha:vs[i]?=some v:=by
      unfold start at h2
      rw [List.getElem?_append_left (by simpa using hi),List.getElem?_map] at h2
      cases e:vs[i]? with
      | none=>rw [e] at h2; cases h2
      | some a=>rw [e] at h2; cases h2; rfl
    obtain ⟨u,hu,rv⟩:=r.get ha
    have hp:ps[i]?=some y:=by
      rw [←S.pre,List.getElem?_take_of_lt (by omega)]; exact h1
    have ndP:ps.Nodup:=by rw [←S.pre]; exact S.nd.sublist (List.take_sublist _ _)
    refine ⟨u,rv,?_⟩
    rcases S.par y (List.mem_of_getElem? hp) with k | k
    · exact .inl ⟨k,bindL_get ndP hp hu k⟩
    · obtain ⟨c,e⟩:=cell_has (n:=s.heap.objs.size+1) k
      refine .inr ⟨.inl k,c,e,?_⟩
      have q:=x.cell y c e
      rw [bindC_get ndP hp hu (by show scope.names.lookup y≠_; rw [k]; decide)] at q
      exact q
  · exact e0.hok.fresh (Nat.le_of_lt (x.above y c (PySem.mem_of_lookup h)))
  · unfold start
    show _=N.length
    rw [List.length_append,List.length_map,List.length_replicate]
    omega

theorem fn_of {CX:CXT}{P:Program}{w:World}{K:PySem.W.Frag}{mg:Str→Option Value}{base:Heap}{k:Nat}{f:Addr}{name qual:Str}{params:Arguments}{body:List Stmt}{scope:Scope}{dV kV doc pm cdv ct oc:Value}{an od:Option Addr}
    {osl:Array (Option Value)}{N ps:List Str}{sp:Sp} (lk:K.lookup f=some ⟨oc,od,.func (PySem.W.fnOf name qual params body scope dV kV doc pm an cdv ct),osl⟩) (hcd:PySem.W.codeIn K cdv qual=true) (S:FnScope N ps scope)
    (len:∀ vs H Q E,sp vs H Q E→vs.length=ps.length)
    (hbody:∀ (A:Around) (outer:List Env) (s:Shared) (H:Hp) (vs:List V) (Q:VK) (E:XK),Room k (A.deeper (envOfC qual scope s.heap.objs.size f cdv))→sp vs H Q E→
      ∃ t,PSs (cxOf CX P w K mg base N qual scope f cdv A outer s H E) body t∧t { nx:=fun _ H'=>Q .non H',rt:=Q } (start N vs) H) :
    FnOk P w K mg base CX (k+1) f (PySem.W.fnOf name qual params body scope dV kV doc pm an cdv ct) ps sp:=by
  refine ⟨len,fun A outer s H args us vs Q E hr e0 hb r hsp=>?_⟩
  have hl:=len _ _ _ _ hsp
  have KX:K.In s.heap:=e0.mod.kin.keeps fun b o e=>(e0.bs b o e).1
  have lim:s.heap.NoLimit:=e0.mod.nolimit.keeps fun b o e=>(e0.bs b o e).1
  have hkind:∀ y∈ps.zip us,scope.names.lookup y.1=some .local∨(scope.names.lookup y.1=some .cell∧((cellsFrom (s.heap.objs.size+1) scope.names []).lookup y.1).isSome=true):=fun ⟨n,v⟩ hy=>by
    rcases S.par n (List.of_mem_zip hy).1 with q | q
    · exact .inl q
    · exact .inr ⟨q,PySem.W.cellsFrom_some _ _ _ (.inl q)⟩
  refine codeAny_call_function hr.depth (KX _ _ lk) rfl S.co S.gen rfl (PySem.W.codeRec_of KX hcd) (hb _ _ _ _ ?_)
  refine wpAny_newFunctionEnv_cells S.kind hkind fun env he s1 x=>?_
  subst he
  refine ⟨lim.keeps x.toInCall.keep,codeAny_func ?_⟩
  obtain ⟨t,ht,hq⟩:=hbody A outer s H vs Q E (hr.deeper _) hsp
  have I:Inv (cxOf CX P w K mg base N qual scope f cdv A outer s H E) [] (start N vs) H s1:=inv_start S hr.hd e0 hl r x
  refine wpAny_mono (ht [] s1 (start N vs) H _ I hq) (fun fl s' hs=>?_) fun e s' hs=>hs
  have fin:∀ {σ':St}{H':Hp}{v:V}{u:Value},Inv (cxOf CX P w K mg base N qual scope f cdv A outer s H E) [] σ' H' s'→RelV v u→Q v H'→CE outer P w H s Q u s':=
    fun {σ' H' v u} J rv q=>⟨v,H',J.os,J.bare,J.base,J.hok,rv,q⟩
  cases fl with
  | ret u=>
    obtain ⟨v,σ',H',J,rv,q⟩:=hs
    exact fin J rv q
  | next=>
    obtain ⟨σ',H',J,q⟩:=hs
    exact fin (v:=V.non) (u:=Value.none) J rfl q
  | brk=>
    obtain ⟨_,_,_,q⟩:=hs
    exact False.elim q
  | cont=>
    obtain ⟨_,_,_,q⟩:=hs
    exact False.elim q
end L2

namespace L2
open PySem PySem.Spec PyProof.Rows
section
variable {X:Cx}{x:Str}{p pos:Pos}{e:Expr}{es:List Expr}{t:TA}{id T:String}{r:List V→Hp→VK→Prop}

noncomputable def tCB (r:List V→Hp→VK→Prop) (t:TA):TE:=fun σ H Q=>t σ H fun vs H1=>r vs H1 Q
theorem pe_callB (hc:CallR X (.builtin id) r) (hg:Gl X x) (hm:X.mg x=none) (hv:bootBuiltins x=some (.builtin id)) (ha:PA X (e :: es) t) (hn:x ≠ "__name__":=by decide) (hdb:(x==("__debug__":Str))=false:=by decide)
    (he:starEach (e :: es) X.env=(false,eval e X.env) :: starEach es X.env:=by rfl) (hpl:(backTo pos (starEach es X.env)).any (·.1)=false:=by rfl):PE X (.Call (.Name x p) (e :: es) [] pos) (tCB r t):=by
  intro pins s σ H Q I h
  refine wpAny_Call_Name_kw (ld_blt I hg hm hv ?_ hn hdb)
  exact PyProof.Rows.callWith_builtin1 (thn (ha pos pins s σ H _ I h) fun us s1 ⟨vs,H1,I1,r1,q1⟩=>hc pins s1 σ H1 vs us Q I1 r1 q1) he hpl
theorem pe_callTy (hc:CallR X (.type T) r) (hg:Gl X x) (hm:X.mg x=none) (hv:bootBuiltins x=some (.type T)) (ha:PA X (e :: es) t) (hn:x ≠ "__name__":=by decide) (hdb:(x==("__debug__":Str))=false:=by decide)
    (he:starEach (e :: es) X.env=(false,eval e X.env) :: starEach es X.env:=by rfl) (hpl:(backTo pos (starEach es X.env)).any (·.1)=false:=by rfl):PE X (.Call (.Name x p) (e :: es) [] pos) (tCB r t):=by
  intro pins s σ H Q I h
  refine wpAny_Call_Name_kw (ld_blt I hg hm hv ?_ hn hdb)
  exact PyProof.Rows.callWith_type1 (thn (ha pos pins s σ H _ I h) fun us s1 ⟨vs,H1,I1,r1,q1⟩=>hc pins s1 σ H1 vs us Q I1 r1 q1) he hpl
end
end L2

namespace HT
open PySem PyProof.Rows



section
open PySem.SeqAt
open PySem.AutoSeq1 (wpAny_loadPart')
open PySem.MeetsSeq PySem.MeetsSeq2 PySem.MeetsSeq3

end

section
variable {prog:Program}{w:World}{A:Around}{E:Value→Shared→Prop}{s:Shared}


theorem cat_tup {t b:Addr}{vs ws:List Value}{Q:Value→Shared→Prop} (ht:IsTup s.heap t vs.toArray) (hb:IsTup s.heap b ws.toArray) (hv:vs≠[])
    (h1:ws=[]→Q (.ref t) s) (h2:ws≠[]→Q (.ref s.heap.objs.size) { s with heap:=s.heap.push { cls:=.type "tuple",data:=.seq (vs++ws).toArray } })
    (hsz:vs.length+ws.length≤sizeLine):wpAny (model prog w) A (binaryOp .Add (.ref t) (.ref b)) Q E s:=by
  obtain ⟨⟨cls,dd,data,sl⟩,ho,hc,n,hd⟩:=id ht
  obtain ⟨⟨cls2,dd2,data2,sl2⟩,ho2,hc2,n2,hd2⟩:=id hb
  simp only at hc hd hc2 hd2
  subst hc hd hc2 hd2
  have e:vs.toArray++ws.toArray=(vs++ws).toArray:=by simp
  by_cases hw:ws=[]
  · exact concat_meets ⟨_,ho,rfl⟩ ⟨_,ho2,rfl⟩ noFill_tuple_add seq_tuple_add PySem.F.slot_tuple_add PySem.F.entry_tuple_add (PySem.F.args_tuple_add_2 _ _)
      (tuple_addW1 t b vs.toArray ws.toArray n n2 dd dd2 sl sl2 (by simpa using hv) (by simp [hw])) ⟨ho,ho2,h1 hw⟩
  · refine concat_meets ⟨_,ho,rfl⟩ ⟨_,ho2,rfl⟩ noFill_tuple_add seq_tuple_add PySem.F.slot_tuple_add PySem.F.entry_tuple_add (PySem.F.args_tuple_add_2 _ _)
      (tuple_addW2 t b vs.toArray ws.toArray n n2 dd dd2 sl sl2 (by simpa using hv) (by simpa using hw) (by rw [List.size_toArray,List.size_toArray]; exact hsz)) ⟨ho,ho2,?_⟩
    rw [e]
    exact h2 hw

noncomputable def sIx (n d:Nat):Option Int→Nat
  | none=>d
  | some v=>if v < 0 then (v+(n:Int)).toNat else min v.toNat n
theorem sIx_le (n d:Nat) (hd:d≤n) (o:Option Int):sIx n d o≤n:=by
  cases o with
  | none=>exact hd
  | some v=>
    show (if v < 0 then (v+(n:Int)).toNat else min v.toNat n)≤n
    by_cases hv:v < 0
    · rw [if_pos hv]; omega
    · rw [if_neg hv]; exact Nat.min_le_right _ _
theorem clip_eq (v:Int) (n d:Nat):(if v < 0 then max (v+(n:Int)) 0 else min v (n:Int))=((sIx n d (some v):Nat):Int):=by
  show (if v < 0 then max (v+(n:Int)) 0 else min v (n:Int))=(((if v < 0 then (v+(n:Int)).toNat else min v.toNat n):Nat):Int)
  by_cases hv:v < 0
  · simp only [if_pos hv]; omega
  · simp only [if_neg hv]; omega
theorem adjust_gen (lo hi:Option Int) (n:Nat):Builtin.Slice.sliceAdjust lo hi 1 (n:Int)=(((sIx n 0 lo:Nat):Int),((sIx n n hi:Nat):Int)):=by
  have h1:¬((1:Int) < 0):=by omega
  unfold Builtin.Slice.sliceAdjust
  simp only [h1,if_false]
  refine Prod.ext ?_ ?_
  · cases lo with
    | none=>rfl
    | some v=>exact clip_eq v n 0
  · cases hi with
    | none=>rfl
    | some v=>exact clip_eq v n n
theorem places_gen (i j:Nat):Builtin.Slice.slicePlaces (i:Int) (j:Int) 1=j - i:=by
  unfold Builtin.Slice.slicePlaces
  have h1:(1:Int) > 0:=by omega
  simp only [h1,if_true,Int.ediv_one]
  split<;>omega
theorem slicePart_ {v:Value}{o:Option Int}{Q:Option Int→Shared→Prop} (p:IsPart v o) (h:Q o s):wpAny (model prog w) A (Builtin.Slice.slicePartIndex v) Q E s:=by
  cases p with
  | none=>exact slicePart_none h
  | int i t=>exact slicePart_int h
theorem sliceApplied_gen {sl:Addr}{vl vu:Value}{lo hi:Option Int}{n:Nat}{Q:Int×Int×Nat→Shared→Prop} (hs:s.heap.IsSliceOf sl vl vu .none) (pl:IsPart vl lo) (pu:IsPart vu hi)
    (h:Q (((sIx n 0 lo:Nat):Int),1,sIx n n hi - sIx n 0 lo) s):wpAny (model prog w) A (Builtin.Slice.sliceApplied (.ref sl) (pure (n:Int))) Q E s:=by
  obtain ⟨os,hos,hcs,hds⟩:=id hs
  unfold Builtin.Slice.sliceApplied Builtin.Slice.sliceFields
  refine wpAny_bind (wpAny_bind (wpAny_field hos hds (x:=vl) rfl (wpAny_bind (wpAny_field hos hds (x:=vu) rfl (wpAny_bind (wpAny_field hos hds (x:=.none) rfl (wpAny_pure ?_)))))))
  refine wpAny_bind (slicePart_none ?_)
  show wpAny _ _ (if ((1:Int)==0)=true then _ else _) _ _ s
  rw [if_neg (by decide)]
  refine wpAny_bind (slicePart_ pl (wpAny_bind (slicePart_ pu (wpAny_bind (wpAny_pure ?_)))))
  show wpAny _ _ (match Builtin.Slice.sliceAdjust lo hi 1 (n:Int) with | (lo,hi)=>pure (lo,(1:Int),Builtin.Slice.slicePlaces lo hi 1)) _ _ s
  rw [adjust_gen lo hi n]
  show wpAny _ _ (pure (((sIx n 0 lo:Nat):Int),(1:Int),Builtin.Slice.slicePlaces ((sIx n 0 lo:Nat):Int) ((sIx n n hi:Nat):Int) 1)) _ _ s
  rw [places_gen]
  exact wpAny_pure h
theorem pick_gen (xs:Array Value) (i k:Nat):((List.range k).filterMap fun (m:Nat)=>xs[((i:Int)+(m:Int) * 1).toNat]?).toArray=((xs.toList.drop i).take k).toArray:=by
  have e:(fun (m:Nat)=>xs[((i:Int)+(m:Int) * 1).toNat]?)=fun m=>xs[i+m]?:=by
    funext m
    have:((i:Int)+(m:Int) * 1).toNat=i+m:=by omega
    rw [this]
  rw [e]
  have:=pick_run xs i k
  rw [List.filterMap_map] at this
  have e2:((fun x=>xs[x]?) ∘ fun x=>i+x)=fun m=>xs[i+m]?:=rfl
  rw [e2] at this
  rw [this]

theorem getItem_tuple_cut {t sl:Addr}{items:Array Value}{vl vu:Value}{lo hi:Option Int}{Q:Value→Shared→Prop} (ht:IsTup s.heap t items) (hs:s.heap.IsSliceOf sl vl vu .none) (pl:IsPart vl lo) (pu:IsPart vu hi)
    (hw:¬(sIx items.size 0 lo=0∧sIx items.size items.size hi=items.size))
    (h:Q (.ref s.heap.objs.size) { s with heap:=s.heap.push { cls:=.type "tuple",data:=.seq ((items.toList.drop (sIx items.size 0 lo)).take (sIx items.size items.size hi - sIx items.size 0 lo)).toArray } })
    (hsz:items.size≤sizeLine):wpAny (model prog w) A (getItem (.ref t) (.ref sl)) Q E s:=by
  have htake:sizeOk (.seq ((items.toList.drop (sIx items.size 0 lo)).take (sIx items.size items.size hi - sIx items.size 0 lo)).toArray):=by
    show ((items.toList.drop (sIx items.size 0 lo)).take (sIx items.size items.size hi - sIx items.size 0 lo)).toArray.size≤sizeLine
    rw [List.size_toArray,List.length_take,List.length_drop,Array.length_toList]
    omega
  have hj:sIx items.size items.size hi≤items.size:=sIx_le _ _ (Nat.le_refl _) hi
  obtain ⟨os,hos,hcs,hds⟩:=id hs
  have hTs:s.TypeIs (.ref sl) "slice":=⟨os,hos,hcs⟩
  unfold getItem
  try with_reducible refine wpAny_holding ?_
  first | refine wpAny_bind (wpAny_pure ?_) | skip
  refine wpAny_bind (wpAny_sequenceKey ht.typeIs (by decide) ?_)
  refine wpAny_bind (wpAny_callSpecial?_slot (name:=Str.ofString "__getitem__") ht.typeIs PyProof.Rows.slot_tuple_getitem
    (wpAny_call_entry PyProof.Rows.slot_tuple_getitem ht.typeIs entry_tuple_getitem ?_ (args_tuple_getitem _ _)))
  show wpAny _ _ (Builtin.Tuple.tupleItemsOf (.ref t) >>= _) _ _ s
  refine wpAny_bind (tupleItemsOf_ ht ?_)
  refine wpAny_bind (wpAny_typeOf hTs ?_)
  rw [if_pos (by decide)]
  refine wpAny_bind (sliceApplied_gen hs pl pu ?_)
  have hno:¬((((sIx items.size 0 lo:Nat):Int)==0&&(1:Int)==1&&(sIx items.size items.size hi - sIx items.size 0 lo)==items.size)=true):=by
    intro q
    rw [Bool.and_eq_true,Bool.and_eq_true] at q
    have q1:((sIx items.size 0 lo:Nat):Int)=0:=eq_of_beq q.1.1
    have q2:sIx items.size items.size hi - sIx items.size 0 lo=items.size:=eq_of_beq q.2
    exact hw ⟨by omega,by omega⟩
  show wpAny _ _ (if (((sIx items.size 0 lo:Nat):Int)==0&&(1:Int)==1&&(sIx items.size items.size hi - sIx items.size 0 lo)==items.size)=true then _ else _) _ _ s
  rw [if_neg hno,pick_gen]
  first
    | exact wpAny_bind (m:=Builtin.Tuple.tupleExact _) (wpAny_newObj_type (wpAny_pure ⟨_,rfl,wpAny_pure h⟩) htake)
    | exact wpAny_bind (m:=Builtin.Tuple.tupleExact _) (wpAny_newObj_type (wpAny_bind (wpAny_pure (wpAny_pure ⟨_,rfl,wpAny_pure h⟩))) htake)
    | exact wpAny_bind (wpAny_bind (m:=Builtin.Tuple.tupleExact _) (wpAny_newObj_type (wpAny_pure (wpAny_pure ⟨_,rfl,wpAny_pure h⟩)) htake))
    | exact wpAny_bind (wpAny_bind (m:=Builtin.Tuple.tupleExact _) (wpAny_newObj_type (wpAny_pure ⟨_,rfl,wpAny_pure h⟩) htake))
end
end HT

namespace L2
open PySem PySem.Spec PyProof.Rows

abbrev TO:=St→Hp→(Option Int→Hp→Prop)→Prop
def PO (X:Cx) (e:Option Expr) (t:TO):Prop:=
  ∀ (pins:List (Addr×Obj)) (s:Shared) (σ:St) (H:Hp) (Q:Option Int→Hp→Prop),Inv X pins σ H s→t σ H Q→
    wpAny (model X.prog X.w) X.A (evalPart e X.env) (fun u s'=>∃ o H',Inv X pins σ H' s'∧IsPart u o∧Q o H') X.xe s
noncomputable def tNoPart:TO:=fun _ H Q=>Q none H
noncomputable def tPart (t:TE):TO:=fun σ H Q=>t σ H fun x H1=>∃ i,x=.int i∧Q (some i) H1


section
variable {X:Cx}{e:Expr}{te:TE}{lo hi:Option Expr}{tl th:TO}{pos p2:Pos}

theorem po_none:PO X none tNoPart:=by
  intro pins s σ H Q I h
  rw [evalPart_none]
  exact wpAny_pure ⟨none,H,I,.none,h⟩
theorem po_some (h:PE X e te):PO X (some e) (tPart te):=by
  intro pins s σ H Q I hw
  rw [evalPart_some]
  refine thn (h pins s σ H _ I hw) fun u s1 ⟨x,H1,I1,r1,q1⟩=>?_
  obtain ⟨i,rfl,q⟩:=q1
  obtain ⟨t,rfl⟩:=r1
  exact ⟨some i,H1,I1,.int i t,q⟩

def SlR (X:Cx) (r:V→Option Int→Option Int→Hp→VK→Prop):Prop:=
  ∀ (pins:List (Addr×Obj)) (s:Shared) (σ:St) (H:Hp) (x:V) (v vl vu:Value) (lo hi:Option Int) (sl:Addr) (Q:VK),Inv X pins σ H s→RelV x v→s.heap.IsSliceOf sl vl vu .none→IsPart vl lo→IsPart vu hi→r x lo hi H Q→
    ∃ T id,typeLookup (.type T) "__getitem__"=pure (some (.builtin id))∧s.TypeIs v T∧wpAny (model X.prog X.w) X.A (getItem v (.ref sl)) (EP X pins σ Q) X.xe s
noncomputable def tSl (r:V→Option Int→Option Int→Hp→VK→Prop) (te:TE) (tl th:TO):TE:=fun σ H Q=>te σ H fun x H1=>tl σ H1 fun l H2=>th σ H2 fun u H3=>r x l u H3 Q
theorem pe_slice {r:V→Option Int→Option Int→Hp→VK→Prop} (hr:SlR X r) (he:PE X e te) (hl:PO X lo tl) (hu:PO X hi th):PE X (.Subscript e (.Slice lo hi none p2) pos) (tSl r te tl th):=by
  intro pins s σ H Q I h
  refine Subscript_ (thn (he pins s σ H _ I h) fun v s1 ⟨x,H1,I1,r1,q1⟩=>?_)
  refine wpAny_Slice (thn (hl pins s1 σ H1 _ I1 q1) fun vl s2 ⟨l,H2,I2,pl,q2⟩=>thn (hu pins s2 σ H2 _ I2 q2) fun vu s3 ⟨u,H3,I3,pu,q3⟩=>?_)
  rw [evalPart_none]
  refine wpAny_pure ?_
  have I4:Inv X pins σ H3 { s3 with heap:=s3.heap.push { cls:=.type "slice",data:=.fields #[vl,vu,.none] } }:=I3.kept (t':=s3.toks) fun b ob q=>Heap.get?_push_of_some _ q
  obtain ⟨T,id,hT,ht,hg⟩:=hr pins { s3 with heap:=s3.heap.push { cls:=.type "slice",data:=.fields #[vl,vu,.none] } } σ H3 x v vl vu l u s3.heap.objs.size Q I4 r1 (Heap.IsSliceOf.new ..) pl pu q3
  show wpAny (model X.prog X.w) X.A (subscriptTail e (.Slice lo hi none p2) v (.ref s3.heap.objs.size)) (EP X pins σ Q) X.xe { s3 with heap:=s3.heap.push { cls:=.type "slice",data:=.fields #[vl,vu,.none] } }
  exact tail_any (ops:=[.ref s3.heap.objs.size,v]) ht hT hg (by with_unfolding_all rfl)

noncomputable def cutV (xs:List V) (lo hi:Option Int):List V:=(xs.drop (HT.sIx xs.length 0 lo)).take (HT.sIx xs.length xs.length hi - HT.sIx xs.length 0 lo)
theorem cutV_length (xs:List V) (lo hi:Option Int):(cutV xs lo hi).length≤xs.length:=by
  unfold cutV
  rw [List.length_take,List.length_drop]
  omega
def rSlT (K:PySem.W.Frag):V→Option Int→Option Int→Hp→VK→Prop:=fun x lo hi H Q=>∃ a xs,x=.ref a∧SqT K H a xs ∧
  ¬(HT.sIx xs.length 0 lo=0∧HT.sIx xs.length xs.length hi=xs.length)∧∀ p,H p=none→Q (.ref p) (upd H p (.tup (cutV xs lo hi)))
theorem sl_tup:SlR X (rSlT X.K):=by
  intro pins s σ H x v vl vu lo hi sl Q I rx hs pl pu h
  obtain ⟨a,xs,rfl,hx,hw,q⟩:=h
  cases rx
  obtain ⟨its,r,ht,hz⟩:=I.tuple hx
  have hlen:its.toArray.size=xs.length:=by rw [List.size_toArray]; exact r.length.symm
  refine ⟨"tuple",_,PyProof.Rows.slot_tuple_getitem.lookup,ht.typeIs,?_⟩
  refine HT.getItem_tuple_cut ht hs pl pu (by rw [hlen]; exact hw) ?_ (by rw [hlen]; exact hz)
  rw [hlen]
  refine ⟨.ref s.heap.objs.size,_,I.laid (t':=s.toks) (o:=.tup (cutV xs lo hi)) (fun b ob q=>Heap.get?_push_of_some _ q) (Nat.le_refl _) ?_,rfl,q _ (I.hok.fresh (Nat.le_refl _))⟩
  exact ⟨Nat.le_trans (cutV_length xs lo hi) hz,_,(r.drop (HT.sIx xs.length 0 lo)).take (HT.sIx xs.length xs.length hi - HT.sIx xs.length 0 lo),IsTup.new _ _⟩

noncomputable def rCatT (K:PySem.W.Frag):R2:=fun x y H Q=>∃ a b xs ys,x=.ref a∧y=.ref b∧SqT K H a xs∧SqT K H b ys∧xs≠[]∧xs.length+ys.length≤sizeLine ∧
  (ys=[]→Q (.ref a) H)∧(ys≠[]→∀ p,H p=none→Q (.ref p) (upd H p (.tup (xs++ys))))
theorem Vals.nil_iff {xs:List V}{us:List Value} (r:Vals xs us):us=[]↔xs=[]:=by
  cases r with
  | nil=>simp
  | cons _ _=>simp
theorem op_catT:OpR X (binaryOp .Add) (rCatT X.K):=by
  intro pins s σ H x y v u Q I rx ry h
  obtain ⟨a,b,xs,ys,rfl,rfl,ha,hb,hx,hz,q1,q2⟩:=h
  cases rx
  cases ry
  obtain ⟨its,r1,p1,_⟩:=I.tuple ha
  obtain ⟨its2,r2,p2,_⟩:=I.tuple hb
  refine HT.cat_tup p1 p2 (fun z=>hx (r1.nil_iff.mp z)) (fun z=>⟨.ref a,H,I,rfl,q1 (r2.nil_iff.mp z)⟩) (fun z=>?_) (by rw [←r1.length,←r2.length]; exact hz)
  refine ⟨.ref s.heap.objs.size,_,I.laid (t':=s.toks) (o:=.tup (xs++ys)) (fun b ob q=>Heap.get?_push_of_some _ q) (Nat.le_refl _) ?_,rfl,q2 (fun w=>z (r2.nil_iff.mpr w)) _ (I.hok.fresh (Nat.le_refl _))⟩
  exact ⟨by rw [List.length_append]; exact hz,_,r1.append r2,IsTup.new _ _⟩
end
end L2

namespace L2
open PySem PySem.Spec PyProof.Rows

noncomputable def ixN (n:Nat) (i:Int):Option Nat:=if 0≤i then (if i < n then some i.toNat else none) else if -(n:Int)≤i then some (i+n).toNat else none
noncomputable def atI {α:Type} (xs:List α) (i:Int):Option α:=(ixN xs.length i).bind fun j=>xs[j]?
theorem ixN_seq {n:Nat}{i:Int}{j:Nat} (h:ixN n i=some j):seqIndex? i n=some j∧j < n∧-(n:Int)≤i∧i < n:=by
  unfold ixN at h
  by_cases h0:0≤i
  · rw [if_pos h0] at h
    by_cases h1:i < n
    · rw [if_pos h1] at h
      have e:i.toNat=j:=Option.some.inj h
      exact ⟨by rw [seqIndex_of h0 h1,e],by omega,by omega,h1⟩
    · rw [if_neg h1] at h; cases h
  · rw [if_neg h0] at h
    by_cases h1:-(n:Int)≤i
    · rw [if_pos h1] at h
      have e:(i+n).toNat=j:=Option.some.inj h
      exact ⟨by rw [seqIndex_neg (by omega) h1,e],by omega,h1,by omega⟩
    · rw [if_neg h1] at h; cases h
theorem atI_get {α:Type}{xs:List α}{i:Int}{v:α} (h:atI xs i=some v):∃ j,seqIndex? i xs.length=some j∧xs[j]?=some v∧j < xs.length∧-(xs.length:Int)≤i∧i < xs.length:=by
  unfold atI at h
  cases e:ixN xs.length i with
  | none=>rw [e] at h; cases h
  | some j=>
    rw [e] at h
    obtain ⟨h1,h2,h3,h4⟩:=ixN_seq e
    exact ⟨j,h1,h,h2,h3,h4⟩

def PlainIx (b:Expr):Prop:=∀ o i,subscripted b false o i=operate [o,i] (getItem o i)
def IxR (X:Cx) (r:R2):Prop:=
  ∀ (value slice:Expr) (pins:List (Addr×Obj)) (s:Shared) (σ:St) (H:Hp) (x y:V) (v u:Value) (Q:VK),Inv X pins σ H s→RelV x v→RelV y u→r x y H Q→
    subscripted slice false v u=operate [v,u] (getItem v u)→wpAny (model X.prog X.w) X.A (subscriptTail value slice v u) (EP X pins σ Q) X.xe s
def MtR (X:Cx) (id:String) (r:V→List V→Hp→VK→Prop):Prop:=
  ∀ (pins:List (Addr×Obj)) (s:Shared) (σ:St) (H:Hp) (x:V) (xs:List V) (v:Value) (us:List Value) (Q:VK),Inv X pins σ H s→RelV x v→Vals xs us→r x xs H Q→
    wpAny (model X.prog X.w) X.A (call (.builtin id) (v :: us)) (EP X pins σ Q) X.xe s
section
variable {X:Cx}{a b:Expr}{ta tb:TE}{pos:Pos}
theorem pe_ix {r:R2} (hr:IxR X r) (ha:PE X a ta) (hb:PE X b tb) (hs:PlainIx b):PE X (.Subscript a b pos) (tOp r ta tb):=by
  intro pins s σ H Q I h
  exact Subscript_ (binT ha hb I h fun v u s2 x y H2 I2 rx ry q=>hr a b pins s2 σ H2 x y v u Q I2 rx ry q (hs _ _))

noncomputable def rIxL (K:PySem.W.Frag):R2:=fun x y H Q=>∃ p xs i v,x=.ref p∧y=.int i∧SqL K H p xs∧atI xs i=some v∧Q v H
noncomputable def rIxT (K:PySem.W.Frag):R2:=fun x y H Q=>∃ p xs i v,x=.ref p∧y=.int i∧SqT K H p xs∧atI xs i=some v∧Q v H
noncomputable def rIxS:R2:=fun x y H Q=>∃ z i c,x=.str z∧y=.int i∧z.length≤sizeLine∧atI z.cps.toList i=some c∧Q (.str ⟨#[c]⟩) H
theorem ix_list:IxR X (rIxL X.K):=by
  intro value slice pins s σ H x y v u Q I rx ry h hs
  obtain ⟨p,xs,i,z,rfl,rfl,hq,he,q⟩:=h
  cases rx
  obtain ⟨t,rfl⟩:=ry
  obtain ⟨its,r,pl,hz⟩:=I.list hq
  obtain ⟨j,h1,h2,h3,h4,h5⟩:=atI_get he
  obtain ⟨w,ew,rw'⟩:=r.get h2
  have hl:=r.length
  have hn:=line63
  have fin:EP X pins σ Q w s:=⟨z,H,I,rw',q⟩
  by_cases h0:0≤i
  · have hj:i.toNat=j:=by
      rw [seqIndex_of h0 h5] at h1
      exact Option.some.inj h1
    exact item_listR pl.isList h0 (by omega) (by rw [hj]; simpa using ew) fin hs
  · have hj:(i+(its.toArray.size:Int)).toNat=j:=by
      rw [seqIndex_neg (by omega) h4] at h1
      rw [List.size_toArray,←hl]
      exact Option.some.inj h1
    exact subscriptTail_builtinR (x:=w) pl.isList.typeIs slot_list_getitem.lookup
      (wpAny_getItem_list_neg (Q:=fun r s'=>r=w∧EP X pins σ Q r s') pl.isList (by omega) (by rw [List.size_toArray]<;>omega) (by omega) (by rw [hj]; simpa using ew) ⟨rfl,fin⟩) hs
theorem ix_tup:IxR X (rIxT X.K):=by
  intro value slice pins s σ H x y v u Q I rx ry h hs
  obtain ⟨p,xs,i,z,rfl,rfl,hq,he,q⟩:=h
  cases rx
  obtain ⟨t,rfl⟩:=ry
  obtain ⟨its,r,pl,hz⟩:=I.tuple hq
  obtain ⟨j,h1,h2,h3,h4,h5⟩:=atI_get he
  obtain ⟨w,ew,rw'⟩:=r.get h2
  have hl:=r.length
  have hn:=line63
  have fin:EP X pins σ Q w s:=⟨z,H,I,rw',q⟩
  exact subscriptTail_builtinR (x:=w) pl.typeIs slot_tuple_getitem.lookup
    (getItem_tuple (j:=j) (Q:=fun r s'=>r=w∧EP X pins σ Q r s') pl (by omega) (by omega) (by rw [List.size_toArray,←hl]; exact h1) (by simpa using ew) ⟨rfl,fin⟩) hs
theorem ix_str:IxR X rIxS:=by
  intro value slice pins s σ H x y v u Q I rx ry h hs
  obtain ⟨z,i,c,rfl,rfl,hz,he,q⟩:=h
  obtain ⟨t,rfl⟩:=rx
  obtain ⟨t',rfl⟩:=ry
  obtain ⟨j,h1,h2,h3,h4,h5⟩:=atI_get he
  have hl:z.cps.toList.length=z.length:=by simp [Str.length]
  rw [hl] at h1 h4 h5
  have hn:=line63
  exact tail_any (typeIs_str s z t) slot_str_getitem.lookup (getItem_str (c:=c) (by
    have e1:decide (i < -(2 ^ 63:Int))=false:=decide_eq_false (by omega)
    have e2:decide (i≥2 ^ 63)=false:=decide_eq_false (by omega)
    rw [e1,e2,Bool.or_false]) (by rw [h1]; simpa using h2) ⟨.str ⟨#[c]⟩,H,I.tok _,⟨_,rfl⟩,q⟩) hs

theorem mapSeq_set (its:List Value) (n j:Nat) (u:Value):Obj.mapSeq (·.setIfInBounds j u) { cls:=.type "list",data:=.seq its.toArray n }={ cls:=.type "list",data:=.seq (its.set j u).toArray n }:=by
  simp [Obj.mapSeq]
theorem Inv.lst {pins:List (Addr×Obj)}{σ:St}{H:Hp}{s:Shared}{p:Addr}{xs:List V} (I:Inv X pins σ H s) (h:H p=some (.lst xs)) :
    ∃ (its:List Value) (n:Nat),Vals xs its∧s.heap.get? p=some { cls:=.type "list",data:=.seq its.toArray n }∧xs.length≤sizeLine:=by
  obtain ⟨z,its,n,r,e⟩:=I.hok p _ h
  exact ⟨its,n,r,e,z⟩
theorem Inv.lstUpd {pins:List (Addr×Obj)}{σ:St}{H:Hp}{s:Shared}{p:Addr}{xs ys:List V}{its its':List Value}{n n':Nat}{f:Obj→Obj} (I:Inv X pins σ H s) (h:H p=some (.lst xs))
    (ho:s.heap.get? p=some { cls:=.type "list",data:=.seq its.toArray n }) (hf:f { cls:=.type "list",data:=.seq its.toArray n }={ cls:=.type "list",data:=.seq its'.toArray n' }) (r:Vals ys its') (hz:ys.length≤sizeLine) (t:Nat) :
    Inv X pins σ (upd H p (.lst ys)) { s with heap:=s.heap.update p f,toks:=t }:=by
  have e:(s.heap.update p f).get? p=some { cls:=.type "list",data:=.seq its'.toArray n' }:=by
    rw [Heap.get?_update_self f ho (by rw [hf]<;>rfl),hf]
  refine I.write (x:=p) (e:=p) (by rw [h]; trivial) (.inl rfl) (fun b u hb q=>(Heap.get?_update_other _ _ (Ne.symm hb)).trans q) ⟨_,e⟩ ?_
  exact ⟨hz,its',n',r,e⟩
def rSetL:V→V→V→Hp→(Hp→Prop)→Prop:=fun o i v H Q=>∃ p xs k j,o=.ref p∧i=.int k∧H p=some (.lst xs)∧ixN xs.length k=some j∧Q (upd H p (.lst (xs.set j v)))
theorem set_list:PSet X rSetL:=by
  intro pins s σ H o i v ov iv u Q I ro ri rv h
  obtain ⟨p,xs,k,j,rfl,rfl,hp,hj,q⟩:=h
  cases ro
  obtain ⟨t,rfl⟩:=ri
  obtain ⟨its,n,r,ho,hz⟩:=I.lst hp
  obtain ⟨h1,h2,h3,h4⟩:=ixN_seq hj
  have hl:=r.length
  have hn:=line63
  have I':Inv X pins σ (upd H p (.lst (xs.set j v))) { s with heap:=s.heap.update p (Obj.mapSeq (·.setIfInBounds j u)) }:=
    I.lstUpd hp ho (mapSeq_set its n j u) (r.set rv j) (by rw [List.length_set]; exact hz) s.toks
  by_cases h0:0≤k
  · have hk:k.toNat=j:=by
      rw [seqIndex_of h0 h4] at h1
      exact Option.some.inj h1
    exact PySem.W.ki_setAt ho h0 (by omega) (by rw [List.size_toArray,←hl]; exact h4) (by rw [hk]; exact ⟨_,I',q⟩)
  · have hk:(k+(its.toArray.size:Int)).toNat=j:=by
      rw [seqIndex_neg (by omega) h3] at h1
      rw [List.size_toArray,←hl]
      exact Option.some.inj h1
    exact PySem.W.ki_setBack ho (by omega) (by rw [List.size_toArray,←hl]; exact h3) (by omega) (by rw [hk]; exact ⟨_,I',q⟩)

theorem slice_bounds (lo hi:Option Int) (n:Nat):(sliceBounds lo hi none n).1=((HT.sIx n 0 lo:Nat):Int)∧(sliceBounds lo hi none n).2.1=((HT.sIx n n hi:Nat):Int)∧(sliceBounds lo hi none n).2.2=1:=by
  refine ⟨?_,?_,rfl⟩
  · cases lo with
    | none=>simp [sliceBounds,HT.sIx]
    | some i=>
      simp only [sliceBounds,HT.sIx,Option.getD_none,show (1:Int) > 0 by decide,if_true]
      by_cases h:i < 0
      · simp only [h,if_true]<;>omega
      · simp only [h,if_false]<;>omega
  · cases hi with
    | none=>simp [sliceBounds,HT.sIx]
    | some i=>
      simp only [sliceBounds,HT.sIx,Option.getD_none,show (1:Int) > 0 by decide,if_true]
      by_cases h:i < 0
      · simp only [h,if_true]<;>omega
      · simp only [h,if_false]<;>omega
theorem slicePick_cut (its:List Value) (lo hi:Option Int):slicePick its.toArray lo hi none=((its.drop (HT.sIx its.length 0 lo)).take (HT.sIx its.length its.length hi - HT.sIx its.length 0 lo)).toArray:=by
  obtain ⟨h1,h2,h3⟩:=slice_bounds lo hi its.toArray.size
  unfold slicePick
  rw [h1,h2,h3]
  simp only [sliceRange_one,pick_run,List.size_toArray]<;>rfl
def rSlL (K:PySem.W.Frag):V→Option Int→Option Int→Hp→VK→Prop:=fun x lo hi H Q=>∃ a xs,x=.ref a∧SqL K H a xs∧∀ p,H p=none→Q (.ref p) (upd H p (.lst (cutV xs lo hi)))
theorem sl_list:SlR X (rSlL X.K):=by
  intro pins s σ H x v vl vu lo hi sl Q I rx hs pl pu h
  obtain ⟨a,xs,rfl,hx,q⟩:=h
  cases rx
  obtain ⟨its,r,ht,hz⟩:=I.list hx
  have hlen:=r.length
  refine ⟨"list",_,slot_list_getitem.lookup,ht.isList.typeIs,?_⟩
  refine wpAny_getItem_list_slice ht.isList hs pl pu .none (by simp) ?_ (by rw [List.size_toArray]<;>omega)
  rw [slicePick_cut,←hlen]
  refine ⟨.ref s.heap.objs.size,_,I.laid (t':=s.toks) (o:=.lst (cutV xs lo hi)) (fun b ob q=>Heap.get?_push_of_some _ q) (Nat.le_refl _) ?_,rfl,q _ (I.hok.fresh (Nat.le_refl _))⟩
  exact ⟨Nat.le_trans (cutV_length xs lo hi) hz,_,0,(r.drop (HT.sIx xs.length 0 lo)).take (HT.sIx xs.length xs.length hi - HT.sIx xs.length 0 lo),Heap.get?_push_size _ rfl⟩

noncomputable def flatV:V→Bool
  | .non=>true
  | .bl _=>true
  | .int _=>true
  | .str _=>true
  | _=>false
noncomputable def eqV:V→V→Bool
  | .non,.non=>true
  | .bl a,.bl b=>a==b
  | .bl a,.int b=>(if a then 1 else 0)==b
  | .int a,.bl b=>a==(if b then 1 else 0)
  | .int a,.int b=>a==b
  | .str a,.str b=>a==b
  | _,_=>false
theorem eqAt_V {A:Around}{s:Shared}{y x:V}{u v:Value} (ry:RelV y u) (rx:RelV x v) (fy:flatV y=true) (fx:flatV x=true):SeqAt.EqAt A s u v (eqV y x):=by
  cases y with
  | non=>
    cases ry
    cases x with
    | non=>cases rx; exact SeqAt.EqAt.same _
    | bl b=>cases rx; exact SeqAt.EqAt.none_bool b
    | int b=>obtain ⟨t,rfl⟩:=rx; exact SeqAt.EqAt.none_int b t
    | str b=>obtain ⟨t,rfl⟩:=rx; exact SeqAt.EqAt.none_str b t
    | _=>exact absurd (show false=true from fx) Bool.false_ne_true
  | bl a=>
    cases ry
    cases x with
    | non=>cases rx; exact SeqAt.EqAt.bool_none a
    | bl b=>cases rx; exact SeqAt.EqAt.bool_bool a b
    | int b=>obtain ⟨t,rfl⟩:=rx; exact SeqAt.EqAt.bool_int a b t
    | str b=>obtain ⟨t,rfl⟩:=rx; exact SeqAt.EqAt.bool_str a b t
    | _=>exact absurd (show false=true from fx) Bool.false_ne_true
  | int a=>
    obtain ⟨t',rfl⟩:=ry
    cases x with
    | non=>cases rx; exact SeqAt.EqAt.int_none a t'
    | bl b=>cases rx; exact SeqAt.EqAt.int_bool a t' b
    | int b=>obtain ⟨t,rfl⟩:=rx; exact SeqAt.EqAt.int_int a t' b t
    | str b=>obtain ⟨t,rfl⟩:=rx; exact SeqAt.EqAt.int_str a t' b t
    | _=>exact absurd (show false=true from fx) Bool.false_ne_true
  | str a=>
    obtain ⟨t',rfl⟩:=ry
    cases x with
    | non=>cases rx; exact SeqAt.EqAt.str_none a t'
    | bl b=>cases rx; exact SeqAt.EqAt.str_bool a t' b
    | int b=>obtain ⟨t,rfl⟩:=rx; exact SeqAt.EqAt.str_int a t' b t
    | str b=>obtain ⟨t,rfl⟩:=rx; exact SeqAt.EqAt.str_str a t' b t
    | _=>exact absurd (show false=true from fx) Bool.false_ne_true
  | _=>exact absurd (show false=true from fy) Bool.false_ne_true
noncomputable def eqU (x:V) (u:Value):Bool:=match u with
  | .none=>eqV .non x
  | .bool b=>eqV (.bl b) x
  | .int i _=>eqV (.int i) x
  | .str z _=>eqV (.str z) x
  | _=>false
theorem eqU_of {x y:V}{u:Value} (r:RelV y u) (f:flatV y=true):eqU x u=eqV y x:=by
  cases y with
  | non=>cases r; rfl
  | bl b=>cases r; rfl
  | int i=>obtain ⟨t,rfl⟩:=r; rfl
  | str z=>obtain ⟨t,rfl⟩:=r; rfl
  | _=>exact absurd (show false=true from f) Bool.false_ne_true
theorem any_eqU {x:V}:∀ {xs:List V}{us:List Value},Vals xs us→xs.all flatV=true→us.any (eqU x)=xs.any fun y=>eqV y x
  | _,_,.nil,_=>rfl
  | y :: xs,u :: us,.cons r t,f=>by
    rw [List.all_cons,Bool.and_eq_true] at f
    rw [List.any_cons,List.any_cons,eqU_of r f.1,any_eqU t f.2]
theorem mem_eqAt {A:Around}{s:Shared}{x:V}{v:Value} (rx:RelV x v) (fx:flatV x=true):∀ {xs:List V}{us:List Value},Vals xs us→xs.all flatV=true→∀ u∈us,SeqAt.EqAt A s u v (eqU x u)
  | _,_,.nil,_=>fun u hu=>by cases hu
  | y :: xs,u :: us,.cons r t,f=>fun u' hu=>by
    rw [List.all_cons,Bool.and_eq_true] at f
    rcases List.mem_cons.mp hu with rfl | hu
    · rw [eqU_of r f.1]; exact eqAt_V r rx f.1 fx
    · exact mem_eqAt rx fx t f.2 u' hu
noncomputable def inV (x:V) (xs:List V):Bool:=xs.any fun y=>eqV y x
noncomputable def rIn (K:PySem.W.Frag) (neg:Bool):R2:=fun x y H Q=>∃ p xs,y=.ref p∧(SqL K H p xs∨SqT K H p xs)∧flatV x=true∧xs.all flatV=true∧Q (.bl (if neg then !inV x xs else inV x xs)) H
theorem op_in_seq:OpR X (compareOp .In) (rIn X.K false):=by
  intro pins s σ H x y v u Q I rx ry h
  obtain ⟨p,xs,rfl,hq,fx,fs,q⟩:=h
  cases ry
  rcases hq with hq | hq
  · obtain ⟨its,r,pl,hz⟩:=I.list hq
    refine SeqAt.in_listAt (eqU x) pl.isList (fun w hw=>mem_eqAt rx fx r fs w (by simpa using hw)) ⟨.bl _,H,I,rfl,?_⟩
    rw [show its.toArray.any (eqU x)=its.any (eqU x) by simp,any_eqU r fs]
    exact q
  · obtain ⟨its,r,pl,hz⟩:=I.tuple hq
    refine SeqAt.in_tupleAt (eqU x) pl (fun w hw=>mem_eqAt rx fx r fs w (by simpa using hw)) ⟨.bl _,H,I,rfl,?_⟩
    rw [show its.toArray.any (eqU x)=its.any (eqU x) by simp,any_eqU r fs]
    exact q
theorem op_notIn_seq:OpR X (compareOp .NotIn) (rIn X.K true):=by
  intro pins s σ H x y v u Q I rx ry h
  obtain ⟨p,xs,rfl,hq,fx,fs,q⟩:=h
  cases ry
  rcases hq with hq | hq
  · obtain ⟨its,r,pl,hz⟩:=I.list hq
    refine SeqAt.notIn_listAt (eqU x) pl.isList (fun w hw=>mem_eqAt rx fx r fs w (by simpa using hw)) ⟨.bl _,H,I,rfl,?_⟩
    rw [show its.toArray.any (eqU x)=its.any (eqU x) by simp,any_eqU r fs]
    exact q
  · obtain ⟨its,r,pl,hz⟩:=I.tuple hq
    refine SeqAt.notIn_tupleAt (eqU x) pl (fun w hw=>mem_eqAt rx fx r fs w (by simpa using hw)) ⟨.bl _,H,I,rfl,?_⟩
    rw [show its.toArray.any (eqU x)=its.any (eqU x) by simp,any_eqU r fs]
    exact q
theorem op_notIn_str:OpR X (compareOp .NotIn) (fun x y H Q=>∃ i j,x=.str i∧y=.str j∧Q (.bl (!(!(Builtin.Str.occurrences j i 0 j.length 1).isEmpty))) H):=by
  intro pins s σ H x y v u Q I rx ry h
  obtain ⟨i,j,rfl,rfl,q⟩:=h
  obtain ⟨t,rfl⟩:=rx
  obtain ⟨t',rfl⟩:=ry
  exact notIn_str ⟨.bl _,H,I,rfl,q⟩

theorem call_len_seq:CallR X (.builtin "len") (fun xs H Q=>∃ p ys,xs=[.ref p]∧(SqL X.K H p ys∨SqT X.K H p ys)∧Q (.int ys.length) H):=by
  intro pins s σ H xs us Q I r h
  obtain ⟨p,ys,rfl,hq,q⟩:=h
  obtain ⟨u,rfl,rx⟩:=vals1 r
  cases rx
  have hn:=line63
  rcases hq with hq | hq
  · obtain ⟨its,r',pl,hz⟩:=I.list hq
    have hlen:=r'.length
    exact Calls.call_len_list pl.isList (by simp only [List.size_toArray]<;>omega) ⟨.int ys.length,H,I.tok _,⟨s.toks+1,by rw [List.size_toArray,hlen]⟩,q⟩
  · obtain ⟨its,r',pl,hz⟩:=I.tuple hq
    have hlen:=r'.length
    exact len_tuple pl (by simp only [List.size_toArray]<;>omega) ⟨.int ys.length,H,I.tok _,⟨s.toks+1,by rw [List.size_toArray,hlen]⟩,q⟩
theorem call_list_of:CallR X (.type "list") (fun xs H Q=>∃ p ys,xs=[.ref p]∧(SqL X.K H p ys∨SqT X.K H p ys)∧∀ l,H l=none→Q (.ref l) (upd H l (.lst ys))):=by
  intro pins s σ H xs us Q I r h
  obtain ⟨p,ys,rfl,hq,q⟩:=h
  obtain ⟨u,rfl,rx⟩:=vals1 r
  cases rx
  have fin:∀ (its:List Value),Vals ys its→ys.length≤sizeLine→∀ (h':Heap) (c':Nat),(∀ b o',s.heap.get? b=some o'→h'.get? b=some o')→
      h'.get? s.heap.objs.size=some { cls:=.type "list",dict:=none,data:=.seq its.toArray c',slots:=#[] }→EP X pins σ Q (.ref s.heap.objs.size) { s with heap:=h' }:=fun its r' hz h' c' kp e=>
    ⟨.ref s.heap.objs.size,_,I.laid (t':=s.toks) kp (Nat.le_refl _) (show ObjOk X.prog X.w _ h' _ (.lst ys) from ⟨hz,its,c',r',e⟩),rfl,q _ (I.hok.fresh (Nat.le_refl _))⟩
  rcases hq with hq | hq
  · obtain ⟨its,r',pl,hz⟩:=I.list hq
    have hlen:=r'.length
    obtain ⟨o,ho,hc,n,hd⟩:=pl.isList
    exact call_list_seq p (.inl rfl) ho hc hd (fun h' c' kp e=>fin its r' hz h' c' kp e) (by simp only [List.size_toArray]<;>omega)
  · obtain ⟨its,r',pl,hz⟩:=I.tuple hq
    have hlen:=r'.length
    obtain ⟨o,ho,hc,n,hd⟩:=pl
    exact call_list_seq p (.inr rfl) ho hc hd (fun h' c' kp e=>fin its r' hz h' c' kp e) (by simp only [List.size_toArray]<;>omega)
theorem call_tuple_of:CallR X (.type "tuple") (fun xs H Q=>∃ p ys,xs=[.ref p]∧((SqL X.K H p ys∧∀ l,H l=none→Q (.ref l) (upd H l (.tup ys)))∨(SqT X.K H p ys∧Q (.ref p) H))):=by
  intro pins s σ H xs us Q I r h
  obtain ⟨p,ys,rfl,h⟩:=h
  obtain ⟨u,rfl,rx⟩:=vals1 r
  cases rx
  rcases h with ⟨hq,q⟩ | ⟨hq,q⟩
  · obtain ⟨its,r',pl,hz⟩:=I.list hq
    have hlen:=r'.length
    refine call_tuple_list pl.isList (fun h' kp=>?_) (by simp only [List.size_toArray]<;>omega)
    have I1:Inv X pins σ H { s with heap:=h' }:=I.kept (t':=s.toks) kp
    have I2:Inv X pins σ (upd H h'.objs.size (.tup ys)) { s with heap:=h'.push { cls:=.type "tuple",data:=.seq its.toArray } }:=
      I1.laid (t':=s.toks) (fun b o e=>Heap.get?_push_of_some _ e) (Nat.le_refl _) (show ObjOk X.prog X.w _ _ _ (.tup ys) from ⟨hz,its,r',IsTup.new _ _⟩)
    exact ⟨.ref h'.objs.size,_,I2,rfl,q _ (I1.hok.fresh (Nat.le_refl _))⟩
  · obtain ⟨its,r',pl,hz⟩:=I.tuple hq
    exact call_tuple_same pl ⟨.ref p,H,I,rfl,q⟩

def tyV (K:PySem.W.Frag) (T:String) (x:V) (H:Hp):Prop:=match x with
  | .str _=>T = "str"
  | .int _=>T = "int"
  | .ref p=>(T = "list"∧∃ xs,SqL K H p xs)∨(T = "tuple"∧∃ o,K.lookup p=some o∧o.cls=.type "tuple"∧o.dict=none) ∨
      (T = "dict"∧((∃ kvs,H p=some (.dK kvs))∨∃ kvs,H p=some (.dT kvs)))∨(T = "set"∧∃ S n,H p=some (.set S n))
  | _=>False
theorem tyV_is {pins:List (Addr×Obj)}{σ:St}{H:Hp}{s:Shared}{T:String}{x:V}{v:Value} (I:Inv X pins σ H s) (r:RelV x v) (ty:tyV X.K T x H) :
    s.TypeIs v T∧∀ a,v=.ref a→∃ ob,s.heap.get? a=some ob∧ob.dict=none:=by
  cases x with
  | str z=>
    obtain ⟨t,rfl⟩:=r
    cases (show T = "str" from ty)
    exact ⟨typeIs_str s z t,fun _ e=>nomatch e⟩
  | int i=>
    obtain ⟨t,rfl⟩:=r
    cases (show T = "int" from ty)
    exact ⟨typeIs_int s i t,fun _ e=>nomatch e⟩
  | ref p=>
    cases r
    rcases ty with ⟨rfl,xs,hq⟩ | ⟨rfl,o,hk,hc,hd⟩ | ⟨rfl,hk⟩ | ⟨rfl,S,n,hk⟩
    · obtain ⟨its,_,pl,_⟩:=I.list hq
      refine ⟨pl.isList.typeIs,fun a e=>?_⟩
      cases e
      obtain ⟨o,n,e,c,hd,_⟩:=pl
      exact ⟨o,e,hd⟩
    · refine ⟨⟨o,I.kIn p o hk,hc⟩,fun a e=>?_⟩
      cases e
      exact ⟨o,I.kIn _ o hk,hd⟩
    · have z:∃ o,s.heap.get? p=some o∧o.ExactDict:=by
        rcases hk with ⟨kvs,hk⟩ | ⟨kvs,hk⟩
        · obtain ⟨_,_,_,_,o,_,_,e,ex,_⟩:=I.hok p _ hk
          exact ⟨o,e,ex⟩
        · obtain ⟨_,_,_,_,o,_,_,e,ex,_⟩:=I.hok p _ hk
          exact ⟨o,e,ex⟩
      obtain ⟨o,e,ex⟩:=z
      refine ⟨⟨o,e,ex.1⟩,fun a e2=>?_⟩
      cases e2
      exact ⟨o,e,ex.2.1⟩
    · obtain ⟨o,_,_,_,e,ex,_⟩:=I.hok p _ hk
      refine ⟨⟨o,e,ex.1⟩,fun a e2=>?_⟩
      cases e2
      exact ⟨o,e,ex.2.1⟩
  | _=>exact False.elim ty
noncomputable def tBM (K:PySem.W.Frag) (T:String) (r:V→List V→Hp→VK→Prop) (to:TE) (t:TA):TE:=fun σ H Q=>to σ H fun x H1=>tyV K T x H1∧t σ H1 fun xs H2=>r x xs H2 Q
variable {o e:Expr}{es:List Expr}{to:TE}{t:TA}{name:Str}{apos cpos:Pos}{T id:String}{r:V→List V→Hp→VK→Prop}
theorem pe_bm (pa:PlainAttrs T) (slot:Slot T name id) (hty:typeOf (.builtin id)=pure (.type "method_descriptor")) (hm:MtR X id r) (ho:PE X o to) (ha:PA X (e :: es) t)
    (hbase:attributeBase o name X.env (eval o X.env)=eval o X.env:=by rfl)
    (hfew:((backTo cpos (starEach (e :: es) X.env)).all (fun x=>!x.1)&&(backToKw cpos (keywordEach [] X.env)).all (fun x=>x.1.isSome)
     &&decide ((e :: es).length+([]:List Keyword).length+(if ([]:List Keyword).isEmpty then 0 else 1) < 30))=true:=by rfl)
    (hline:(apos.endLine==cpos.line)=true:=by rfl) (hs:starEach (e :: es) X.env=(false,eval e X.env) :: starEach es X.env:=by rfl) (hplain:(backTo cpos (starEach es X.env)).any (·.1)=false:=by rfl) :
    PE X (.Call (.Attribute o name apos) (e :: es) [] cpos) (tBM X.K T r to t):=by
  intro pins s σ H Q I h
  refine wpAny_Call_method_late hbase hfew hline rfl (thn (ho pins s σ H _ I h) fun v s1 ⟨x,H1,I1,r1,ty,q1⟩=>?_)
  obtain ⟨h1,h2⟩:=tyV_is I1 r1 ty
  refine ⟨T,id,pa,slot,hty,h1,h2,?_⟩
  have hA:=ha cpos pins s1 σ H1 _ I1 q1
  rw [hs] at hA ⊢
  refine Calls.callWith_builtin (by show (false||(backTo cpos (starEach es X.env)).any (·.1))=false; rw [hplain]<;>rfl) (Calls.evalArgs_plain ?_)
  exact thn hA fun us s2 ⟨vs,H2,I2,r2,q2⟩=>hm pins s2 σ H2 x vs v us Q I2 r1 r2 q2
end
end L2

namespace L2
open PySem PySem.Spec PyProof.Rows

def MtM (X:Cx) (id:String) (r:V→List V→Hp→VK→Prop):Prop:=
  ∀ (pins:List (Addr×Obj)) (s:Shared) (σ:St) (H:Hp) (x:V) (xs:List V) (v:Value) (us:List Value) (Q:VK),Inv X pins σ H s→RelV x v→Vals xs us→r x xs H Q→
    wpAny (model X.prog X.w) X.A (call (.builtin id) (v :: us)) (EP X pins σ Q) X.xe s

theorem Vals.one {x:V}{us:List Value} (h:Vals [x] us):∃ u,us=[u]∧RelV x u:=by
  cases h with
  | cons r h=>cases h; exact ⟨_,rfl,r⟩
theorem Vals.two {x y:V}{us:List Value} (h:Vals [x,y] us):∃ u v,us=[u,v]∧RelV x u∧RelV y v:=by
  cases h with
  | cons r h=>cases h with
    | cons q h=>cases h; exact ⟨_,_,rfl,r,q⟩
theorem Vals.rep {xs:List V}{us:List Value} (h:Vals xs us):∀ k:Nat,Vals (List.replicate k xs).flatten (List.replicate k us).flatten
  | 0=>.nil
  | k+1=>by
    rw [List.replicate_succ,List.replicate_succ,List.flatten_cons,List.flatten_cons]
    exact Vals.append h (Vals.rep h k)
theorem foldl_rep (its:List Value):∀ (k:Nat) (acc:List Value),
    List.foldl (fun x1 x2=>x1++x2) acc.toArray (List.replicate k its.toArray)=(acc++(List.replicate k its).flatten).toArray
  | 0,acc=>by simp
  | k+1,acc=>by
    have e:acc.toArray++its.toArray=(acc++its).toArray:=by simp
    have e2:(acc++its)++(List.replicate k its).flatten=acc++(List.replicate (k+1) its).flatten:=by
      rw [List.replicate_succ,List.flatten_cons,List.append_assoc]
    rw [←e2,←foldl_rep its k (acc++its),←e,List.replicate_succ,List.foldl_cons]

section
variable {X:Cx}{pins:List (Addr×Obj)}{σ:St}{H:Hp}{s:Shared}{l b:Addr}{xs ys zs:List V}

theorem Inv.lset {its its':List Value}{n:Nat}{f:Array Value→Array Value}{t':Nat} (I:Inv X pins σ H s) (hH:H l=some (.lst xs))
    (e:s.heap.get? l=some { cls:=.type "list",data:=.seq its.toArray n }) (hf:f its.toArray=its'.toArray) (hv:Vals ys its') (hz:ys.length≤sizeLine) :
    Inv X pins σ (upd H l (.lst ys)) { s with heap:=s.heap.update l (Obj.mapSeq f),toks:=t' }:=by
  have q:=PySem.IsL.update e f
  rw [hf] at q
  refine I.write (x:=l) (e:=l) (by rw [hH]; exact trivial) (.inl rfl) (fun b' u hb hu=>(Heap.get?_update_other s.heap (Obj.mapSeq f) (Ne.symm hb)).trans hu) ⟨_,q⟩ ?_
  exact ⟨hz,its',_,hv,q⟩
theorem Inv.lnew {its:List Value}{t':Nat} (I:Inv X pins σ H s) (hv:Vals ys its) (hz:ys.length≤sizeLine) :
    Inv X pins σ (upd H s.heap.objs.size (.lst ys)) { s with heap:=s.heap.push { cls:=.type "list",data:=.seq its.toArray },toks:=t' }:=
  I.laid (fun _ _ q=>Heap.get?_push_of_some _ q) (Nat.le_refl _) ⟨hz,its,0,hv,Heap.get?_push_size _ rfl⟩
theorem Inv.fresh (I:Inv X pins σ H s):H s.heap.objs.size=none:=I.hok.fresh (Nat.le_refl _)
theorem Inv.lstM (I:Inv X pins σ H s) (hH:H l=some (.lst xs)):xs.length≤sizeLine∧∃ (its:List Value) (n:Nat),Vals xs its∧xs.length=its.length∧s.heap.get? l=some { cls:=.type "list",data:=.seq its.toArray n }:=by
  obtain ⟨z,its,n,r,e⟩:=I.hok l _ hH
  exact ⟨z,its,n,r,r.length,e⟩

theorem notLongL {n:Nat} (h:n≤sizeLine):Builtin.List.listTooLong n=false:=by
  unfold Builtin.List.listTooLong
  exact decide_eq_false (by omega)
end

section
variable {X:Cx}

def rAppend:V→List V→Hp→VK→Prop:=fun x vs H Q=>∃ l xs y,x=.ref l∧vs=[y]∧H l=some (.lst xs)∧xs.length < sizeLine∧Q .non (upd H l (.lst (xs++[y])))
theorem mt_append:MtM X "list.append" rAppend:=by
  intro pins s σ H x vs v us Q I rx rv h
  obtain ⟨l,xs,y,rfl,rfl,hH,hz,q⟩:=h
  cases rx
  obtain ⟨u,rfl,ru⟩:=rv.one
  obtain ⟨z,its,n,r,hl,e⟩:=I.lstM hH
  refine call_meets F.slot_list_append ⟨_,e,rfl⟩ F.entry_list_append (F.args_list_append_2 _ _) (PySem.list_append l its.toArray n u (by rw [List.size_toArray]; omega)) ⟨e,?_⟩
  refine ⟨.non,_,I.lset (its':=its++[u]) hH e (by simp) (r.append (.cons ru .nil)) ?_,rfl,q⟩
  rw [List.length_append,List.length_singleton]
  omega

def rExtend:V→List V→Hp→VK→Prop:=fun x vs H Q=>∃ l b xs zs,x=.ref l∧vs=[.ref b]∧H l=some (.lst xs)∧H b=some (.lst zs)∧xs.length+zs.length≤sizeLine∧Q .non (upd H l (.lst (xs++zs)))
theorem mt_extend:MtM X "list.extend" rExtend:=by
  intro pins s σ H x vs v us Q I rx rv h
  obtain ⟨l,b,xs,zs,rfl,rfl,hH,hB,hz,q⟩:=h
  cases rx
  obtain ⟨u,rfl,ru⟩:=rv.one
  cases ru
  obtain ⟨z,its,n,r,hl,e⟩:=I.lstM hH
  obtain ⟨z2,its2,n2,r2,hl2,e2⟩:=I.lstM hB
  have hsz:its.toArray.size+its2.toArray.size≤sizeLine:=by rw [List.size_toArray,List.size_toArray]; omega
  have hlong:¬(!its.toArray.isEmpty&&Builtin.List.listTooLong (its.toArray.size+its2.toArray.size))=true:=by
    rw [notLongL hsz,Bool.and_false]
    exact Bool.false_ne_true
  refine call_meets F.slot_list_extend ⟨_,e,rfl⟩ F.entry_list_extend (F.args_list_extend_2 _ _)
    (AutoSeq1.list_extend_list_list_0 l its.toArray n b its2.toArray n2 hlong (by rw [List.size_toArray]; omega) (by omega)) ⟨e,e2,?_⟩
  refine ⟨.non,_,I.lset (its':=its++its2) hH e (by simp) (r.append r2) ?_,rfl,q⟩
  rw [List.length_append]
  omega





noncomputable def rRep:R2:=fun x y H Q=>∃ l k xs,x=.ref l∧y=.int k∧H l=some (.lst xs)∧-(2 ^ 63)≤k∧k < 2 ^ 63∧xs.length * k.toNat≤sizeLine ∧
  ∀ p,H p=none→Q (.ref p) (upd H p (.lst (List.replicate k.toNat xs).flatten))
theorem len_rep {α:Type} (xs:List α) (k:Nat):(List.replicate k xs).flatten.length=k * xs.length:=by
  induction k with
  | zero=>simp
  | succ k ih=>rw [List.replicate_succ,List.flatten_cons,List.length_append,ih,Nat.succ_mul,Nat.add_comm]
theorem op_rep:OpR X (binaryOp .Mult) rRep:=by
  intro pins s σ H x y v u Q I rx ry h
  obtain ⟨l,k,xs,rfl,rfl,hH,h1,h2,hz,q⟩:=h
  cases rx
  obtain ⟨t,rfl⟩:=ry
  obtain ⟨z,its,n,r,hl,e⟩:=I.lstM hH
  have hlen:its.toArray.size * k.toNat≤sizeLine:=by rw [List.size_toArray,←hl]; exact hz
  have hcap:¬its.toArray.size * k.toNat > (2 ^ 63 - 1) / 8:=by
    have:(sizeLine:Nat)≤(2 ^ 63 - 1) / 8:=by decide
    omega
  have hfit:¬(!Builtin.List.listFitsIndex k)=true:=by
    rw [fitsIndex_both h1 h2]
    exact Bool.false_ne_true
  have hlong:¬Builtin.List.listTooLong (its.toArray.size * k.toNat)=true:=by
    rw [notLongL hlen]
    exact Bool.false_ne_true
  have hnew:List.foldl (fun x1 x2=>x1++x2) #[] (List.replicate (if its.toArray.isEmpty=true then 0 else k.toNat) its.toArray)=(List.replicate k.toNat its).flatten.toArray:=by
    have f0:∀ m:Nat,List.foldl (fun x1 x2=>x1++x2) #[] (List.replicate m its.toArray)=(List.replicate m its).flatten.toArray:=fun m=>by
      have:=foldl_rep its m []
      rw [List.nil_append] at this
      exact this
    rw [f0]
    cases its with
    | nil=>simp
    | cons a r'=>rw [if_neg (by simp)]
  refine wpAny_binaryOp_repeat_ref (T := "list") (U := "int") (by decide) ⟨_,e,rfl⟩ (fun s'=>typeIs_int s' k t) noFill_list_mul F.fills_int_mul F.slot_int_rmul repeat_list F.slot_int_index.lookup
    (call_meets F.slot_int_rmul (typeIs_int s k t) F.entry_int_rmul (F.args_int_rmul_2 _ _) (int___rmul___int_list k t l its.toArray n)
      ⟨e,rfl,⟨_,e,rfl⟩,call_meets F.slot_list_mul ⟨_,e,rfl⟩ F.entry_list_mul (F.args_list_mul_2 _ _) (AutoListH.list___mul___list_int_3 l its.toArray n k t hfit hcap hlong) ⟨e,?_⟩⟩)
  rw [hnew]
  exact ⟨.ref _,_,I.lnew (t':=s.toks) (r.rep k.toNat) (by rw [len_rep,Nat.mul_comm]; exact hz),rfl,q _ I.fresh⟩

end

section
variable {prog:Program}{w:World}{A:Around}{E:Value→Shared→Prop}{s:Shared}
end

section
variable {X:Cx}
end
end L2

namespace Att
open PySem PySem.W PySem.Calls PyProof.Rows

theorem ints_of_wellAll {P:Params}{h:Heap}:∀ (ns:List Int) (vs:List Value),WellAll P h vs (ns.map WData.int)→IntsAre vs ns:=by
  intro ns
  induction ns with
  | nil=>
    intro vs w
    rw [List.map_nil] at w
    cases w
    exact .nil
  | cons n ns ih=>
    intro vs w
    rw [List.map_cons] at w
    cases w with
    | cons a b=>
      cases a
      exact .cons _ _ (ih _ b)

theorem script_of {l:OpenLaw}{n:Nat} (hn:l.most=some n) {P:Params}{h:Heap}{args:List WData}{vals:List Value}
    (hpre:l.row.toRowW.claim.pre args=true) (hwl:WellAll P h vals args) :
    ∃ a vs ns,vals=[Value.ref a]∧args=[WData.list (ns.map WData.int)]∧h.get? a=some { cls:=.type "list",data:=.seq vs.toArray }∧IntsAre vs ns∧ns.length≤n:=by
  have hsh:WShape.hasAll [] args [.list .int]=true:=(pre_splitW hpre).1
  have hc:l.pre.holds [] { args:=args }=true:=(pre_splitW hpre).2
  obtain ⟨d,r,rfl,h1,h2⟩:=hasAllW_cons hsh
  obtain rfl:=hasAllW_nil h2
  obtain ⟨xs,rfl,h3⟩:=hasW_list h1
  obtain ⟨ns,rfl⟩:=items_int h3
  have hlen:ns.length≤n:=by
    unfold OpenLaw.pre at hc
    have h4:(WTm.not (.lt (.lit (.int (n:Int))) (.len (.arg 0)))).holds [] { args:=[.list (ns.map .int)] }=true:=by
      have h4:=(holds_andW hc).1
      rw [hn] at h4
      exact h4
    have h5:=condW_of h4 (w_not (w_lt w_lit (w_len_list (w_arg rfl))))
    rw [List.length_map] at h5
    refine Nat.le_of_not_lt fun q=>?_
    have q':(n:Int) < ((ns.length:Nat):Int):=by omega
    first
      | (rw [decide_eq_true q'] at h5; exact absurd h5 (by decide))
      | (simp at h5; omega)
  cases hwl with
  | cons w1 w2=>
    cases w2
    cases w1 with
    | list ho hall=>exact ⟨_,_,ns,rfl,rfl,ho,ints_of_wellAll ns _ hall,hlen⟩

theorem post_true (l:OpenLaw) (args:List WData):l.row.toRowW.claim.post args (.bool true) args=true:=
  postW_of (r:=l.row.toRowW) (X:=(true==true))
    (show WShape.has [] (.bool true) .bool=true by first | rfl | decide | simp [WShape.has,WShape.arms,WShape.armsAll])
    (show (WTm.eq .res (.lit (.bool true))).value [] { args:=args,res:=some (.bool true),after:=args }=some (.bool (true==true)) from w_eq_bool (w_res rfl) w_lit) rfl


theorem attach_call {l:OpenLaw}{n:Nat}{q:Program}{loose:List Str}{XP:(Str→Option Value)→Heap→Prop}{YP:World→Heap→Prop}{d:DefRec}
    (hn:l.most=some n) (hdf:d.params.defaults=[])
    (call:∀ (w:World) (s₀ s₁:Shared) (mg mb:Str→Option Value) (fa:Addr) (o:Obj) (pm cd doc:Value) (a:Addr) (vs:List Value) (ns:List Int),
      Ground q loose [] XP w s₀ mg mb s₁.heap→YP w s₁.heap→
      s₁.heap.get? fa=some o→o.data=.func (docDef d.name d.params d.body d.scope pm cd doc)→s₁.heap.CodeRec cd d.name→mg d.name=some (.ref fa)→
      s₁.heap.get? a=some { cls:=.type "list",data:=.seq vs.toArray }→IntsAre vs ns→ns.length≤n→s₁.gens=#[]→
      codeAny (model l.prog w) callerA (.call (.ref fa) ⟨[.ref a],[]⟩) (fun r s'=>r=.ok (.ret (.bool true))∧OldK s₁.heap s'.heap∧s'.os=s₁.os∧AllBare s'.gens) s₁) :
    WalkO q loose XP YP l.row.toRowW d [] (fun f vs=>PySem.call f vs):=by
  intro w s₀ s₁ mg mb G Y fa o pm cd doc dV kV ho hd hcd hD hmg hg args vals as hpre hlay hrd hwl hlo
  obtain rfl:dV=.none:=Dflts.none hD hdf
  obtain rfl:kV=.none:=Dflts.noKw hD
  obtain ⟨a,vs,ns,rfl,rfl,hobj,hints,hlen⟩:=script_of hn hpre hwl
  refine enter_call (codeAny_mono (call w s₀ s₁ mg mb fa o pm cd doc a vs ns G Y ho (fd_plain hd) hcd hmg hobj hints hlen hg) fun r s' hq=>?_)
  obtain ⟨rfl,h2,h3,h4⟩:=hq
  exact ⟨.inl ⟨.bool true,.bool true,[],rfl,fun _=>rfl,.bool true,post_true l _,fun _=>⟨List.Pairwise.nil,fun _ hm=>(nomatch hm)⟩⟩,h2,h3,h4⟩


section
variable {prog:Program}{w:World}{A:Around}{E:Value→Shared→Prop}{s:Shared}{K:Frag}






end
end Att

namespace L2
open PySem PySem.Spec PyProof.Rows

theorem vals_ints:∀ {vs:List Value}{ns:List Int},IntsAre vs ns→Vals (ns.map V.int) vs
  | _,_,.nil=>.nil
  | _,_,.cons n t h=>.cons ⟨t,rfl⟩ (vals_ints h)

def Only (H:Hp):Prop:=∀ b,H b=none∨∃ o xs,H b=some (.frz o (.lst xs))

theorem law_call {P:Program}{w:World}{K:PySem.W.Frag}{mg mb:Str→Option Value}{CX:CXT}{k:Nat}{fa a:Addr}{fd:FuncData}{x:Str}{sp:Sp}{s₁:Shared}{vs:List Value}{ns:List Int}
    (KX:K.In s₁.heap) (hns:s₁.heap.Ns mainGlobals mg) (hb:s₁.heap.Ns builtinsNs mb) (hbb:∀ x:Str,x ≠ "__name__"→mb x=bootBuiltins x) (hlim:s₁.heap.NoLimit) (hg:s₁.gens=#[])
    (ha:s₁.heap.get? a=some { cls:=.type "list",data:=.seq vs.toArray }) (hi:IntsAre vs ns) (hl:ns.length≤sizeLine) (hr:Room k callerA)
    (F:∀ base:Heap,K.In base→base.Ns mainGlobals mg→FnOk P w K mg base CX k fa fd [x] sp) (hbind:∀ (s:Shared) (u:Value),BindsTo s fd ⟨[u],[]⟩ [(x,u)])
    (hsp:∀ H:Hp,Only H→SqL K H a (ns.map V.int)→sp [.ref a] H (fun v _=>v=.bl true) fun _ _ _=>False)
    (hCX:∀ H e s',CX [] H s₁ (fun _ _ _=>False) e s'→False) :
    codeAny (model P w) callerA (.call (.ref fa) ⟨[.ref a],[]⟩) (fun r s'=>r=.ok (.ret (.bool true))∧OldK s₁.heap s'.heap∧s'.os=s₁.os∧AllBare s'.gens) s₁:=by
  have rv:=vals_ints hi
  have lenV:=hi.length
  -- from an abstract heap in which nothing but the script may be tracked
  have core:∀ H:Hp,Only H→SqL K H a (ns.map V.int)→HOk P w H s₁.heap→(∀ b,H b≠none→b=a)→(H a≠none→K.lookup a=none)→
      codeAny (model P w) callerA (.call (.ref fa) ⟨[.ref a],[]⟩) (fun r s'=>r=.ok (.ret (.bool true))∧OldK s₁.heap s'.heap∧s'.os=s₁.os∧AllBare s'.gens) s₁:=by
    intro H hO hS hok hA hK
    have base_of:∀ {b:Addr}{o:Obj},s₁.heap.get? b=some o→H b=none→(hidT s₁.heap H).get? b=some o:=fun e n=>hidT_get e n
    have noA:∀ {b:Addr}{o:Obj}{es:Array DictEntry}{ep:Nat},s₁.heap.get? b=some o→o.data=.dict es ep→H b=none:=fun {b o es ep} e d=>by
      cases q:H b with
      | none=>rfl
      | some u=>
        have e':b=a:=hA b (by rw [q]; simp)
        subst e'
        rw [ha] at e; cases e
        have d':Data.seq vs.toArray _=Data.dict es ep:=d
        cases d'
    have nsK:∀ {b:Addr}{m:Str→Option Value},s₁.heap.Ns b m→(hidT s₁.heap H).Ns b m:=fun {b m} ⟨o,es,ep,e,d,r⟩=>⟨o,es,ep,base_of e (noA e d),d,r⟩
    have hKb:K.In (hidT s₁.heap H):=fun b o e=>base_of (KX b o e) (by
      cases q:H b with
      | none=>rfl
      | some u=>
        have e':b=a:=hA b (by rw [q]; simp)
        subst e'
        rw [hK (by rw [q]; simp)] at e; cases e)
    have hM:Mod K mg (hidT s₁.heap H):=⟨hKb,nsK hns,⟨mb,nsK hb,hbb⟩,let ⟨mc,h1,h2⟩:=hlim; ⟨mc,nsK h1,h2⟩⟩
    have e0:Env0 P w K mg (hidT s₁.heap H) callerA [] s₁ H:=⟨rfl,hM,fun b o e=>of_hidT e,Nat.le_of_eq (hidT_size _ _),trivial,fun b hb=>absurd (show b∈([]:List Addr) from hb) (by simp),hok,.of_eq hg⟩
    refine codeAny_mono ((F _ hKb (nsK hns)).run callerA [] s₁ H ⟨[.ref a],[]⟩ [.ref a] [.ref a] _ _ hr e0 (hbind s₁ (.ref a)) (.cons rfl .nil) (hsp H hO hS)) fun r s' h=>?_
    cases r with
    | error e=>exact (hCX H e s' h).elim
    | ok fl=>
      cases fl with
      | next=>exact False.elim h
      | brk=>exact False.elim h
      | cont=>exact False.elim h
      | ret u=>
        obtain ⟨v,H',os,bare,un,hok',r',q⟩:=h
        have q':v=.bl true:=q
        subst q'
        obtain rfl:u=Value.bool true:=r'
        refine ⟨rfl,OldK.of_keep fun b o e=>?_,os,bare⟩
        cases q:H b with
        | none=>exact un.keep b o e q (by intro z; exact absurd (show b∈([]:List Addr) from z) (by simp)) (by simp)
        | some u=>
          rcases hO b with z | ⟨ob,xs,z⟩
          · rw [q] at z; cases z
          · have z2:=un.frzs b ob _ z
            obtain ⟨e1,_⟩:=hok b _ z
            obtain ⟨e2,_⟩:=hok' b _ z2
            rw [e] at e1; cases e1
            exact e2
  cases hk:K.lookup a with
  | some o=>
    -- the script is one of the module's own objects
    have e:=KX a o hk
    rw [ha] at e
    cases e
    refine core (fun _=>none) (fun _=>.inl rfl) (.inr ⟨_,vs.toArray,_,hk,rfl,rfl,rfl,by rw [List.size_toArray,lenV]; exact hl,by simpa using rv⟩) (fun b u z=>by have z':(none:Option HO)=some u:=z; cases z') (fun b z=>absurd rfl z) fun z=>absurd rfl z
  | none=>
    refine core (fun b=>if b=a then some (.frz { cls:=.type "list",data:=.seq vs.toArray } (.lst (ns.map V.int))) else none) (fun b=>?_) (.inl (.inr ⟨{ cls:=.type "list",data:=.seq vs.toArray },if_pos rfl⟩)) (fun b u z=>?_) (fun b z=>?_) fun _=>hk
    · by_cases hb:b=a
      · exact .inr ⟨_,_,if_pos hb⟩
      · exact .inl (if_neg hb)
    · by_cases hb:b=a
      · have z':=(if_pos hb).symm.trans z
        cases z'
        subst hb
        exact ⟨ha,by rw [List.length_map]; exact hl,vs,_,rv,ha⟩
      · have z':=(if_neg hb).symm.trans z
        cases z'
    · by_cases hb:b=a
      · exact hb
      · exact absurd (if_neg hb) z
end L2

namespace L2
open PySem PySem.Spec PyProof.Rows


theorem walk_of {l:PySem.W.OpenLaw}{n k:Nat}{q:Program}{loose:List Str}{XP:(Str→Option Value)→Heap→Prop}{YP:World→Heap→Prop}{d:DefRec}{K:Params→PySem.W.Frag}{CX:World→CXT}{sp:World→Sp}{x:Str}
    (hn:l.most=some n) (hn2:n≤sizeLine) (hdf:d.params.defaults=[]) (hr:Room k callerA)
    (hY:∀ (w:World) (h:Heap),YP w h→(K w.params).In h)
    (F:∀ (w:World) (mg:Str→Option Value) (fa:Addr) (h:Heap),(K w.params).In h→h.Ns mainGlobals mg→mg d.name=some (.ref fa)→
      ∃ fd:FuncData,(∀ (s:Shared) (u:Value),BindsTo s fd ⟨[u],[]⟩ [(x,u)]) ∧
        ∀ base:Heap,(K w.params).In base→base.Ns mainGlobals mg→FnOk l.prog w (K w.params) mg base (CX w) k fa fd [x] (sp w))
    (hsp:∀ (w:World) (H:Hp) (a:Addr) (ns:List Int),ns.length≤n→Only H→SqL (K w.params) H a (ns.map V.int)→sp w [.ref a] H (fun v _=>v=.bl true) fun _ _ _=>False)
    (hCX:∀ (w:World) (H:Hp) (s:Shared) (e:Value) (s':Shared),CX w [] H s (fun _ _ _=>False) e s'→False) :
    PySem.W.WalkO q loose XP YP l.row.toRowW d [] (fun f vs=>PySem.call f vs):=by
  refine Att.attach_call hn hdf fun w s₀ s₁ mg mb fa o pm cd doc a vs ns G Y ho hd hcd hmg hobj hints hlen hg=>?_
  have KX:=hY w _ Y
  obtain ⟨fd,hb,hF⟩:=F w mg fa _ KX G.T.g hmg
  exact law_call KX G.T.g G.T.b G.T.builtins G.T.nolimit hg hobj hints (Nat.le_trans hlen hn2) hr hF hb (fun H hO hS=>hsp w H a ns hlen hO hS) fun H e s'=>hCX w H s₁ e s'
end L2


namespace L2
open PySem PySem.Spec PyProof.Rows

noncomputable def defArgs (s:Stmt):Arguments:=match s with
  | .FunctionDef _ a _ _ _ _ _ _ _ _=>a
  | _=>{ posonlyargs:=[],args:=[],vararg:=none,kwonlyargs:=[],kw_defaults:=[],kwarg:=none,defaults:=[] }
noncomputable def defBody (s:Stmt):List Stmt:=match s with
  | .FunctionDef _ _ b _ _ _ _ _ _ _=>b
  | _=>[]
noncomputable def defScope (s:Stmt):Scope:=match s with
  | .FunctionDef _ _ _ _ _ _ sc _ _ _=>sc
  | _=>{ kind:=.function,names:=[],isGenerator:=false,isCoroutine:=false }

noncomputable abbrev CX0:CXT:=fun _ _ _ _ _ _=>False
noncomputable abbrev E0:XK:=fun _ _ _=>False
theorem pass0 {X:Cx}:Passes CX0 X E0:=fun _ _ _ _ _ _ _ h=>h.elim

structure Fun (K:PySem.W.Frag) (x qual:Str) (st:Stmt) (f:Addr) (fd:FuncData):Prop where
  ex:∃ (oc:Value) (od:Option Addr) (kV doc pm:Value) (an:Option Addr) (cdv ct:Value) (osl:Array (Option Value)),
    fd=PySem.W.fnOf x qual (defArgs st) (defBody st) (defScope st) .none kV doc pm an cdv ct∧K.lookup f=some ⟨oc,od,.func fd,osl⟩∧PySem.W.codeIn K cdv qual=true
  kp:PySem.W.keepIn K (.ref f)=true
section
variable {P:Program}{w:World}{K:PySem.W.Frag}{mg:Str→Option Value}{base:Heap}
end

section
variable {X:Cx}
end



end L2



namespace L2
open PySem PySem.Spec PyProof.Rows
section
variable {κ:Type} [DecidableEq κ]
noncomputable def valV (kvs:List (κ×V)) (k:κ):Option V:=(kvs.find? fun kv=>decide (kv.1=k)).map (·.2)
noncomputable def putK (kvs:List (κ×V)) (k:κ) (v:V):List (κ×V):=
 if (kvs.any fun kv=>decide (kv.1=k))=true then kvs.map (fun kv=>if kv.1=k then (kv.1,v) else kv) else kvs++[(k,v)]
theorem valV_pos {p:κ×V}{r:List (κ×V)}{k:κ} (e:p.1=k):valV (p :: r) k=some p.2:=by simp [valV,List.find?_cons,e]
theorem valV_neg {p:κ×V}{r:List (κ×V)}{k:κ} (e:¬p.1=k):valV (p :: r) k=valV r k:=by simp [valV,List.find?_cons,e]
theorem RelO.isSome_eq {o:Option V}{u:Option Value} (r:RelO o u):o.isSome=u.isSome:=by
 cases o with
 | none=>cases u with
  | none=>rfl
  | some _=>exact (show False from r).elim
 | some _=>cases u with
  | none=>exact (show False from r).elim
  | some _=>rfl
theorem KV.val {kvs:List (κ×V)}{vs:List (κ×Value)} (r:KV kvs vs) (k:κ):RelO (valV kvs k) (valueAt vs k):=by
 unfold KV at r
 induction r with
 | nil=>exact True.intro
 | @cons p q ps qs h t ih=>
  obtain ⟨h1,h2⟩:=h
  by_cases e:p.1=k
  ·have e':q.1=k:=h1.symm.trans e
   have b:valueAt (q :: qs) k=some q.2:=by simp [valueAt,List.find?_cons,e']
   rw [valV_pos e,b]; exact h2
  ·have e':¬q.1=k:=fun z=>e (h1.trans z)
   have b:valueAt (q :: qs) k=valueAt qs k:=by simp [valueAt,List.find?_cons,e']
   rw [valV_neg e,b]; exact ih
theorem KV.any {kvs:List (κ×V)}{vs:List (κ×Value)} (r:KV kvs vs) (k:κ):(kvs.any fun kv=>decide (kv.1=k))=vs.any fun kv=>decide (kv.1=k):=by
 unfold KV at r
 induction r with
 | nil=>rfl
 | cons h t ih=>rw [List.any_cons,List.any_cons,ih,h.1]
theorem KV.repl {kvs:List (κ×V)}{vs:List (κ×Value)} (r:KV kvs vs) (k:κ) {y:V}{u:Value} (ry:RelV y u) :
  KV (kvs.map fun kv=>if kv.1=k then (kv.1,y) else kv) (vs.map fun kv=>if kv.1=k then (kv.1,u) else kv):=by
 unfold KV at r ⊢
 induction r with
 | nil=>exact .nil
 | @cons p q ps qs h t ih=>
  rw [List.map_cons,List.map_cons]
  refine .cons ?_ ih
  obtain ⟨h1,h2⟩:=h
  by_cases e:p.1=k
  ·rw [if_pos e,if_pos (h1.symm.trans e)]; exact ⟨h1,ry⟩
  ·rw [if_neg e,if_neg (fun z=>e (h1.trans z))]; exact ⟨h1,h2⟩
theorem KV.put {kvs:List (κ×V)}{vs:List (κ×Value)} (r:KV kvs vs) (k:κ) {y:V}{u:Value} (ry:RelV y u):KV (putK kvs k y) (stored vs k u):=by
 unfold putK stored
 rw [r.any k]
 by_cases e:(vs.any fun kv=>decide (kv.1=k))=true
 ·rw [if_pos e,if_pos e]; exact r.repl k ry
 ·rw [if_neg e,if_neg e]; exact Paired.snoc r ⟨rfl,ry⟩
end
theorem kV_is {P:Program}{w:World}{k:Key}{u:Value} (r:RelV (kV k) u):(mixKind P w).is k u=true:=by
 cases k with
 | inl i=>obtain ⟨t,e⟩:=(show ∃ t,u=Value.int i t from r); subst e; exact mixKind_int P w i t
 | inr x=>obtain ⟨t,e⟩:=(show ∃ t,u=Value.str x t from r); subst e; exact mixKind_str P w x t
section
variable {P:Program}{w:World}{H:Hp}{h:Heap}{a:Addr}
theorem rd_of {u:HO} (ok:HOk P w H h) (e:Rd H a u):ObjOk P w H h a u:=e.ok ok
theorem dk_rd {kvs:List (Key×V)} (ok:HOk P w H h) (e:Rd H a (.dK kvs)):kvs.length≤sizeLine∧(a==sysModules)=false∧∃ vs,KV kvs vs∧h.DictOf (mixKind P w) a vs:=
 show ObjOk P w H h a (.dK kvs) from rd_of ok e
theorem dk_of {kvs:List (Key×V)} (ok:HOk P w H h) (e:H a=some (.dK kvs)):kvs.length≤sizeLine∧(a==sysModules)=false∧∃ vs,KV kvs vs∧h.DictOf (mixKind P w) a vs:=dk_rd ok (.inl e)
end
section
variable {X:Cx}{pins:List (Addr×Obj)}{σ:St}{H:Hp}{s:Shared}{a:Addr}{y v:V}{u r:Value}{o:Option V}{A:Around}{E:Value→Shared→Prop}
end
section
variable {X:Cx}
noncomputable def rIxD:R2:=fun x y H Q=>∃ p kvs k v,x=.ref p∧y=kV k∧H p=some (.dK kvs)∧valV kvs k=some v∧Q v H
theorem ix_dct:IxR X rIxD:=by
 intro value slice pins s σ H x y v u Q I rx ry h hs
 obtain ⟨p,kvs,k,z,rfl,rfl,hq,he,q⟩:=h
 cases rx
 obtain ⟨zz,hd,vs,rel,dd⟩:=dk_of I.hok hq
 obtain ⟨w',hw,rw'⟩:=RelO.some_of (v:=z) (o:=valueAt vs k) (by rw [←he]; exact rel.val k)
 exact tail_any dd.typeIs PySem.F.slot_dict_getitem.lookup (wpAny_getItem_of (kV_is ry) dd.mapOf hw ⟨z,H,I.tok _,rw',q⟩) hs
noncomputable def rInD:R2:=fun x y H Q=>∃ p kvs k,y=.ref p∧x=kV k∧H p=some (.dK kvs)∧Q (.bl (valV kvs k).isSome) H
theorem op_in_dct:OpR X (compareOp .In) rInD:=by
 intro pins s σ H x y v u Q I rx ry h
 obtain ⟨p,kvs,k,rfl,rfl,hq,q⟩:=h
 cases ry
 obtain ⟨zz,hd,vs,rel,dd⟩:=dk_of I.hok hq
 refine wpAny_in_of (kV_is rx) hd dd.mapOf ?_
 rw [←(rel.val k).isSome_eq]
 exact ⟨.bl (valV kvs k).isSome,H,I.tok _,rfl,q⟩
end
section
variable {κ:Type} [DecidableEq κ]
theorem valV_any (k:κ):∀ kvs:List (κ×V),(kvs.any fun kv=>decide (kv.1=k))=(valV kvs k).isSome
 | []=>rfl
 | p :: r=>by
  rw [List.any_cons]
  by_cases e:p.1=k
  ·simp only [valV_pos e,decide_eq_true e,Bool.true_or,Option.isSome_some]
  ·rw [valV_neg e,decide_eq_false e,Bool.false_or]; exact valV_any k r
end
abbrev KTp (H:Hp):List (List Key×V)→List (List Key×Addr×Value)→Prop:=Paired fun p q=>p.1=q.1∧H q.2.1=some (.tup (p.1.map kV))∧RelV p.2 q.2.2
theorem KTp.val {H:Hp}{kvs:List (List Key×V)}{xs:List (List Key×Addr×Value)} (r:KTp H kvs xs) (k:List Key):RelO (valV kvs k) ((atKey xs k).map (·.2)):=by
 induction r with
 | nil=>exact True.intro
 | @cons p q ps qs h t ih=>
  obtain ⟨h1,_,h2⟩:=h
  by_cases e:p.1=k
  ·have e':q.1=k:=h1.symm.trans e
   have b:atKey (q :: qs) k=some q.2:=by simp [atKey,List.find?_cons,e']
   rw [valV_pos e,b]; exact h2
  ·have e':¬q.1=k:=fun z=>e (h1.trans z)
   have b:atKey (q :: qs) k=atKey qs k:=by simp [atKey,List.find?_cons,e']
   rw [valV_neg e,b]; exact ih
theorem KTp.repl {H:Hp}{kvs:List (List Key×V)}{xs:List (List Key×Addr×Value)} (r:KTp H kvs xs) (k:List Key) {y:V}{u:Value} (ry:RelV y u) :
  KTp H (kvs.map fun kv=>if kv.1=k then (kv.1,y) else kv) (xs.map (putAt k u)):=by
 induction r with
 | nil=>exact .nil
 | @cons p q ps qs h t ih=>
  rw [List.map_cons,List.map_cons]
  refine .cons ?_ ih
  obtain ⟨h1,h2,h3⟩:=h
  unfold putAt
  by_cases e:p.1=k
  ·rw [if_pos e,if_pos (h1.symm.trans e)]; exact ⟨h1,h2,ry⟩
  ·rw [if_neg e,if_neg (fun z=>e (h1.trans z))]; exact ⟨h1,h2,h3⟩
theorem KTp.put {H:Hp}{kvs:List (List Key×V)}{xs:List (List Key×Addr×Value)} (r:KTp H kvs xs) (k:List Key) {b:Addr}{y:V}{u:Value} (hb:H b=some (.tup (k.map kV))) (ry:RelV y u) :
  KTp H (putK kvs k y) (storedH xs k b u):=by
 have e:(kvs.any fun kv=>decide (kv.1=k))=(atKey xs k).isSome:=by
  rw [valV_any,(r.val k).isSome_eq,Option.isSome_map]
 unfold putK storedH
 rw [e]
 by_cases q:(atKey xs k).isSome=true
 ·rw [if_pos q,if_pos q]; exact r.repl k ry
 ·rw [if_neg q,if_neg q]; exact Paired.snoc r ⟨rfl,hb,ry⟩
theorem KTp.keeps {H H':Hp}{kvs:List (List Key×V)}{xs:List (List Key×Addr×Value)} (r:KTp H kvs xs) (ht:∀ b ys,H b=some (.tup ys)→H' b=some (.tup ys)):KTp H' kvs xs:=
 Paired.mapP r fun _ _ z=>⟨z.1,ht _ _ z.2.1,z.2.2⟩
section
variable {P:Program}{w:World}{H:Hp}{h:Heap}{a:Addr}
end
section
variable {X:Cx}
end
end L2


namespace Dp
open PySem
noncomputable abbrev S (x:String):Str:=Str.ofString x

inductive D where
 | non | bl (b:Bool) | int (i:Int) | str (x:Str) | tup (xs:List D) | lst (id:Nat) | dct (ks:List Str) (vs:List D) | obj (i:Nat) | kt (ks:List Str) | dic (id:Nat)

noncomputable abbrev Env:=List (Option D)
noncomputable abbrev V4:=Bool×List D
noncomputable abbrev Za:=List V4
noncomputable abbrev Res:=Option (D×Za)
noncomputable abbrev Fn:=List D→Za→Res

noncomputable def o2 {α β γ:Type} (f:α→β→γ):Option α→Option β→Option γ
 | some x,some y=>some (f x y)
 | _,_=>none
noncomputable def og {α:Type} (p:Prop) [Decidable p] (o:Option α):Option α:=if p then o else none
mutual
noncomputable def ZB:D→D→Bool
 | .non,.non=>true
 | .bl a,.bl b=>a==b
 | .int a,.int b=>decide (a=b)
 | .str a,.str b=>decide (a=b)
 | .tup a,.tup b=>ZY a b
 | _,_=>false
noncomputable def ZY:List D→List D→Bool
 | [],[]=>true
 | x :: xs,y :: ys=>ZB x y&&ZY xs ys
 | _,_=>false
end
mutual
noncomputable def okD:Nat→D→Bool
 | _,.non=>true
 | _,.int _=>true
 | _,.str _=>true
 | n+1,.tup xs=>Yv n xs
 | _,_=>false
noncomputable def Yv:Nat→List D→Bool
 | _,[]=>true
 | n,x :: xs=>okD n x&&Yv n xs
end
inductive Sc where
 | non | bl (b:Bool) | int (i:Int) | str (x:Str)
noncomputable def scD:D→Option Sc
 | .non=>some .non
 | .bl b=>some (.bl b)
 | .int i=>some (.int i)
 | .str x=>some (.str x)
 | _=>none
noncomputable def Zb2:Sc→Sc→Option Bool
 | .non,.non=>some true
 | .non,.bl _=>some false
 | .non,.int _=>some false
 | .non,.str _=>some false
 | .bl _,.non=>some false
 | .bl a,.bl b=>some (a==b)
 | .bl _,.int _=>none
 | .bl _,.str _=>some false
 | .int _,.non=>some false
 | .int _,.bl _=>none
 | .int a,.int b=>some (decide (a=b))
 | .int _,.str _=>some false
 | .str _,.non=>some false
 | .str _,.bl _=>some false
 | .str _,.int _=>some false
 | .str a,.str b=>some (decide (a=b))
noncomputable def eqT (xs:List D):D→Option Bool
 | .tup ys=>if okD 8 (.tup xs)&&okD 8 (.tup ys) then some (ZY xs ys) else none
 | _=>none
noncomputable def eqD (x y:D):Option Bool:=match x with
 | .tup xs=>eqT xs y
 | x=>(o2 Zb2 (scD x) (scD y)).join

inductive Ty where
 | int | bool | str | tuple
 deriving DecidableEq

set_option genInjectivity false in
inductive CE where
 | var (i:Nat) | cst (d:D)
 | bin (op:Operator) (a b:CE) | neg (a:CE)
 | cmp (op:CmpOp) (a b:CE)
 | not (a:CE) | and (a b:CE) | or (a b:CE) | ife (c a b:CE)
 | tupE (a:CE) | lstE (a:CE) | anil | acons (a r:CE)
 | ix (a b:CE) | slice (a lo hi:CE) | nop | part (a:CE)
 | call (f:Nat) (args:CE) (ds:List D)
 | len (a:CE) | tupleOf (a:CE) | listOf (a:CE) | intOf (a:CE) | min (a b:CE) | max (a b:CE) | isi (T:Ty) (a:CE)
 | comp (rng:Bool) (fr:List Nat) (it elt YB:CE) | comp2 (fr:List Nat) (it elt YB:CE) | compT (fr:List Nat) (it elt YB:CE) | lstR (a b:CE) | new (i:Nat) | meth (tab:List (Nat×Nat)) (o a:CE) | isc (l:List Nat) (a:CE) | tix (o a:CE)
 | rs (k:Bool) (a:CE)
 | inv (a:CE) | tupR (a:CE) | look (ks:List Str) (ds:List D) (a:CE) | dget (a k d:CE) | all (a:CE) | any (a:CE) | inR (ng:Bool) (a b:CE)
 | dict (ks:List Str) (a:CE) | dnew | strOf (a:CE) | joinE (a b:CE) | starts (a b:CE) | rng2 (a b:CE)

set_option genInjectivity false in
inductive CS where
 | skip | seq (a b:CS) | ret (e:CE) | set (i:Nat) (e:CE) | app (i:Nat) (e:CE) | ext (i:Nat) (e:CE) | put (i:Nat) (k e:CE)
 | ite (c:CE) (a b:CS) | for1 (i:Nat) (rng:Bool) (it:CE) (b:CS) | for3 (i:Nat) (it:CE) (b:CS) | forP (i j:Nat) (it:CE) (b:CS) | forE (i j:Nat) (it:CE) (b:CS) | set2 (i j:Nat) (e:CE) | for4 (i j l:Nat) (it:CE) (b:CS) | for2 (i j:Nat) (it:CE) (b:CS) | whl (c:CE) (b:CS) | brk | cont | stop | set3 (i j l:Nat) (e:CE) | act (e:CE) | dput (i:Nat) (a b e:CE) | app2 (o e:CE)

noncomputable def ZI (i:Int):Bool:=decide (-(2 ^ 64) < i)&&decide (i < 2 ^ 64)
noncomputable def Zg:Nat:=1000000

noncomputable def Q7 (op:Operator) (i j:Int):Option Int:=
 match op with
 | .Add=>some (i+j)
 | .Sub=>some (i - j)
 | .Mult=>if ZI i||ZI j then some (i * j) else none
 | .FloorDiv=>if 0 < j∧j < 1073741824 then some (i / j) else if j < 0∧-1073741824 < j then some (i.fdiv j) else none
 | .Mod=>if 0 < j then some (i % j) else if j < 0 then some (i.fmod j) else none
 | _=>none
noncomputable def YV:Operator→Bool
 | .Add=>true
 | _=>false
noncomputable def Xj:Operator→Bool
 | .Mult=>true
 | _=>false
noncomputable def ZdV (a b:Nat) (st:Za):Res:=match st[a]?,st[b]? with
 | some (_,xs),some (_,ys)=>if xs.length+ys.length≤Zg then some (.lst st.length,st++[(true,xs++ys)]) else none
 | _,_=>none
noncomputable def ZeW (a:Nat) (j:Int) (st:Za):Res:=match st[a]? with
 | some (true,[x])=>if j≤1000∧-1000≤j then some (.lst st.length,st++[(true,List.replicate j.toNat x)]) else none
 | _=>none
noncomputable def Zjj (xs:List D) (j:Int) (st:Za):Res:=match xs with
 | [x]=>if j≤1000∧-1000≤j then some (.tup (List.replicate j.toNat x),st) else none
 | _=>none
noncomputable def XR (op:Operator) (x y:D) (st:Za):Res:=
 match x,y with
 | .int i,.int j=>match Q7 op i j with
  | some k=>some (.int k,st)
  | none=>none
 | .tup xs,.tup ys=>if YV op=true∧xs.length+ys.length≤Zg then some (.tup (xs++ys),st) else none
 | .tup xs,.int j=>if Xj op=true then Zjj xs j st else none
 | .lst a,.lst b=>if YV op=true then ZdV a b st else none
 | .lst a,.int j=>if Xj op=true then ZeW a j st else none
 | .str x,.str y=>if YV op=true∧x.length+y.length≤Zg then some (.str (x++y),st) else none
 | _,_=>none

noncomputable def Zh5 (x k:Str):Bool:=!(PySem.Builtin.Str.occurrences x k 0 x.length 1).isEmpty
noncomputable def chS (x:Str):List Str:=x.cps.toList.map fun c=>⟨#[c]⟩
noncomputable def ZiL (c:Nat):Bool:=decide (48≤c)&&decide (c≤57)
noncomputable def dgV (l:List Nat):Nat:=l.foldl (fun a c=>a * 10+(c - 48)) 0
noncomputable def ZhQ (l:List Nat):Bool:=!l.isEmpty&&l.all ZiL&&decide (l.length≤600)
noncomputable def ZiJ (x:Str):Option Int:=match x.cps.toList with
 | 45 :: r=>if ZhQ r=true then some (-(dgV r:Int)) else none
 | l=>if ZhQ l=true then some (dgV l:Int) else none
noncomputable def stW (x y:Str):Bool:=x.cps.toList.take y.cps.toList.length==y.cps.toList
noncomputable def Ue:List Str→List Nat
 | []=>[]
 | x :: r=>x.cps.toList++Ue r
noncomputable def Xt (s:Str):List Str→List Nat
 | []=>[]
 | x :: r=>(s.cps.toList++x.cps.toList)++Xt s r
noncomputable def U7 (s:Str):List Str→List Nat
 | []=>[]
 | x :: r=>x.cps.toList++Xt s r
noncomputable def Wh:List D→Option (List Str)
 | []=>some []
 | .str x :: r=>(Wh r).map (x :: ·)
 | _=>none
noncomputable def Zal (_:Za) (_ _:List D):Option Bool:=none
noncomputable def ZaY (xs ys:List D):Option Bool:=if (xs.isEmpty||ys.isEmpty)=true then some (xs.isEmpty&&ys.isEmpty) else if Yv 7 xs&&Yv 7 ys then some (ZY xs ys) else none
noncomputable def ZhH (st:Za) (xs:List D):D→Option Bool
 | .tup ys=>(match eqT xs (.tup ys) with
  | some k=>some k
  | none=>Zal st xs ys)
 | _=>none
noncomputable def ZhG (st:Za) (a:Nat):D→Option Bool
 | .lst b=>(o2 (fun (c d:V4)=>ZaY c.2 d.2) st[a]? st[b]?).join
 | _=>none
noncomputable def eqS (st:Za) (x y:D):Option Bool:=match x with
 | .lst a=>ZhG st a y
 | .tup xs=>ZhH st xs y
 | x=>eqD x y

noncomputable def YR:Int→List D→Option Bool
 | _,[]=>some false
 | k,.int i :: r=>(YR k r).map fun b=>decide (i=k)||b
 | _,_=>none
noncomputable def YS:Str→List D→Option Bool
 | _,[]=>some false
 | k,.str i :: r=>(YS k r).map fun b=>decide (i=k)||b
 | _,_=>none

noncomputable def Zen:D→Option Int
 | .int i=>some i
 | _=>none
noncomputable def Z0:List Str→List D→Str→Option D
 | k :: ks,v :: vs,x=>if k=x then some v else Z0 ks vs x
 | _,_,_=>none
noncomputable def Jv (f:Int→Int→Bool):D→D→Option Bool
 | .int i,.int j=>some (f i j)
 | _,_=>none
noncomputable def Wm:List D→List D→Option Bool
 | x :: xs,y :: ys=>if ZB x y=true then Wm xs ys else match x,y with
  | .int i,.int j=>some (decide (i < j))
  | .str a,.str b=>some (decide (a.cps.toList < b.cps.toList))
  | _,_=>none
 | [],ys=>some (decide (0 < ys.length))
 | _ :: _,[]=>some false
noncomputable def ltD (x y:D):Option Bool:=match x,y with
 | .tup xs,.tup ys=>if okD 8 (.tup xs)&&okD 8 (.tup ys) then Wm xs ys else none
 | x,y=>Jv (fun i j=>decide (i < j)) x y
noncomputable def ltS (_:Za) (x y:D):Option Bool:=ltD x y
noncomputable def inS (st:Za) (x y:D):Option Bool:=match x,y with
 | .int k,.lst a=>match st[a]? with
  | some (_,xs)=>YR k xs
  | none=>none
 | .str k,.lst a=>match st[a]? with
  | some (_,xs)=>YS k xs
  | none=>none
 | .int k,.tup xs=>YR k xs
 | .str k,.tup xs=>YS k xs
 | .str k,.dct ks vs=>some (Z0 ks vs k).isSome
 | .str k,.str x=>some (Zh5 x k)
 | _,_=>none
noncomputable def niS (st:Za) (x y:D):Option Bool:=match y with
 | .dct _ _=>none
 | y=>(inS st x y).map not
noncomputable def isN:D→Option Bool
 | .non=>some true
 | .int _=>some false
 | .str _=>some false
 | .bl _=>some false
 | .tup _=>some false
 | .lst _=>some false
 | .dct _ _=>none
 | .obj _=>none
 | .kt _=>none
 | .dic _=>none
noncomputable def isB (b:Bool):D→Option Bool
 | .bl a=>some (a==b)
 | _=>none
noncomputable def isD (x:D):D→Option Bool
 | .non=>isN x
 | .bl b=>isB b x
 | _=>none
noncomputable def Zge (op:CmpOp) (x y:D) (st:Za):Option Bool:=
 match op with
 | .Lt=>ltS st x y
 | .LtE=>Jv (fun i j=>decide (i≤j)) x y
 | .Gt=>Jv (fun i j=>decide (j < i)) x y
 | .GtE=>Jv (fun i j=>decide (j≤i)) x y
 | .Eq=>eqS st x y
 | .NotEq=>(eqS st x y).map not
 | .In=>inS st x y
 | .NotIn=>niS st x y
 | .Is=>isD x y
 | .IsNot=>(isD x y).map not

noncomputable def ixN (n:Nat) (i:Int):Option Nat:=if 0≤i then (if i < n then some i.toNat else none) else if -(n:Int)≤i then some (i+n).toNat else none
noncomputable def atD (xs:List D) (i:Int):Option D:=(ixN xs.length i).bind fun j=>xs[j]?
noncomputable def ixD (x y:D) (st:Za):Option D:=
 match x,y with
 | .tup xs,.int i=>atD xs i
 | .lst a,.int i=>match st[a]? with
  | some (_,xs)=>atD xs i
  | none=>none
 | .dct ks vs,.str k=>Z0 ks vs k
 | .kt ks,.int i=>atD (ks.map .str) i
 | .str x,.int i=>if x.length≤Zg then atD ((chS x).map .str) i else none
 | _,_=>none

noncomputable def sIx (n d:Nat):Option Int→Nat
 | none=>d
 | some i=>if i < 0 then (i+n).toNat else Nat.min i.toNat n
noncomputable def Je (x:Str) (lo hi:Option Int):Str:=⟨((x.cps.toList.drop (sIx x.length 0 lo)).take (sIx x.length x.length hi - sIx x.length 0 lo)).toArray⟩
noncomputable def ZaW (xs:List D) (lo hi:Option Int):List D:=(xs.drop (sIx xs.length 0 lo)).take (sIx xs.length xs.length hi - sIx xs.length 0 lo)
noncomputable def Yl (x:D) (lo hi:Option Int) (st:Za):Res:=
 match x with
 | .tup xs=>if sIx xs.length 0 lo=0∧sIx xs.length xs.length hi=xs.length then some (.tup xs,st) else some (.tup (ZaW xs lo hi),st)
 | .lst a=>match st[a]? with
  | some (_,xs)=>some (.lst st.length,st++[(true,ZaW xs lo hi)])
  | none=>none
 | .str x=>if x.length≤Zg then some (.str (Je x lo hi),st) else none
 | _=>none

noncomputable def Zeu (x:D) (st:Za):Option Int:=
 match x with
 | .tup xs=>some xs.length
 | .lst a=>match st[a]? with
  | some (_,xs)=>some xs.length
  | none=>none
 | .kt ks=>some ks.length
 | .str x=>if x.length≤Zg then some x.length else none
 | _=>none

noncomputable def Zer (T:Ty):D→Option Bool
 | .int _=>some (decide (T=.int))
 | .bl _=>some (decide (T=.int)||decide (T=.bool))
 | .str _=>some (decide (T=.str))
 | .tup _=>some (decide (T=.tuple))
 | .non=>some false
 | _=>none

noncomputable def YT (rng:Bool) (x:D):Option (List D):=
 match rng,x with
 | true,.int n=>if n < 2 ^ 62∧-(2 ^ 62)≤n then some ((List.range n.toNat).map fun (k:Nat)=>D.int (k:Int)) else none
 | false,.tup xs=>some xs
 | _,_=>none

noncomputable def Zw (a b c:Int):Nat:=if 0 < c then (if a < b then ((b - a - 1) / c+1).toNat else 0) else (if b < a then ((a - b - 1) / (-c)+1).toNat else 0)
noncomputable def Zs (a b c:Int):Bool:=decide ((-(2 ^ 30) < a∧a < 2 ^ 30)∧(-(2 ^ 30) < b∧b < 2 ^ 30)∧(c=1∨c=-1∨c=2∨c=3∨c=4))
noncomputable def Zt (a b c:Int):List Int:=(List.range (Zw a b c)).map fun (k:Nat)=>a+k * c
noncomputable def WZ:List D→Option (List Int)
 | []=>some []
 | x :: r=>o2 List.cons (Zen x) (WZ r)
noncomputable def UF:List Int→Option (List Int)
 | [a,b]=>og (Zs a b 1=true) (some (Zt a b 1))
 | [a,b,c]=>og (Zs a b c=true) (some (Zt a b c))
 | _=>none
noncomputable def Jl:D→Option (List Int)
 | .tup xs=>(WZ xs).bind UF
 | _=>none
noncomputable def Ym (ok:Za→Prop) (f:D→Za→Res) (c:D→Za→Res):List D→Za→Option (List D×Za)
 | [],st=>open Classical in if ok st then some ([],st) else none
 | x :: xs,st=>open Classical in if ok st then (match c x st with
  | some (.bl true,st1)=>match f x st1 with
   | some (y,st2)=>match Ym ok f c xs st2 with
    | some (ys,st3)=>some (y :: ys,st3)
    | none=>none
   | none=>none
  | some (.bl false,st1)=>Ym ok f c xs st1
  | _=>none) else none
noncomputable def VY (rng:Bool) (x:D) (st:Za):Option (List D×(Za→Prop)):=match YT rng x with
 | some xs=>some (xs,fun _=>True)
 | none=>match rng,x with
  | false,.lst a=>match st[a]? with
   | some c=>some (c.2,fun s=>s[a]?=some c)
   | none=>none
  | false,.str x=>if x.cps.all (fun c=>decide (c < 128))=true then some ((chS x).map .str,fun _=>True) else none
  | false,.dct [] [.int a,.int b]=>some ((Zt a b 1).map .int,fun _=>True)
  | _,_=>none

noncomputable def Y4:Nat→List D→List D
 | _,[]=>[]
 | k,x :: xs=>.tup [.int (k:Int),x] :: Y4 (k+1) xs
noncomputable def V0 (x:D) (st:Za):Option (List D×(Za→Prop)):=match x with
 | .tup xs=>some (Y4 0 xs,fun _=>True)
 | .lst a=>match st[a]? with
  | some c=>some (Y4 0 c.2,fun s=>s[a]?=some c)
  | none=>none
 | _=>none

noncomputable def Zeq:D→Bool
 | .tup [_,_]=>true
 | _=>false
noncomputable def ZaD (x:D) (_:Za):Option (List D×(Za→Prop)):=match x with
 | .tup xs=>if xs.all Zeq=true then some (xs,fun _=>True) else none
 | _=>none

noncomputable abbrev Ev:=Env→Za→Res
noncomputable def Z2 (fa:Ev) (g:D→Za→Res):Ev:=fun ρ st=>match fa ρ st with
 | some (x,st1)=>g x st1
 | none=>none
noncomputable def Ye (fa fb:Ev) (g:D→D→Za→Res):Ev:=fun ρ st=>match fa ρ st with
 | some (x,st1)=>match fb ρ st1 with
  | some (y,st2)=>g x y st2
  | none=>none
 | none=>none
noncomputable def QN (fa fb fc:Ev) (g:D→D→D→Za→Res):Ev:=fun ρ st=>match fa ρ st with
 | some (x,st1)=>match fb ρ st1 with
  | some (y,st2)=>match fc ρ st2 with
   | some (z,st3)=>g x y z st3
   | none=>none
  | none=>none
 | none=>none
noncomputable def YB (fc ft ff:Ev):Ev:=fun ρ st=>match fc ρ st with
 | some (.bl true,st1)=>ft ρ st1
 | some (.bl false,st1)=>ff ρ st1
 | _=>none
noncomputable def XF (i:Nat):Ev:=fun ρ st=>match ρ[i]? with
 | some (some d)=>some (d,st)
 | _=>none
noncomputable def evC (d:D):Ev:=fun _ st=>some (d,st)
noncomputable def ZeF:D→Za→Res
 | .int i,st=>some (.int (-i),st)
 | _,_=>none
noncomputable def Zbe:D→Za→Res
 | .bl k,st=>some (.bl (!k),st)
 | _,_=>none
noncomputable def WN (op:CmpOp) (x y:D) (st:Za):Res:=match Zge op x y st with
 | some k=>some (.bl k,st)
 | none=>none
noncomputable def ZcG:D→Za→Res
 | .tup xs,st=>some (.lst st.length,st++[(true,xs)])
 | _,_=>none
noncomputable def X9:D→D→Za→Res
 | x,.tup xs,st=>if xs.length < 1000 then some (.tup (x :: xs),st) else none
 | _,_,_=>none
noncomputable def ixR (x y:D) (st:Za):Res:=match ixD x y st with
 | some d=>some (d,st)
 | none=>none
noncomputable def Xy:D→D→D→Za→Res
 | x,.non,.non,st=>Yl x none none st
 | x,.int i,.non,st=>Yl x (some i) none st
 | x,.non,.int j,st=>Yl x none (some j) st
 | x,.int i,.int j,st=>Yl x (some i) (some j) st
 | _,_,_,_=>none
noncomputable def Zam:D→Za→Res
 | .int i,st=>some (.int i,st)
 | _,_=>none
noncomputable def WM (g:Fn) (ds:List D):D→Za→Res
 | .tup xs,st=>g (xs++ds) st
 | _,_=>none
noncomputable def Qm (x:D) (st:Za):Res:=match Zeu x st with
 | some n=>some (.int n,st)
 | none=>none
noncomputable def X4:D→Za→Res
 | .tup xs,st=>some (.tup xs,st)
 | .lst l,st=>match st[l]? with
  | some (_,xs)=>some (.tup xs,st)
  | none=>none
 | _,_=>none
noncomputable def VP:D→Za→Res
 | .tup xs,st=>some (.lst st.length,st++[(true,xs)])
 | .lst l,st=>match st[l]? with
  | some (_,xs)=>some (.lst st.length,st++[(true,xs)])
  | none=>none
 | _,_=>none
noncomputable def Zdw:D→Za→Res
 | .int i,st=>if ZI i=true then some (.str (Str.ofString (toString i)),st) else none
 | _,_=>none
noncomputable def J9 (ds:List D) (st:Za):Res:=match Wh ds with
 | some xs=>if (Ue xs).length≤Zg then some (.str ⟨(Ue xs).toArray⟩,st) else none
 | none=>none
noncomputable def J8 (s:Str) (ds:List D) (st:Za):Res:=match Wh ds with
 | some xs=>if (Xt s xs).length≤Zg then some (.str ⟨(U7 s xs).toArray⟩,st) else none
 | none=>none
noncomputable def VO:D→D→Za→Res
 | .str s,.lst a,st=>match st[a]? with
  | some (_,ds)=>if s.length=0 then J9 ds st else J8 s ds st
  | none=>none
 | _,_,_=>none
noncomputable def QM:D→D→Za→Res
 | .int a,.int b,st=>if Zs a b 1=true then some (.dct [] [.int a,.int b],st) else none
 | _,_,_=>none
noncomputable def Zax:D→D→Za→Res
 | .str x,.tup [.str y],st=>some (.bl (stW x y),st)
 | _,_,_=>none
noncomputable def ZeC:D→D→Za→Res
 | .int i,.int j,st=>some (.int (if j < i then j else i),st)
 | _,_,_=>none
noncomputable def ZeA:D→D→Za→Res
 | .int i,.int j,st=>some (.int (if j > i then j else i),st)
 | _,_,_=>none
noncomputable def Jk (T:Ty) (x:D) (st:Za):Res:=match Zer T x with
 | some k=>some (.bl k,st)
 | none=>none
noncomputable def Qp:D→D→Za→Res
 | .int a,.int b,st=>if Zs a b 1=true∧b - a≤1000 then some (.lst st.length,st++[(true,(Zt a b 1).map .int)]) else none
 | _,_,_=>none
noncomputable def getD:D→D→D→Za→Res
 | .dct ks vs,.str k,d,st=>some ((Z0 ks vs k).getD d,st)
 | _,_,_,_=>none
noncomputable def Zgs (ng:Bool):D→D→Za→Res
 | .int x,.int n,st=>if -(2 ^ 62)≤n∧n < 2 ^ 62 then some (.bl (ng != decide (0≤x∧x < n)),st) else none
 | _,_,_=>none
noncomputable def one (d:D):List (Option D):=[some d]
noncomputable def two:D→List (Option D)
 | .tup [a,b]=>[some a,some b]
 | _=>[]
noncomputable def YD (b:D→List (Option D)) (ρ:Env) (fr:List Nat) (d:D):Env:=b d++fr.map fun i=>(ρ[i]?).join
noncomputable def XD (b:D→List (Option D)) (w:D→Za→Option (List D×(Za→Prop))) (fr:List Nat) (fi fe fc:Ev):Ev:=fun ρ st=>match fi ρ st with
 | some (x,st1)=>match w x st1 with
  | some (xs,ok)=>if xs.length≤1000 then
    match Ym ok (fun d s=>fe (YD b ρ fr d) s) (fun d s=>fc (YD b ρ fr d) s) xs st1 with
    | some (ys,st2)=>some (.lst st2.length,st2++[(true,ys)])
    | none=>none
   else none
  | none=>none
 | none=>none

noncomputable def ev (F:Nat→Fn):CE→Ev
 | .var i=>XF i
 | .cst d=>evC d
 | .bin op a b=>Ye (ev F a) (ev F b) (XR op)
 | .neg a=>Z2 (ev F a) ZeF
 | .cmp op a b=>Ye (ev F a) (ev F b) (WN op)
 | .not a=>Z2 (ev F a) Zbe
 | .and a b=>YB (ev F a) (ev F b) (evC (.bl false))
 | .or a b=>YB (ev F a) (evC (.bl true)) (ev F b)
 | .ife c a b=>YB (ev F c) (ev F a) (ev F b)
 | .tupE a=>ev F a
 | .lstE a=>Z2 (ev F a) ZcG
 | .anil=>evC (.tup [])
 | .acons a r=>Ye (ev F a) (ev F r) X9
 | .ix a b=>Ye (ev F a) (ev F b) ixR
 | .slice a lo hi=>QN (ev F a) (ev F lo) (ev F hi) Xy
 | .nop=>evC .non
 | .part a=>Z2 (ev F a) Zam
 | .call f a ds=>Z2 (ev F a) (WM (F f) ds)
 | .len a=>Z2 (ev F a) Qm
 | .tupleOf a=>Z2 (ev F a) X4
 | .listOf a=>Z2 (ev F a) VP
 | .intOf _=>fun _ _=>none
 | .min a b=>Ye (ev F a) (ev F b) ZeC
 | .max a b=>Ye (ev F a) (ev F b) ZeA
 | .isi T a=>Z2 (ev F a) (Jk T)
 | .rs _ _=>fun _ _=>none
 | .inv _=>fun _ _=>none
 | .tupR _=>fun _ _=>none
 | .look _ _ _=>fun _ _=>none
 | .dget _ _ _=>fun _ _=>none
 | .inR ng a b=>Ye (ev F a) (ev F b) (Zgs ng)
 | .all _=>fun _ _=>none
 | .any _=>fun _ _=>none
 | .comp rng fr it elt cnd=>XD one (VY rng) fr (ev F it) (ev F elt) (ev F cnd)
 | .comp2 fr it elt cnd=>XD two V0 fr (ev F it) (ev F elt) (ev F cnd)
 | .compT fr it elt cnd=>XD two ZaD fr (ev F it) (ev F elt) (ev F cnd)
 | .lstR a b=>Ye (ev F a) (ev F b) Qp
 | .new _=>fun _ _=>none
 | .meth _ _ _=>fun _ _=>none
 | .isc _ _=>fun _ _=>none
 | .tix _ _=>fun _ _=>none
 | .dict _ _=>fun _ _=>none
 | .dnew=>fun _ _=>none
 | .strOf a=>Z2 (ev F a) Zdw
 | .joinE a b=>Ye (ev F a) (ev F b) VO
 | .starts a b=>Ye (ev F a) (ev F b) Zax
 | .rng2 a b=>Ye (ev F a) (ev F b) QM

inductive Fl where
 | nx (ρ:Env) | rt (d:D) | bk (ρ:Env) | ct (ρ:Env)

noncomputable def Zo (ρ:Env) (i:Nat) (d:D):Env:=ρ.set i (some d)

noncomputable def Yc (body:D→Env→Za→Option (Fl×Za)):List D→Env→Za→Option (Fl×Za)
 | [],ρ,st=>some (.nx ρ,st)
 | d :: ds,ρ,st=>match body d ρ st with
  | some (.nx ρ',st')=>Yc body ds ρ' st'
  | some (.ct ρ',st')=>Yc body ds ρ' st'
  | some (.bk ρ',st')=>some (.nx ρ',st')
  | some (.rt v,st')=>some (.rt v,st')
  | none=>none
noncomputable def ZM (body:D→Env→Za→Option (Fl×Za)) (a:Nat):Nat→Nat→Env→Za→Option (Fl×Za)
 | 0,i,ρ,st=>match st[a]? with
  | some (_,xs)=>if xs.length≤i then some (.nx ρ,st) else none
  | none=>none
 | n+1,i,ρ,st=>match st[a]? with
  | some (_,xs)=>match xs[i]? with
   | none=>some (.nx ρ,st)
   | some d=>match body d ρ st with
    | some (.nx ρ',st')=>ZM body a n (i+1) ρ' st'
    | some (.ct ρ',st')=>ZM body a n (i+1) ρ' st'
    | some (.bk ρ',st')=>some (.nx ρ',st')
    | some (.rt v,st')=>some (.rt v,st')
    | none=>none
  | none=>none

noncomputable abbrev Ex:=Env→Za→Option (Fl×Za)
noncomputable def Zbn (f g:Ex):Ex:=fun ρ st=>match f ρ st with
 | some (.nx ρ',st')=>g ρ' st'
 | r=>r
noncomputable def JD (f:Ev):Ex:=fun ρ st=>match f ρ st with
 | some (d,st')=>some (.rt d,st')
 | none=>none
noncomputable def QQ (i:Nat) (f:Ev):Ex:=fun ρ st=>match f ρ st with
 | some (d,st')=>some (.nx (Zo ρ i d),st')
 | none=>none
noncomputable def QO (i j:Nat) (f:Ev):Ex:=fun ρ st=>match f ρ st with
 | some (.tup [x,y],st')=>some (.nx (Zo (Zo ρ i x) j y),st')
 | _=>none
noncomputable def QP (i j l:Nat) (f:Ev):Ex:=fun ρ st=>match f ρ st with
 | some (.tup [x,y,z],st')=>some (.nx (Zo (Zo (Zo ρ i x) j y) l z),st')
 | _=>none
noncomputable def ZbB (f:Ev):Ex:=fun ρ st=>match f ρ st with
 | some (_,st')=>some (.nx ρ,st')
 | none=>none
noncomputable def ZbD (a:Nat) (d:D) (st:Za):Option Za:=match st[a]? with
 | some (true,xs)=>if xs.length < Zg then some (st.set a (true,xs++[d])) else none
 | _=>none
noncomputable def UL (a:Nat) (j:Int) (d:D) (st:Za):Option Za:=match st[a]? with
 | some (true,xs)=>match ixN xs.length j with
  | some p=>some (st.set a (true,xs.set p d))
  | none=>none
 | _=>none
noncomputable def ZbF (i:Nat) (f:Ev):Ex:=fun ρ st=>match ρ[i]? with
 | some (some (.lst a))=>match f ρ st with
  | some (d,st')=>match ZbD a d st' with
   | some st2=>some (.nx ρ,st2)
   | none=>none
  | none=>none
 | _=>none
noncomputable def ZbE (o f:Ev):Ex:=fun ρ st=>match o ρ st with
 | some (.lst a,st1)=>match f ρ st1 with
  | some (d,st2)=>match ZbD a d st2 with
   | some st3=>some (.nx ρ,st3)
   | none=>none
  | none=>none
 | _=>none
noncomputable def Zgl (a b:Nat) (st:Za):Option Za:=match st[a]?,st[b]? with
 | some (true,xs),some (true,ys)=>if xs.length+ys.length≤Zg then some (st.set a (true,xs++ys)) else none
 | _,_=>none
noncomputable def Zb5 (i:Nat) (f:Ev):Ex:=fun ρ st=>match ρ[i]? with
 | some (some (.lst a))=>match f ρ st with
  | some (.lst b,st')=>match Zgl a b st' with
   | some st2=>some (.nx ρ,st2)
   | none=>none
  | _=>none
 | _=>none
noncomputable def Zdg (i:Nat) (k f:Ev):Ex:=fun ρ st=>match f ρ st with
 | some (d,st1)=>match ρ[i]? with
  | some (some (.lst a))=>match k ρ st1 with
   | some (.int j,st2)=>match UL a j d st2 with
    | some st3=>some (.nx ρ,st3)
    | none=>none
   | _=>none
  | _=>none
 | none=>none
noncomputable def Vs (c:Ev) (f g:Ex):Ex:=fun ρ st=>match c ρ st with
 | some (.bl true,st1)=>f ρ st1
 | some (.bl false,st1)=>g ρ st1
 | _=>none
noncomputable def U6 (i:Nat) (rng:Bool) (it:Ev) (b:Ex):Ex:=fun ρ st=>match it ρ st with
 | some (x,st1)=>match YT rng x with
  | some xs=>Yc (fun d ρ s=>b (Zo ρ i d) s) xs ρ st1
  | none=>match rng,x with
   | false,.lst a=>match st1[a]? with
    | some (_,xs)=>ZM (fun d ρ s=>b (Zo ρ i d) s) a xs.length 0 ρ st1
    | none=>none
   | _,_=>none
 | none=>none
noncomputable def U5 (i:Nat) (it:Ev) (b:Ex):Ex:=fun ρ st=>match it ρ st with
 | some (x,st1)=>match Jl x with
  | some xs=>Yc (fun d ρ s=>b (Zo ρ i d) s) (xs.map .int) ρ st1
  | none=>none
 | none=>none
noncomputable def Yo (ok:Za→Prop) (body:D→D→Env→Za→Option (Fl×Za)):List (D×D)→Env→Za→Option (Fl×Za)
 | [],ρ,st=>open Classical in if ok st then some (.nx ρ,st) else none
 | p :: ps,ρ,st=>open Classical in if ok st then (match body p.1 p.2 ρ st with
  | some (.nx ρ',st')=>Yo ok body ps ρ' st'
  | some (.ct ρ',st')=>Yo ok body ps ρ' st'
  | some (.bk ρ',st')=>some (.nx ρ',st')
  | some (.rt v,st')=>some (.rt v,st')
  | none=>none) else none
noncomputable def Zjr (i j:Nat) (it:Ev) (b:Ex):Ex:=fun ρ st=>match it ρ st with
 | some (.tup [.lst la,.lst lb],st1)=>match st1[la]?,st1[lb]? with
  | some ca,some cb=>Yo (fun s=>s[la]?=some ca∧s[lb]?=some cb) (fun x y ρ s=>b (Zo (Zo ρ i x) j y) s) (ca.2.zip cb.2) ρ st1
  | _,_=>none
 | _=>none
noncomputable def VC:Nat→List D→List (D×D)
 | _,[]=>[]
 | k,x :: xs=>(.int (k:Int),x) :: VC (k+1) xs
noncomputable def ZfT (x:D) (st:Za):Option (List D×(Za→Prop)):=match x with
 | .tup xs=>some (xs,fun _=>True)
 | .lst a=>match st[a]? with
  | some c=>some (c.2,fun s=>s[a]?=some c)
  | none=>none
 | _=>none
noncomputable def VH (i j:Nat) (it:Ev) (b:Ex):Ex:=fun ρ st=>match it ρ st with
 | some (x,st1)=>match ZfT x st1 with
  | some (xs,ok)=>Yo ok (fun x y ρ s=>b (Zo (Zo ρ i x) j y) s) (VC 0 xs) ρ st1
  | none=>none
 | none=>none
noncomputable def QB (i j:Nat) (b:Ex) (d:D) (ρ:Env) (s:Za):Option (Fl×Za):=match d with
 | .tup [x,y]=>b (Zo (Zo ρ i x) j y) s
 | _=>none
noncomputable def VG (i j:Nat) (it:Ev) (b:Ex):Ex:=fun ρ st=>match it ρ st with
 | some (.lst a,st1)=>match st1[a]? with
  | some (_,xs)=>ZM (QB i j b) a xs.length 0 ρ st1
  | none=>none
 | some (.tup xs,st1)=>Yc (QB i j b) xs ρ st1
 | _=>none


noncomputable def ex (F:Nat→Fn):CS→Ex
 | .skip=>fun ρ st=>some (.nx ρ,st)
 | .seq a b=>Zbn (ex F a) (ex F b)
 | .ret e=>JD (ev F e)
 | .set i e=>QQ i (ev F e)
 | .app i e=>ZbF i (ev F e)
 | .ext i e=>Zb5 i (ev F e)
 | .put i k e=>Zdg i (ev F k) (ev F e)
 | .ite c a b=>Vs (ev F c) (ex F a) (ex F b)
 | .for1 i rng it b=>U6 i rng (ev F it) (ex F b)
 | .forP _ _ _ _=>fun _ _=>none
 | .forE i j it b=>VH i j (ev F it) (ex F b)
 | .for3 i it b=>U5 i (ev F it) (ex F b)
 | .set2 i j e=>QO i j (ev F e)
 | .for4 _ _ _ _ _=>fun _ _=>none
 | .for2 i j it b=>VG i j (ev F it) (ex F b)
 | .whl _ _=>fun _ _=>none
 | .brk=>fun ρ st=>some (.bk ρ,st)
 | .cont=>fun ρ st=>some (.ct ρ,st)
 | .stop=>fun _ _=>none
 | .set3 i j l e=>QP i j l (ev F e)
 | .act e=>ZbB (ev F e)
 | .dput _ _ _ _=>fun _ _=>none
 | .app2 o e=>ZbE (ev F o) (ev F e)

structure FD where
 ps:Nat
 ns:Nat
 body:CS
noncomputable def fnD (F:Nat→Fn) (f:FD):Fn:=fun ds st=>
 if ds.length=f.ps then
  match ex F f.body (ds.map some++List.replicate (f.ns - ds.length) none) st with
  | some (.rt d,st')=>some (d,st')
  | some (.nx _,st')=>some (.non,st')
  | _=>none
 else none
noncomputable def run (T:Nat→Option FD):Nat→Nat→Fn
 | 0,_=>fun _ _=>none
 | n+1,i=>match T i with
  | some f=>fnD (run T n) f
  | none=>fun _ _=>none

inductive GV where
 | fn (i:Nat) (ps:Nat) (ds:List D) | cst (d:D) | blt | dct (ks:List Str) (ds:List D) | cls (i:Nat) (ms:List (Str×Nat×Nat)) (subs:List Nat)
noncomputable abbrev Gs:=List (Str×GV)

noncomputable def CE.ofConst:Const→Option CE
 | .none=>some (.cst .non)
 | .bool b=>some (.cst (.bl b))
 | .int i=>some (.cst (.int i))
 | .str x=>some (.cst (.str x))
 | _=>none
noncomputable def XH (sc:Scope) (x:Str):Bool:=!(x==("__debug__":Str))&&!(x==("__classdict__":Str))&&match sc.names.lookup x with
 | some .local=>true
 | some .cell=>true
 | some .free=>true
 | _=>false
noncomputable def ZN (sc:Scope) (x:Str):Bool:=!(x==("__debug__":Str))&&match sc.names.lookup x with
 | some .globalImplicit=>true
 | _=>false
noncomputable def Zie (x:Str):Option Ty:=
 if x = "int" then some .int else if x = "bool" then some .bool else if x = "str" then some .str else if x = "tuple" then some .tuple else none
noncomputable def ZO (sc:Scope):List Str:=(sc.names.filter fun p=>decide (p.2=.free)).map (·.1)

noncomputable def Zf4 (f:Str) (x:CE):Option CE:=
 if f = "len" then some (.len x) else if f = "tuple" then some (.tupleOf x) else if f = "list" then some (.listOf x) else none
noncomputable def Zf5 (f:Str) (x y:CE):Option CE:=if f = "min" then some (.min x y) else if f = "max" then some (.max x y) else none
noncomputable def J6 (G:Gs) (x:Str):Bool:=match G.lookup x with
 | some .blt=>true
 | _=>false
noncomputable def Zhf (G:Gs) (sc:Scope) (t:Str):Option Ty:=if ZN sc t&&J6 G t then Zie t else none
noncomputable def ZaC (G:Gs) (sc:Scope):Expr→Option Ty
 | .Name t _=>Zhf G sc t
 | _=>none
noncomputable def Jc (_:Gs) (_:Scope) (_:Expr):Option (List Nat):=none
noncomputable def Zfz:Expr→Option (Str×List Expr)
 | .Call (.Name f _) as [] _=>some (f,as)
 | _=>none
noncomputable def fnA (G:Gs) (sc:Scope) (nm:Str) (e:Expr):Option (List Expr):=(Zfz e).bind fun p=>og (p.1=nm∧ZN sc p.1=true∧J6 G p.1=true) (some p.2)
noncomputable def ZgK:List Expr→Option Expr
 | [a]=>some a
 | _=>none
noncomputable def Z1 (G:Gs) (sc:Scope) (e:Expr):Option Expr:=(fnA G sc "range" e).bind ZgK
noncomputable def JK (_:Gs) (_:Scope) (_:Str) (_:Expr):Option Expr:=none
noncomputable def Zfr:List Expr→Option (Expr×Expr)
 | [a,b]=>some (a,b)
 | _=>none
noncomputable def Us (G:Gs) (sc:Scope) (f:Str) (e:Expr):Option (Expr×Expr):=if f = "list" then (fnA G sc "range" e).bind Zfr else none
noncomputable def o3 {α β γ δ:Type} (f:α→β→γ→δ):Option α→Option β→Option γ→Option δ
 | some x,b,c=>o2 (f x) b c
 | none,_,_=>none
theorem Ux {α γ:Type}{P:γ→Prop}{f:α→γ}{a:Option α}{c:γ} (h:a.map f=some c) (k:∀ x,a=some x→P (f x)):P c:=by
 cases a with
 | none=>cases h
 | some x=>cases h; exact k x rfl
theorem Yf {α β γ:Type}{P:γ→Prop}{f:α→β→γ}{a:Option α}{b:Option β}{c:γ} (h:o2 f a b=some c) (k:∀ x y,a=some x→b=some y→P (f x y)):P c:=by
 cases a with
 | none=>cases h
 | some x=>cases b with
  | none=>cases h
  | some y=>cases h; exact k x y rfl rfl
theorem Wn {α β γ δ:Type}{P:δ→Prop}{f:α→β→γ→δ}{a:Option α}{b:Option β}{d:Option γ}{c:δ} (h:o3 f a b d=some c) (k:∀ x y z,a=some x→b=some y→d=some z→P (f x y z)):P c:=by
 cases a with
 | none=>cases h
 | some x=>exact Yf (P:=P) h fun y z e e'=>k x y z rfl e e'
theorem XJ {α:Type}{P:Prop}{p:Prop} [Decidable p] {o:Option α}{c:α} (h:og p o=some c) (k:p→o=some c→P):P:=by
 unfold og at h
 by_cases hp:p
 ·rw [if_pos hp] at h; exact k hp h
 ·rw [if_neg hp] at h; cases h
theorem j_e {α:Type}{P:Prop}{o:Option (Option α)}{c:α} (h:o.join=some c) (k:o=some (some c)→P):P:=by
 cases o with
 | none=>cases h
 | some x=>cases h; exact k rfl
noncomputable def ZbG (G:Gs) (sc:Scope) (f:Str) (a:Expr) (r:Expr→Option CE):Option CE:=match JK G sc f a with
 | some e=>(r e).map .tupR
 | none=>match Us G sc f a with
  | some (u,v)=>o2 .lstR (r u) (r v)
  | none=>((r a).map (Zf4 f)).join
noncomputable def ZbH (G:Gs) (sc:Scope) (f:Str) (a b:Expr) (r:Expr→Option CE):Option CE:=if f = "isinstance" then (match Jc G sc b with
  | some l=>(r a).map (.isc l)
  | none=>o2 (fun x T=>.isi T x) (r a) (ZaC G sc b)) else (o2 (Zf5 f) (r a) (r b)).join
noncomputable def ZbO (G:Gs) (sc:Scope) (f:Str) (as:List Expr) (cs:Option CE) (r:Expr→Option CE):Option CE:=
 if ZN sc f then (match G.lookup f with
   | some (.fn i ps ds)=>og (as.length≤ps∧ps≤as.length+ds.length) (cs.map fun c=>.call i c (ds.drop (as.length+ds.length - ps)))
   | some .blt=>match as with
    | [a]=>ZbG G sc f a r
    | [a,b]=>ZbH G sc f a b r
    | _=>none
   | _=>none) else none
noncomputable def Zfx (G:Gs) (ob:Expr) (m:Str) (ap:Pos) (as:List Expr) (cp:Pos) (cs:Option CE) (r:Expr→Option CE):Option CE:=match ob with
 | .Constant _ _ _=>(match as with
  | [a]=>og (m = "join"∧(ap.endLine==cp.line)=true) (o2 .joinE (r ob) (r a))
  | _=>none)
 | _=>none
noncomputable def ZhD (G:Gs) (sc:Scope) (f:Expr) (as:List Expr) (cp:Pos) (cs:Option CE) (r:Expr→Option CE):Option CE:=match f with
 | .Name f _=>ZbO G sc f as cs r
 | .Attribute ob m ap=>Zfx G ob m ap as cp cs r
 | _=>none
noncomputable def ZiO:Expr→Bool
 | .Slice ..=>true
 | _=>false
noncomputable def Xe (G:Gs) (sc:Scope) (e:Expr):Option (List Expr):=(fnA G sc "range" e).bind fun as=>og (as.length=2∨as.length=3) (some as)
noncomputable def WA (_:Gs) (_:Scope) (_:Expr):Option (List Expr):=none
noncomputable def Wp (G:Gs) (sc:Scope) (e:Expr):Option Expr:=(fnA G sc "enumerate" e).bind ZgK
noncomputable def Wq (G:Gs) (sc:Scope) (e:Expr):Option Expr:=Wp G sc e
noncomputable def nmE:Expr→Option Str
 | .Name x _=>some x
 | _=>none
noncomputable def nmL:List Expr→Option (List Str)
 | [a,b]=>o2 (fun x y=>[x,y]) (nmE a) (nmE b)
 | _=>none
noncomputable def tgN:Expr→Option (List Str)
 | .Name x _=>some [x]
 | .Tuple es _ _=>nmL es
 | _=>none
noncomputable def mkC (r:Option (Option Bool)) (fr:List Nat) (ci ce cc:CE):CE:=match r with
 | some (some b)=>.comp b fr ci ce cc
 | some none=>.comp2 fr ci ce cc
 | none=>.compT fr ci ce cc
noncomputable def Y7 (N:List Str):List Str→Option (List Nat)
 | []=>some []
 | x :: r=>match N.idxOf? x,Y7 N r with
  | some i,some is=>some (i :: is)
  | _,_=>none

noncomputable def ZcJ (G:Gs) (sc:Scope) (N:List Str) (x:Str):Option CE:=
 if XH sc x then (N.idxOf? x).map .var else if ZN sc x then (match G.lookup x with
  | some (.cst d)=>some (.cst d)
  | _=>none) else none
noncomputable def ZcD (_:Gs) (_:Scope) (_:Expr):Option (List Str×List D):=none
noncomputable def Wv:Expr→Option (Option Expr×Option Expr)
 | .Slice lo hi none _=>some (lo,hi)
 | _=>none
noncomputable def ZfO (_:Expr):Option Expr:=none
noncomputable def ZiM:CE→Bool
 | .neg (.cst (.int 1))=>true
 | _=>false
noncomputable def W0 (sc:Scope) (x:Str):Bool:=match sc.names.lookup x with
 | some .cell=>true
 | some .free=>true
 | _=>false
noncomputable def Y3 (sc sc2:Scope) (xs:List Str):Bool:=
 decide (sc2.kind=.function)&&(sc2.names.all fun p=>decide (p.2≠.cell))&&(xs.all fun x=>decide (sc2.names.lookup x=some .local))&&(sc2.names.all fun p=>!decide (p.2=.local)||decide (sc2.names.lookup p.1=some .local)) &&
 decide (xs++ZO sc2).Nodup&&(ZO sc2).all (fun y=>W0 sc y&&decide (sc2.names.lookup y=some .free))
noncomputable def Zgr (_:CmpOp):Option Bool:=none
noncomputable def unC (op:UnaryOp) (a:Option CE):Option CE:=match op with
 | .Not=>a.map .not
 | .USub=>a.map .neg
 | _=>none
noncomputable def ZhF (G:Gs) (sc:Scope) (f:Expr→Option CE) (a:Option CE):List CmpOp→List Expr→Option CE
 | [op],[b]=>(match Z1 G sc b with
  | some e=>o3 .inR (Zgr op) a (f e)
  | none=>o2 (.cmp op) a (f b))
 | _,_=>none
noncomputable def Zfy (f:Expr→Option CE) (op:BoolOp) (pos:Pos):List Expr→Option CE
 | []=>none
 | [a]=>f a
 | a :: b :: r=>match op with
  | .And=>o2 .and (f a) (f (.BoolOp .And (b :: r) pos))
  | .Or=>o2 .or (f a) (f (.BoolOp .Or (b :: r) pos))
noncomputable def Zhc (G:Gs) (sc:Scope) (f:Expr→Option CE) (fo:Option Expr→Option CE) (a b:Expr):Option CE:=match Wv b with
 | some (lo,hi)=>o3 .slice (f a) (fo lo) (fo hi)
 | none=>match ZfO b with
  | some s=>(o2 (fun x y=>og (ZiM y=true) (some (.rs false x))) (f a) (f s)).join
  | none=>match ZcD G sc a with
   | some (ks,ds)=>(f b).map (.look ks ds)
   | none=>o2 .ix (f a) (f b)
noncomputable def itC (G:Gs) (sc:Scope) (it:Expr) (f:Expr→Option CE):List Str→Option (Option (Option Bool)×CE)
 | [_]=>(match Z1 G sc it with
  | some a=>(f a).map fun c=>(some (some true),c)
  | none=>match (fnA G sc "range" it).bind Zfr with
   | some p=>o2 (fun x y=>(some (some false),.rng2 x y)) (f p.1) (f p.2)
   | none=>(f it).map fun c=>(some (some false),c))
 | _=>(match Wp G sc it with
  | some a=>(f a).map fun c=>(some none,c)
  | none=>(f it).map fun c=>(none,c))
noncomputable def ifC (f:Expr→Option CE):List Expr→Option CE
 | []=>some (CE.cst (.bl true))
 | [c]=>f c
 | _=>none
noncomputable def ZfA (G:Gs) (sc sc2:Scope) (N:List Str) (f:Expr→Option CE) (g:List Str→Expr→Option CE) (elt:Expr):List Comprehension→Option CE
 | [⟨tg,it,ifs,0⟩]=>(match tgN tg with
  | none=>none
  | some xs=>og (Y3 sc sc2 xs=true) (o3 (fun fr p (q:CE×CE)=>mkC p.1 fr p.2 q.1 q.2) (Y7 N (ZO sc2)) (itC G sc it f xs) (o2 Prod.mk (g (xs++ZO sc2) elt) (ifC (g (xs++ZO sc2)) ifs))))
 | _=>none
mutual
noncomputable def cE (G:Gs):Nat→Scope→List Str→Expr→Option CE
 | 0,_,_,_=>none
 | n+1,sc,N,e=>match e with
  | .Constant c _ _=>CE.ofConst c
  | .Name x _=>ZcJ G sc N x
  | .BinOp a op b _=>o2 (.bin op) (cE G n sc N a) (cE G n sc N b)
  | .UnaryOp op a _=>unC op (cE G n sc N a)
  | .Compare a ops bs _=>ZhF G sc (cE G n sc N) (cE G n sc N a) ops bs
  | .BoolOp op vs pos=>Zfy (cE G n sc N) op pos vs
  | .IfExp c a b _=>o3 .ife (cE G n sc N c) (cE G n sc N a) (cE G n sc N b)
  | .Tuple es _ _=>(cEs G n sc N es).map .tupE
  | .List es _=>(cEs G n sc N es).map .lstE
  | .Subscript a b _=>Zhc G sc (cE G n sc N) (cO G n sc N) a b
  | .Call f as [] cp=>ZhD G sc f as cp (cEs G n sc N as) (cE G n sc N)
  | .ListComp elt gens sc2 _=>ZfA G sc sc2 N (cE G n sc N) (cE G n sc2) elt gens
  | _=>none
noncomputable def cEs (G:Gs):Nat→Scope→List Str→List Expr→Option CE
 | 0,_,_,_=>none
 | _+1,_,_,[]=>some .anil
 | n+1,sc,N,e :: es=>o2 .acons (cE G n sc N e) (cEs G n sc N es)
noncomputable def cO (G:Gs):Nat→Scope→List Str→Option Expr→Option CE
 | 0,_,_,_=>none
 | _+1,_,_,none=>some .nop
 | n+1,sc,N,some e=>(cE G n sc N e).map .part
end

noncomputable def Y5:Expr→Bool
 | .ListComp ..=>true
 | .SetComp ..=>true
 | .DictComp ..=>true
 | _=>false
noncomputable def Qk:Expr→Bool
 | .Tuple ..=>true
 | _=>false
noncomputable def ZhB (N:List Str) (tg e:Expr) (c:Option CE):Option CS:=match tg with
 | .Name x _=>o2 .set (N.idxOf? x) c
 | .Tuple [.Name x _,.Name y _] _ _=>og ((Y5 e||Qk e)=false) (o3 (fun i j c=>og (i≠j) (some (.set2 i j c))) (N.idxOf? x) (N.idxOf? y) c).join
 | .Tuple [.Name x _,.Name y _,.Name z _] _ _=>og ((Y5 e||Qk e)=false) (o3 (fun i j (p:Nat×CE)=>.set3 i j p.1 p.2) (N.idxOf? x) (N.idxOf? y) (o2 Prod.mk (N.idxOf? z) c))
 | _=>none
noncomputable def ZfJ (_:Expr):Option (Expr×Expr):=none
noncomputable def Zh7 (sc:Scope) (N:List Str) (x:Str) (k e:Expr) (f:Expr→Option CE):Option CS:=og (Y5 e=false∧ZiO k=false∧XH sc x=true) (match ZfJ k with
 | some (a,b)=>o3 (fun i (p:CE×CE) c=>.dput i p.1 p.2 c) (N.idxOf? x) (o2 Prod.mk (f a) (f b)) (f e)
 | none=>o3 .put (N.idxOf? x) (f k) (f e))
noncomputable def Zgo (G:Gs) (sc:Scope) (N:List Str) (f:Expr→Option CE) (fs:List Expr→Option CE) (tg it:Expr) (b:Option CS):Option CS:=match tg with
 | .Name x _=>(match Xe G sc it with
  | some as=>o3 .for3 (N.idxOf? x) (fs as) b
  | none=>match Z1 G sc it with
   | some a=>o3 (fun i c b=>.for1 i true c b) (N.idxOf? x) (f a) b
   | none=>o3 (fun i c b=>.for1 i false c b) (N.idxOf? x) (f it) b)
 | .Tuple [.Name x _,.Name y _] _ _=>(o2 (fun i j=>og (i≠j) (some (i,j))) (N.idxOf? x) (N.idxOf? y)).join.bind fun p=>(match WA G sc it with
  | some as=>o2 (.forP p.1 p.2) (fs as) b
  | none=>match Wq G sc it with
   | some e=>o2 (.forE p.1 p.2) (f e) b
   | none=>o2 (.for2 p.1 p.2) (f it) b)
 | .Tuple [.Name x _,.Name y _,.Name z _] _ _=>o3 (fun (p:Nat×Nat) (q:Nat×CE) b=>.for4 p.1 p.2 q.1 q.2 b) (o2 Prod.mk (N.idxOf? x) (N.idxOf? y)) (o2 Prod.mk (N.idxOf? z) (f it)) b
 | _=>none
noncomputable def ZhA (sc:Scope) (N:List Str) (x m:Str) (ap cp:Pos) (c:Option CE):Option CS:=og (XH sc x=true∧(ap.endLine==cp.line)=true) (if m = "append" then o2 .app (N.idxOf? x) c else if m = "extend" then o2 .ext (N.idxOf? x) c else none)
noncomputable def Zhz (sc:Scope) (N:List Str) (f:Expr→Option CE):Expr→Option CS
 | .Call (.Name g fp) as kw cp=>(f (.Call (.Name g fp) as kw cp)).map .act
 | .Call (.Attribute (.Name x _) m ap) [e] [] cp=>ZhA sc N x m ap cp (f e)
 | .Call (.Attribute (.Subscript o k p) m ap) [e] [] cp=>og (m = "append"∧(ap.endLine==cp.line)=true) (o2 .app2 (f (.Subscript o k p)) (f e))
 | _=>none
mutual
noncomputable def cS (G:Gs):Nat→Scope→List Str→Stmt→Option CS
 | 0,_,_,_=>none
 | n+1,sc,N,s=>match s with
  | .Assign [.Subscript (.Name x _) k _] e _=>Zh7 sc N x k e (cE G n sc N)
  | .Assign [tg] e _=>ZhB N tg e (cE G n sc N e)
  | .Expr e _=>Zhz sc N (cE G n sc N) e
  | .Return (some e) _=>(cE G n sc N e).map .ret
  | .If c a b _=>o3 .ite (cE G n sc N c) (cSs G n sc N a) (cSs G n sc N b)
  | .For tg it b [] _=>Zgo G sc N (cE G n sc N) (cEs G n sc N) tg it (cSs G n sc N b)
  | .Pass _=>some .skip
  | .Break _=>some .brk
  | .Continue _=>some .cont
  | .Raise _ _ _=>some .stop
  | _=>none
noncomputable def cSs (G:Gs):Nat→Scope→List Str→List Stmt→Option CS
 | 0,_,_,_=>none
 | _+1,_,_,[]=>some .skip
 | n+1,sc,N,s :: r=>o2 .seq (cS G n sc N s) (cSs G n sc N r)
end
end Dp


namespace Dp
open PySem PySem.Spec PyProof.Rows L2
class ClsTab where
 ca:Nat→Addr
variable [ClsTab]

theorem Zu {X:Cx}{e:Expr}{t t':TE} (h:PE X e t) (i:∀ σ H Q,t' σ H Q→t σ H Q):PE X e t':=fun pins s σ H Q I q=>h pins s σ H Q I (i σ H Q q)
theorem Vf {X:Cx}{e:Expr}{t t':TT} (h:PT X e t) (i:∀ σ H Q,t' σ H Q→t σ H Q):PT X e t':=fun pins s σ H Q I q=>h pins s σ H Q I (i σ H Q q)
theorem ZcV {X:Cx}{e:List Expr}{t t':TA} (h:PA X e t) (i:∀ σ H Q,t' σ H Q→t σ H Q):PA X e t':=fun pos pins s σ H Q I q=>h pos pins s σ H Q I (i σ H Q q)
theorem Zc7 {X:Cx}{e:Option Expr}{t t':TO} (h:PO X e t) (i:∀ σ H Q,t' σ H Q→t σ H Q):PO X e t':=fun pins s σ H Q I q=>h pins s σ H Q I (i σ H Q q)
theorem ZK {X:Cx}{e:Stmt}{t t':TS} (h:PS X e t) (i:∀ D σ H,t' D σ H→t D σ H):PS X e t':=fun pins s σ H D I q=>h pins s σ H D I (i D σ H q)
theorem Zap {X:Cx}{e:List Stmt}{t t':TS} (h:PSs X e t) (i:∀ D σ H,t' D σ H→t D σ H):PSs X e t':=fun pins s σ H D I q=>h pins s σ H D I (i D σ H q)

def KT (K:PySem.W.Frag) (a:Addr) (xs:List V):Prop:=
 ∃ (o:Obj) (its:Array Value) (n:Nat),K.lookup a=some o∧o.cls=.type "tuple"∧o.data=.seq its n∧its.size≤sizeLine∧Vals xs its.toList
def TupAt (K:PySem.W.Frag) (H:Hp) (a:Addr) (xs:List V):Prop:=H a=some (.tup xs)∨KT K a xs
theorem TupAt.sq {K:PySem.W.Frag}{H:Hp}{a:Addr}{xs:List V} (h:TupAt K H a xs):SqT K H a xs:=by
 rcases h with h | h
 ·exact .inl (.inl h)
 ·exact .inr h
def Yu (H:Hp) (a:Addr):Prop:=∃ kvs,H a=some (.dT kvs)
def LA (ad:List Addr) (H:Hp) (i:Nat) (a:Addr):Prop:=ad[i]?=some a∧¬Yu H a
theorem Uw {H:Hp}{a:Addr}{o:HO} (h:H a=some o) (n:∀ kvs,o≠.dT kvs):¬Yu H a:=fun ⟨kvs,z⟩=>n kvs (Option.some.inj (h.symm.trans z))
mutual
inductive Den (K:PySem.W.Frag) (ad:List Addr) (H:Hp):V→D→Prop where
 | non:Den K ad H .non .non
 | bl (b:Bool):Den K ad H (.bl b) (.bl b)
 | int (i:Int):Den K ad H (.int i) (.int i)
 | str (x:Str):Den K ad H (.str x) (.str x)
 | tup {a:Addr}{xs:List V}{ds:List D} (h:TupAt K H a xs) (r:Dens K ad H xs ds):Den K ad H (.ref a) (.tup ds)
 | lst {a:Addr}{i:Nat} (h:LA ad H i a):Den K ad H (.ref a) (.lst i)
 | dic {a:Addr}{i:Nat} (h:ad[i]?=some a) (n:Yu H a):Den K ad H (.ref a) (.dic i)
 | dct {a:Addr}{kvs:List (Key×V)}{ks:List Str}{vs:List V}{ds:List D} (h:H a=some (.dK kvs)) (hk:kvs=(ks.zip vs).map fun p=>(Sum.inr p.1,p.2)) (nd:ks.Nodup∧ks≠[]) (hl:ks.length=vs.length) (r:Dens K ad H vs ds):Den K ad H (.ref a) (.dct ks ds)
 | obj {a dx:Addr}{i:Nat} (h:H a=some (.ins (ClsTab.ca i) dx [])) (n:a∉ad):Den K ad H (.ref a) (.obj i)
 | kt {a:Addr}{ks:List Str}{o:Obj}{its:Array Value}{n:Nat} (l:K.lookup a=some o) (c:o.cls=.type "tuple") (g:o.dict=none) (e:o.data=.seq its n) (z:its.size≤sizeLine) (r:Vals (ks.map V.str) its.toList):Den K ad H (.ref a) (.kt ks)
inductive Dens (K:PySem.W.Frag) (ad:List Addr) (H:Hp):List V→List D→Prop where
 | nil:Dens K ad H [] []
 | cons {v:V}{d:D}{vs:List V}{ds:List D} (h:Den K ad H v d) (r:Dens K ad H vs ds):Dens K ad H (v :: vs) (d :: ds)
end

structure Ext (ad:List Addr) (H:Hp) (ad':List Addr) (H':Hp):Prop where
 pre:∀ (i:Nat) (a:Addr),ad[i]?=some a→ad'[i]?=some a
 tup:∀ b xs,H b=some (.tup xs)→H' b=some (.tup xs)
 dk:∀ b kvs,H b=some (.dK kvs)→H' b=some (.dK kvs)
 keep:∀ b o,H b=some o→b∉ad→H' b=some o
 new:∀ b,b∈ad'→b∈ad∨H b=none
 kd:∀ (i:Nat) (a:Addr),ad[i]?=some a→(Yu H a↔Yu H' a)
theorem Ext.refl (ad:List Addr) (H:Hp):Ext ad H ad H:=⟨fun _ _ h=>h,fun _ _ h=>h,fun _ _ h=>h,fun _ _ h _=>h,fun _ h=>.inl h,fun _ _ _=>Iff.rfl⟩
theorem Ext.trans {a1 a2 a3:List Addr}{H1 H2 H3:Hp} (x:Ext a1 H1 a2 H2) (y:Ext a2 H2 a3 H3):Ext a1 H1 a3 H3:=by
 refine ⟨fun i a h=>y.pre i a (x.pre i a h),fun b xs h=>y.tup b xs (x.tup b xs h),fun b xs h=>y.dk b xs (x.dk b xs h),fun b o h n=>?_,fun b h=>?_,fun i a h=>(x.kd i a h).trans (y.kd i a (x.pre i a h))⟩
 ·refine y.keep b o (x.keep b o h n) fun z=>?_
  rcases x.new b z with z | z
  ·exact n z
  ·rw [h] at z; cases z
 ·rcases y.new b h with z | z
  ·exact x.new b z
  ·cases e:H1 b with
   | none=>exact .inr rfl
   | some o=>
    by_cases q:b∈a1
    ·exact .inl q
    ·rw [x.keep b o e q] at z; cases z

theorem TupAt.mono {K:PySem.W.Frag}{ad ad':List Addr}{H H':Hp}{a:Addr}{xs:List V} (x:Ext ad H ad' H') (h:TupAt K H a xs):TupAt K H' a xs:=h.imp (x.tup _ _) id
theorem TupAt.upd {K:PySem.W.Frag}{H:Hp}{a p:Addr}{xs:List V}{o o':HO} (hp:H p=some o) (ho:∀ xs,o≠.tup xs) (h:TupAt K H a xs):TupAt K (upd H p o') a xs:=by
 rcases h with h | h
 ·refine .inl ?_
  have n:a≠p:=fun z=>by subst z; rw [h] at hp; cases hp; exact ho _ rfl
  rw [upd_ne n]; exact h
 ·exact .inr h
section
variable {K:PySem.W.Frag}{ad ad':List Addr}{H H':Hp}
theorem Zhl {ks:List Str}{vs:List V} (h:ks≠[]) (hl:ks.length=vs.length):(ks.zip vs).map (fun p=>((Sum.inr p.1:Key),p.2))≠[]:=by
 cases ks with
 | nil=>exact absurd rfl h
 | cons k ks=>cases vs with
  | nil=>cases hl
  | cons v vs=>exact List.cons_ne_nil _ _
structure Keeps (K:PySem.W.Frag) (ad ad':List Addr) (H H':Hp):Prop where
 t:∀ {a xs},TupAt K H a xs→TupAt K H' a xs
 l:∀ {i:Nat}{a:Addr},ad[i]?=some a→ad'[i]?=some a∧(Yu H a↔Yu H' a)
 k:∀ {a kvs},kvs≠[]→H a=some (.dK kvs)→H' a=some (.dK kvs)
 o:∀ {a C dx},H a=some (.ins C dx [])→a∉ad→H' a=some (.ins C dx [])∧a∉ad'
theorem Den.map (x:Keeps K ad ad' H H') {v:V}{d:D} (h:Den K ad H v d):Den K ad' H' v d:=
 Den.rec (motive_1:=fun v d _=>Den K ad' H' v d) (motive_2:=fun vs ds _=>Dens K ad' H' vs ds) .non .bl .int .str (fun h _ r=>.tup (x.t h) r) (fun h=>.lst ⟨(x.l h.1).1,fun z=>h.2 ((x.l h.1).2.mpr z)⟩) (fun h n=>.dic (x.l h).1 ((x.l h).2.mp n)) (fun h hk nd hl _ r=>.dct (x.k (fun z=>Zhl nd.2 hl (hk.symm.trans z)) h) hk nd hl r) (fun h n=>.obj (x.o h n).1 (x.o h n).2) .kt .nil (fun _ _ a b=>.cons a b) h
theorem Dens.map (x:Keeps K ad ad' H H') {vs:List V}{ds:List D} (h:Dens K ad H vs ds):Dens K ad' H' vs ds:=
 Dens.rec (motive_1:=fun _ _ _=>True) (motive_2:=fun vs ds _=>Dens K ad' H' vs ds) trivial (fun _=>trivial) (fun _=>trivial) (fun _=>trivial) (fun _ _ _=>trivial) (fun _=>trivial) (fun _ _=>trivial) (fun _ _ _ _ _ _=>trivial) (fun _ _=>trivial) (fun _ _ _ _ _ _=>trivial) .nil (fun a _ _ b=>.cons (a.map x) b) h
theorem Ext.keeps (x:Ext ad H ad' H'):Keeps K ad ad' H H':=⟨fun h=>h.mono x,fun h=>⟨x.pre _ _ h,x.kd _ _ h⟩,fun _ h=>x.dk _ _ h,fun h n=>⟨x.keep _ _ h n,fun z=>(x.new _ z).elim n fun q=>by rw [h] at q; cases q⟩⟩
theorem Den.mono (x:Ext ad H ad' H') {v:V}{d:D} (h:Den K ad H v d):Den K ad' H' v d:=h.map x.keeps
theorem Dens.mono (x:Ext ad H ad' H') {vs:List V}{ds:List D} (h:Dens K ad H vs ds):Dens K ad' H' vs ds:=h.map x.keeps
theorem Zgx (x:∀ (i:Nat) (a:Addr),ad[i]?=some a→ad'[i]?=some a) (y:∀ b,b∈ad'→b∈ad∨∃ xs,H b=some (.lst xs)):Keeps K ad ad' H H:=⟨id,fun h=>⟨x _ _ h,Iff.rfl⟩,fun _ h=>h,fun h n=>⟨h,fun z=>(y _ z).elim n fun ⟨xs,q⟩=>by rw [h] at q; cases q⟩⟩
theorem Dens.length:∀ {vs:List V}{ds:List D},Dens K ad H vs ds→vs.length=ds.length
 | _,_,.nil=>rfl
 | _,_,.cons _ r=>congrArg (·+1) (Dens.length r)
theorem Dens.get:∀ {vs:List V}{ds:List D}{i:Nat}{d:D},Dens K ad H vs ds→ds[i]?=some d→∃ v,vs[i]?=some v∧Den K ad H v d
 | _,_,_,_,.nil,e=>by simp at e
 | _,_,0,_,.cons h _,e=>by simp at e; subst e; exact ⟨_,rfl,h⟩
 | _,_,i+1,d,.cons _ r,e=>by
  obtain ⟨v,h1,h2⟩:=Dens.get (i:=i) (d:=d) r (by simpa using e)
  exact ⟨v,by simpa using h1,h2⟩
theorem Dens.append:∀ {vs ws:List V}{ds es:List D},Dens K ad H vs ds→Dens K ad H ws es→Dens K ad H (vs++ws) (ds++es)
 | _,_,_,_,.nil,s=>s
 | _,_,_,_,.cons h r,s=>.cons h (Dens.append r s)
theorem Dens.take:∀ {vs:List V}{ds:List D} (n:Nat),Dens K ad H vs ds→Dens K ad H (vs.take n) (ds.take n)
 | _,_,0,_=>.nil
 | _,_,_+1,.nil=>.nil
 | _,_,n+1,.cons h r=>.cons h (Dens.take n r)
theorem Dens.drop:∀ {vs:List V}{ds:List D} (n:Nat),Dens K ad H vs ds→Dens K ad H (vs.drop n) (ds.drop n)
 | _,_,0,r=>r
 | _,_,_+1,.nil=>.nil
 | _,_,n+1,.cons _ r=>Dens.drop n r
theorem Dens.set {v:V}{d:D} (h:Den K ad H v d):∀ {vs:List V}{ds:List D} (n:Nat),Dens K ad H vs ds→Dens K ad H (vs.set n v) (ds.set n d)
 | _,_,_,.nil=>.nil
 | _,_,0,.cons _ r=>.cons h r
 | _,_,n+1,.cons q r=>.cons q (Dens.set h n r)
theorem Dens.rep {v:V}{d:D} (h:Den K ad H v d):∀ n:Nat,Dens K ad H (List.replicate n v) (List.replicate n d)
 | 0=>.nil
 | n+1=>.cons h (Dens.rep h n)
theorem Den.ofInt {v:V}{i:Int} (h:Den K ad H v (.int i)):v=.int i:=by cases h; rfl
theorem Den.ofBl {v:V}{b:Bool} (h:Den K ad H v (.bl b)):v=.bl b:=by cases h; rfl
theorem Den.ofDct {v:V}{ks:List Str}{ds:List D} (h:Den K ad H v (.dct ks ds)):∃ a vs,v=.ref a∧H a=some (.dK ((ks.zip vs).map fun p=>(Sum.inr p.1,p.2)))∧ks.length=vs.length∧Dens K ad H vs ds:=by
 cases h with
 | dct h hk nd hl r=>subst hk; exact ⟨_,_,rfl,h,hl,r⟩
theorem Den.ofTup {v:V}{ds:List D} (h:Den K ad H v (.tup ds)):∃ a xs,v=.ref a∧TupAt K H a xs∧Dens K ad H xs ds:=by
 cases h with
 | tup h r=>exact ⟨_,_,rfl,h,r⟩
theorem Den.ofLst {v:V}{i:Nat} (h:Den K ad H v (.lst i)):∃ a,v=.ref a∧LA ad H i a:=by
 cases h with
 | lst h=>exact ⟨_,rfl,h⟩
theorem Den.newL {a:Addr}{i:Nat}{xs:List V} (h:ad[i]?=some a):Den K ad (upd H a (.lst xs)) (.ref a) (.lst i):=.lst ⟨h,Uw upd_same fun _ z=>nomatch z⟩
theorem LA.mono {i:Nat}{a:Addr} (x:Ext ad H ad' H') (h:LA ad H i a):LA ad' H' i a:=⟨x.pre _ _ h.1,fun z=>h.2 ((x.kd _ _ h.1).mpr z)⟩

theorem Den.ofKt {v:V}{ks:List Str} (h:Den K ad H v (.kt ks)):∃ a o its n,v=.ref a∧K.lookup a=some o∧(o.cls=.type "tuple"∧o.dict=none)∧o.data=.seq its n∧its.size≤sizeLine∧Vals (ks.map V.str) its.toList:=by
 cases h with
 | kt l c g e z r=>exact ⟨_,_,_,_,rfl,l,⟨c,g⟩,e,z,r⟩
theorem VV:∀ ks:List Str,Dens K ad H (ks.map V.str) (ks.map D.str)
 | []=>.nil
 | k :: ks=>.cons (.str k) (VV ks)

def KL (K:PySem.W.Frag) (a:Addr) (xs:List V):Prop:=
 ∃ (o:Obj) (its:Array Value) (n:Nat),(K.lookup a=some o∧o.cls=.type "list")∧(o.dict=none∧o.data=.seq its n)∧its.size≤sizeLine∧Vals xs its.toList
inductive Ents (K:PySem.W.Frag) (ad:List Addr) (H:Hp):List (List Key×V)→List D→Prop where
 | nil:Ents K ad H [] []
 | cons {i j:Int}{v:V}{d:D}{kvs:List (List Key×V)}{ds:List D} (h:Den K ad H v d) (r:Ents K ad H kvs ds):Ents K ad H (([.inl i,.inl j],v) :: kvs) (.tup [.int i,.int j,d] :: ds)
theorem Ents.map (x:Keeps K ad ad' H H') {kvs:List (List Key×V)}{ds:List D} (h:Ents K ad H kvs ds):Ents K ad' H' kvs ds:=by
 induction h with
 | nil=>exact .nil
 | cons h _ ih=>exact .cons (h.map x) ih
theorem Ents.mono (x:Ext ad H ad' H') {kvs:List (List Key×V)}{ds:List D} (h:Ents K ad H kvs ds):Ents K ad' H' kvs ds:=h.map x.keeps
inductive CellOk (K:PySem.W.Frag) (ad:List Addr) (H:Hp) (a:Addr) (c:V4):Prop where
 | l {xs:List V} (n:¬Yu H a) (r:Dens K ad H xs c.2) (h:(c.1=true∧H a=some (.lst xs))∨(c.1=false∧((∃ o,H a=some (.frz o (.lst xs)))∨KL K a xs)))
 | d {kvs:List (List Key×V)} (r:Ents K ad H kvs c.2) (e:c.1=true) (h:H a=some (.dT kvs))
structure StOk (K:PySem.W.Frag) (ad:List Addr) (H:Hp) (st:Za):Prop where
 len:ad.length=st.length
 nd:∀ (i j:Nat) (a:Addr) (c d:List D),ad[i]?=some a→ad[j]?=some a→st[i]?=some (true,c)→st[j]?=some (true,d)→i=j
 cell:∀ (i:Nat) (c:V4),st[i]?=some c→∃ a,ad[i]?=some a∧CellOk K ad H a c

theorem CellOk.sq {a:Addr}{c:V4} (h:CellOk K ad H a c) (n:¬Yu H a):∃ xs,Dens K ad H xs c.2∧SqL K H a xs:=by
 cases h with
 | l _ r h=>
  obtain ⟨_,e⟩ | ⟨_,⟨o,e⟩ | ⟨o,its,n,⟨h1,h2⟩,⟨h3,h4⟩,h5,h6⟩⟩:=h
  ·exact ⟨_,r,.inl (.inl e)⟩
  ·exact ⟨_,r,.inl (.inr ⟨o,e⟩)⟩
  ·exact ⟨_,r,.inr ⟨o,its,n,h1,h2,h3,h4,h5,h6⟩⟩
 | d r e h=>exact absurd ⟨_,h⟩ n
theorem StOk.list {st:Za}{a:Addr}{i:Nat}{b:Bool}{ds:List D} (S:StOk K ad H st) (h:LA ad H i a) (e:st[i]?=some (b,ds)):∃ xs,Dens K ad H xs ds∧SqL K H a xs:=by
 obtain ⟨a',e',c⟩:=S.cell i _ e
 rw [h.1] at e'; cases e'
 exact c.sq h.2
theorem StOk.listM {st:Za}{a:Addr}{i:Nat}{ds:List D} (S:StOk K ad H st) (h:LA ad H i a) (e:st[i]?=some (true,ds)):∃ xs,Dens K ad H xs ds∧H a=some (.lst xs):=by
 obtain ⟨a',e',c⟩:=S.cell i _ e
 rw [h.1] at e'; cases e'
 cases c with
 | l _ r q=>
  obtain ⟨_,q⟩ | ⟨q,_⟩:=q
  ·exact ⟨_,r,q⟩
  ·cases q
 | d r _ q=>exact absurd ⟨_,q⟩ h.2
theorem StOk.dict {st:Za}{a:Addr}{i:Nat}{b:Bool}{ds:List D} (S:StOk K ad H st) (h:ad[i]?=some a) (n:Yu H a) (e:st[i]?=some (b,ds)):∃ kvs,Ents K ad H kvs ds∧H a=some (.dT kvs)∧b=true:=by
 obtain ⟨a',e',c⟩:=S.cell i _ e
 rw [h] at e'; cases e'
 cases c with
 | l z=>exact absurd n z
 | d r e q=>exact ⟨_,r,q,e⟩
theorem JM {p a:Addr}{o:HO} (hp:¬Yu H p) (ho:∀ kvs,o≠.dT kvs):Yu H a↔Yu (upd H p o) a:=by
 by_cases z:a=p
 ·subst z
  exact ⟨fun q=>absurd q hp,fun q=>absurd q (Uw upd_same ho)⟩
 ·unfold Yu
  rw [upd_ne z]
theorem Zag {p:Addr} (hp:H p=none):¬Yu H p:=fun ⟨_,z⟩=>by rw [hp] at z; cases z
theorem Ext.laid {p:Addr}{o:HO} (hp:H p=none) (ho:∀ kvs,o≠.dT kvs:=by intro _ z; cases z):Ext ad H ad (upd H p o):=
 ⟨fun _ _ h=>h,fun b xs h=>by rw [upd_ne (ne_of_none h hp)]; exact h,fun b xs h=>by rw [upd_ne (ne_of_none h hp)]; exact h,fun b o h _=>by rw [upd_ne (ne_of_none h hp)]; exact h,fun _ h=>.inl h,fun _ _ _=>JM (Zag hp) ho⟩
theorem CellOk.laid {i:Nat}{p a:Addr}{o:HO}{c:V4}{ad':List Addr} (ha:ad[i]?=some a) (hp:H p=none) (x:Ext ad H ad' (upd H p o)) (h:CellOk K ad H a c):CellOk K ad' (upd H p o) a c:=by
 cases h with
 | l n r h=>
  refine .l (fun z=>n ((x.kd i a ha).mpr z)) (r.mono x) ?_
  rcases h with ⟨b,e⟩ | ⟨b,⟨o,e⟩ | e⟩
  ·exact .inl ⟨b,by rw [upd_ne (ne_of_none e hp)]; exact e⟩
  ·exact .inr ⟨b,.inl ⟨o,by rw [upd_ne (ne_of_none e hp)]; exact e⟩⟩
  ·exact .inr ⟨b,.inr e⟩
 | d r e h=>exact .d (r.mono x) e (by rw [upd_ne (ne_of_none h hp)]; exact h)
theorem StOk.laid {st:Za}{p:Addr}{o:HO} (S:StOk K ad H st) (hp:H p=none) (ho:∀ kvs,o≠.dT kvs:=by intro _ z; cases z):StOk K ad (upd H p o) st:=
 ⟨S.len,S.nd,fun i c e=>let ⟨a,h,q⟩:=S.cell i c e; ⟨a,h,q.laid h hp (Ext.laid hp ho)⟩⟩
theorem XG {α:Type}{l:List α}{x y:α}{i:Nat} (h:(l++[x])[i]?=some y):l[i]?=some y∨(i=l.length∧y=x):=by
 by_cases hi:i < l.length
 ·rw [List.getElem?_append_left hi] at h
  exact .inl h
 ·rw [List.getElem?_append_right (by omega)] at h
  have:i - l.length=0:=by
   cases e:i - l.length with
   | zero=>rfl
   | succ k=>rw [e] at h; simp at h
  rw [this] at h
  simp at h
  exact .inr ⟨by omega,h.symm⟩
theorem Y9 {α:Type}{l:List α}{x y:α}{i:Nat} (h:l[i]?=some y):(l++[x])[i]?=some y:=by
 rw [List.getElem?_append_left (List.getElem?_eq_some_iff.mp h).1]
 exact h
theorem ZL {α:Type}{l:List α}{x:α}:(l++[x])[l.length]?=some x:=by simp
theorem Ext.pushG {p:Addr}{o:HO} (hp:H p=none) (hk:∀ (i:Nat) (a:Addr),ad[i]?=some a→(Yu H a↔Yu (upd H p o) a)):Ext ad H (ad++[p]) (upd H p o):=
 ⟨fun _ _ h=>Y9 h,fun b xs h=>by rw [upd_ne (ne_of_none h hp)]; exact h,fun b xs h=>by rw [upd_ne (ne_of_none h hp)]; exact h,fun b o h _=>by rw [upd_ne (ne_of_none h hp)]; exact h,fun b h=>(List.mem_append.mp h).elim .inl fun z=>.inr (by rw [List.mem_singleton.mp z]; exact hp),hk⟩
theorem Ext.push {p:Addr}{xs:List V} (hp:H p=none):Ext ad H (ad++[p]) (upd H p (.lst xs)):=Ext.pushG hp fun _ _ _=>JM (Zag hp) fun _ z=>nomatch z
theorem StOk.more {st:Za}{p:Addr}{H':Hp}{ds:List D} (S:StOk K ad H st) (hn:∀ (i:Nat) (c:List D),ad[i]?=some p→st[i]?=some (true,c)→False) (hc:∀ (i:Nat) (c:V4) (a:Addr),ad[i]?=some a→CellOk K ad H a c→CellOk K (ad++[p]) H' a c) (hp:CellOk K (ad++[p]) H' p (true,ds)):StOk K (ad++[p]) H' (st++[(true,ds)]):=by
 have old:∀ (i:Nat) (c:List D) (a:Addr),(ad++[p])[i]?=some a→st[i]?=some (true,c)→ad[i]?=some a:=fun i c a h e=>by
  obtain ⟨a1,q1,_⟩:=S.cell i _ e
  have z1:=Y9 (x:=p) q1
  rw [h] at z1; cases z1; exact q1
 refine ⟨by rw [List.length_append,List.length_append,S.len]; rfl,fun i j a c d h1 h2 h3 h4=>?_,fun i c e=>?_⟩
 ·rcases XG h3 with h3 | ⟨e3,_⟩
  ·rcases XG h4 with h4 | ⟨e4,_⟩
   ·exact S.nd i j a c d (old i c a h1 h3) (old j d a h2 h4) h3 h4
   ·have q1:=old i c a h1 h3
    rw [e4,←S.len,ZL] at h2
    cases h2
    exact (hn i c q1 h3).elim
  ·rcases XG h4 with h4 | ⟨e4,_⟩
   ·have q2:=old j d a h2 h4
    rw [e3,←S.len,ZL] at h1
    cases h1
    exact (hn j d q2 h4).elim
   ·omega
 ·rcases XG e with e | ⟨e1,e2⟩
  ·obtain ⟨a,h,q⟩:=S.cell i c e
   exact ⟨a,Y9 h,hc i c a h q⟩
  ·subst e2
   exact ⟨p,by rw [e1,←S.len]; exact ZL,hp⟩
theorem StOk.noNew {st:Za}{p:Addr} (S:StOk K ad H st) (hp:H p=none) (i:Nat) (c:List D) (h:ad[i]?=some p) (e:st[i]?=some (true,c)):False:=by
 obtain ⟨a',e',q⟩:=S.cell i _ e
 rw [h] at e'; cases e'
 cases q with
 | l _ _ q=>
  obtain ⟨_,q⟩ | ⟨q,_⟩:=q
  ·rw [hp] at q; cases q
  ·cases q
 | d _ _ q=>rw [hp] at q; cases q
theorem StOk.push {st:Za}{p:Addr}{xs:List V}{ds:List D} (S:StOk K ad H st) (hp:H p=none) (r:Dens K ad H xs ds):StOk K (ad++[p]) (upd H p (.lst xs)) (st++[(true,ds)]):=
 S.more (S.noNew hp) (fun _ _ _ h q=>q.laid h hp (Ext.push hp)) (.l (Uw upd_same fun _ z=>nomatch z) (r.mono (Ext.push hp)) (.inl ⟨rfl,upd_same⟩))
theorem StOk.wrG {st:Za}{p:Addr}{o:HO} (S:StOk K ad H st) (kp:Keeps K ad ad H (upd H p o)) (hn:p∉ad):StOk K ad (upd H p o) st:=
 ⟨S.len,S.nd,fun i c e=>by
  obtain ⟨a,h,q⟩:=S.cell i c e
  have ne:a≠p:=fun z=>hn (by rw [←z]; exact List.mem_of_getElem? h)
  refine ⟨a,h,?_⟩
  cases q with
  | l n r q=>
   refine .l (fun z=>n ((kp.l h).2.mpr z)) (r.map kp) ?_
   rcases q with ⟨b,q⟩ | ⟨b,⟨o,q⟩ | q⟩
   ·exact .inl ⟨b,by rw [upd_ne ne]; exact q⟩
   ·exact .inr ⟨b,.inl ⟨o,by rw [upd_ne ne]; exact q⟩⟩
   ·exact .inr ⟨b,.inr q⟩
  | d r t q=>exact .d (r.map kp) t (by rw [upd_ne ne]; exact q)⟩
theorem StOk.has {st:Za}{i:Nat}{a:Addr} (S:StOk K ad H st) (hi:ad[i]?=some a):(∃ o,H a=some o)∨∃ o,K.lookup a=some o:=by
 obtain ⟨a',e',q⟩:=S.cell i _ (List.getElem?_eq_getElem (show i < st.length by rw [←S.len]; exact (List.getElem?_eq_some_iff.mp hi).1))
 rw [hi] at e'; cases e'
 cases q with
 | l _ _ q=>
  obtain ⟨_,q⟩ | ⟨_,⟨o,q⟩ | ⟨o,its,m,⟨h1,h2⟩,_⟩⟩:=q
  ·exact .inl ⟨_,q⟩
  ·exact .inl ⟨_,q⟩
  ·exact .inr ⟨_,h1⟩
 | d _ _ q=>exact .inl ⟨_,q⟩
theorem StOk.adopt {st:Za}{p:Addr}{xs:List V}{ds:List D} (S:StOk K ad H st) (hp:H p=some (.lst xs)) (hn:p∉ad) (r:Dens K ad H xs ds):StOk K (ad++[p]) H (st++[(true,ds)]):=by
 have kp:Keeps K ad (ad++[p]) H H:=Zgx (fun _ _ h=>Y9 h) (fun b hb=>(List.mem_append.mp hb).imp id fun z=>⟨xs,by rw [List.mem_singleton.mp z]; exact hp⟩)
 exact S.more (fun i _ h _=>hn (List.mem_of_getElem? h)) (fun _ _ _ _ q=>by
  cases q with
  | l n r h=>exact .l n (r.map kp) h
  | d r e h=>exact .d (r.map kp) e h) (.l (Uw hp fun _ z=>nomatch z) (r.map kp) (.inl ⟨rfl,hp⟩))
theorem Ext.writeG {a:Addr}{o o':HO} (h:H a=some o) (ha:a∈ad) (h1:∀ xs,o≠.tup xs) (h2:∀ xs,o≠.dK xs) (hk:Yu H a↔Yu (upd H a o') a):Ext ad H ad (upd H a o'):=
 ⟨fun _ _ h=>h,fun b zs e=>by rw [upd_ne (ne_of e h (fun z=>h1 _ z.symm))]; exact e,fun b zs e=>by rw [upd_ne (ne_of e h (fun z=>h2 _ z.symm))]; exact e,fun b o e n=>by rw [upd_ne (show b≠a from fun z=>n (by rw [z]; exact ha))]; exact e,fun _ h=>.inl h,fun _ b _=>by
  by_cases z:b=a
  ·rw [z]; exact hk
  ·unfold Yu; rw [upd_ne z]⟩
theorem Ext.write {a:Addr}{xs ys:List V} (h:H a=some (.lst xs)) (ha:a∈ad):Ext ad H ad (upd H a (.lst ys)):=
 Ext.writeG h ha (fun _ z=>nomatch z) (fun _ z=>nomatch z) ⟨fun z=>absurd z (Uw h fun _ z=>nomatch z),fun z=>absurd z (Uw upd_same fun _ z=>nomatch z)⟩
theorem StOk.writeG {st:Za}{a:Addr}{i:Nat}{ds es:List D}{o o':HO} (S:StOk K ad H st) (h:ad[i]?=some a) (e:st[i]?=some (true,ds)) (hx:H a=some o) (hf:∀ q u,o≠.frz q u) (x:Ext ad H ad (upd H a o')) (r:CellOk K ad (upd H a o') a (true,es)) :
  StOk K ad (upd H a o') (st.set i (true,es)):=by
 have hi:i < st.length:=(List.getElem?_eq_some_iff.mp e).1
 refine ⟨by rw [List.length_set]; exact S.len,fun j k b c d h1 h2 h3 h4=>?_,fun j c q=>?_⟩
 ·have up:∀ (j:Nat) (c:List D),(st.set i (true,es))[j]?=some (true,c)→∃ c',st[j]?=some (true,c'):=fun j c q=>by
   by_cases z:i=j
   ·subst z; exact ⟨_,e⟩
   ·rw [List.getElem?_set_ne z] at q; exact ⟨_,q⟩
  obtain ⟨c',h3⟩:=up j c h3
  obtain ⟨d',h4⟩:=up k d h4
  exact S.nd j k b c' d' h1 h2 h3 h4
 ·by_cases z:i=j
  ·subst z
   rw [List.getElem?_set_self hi] at q
   cases q
   exact ⟨a,h,r⟩
  ·rw [List.getElem?_set_ne z] at q
   obtain ⟨b,hb,hz⟩:=S.cell j c q
   refine ⟨b,hb,?_⟩
   have ne:c.1=true→b≠a:=fun t w=>by
    obtain ⟨cb,cl⟩:=c
    cases (show cb=true from t)
    exact z (S.nd i j a ds cl h (w ▸ hb) e q)
   cases hz with
   | l n rz hz=>
    refine .l (fun z=>n ((x.kd j b hb).mpr z)) (rz.mono x) ?_
    rcases hz with ⟨t,hz⟩ | ⟨t,⟨o,hz⟩ | hz⟩
    ·exact .inl ⟨t,by rw [upd_ne (ne t)]; exact hz⟩
    ·exact .inr ⟨t,.inl ⟨o,by rw [upd_ne (ne_of hz hx (fun z=>hf _ _ z.symm))]; exact hz⟩⟩
    ·exact .inr ⟨t,.inr hz⟩
   | d rz t hz=>exact .d (rz.mono x) t (by rw [upd_ne (ne t)]; exact hz)
theorem StOk.write {st:Za}{a:Addr}{i:Nat}{ds es:List D}{xs ys:List V} (S:StOk K ad H st) (h:LA ad H i a) (e:st[i]?=some (true,ds)) (hx:H a=some (.lst xs)) (r:Dens K ad H ys es) :
  StOk K ad (upd H a (.lst ys)) (st.set i (true,es)):=
 S.writeG h.1 e hx (fun _ _ z=>nomatch z) (Ext.write hx (List.mem_of_getElem? h.1)) (.l (Uw upd_same fun _ z=>nomatch z) (r.mono (Ext.write hx (List.mem_of_getElem? h.1))) (.inl ⟨rfl,upd_same⟩))

structure EnvOk (K:PySem.W.Frag) (ad:List Addr) (H:Hp) (σ:L2.St) (ρ:Env):Prop where
 len:σ.length=ρ.length
 at_:∀ (i:Nat) (d:D),ρ[i]?=some (some d)→∃ v,σ[i]?=some (some v)∧Den K ad H v d
theorem EnvOk.mono {σ:L2.St}{ρ:Env} (x:Ext ad H ad' H') (h:EnvOk K ad H σ ρ):EnvOk K ad' H' σ ρ:=⟨h.len,fun i d e=>let ⟨v,e1,e2⟩:=h.at_ i d e; ⟨v,e1,e2.mono x⟩⟩
theorem EnvOk.set {σ:L2.St}{ρ:Env}{v:V}{d:D} (h:EnvOk K ad H σ ρ) (i:Nat) (r:Den K ad H v d):EnvOk K ad H (σ.set i (some v)) (Zo ρ i d):=by
 refine ⟨by unfold Zo; rw [List.length_set,List.length_set]; exact h.len,fun j e q=>?_⟩
 unfold Zo at q
 by_cases z:i=j
 ·subst z
  by_cases hi:i < ρ.length
  ·rw [List.getElem?_set_self hi] at q
   cases q
   exact ⟨v,by rw [List.getElem?_set_self (by rw [h.len]; exact hi)],r⟩
  ·rw [List.getElem?_eq_none (by rw [List.length_set]; omega)] at q
   cases q
 ·rw [List.getElem?_set_ne z] at q
  obtain ⟨w,e1,e2⟩:=h.at_ j e q
  exact ⟨w,by rw [List.getElem?_set_ne z]; exact e1,e2⟩
end

def Post (K:PySem.W.Frag) (ad:List Addr) (H:Hp) (d:D) (st':Za) (Q:VK):Prop:=∀ v ad' H',Ext ad H ad' H'→StOk K ad' H' st'→Den K ad' H' v d→Q v H'
noncomputable def tE (K:PySem.W.Frag) (f:Env→Za→Res):TE:=fun σ H Q=>∃ ad ρ st d st',EnvOk K ad H σ ρ∧StOk K ad H st∧f ρ st=some (d,st')∧Post K ad H d st' Q
noncomputable def tT (K:PySem.W.Frag) (f:Env→Za→Res):TT:=fun σ H Q=>∃ ad ρ st k st',EnvOk K ad H σ ρ∧StOk K ad H st∧f ρ st=some (.bl k,st')∧∀ ad' H',Ext ad H ad' H'→StOk K ad' H' st'→Q k H'
noncomputable def tA (K:PySem.W.Frag) (f:Env→Za→Res):TA:=fun σ H Q=>∃ ad ρ st ds st',EnvOk K ad H σ ρ∧StOk K ad H st∧f ρ st=some (.tup ds,st')∧∀ vs ad' H',Ext ad H ad' H'→StOk K ad' H' st'→Dens K ad' H' vs ds→Q vs H'
noncomputable def rD (K:PySem.W.Frag) (f:D→D→Za→Res):R2:=fun x y H Q=>∃ ad st dx dy d st',StOk K ad H st∧Den K ad H x dx∧Den K ad H y dy∧f dx dy st=some (d,st')∧Post K ad H d st' Q
noncomputable def spD (K:PySem.W.Frag) (g:Fn):Sp:=fun vs H Q _=>∃ ad ds st d st',StOk K ad H st∧Dens K ad H vs ds∧g ds st=some (d,st')∧Post K ad H d st' Q
noncomputable def tS (K:PySem.W.Frag) (f:Env→Za→Option (Fl×Za)):TS:=fun D σ H=>∃ ad ρ st r st',EnvOk K ad H σ ρ∧StOk K ad H st∧f ρ st=some (r,st') ∧
 match r with
 | .nx ρ'=>∀ σ' ad' H',Ext ad H ad' H'→StOk K ad' H' st'→EnvOk K ad' H' σ' ρ'→D.nx σ' H'
 | .bk ρ'=>∀ σ' ad' H',Ext ad H ad' H'→StOk K ad' H' st'→EnvOk K ad' H' σ' ρ'→D.bk σ' H'
 | .ct ρ'=>∀ σ' ad' H',Ext ad H ad' H'→StOk K ad' H' st'→EnvOk K ad' H' σ' ρ'→D.ct σ' H'
 | .rt d=>Post K ad H d st' D.rt
theorem Post.at {K:PySem.W.Frag}{ad:List Addr}{H:Hp}{d:D}{st:Za}{Q:VK} (p:Post K ad H d st Q) (S:StOk K ad H st) {v:V} (h:Den K ad H v d):Q v H:=p v ad H (Ext.refl _ _) S h
theorem Post.later {K:PySem.W.Frag}{ad ad':List Addr}{H H':Hp}{d:D}{st:Za}{Q:VK} (p:Post K ad H d st Q) (x:Ext ad H ad' H'):Post K ad' H' d st Q:=fun v a2 H2 y S h=>p v a2 H2 (x.trans y) S h
end Dp



namespace Dp
open PySem PySem.Spec PyProof.Rows L2
variable [ClsTab]
section
variable {X:Cx}{a b c:Expr}{fa fb fc:Ev}{pos:Pos}

theorem Zek {K:PySem.W.Frag}{i:Nat} (σ:L2.St) (H:Hp) (Q:VK) (h:tE K (XF i) σ H Q):tVar i σ H Q:=by
 obtain ⟨ad,ρ,st,d,st',E,S,e,p⟩:=h
 unfold XF at e
 split at e
 ·rename_i q
  obtain ⟨v,e1,e2⟩:=E.at_ i _ q
  cases e
  exact ⟨v,e1,p.at S e2⟩
 ·cases e
theorem Qb {K:PySem.W.Frag}{v:V}{d:D} (hd:∀ ad H,Den K ad H v d) (σ:L2.St) (H:Hp) (Q:VK) (h:tE K (evC d) σ H Q):tC v σ H Q:=by
 obtain ⟨ad,ρ,st,d',st',E,S,e,p⟩:=h
 cases e
 exact p.at S (hd _ _)
theorem Ui {K:PySem.W.Frag}{g:D→D→Za→Res} (σ:L2.St) (H:Hp) (Q:VK) (h:tE K (Ye fa fb g) σ H Q):tOp (rD K g) (tE K fa) (tE K fb) σ H Q:=by
 obtain ⟨ad,ρ,st,d,st',E,S,e,p⟩:=h
 unfold Ye at e
 split at e
 ·rename_i x st1 q1
  split at e
  ·rename_i y st2 q2
   refine ⟨ad,ρ,st,x,st1,E,S,q1,fun v1 ad1 H1 x1 S1 d1=>⟨ad1,ρ,st1,y,st2,E.mono x1,S1,q2,fun v2 ad2 H2 x2 S2 d2=>?_⟩⟩
   exact ⟨ad2,st2,x,y,d,st',S2,d1.mono x2,d2,e,p.later (x1.trans x2)⟩
  ·cases e
 ·cases e
def rU1 (K:PySem.W.Frag) (g:D→Za→Res):V→Hp→VK→Prop:=fun x H Q=>∃ ad st dx d st',StOk K ad H st∧Den K ad H x dx∧g dx st=some (d,st')∧Post K ad H d st' Q
theorem Zgq {K:PySem.W.Frag}{g:D→Za→Res} (σ:L2.St) (H:Hp) (Q:VK) (h:tE K (Z2 fa g) σ H Q):tUn (rU1 K g) (tE K fa) σ H Q:=by
 obtain ⟨ad,ρ,st,d,st',E,S,e,p⟩:=h
 unfold Z2 at e
 split at e
 ·rename_i x st1 q1
  exact ⟨ad,ρ,st,x,st1,E,S,q1,fun v1 ad1 H1 x1 S1 d1=>⟨ad1,st1,x,d,st',S1,d1,e,p.later x1⟩⟩
 ·cases e
theorem Zcr {K:PySem.W.Frag} (σ:L2.St) (H:Hp) (Q:Bool→Hp→Prop) (h:tT K fa σ H Q):tE K fa σ H fun x H1=>∃ c,x=.bl c∧Q c H1:=by
 obtain ⟨ad,ρ,st,k,st',E,S,e,p⟩:=h
 exact ⟨ad,ρ,st,.bl k,st',E,S,e,fun v ad' H' x S' d'=>⟨k,d'.ofBl,p ad' H' x S'⟩⟩
theorem Yj {fc ft ff:Ev}{ρ:Env}{st:Za}{r:D×Za} (h:YB fc ft ff ρ st=some r):∃ k st1,fc ρ st=some (.bl k,st1)∧(if k=true then ft ρ st1 else ff ρ st1)=some r:=by
 unfold YB at h
 split at h
 ·rename_i st1 q
  exact ⟨true,st1,q,by rw [if_pos rfl]; exact h⟩
 ·rename_i st1 q
  exact ⟨false,st1,q,by rw [if_neg Bool.false_ne_true]; exact h⟩
 ·cases h
theorem Zgp {K:PySem.W.Frag} (σ:L2.St) (H:Hp) (Q:VK) (h:tE K (YB fc fa fb) σ H Q):tIf (tT K fc) (tE K fa) (tE K fb) σ H Q:=by
 obtain ⟨ad,ρ,st,d,st',E,S,e,p⟩:=h
 obtain ⟨k,st1,q,e⟩:=Yj e
 refine ⟨ad,ρ,st,k,st1,E,S,q,fun ad1 H1 x1 S1=>?_⟩
 cases k with
 | true=>
  rw [if_pos rfl] at e ⊢
  exact ⟨ad1,ρ,st1,d,st',E.mono x1,S1,e,p.later x1⟩
 | false=>
  rw [if_neg Bool.false_ne_true] at e ⊢
  exact ⟨ad1,ρ,st1,d,st',E.mono x1,S1,e,p.later x1⟩
theorem Zcd {K:PySem.W.Frag} (σ:L2.St) (H:Hp) (Q:VK) (h:tE K (YB fa fb (evC (.bl false))) σ H Q):tAndV (tE K fa) (tE K fb) σ H Q:=by
 obtain ⟨ad,ρ,st,d,st',E,S,e,p⟩:=h
 obtain ⟨k,st1,q,e⟩:=Yj e
 refine ⟨ad,ρ,st,.bl k,st1,E,S,q,fun v1 ad1 H1 x1 S1 d1=>⟨k,d1.ofBl,?_⟩⟩
 cases k with
 | true=>
  rw [if_pos rfl] at e ⊢
  exact ⟨ad1,ρ,st1,d,st',E.mono x1,S1,e,p.later x1⟩
 | false=>
  rw [if_neg Bool.false_ne_true] at e ⊢
  cases e
  exact (p.later x1).at S1 (.bl false)
theorem Zef {K:PySem.W.Frag} (σ:L2.St) (H:Hp) (Q:VK) (h:tE K (YB fa (evC (.bl true)) fb) σ H Q):tOrV (tE K fa) (tE K fb) σ H Q:=by
 obtain ⟨ad,ρ,st,d,st',E,S,e,p⟩:=h
 obtain ⟨k,st1,q,e⟩:=Yj e
 refine ⟨ad,ρ,st,.bl k,st1,E,S,q,fun v1 ad1 H1 x1 S1 d1=>⟨k,d1.ofBl,?_⟩⟩
 cases k with
 | true=>
  rw [if_pos rfl] at e ⊢
  cases e
  exact (p.later x1).at S1 (.bl true)
 | false=>
  rw [if_neg Bool.false_ne_true] at e ⊢
  exact ⟨ad1,ρ,st1,d,st',E.mono x1,S1,e,p.later x1⟩
theorem Zcc {K:PySem.W.Frag} (σ:L2.St) (H:Hp) (Q:Bool→Hp→Prop) (h:tT K (YB fa fb (evC (.bl false))) σ H Q):tAnd (tT K fa) (tT K fb) σ H Q:=by
 obtain ⟨ad,ρ,st,d,st',E,S,e,p⟩:=h
 obtain ⟨k,st1,q,e⟩:=Yj e
 refine ⟨ad,ρ,st,k,st1,E,S,q,fun ad1 H1 x1 S1=>?_⟩
 cases k with
 | true=>
  rw [if_pos rfl] at e ⊢
  exact ⟨ad1,ρ,st1,d,st',E.mono x1,S1,e,fun ad2 H2 x2 S2=>p ad2 H2 (x1.trans x2) S2⟩
 | false=>
  rw [if_neg Bool.false_ne_true] at e ⊢
  cases e
  exact p ad1 H1 x1 S1
theorem Zee {K:PySem.W.Frag} (σ:L2.St) (H:Hp) (Q:Bool→Hp→Prop) (h:tT K (YB fa (evC (.bl true)) fb) σ H Q):tOr (tT K fa) (tT K fb) σ H Q:=by
 obtain ⟨ad,ρ,st,d,st',E,S,e,p⟩:=h
 obtain ⟨k,st1,q,e⟩:=Yj e
 refine ⟨ad,ρ,st,k,st1,E,S,q,fun ad1 H1 x1 S1=>?_⟩
 cases k with
 | true=>
  rw [if_pos rfl] at e ⊢
  cases e
  exact p ad1 H1 x1 S1
 | false=>
  rw [if_neg Bool.false_ne_true] at e ⊢
  exact ⟨ad1,ρ,st1,d,st',E.mono x1,S1,e,fun ad2 H2 x2 S2=>p ad2 H2 (x1.trans x2) S2⟩
theorem Zcn {K:PySem.W.Frag} (σ:L2.St) (H:Hp) (Q:Bool→Hp→Prop) (h:tT K (Z2 fa Zbe) σ H Q):tNot (tT K fa) σ H Q:=by
 obtain ⟨ad,ρ,st,d,st',E,S,e,p⟩:=h
 unfold Z2 at e
 split at e
 ·rename_i x st1 q1
  cases x with
  | bl k=>
   cases (show some (D.bl (!k),st1)=_ from e)
   exact ⟨ad,ρ,st,k,_,E,S,q1,fun ad1 H1 x1 S1=>p ad1 H1 x1 S1⟩
  | _=>simp [Zbe] at e
 ·cases e
theorem Zco {K:PySem.W.Frag} (σ:L2.St) (H:Hp) (Q:VK) (h:tE K (Z2 fa Zbe) σ H Q):tNotV (tE K fa) σ H Q:=by
 obtain ⟨ad,ρ,st,d,st',E,S,e,p⟩:=h
 unfold Z2 at e
 split at e
 ·rename_i x st1 q1
  cases x with
  | bl k=>
   cases (show some (D.bl (!k),st1)=_ from e)
   exact ⟨ad,ρ,st,.bl k,_,E,S,q1,fun v1 ad1 H1 x1 S1 d1=>⟨k,d1.ofBl,(p.later x1).at S1 (.bl _)⟩⟩
  | _=>simp [Zbe] at e
 ·cases e
theorem U9 {K:PySem.W.Frag} (σ:L2.St) (H:Hp) (Q:List V→Hp→Prop) (h:tA K (evC (.tup [])) σ H Q):tNil σ H Q:=by
 obtain ⟨ad,ρ,st,d,st',E,S,e,p⟩:=h
 cases e
 exact p [] ad H (Ext.refl _ _) S .nil
theorem Za3 {K:PySem.W.Frag} (σ:L2.St) (H:Hp) (Q:List V→Hp→Prop) (h:tA K (Ye fa fb X9) σ H Q):tCons (tE K fa) (tA K fb) σ H Q:=by
 obtain ⟨ad,ρ,st,d,st',E,S,e,p⟩:=h
 unfold Ye at e
 split at e
 ·rename_i x st1 q1
  split at e
  ·rename_i y st2 q2
   cases y with
   | tup zs=>
    have e:(if zs.length < 1000 then some (D.tup (x :: zs),st2) else none)=some (D.tup d,st'):=e
    split at e
    ·cases e
     refine ⟨ad,ρ,st,_,st1,E,S,q1,fun v1 ad1 H1 x1 S1 d1=>⟨ad1,ρ,st1,zs,_,E.mono x1,S1,q2,fun v2 ad2 H2 x2 S2 d2=>?_⟩⟩
     exact p _ ad2 H2 (x1.trans x2) S2 (.cons (d1.mono x2) d2)
    ·cases e
   | _=>simp [X9] at e
  ·cases e
 ·cases e
theorem Zej {K:PySem.W.Frag} (hb:∀ ρ st ds st',fa ρ st=some (.tup ds,st')→ds.length≤1000) (ht:∀ ρ st d st',fa ρ st=some (d,st')→∃ ds,d=.tup ds) (σ:L2.St) (H:Hp) (Q:VK) (h:tE K fa σ H Q):tTup (tA K fa) σ H Q:=by
 obtain ⟨ad,ρ,st,d,st',E,S,e,p⟩:=h
 obtain ⟨ds,rfl⟩:=ht _ _ _ _ e
 refine ⟨ad,ρ,st,ds,st',E,S,e,fun vs ad1 H1 x1 S1 d1=>⟨?_,fun q hq=>?_⟩⟩
 ·rw [d1.length]
  exact Nat.le_trans (hb _ _ _ _ e) (by decide)
 ·exact p _ ad1 _ (x1.trans (Ext.laid hq)) (S1.laid hq) (.tup (.inl upd_same) (d1.mono (Ext.laid hq)))
theorem Zec {K:PySem.W.Frag} (hb:∀ ρ st ds st',fa ρ st=some (.tup ds,st')→ds.length≤1000) (σ:L2.St) (H:Hp) (Q:VK) (h:tE K (Z2 fa ZcG) σ H Q):tLst (tA K fa) σ H Q:=by
 obtain ⟨ad,ρ,st,d,st',E,S,e,p⟩:=h
 unfold Z2 at e
 split at e
 ·rename_i x st1 q1
  cases x with
  | tup ds=>
   cases (show some (D.lst st1.length,st1++[(true,ds)])=_ from e)
   refine ⟨ad,ρ,st,ds,_,E,S,q1,fun vs ad1 H1 x1 S1 d1=>⟨?_,fun q hq=>?_⟩⟩
   ·rw [d1.length]
    exact Nat.le_trans (hb _ _ _ _ q1) (by decide)
   ·refine p _ (ad1++[q]) _ (x1.trans (Ext.push hq)) (S1.push hq d1) (.newL ?_)
    rw [←S1.len]
    exact ZL
  | _=>simp [ZcG] at e
 ·cases e
theorem Qc {K:PySem.W.Frag}{g:Fn}{ds:List D}{dvs:List V}{E:XK} (hd:∀ ad H,Dens K ad H dvs ds) (σ:L2.St) (H:Hp) (Q:VK) (h:tE K (Z2 fa (WM g ds)) σ H Q):tCall (spD K g) dvs E (tA K fa) σ H Q:=by
 obtain ⟨ad,ρ,st,d,st',E,S,e,p⟩:=h
 unfold Z2 at e
 split at e
 ·rename_i x st1 q1
  cases x with
  | tup xs=>exact ⟨ad,ρ,st,xs,_,E,S,q1,fun vs ad1 H1 x1 S1 d1=>⟨ad1,xs++ds,_,d,st',S1,d1.append (hd _ _),e,p.later x1⟩⟩
  | _=>simp [WM] at e
 ·cases e
def rC (K:PySem.W.Frag) (g:List D→Za→Res):List V→Hp→VK→Prop:=fun vs H Q=>∃ ad st ds d st',StOk K ad H st∧Dens K ad H vs ds∧g ds st=some (d,st')∧Post K ad H d st' Q
noncomputable def on1 (g:D→Za→Res):List D→Za→Res
 | [x],st=>g x st
 | _,_=>none
noncomputable def on2 (g:D→D→Za→Res):List D→Za→Res
 | [x,y],st=>g x y st
 | _,_=>none
theorem WY {K:PySem.W.Frag}{g:D→Za→Res} (σ:L2.St) (H:Hp) (Q:VK) (h:tE K (Z2 fa g) σ H Q):tCB (rC K (on1 g)) (tCons (tE K fa) tNil) σ H Q:=by
 obtain ⟨ad,ρ,st,d,st',E,S,e,p⟩:=h
 unfold Z2 at e
 split at e
 ·rename_i x st1 q1
  exact ⟨ad,ρ,st,x,st1,E,S,q1,fun v1 ad1 H1 x1 S1 d1=>⟨ad1,st1,[x],d,st',S1,.cons d1 .nil,e,p.later x1⟩⟩
 ·cases e
theorem Qa {K:PySem.W.Frag}{g:D→D→Za→Res} (σ:L2.St) (H:Hp) (Q:VK) (h:tE K (Ye fa fb g) σ H Q):tCB (rC K (on2 g)) (tCons (tE K fa) (tCons (tE K fb) tNil)) σ H Q:=by
 obtain ⟨ad,ρ,st,d,st',E,S,e,p⟩:=h
 unfold Ye at e
 split at e
 ·rename_i x st1 q1
  split at e
  ·rename_i y st2 q2
   refine ⟨ad,ρ,st,x,st1,E,S,q1,fun v1 ad1 H1 x1 S1 d1=>⟨ad1,ρ,st1,y,st2,E.mono x1,S1,q2,fun v2 ad2 H2 x2 S2 d2=>?_⟩⟩
   exact ⟨ad2,st2,[x,y],d,st',S2,.cons (d1.mono x2) (.cons d2 .nil),e,p.later (x1.trans x2)⟩
  ·cases e
 ·cases e
noncomputable def tO (K:PySem.W.Frag) (f:Ev):TO:=fun σ H Q=>∃ ad ρ st d st',EnvOk K ad H σ ρ∧StOk K ad H st∧f ρ st=some (d,st') ∧
 ((d=.non∧∀ ad' H',Ext ad H ad' H'→StOk K ad' H' st'→Q none H')∨∃ i,d=.int i∧∀ ad' H',Ext ad H ad' H'→StOk K ad' H' st'→Q (some i) H')
def rSl (K:PySem.W.Frag):V→Option Int→Option Int→Hp→VK→Prop:=fun x lo hi H Q=>∃ ad st dx d st',StOk K ad H st∧Den K ad H x dx∧Yl dx lo hi st=some (d,st')∧Post K ad H d st' Q
noncomputable def part:D→Option (Option Int)
 | .non=>some none
 | .int i=>some (some i)
 | _=>none
theorem UI {x l h:D}{st:Za}{r:D×Za} (e:Xy x l h st=some r):∃ lo hi,part l=some lo∧part h=some hi∧Yl x lo hi st=some r:=by
 unfold Xy at e
 split at e
 ·exact ⟨_,_,rfl,rfl,e⟩
 ·exact ⟨_,_,rfl,rfl,e⟩
 ·exact ⟨_,_,rfl,rfl,e⟩
 ·exact ⟨_,_,rfl,rfl,e⟩
 ·cases e
theorem ZfQ {K:PySem.W.Frag}{f:Ev}{σ:L2.St}{H:Hp}{Q:Option Int→Hp→Prop}{ad:List Addr}{ρ:Env}{st st':Za}{d:D}{o:Option Int} (E:EnvOk K ad H σ ρ) (S:StOk K ad H st) (e:f ρ st=some (d,st')) (po:part d=some o)
  (q:∀ ad' H',Ext ad H ad' H'→StOk K ad' H' st'→Q o H'):tO K f σ H Q:=by
 refine ⟨ad,ρ,st,d,st',E,S,e,?_⟩
 cases d with
 | non=>cases po; exact .inl ⟨rfl,q⟩
 | int i=>cases po; exact .inr ⟨i,rfl,q⟩
 | _=>cases po
theorem Za5 {K:PySem.W.Frag} (σ:L2.St) (H:Hp) (Q:VK) (h:tE K (QN fa fb fc Xy) σ H Q):tSl (rSl K) (tE K fa) (tO K fb) (tO K fc) σ H Q:=by
 obtain ⟨ad,ρ,st,d,st',E,S,e,p⟩:=h
 unfold QN at e
 split at e
 ·rename_i x st1 q1
  split at e
  ·rename_i y st2 q2
   split at e
   ·rename_i z st3 q3
    obtain ⟨lo,hi,pl,ph,e⟩:=UI e
    refine ⟨ad,ρ,st,x,st1,E,S,q1,fun v1 ad1 H1 x1 S1 d1=>ZfQ (E.mono x1) S1 q2 pl fun ad2 H2 x2 S2=>ZfQ (E.mono (x1.trans x2)) S2 q3 ph fun ad3 H3 x3 S3=>?_⟩
    exact ⟨ad3,st3,x,d,st',S3,d1.mono (x2.trans x3),e,p.later (x1.trans (x2.trans x3))⟩
   ·cases e
  ·cases e
 ·cases e
theorem Zed {K:PySem.W.Frag} (σ:L2.St) (H:Hp) (Q:Option Int→Hp→Prop) (h:tO K (evC .non) σ H Q):tNoPart σ H Q:=by
 obtain ⟨ad,ρ,st,d,st',E,S,e,p⟩:=h
 cases e
 rcases p with ⟨_,p⟩ | ⟨i,z,_⟩
 ·exact p ad H (Ext.refl _ _) S
 ·cases z
end
end Dp



namespace Dp
open PySem PySem.Spec PyProof.Rows L2
variable [ClsTab]
def PostS (K:PySem.W.Frag) (ad:List Addr) (H:Hp) (r:Fl) (st':Za) (D:Ends):Prop:=match r with
 | .nx ρ'=>∀ σ' ad' H',Ext ad H ad' H'→StOk K ad' H' st'→EnvOk K ad' H' σ' ρ'→D.nx σ' H'
 | .bk ρ'=>∀ σ' ad' H',Ext ad H ad' H'→StOk K ad' H' st'→EnvOk K ad' H' σ' ρ'→D.bk σ' H'
 | .ct ρ'=>∀ σ' ad' H',Ext ad H ad' H'→StOk K ad' H' st'→EnvOk K ad' H' σ' ρ'→D.ct σ' H'
 | .rt d=>Post K ad H d st' D.rt
theorem PostS.later {K:PySem.W.Frag}{ad ad':List Addr}{H H':Hp}{r:Fl}{st:Za}{D:Ends} (x:Ext ad H ad' H') (p:PostS K ad H r st D):PostS K ad' H' r st D:=by
 cases r with
 | nx ρ=>exact fun σ2 a2 H2 y S E=>p σ2 a2 H2 (x.trans y) S E
 | bk ρ=>exact fun σ2 a2 H2 y S E=>p σ2 a2 H2 (x.trans y) S E
 | ct ρ=>exact fun σ2 a2 H2 y S E=>p σ2 a2 H2 (x.trans y) S E
 | rt d=>exact Post.later p x
theorem Yg {K:PySem.W.Frag}{f:Ex}{D:Ends}{σ:L2.St}{H:Hp}{ad:List Addr}{ρ:Env}{st st':Za}{r:Fl} (E:EnvOk K ad H σ ρ) (S:StOk K ad H st) (e:f ρ st=some (r,st')) (p:PostS K ad H r st' D):tS K f D σ H:=by
 refine ⟨ad,ρ,st,r,st',E,S,e,?_⟩
 cases r<;>exact p
theorem Z7 {K:PySem.W.Frag}{f:Ex}{D:Ends}{σ:L2.St}{H:Hp} (h:tS K f D σ H):∃ ad ρ st r st',EnvOk K ad H σ ρ∧StOk K ad H st∧f ρ st=some (r,st')∧PostS K ad H r st' D:=by
 obtain ⟨ad,ρ,st,r,st',E,S,e,p⟩:=h
 refine ⟨ad,ρ,st,r,st',E,S,e,?_⟩
 cases r<;>exact p
section
variable {K:PySem.W.Frag}{f g:Ex}{fe fi fk:Ev}
theorem Qe (D:Ends) (σ:L2.St) (H:Hp) (h:tS K (fun ρ st=>some (.nx ρ,st)) D σ H):tNext D σ H:=by
 obtain ⟨ad,ρ,st,r,st',E,S,e,p⟩:=Z7 h
 cases e
 exact p σ ad H (Ext.refl _ _) S E
theorem Zd8 (D:Ends) (σ:L2.St) (H:Hp) (h:tS K (fun ρ st=>some (.bk ρ,st)) D σ H):tBreak D σ H:=by
 obtain ⟨ad,ρ,st,r,st',E,S,e,p⟩:=Z7 h
 cases e
 exact p σ ad H (Ext.refl _ _) S E
theorem Zcf (D:Ends) (σ:L2.St) (H:Hp) (h:tS K (fun ρ st=>some (.ct ρ,st)) D σ H):tCont D σ H:=by
 obtain ⟨ad,ρ,st,r,st',E,S,e,p⟩:=Z7 h
 cases e
 exact p σ ad H (Ext.refl _ _) S E
theorem Zei (D:Ends) (σ:L2.St) (H:Hp) (h:tS K (Zbn f g) D σ H):tSeq (tS K f) (tS K g) D σ H:=by
 obtain ⟨ad,ρ,st,r,st',E,S,e,p⟩:=Z7 h
 unfold Zbn at e
 split at e
 ·rename_i ρ1 st1 q
  exact Yg E S q fun σ1 ad1 H1 x1 S1 E1=>Yg E1 S1 e (p.later x1)
 ·rename_i q
  refine Yg E S e ?_
  cases r with
  | nx ρ1=>exact absurd e (q ρ1 st')
  | bk ρ1=>exact p
  | ct ρ1=>exact p
  | rt d=>exact p
theorem Zeh (D:Ends) (σ:L2.St) (H:Hp) (h:tS K (JD fe) D σ H):tRet (tE K fe) D σ H:=by
 obtain ⟨ad,ρ,st,r,st',E,S,e,p⟩:=Z7 h
 unfold JD at e
 split at e
 ·rename_i d st1 q
  cases e
  exact ⟨ad,ρ,st,d,_,E,S,q,p⟩
 ·cases e
theorem Uj {i:Nat} (D:Ends) (σ:L2.St) (H:Hp) (h:tS K (QQ i fe) D σ H):tAsg (tE K fe) (gName i) D σ H:=by
 obtain ⟨ad,ρ,st,r,st',E,S,e,p⟩:=Z7 h
 unfold QQ at e
 split at e
 ·rename_i d st1 q
  cases e
  exact ⟨ad,ρ,st,d,_,E,S,q,fun v ad1 H1 x1 S1 d1=>p _ ad1 H1 x1 S1 ((E.mono x1).set i d1)⟩
 ·cases e
theorem Zcp {i j:Nat} (D:Ends) (σ:L2.St) (H:Hp) (h:tS K (QO i j fe) D σ H):tAsg (tE K fe) (gTup K 2 (gCons (gName i) (gCons (gName j) gNil))) D σ H:=by
 obtain ⟨ad,ρ,st,r,st',E,S,e,p⟩:=Z7 h
 unfold QO at e
 split at e
 ·rename_i x y st1 q
  cases e
  refine ⟨ad,ρ,st,_,_,E,S,q,fun v ad1 H1 x1 S1 d1=>?_⟩
  obtain ⟨a,vs,rfl,ha,rv⟩:=d1.ofTup
  cases rv with
  | cons d1 rv=>
   cases rv with
   | cons d2 rv=>
    cases rv
    exact ⟨a,_,rfl,(ha).sq,rfl,_,_,rfl,_,_,rfl,rfl,p _ ad1 H1 x1 S1 (((E.mono x1).set i d1).set j d2)⟩
 ·cases e
theorem Zcq {i j l:Nat} (D:Ends) (σ:L2.St) (H:Hp) (h:tS K (QP i j l fe) D σ H):tAsg (tE K fe) (gTup K 3 (gCons (gName i) (gCons (gName j) (gCons (gName l) gNil)))) D σ H:=by
 obtain ⟨ad,ρ,st,r,st',E,S,e,p⟩:=Z7 h
 unfold QP at e
 split at e
 ·rename_i x y z st1 q
  cases e
  refine ⟨ad,ρ,st,_,_,E,S,q,fun v ad1 H1 x1 S1 d1=>?_⟩
  obtain ⟨a,vs,rfl,ha,rv⟩:=d1.ofTup
  cases rv with
  | cons d1 rv=>
   cases rv with
   | cons d2 rv=>
    cases rv with
    | cons d3 rv=>
     cases rv
     exact ⟨a,_,rfl,(ha).sq,rfl,_,_,rfl,_,_,rfl,_,_,rfl,rfl,p _ ad1 H1 x1 S1 ((((E.mono x1).set i d1).set j d2).set l d3)⟩
 ·cases e
theorem Zd6 (D:Ends) (σ:L2.St) (H:Hp) (h:tS K (ZbB fe) D σ H):tDrop (tE K fe) D σ H:=by
 obtain ⟨ad,ρ,st,r,st',E,S,e,p⟩:=Z7 h
 unfold ZbB at e
 split at e
 ·rename_i d st1 q
  cases e
  exact ⟨ad,ρ,st,d,_,E,S,q,fun v ad1 H1 x1 S1 d1=>p _ ad1 H1 x1 S1 (E.mono x1)⟩
 ·cases e
theorem Zeb (D:Ends) (σ:L2.St) (H:Hp) (h:tS K (Vs fe f g) D σ H):tIfS (tT K fe) (tS K f) (tS K g) D σ H:=by
 obtain ⟨ad,ρ,st,r,st',E,S,e,p⟩:=Z7 h
 unfold Vs at e
 split at e
 ·rename_i st1 q
  refine ⟨ad,ρ,st,true,st1,E,S,q,fun ad1 H1 x1 S1=>?_⟩
  dsimp only
  rw [if_pos rfl]
  exact Yg (E.mono x1) S1 e (p.later x1)
 ·rename_i st1 q
  refine ⟨ad,ρ,st,false,st1,E,S,q,fun ad1 H1 x1 S1=>?_⟩
  dsimp only
  rw [if_neg Bool.false_ne_true]
  exact Yg (E.mono x1) S1 e (p.later x1)
 ·cases e
theorem UK {ad:List Addr}{H:Hp}{st:Za}{i:Nat}{a:Addr} (S:StOk K ad H st) (h:LA ad H i a):∃ b ds,st[i]?=some (b,ds):=by
 have hi:i < st.length:=by rw [←S.len]; exact (List.getElem?_eq_some_iff.mp h.1).1
 exact ⟨st[i].1,st[i].2,by rw [List.getElem?_eq_getElem hi]⟩
theorem JQ {ad:List Addr}{H:Hp}{st st2:Za}{i:Nat}{a:Addr}{v:V}{d:D} (S:StOk K ad H st) (h:LA ad H i a) (hd:Den K ad H v d) (e:ZbD i d st=some st2) :
  ∃ xs,H a=some (.lst xs)∧xs.length < sizeLine∧Ext ad H ad (upd H a (.lst (xs++[v])))∧StOk K ad (upd H a (.lst (xs++[v]))) st2:=by
 unfold ZbD at e
 split at e
 ·rename_i ds q
  split at e
  ·rename_i hz
   cases e
   obtain ⟨xs,r,hx⟩:=S.listM h q
   refine ⟨xs,hx,?_,Ext.write hx (List.mem_of_getElem? h.1),S.write h q hx (r.append (.cons hd .nil))⟩
   rw [r.length]
   exact Nat.lt_of_lt_of_le hz (by decide)
  ·cases e
 ·cases e
theorem Zd7 {i:Nat} (D:Ends) (σ:L2.St) (H:Hp) (h:tS K (ZbF i fe) D σ H):tDrop (tBM K "list" rAppend (tVar i) (tCons (tE K fe) tNil)) D σ H:=by
 obtain ⟨ad,ρ,st,r,st',E,S,e,p⟩:=Z7 h
 unfold ZbF at e
 split at e
 ·rename_i a q0
  split at e
  ·rename_i d st1 q1
   split at e
   ·rename_i st2 q2
    cases e
    obtain ⟨v,e1,e2⟩:=E.at_ i _ q0
    obtain ⟨l,rfl,hl⟩:=e2.ofLst
    obtain ⟨b,ds,hc⟩:=UK S hl
    obtain ⟨xs,_,sq⟩:=S.list hl hc
    refine ⟨_,e1,.inl ⟨rfl,xs,sq⟩,ad,ρ,st,d,st1,E,S,q1,fun w ad1 H1 x1 S1 d1=>?_⟩
    obtain ⟨ys,hy,hz,x2,S2⟩:=JQ S1 (hl.mono x1) d1 q2
    exact ⟨l,ys,w,rfl,rfl,hy,hz,p _ ad1 _ (x1.trans x2) S2 (E.mono (x1.trans x2))⟩
   ·cases e
  ·cases e
 ·cases e
theorem Zce {fo:Ev} (D:Ends) (σ:L2.St) (H:Hp) (h:tS K (ZbE fo fe) D σ H):tDrop (tBM K "list" rAppend (tE K fo) (tCons (tE K fe) tNil)) D σ H:=by
 obtain ⟨ad,ρ,st,r,st',E,S,e,p⟩:=Z7 h
 unfold ZbE at e
 split at e
 ·rename_i a st0 q0
  split at e
  ·rename_i d st1 q1
   split at e
   ·rename_i st2 q2
    cases e
    refine ⟨ad,ρ,st,.lst a,st0,E,S,q0,fun v ad0 H0 x0 S0 d0=>?_⟩
    obtain ⟨l,rfl,hl⟩:=d0.ofLst
    obtain ⟨b,ds,hc⟩:=UK S0 hl
    obtain ⟨xs,_,sq⟩:=S0.list hl hc
    refine ⟨.inl ⟨rfl,xs,sq⟩,ad0,ρ,st0,d,st1,E.mono x0,S0,q1,fun w ad1 H1 x1 S1 d1=>?_⟩
    obtain ⟨ys,hy,hz,x2,S2⟩:=JQ S1 (hl.mono x1) d1 q2
    exact ⟨l,ys,w,rfl,rfl,hy,hz,p _ ad1 _ ((x0.trans x1).trans x2) S2 (E.mono ((x0.trans x1).trans x2))⟩
   ·cases e
  ·cases e
 ·cases e
theorem Zd9 {i:Nat} (D:Ends) (σ:L2.St) (H:Hp) (h:tS K (Zb5 i fe) D σ H):tDrop (tBM K "list" rExtend (tVar i) (tCons (tE K fe) tNil)) D σ H:=by
 obtain ⟨ad,ρ,st,r,st',E,S,e,p⟩:=Z7 h
 unfold Zb5 at e
 split at e
 ·rename_i a q0
  split at e
  ·rename_i b st1 q1
   split at e
   ·rename_i st2 q2
    cases e
    obtain ⟨v,e1,e2⟩:=E.at_ i _ q0
    obtain ⟨l,rfl,hl⟩:=e2.ofLst
    obtain ⟨bb,ds,hc⟩:=UK S hl
    obtain ⟨xs,_,sq⟩:=S.list hl hc
    refine ⟨_,e1,.inl ⟨rfl,xs,sq⟩,ad,ρ,st,.lst b,st1,E,S,q1,fun w ad1 H1 x1 S1 d1=>?_⟩
    obtain ⟨m,rfl,hm⟩:=d1.ofLst
    unfold Zgl at q2
    split at q2
    ·rename_i cs es f1 f2
     split at q2
     ·rename_i hz
      cases q2
      have hl1:=hl.mono x1
      obtain ⟨ys,ry,hy⟩:=S1.listM hl1 f1
      obtain ⟨zs,rz,hzz⟩:=S1.listM hm f2
      have x2:=Ext.write (ys:=ys++zs) hy (List.mem_of_getElem? hl1.1)
      refine ⟨l,m,ys,zs,rfl,rfl,hy,hzz,?_,p _ ad1 _ (x1.trans x2) (S1.write hl1 f1 hy (ry.append rz)) (E.mono (x1.trans x2))⟩
      rw [ry.length,rz.length]
      exact Nat.le_trans hz (by decide)
     ·cases q2
    ·cases q2
   ·cases e
  ·cases e
 ·cases e
theorem Zeg {i:Nat} (D:Ends) (σ:L2.St) (H:Hp) (h:tS K (Zdg i fk fe) D σ H):tAsg (tE K fe) (gSub (tVar i) (tE K fk) rSetL) D σ H:=by
 obtain ⟨ad,ρ,st,r,st',E,S,e,p⟩:=Z7 h
 unfold Zdg at e
 split at e
 ·rename_i d st1 q1
  split at e
  ·rename_i a q0
   split at e
   ·rename_i j st2 q2
    split at e
    ·rename_i st3 q3
     cases e
     obtain ⟨v,e1,e2⟩:=E.at_ i _ q0
     obtain ⟨l,rfl,hl⟩:=e2.ofLst
     refine ⟨ad,ρ,st,d,st1,E,S,q1,fun w ad1 H1 x1 S1 d1=>⟨_,e1,ad1,ρ,st1,.int j,st2,E.mono x1,S1,q2,fun w2 ad2 H2 x2 S2 d2=>?_⟩⟩
     cases d2.ofInt
     unfold UL at q3
     split at q3
     ·rename_i ds q4
      split at q3
      ·rename_i k q5
       cases q3
       have hl2:=hl.mono (x1.trans x2)
       obtain ⟨xs,r,hx⟩:=S2.listM hl2 q4
       have x3:Ext ad2 H2 ad2 (upd H2 l (.lst (xs.set k w))):=Ext.write hx (List.mem_of_getElem? hl2.1)
       refine ⟨l,xs,j,k,rfl,rfl,hx,?_,p _ ad2 _ (x1.trans (x2.trans x3)) (S2.write hl2 q4 hx (r.set (d1.mono x2) k)) (E.mono (x1.trans (x2.trans x3)))⟩
       rw [r.length]
       exact q5
      ·cases q3
     ·cases q3
    ·cases e
   ·cases e
  ·cases e
 ·cases e
def Left (K:PySem.W.Frag) (b:D→Env→Za→Option (Fl×Za)) (E:Ends) (xs:List D) (σ:L2.St) (H:Hp):Prop:=∃ ad ρ st r st',EnvOk K ad H σ ρ∧StOk K ad H st∧Yc b xs ρ st=some (r,st')∧PostS K ad H r st' E
theorem Left.turn {i:Nat}{b:Ex}{E:Ends}{x:D}{xs:List D}{σ:L2.St}{H:Hp}{v:V} (hv:∀ ad H,Den K ad H v x) (h:Left K (fun d ρ s=>b (Zo ρ i d) s) E (x :: xs) σ H) :
  tS K b { E with nx:=Left K (fun d ρ s=>b (Zo ρ i d) s) E xs,ct:=Left K (fun d ρ s=>b (Zo ρ i d) s) E xs,bk:=E.nx } (σ.set i (some v)) H:=by
 obtain ⟨ad,ρ,st,r,st',En,S,e,p⟩:=h
 unfold Yc at e
 have En2:=En.set i (hv ad H)
 split at e
 ·rename_i ρ1 st1 q
  exact Yg En2 S q fun σ1 ad1 H1 x1 S1 E1=>⟨ad1,ρ1,st1,r,st',E1,S1,e,p.later x1⟩
 ·rename_i ρ1 st1 q
  exact Yg En2 S q fun σ1 ad1 H1 x1 S1 E1=>⟨ad1,ρ1,st1,r,st',E1,S1,e,p.later x1⟩
 ·rename_i ρ1 st1 q
  cases e
  exact Yg En2 S q fun σ1 ad1 H1 x1 S1 E1=>p σ1 ad1 H1 x1 S1 E1
 ·rename_i d st1 q
  cases e
  exact Yg En2 S q p
 ·cases e
theorem Left.turnD {i:Nat}{b:Ex}{E:Ends}{x:D}{xs:List D}{σ:L2.St}{H:Hp}{ad:List Addr}{ρ:Env}{st st':Za}{r:Fl}{v:V} (En:EnvOk K ad H σ ρ) (S:StOk K ad H st) (hv:Den K ad H v x)
  (e:Yc (fun d ρ s=>b (Zo ρ i d) s) (x :: xs) ρ st=some (r,st')) (p:PostS K ad H r st' E) (L:L2.St→Hp→Prop)
  (hL:∀ σ1 ad1 H1 ρ1 st1,Ext ad H ad1 H1→StOk K ad1 H1 st1→EnvOk K ad1 H1 σ1 ρ1→Yc (fun d ρ s=>b (Zo ρ i d) s) xs ρ1 st1=some (r,st')→L σ1 H1) :
  tS K b { E with nx:=L,ct:=L,bk:=E.nx } (σ.set i (some v)) H:=by
 unfold Yc at e
 have En2:=En.set i hv
 split at e
 ·rename_i ρ1 st1 q
  exact Yg En2 S q fun σ1 ad1 H1 x1 S1 E1=>hL σ1 ad1 H1 ρ1 st1 x1 S1 E1 e
 ·rename_i ρ1 st1 q
  exact Yg En2 S q fun σ1 ad1 H1 x1 S1 E1=>hL σ1 ad1 H1 ρ1 st1 x1 S1 E1 e
 ·rename_i ρ1 st1 q
  cases e
  exact Yg En2 S q fun σ1 ad1 H1 x1 S1 E1=>p σ1 ad1 H1 x1 S1 E1
 ·rename_i d st1 q
  cases e
  exact Yg En2 S q p
 ·cases e
theorem Left.done {b:D→Env→Za→Option (Fl×Za)}{E:Ends}{σ:L2.St}{H:Hp} (h:Left K b E [] σ H):E.nx σ H:=by
 obtain ⟨ad,ρ,st,r,st',En,S,e,p⟩:=h
 cases e
 exact p σ ad H (Ext.refl _ _) S En
theorem JA (n k:Nat) (h:k < n):((List.range n).map fun (j:Nat)=>D.int (j:Int)).drop k=D.int (k:Int) :: ((List.range n).map fun (j:Nat)=>D.int (j:Int)).drop (k+1):=by
 rw [List.drop_eq_getElem_cons (by simpa using h)]
 simp
theorem Zck {i:Nat} (E:Ends) (σ:L2.St) (H:Hp) (h:tS K (U6 i true fi f) E σ H):tFor (iRng1 (tCons (tE K fi) tNil)) (gName i) (tS K f) E σ H:=by
 obtain ⟨ad,ρ,st,r,st',En,S,e,p⟩:=Z7 h
 unfold U6 at e
 split at e
 ·rename_i x st1 q1
  cases x with
  | int n=>
   have e:(match (if n < 2 ^ 62∧-(2 ^ 62)≤n then some ((List.range n.toNat).map fun (k:Nat)=>D.int (k:Int)) else none) with
    | some xs=>Yc (fun d ρ s=>f (Zo ρ i d) s) xs ρ st1
    | none=>none)=some (r,st'):=e
   by_cases hn:n < 2 ^ 62∧-(2 ^ 62)≤n
   ·rw [if_pos hn] at e
    refine ⟨ad,ρ,st,.int n,st1,En,S,q1,fun v ad1 H1 x1 S1 d1=>⟨n,by rw [d1.ofInt],hn.2,hn.1,?_⟩⟩
    refine for_range (fun k σ' H'=>Left K (fun d ρ s=>f (Zo ρ i d) s) E (((List.range n.toNat).map fun (k:Nat)=>D.int (k:Int)).drop k) σ' H') ⟨ad1,ρ,st1,r,st',En.mono x1,S1,e,p.later x1⟩ (fun k σ' H' hk L=>?_) fun σ' H' L=>?_
    ·rw [JA _ _ hk] at L
     have z:(0:Int)+(k:Int)=(k:Int):=Int.zero_add _
     rw [z]
     exact L.turn fun _ _=>.int _
    ·rw [List.drop_eq_nil_of_le (by simp)] at L
     exact L.done
   ·rw [if_neg hn] at e
    cases e
  | _=>simp [YT] at e
 ·cases e
noncomputable def Its (lo c:Int) (n:Nat):It:=⟨fun i _=>i < n,fun i H x H'=>H'=H∧x=.int (lo+(i:Int) * c),fun i _=>n≤i⟩
noncomputable def ZfH (ta:TA):TI:=fun σ H R=>ta σ H fun vs H1=>∃ (i j c:Int),(vs=[.int i,.int j]∧c=1∨vs=[.int i,.int j,.int c])∧Zs i j c=true∧R (Its i c (Zw i j c)) H1
theorem Zb8 {lo c:Int}{n:Nat}{g:TG}{tb:TS}{D:Ends}{σ:L2.St}{H:Hp} (Pv:Nat→L2.St→Hp→Prop) (h0:Pv 0 σ H)
  (hs:∀ i σ H,i < n→Pv i σ H→g (.int (lo+(i:Int) * c)) σ H fun σ2 H2=>tb { D with nx:=Pv (i+1),ct:=Pv (i+1),bk:=D.nx } σ2 H2) (hd:∀ σ H,Pv n σ H→D.nx σ H) :
  ∃ W:Nat→Nat→L2.St→Hp→Prop,(∃ m,W 0 m σ H)∧∀ i m σ H,W i m σ H→
   ((Its lo c n).stop i H∧D.nx σ H)∨((Its lo c n).go i H∧∃ N:L2.St→Hp→Prop,(∀ σ' H',N σ' H'→∃ m',m' < m∧W (i+1) m' σ' H')∧∀ x H',(Its lo c n).yld i H x H'→g x σ H' fun σ2 H2=>tb { D with nx:=N,ct:=N,bk:=D.nx } σ2 H2):=by
 refine ⟨fun i m σ H=>m=n - i∧i≤n∧Pv i σ H,⟨n,by simp,Nat.zero_le _,h0⟩,?_⟩
 rintro i m σ H ⟨rfl,hi,p⟩
 by_cases hlt:i < n
 ·refine .inr ⟨hlt,Pv (i+1),fun σ' H' p'=>⟨n - (i+1),by omega,rfl,hlt,p'⟩,fun x H' y=>?_⟩
  obtain ⟨e,y⟩:=y
  subst e y
  exact hs i σ _ hlt p
 ·have e:i=n:=by omega
  subst e
  exact .inl ⟨Nat.le_refl _,hd σ H p⟩
theorem QJ (a b c:Int) (k:Nat) (h:k < Zw a b c):((Zt a b c).map D.int).drop k=D.int (a+(k:Int) * c) :: ((Zt a b c).map D.int).drop (k+1):=by
 rw [List.drop_eq_getElem_cons (by simpa [Zt] using h)]
 simp [Zt]
theorem Zeo {d:D}{i:Int} (h:Zen d=some i):d=.int i:=by cases d<;>first | (cases h; done) | (cases h; rfl)
theorem Qg:∀ {xs:List D}{l:List Int},WZ xs=some l→xs=l.map .int
 | [],_,h=>by cases h; rfl
 | x :: xs,l,h=>Yf (P:=fun l=>x :: xs=l.map D.int) h fun i r hi hr=>by rw [Zeo hi,Qg hr]; rfl
theorem Up {x:D}{xs:List Int} (h:Jl x=some xs):∃ a b c,(x=.tup [.int a,.int b]∧c=1∨x=.tup [.int a,.int b,.int c])∧Zs a b c=true∧xs=Zt a b c:=by
 cases x<;>first | (cases h; done) | skip
 obtain ⟨l,h1,h2⟩:=Option.bind_eq_some_iff.mp h
 rw [Qg h1]
 cases l with
 | nil=>cases h2
 | cons a l=>cases l with
  | nil=>cases h2
  | cons b l=>cases l with
   | nil=>exact XJ h2 fun q h2=>by cases h2; exact ⟨a,b,1,.inl ⟨rfl,rfl⟩,q,rfl⟩
   | cons c l=>cases l with
    | nil=>exact XJ h2 fun q h2=>by cases h2; exact ⟨a,b,c,.inr rfl,q,rfl⟩
    | cons _ _=>cases h2
theorem Zch {i:Nat} (E:Ends) (σ:L2.St) (H:Hp) (h:tS K (U5 i fi f) E σ H):tFor (ZfH (tA K fi)) (gName i) (tS K f) E σ H:=by
 obtain ⟨ad,ρ,st,r,st',En,S,e,p⟩:=Z7 h
 unfold U5 at e
 split at e
 ·rename_i x st1 q1
  split at e
  ·rename_i xs q2
   obtain ⟨a,b,c,hx,ok,rfl⟩:=Up q2
   have fin:∀ {ad1:List Addr}{H1:Hp},Ext ad H ad1 H1→StOk K ad1 H1 st1→∃ W:Nat→Nat→L2.St→Hp→Prop,(∃ m,W 0 m σ H1)∧∀ k m σ H,W k m σ H→
     ((Its a c (Zw a b c)).stop k H∧E.nx σ H)∨((Its a c (Zw a b c)).go k H∧∃ N:L2.St→Hp→Prop,(∀ σ' H',N σ' H'→∃ m',m' < m∧W (k+1) m' σ' H')∧∀ x H',(Its a c (Zw a b c)).yld k H x H'→gName i x σ H' fun σ2 H2=>tS K f { E with nx:=N,ct:=N,bk:=E.nx } σ2 H2):=fun {ad1 H1} x1 S1=>
    Zb8 (fun k σ' H'=>Left K (fun d ρ s=>f (Zo ρ i d) s) E (((Zt a b c).map D.int).drop k) σ' H') ⟨ad1,ρ,st1,r,st',En.mono x1,S1,e,p.later x1⟩ (fun k σ' H' hk L=>by
     rw [QJ _ _ _ _ hk] at L
     exact L.turn fun _ _=>.int _) fun σ' H' L=>by
     rw [List.drop_eq_nil_of_le (by simp [Zt])] at L
     exact L.done
   rcases hx with ⟨rfl,rfl⟩ | rfl
   ·refine ⟨ad,ρ,st,_,st1,En,S,q1,fun vs ad1 H1 x1 S1 d1=>⟨a,b,1,.inl ⟨?_,rfl⟩,ok,fin x1 S1⟩⟩
    cases d1 with
    | cons h1 d1=>
     cases d1 with
     | cons h2 d1=>cases d1; rw [h1.ofInt,h2.ofInt]
   ·refine ⟨ad,ρ,st,_,st1,En,S,q1,fun vs ad1 H1 x1 S1 d1=>⟨a,b,c,.inr ?_,ok,fin x1 S1⟩⟩
    cases d1 with
    | cons h1 d1=>
     cases d1 with
     | cons h2 d1=>
      cases d1 with
      | cons h3 d1=>cases d1; rw [h1.ofInt,h2.ofInt,h3.ofInt]
  ·cases e
 ·cases e
def Zfw (K:PySem.W.Frag) (b:D→Env→Za→Option (Fl×Za)) (E:Ends) (a:Addr) (vs:List V) (xs:List D) (k:Nat) (σ:L2.St) (H:Hp):Prop:=
 ∃ ad ρ st r st',EnvOk K ad H σ ρ∧StOk K ad H st∧(TupAt K H a vs∧Dens K ad H vs xs)∧Yc b (xs.drop k) ρ st=some (r,st')∧PostS K ad H r st' E
theorem Zcl {i:Nat} (E:Ends) (σ:L2.St) (H:Hp) {ad:List Addr}{ρ:Env}{st st1 st':Za}{r:Fl}{xs:List D} (En:EnvOk K ad H σ ρ) (S:StOk K ad H st) (q1:fi ρ st=some (.tup xs,st1))
  (e:Yc (fun d ρ s=>f (Zo ρ i d) s) xs ρ st1=some (r,st')) (p:PostS K ad H r st' E):tFor (iTup K (tE K fi)) (gName i) (tS K f) E σ H:=by
 refine ⟨ad,ρ,st,.tup xs,st1,En,S,q1,fun v ad1 H1 x1 S1 d1=>?_⟩
 obtain ⟨a,vs,rfl,ha,rv⟩:=d1.ofTup
 refine ⟨a,rfl,⟨vs,(ha).sq⟩,?_⟩
 refine for_tup (xs:=vs) (fun k σ' H'=>Zfw K (fun d ρ s=>f (Zo ρ i d) s) E a vs xs k σ' H') ⟨ad1,ρ,st1,r,st',En.mono x1,S1,⟨ha,rv⟩,by rw [List.drop_zero]; exact e,p.later x1⟩ (fun k σ' H' _ L=>?_) (fun k y σ' H' hk L=>?_) fun σ' H' L=>?_
 ·obtain ⟨_,_,_,_,_,_,_,⟨h,_⟩,_⟩:=L
  exact (h).sq
 ·obtain ⟨ad2,ρ2,st2,r2,st2',En2,S2,⟨h2,rv2⟩,e2,p2⟩:=L
  have hk':k < xs.length:=by rw [←rv2.length]; exact (List.getElem?_eq_some_iff.mp hk).1
  have hx:xs[k]?=some xs[k]:=List.getElem?_eq_getElem hk'
  obtain ⟨w,ew,dw⟩:=rv2.get hx
  rw [hk] at ew; cases ew
  rw [List.drop_eq_getElem_cons hk'] at e2
  exact Left.turnD En2 S2 dw e2 p2 _ fun σ3 ad3 H3 ρ3 st3 x3 S3 E3 e3=>⟨ad3,ρ3,st3,r2,st2',E3,S3,⟨h2.mono x3,rv2.mono x3⟩,e3,p2.later x3⟩
 ·obtain ⟨ad2,ρ2,st2,r2,st2',En2,S2,⟨h2,rv2⟩,e2,p2⟩:=L
  rw [rv2.length,List.drop_length] at e2
  exact Left.done ⟨ad2,ρ2,st2,r2,st2',En2,S2,e2,p2⟩
theorem Qd {G:TG}{B:D→Env→Za→Option (Fl×Za)} (E:Ends) (σ:L2.St) (H:Hp) {ad:List Addr}{ρ:Env}{st st1 st':Za}{r:Fl}{l:Nat}{bb:Bool}{xs:List D} (En:EnvOk K ad H σ ρ) (S:StOk K ad H st) (q1:fi ρ st=some (.lst l,st1))
  (q2:st1[l]?=some (bb,xs)) (e:ZM B l xs.length 0 ρ st1=some (r,st')) (p:PostS K ad H r st' E)
  (hG:∀ (x:D) (v:V) (σ:L2.St) (H:Hp) (ad:List Addr) (ρ:Env) (st st1:Za) (r1:Fl) (E':Ends),EnvOk K ad H σ ρ→StOk K ad H st→Den K ad H v x→B x ρ st=some (r1,st1)→PostS K ad H r1 st1 E'→G v σ H fun σ2 H2=>tS K f E' σ2 H2) :
  tFor (iList K (tE K fi)) G (tS K f) E σ H:=by
 refine ⟨ad,ρ,st,.lst l,st1,En,S,q1,fun v ad1 H1 x1 S1 d1=>?_⟩
 obtain ⟨a,rfl,ha⟩:=d1.ofLst
 obtain ⟨vs,rv,sq⟩:=S1.list ha q2
 refine ⟨a,rfl,⟨vs,sq⟩,?_⟩
 refine ⟨fun k m σ' H'=>∃ ad2 ρ2 st2,(EnvOk K ad2 H' σ' ρ2∧StOk K ad2 H' st2∧LA ad2 H' l a)∧ZM B l m k ρ2 st2=some (r,st')∧PostS K ad2 H' r st' E,⟨xs.length,ad1,ρ,st1,⟨En.mono x1,S1,ha⟩,e,p.later x1⟩,?_⟩
 rintro k m σ' H' ⟨ad2,ρ2,st2,⟨En2,S2,ha2⟩,e2,p2⟩
 obtain ⟨b2,ys,hc⟩:=UK S2 ha2
 obtain ⟨ws,rw',sq2⟩:=S2.list ha2 hc
 have stop:ys.length≤k→ZM B l m k ρ2 st2=some (.nx ρ2,st2):=fun hk=>by
  cases m with
  | zero=>unfold ZM; simp only [hc]; rw [if_pos hk]
  | succ m=>unfold ZM; simp only [hc,List.getElem?_eq_none hk]
 by_cases hk:ys.length≤k
 ·refine .inl ⟨⟨ws,sq2,by rw [rw'.length]; exact hk⟩,?_⟩
  rw [stop hk] at e2
  cases e2
  exact p2 σ' ad2 H' (Ext.refl _ _) S2 En2
 ·have hk':k < ys.length:=by omega
  have hy:ys[k]?=some ys[k]:=List.getElem?_eq_getElem hk'
  obtain ⟨w,ew,dw⟩:=rw'.get hy
  cases m with
  | zero=>
   unfold ZM at e2
   simp only [hc] at e2
   rw [if_neg hk] at e2
   cases e2
  | succ m=>
   unfold ZM at e2
   simp only [hc,hy] at e2
   refine .inr ⟨⟨ws,w,sq2,ew⟩,fun σ3 H3=>∃ ad3 ρ3 st3,(EnvOk K ad3 H3 σ3 ρ3∧StOk K ad3 H3 st3∧LA ad3 H3 l a)∧ZM B l m (k+1) ρ3 st3=some (r,st')∧PostS K ad3 H3 r st' E,fun σ3 H3 h3=>⟨m,Nat.lt_succ_self m,h3⟩,fun x H3 hx=>?_⟩
   obtain ⟨rfl,hx⟩:=hx
   have ex:=hx ws sq2
   rw [ew] at ex; cases ex
   split at e2
   ·rename_i ρ3 st3 q
    exact hG _ _ _ _ ad2 ρ2 st2 _ _ _ En2 S2 dw q fun σ4 ad4 H4 x4 S4 E4=>⟨ad4,ρ3,st3,⟨E4,S4,ha2.mono x4⟩,e2,p2.later x4⟩
   ·rename_i ρ3 st3 q
    exact hG _ _ _ _ ad2 ρ2 st2 _ _ _ En2 S2 dw q fun σ4 ad4 H4 x4 S4 E4=>⟨ad4,ρ3,st3,⟨E4,S4,ha2.mono x4⟩,e2,p2.later x4⟩
   ·rename_i ρ3 st3 q
    cases e2
    exact hG _ _ _ _ ad2 ρ2 st2 _ _ _ En2 S2 dw q fun σ4 ad4 H4 x4 S4 E4=>p2 σ4 ad4 H4 x4 S4 E4
   ·rename_i d st3 q
    cases e2
    exact hG _ _ _ _ ad2 ρ2 st2 _ _ _ En2 S2 dw q p2
   ·cases e2
theorem Zcj {i:Nat} (E:Ends) (σ:L2.St) (H:Hp) (h:tS K (U6 i false fi f) E σ H):tFor (iTup K (tE K fi)) (gName i) (tS K f) E σ H∨tFor (iList K (tE K fi)) (gName i) (tS K f) E σ H:=by
 obtain ⟨ad,ρ,st,r,st',En,S,e,p⟩:=Z7 h
 unfold U6 at e
 split at e
 ·rename_i x st1 q1
  cases x with
  | tup xs=>exact .inl (Zcl E σ H En S q1 e p)
  | lst l=>
   have e:(match st1[l]? with
    | some (_,xs)=>ZM (fun d ρ s=>f (Zo ρ i d) s) l xs.length 0 ρ st1
    | none=>none)=some (r,st'):=e
   split at e
   ·rename_i bb xs q2
    refine .inr (Qd E σ H En S q1 q2 e p fun x v σ H ad ρ st st1 r1 E' En S dv e1 p1=>?_)
    exact Yg (En.set i dv) S e1 p1
   ·cases e
  | _=>simp [YT] at e
 ·cases e
theorem Za4 {G:TG}{B:D→Env→Za→Option (Fl×Za)} (E:Ends) (σ:L2.St) (H:Hp) {ad:List Addr}{ρ:Env}{st st1 st':Za}{r:Fl}{xs:List D} (En:EnvOk K ad H σ ρ) (S:StOk K ad H st) (q1:fi ρ st=some (.tup xs,st1))
  (e:Yc B xs ρ st1=some (r,st')) (p:PostS K ad H r st' E)
  (hG:∀ (x:D) (v:V) (σ:L2.St) (H:Hp) (ad:List Addr) (ρ:Env) (st st1:Za) (r1:Fl) (E':Ends),EnvOk K ad H σ ρ→StOk K ad H st→Den K ad H v x→B x ρ st=some (r1,st1)→PostS K ad H r1 st1 E'→G v σ H fun σ2 H2=>tS K f E' σ2 H2) :
  tFor (iTup K (tE K fi)) G (tS K f) E σ H:=by
 refine ⟨ad,ρ,st,.tup xs,st1,En,S,q1,fun v ad1 H1 x1 S1 d1=>?_⟩
 obtain ⟨a,vs,rfl,ha,rv⟩:=d1.ofTup
 refine ⟨a,rfl,⟨vs,(ha).sq⟩,?_⟩
 refine for_tup (xs:=vs) (fun k σ' H'=>Zfw K B E a vs xs k σ' H') ⟨ad1,ρ,st1,r,st',En.mono x1,S1,⟨ha,rv⟩,by rw [List.drop_zero]; exact e,p.later x1⟩ (fun k σ' H' _ L=>?_) (fun k y σ' H' hk L=>?_) fun σ' H' L=>?_
 ·obtain ⟨_,_,_,_,_,_,_,⟨h,_⟩,_⟩:=L
  exact (h).sq
 ·obtain ⟨ad2,ρ2,st2,r2,st2',En2,S2,⟨h2,rv2⟩,e2,p2⟩:=L
  have hk':k < xs.length:=by rw [←rv2.length]; exact (List.getElem?_eq_some_iff.mp hk).1
  have hx:xs[k]?=some xs[k]:=List.getElem?_eq_getElem hk'
  obtain ⟨w,ew,dw⟩:=rv2.get hx
  rw [hk] at ew; cases ew
  rw [List.drop_eq_getElem_cons hk'] at e2
  unfold Yc at e2
  split at e2
  ·rename_i ρ3 st3 q
   exact hG _ _ _ _ ad2 ρ2 st2 _ _ _ En2 S2 dw q fun σ4 ad4 H4 x4 S4 E4=>⟨ad4,ρ3,st3,r2,st2',E4,S4,⟨h2.mono x4,rv2.mono x4⟩,e2,p2.later x4⟩
  ·rename_i ρ3 st3 q
   exact hG _ _ _ _ ad2 ρ2 st2 _ _ _ En2 S2 dw q fun σ4 ad4 H4 x4 S4 E4=>⟨ad4,ρ3,st3,r2,st2',E4,S4,⟨h2.mono x4,rv2.mono x4⟩,e2,p2.later x4⟩
  ·rename_i ρ3 st3 q
   cases e2
   exact hG _ _ _ _ ad2 ρ2 st2 _ _ _ En2 S2 dw q fun σ4 ad4 H4 x4 S4 E4=>p2 σ4 ad4 H4 x4 S4 E4
  ·rename_i d st3 q
   cases e2
   exact hG _ _ _ _ ad2 ρ2 st2 _ _ _ En2 S2 dw q p2
  ·cases e2
 ·obtain ⟨ad2,ρ2,st2,r2,st2',En2,S2,⟨h2,rv2⟩,e2,p2⟩:=L
  rw [rv2.length,List.drop_length] at e2
  exact Left.done ⟨ad2,ρ2,st2,r2,st2',En2,S2,e2,p2⟩
theorem Zcg {i j:Nat} (E:Ends) (σ:L2.St) (H:Hp) (h:tS K (VG i j fi f) E σ H):tFor (iTup K (tE K fi)) (gTup K 2 (gCons (gName i) (gCons (gName j) gNil))) (tS K f) E σ H∨tFor (iList K (tE K fi)) (gTup K 2 (gCons (gName i) (gCons (gName j) gNil))) (tS K f) E σ H:=by
 obtain ⟨ad,ρ,st,r,st',En,S,e,p⟩:=Z7 h
 unfold VG at e
 split at e
 ·rename_i l st1 q1
  split at e
  ·rename_i bb xs q2
   right
   refine Qd E σ H En S q1 q2 e p fun x v σ H ad ρ st st1 r1 E' En S dv e1 p1=>?_
   unfold QB at e1
   split at e1
   ·rename_i y z
    obtain ⟨a,vs,rfl,ha,rv⟩:=dv.ofTup
    cases rv with
    | cons d1 rv=>
     cases rv with
     | cons d2 rv=>
      cases rv
      exact ⟨a,_,rfl,(ha).sq,rfl,_,_,rfl,_,_,rfl,rfl,Yg ((En.set i d1).set j d2) S e1 p1⟩
   ·cases e1
  ·cases e
 ·rename_i xs st1 q1
  left
  refine Za4 E σ H En S q1 e p fun x v σ H ad ρ st st1 r1 E' En S dv e1 p1=>?_
  unfold QB at e1
  split at e1
  ·rename_i y z
   obtain ⟨a,vs,rfl,ha,rv⟩:=dv.ofTup
   cases rv with
   | cons d1 rv=>
    cases rv with
    | cons d2 rv=>
     cases rv
     exact ⟨a,_,rfl,(ha).sq,rfl,_,_,rfl,_,_,rfl,rfl,Yg ((En.set i d1).set j d2) S e1 p1⟩
  ·cases e1
 ·cases e
theorem ZcE {ok:Za→Prop}{B:D→D→Env→Za→Option (Fl×Za)}{l:List (D×D)}{ρ:Env}{st:Za}{z:Fl×Za} (e:Yo ok B l ρ st=some z):ok st:=by
 cases l with
 | nil=>
  unfold Yo at e
  by_cases h:ok st
  ·exact h
  ·rw [if_neg h] at e; cases e
 | cons _ _=>
  unfold Yo at e
  by_cases h:ok st
  ·exact h
  ·rw [if_neg h] at e; cases e
inductive LK (K:PySem.W.Frag) (ok:Za→Prop) (B:D→D→Env→Za→Option (Fl×Za)) (qs:List (D×D)) (Good:List Addr→Hp→Prop) (r:Fl) (st':Za) (E:Ends) (k m:Nat) (σ:L2.St) (H:Hp):Prop
 | mk {ad:List Addr}{ρ:Env}{st:Za} (hk:k+m=qs.length) (En:EnvOk K ad H σ ρ) (S:StOk K ad H st) (g:Good ad H) (e:Yo ok B (qs.drop k) ρ st=some (r,st')) (p:PostS K ad H r st' E):LK K ok B qs Good r st' E k m σ H
def Zhr (K:PySem.W.Frag) (f:Ex) (i j:Nat) (J:It) (E:Ends) (σ:L2.St) (H1:Hp):Prop:=∃ W:Nat→Nat→L2.St→Hp→Prop,(∃ m,W 0 m σ H1)∧∀ i' m σ H,W i' m σ H→(J.stop i' H∧E.nx σ H)∨(J.go i' H∧∃ N:L2.St→Hp→Prop,(∀ σ' H',N σ' H'→∃ m',m' < m∧W (i'+1) m' σ' H')∧∀ x H',J.yld i' H x H'→gTup K 2 (gCons (gName i) (gCons (gName j) gNil)) x σ H' fun σ2 H2=>tS K f { E with nx:=N,ct:=N,bk:=E.nx } σ2 H2)
theorem Jq {i j:Nat}{ok:Za→Prop}{qs:List (D×D)}{Good:List Addr→Hp→Prop}{r:Fl}{st':Za}{E:Ends}{J:It} (gm:∀ ad H ad' H',Ext ad H ad' H'→Good ad H→Good ad' H') (stop:∀ ad H st,Good ad H→StOk K ad H st→ok st→J.stop qs.length H)
  (go:∀ k ad H st q,Good ad H→StOk K ad H st→ok st→qs[k]?=some q→∃ w1 w2,J.go k H∧Den K ad H w1 q.1∧Den K ad H w2 q.2∧∀ x H',J.yld k H x H'→∃ pt,x=.ref pt∧H pt=none∧H'=upd H pt (.tup [w1,w2])) (k m:Nat) (σ:L2.St) (H:Hp) (h:LK K ok (fun x y ρ s=>f (Zo (Zo ρ i x) j y) s) qs Good r st' E k m σ H) :
  (J.stop k H∧E.nx σ H)∨(J.go k H∧∃ N:L2.St→Hp→Prop,(∀ σ' H',N σ' H'→∃ m',m' < m∧LK K ok (fun x y ρ s=>f (Zo (Zo ρ i x) j y) s) qs Good r st' E (k+1) m' σ' H')∧∀ x H',J.yld k H x H'→gTup K 2 (gCons (gName i) (gCons (gName j) gNil)) x σ H' fun σ2 H2=>tS K f { E with nx:=N,ct:=N,bk:=E.nx } σ2 H2):=by
 cases h with
 | @mk ad ρ st hkm En S g e p=>
  have ok2:=ZcE e
  by_cases hk:qs.length≤k
  ·have hk':k=qs.length:=by omega
   subst hk'
   rw [List.drop_length] at e
   unfold Yo at e
   rw [if_pos ok2] at e
   cases e
   exact .inl ⟨stop _ _ _ g S ok2,p σ _ H (Ext.refl _ _) S En⟩
  ·have hk':k < qs.length:=Nat.lt_of_not_le hk
   obtain ⟨w1,w2,hgo,dw1,dw2,hy⟩:=go k _ _ _ qs[k] g S ok2 (List.getElem?_eq_getElem hk')
   rw [List.drop_eq_getElem_cons hk'] at e
   unfold Yo at e
   rw [if_pos ok2] at e
   generalize qs[k]=q at e dw1 dw2
   refine .inr ⟨hgo,LK K ok (fun x y ρ s=>f (Zo (Zo ρ i x) j y) s) qs Good r st' E (k+1) (m - 1),fun σ3 H3 h3=>⟨m - 1,by omega,h3⟩,fun x H3 hx=>?_⟩
   obtain ⟨pt,rfl,hpt,rfl⟩:=hy x H3 hx
   have xt:Ext ad H ad (upd H pt (.tup [w1,w2])):=Ext.laid hpt
   have fin:∀ {rr:Fl}{s3:Za}{E':Ends},f (Zo (Zo ρ i q.1) j q.2) st=some (rr,s3)→PostS K ad (upd H pt (.tup [w1,w2])) rr s3 E'→gTup K 2 (gCons (gName i) (gCons (gName j) gNil)) (.ref pt) σ (upd H pt (.tup [w1,w2])) fun σ2 H2=>tS K f E' σ2 H2:=fun q pp=>
    ⟨pt,_,rfl,SqT.of upd_same,rfl,_,_,rfl,_,_,rfl,rfl,Yg (((En.mono xt).set i (dw1.mono xt)).set j (dw2.mono xt)) (S.laid hpt) q pp⟩
   have nxt:∀ {ρ3:Env}{st3:Za},Yo ok (fun x y ρ s=>f (Zo (Zo ρ i x) j y) s) (qs.drop (k+1)) ρ3 st3=some (r,st')→∀ (σ4:L2.St) (ad4:List Addr) (H4:Hp),Ext ad (upd H pt (.tup [w1,w2])) ad4 H4→StOk K ad4 H4 st3→EnvOk K ad4 H4 σ4 ρ3→LK K ok (fun x y ρ s=>f (Zo (Zo ρ i x) j y) s) qs Good r st' E (k+1) (m - 1) σ4 H4:=fun e3 σ4 ad4 H4 x4 S4 E4=>
    .mk (by omega) E4 S4 (gm _ _ _ _ (xt.trans x4) g) e3 (p.later (xt.trans x4))
   clear hy go stop hkm hk hk' hgo
   split at e
   ·rename_i q0
    exact fin q0 (nxt e)
   ·rename_i q0
    exact fin q0 (nxt e)
   ·rename_i q0
    cases e
    exact fin q0 fun σ4 ad4 H4 x4 S4 E4=>p σ4 ad4 H4 (xt.trans x4) S4 E4
   ·rename_i q0
    cases e
    exact fin q0 (p.later xt)
   ·cases e
end
end Dp



namespace Dp
open PySem PySem.Spec PyProof.Rows L2
variable [ClsTab]
mutual
theorem ZdK:∀ {x y:D},ZB x y=true→x=y
 | .non,y,h=>by cases y<;>simp [ZB] at h ⊢
 | .bl a,y,h=>by cases y<;>simp [ZB] at h ⊢; exact h
 | .int a,y,h=>by cases y<;>simp [ZB] at h ⊢; exact h
 | .str a,y,h=>by cases y<;>simp [ZB] at h ⊢; exact h
 | .tup a,y,h=>by
  cases y with
  | tup b=>rw [UR (x:=a) (y:=b) (by simpa [ZB] using h)]
  | _=>simp [ZB] at h
 | .lst a,y,h=>by cases y<;>simp [ZB] at h
 | .dct a b,y,h=>by cases y<;>simp [ZB] at h
 | .obj a,y,h=>by cases y<;>simp [ZB] at h
 | .kt a,y,h=>by cases y<;>simp [ZB] at h
 | .dic a,y,h=>by cases y<;>simp [ZB] at h
theorem UR:∀ {x y:List D},ZY x y=true→x=y
 | [],y,h=>by cases y<;>simp [ZY] at h ⊢
 | a :: x,y,h=>by
  cases y with
  | nil=>simp [ZY] at h
  | cons b y=>
   have h:(ZB a b&&ZY x y)=true:=h
   rw [Bool.and_eq_true] at h
   rw [ZdK h.1,UR h.2]
end
mutual
theorem Vx:∀ {n:Nat}{x:D},okD n x=true→ZB x x=true
 | _,.non,_=>rfl
 | _,.bl a,_=>by simp [ZB]
 | _,.int a,_=>by simp [ZB]
 | _,.str a,_=>by simp [ZB]
 | 0,.tup a,h=>by simp [okD] at h
 | n+1,.tup a,h=>WC (n:=n) (x:=a) h
 | _,.lst a,h=>by simp [okD] at h
 | _,.dct a b,h=>by simp [okD] at h
 | _,.obj a,h=>by simp [okD] at h
 | _,.kt a,h=>by simp [okD] at h
 | _,.dic a,h=>by simp [okD] at h
theorem WC:∀ {n:Nat}{x:List D},Yv n x=true→ZY x x=true
 | _,[],_=>rfl
 | n,a :: x,h=>by
  have h:(okD n a&&Yv n x)=true:=h
  rw [Bool.and_eq_true] at h
  show (ZB a a&&ZY x x)=true
  rw [Vx h.1,WC h.2]
  rfl
end
theorem Y6:∀ {n:Nat}{xs:List D}{i:Nat}{d:D},Yv n xs=true→xs[i]?=some d→okD n d=true
 | _,[],_,_,_,e=>by simp at e
 | n,x :: xs,i,d,h,e=>by
  have h:(okD n x&&Yv n xs)=true:=h
  rw [Bool.and_eq_true] at h
  cases i with
  | zero=>simp at e; subst e; exact h.1
  | succ i=>exact Y6 (i:=i) h.2 (by simpa using e)
theorem YG:∀ {xs ys:List D},ZY xs ys=((List.range (min xs.length ys.length)).all (fun i=>ZB ((xs[i]?).getD .non) ((ys[i]?).getD .non))&&xs.length==ys.length)
 | [],[]=>rfl
 | [],_ :: _=>by simp [ZY]
 | _ :: _,[]=>by simp [ZY]
 | x :: xs,y :: ys=>by
  have ih:=@YG xs ys
  show (ZB x y&&ZY xs ys)=_
  rw [ih]
  have e:min (x :: xs).length (y :: ys).length=min xs.length ys.length+1:=by simp only [List.length_cons]; omega
  rw [e,List.range_succ_eq_map,List.all_cons,List.all_map]
  simp only [List.length_cons]
  have z:(xs.length+1==ys.length+1)=(xs.length==ys.length):=by
   rw [Bool.eq_iff_iff]; simp
  rw [z,Bool.and_assoc]
  rfl
section
variable {X:Cx}{ad:List Addr}{H:Hp}
def Zhp (X:Cx) (ad:List Addr) (H:Hp) (v:V) (x:D):Prop:=∀ n m y,okD n x=true→okD m y=true→Den X.K ad H v y→x=y
theorem Xk {n:Nat}{x:D}{P:Prop} (h:okD n x=true) (h0:∀ n,okD n x=false):P:=by rw [h0] at h; cases h
theorem ZcR (i n:Nat):okD n (.lst i)=false:=by cases n<;>rfl
theorem ZcP (ks:List Str) (vs:List D) (n:Nat):okD n (.dct ks vs)=false:=by cases n<;>rfl
theorem ZcQ (i n:Nat):okD n (.dic i)=false:=by cases n<;>rfl
theorem ZcS (i n:Nat):okD n (.obj i)=false:=by cases n<;>rfl
theorem ZfI (ks:List Str) (n:Nat):okD n (.kt ks)=false:=by cases n<;>rfl
theorem ZcT {n:Nat}{xs:List D} (h:okD n (.tup xs)=true):∃ m,Yv m xs=true:=by
 cases n with
 | zero=>cases h
 | succ n=>exact ⟨n,h⟩
theorem Den.injP (J:∀ (a:Addr) (xs ys:List V),TupAt X.K H a xs→TupAt X.K H a ys→xs=ys) {v:V}{x:D} (h:Den X.K ad H v x):Zhp X ad H v x:=
 Den.rec (motive_1:=fun v x _=>Zhp X ad H v x) (motive_2:=fun vs xs _=>∀ n m ys,Yv n xs=true→Yv m ys=true→Dens X.K ad H vs ys→xs=ys)
  (fun _ _ _ _ _ h=>by cases h; rfl) (fun _ _ _ _ _ _ h=>by cases h; rfl) (fun _ _ _ _ _ _ h=>by cases h; rfl) (fun _ _ _ _ _ _ h=>by cases h; rfl)
  (fun e _ ih n m y hx hy h=>by
   obtain ⟨n',hx⟩:=ZcT hx
   cases h with
   | tup e' r'=>
    cases J _ _ _ e e'
    obtain ⟨m',hy⟩:=ZcT hy
    rw [ih n' m' _ hx hy r']
   | lst _=>exact Xk hy (ZcR _)
   | dic _ _=>exact Xk hy (ZcQ _)
   | dct _ _ _ _ _=>exact Xk hy (ZcP _ _)
   | obj _ _=>exact Xk hy (ZcS _)
   | kt _ _ _ _ _ _=>exact Xk hy (ZfI _))
  (fun _ _ _ _ hx _ _=>Xk hx (ZcR _)) (fun _ _ _ _ _ hx _ _=>Xk hx (ZcQ _)) (fun _ _ _ _ _ _ _ _ _ hx _ _=>Xk hx (ZcP _ _)) (fun _ _ _ _ _ hx _ _=>Xk hx (ZcS _)) (fun _ _ _ _ _ _ _ _ _ hx _ _=>Xk hx (ZfI _))
  (fun _ _ _ _ _ h=>by cases h; rfl)
  (fun _ _ i1 i2 n m ys hx hy h=>by
   cases h with
   | cons a' r'=>
    have hx:=Bool.and_eq_true_iff.mp hx
    have hy:=Bool.and_eq_true_iff.mp hy
    rw [i1 n m _ hx.1 hy.1 a',i2 n m _ hx.2 hy.2 r']) h
theorem Den.inj (J:∀ (a:Addr) (xs ys:List V),TupAt X.K H a xs→TupAt X.K H a ys→xs=ys) {n m:Nat}{v:V}{x y:D} (hx:okD n x=true) (hy:okD m y=true) (h:Den X.K ad H v x) (h':Den X.K ad H v y):x=y:=h.injP J n m y hx hy h'
theorem Dens.inj (J:∀ (a:Addr) (xs ys:List V),TupAt X.K H a xs→TupAt X.K H a ys→xs=ys) {n m:Nat}{vs:List V}{xs ys:List D} (hx:Yv n xs=true) (hy:Yv m ys=true) (h:Dens X.K ad H vs xs) (h':Dens X.K ad H vs ys):xs=ys:=by
 induction vs generalizing xs ys with
 | nil=>cases h; cases h'; rfl
 | cons v vs ih=>
  cases h with
  | cons a r=>cases h' with
   | cons a' r'=>
    have hx:=Bool.and_eq_true_iff.mp hx
    have hy:=Bool.and_eq_true_iff.mp hy
    rw [a.inj J hx.1 hy.1 a',ih hx.2 hy.2 r r']
open PySem.SeqAt in
theorem Zgj {pins:List (Addr×Obj)}{σ:L2.St}{s:Shared} (I:Inv X pins σ H s):∀ (n:Nat) (x y:D) (A:Around) (vx vy:V) (ux uy:Value),okD n x=true→okD n y=true→A.units+n < cLine→Den X.K ad H vx x→Den X.K ad H vy y→RelV vx ux→RelV vy uy→EqAt A s ux uy (ZB x y):=by
 intro n
 induction n with
 | zero=>
  intro x y A vx vy ux uy hx hy hu dx dy rx ry
  cases dx with
  | non=>
   cases rx
   cases dy with
   | non=>cases ry; exact EqAt.same _
   | int j=>obtain ⟨t',rfl⟩:=ry; exact EqAt.none_int j t'
   | str j=>obtain ⟨t',rfl⟩:=ry; exact EqAt.none_str j t'
   | _=>simp [okD] at hy
  | int i=>
   obtain ⟨t,rfl⟩:=rx
   cases dy with
   | non=>cases ry; exact EqAt.int_none i t
   | int j=>obtain ⟨t',rfl⟩:=ry; exact (show ZB (.int i) (.int j)=(i==j) from by rw [Bool.eq_iff_iff]; simp [ZB]) ▸ EqAt.int_int i t j t'
   | str j=>obtain ⟨t',rfl⟩:=ry; exact EqAt.int_str i t j t'
   | _=>simp [okD] at hy
  | str i=>
   obtain ⟨t,rfl⟩:=rx
   cases dy with
   | non=>cases ry; exact EqAt.str_none i t
   | int j=>obtain ⟨t',rfl⟩:=ry; exact EqAt.str_int i t j t'
   | str j=>obtain ⟨t',rfl⟩:=ry; exact (show ZB (.str i) (.str j)=(i==j) from by rw [Bool.eq_iff_iff]; simp [ZB]) ▸ EqAt.str_str i t j t'
   | _=>simp [okD] at hy
  | _=>simp [okD] at hx
 | succ n ih=>
  intro x y A vx vy ux uy hx hy hu dx dy rx ry
  cases dx with
  | non=>
   cases rx
   cases dy with
   | non=>cases ry; exact EqAt.same _
   | int j=>obtain ⟨t',rfl⟩:=ry; exact EqAt.none_int j t'
   | str j=>obtain ⟨t',rfl⟩:=ry; exact EqAt.none_str j t'
   | tup e r=>
    cases ry
    obtain ⟨its,_,p,_⟩:=I.tuple ((e).sq)
    exact EqAt.none_tuple p (by omega)
   | _=>simp [okD] at hy
  | int i=>
   obtain ⟨t,rfl⟩:=rx
   cases dy with
   | non=>cases ry; exact EqAt.int_none i t
   | int j=>obtain ⟨t',rfl⟩:=ry; exact (show ZB (.int i) (.int j)=(i==j) from by rw [Bool.eq_iff_iff]; simp [ZB]) ▸ EqAt.int_int i t j t'
   | str j=>obtain ⟨t',rfl⟩:=ry; exact EqAt.int_str i t j t'
   | tup e r=>
    cases ry
    obtain ⟨its,_,p,_⟩:=I.tuple ((e).sq)
    exact EqAt.int_tuple i t p (by omega)
   | _=>simp [okD] at hy
  | str i=>
   obtain ⟨t,rfl⟩:=rx
   cases dy with
   | non=>cases ry; exact EqAt.str_none i t
   | int j=>obtain ⟨t',rfl⟩:=ry; exact EqAt.str_int i t j t'
   | str j=>obtain ⟨t',rfl⟩:=ry; exact (show ZB (.str i) (.str j)=(i==j) from by rw [Bool.eq_iff_iff]; simp [ZB]) ▸ EqAt.str_str i t j t'
   | tup e r=>
    cases ry
    obtain ⟨its,_,p,_⟩:=I.tuple ((e).sq)
    exact EqAt.str_tuple i t p (by omega)
   | _=>simp [okD] at hy
  | @tup a xs ds e r=>
   cases rx
   obtain ⟨its,rv,p,_⟩:=I.tuple ((e).sq)
   cases dy with
   | non=>cases ry; exact EqAt.tuple_none p (by omega)
   | int j=>obtain ⟨t',rfl⟩:=ry; exact EqAt.tuple_int j t' p (by omega)
   | str j=>obtain ⟨t',rfl⟩:=ry; exact EqAt.tuple_str j t' p (by omega)
   | @tup b ys es e' r'=>
    cases ry
    by_cases hab:a=b
    ·subst hab
     have z:=Den.inj (fun _ _ _ e e2=>I.tuple_inj e.sq e2.sq) (n:=n+1) (m:=n+1) hx hy (Den.tup e r) (Den.tup e' r')
     cases z
     rw [Vx hx]
     exact EqAt.same _
    ·obtain ⟨its',rv',p',_⟩:=I.tuple ((e').sq)
     refine EqAt.of_refs hab ?_
     have q:=RcAt.tuples (A:=A) (s:=s) (e:=fun i=>ZB ((ds[i]?).getD .non) ((es[i]?).getD .non)) p p' (by omega) fun j h1 h2=>?_
     ·have e1:its.toArray.size=ds.length:=by rw [List.size_toArray,←rv.length,r.length]
      have e2:its'.toArray.size=es.length:=by rw [List.size_toArray,←rv'.length,r'.length]
      rw [e1,e2] at q
      show RcAt A s (.ref a) (.ref b) (ZY ds es)
      rw [YG]
      exact q
     ·have l1:j < ds.length:=by rw [←r.length,rv.length]; simpa using h1
      have l2:j < es.length:=by rw [←r'.length,rv'.length]; simpa using h2
      have g1:ds[j]?=some ds[j]:=List.getElem?_eq_getElem l1
      have g2:es[j]?=some es[j]:=List.getElem?_eq_getElem l2
      obtain ⟨v1,q1,d1⟩:=r.get g1
      obtain ⟨v2,q2,d2⟩:=r'.get g2
      obtain ⟨u1,w1,r1⟩:=rv.get q1
      obtain ⟨u2,w2,r2⟩:=rv'.get q2
      have f1:its.toArray[j]=u1:=by
       have:its[j]?=some (its[j]'(by simpa using h1)):=List.getElem?_eq_getElem _
       rw [w1] at this
       simpa using (Option.some.inj this).symm
      have f2:its'.toArray[j]=u2:=by
       have:its'[j]?=some (its'[j]'(by simpa using h2)):=List.getElem?_eq_getElem _
       rw [w2] at this
       simpa using (Option.some.inj this).symm
      rw [f1,f2,g1,g2]
      exact ih ds[j] es[j] A.in1 v1 v2 u1 u2 (Y6 hx g1) (Y6 hy g2) (by show A.units+1+n < cLine; omega) d1 d2 r1 r2
   | _=>simp [okD] at hy
  | _=>simp [okD] at hx
open PySem.SeqAt in
theorem Um {pins:List (Addr×Obj)}{σ:L2.St}{s:Shared} (I:Inv X pins σ H s) {n:Nat}{A:Around}{a b:Addr}{xs ys:List V}{ds es:List D}{its its':List Value} (hx:Yv n ds=true) (hy:Yv n es=true) (hu:A.units+n+1 < cLine)
  (r:Dens X.K ad H xs ds) (r':Dens X.K ad H ys es) (rv:Vals xs its) (rv':Vals ys its') (j:Nat) (h1:j < its.toArray.size) (h2:j < its'.toArray.size):EqAt A.in1 s its.toArray[j] its'.toArray[j] (ZB ((ds[j]?).getD .non) ((es[j]?).getD .non)):=by
 have l1:j < ds.length:=by rw [←r.length,rv.length]; simpa using h1
 have l2:j < es.length:=by rw [←r'.length,rv'.length]; simpa using h2
 have g1:ds[j]?=some ds[j]:=List.getElem?_eq_getElem l1
 have g2:es[j]?=some es[j]:=List.getElem?_eq_getElem l2
 obtain ⟨v1,q1,d1⟩:=r.get g1
 obtain ⟨v2,q2,d2⟩:=r'.get g2
 obtain ⟨u1,w1,r1⟩:=rv.get q1
 obtain ⟨u2,w2,r2⟩:=rv'.get q2
 have f1:its.toArray[j]=u1:=by
  have:its[j]?=some (its[j]'(by simpa using h1)):=List.getElem?_eq_getElem _
  rw [w1] at this
  simpa using (Option.some.inj this).symm
 have f2:its'.toArray[j]=u2:=by
  have:its'[j]?=some (its'[j]'(by simpa using h2)):=List.getElem?_eq_getElem _
  rw [w2] at this
  simpa using (Option.some.inj this).symm
 rw [f1,f2,g1,g2]
 exact Zgj I n ds[j] es[j] A.in1 v1 v2 u1 u2 (Y6 hx g1) (Y6 hy g2) (by show A.units+1+n < cLine; omega) d1 d2 r1 r2
open PySem.SeqAt in
theorem ZeU {pins:List (Addr×Obj)}{σ:L2.St}{s:Shared} (I:Inv X pins σ H s) {n:Nat}{A:Around}{a b:Addr}{xs ys:List V}{ds es:List D} (hx:Yv n ds=true) (hy:Yv n es=true) (hu:A.units+n+1 < cLine)
  (e:TupAt X.K H a xs) (r:Dens X.K ad H xs ds) (e':TupAt X.K H b ys) (r':Dens X.K ad H ys es):RcAt A s (.ref a) (.ref b) (ZY ds es)∧RcNeAt A s (.ref a) (.ref b) (!ZY ds es):=by
 obtain ⟨its,rv,p,_⟩:=I.tuple (e.sq)
 obtain ⟨its',rv',p',_⟩:=I.tuple (e'.sq)
 have e1:its.toArray.size=ds.length:=by rw [List.size_toArray,←rv.length,r.length]
 have e2:its'.toArray.size=es.length:=by rw [List.size_toArray,←rv'.length,r'.length]
 have q:=RcAt.tuples (A:=A) (s:=s) (e:=fun i=>ZB ((ds[i]?).getD .non) ((es[i]?).getD .non)) p p' (by omega) fun j h1 h2=>Um (a:=a) (b:=b) I hx hy hu r r' rv rv' j h1 h2
 have q':=RcNeAt.tuples (A:=A) (s:=s) (e:=fun i=>ZB ((ds[i]?).getD .non) ((es[i]?).getD .non)) p p' (by omega) fun j h1 h2=>Um (a:=a) (b:=b) I hx hy hu r r' rv rv' j h1 h2
 rw [e1,e2] at q q'
 rw [YG]
 exact ⟨q,q'⟩
end
end Dp



namespace Dp
open PySem PySem.Spec PyProof.Rows L2 Builtin Builtin.Str
variable [ClsTab]
section
variable {X:Cx}{tg:Expr}
noncomputable def Itx (x:Str):It:=⟨fun i _=>i < x.cps.size,fun i H v H'=>H'=H∧∃ c,x.cps[i]?=some c∧v=.str ⟨#[c]⟩,fun i _=>x.cps.size≤i⟩
theorem ZdC {P:Program}{w:World}{K:PySem.W.Frag} (x:Str) (t:Tok) (it:Addr):Turn P w K tg (Itx x) [it] it (fun i h=>h.IsStrIter it "str_ascii_iterator" x t i) where
 mem:=by simp
 obj:=fun i h st b hb=>by
  have e:b=it:=by simpa using hb
  subst e
  obtain ⟨o,e,c,d⟩:=st
  exact ⟨o,e,fun v z=>by rw [d] at z; cases z⟩
 keep:=fun i h h' st k=>by
  obtain ⟨o,e,c⟩:=st
  exact ⟨o,k it (by simp) o e,c⟩
 item:=by
  intro X hP hw hK hc i pins s σ H E I hf st hg
  subst hP hw hK
  have hg:i < x.cps.size:=hg
  have hx:x.cps[i]?=some x.cps[i]:=Array.getElem?_eq_getElem hg
  obtain ⟨f0,f1,f2,f3,f4,f5⟩:=hf it (by simp)
  refine wpAny_pyNext_ascii_item st hx fun h' st' sb=>?_
  have I1:Inv X pins σ H { s with heap:=h',toks:=s.toks+1 }:=I.turned (t':=s.toks+1) (fun b o hb e=>(sb.2 b hb).trans e) f0 f1 f3 f4 f5
  obtain ⟨o,e,c,d⟩:=id st'
  exact ⟨_,rfl,go_of (s:={ s with heap:=h',toks:=s.toks+1 }) e c d (by decide) ⟨.str ⟨#[x.cps[i]]⟩,H,I1,⟨_,rfl⟩,⟨rfl,_,hx,rfl⟩,st',fun b hb=>(hf b hb).1⟩⟩
 done:=by
  intro X hP hw hK hc i pins s σ H E I hf st hg
  subst hP hw hK
  have hg:x.cps.size≤i:=hg
  obtain ⟨f0,f1,f2,f3,f4,f5⟩:=hf it (by simp)
  exact wpAny_pyNext_ascii_end (I.ok.hd hc) st (Array.getElem?_eq_none hg) fun h' eb=>⟨rfl,I.turned (t':=s.toks) (fun b o hb e=>eb b o hb e) f0 f1 f3 f4 f5⟩
 self:=fun _ _ _ _ _ st h=>wpAny_pyIter_striter_ascii st h
noncomputable def ZhN (tl:TE):TI:=fun σ H R=>tl σ H fun x H1=>∃ z,x=.str z∧z.cps.all (fun c=>decide (c < 128))=true∧R (Itx z) H1
theorem ZgQ {l:Expr}{tl:TE} (hl:PE X l tl):PI X tg l (ZhN tl):=by
 intro pins s σ H R I h
 refine thn (hl pins s σ H _ I h) fun v s1 ⟨x,H1,I1,r1,q1⟩=>?_
 obtain ⟨z,e,hz,q⟩:=q1
 subst e
 obtain ⟨t,rfl⟩:=r1
 refine wpAny_pyIter_ascii hz ?_
 refine ⟨s1.heap.objs.size,[s1.heap.objs.size],_,_,H1,rfl,I1.kept (t':=s1.toks) fun b o e=>Heap.get?_push_of_some _ e,ZdC z t _,⟨_,Heap.get?_push_size _ rfl,rfl,rfl⟩,fun b hb=>?_,q⟩
 have e:b=s1.heap.objs.size:=by simpa using hb
 subst e
 exact I1.fpOk (Nat.le_refl _) (I1.hok.fresh (Nat.le_refl _))
theorem Zbk {xs:List Nat}{a m:Nat} (h:a+m≤xs.length):((List.range m).map fun k=>a+k).filterMap (xs[·]?)=(xs.drop a).take m:=by
 apply List.ext_getElem?
 intro i
 induction m generalizing a i with
 | zero=>simp
 | succ m ih=>
  have ha:a < xs.length:=by omega
  rw [List.range_succ_eq_map,List.map_cons,List.map_map,List.filterMap_cons_some (b:=xs[a]) (by simp [ha]),List.drop_eq_getElem_cons ha,List.take_succ_cons]
  cases i with
  | zero=>rfl
  | succ i=>
   rw [List.getElem?_cons_succ,List.getElem?_cons_succ,←ih (a:=a+1) (by omega) i]
   congr 2
   apply List.map_congr_left
   intro k _
   show a+(k+1)=a+1+k
   omega
theorem clip_eq (n d:Nat) (o:Option Int) (hd:d≤n):(match o with
  | none=>(d:Int)
  | some i=>max 0 (min (if i < 0 then i+(n:Int) else i) (n:Int)))=((Dp.sIx n d o:Nat):Int)∧Dp.sIx n d o≤n:=by
 cases o with
 | none=>exact ⟨rfl,hd⟩
 | some i=>
  show max 0 (min (if i < 0 then i+(n:Int) else i) (n:Int))=((if i < 0 then (i+n).toNat else Nat.min i.toNat n:Nat):Int)∧(if i < 0 then (i+n).toNat else Nat.min i.toNat n)≤n
  by_cases h:i < 0
  ·rw [if_pos h,if_pos h]; omega
  ·rw [if_neg h,if_neg h]
   show max 0 (min i (n:Int))=((min i.toNat n:Nat):Int)∧min i.toNat n≤n
   omega
theorem Zg9 (x:Str) (lo hi:Option Int):((strSliceIndices lo hi 1 x.length).filterMap (x.cps[·]?))=(x.cps.toList.drop (Dp.sIx x.length 0 lo)).take (Dp.sIx x.length x.length hi - Dp.sIx x.length 0 lo):=by
 obtain ⟨e1,l1⟩:=clip_eq x.length 0 lo (Nat.zero_le _)
 obtain ⟨e2,l2⟩:=clip_eq x.length x.length hi (Nat.le_refl _)
 have hl:x.cps.toList.length=x.length:=Array.length_toList
 generalize Dp.sIx x.length 0 lo=a at *
 generalize Dp.sIx x.length x.length hi=b at *
 have e:strSliceIndices lo hi 1 x.length=sliceRange (a:Int) (b:Int) 1:=by
  rw [←e1,←e2]
  rfl
 rw [e]
 have er:sliceRange (a:Int) (b:Int) 1=(List.range (b - a)).map fun k=>a+k:=by
  have ec:(if (a:Int) < (b:Int) then ((b:Int) - (a:Int)+1 - 1) / 1 else 0).toNat=b - a:=by
   split
   ·rw [Int.ediv_one]; omega
   ·show 0=b - a; omega
  show (List.range (if (a:Int) < (b:Int) then ((b:Int) - (a:Int)+1 - 1) / 1 else 0).toNat).map (fun (k:Nat)=>((a:Int)+1 * (k:Int)).toNat)=_
  rw [ec]
  apply List.map_congr_left
  intro k _
  omega
 have ea:(fun i:Nat=>x.cps[i]?)=fun i=>x.cps.toList[i]?:=by funext i; simp
 rw [er,ea]
 by_cases hab:a≤b
 ·exact Zbk (by omega)
 ·rw [show b - a=0 by omega]; simp
theorem ZbX {x:Str}{lo hi:Option Int} (h:(strSliceIndices lo hi 1 x.length).length=x.length):Je x lo hi=x:=by
 obtain ⟨e1,l1⟩:=clip_eq x.length 0 lo (Nat.zero_le _)
 obtain ⟨e2,l2⟩:=clip_eq x.length x.length hi (Nat.le_refl _)
 have hl:x.cps.toList.length=x.length:=Array.length_toList
 unfold Je
 generalize Dp.sIx x.length 0 lo=a at *
 generalize Dp.sIx x.length x.length hi=b at *
 have e:strSliceIndices lo hi 1 x.length=sliceRange (a:Int) (b:Int) 1:=by
  rw [←e1,←e2]
  rfl
 rw [e] at h
 have h:((List.range (if (a:Int) < (b:Int) then ((b:Int) - (a:Int)+1 - 1) / 1 else 0).toNat).map (fun (k:Nat)=>((a:Int)+1 * (k:Int)).toNat)).length=x.length:=h
 rw [List.length_map,List.length_range] at h
 have hk:(x.cps.toList.drop a).take (b - a)=x.cps.toList:=by
  split at h
  ·rw [Int.ediv_one] at h
   have:a=0:=by omega
   subst this
   rw [List.drop_zero,List.take_of_length_le (by omega)]
  ·have:x.cps.toList=[]:=List.eq_nil_of_length_eq_zero (by have:(0:Int).toNat=0:=rfl; omega)
   rw [this]; simp
 rw [hk]
theorem Zha:SlR X (fun x lo hi H Q=>∃ z,x=.str z∧z.length≤sizeLine∧Q (.str (Je z lo hi)) H):=by
 intro pins s σ H x v vl vu lo hi sl Q I rx hs pl pu h
 obtain ⟨z,rfl,hz,q⟩:=h
 obtain ⟨t,rfl⟩:=rx
 have pv:∀ {v:Value}{o:Option Int},IsPart v o→∃ l:Option (Int×Tok),v=partValue l∧l.map (·.1)=o:=fun {v o} p=>by
  cases p with
  | none=>exact ⟨none,rfl,rfl⟩
  | int i t=>exact ⟨some (i,t),rfl,rfl⟩
 obtain ⟨l,rfl,el⟩:=pv pl
 obtain ⟨u,rfl,eu⟩:=pv pu
 refine ⟨"str",_,slot_str_getitem.lookup,typeIs_str s z t,wpAny_getItem_str_slice (l:=l) (u:=u) (st:=none) hs rfl ?_⟩
 unfold sliceMade slicePicked
 rw [el,eu]
 show (if ((1:Int)==1&&(strSliceIndices lo hi 1 z.length).length==z.length)=true then Made.val (.str z t) else Made.str ⟨((strSliceIndices lo hi 1 z.length).filterMap (z.cps[·]?)).toArray⟩).post _ s
 by_cases hw:((1:Int)==1&&(strSliceIndices lo hi 1 z.length).length==z.length)=true
 ·rw [if_pos hw]
  have hw':(strSliceIndices lo hi 1 z.length).length=z.length:=by simpa using hw
  rw [ZbX hw'] at q
  exact ⟨.str z,H,I,⟨t,rfl⟩,q⟩
 ·rw [if_neg hw,Zg9]
  refine ⟨?_,.str (Je z lo hi),H,I.tok _,⟨_,rfl⟩,q⟩
  have:((z.cps.toList.drop (Dp.sIx z.length 0 lo)).take (Dp.sIx z.length z.length hi - Dp.sIx z.length 0 lo)).length≤z.cps.toList.length:=by
   rw [List.length_take,List.length_drop]; omega
  have hl:z.cps.toList.length=z.length:=Array.length_toList
  show (List.toArray _).size≤_
  rw [List.size_toArray]
  omega
theorem W3 {s:Str}:∀ (xs:List Str) (n:Nat),xs.foldl (fun a p=>a+p.length+s.length) n=n+(Xt s xs).length
 | [],n=>rfl
 | x :: xs,n=>by
  rw [List.foldl_cons,W3 xs]
  show _=n+((s.cps.toList++x.cps.toList)++Xt s xs).length
  have hx:x.cps.toList.length=x.length:=Array.length_toList
  have hs:s.cps.toList.length=s.length:=Array.length_toList
  rw [List.length_append,List.length_append,hx,hs]
  omega
theorem WV {s:Str}:∀ (xs:List Str) (acc:Array Nat),xs.foldl (fun acc p=>acc++s.cps++p.cps) acc=(acc.toList++Xt s xs).toArray
 | [],acc=>by simp [Xt]
 | x :: xs,acc=>by
  rw [List.foldl_cons,WV xs]
  simp [Xt]
theorem Za0 {s:Str} (xs:List Str):glued s xs=⟨(U7 s xs).toArray⟩:=by
 cases xs with
 | nil=>rfl
 | cons x xs=>
  unfold glued
  rw [List.drop_one,List.tail_cons,List.headD_cons,WV]
  rfl
theorem WU {s:Str} (h:s.length=0):∀ (xs:List Str),Xt s xs=Ue xs
 | []=>rfl
 | x :: xs=>by
  have hs:s.cps.toList=[]:=List.eq_nil_of_length_eq_zero (Array.length_toList.trans h)
  show (s.cps.toList++x.cps.toList)++Xt s xs=x.cps.toList++Ue xs
  rw [hs,WU h xs]; rfl
theorem Zb9 {s:Str} (h:s.length=0) (xs:List Str):U7 s xs=Ue xs:=by
 cases xs with
 | nil=>rfl
 | cons x xs=>show x.cps.toList++Xt s xs=x.cps.toList++Ue xs; rw [WU h]
theorem VW:∀ {ys:List Str}{its:List Value},Vals (ys.map V.str) its→∃ l:List (Str×Tok),its=strValues l∧l.map (·.1)=ys
 | [],_,.nil=>⟨[],rfl,rfl⟩
 | y :: ys,_,.cons ⟨t,e⟩ r=>by
  obtain ⟨l,rfl,h⟩:=VW r
  exact ⟨(y,t) :: l,by rw [e]; rfl,by rw [List.map_cons,h]⟩
theorem ZeE:MtR X "str.join" (fun x xs H Q=>∃ z a ys,x=.str z∧xs=[.ref a]∧SqL X.K H a (ys.map V.str)∧(Xt z ys).length≤Zg∧Q (.str ⟨(U7 z ys).toArray⟩) H):=by
 intro pins s σ H x xs v us Q I rx r h
 obtain ⟨z,a,ys,rfl,rfl,sq,hl,q⟩:=h
 obtain ⟨t,rfl⟩:=rx
 obtain ⟨u,rfl,r1⟩:=vals1 r
 cases r1
 obtain ⟨its,rv,p,hn⟩:=I.list sq
 obtain ⟨l,rfl,el⟩:=VW rv
 refine PySem.SC.join p.isList el ?_ fun t' k=>⟨.str ⟨(U7 z ys).toArray⟩,H,I.tok _,⟨t',?_⟩,q⟩
 ·unfold JoinOk tooLong
  rw [List.foldl_toArray,W3]
  have:Zg≤sizeLine:=by decide
  simp
  omega
 ·show Value.str (glued z ys) t'=_
  rw [Za0]
end
end Dp



namespace Dp
open PySem PySem.Spec PyProof.Rows L2
variable [ClsTab]
section
open Builtin
open AutoSeq1 (wpAny_loadPart')
theorem XY:fillsNumberSlot (.type "tuple") "mul"=pure false:=
 PySem.fillsNumberSlot_seq (id := "tuple.__mul__") (r:=some (.builtin "tuple.__rmul__")) F.slot_tuple_mul.lookup (by decide +kernel) F.slot_tuple_rmul.lookup (by decide +kernel)
theorem UH:seqRepeat? (.type "tuple")=pure (some (.builtin "tuple.__mul__")):=by
 unfold seqRepeat?
 rw [PySem.seqSlot_of (T := "tuple") (name := "__mul__") (id := "tuple.__mul__") F.slot_tuple_mul.lookup (by decide +kernel),PySem.seqSlot_of (T := "tuple") (name := "__rmul__") (id := "tuple.__rmul__") F.slot_tuple_rmul.lookup (by decide +kernel)]
 rfl
theorem JE (a:Int) (t:Tok) (l:Addr) (items:Array Value) (n:Nat) (dd:Option Addr) (sl:Array (Option Value)):Meets (Builtin.«int.__rmul__» ⟨[.int a t,.ref l],[]⟩) (fun _ R s=>s.heap.get? l=some { cls:=.type "tuple",dict:=dd,data:=.seq items n,slots:=sl }∧R (.ok (.ret Value.notImplemented)) s):=
 .of_wp fun prog w A R s h=>by obtain ⟨hp,g,d,tk,os⟩:=s; obtain ⟨hl,h⟩:=h; wp_walk; exact ⟨_,rfl,h⟩
theorem Zdz (l:Addr) (items:Array Value) (n:Nat) (dd:Option Addr) (sl:Array (Option Value)) (u:Tok) :
  Meets (Builtin.«tuple.__mul__» ⟨[.ref l,.int 1 u],[]⟩) (fun _ R s=>s.heap.get? l=some { cls:=.type "tuple",dict:=dd,data:=.seq items n,slots:=sl }∧R (.ok (.ret (Value.ref l))) s):=
 .of_wp fun prog w A R s h=>by
  obtain ⟨hp,g,d,tk,os⟩:=s; obtain ⟨hl,h⟩:=h; have f1:=AutoSeq1.idx_int; wp_walk using wpAny_loadPart' hl
  exact ⟨_,rfl,h⟩
theorem Zdy (l:Addr) (items:Array Value) (n:Nat) (dd:Option Addr) (sl:Array (Option Value)) (k:Int) (u:Tok) (h0:¬items.isEmpty=true) (h1:k≤0) (h2:-1000≤k) :
  Meets (Builtin.«tuple.__mul__» ⟨[.ref l,.int k u],[]⟩) (fun _ R s=>s.heap.get? l=some { cls:=.type "tuple",dict:=dd,data:=.seq items n,slots:=sl }∧R (.ok (.ret (Value.ref s.heap.objs.size))) { s with heap:=s.heap.push { cls:=.type "tuple",data:=.seq #[] } }):=
 .of_wp fun prog w A R s h=>by
  obtain ⟨hp,g,d,tk,os⟩:=s; obtain ⟨hl,h⟩:=h; have f1:=AutoSeq1.idx_int
  have a1:(decide (k < -(2 ^ 63))||decide (k≥2 ^ 63))=false:=by rw [decide_eq_false (by omega),decide_eq_false (by omega)]; rfl
  have a2:(items.isEmpty||k==1)=false:=by
   have:(k==1)=false:=by rw [beq_eq_false_iff_ne]; omega
   rw [this,Bool.or_false]; simpa using h0
  have a3:(decide (k≤0)||items.isEmpty)=true:=by rw [decide_eq_true h1]; rfl
  wp_walk using wpAny_loadPart' hl
  refine wpAny_ite_false (by rw [a1]; rfl) ?_
  wp_walk using wpAny_loadPart' hl
  refine wpAny_ite_false (by rw [a2]; rfl) ?_
  wp_walk using wpAny_loadPart' hl
  exact ⟨_,rfl,h⟩
theorem ZdA (l:Addr) (items:Array Value) (n:Nat) (dd:Option Addr) (sl:Array (Option Value)) (k:Int) (u:Tok) (h0:items.size=1) (h1:2≤k) (h2:k≤1000) :
  Meets (Builtin.«tuple.__mul__» ⟨[.ref l,.int k u],[]⟩) (fun _ R s=>s.heap.get? l=some { cls:=.type "tuple",dict:=dd,data:=.seq items n,slots:=sl }∧R (.ok (.ret (Value.ref s.heap.objs.size))) { s with heap:=s.heap.push { cls:=.type "tuple",data:=.seq ((List.replicate k.toNat items).foldl (fun x1 x2=>x1++x2) #[]) } }):=
 .of_wp fun prog w A R s h=>by
  obtain ⟨hp,g,d,tk,os⟩:=s; obtain ⟨hl,h⟩:=h; have f1:=AutoSeq1.idx_int
  have a1:(decide (k < -(2 ^ 63))||decide (k≥2 ^ 63))=false:=by rw [decide_eq_false (by omega),decide_eq_false (by omega)]; rfl
  have ae:items.isEmpty=false:=by
   rw [Array.isEmpty_eq_false_iff]; intro z; rw [z] at h0; simp at h0
  have a2:(items.isEmpty||k==1)=false:=by
   have:(k==1)=false:=by rw [beq_eq_false_iff_ne]; omega
   rw [this,Bool.or_false]; exact ae
  have a3:(decide (k≤0)||items.isEmpty)=false:=by rw [decide_eq_false (by omega),ae]; rfl
  have a4:decide ((items.size:Int) * k > (2 ^ 63 - 1) / 8)=false:=by rw [h0]; exact decide_eq_false (by omega)
  have a5:Tuple.tupleTooMany ((items.size:Int) * k)=false:=by
   unfold Tuple.tupleTooMany
   rw [h0]
   exact decide_eq_false (by have:(sizeLine:Int)≥1000:=(by decide); omega)
  have a6:decide (((List.replicate k.toNat items).foldl (fun x1 x2=>x1++x2) #[]).size > sizeLine)=false:=by
   rw [AutoListH.size_joined]
   refine decide_eq_false ?_
   have:sizeLine≥1000:=by decide
   simp only [h0,Array.size_empty]
   omega
  wp_walk using wpAny_loadPart' hl
  refine wpAny_ite_false (by rw [a1]; rfl) ?_
  wp_walk using wpAny_loadPart' hl
  refine wpAny_ite_false (by rw [a2]; rfl) ?_
  wp_walk using wpAny_loadPart' hl
  refine wpAny_ite_false (by rw [a3]; rfl) ?_
  wp_walk using wpAny_loadPart' hl
  refine wpAny_ite_false a4 ?_
  wp_walk using wpAny_loadPart' hl
  refine wpAny_ite_false (by rw [a5]; rfl) ?_
  wp_walk using wpAny_loadPart' hl
  exact ⟨_,rfl,h⟩
theorem ZeX {X:Cx}{pins:List (Addr×Obj)}{s:Shared}{σ:L2.St}{H:Hp}{a:Addr}{v:V}{k:Int}{t:Tok}{Q:VK} (I:L2.Inv X pins σ H s) (ha:TupAt X.K H a [v]) (h1:k≤1000) (h2:-1000≤k) (q1:k=1→Q (.ref a) H)
  (q2:∀ p,H p=none→Q (.ref p) (upd H p (.tup (List.replicate k.toNat v)))):wpAny (model X.prog X.w) X.A (binaryOp .Mult (.ref a) (.int k t)) (EP X pins σ Q) X.xe s:=by
 obtain ⟨its,r,p1,_⟩:=I.tuple (ha.sq)
 obtain ⟨u,rfl,ru⟩:=r.one
 obtain ⟨⟨c1,dd,dt,sl⟩,ho,hc,n,hd⟩:=id p1
 simp only at hc hd
 subst hc hd
 have fin:∀ its':List Value,Vals (List.replicate k.toNat v) its'→EP X pins σ Q (.ref s.heap.objs.size) { s with heap:=s.heap.push { cls:=.type "tuple",data:=.seq its'.toArray } }:=fun its' r'=>
  ⟨.ref s.heap.objs.size,_,I.laid (t':=s.toks) (o:=.tup (List.replicate k.toNat v)) (fun b ob q=>Heap.get?_push_of_some _ q) (Nat.le_refl _) ⟨by rw [List.length_replicate]; exact Nat.le_trans (show k.toNat≤1000 by omega) (by decide),its',r',IsTup.new _ _⟩,rfl,q2 _ (I.hok.fresh (Nat.le_refl _))⟩
 refine wpAny_binaryOp_repeat_ref (T := "tuple") (U := "int") (by decide) ⟨_,ho,rfl⟩ (fun s'=>typeIs_int s' k t) XY F.fills_int_mul F.slot_int_rmul UH F.slot_int_index.lookup
  (call_meets F.slot_int_rmul (typeIs_int s k t) F.entry_int_rmul (F.args_int_rmul_2 _ _) (JE k t a _ n dd sl) ⟨ho,rfl,⟨_,ho,rfl⟩,?_⟩)
 by_cases e1:k=1
 ·subst e1
  exact call_meets F.slot_tuple_mul ⟨_,ho,rfl⟩ F.entry_tuple_mul (F.args_tuple_mul_2 _ _) (Zdz a _ n dd sl t) ⟨ho,⟨.ref a,H,I,rfl,q1 rfl⟩⟩
 ·by_cases e0:k≤0
  ·refine call_meets F.slot_tuple_mul ⟨_,ho,rfl⟩ F.entry_tuple_mul (F.args_tuple_mul_2 _ _) (Zdy a _ n dd sl k t (by simp) e0 h2) ⟨ho,?_⟩
   have z:k.toNat=0:=by omega
   exact fin [] (by rw [z]; exact .nil)
  ·refine call_meets F.slot_tuple_mul ⟨_,ho,rfl⟩ F.entry_tuple_mul (F.args_tuple_mul_2 _ _) (ZdA a _ n dd sl k t (by simp) (by omega) h1) ⟨ho,?_⟩
   have e:List.foldl (fun x1 x2=>x1++x2) #[] (List.replicate k.toNat [u].toArray)=(List.replicate k.toNat u).toArray:=by
    have e2:=foldl_rep [u] k.toNat []
    rw [List.nil_append] at e2
    rw [show ([]:List Value).toArray=#[] from rfl] at e2
    rw [e2]
    congr 1
    generalize k.toNat=j
    induction j with
    | zero=>rfl
    | succ j ih=>rw [List.replicate_succ,List.flatten_cons,ih,List.replicate_succ]; rfl
   rw [e]
   refine fin _ ?_
   generalize k.toNat=j
   induction j with
   | zero=>exact .nil
   | succ j ih=>exact .cons ru ih
end
theorem Yk:Zg≤sizeLine:=by decide
section
variable {X:Cx}
theorem ZcC {i:Int} (h:ZI i=true):-(2 ^ 64) < i∧i < 2 ^ 64:=by
 unfold ZI at h
 rw [Bool.and_eq_true] at h
 exact ⟨of_decide_eq_true h.1,of_decide_eq_true h.2⟩
theorem ZdW {pins:List (Addr×Obj)}{s:Shared}{σ:L2.St}{H:Hp}{a b:Addr}{xs ys:List V}{Q:VK} (I:Inv X pins σ H s) (ha:TupAt X.K H a xs) (hb:TupAt X.K H b ys) (hz:xs.length+ys.length≤sizeLine)
  (q0:xs=[]→Q (.ref b) H) (q1:ys=[]→Q (.ref a) H) (q2:∀ p,H p=none→Q (.ref p) (upd H p (.tup (xs++ys)))):wpAny (model X.prog X.w) X.A (binaryOp .Add (.ref a) (.ref b)) (EP X pins σ Q) X.xe s:=by
 by_cases hx:xs=[]
 ·obtain ⟨its,r1,p1,_⟩:=I.tuple (ha.sq)
  obtain ⟨its2,r2,p2,_⟩:=I.tuple (hb.sq)
  have e1:its=[]:=r1.nil_iff.mpr hx
  subst e1
  obtain ⟨⟨c1,dd,dt,sl⟩,ho,hc,n,hd⟩:=id p1
  obtain ⟨⟨c2,dd2,dt2,sl2⟩,ho2,hc2,n2,hd2⟩:=id p2
  simp only at hc hd hc2 hd2
  subst hc hd hc2 hd2
  exact concat_meets ⟨_,ho,rfl⟩ ⟨_,ho2,rfl⟩ noFill_tuple_add seq_tuple_add PySem.F.slot_tuple_add PySem.F.entry_tuple_add (PySem.F.args_tuple_add_2 _ _)
   (tuple_addW0 a b #[] its2.toArray n n2 dd dd2 sl sl2 rfl) ⟨ho,ho2,⟨.ref b,H,I,rfl,q0 hx⟩⟩
 ·exact op_catT pins s σ H (.ref a) (.ref b) _ _ Q I rfl rfl ⟨a,b,xs,ys,rfl,rfl,(ha).sq,(hb).sq,hx,hz,q1,fun _=>q2⟩
theorem ZeK {op:Operator}{i j k:Int}{pins:List (Addr×Obj)}{s:Shared}{σ:L2.St}{H:Hp}{v u:Value}{Q:VK} (I:L2.Inv X pins σ H s) (rx:RelV (.int i) v) (ry:RelV (.int j) u) (e:Q7 op i j=some k) (p:Q (.int k) H) :
  wpAny (model X.prog X.w) X.A (binaryOp op v u) (EP X pins σ Q) X.xe s:=by
 unfold Q7 at e
 split at e
 ·cases e
  exact op_add pins s σ H _ _ v u Q I rx ry ⟨_,_,rfl,rfl,p⟩
 ·cases e
  exact op_sub pins s σ H _ _ v u Q I rx ry ⟨_,_,rfl,rfl,p⟩
 ·split at e
  ·rename_i hl
   cases e
   refine op_mul pins s σ H _ _ v u Q I rx ry ⟨_,_,rfl,rfl,?_,p⟩
   rw [Bool.or_eq_true] at hl
   exact hl.elim (fun z=>.inl (ZcC z)) fun z=>.inr (ZcC z)
  ·cases e
 ·split at e
  ·rename_i hl
   cases e
   exact op_fdiv pins s σ H _ _ v u Q I rx ry ⟨_,_,rfl,rfl,hl,p⟩
  ·split at e
   ·rename_i hl
    cases e
    exact op_fdivN pins s σ H _ _ v u Q I rx ry ⟨_,_,rfl,rfl,⟨by omega,by omega⟩,p⟩
   ·cases e
 ·split at e
  ·rename_i hl
   cases e
   exact op_mod pins s σ H _ _ v u Q I rx ry ⟨_,_,rfl,rfl,hl,p⟩
  ·split at e
   ·rename_i hl
    cases e
    exact op_modN pins s σ H _ _ v u Q I rx ry ⟨_,_,rfl,rfl,(by omega),p⟩
   ·cases e
 ·cases e
theorem ZaT {pins:List (Addr×Obj)}{s:Shared}{σ:L2.St}{H:Hp}{a b:Addr}{xs ys:List V}{Q:VK} (I:L2.Inv X pins σ H s) (ha:SqL X.K H a xs) (hb:SqL X.K H b ys) (hz:xs.length+ys.length≤sizeLine)
  (q:∀ p,H p=none→Q (.ref p) (upd H p (.lst (xs++ys)))):wpAny (model X.prog X.w) X.A (binaryOp .Add (.ref a) (.ref b)) (EP X pins σ Q) X.xe s:=by
 obtain ⟨its,r,p1,_⟩:=I.list ha
 obtain ⟨its2,r2,p2,_⟩:=I.list hb
 obtain ⟨⟨cls,dd,data,sl⟩,ho,hc,n,hd⟩:=id p1.isList
 obtain ⟨⟨cls2,dd2,data2,sl2⟩,ho2,hc2,n2,hd2⟩:=id p2.isList
 simp only at hc hd hc2 hd2
 subst hc hd hc2 hd2
 have e:its.toArray++its2.toArray=(its++its2).toArray:=by simp
 have l1:=r.length
 have l2:=r2.length
 refine concat_meets ⟨_,ho,rfl⟩ ⟨_,ho2,rfl⟩ noFill_list_add seq_list_add PySem.F.slot_list_add PySem.F.entry_list_add (PySem.F.args_list_add_2 _ _) (list_addW a b its.toArray its2.toArray n n2 dd dd2 sl sl2 (by simp; omega)) ⟨ho,ho2,?_⟩
 rw [e]
 exact ⟨.ref _,_,I.lnew (t':=s.toks) (r.append r2) (by rw [List.length_append]; omega),rfl,q _ I.fresh⟩
theorem Q2 {op:Operator} (h:YV op=true):op=.Add:=by cases op<;>first | rfl | cases h
theorem ZcI {op:Operator} (h:Xj op=true):op=.Mult:=by cases op<;>first | rfl | cases h
theorem ZeJ {op:Operator}:OpR X (binaryOp op) (rD X.K (XR op)):=by
 intro pins s σ H x y v u Q I rx ry h
 obtain ⟨ad,st,dx,dy,d,st',S,hx,hy,e,p⟩:=h
 unfold XR at e
 split at e
 ·split at e
  ·rename_i k q
   cases e; cases hx; cases hy
   exact ZeK I rx ry q (p.at S (.int _))
  ·cases e
 ·split at e
  ·rename_i hz0
   cases Q2 hz0.1
   have hz:=hz0.2
   cases e
   obtain ⟨a,xs,rfl,ha,r1⟩:=hx.ofTup
   obtain ⟨b,ys,rfl,hb,r2⟩:=hy.ofTup
   cases rx; cases ry
   refine ZdW I ha hb (by rw [r1.length,r2.length]; exact Nat.le_trans hz Yk) (fun z=>?_) (fun z=>?_) fun q hq=>?_
   ·subst z; cases r1
    exact p.at S hy
   ·subst z; cases r2
    rw [List.append_nil] at p
    exact p.at S hx
   ·exact p _ ad _ (Ext.laid hq) (S.laid hq) (.tup (.inl upd_same) ((r1.append r2).mono (Ext.laid hq)))
  ·cases e
 ·split at e
  ·rename_i hz0
   cases ZcI hz0
   obtain ⟨a,xs,rfl,ha,r1⟩:=hx.ofTup
   cases hy
   cases rx
   obtain ⟨t,rfl⟩:=ry
   cases r1 with
   | nil=>cases e
   | cons d1 r1=>cases r1 with
    | cons _ _=>cases e
    | nil=>
     have e:(if _∧_ then some (D.tup (List.replicate _ _),st) else none)=some (d,st'):=e
     split at e
     ·rename_i hz
      cases e
      refine ZeX I ha hz.1 hz.2 (fun z=>?_) fun q hq=>p _ ad _ (Ext.laid hq) (S.laid hq) (.tup (.inl upd_same) ((Dens.rep d1 _).mono (Ext.laid hq)))
      subst z
      exact p.at S (.tup ha (.cons d1 .nil))
     ·cases e
  ·cases e
 ·split at e
  ·rename_i hop
   cases Q2 hop
   unfold ZdV at e
   split at e
   ·rename_i xs ys q1 q2
    split at e
    ·rename_i hz
     cases e
     obtain ⟨a,rfl,ha⟩:=hx.ofLst
     obtain ⟨b,rfl,hb⟩:=hy.ofLst
     obtain ⟨vs,r1,h1⟩:=S.list ha q1
     obtain ⟨ws,r2,h2⟩:=S.list hb q2
     cases rx; cases ry
     refine ZaT I h1 h2 (by rw [r1.length,r2.length]; exact Nat.le_trans hz Yk) fun q hq=>?_
     refine p _ (ad++[q]) _ (Ext.push hq) (S.push hq (r1.append r2)) (.newL ?_)
     rw [←S.len]
     exact ZL
    ·cases e
   ·cases e
  ·cases e
 ·split at e
  ·rename_i hop
   cases ZcI hop
   unfold ZeW at e
   split at e
   ·rename_i z q1
    split at e
    ·rename_i hz
     cases e
     obtain ⟨a,rfl,ha⟩:=hx.ofLst
     obtain ⟨vs,r1,h1⟩:=S.listM ha q1
     cases hy
     cases r1 with
     | cons d1 r1=>
      cases r1
      rename_i w
      refine op_rep pins s σ H _ _ v u Q I rx ry ⟨a,_,[w],rfl,rfl,h1,by omega,by omega,?_,fun q hq=>?_⟩
      ·rw [List.length_singleton,Nat.one_mul]
       exact Nat.le_trans (show _≤1000 by omega) (by decide)
      ·have e1:∀ k:Nat,(List.replicate k [w]).flatten=List.replicate k w:=fun k=>by
        induction k with
        | zero=>rfl
        | succ k ih=>rw [List.replicate_succ,List.flatten_cons,ih,List.replicate_succ]; rfl
       rw [e1]
       refine p _ (ad++[q]) _ (Ext.push hq) (S.push hq (Dens.rep d1 _)) (.newL ?_)
       rw [←S.len]
       exact ZL
    ·cases e
   ·cases e
  ·cases e
 ·split at e
  ·rename_i hz
   cases Q2 hz.1
   cases e; cases hx; cases hy
   exact op_add_str pins s σ H _ _ v u Q I rx ry ⟨_,_,rfl,rfl,Nat.le_trans hz.2 Yk,p.at S (.str _)⟩
  ·cases e
 ·cases e
theorem Zft:UnR X (unaryOp .USub) (rU1 X.K ZeF):=by
 intro pins s σ H x v Q I rx h
 obtain ⟨ad,st,dx,d,st',S,hx,e,p⟩:=h
 unfold ZeF at e
 split at e
 ·cases e; cases hx
  exact un_neg pins s σ H _ v Q I rx ⟨_,rfl,p.at S (.int _)⟩
 ·cases e
theorem Q5 {xs:List V}{ds:List D}{ad:List Addr}{H:Hp}{i:Int}{d:D} (r:Dens X.K ad H xs ds) (e:atD ds i=some d):∃ v,atI xs i=some v∧Den X.K ad H v d:=by
 unfold atD at e
 have hl:L2.ixN xs.length i=Dp.ixN ds.length i:=by rw [r.length]; rfl
 cases q:Dp.ixN ds.length i with
 | none=>rw [q] at e; cases e
 | some j=>
  rw [q] at e
  obtain ⟨v,e1,e2⟩:=r.get (i:=j) e
  refine ⟨v,?_,e2⟩
  unfold atI
  rw [hl,q]
  exact e1
theorem W5 {ad:List Addr}{H:Hp}{k:Str}:∀ {ks:List Str}{vs:List V}{ds:List D},Dens X.K ad H vs ds→ks.length=vs.length→
  (∃ v d,valV ((ks.zip vs).map fun p=>((Sum.inr p.1:Key),p.2)) (Sum.inr k)=some v∧Z0 ks ds k=some d∧Den X.K ad H v d)∨(valV ((ks.zip vs).map fun p=>((Sum.inr p.1:Key),p.2)) (Sum.inr k)=none∧Z0 ks ds k=none)
 | [],_,_,.nil,_=>.inr ⟨rfl,rfl⟩
 | [],_,_,.cons _ _,h=>by simp at h
 | _ :: _,_,_,.nil,h=>by simp at h
 | x :: ks,v :: vs,d :: ds,.cons hd r,h=>by
  by_cases e:x=k
  ·subst e
   exact .inl ⟨v,d,valV_pos rfl,by simp [Z0],hd⟩
  ·have ih:=W5 (k:=k) r (by simpa using h)
   have e1:valV (((x :: ks).zip (v :: vs)).map fun p=>((Sum.inr p.1:Key),p.2)) (Sum.inr k)=valV ((ks.zip vs).map fun p=>((Sum.inr p.1:Key),p.2)) (Sum.inr k):=valV_neg (p:=(Sum.inr x,v)) (by intro z; exact e (Sum.inr.inj z))
   have e2:Z0 (x :: ks) (d :: ds) k=Z0 ks ds k:=by simp [Z0,e]
   rw [e1,e2]; exact ih
theorem ZhE {x:Str}{i:Int}{d:D} (q:atD ((chS x).map D.str) i=some d):∃ c,atI x.cps.toList i=some c∧d=.str ⟨#[c]⟩:=by
 unfold atD at q
 unfold atI
 have hl:((chS x).map D.str).length=x.cps.toList.length:=by simp [chS]
 rw [hl] at q
 show ∃ c,(Dp.ixN x.cps.toList.length i).bind (fun j=>x.cps.toList[j]?)=some c∧_
 cases e:Dp.ixN x.cps.toList.length i with
 | none=>rw [e] at q; cases q
 | some j=>
  rw [e] at q
  have q:((chS x).map D.str)[j]?=some d:=q
  unfold chS at q
  rw [List.getElem?_map,List.getElem?_map] at q
  show ∃ c,x.cps.toList[j]?=some c∧_
  cases e2:x.cps.toList[j]? with
  | none=>rw [e2] at q; cases q
  | some c=>rw [e2] at q; cases q; exact ⟨c,rfl,rfl⟩
theorem ZiS (hu:X.A.units+64 < cLine):IxR X (rD X.K ixR):=by
 intro value slice pins s σ H x y v u Q I rx ry h hs
 obtain ⟨ad,st,dx,dy,d,st',S,hx,hy,e,p⟩:=h
 unfold ixR at e
 split at e
 ·rename_i d' q
  cases e
  unfold ixD at q
  split at q
  ·obtain ⟨a,xs,rfl,ha,r⟩:=hx.ofTup
   cases hy
   obtain ⟨w,e1,e2⟩:=Q5 r q
   exact ix_tup value slice pins s σ H _ _ v u Q I rx ry ⟨a,xs,_,w,rfl,rfl,(ha).sq,e1,p.at S e2⟩ hs
  ·split at q
   ·rename_i q0
    obtain ⟨a,rfl,ha⟩:=hx.ofLst
    cases hy
    obtain ⟨xs,r,sq⟩:=S.list ha q0
    obtain ⟨w,e1,e2⟩:=Q5 r q
    exact ix_list value slice pins s σ H _ _ v u Q I rx ry ⟨a,xs,_,w,rfl,rfl,sq,e1,p.at S e2⟩ hs
   ·cases q
  ·obtain ⟨a,vs,rfl,ha,hl,r⟩:=hx.ofDct
   cases hy
   rcases W5 r hl with ⟨w,d0,e1,e2,e3⟩ | ⟨_,e2⟩
   ·rw [e2] at q
    cases q
    exact ix_dct value slice pins s σ H _ _ v u Q I rx ry ⟨a,_,Sum.inr _,w,rfl,rfl,ha,e1,p.at S e3⟩ hs
   ·rw [e2] at q; cases q
  ·obtain ⟨a,o,its,n,rfl,h1,h2,h3,h4,h5⟩:=hx.ofKt
   cases hy
   obtain ⟨w,e1,e2⟩:=Q5 (VV _) q
   exact ix_tup value slice pins s σ H _ _ v u Q I rx ry ⟨a,_,_,w,rfl,rfl,.inr ⟨o,its,n,h1,h2.1,h3,h4,h5⟩,e1,p.at S e2⟩ hs
  ·split at q
   ·rename_i hz
    cases hx; cases hy
    obtain ⟨c,e1,rfl⟩:=ZhE q
    exact ix_str value slice pins s σ H _ _ v u Q I rx ry ⟨_,_,c,rfl,rfl,Nat.le_trans hz Yk,e1,p.at S (.str _)⟩ hs
   ·cases q
  ·cases q
 ·cases e
theorem YO (n d:Nat) (o:Option Int):Dp.sIx n d o=HT.sIx n d o:=by cases o<;>rfl
theorem ZbY {xs:List V}{ds:List D}{ad:List Addr}{H:Hp}{lo hi:Option Int} (r:Dens X.K ad H xs ds):Dens X.K ad H (cutV xs lo hi) (ZaW ds lo hi):=by
 unfold cutV ZaW
 rw [←r.length,YO,YO]
 exact (r.drop _).take _
theorem Vq {prog:Program}{w:World}{A:Around}{E:Value→Shared→Prop}{s:Shared}{t sl:Addr}{items:Array Value}{vl vu:Value}{lo hi:Option Int}{Q:Value→Shared→Prop} (ht:IsTup s.heap t items) (hs:s.heap.IsSliceOf sl vl vu .none) (pl:IsPart vl lo) (pu:IsPart vu hi)
  (hw:HT.sIx items.size 0 lo=0∧HT.sIx items.size items.size hi=items.size) (h:Q (.ref t) s):wpAny (model prog w) A (getItem (.ref t) (.ref sl)) Q E s:=by
 obtain ⟨os,hos,hcs,hds⟩:=id hs
 have hTs:s.TypeIs (.ref sl) "slice":=⟨os,hos,hcs⟩
 unfold getItem
 try with_reducible refine wpAny_holding ?_
 first | refine wpAny_bind (wpAny_pure ?_) | skip
 refine wpAny_bind (wpAny_sequenceKey ht.typeIs (by decide) ?_)
 refine wpAny_bind (wpAny_callSpecial?_slot (name:=Str.ofString "__getitem__") ht.typeIs PyProof.Rows.slot_tuple_getitem
  (wpAny_call_entry PyProof.Rows.slot_tuple_getitem ht.typeIs PyProof.Rows.entry_tuple_getitem ?_ (PyProof.Rows.args_tuple_getitem _ _)))
 show wpAny _ _ (Builtin.Tuple.tupleItemsOf (.ref t) >>= _) _ _ s
 refine wpAny_bind (tupleItemsOf_ ht ?_)
 refine wpAny_bind (wpAny_typeOf hTs ?_)
 rw [if_pos (by decide)]
 refine wpAny_bind (HT.sliceApplied_gen hs pl pu ?_)
 rw [hw.1,hw.2]
 have hyes:(((0:Nat):Int)==0&&(1:Int)==1&&(items.size - 0)==items.size)=true:=by simp
 show wpAny _ _ (if (((0:Nat):Int)==0&&(1:Int)==1&&(items.size - 0)==items.size)=true then _ else _) _ _ s
 rw [if_pos hyes]
 unfold Builtin.Tuple.tupleIsExact
 wp_walk using wpAny_typeOf ht.typeIs

 exact ⟨_,rfl,wpAny_pure h⟩
theorem Zdv:SlR X (fun x lo hi H Q=>∃ a xs,x=.ref a∧SqT X.K H a xs∧(HT.sIx xs.length 0 lo=0∧HT.sIx xs.length xs.length hi=xs.length)∧Q (.ref a) H):=by
 intro pins s σ H x v vl vu lo hi sl Q I rx hs pl pu h
 obtain ⟨a,xs,rfl,hx,hw,q⟩:=h
 cases rx
 obtain ⟨its,r,ht,hz⟩:=I.tuple hx
 have hlen:its.toArray.size=xs.length:=by rw [List.size_toArray]; exact r.length.symm
 refine ⟨"tuple",_,PyProof.Rows.slot_tuple_getitem.lookup,ht.typeIs,?_⟩
 exact Vq ht hs pl pu (by rw [hlen]; exact hw) ⟨.ref a,H,I,rfl,q⟩
theorem Zjm:SlR X (rSl X.K):=by
 intro pins s σ H x v vl vu lo hi sl Q I rx hs pl pu h
 obtain ⟨ad,st,dx,d,st',S,hx,e,p⟩:=h
 unfold Yl at e
 split at e
 ·rename_i ds
  split at e
  ·rename_i hw
   cases e
   obtain ⟨a,xs,rfl,ha,r⟩:=hx.ofTup
   refine Zdv pins s σ H _ v vl vu lo hi sl Q I rx hs pl pu ⟨a,xs,rfl,ha.sq,?_,p.at S hx⟩
   rw [r.length,←YO,←YO]
   exact hw
  ·rename_i hw
   cases e
   obtain ⟨a,xs,rfl,ha,r⟩:=hx.ofTup
   refine sl_tup pins s σ H _ v vl vu lo hi sl Q I rx hs pl pu ⟨a,xs,rfl,(ha).sq,?_,fun q hq=>p _ ad _ (Ext.laid hq) (S.laid hq) (.tup (.inl upd_same) ((ZbY r).mono (Ext.laid hq)))⟩
   rw [r.length,←YO,←YO]
   exact hw
 ·split at e
  ·rename_i q0
   cases e
   obtain ⟨a,rfl,ha⟩:=hx.ofLst
   obtain ⟨xs,r,sq⟩:=S.list ha q0
   refine sl_list pins s σ H _ v vl vu lo hi sl Q I rx hs pl pu ⟨a,xs,rfl,sq,fun q hq=>p _ (ad++[q]) _ (Ext.push hq) (S.push hq (ZbY r)) (.newL ?_)⟩
   rw [←S.len]
   exact ZL
  ·cases e
 ·split at e
  ·rename_i hz
   cases e; cases hx
   exact Zha pins s σ H _ v vl vu lo hi sl Q I rx hs pl pu ⟨_,rfl,Nat.le_trans hz Yk,p.at S (.str _)⟩
  ·cases e
 ·cases e
theorem JZ {ad:List Addr}{H:Hp}{vs:List V}{d:D} (h:Dens X.K ad H vs [d]):∃ v,vs=[v]∧Den X.K ad H v d:=by
 cases h with
 | cons h r=>cases r; exact ⟨_,rfl,h⟩
theorem ZfB {ad:List Addr}{H:Hp}{vs:List V}{d e:D} (h:Dens X.K ad H vs [d,e]):∃ v w,vs=[v,w]∧Den X.K ad H v d∧Den X.K ad H w e:=by
 cases h with
 | cons h r=>
  cases r with
  | cons h' r=>cases r; exact ⟨_,_,rfl,h,h'⟩
theorem Xd {g:D→Za→Res}{ds:List D}{st:Za}{r:D×Za} (h:on1 g ds st=some r):∃ d,ds=[d]∧g d st=some r:=by
 unfold on1 at h
 split at h
 ·exact ⟨_,rfl,h⟩
 ·cases h
theorem VR {g:D→D→Za→Res}{ds:List D}{st:Za}{r:D×Za} (h:on2 g ds st=some r):∃ d e,ds=[d,e]∧g d e st=some r:=by
 unfold on2 at h
 split at h
 ·exact ⟨_,_,rfl,h⟩
 ·cases h
theorem ZaO:CallR X (.builtin "len") (rC X.K (on1 Qm)):=by
 intro pins s σ H xs us Q I r h
 obtain ⟨ad,st,ds,d,st',S,hd,e,p⟩:=h
 obtain ⟨x,rfl,e1⟩:=Xd e
 have e:=e1
 obtain ⟨v,rfl,hv⟩:=JZ hd
 unfold Qm at e
 split at e
 ·rename_i n q
  cases e
  unfold Zeu at q
  split at q
  ·cases q
   obtain ⟨a,ys,rfl,ha,rr⟩:=hv.ofTup
   refine call_len_seq pins s σ H _ us Q I r ⟨a,ys,rfl,.inr ((ha).sq),?_⟩
   rw [rr.length]
   exact p.at S (.int _)
  ·split at q
   ·rename_i q0
    cases q
    obtain ⟨a,rfl,ha⟩:=hv.ofLst
    obtain ⟨ys,rr,sq⟩:=S.list ha q0
    refine call_len_seq pins s σ H _ us Q I r ⟨a,ys,rfl,.inl sq,?_⟩
    rw [rr.length]
    exact p.at S (.int _)
   ·cases q
  ·cases q
   obtain ⟨a,o,its,n,rfl,h1,h2,h3,h4,h5⟩:=hv.ofKt
   refine call_len_seq pins s σ H _ us Q I r ⟨a,_,rfl,.inr (.inr ⟨o,its,n,h1,h2.1,h3,h4,h5⟩),?_⟩
   rw [List.length_map]
   exact p.at S (.int _)
  ·split at q
   ·rename_i hz
    cases q; cases hv
    exact call_len pins s σ H _ us Q I r ⟨_,_,rfl,⟨Nat.le_trans hz Yk,rfl⟩,p.at S (.int _)⟩
   ·cases q
  ·cases q
 ·cases e
theorem UW:CallR X (.type "tuple") (rC X.K (on1 X4)):=by
 intro pins s σ H xs us Q I r h
 obtain ⟨ad,st,ds,d,st',S,hd,e,p⟩:=h
 obtain ⟨x,rfl,e1⟩:=Xd e
 have e:=e1
 obtain ⟨v,rfl,hv⟩:=JZ hd
 unfold X4 at e
 split at e
 ·cases e
  obtain ⟨a,ys,rfl,ha,rr⟩:=hv.ofTup
  exact call_tuple_of pins s σ H _ us Q I r ⟨a,ys,rfl,.inr ⟨(ha).sq,p.at S hv⟩⟩
 ·split at e
  ·rename_i q0
   cases e
   obtain ⟨a,rfl,ha⟩:=hv.ofLst
   obtain ⟨ys,rr,sq⟩:=S.list ha q0
   exact call_tuple_of pins s σ H _ us Q I r ⟨a,ys,rfl,.inl ⟨sq,fun l hl=>p _ ad _ (Ext.laid hl) (S.laid hl) (.tup (.inl upd_same) (rr.mono (Ext.laid hl)))⟩⟩
  ·cases e
 ·cases e
theorem Jb:CallR X (.type "list") (rC X.K (on1 VP)):=by
 intro pins s σ H xs us Q I r h
 obtain ⟨ad,st,ds,d,st',S,hd,e,p⟩:=h
 obtain ⟨x,rfl,e1⟩:=Xd e
 have e:=e1
 obtain ⟨v,rfl,hv⟩:=JZ hd
 unfold VP at e
 split at e
 ·cases e
  obtain ⟨a,ys,rfl,ha,rr⟩:=hv.ofTup
  refine call_list_of pins s σ H _ us Q I r ⟨a,ys,rfl,.inr ((ha).sq),fun l hl=>p _ (ad++[l]) _ (Ext.push hl) (S.push hl rr) (.newL ?_)⟩
  rw [←S.len]
  exact ZL
 ·split at e
  ·rename_i q0
   cases e
   obtain ⟨a,rfl,ha⟩:=hv.ofLst
   obtain ⟨ys,rr,sq⟩:=S.list ha q0
   refine call_list_of pins s σ H _ us Q I r ⟨a,ys,rfl,.inl sq,fun l hl=>p _ (ad++[l]) _ (Ext.push hl) (S.push hl rr) (.newL ?_)⟩
   rw [←S.len]
   exact ZL
  ·cases e
 ·cases e
theorem ZaQ (hc:X.calm=true):CallR X (.builtin "min") (rC X.K (on2 ZeC)):=by
 intro pins s σ H xs us Q I r h
 obtain ⟨ad,st,ds,d,st',S,hd,e,p⟩:=h
 obtain ⟨x,y,rfl,e1⟩:=VR e
 have e:=e1
 obtain ⟨v,w,rfl,hv,hw⟩:=ZfB hd
 unfold ZeC at e
 split at e
 ·cases e; cases hv; cases hw
  exact call_min2 hc pins s σ H _ us Q I r ⟨_,_,rfl,p.at S (.int _)⟩
 ·cases e
theorem ZaP (hc:X.calm=true):CallR X (.builtin "max") (rC X.K (on2 ZeA)):=by
 intro pins s σ H xs us Q I r h
 obtain ⟨ad,st,ds,d,st',S,hd,e,p⟩:=h
 obtain ⟨x,y,rfl,e1⟩:=VR e
 have e:=e1
 obtain ⟨v,w,rfl,hv,hw⟩:=ZfB hd
 unfold ZeA at e
 split at e
 ·cases e; cases hv; cases hw
  exact call_max2 hc pins s σ H _ us Q I r ⟨_,_,rfl,p.at S (.int _)⟩
 ·cases e
noncomputable def tyN:Ty→String
 | .int => "int"
 | .bool => "bool"
 | .str => "str"
 | .tuple => "tuple"
noncomputable def Zcx:D→String
 | .int _ => "int"
 | .bl _ => "bool"
 | .str _ => "str"
 | .tup _ => "tuple"
 | .non => "NoneType"
 | _ => "list"
theorem Zcy (K:PySem.W.Frag) {T:Ty}{d:D}{k:Bool} (h:Zer T d=some k):PySem.W.kitOne K (.type (Zcx d)) (.type (tyN T))=some k:=by
 cases d<;>first | (cases h; done) | (cases T<;>(cases h; rfl))
theorem Zif {K:PySem.W.Frag}{ad:List Addr}{H:Hp}{v:V}{d:D}{T:Ty}{k:Bool} (h:Zer T d=some k) (hv:Den K ad H v d):TyOf K H v (.type (Zcx d))∨∃ a xs,v=.ref a∧SqT K H a xs∧Zcx d = "tuple":=by
 cases hv with
 | non=>exact .inl .non
 | bl b=>exact .inl (.bl b)
 | int i=>exact .inl (.int i)
 | str x=>exact .inl (.str x)
 | tup e r=>exact .inr ⟨_,_,rfl,e.sq,rfl⟩
 | lst e=>cases h
 | dic _ _=>cases h
 | dct _ _ _ _ _=>cases h
 | obj _ _=>cases h
 | kt _ _ _ _ _ _=>cases h
theorem ZbP {T:Ty}:CallR X (.builtin "isinstance") (fun vs H Q=>∃ v,vs=[v,.ty (tyN T)]∧rC X.K (on1 (Jk T)) [v] H Q):=by
 intro pins s σ H xs us Q I r h
 obtain ⟨v,rfl,ad,st,ds,d,st',S,hd,e,p⟩:=h
 obtain ⟨x,rfl,e1⟩:=Xd e
 have e:=e1
 obtain ⟨w,hw,hv⟩:=JZ hd
 cases hw
 unfold Jk at e
 split at e
 ·rename_i k q
  cases e
  cases r with
  | cons r1 r2=>
   cases r2 with
   | cons r3 r4=>
    cases r4
    cases r3
    rcases Zif q hv with ty | ⟨a,zs,rfl,sq,kd⟩
    ·exact isinst_ok I r1 ty (Zcy X.K q) fun tk=>⟨.bl k,H,I.tok _,rfl,p.at S (.bl k)⟩
    ·have kt:=Zcy X.K q
     rw [kd] at kt
     cases r1
     obtain ⟨its,_,pp,_⟩:=I.tuple sq
     obtain ⟨o,h1,h2,_⟩:=pp
     exact PySem.W.kia_one PySem.W.kitx_tuple I.kIn ⟨o,h1,h2⟩ kt (fun z=>nomatch z) fun tk=>⟨.bl k,H,I.tok _,rfl,p.at S (.bl k)⟩
 ·cases e
end
section
variable {X:Cx}
end
end Dp



namespace Dp
open PySem PySem.Spec PyProof.Rows L2
variable [ClsTab]
section
open PySem.SeqAt PySem.MeetsSeq PySem.MeetsSeq2 PySem.MeetsSeq3 PySem.SeqRoads2
open AutoSeq1 (wpAny_loadPart')
def LtAt (A:Around) (s:Shared) (y x:Value) (b:Bool):Prop:=
 ∀ (prog:Program) (w:World) (E:Value→Shared→Prop) (Q:Value→Shared→Prop),Q (.bool b) s→wpAny (model prog w) A (richCompare .Lt y x) Q E s
noncomputable def ltR (e lt:Nat→Bool) (f:Bool):List Nat→Bool
 | []=>f
 | j :: r=>if e j=true then ltR e lt f r else lt j
theorem JL (l b:Addr) (items items2:Array Value) (n n2:Nat) (dd dd2:Option Addr) (sl sl2:Array (Option Value)) (e lt:Nat→Bool) :
  Meets (Builtin.«tuple.__lt__» ⟨[.ref l,.ref b],[]⟩)
   (fun A R s=>s.heap.get? l=some { cls:=.type "tuple",dict:=dd,data:=.seq items n,slots:=sl }∧s.heap.get? b=some { cls:=.type "tuple",dict:=dd2,data:=.seq items2 n2,slots:=sl2 } ∧
    (∀ j (h1:j < items.size) (h2:j < items2.size),EqAt A.in1 s items[j] items2[j] (e j))∧(∀ j (h1:j < items.size) (h2:j < items2.size),(∀ i,i < j→e i=true)→e j=false→LtAt A.in1 s items[j] items2[j] (lt j)) ∧
    R (.ok (.ret (.bool (ltR e lt (decide (items.size < items2.size)) (List.range (min items.size items2.size)))))) s):=
 .of_wp fun prog w A R s h=>by
  obtain ⟨hp,g,d,tk,os⟩:=s; obtain ⟨hl,hb,he,hq,h⟩:=h
  have f2:=AutoSeq1.sub_tuple_tuple
  have hZ:(items.toList.zip items2.toList).length=min items.size items2.size:=by simp
  wp_walk using wpAny_loadPart' hl,wpAny_loadPart' hb,wpAny_forIn_list _ (fun rest b s'=>b.1=none∧s'=⟨hp,g,d,tk,os⟩∧∃ i,rest=(items.toList.zip items2.toList).drop i∧(∀ k,k < i→e k=true) ∧
   R (.ok (.ret (.bool (ltR e lt (decide (items.size < items2.size)) ((List.range (min items.size items2.size)).drop i))))) ⟨hp,g,d,tk,os⟩) _
  case turn=>
   rintro ⟨y,x⟩ rest b s' ⟨hb',rfl,i,hz,hk,hR⟩
   have hlt:i < (items.toList.zip items2.toList).length:=by
    rcases Nat.lt_or_ge i (items.toList.zip items2.toList).length with h' | h'
    ·exact h'
    ·rw [List.drop_of_length_le h'] at hz; cases hz
   have hm:i < min items.size items2.size:=hZ ▸ hlt
   have h1:i < items.size:=Nat.lt_of_lt_of_le hm (Nat.min_le_left _ _)
   have h2:i < items2.size:=Nat.lt_of_lt_of_le hm (Nat.min_le_right _ _)
   rw [List.drop_eq_getElem_cons hlt] at hz
   injection hz with hyx hrest
   have hy:y=items[i]:=by have:=congrArg Prod.fst hyx; simpa using this
   have hx:x=items2[i]:=by have:=congrArg Prod.snd hyx; simpa using this
   subst hy hx
   have hd:(List.range (min items.size items2.size)).drop i=i :: (List.range (min items.size items2.size)).drop (i+1):=by simp [List.drop_eq_getElem_cons,hm]
   rw [hd] at hR
   have hR:R (.ok (.ret (.bool (if e i=true then ltR e lt (decide (items.size < items2.size)) ((List.range (min items.size items2.size)).drop (i+1)) else lt i)))) ⟨hp,g,d,tk,os⟩:=hR
   refine wpAny_bind (he i h1 h2 prog w _ _ ?_)
   cases hy:e i with
   | true=>
    rw [hy] at hR
    wp_walk
    refine ⟨rfl,rfl,i+1,hrest,fun k hk'=>?_,by simpa using hR⟩
    rcases Nat.lt_or_ge k i with h | h
    ·exact hk k h
    ·rw [show k=i by omega]; exact hy
   | false=>
    rw [hy] at hR
    have hz:∀ (E:Value→Shared→Prop) (Q:Value→Shared→Prop),Q (.bool (lt i)) ⟨hp,g,d,tk,os⟩→wpAny (model prog w) A.in1 (richCompare .Lt items[i] items2[i]) Q E ⟨hp,g,d,tk,os⟩:=fun E Q=>hq i h1 h2 hk hy prog w E Q
    generalize richCompare .Lt items[i] items2[i]=rc at hz ⊢
    wp_walk using hz _ _
    exact ⟨_,rfl,by simpa using hR⟩
  case fin=>
   rintro ⟨b1,b2⟩ s' ⟨hb',rfl,i,hz,_,hR⟩
   simp only at hb'
   subst hb'
   have hge:min items.size items2.size≤i:=by
    rcases Nat.lt_or_ge i (items.toList.zip items2.toList).length with h' | h'
    ·rw [List.drop_eq_getElem_cons h'] at hz; cases hz
    ·exact hZ ▸ h'
   rw [List.drop_of_length_le (by simpa using hge)] at hR
   wp_walk
   exact ⟨_,rfl,by simpa [Builtin.Tuple.tupleCompareSizes,ltR] using hR⟩
  case h=>
   exact ⟨rfl,rfl,0,rfl,fun k hk=>absurd hk (by omega),by simpa using h⟩
theorem LtAt.tuples {A:Around}{s:Shared}{l b:Addr}{items items2:Array Value}{e lt:Nat→Bool} (hl:s.heap.IsTuple l items) (hb:s.heap.IsTuple b items2) (hu:A.units < cLine)
  (he:∀ j (h1:j < items.size) (h2:j < items2.size),EqAt A.in1 s items[j] items2[j] (e j)) (hq:∀ j (h1:j < items.size) (h2:j < items2.size),(∀ i,i < j→e i=true)→e j=false→LtAt A.in1 s items[j] items2[j] (lt j)):LtAt A s (.ref l) (.ref b) (ltR e lt (decide (items.size < items2.size)) (List.range (min items.size items2.size))):=fun prog w E Q h=>by
 obtain ⟨⟨cls,dd,data,sl⟩,ho,hc,n,hd⟩:=id hl
 obtain ⟨⟨cls2,dd2,data2,sl2⟩,ho2,hc2,n2,hd2⟩:=id hb
 simp only at hc hd hc2 hd2
 subst hc hd hc2 hd2
 exact richCompare_meets_room (op:=.Lt) ⟨_,ho,rfl⟩ ⟨_,ho2,rfl⟩ F.slot_tuple_lt F.entry_tuple_lt (F.args_tuple_lt_2 _ _) (JL l b items items2 n n2 dd dd2 sl sl2 e lt)
  ⟨ho,ho2,he,hq,show Value.bool (ltR e lt (decide (items.size < items2.size)) (List.range (min items.size items2.size)))≠Value.notImplemented∧Q (.bool (ltR e lt (decide (items.size < items2.size)) (List.range (min items.size items2.size)))) s from ⟨(fun x=>nomatch x),h⟩⟩ hu
theorem Zba (l b:Addr) (items items2:Array Value) (n n2:Nat) (dd dd2:Option Addr) (sl sl2:Array (Option Value)) (e lt:Nat→Bool) (k:Nat) :
  ∀ i:Nat,min items.size items2.size - i=k→Meets (Builtin.«list.__eq__.loop» ⟨[.ref l,.ref b,rawInt i,rawInt 0],[]⟩)
   (fun A R s=>s.heap.get? l=some { cls:=.type "list",dict:=dd,data:=.seq items n,slots:=sl }∧s.heap.get? b=some { cls:=.type "list",dict:=dd2,data:=.seq items2 n2,slots:=sl2 } ∧
    (∀ j (h1:j < items.size) (h2:j < items2.size),EqAt A.in1 s items[j] items2[j] (e j))∧(∀ j (h1:j < items.size) (h2:j < items2.size),(∀ i,i < j→e i=true)→e j=false→LtAt A.in1 s items[j] items2[j] (lt j))∧(∀ j,j < i→e j=true) ∧
    R (.ok (.ret (.bool (ltR e lt (decide (items.size < items2.size)) ((List.range (min items.size items2.size)).drop i))))) s):=by
 induction k with
 | zero=>
  intro i hk prog w A R s h
  obtain ⟨hp,g,d,tk,os⟩:=s; obtain ⟨hl,hb,he,hq,hi,h⟩:=h
  wp_walk using wpAny_loadPart' hl,wpAny_loadPart' hb
  have hd:(List.range (min items.size items2.size)).drop i=[]:=by simp; omega
  rw [hd] at h
  have hz:items[((i:Nat):Int).toNat]?=none∨items2[((i:Nat):Int).toNat]?=none:=by
   by_cases c:items.size≤i
   ·left; simp; omega
   ·right; simp; omega
  rcases hz with hz | hz
  ·rw [hz]
   wp_walk using wpAny_loadPart' hl,wpAny_loadPart' hb
   exact h
  ·rw [hz]
   cases items[((i:Nat):Int).toNat]? with
   | none=>
    wp_walk using wpAny_loadPart' hl,wpAny_loadPart' hb
    exact h
   | some x=>
    wp_walk using wpAny_loadPart' hl,wpAny_loadPart' hb
    exact h
 | succ k ih=>
  intro i hk prog w A R s h
  obtain ⟨hp,g,d,tk,os⟩:=s; obtain ⟨hl,hb,he,hq,hi,h⟩:=h
  wp_walk using wpAny_loadPart' hl,wpAny_loadPart' hb
  have hlt:i < items.size:=by omega
  have hlt2:i < items2.size:=by omega
  have hm:i < min items.size items2.size:=by omega
  have hi1:items[((i:Nat):Int).toNat]?=some items[i]:=by simp [hlt]
  have hi2:items2[((i:Nat):Int).toNat]?=some items2[i]:=by simp [hlt2]
  have hd:(List.range (min items.size items2.size)).drop i=i :: (List.range (min items.size items2.size)).drop (i+1):=by simp [List.drop_eq_getElem_cons,hm]
  have hc:((i:Int)+1)=((i+1:Nat):Int):=by push_cast; rfl
  rw [hd] at h
  have h:R (.ok (.ret (.bool (if e i=true then ltR e lt (decide (items.size < items2.size)) ((List.range (min items.size items2.size)).drop (i+1)) else lt i)))) ⟨hp,g,d,tk,os⟩:=h
  rw [hi1,hi2]
  refine wpAny_bind (he i hlt hlt2 prog w _ _ ?_)
  cases hb':e i with
  | true=>
   rw [hb'] at h
   wp_walk
   rw [hc]
   exact ⟨plainId_quiet plain_eq_loop _,codeAny_builtin entry_eq_loop (by
    rw [Around.under_plainId plain_eq_loop _]
    refine ih (i+1) (by omega) prog w A R _ ⟨hl,hb,he,hq,fun j hj=>?_,by simpa using h⟩
    rcases Nat.lt_or_ge j i with z | z
    ·exact hi j z
    ·rw [show j=i by omega]; exact hb')⟩
  | false=>
   rw [hb'] at h
   have hz:∀ (E:Value→Shared→Prop) (Q:Value→Shared→Prop),Q (.bool (lt i)) ⟨hp,g,d,tk,os⟩→wpAny (model prog w) A.in1 (richCompare .Lt items[i] items2[i]) Q E ⟨hp,g,d,tk,os⟩:=fun E Q=>hq i hlt hlt2 hi hb' prog w E Q
   wp_walk using wpAny_loadPart' hl,wpAny_loadPart' hb
   rw [hi1,hi2]
   refine wpAny_bind (hz _ _ ?_)
   wp_walk
   simpa using h
theorem Za9 (l b:Addr) (items items2:Array Value) (n n2:Nat) (dd dd2:Option Addr) (sl sl2:Array (Option Value)) (e lt:Nat→Bool) :
  Meets (Builtin.«list.__lt__» ⟨[.ref l,.ref b],[]⟩)
   (fun A R s=>s.heap.get? l=some { cls:=.type "list",dict:=dd,data:=.seq items n,slots:=sl }∧s.heap.get? b=some { cls:=.type "list",dict:=dd2,data:=.seq items2 n2,slots:=sl2 } ∧
    (∀ j (h1:j < items.size) (h2:j < items2.size),EqAt A.in1 s items[j] items2[j] (e j))∧(∀ j (h1:j < items.size) (h2:j < items2.size),(∀ i,i < j→e i=true)→e j=false→LtAt A.in1 s items[j] items2[j] (lt j)) ∧
    R (.ok (.ret (.bool (ltR e lt (decide (items.size < items2.size)) (List.range (min items.size items2.size)))))) s):=by
 intro prog w A R s h
 obtain ⟨hp,g,d,tk,os⟩:=s; obtain ⟨hl,hb,he,hq,h⟩:=h
 have f3:=AutoSeq1.sub_list_list
 wp_walk using wpAny_loadPart' hl,wpAny_loadPart' hb
 exact ⟨plainId_quiet plain_eq_loop _,codeAny_builtin entry_eq_loop (by
  rw [Around.under_plainId plain_eq_loop _]
  exact Zba l b items items2 n n2 dd dd2 sl sl2 e lt _ 0 rfl prog w A R _ ⟨hl,hb,he,hq,fun j hj=>absurd hj (by omega),by simpa using h⟩)⟩
theorem LtAt.lists {A:Around}{s:Shared}{l b:Addr}{items items2:Array Value}{e lt:Nat→Bool} (hl:s.heap.IsList l items) (hb:s.heap.IsList b items2) (hu:A.units < cLine)
  (he:∀ j (h1:j < items.size) (h2:j < items2.size),EqAt A.in1 s items[j] items2[j] (e j)) (hq:∀ j (h1:j < items.size) (h2:j < items2.size),(∀ i,i < j→e i=true)→e j=false→LtAt A.in1 s items[j] items2[j] (lt j)):LtAt A s (.ref l) (.ref b) (ltR e lt (decide (items.size < items2.size)) (List.range (min items.size items2.size))):=fun prog w E Q h=>by
 obtain ⟨⟨cls,dd,data,sl⟩,ho,hc,n,hd⟩:=id hl
 obtain ⟨⟨cls2,dd2,data2,sl2⟩,ho2,hc2,n2,hd2⟩:=id hb
 simp only at hc hd hc2 hd2
 subst hc hd hc2 hd2
 exact richCompare_meets_room (op:=.Lt) ⟨_,ho,rfl⟩ ⟨_,ho2,rfl⟩ F.slot_list_lt F.entry_list_lt (F.args_list_lt_2 _ _) (Za9 l b items items2 n n2 dd dd2 sl sl2 e lt)
  ⟨ho,ho2,he,hq,show Value.bool (ltR e lt (decide (items.size < items2.size)) (List.range (min items.size items2.size)))≠Value.notImplemented∧Q (.bool (ltR e lt (decide (items.size < items2.size)) (List.range (min items.size items2.size)))) s from ⟨(fun x=>nomatch x),h⟩⟩ hu
end
noncomputable def eF (ds es:List D) (i:Nat):Bool:=ZB ((ds[i]?).getD .non) ((es[i]?).getD .non)
noncomputable def lF (ds es:List D) (i:Nat):Bool:=match ds[i]?,es[i]? with
 | some (.int a),some (.int b)=>decide (a < b)
 | some (.str a),some (.str b)=>decide (a.cps.toList < b.cps.toList)
 | _,_=>false
theorem Zab {e lt:Nat→Bool}{f:Bool}:∀ {l:List Nat},ltR e lt f (l.map Nat.succ)=ltR (fun i=>e (i+1)) (fun i=>lt (i+1)) f l
 | []=>rfl
 | i :: l=>by
  show (if e (i+1)=true then ltR e lt f (l.map Nat.succ) else lt (i+1))=_
  rw [Zab]
  rfl
theorem ZcH:∀ {ds es:List D}{k:Bool},Wm ds es=some k→ltR (eF ds es) (lF ds es) (decide (ds.length < es.length)) (List.range (min ds.length es.length))=k
 | [],[],k,h=>by cases h; rfl
 | [],y :: ys,k,h=>by
  have h:some (decide (0 < ys.length+1))=some k:=h
  cases h
  simp [ltR]
 | x :: xs,[],k,h=>by cases h; simp [ltR]
 | x :: xs,y :: ys,k,h=>by
  have e:min (x :: xs).length (y :: ys).length=min xs.length ys.length+1:=by simp only [List.length_cons]; omega
  rw [e,List.range_succ_eq_map]
  show (if ZB x y=true then ltR (eF (x :: xs) (y :: ys)) (lF (x :: xs) (y :: ys)) _ ((List.range (min xs.length ys.length)).map Nat.succ) else lF (x :: xs) (y :: ys) 0)=k
  unfold Wm at h
  by_cases c:ZB x y=true
  ·rw [if_pos c] at h ⊢
   rw [Zab,show decide ((x :: xs).length < (y :: ys).length)=decide (xs.length < ys.length) by simp]
   exact ZcH h
  ·rw [if_neg c] at h ⊢
   split at h
   ·cases h; rfl
   ·cases h; rfl
   ·cases h
theorem Zac:∀ {ds es:List D}{k:Bool}{j:Nat},Wm ds es=some k→j < ds.length→j < es.length→(∀ i,i < j→eF ds es i=true)→eF ds es j=false→(∃ a b,ds[j]?=some (.int a)∧es[j]?=some (.int b))∨(∃ a b,ds[j]?=some (.str a)∧es[j]?=some (.str b))
 | [],_,_,_,_,h1,_,_,_=>absurd h1 (by simp)
 | _ :: _,[],_,_,_,_,h2,_,_=>absurd h2 (by simp)
 | x :: xs,y :: ys,k,0,h,_,_,_,e=>by
  have e:ZB x y=false:=e
  unfold Wm at h
  rw [if_neg (by rw [e]; simp)] at h
  split at h
  ·exact .inl ⟨_,_,rfl,rfl⟩
  ·exact .inr ⟨_,_,rfl,rfl⟩
  ·cases h
 | x :: xs,y :: ys,k,j+1,h,h1,h2,hk,e=>by
  have c:ZB x y=true:=hk 0 (by omega)
  unfold Wm at h
  rw [if_pos c] at h
  exact Zac (j:=j) h (by simpa using h1) (by simpa using h2) (fun i hi=>hk (i+1) (by omega)) e
open PySem.SeqAt in
theorem Zey {X:Cx}{H:Hp}{ad:List Addr}{s:Shared}{A:Around}{xs ys:List V}{ds es:List D}{its its':List Value}{k:Bool} (r:Dens X.K ad H xs ds) (r':Dens X.K ad H ys es) (rv:Vals xs its) (rv':Vals ys its') (h:Wm ds es=some k) :
  ∀ j (h1:j < its.toArray.size) (h2:j < its'.toArray.size),(∀ i,i < j→eF ds es i=true)→eF ds es j=false→LtAt A s its.toArray[j] its'.toArray[j] (lF ds es j):=fun j h1 h2 hk hj=>by
 have e1:its.toArray.size=ds.length:=by rw [List.size_toArray,←rv.length,r.length]
 have e2:its'.toArray.size=es.length:=by rw [List.size_toArray,←rv'.length,r'.length]
 have get:∀ {xs:List V}{ds:List D}{its:List Value}{d:D} (h1:j < its.toArray.size),Dens X.K ad H xs ds→Vals xs its→ds[j]?=some d→∃ v,Den X.K ad H v d∧RelV v its.toArray[j]:=fun {xs ds its d} h1 r rv g=>by
  obtain ⟨v,q1,d1⟩:=r.get g
  obtain ⟨u,w1,r1⟩:=rv.get q1
  have f1:its.toArray[j]=u:=by
   have:its[j]?=some (its[j]'(by simpa using h1)):=List.getElem?_eq_getElem _
   rw [w1] at this
   simpa using (Option.some.inj this).symm
  exact ⟨v,d1,by rw [f1]; exact r1⟩
 rcases Zac h (by omega) (by omega) hk hj with ⟨i,i',g1,g2⟩ | ⟨i,i',g1,g2⟩
 ·obtain ⟨v1,d1,r1⟩:=get h1 r rv g1
  obtain ⟨v2,d2,r2⟩:=get h2 r' rv' g2
  cases d1; cases d2
  obtain ⟨t1,z1⟩:=r1
  obtain ⟨t2,z2⟩:=r2
  rw [z1,z2]
  intro prog w E Q hq
  have hq:Q (.bool (lF ds es j)) s:=hq
  unfold lF at hq
  rw [g1,g2] at hq
  exact lt_int hq
 ·obtain ⟨v1,d1,r1⟩:=get h1 r rv g1
  obtain ⟨v2,d2,r2⟩:=get h2 r' rv' g2
  cases d1; cases d2
  obtain ⟨t1,z1⟩:=r1
  obtain ⟨t2,z2⟩:=r2
  rw [z1,z2]
  intro prog w E Q hq
  have hq:Q (.bool (lF ds es j)) s:=hq
  unfold lF at hq
  rw [g1,g2] at hq
  exact lt_str hq
open PySem.SeqAt in
theorem Zez {X:Cx}{H:Hp}{ad:List Addr}{pins:List (Addr×Obj)}{σ:L2.St}{s:Shared} (I:Inv X pins σ H s) {n:Nat}{A:Around}{a b:Addr}{xs ys:List V}{ds es:List D}{k:Bool} (hx:Yv n ds=true) (hy:Yv n es=true) (hu:A.units+n+1 < cLine)
  (e:TupAt X.K H a xs) (r:Dens X.K ad H xs ds) (e':TupAt X.K H b ys) (r':Dens X.K ad H ys es) (h:Wm ds es=some k):LtAt A s (.ref a) (.ref b) k:=by
 obtain ⟨its,rv,p,_⟩:=I.tuple (e.sq)
 obtain ⟨its',rv',p',_⟩:=I.tuple (e'.sq)
 have e1:its.toArray.size=ds.length:=by rw [List.size_toArray,←rv.length,r.length]
 have e2:its'.toArray.size=es.length:=by rw [List.size_toArray,←rv'.length,r'.length]
 have q:=LtAt.tuples (A:=A) (s:=s) (e:=eF ds es) (lt:=lF ds es) p p' (by omega) (fun j h1 h2=>Um (a:=a) (b:=b) I hx hy hu r r' rv rv' j h1 h2) (Zey r r' rv rv' h)
 rw [e1,e2,ZcH h] at q
 exact q
section
variable {X:Cx}
theorem Zcs {ad:List Addr}{H:Hp}{k:Int}:∀ {xs:List V}{ds:List D}{b:Bool},Dens X.K ad H xs ds→YR k ds=some b→xs.all flatV=true∧inV (.int k) xs=b
 | _,_,_,.nil,e=>by cases e; exact ⟨rfl,rfl⟩
 | _,_,b,.cons (d:=d) h r,e=>by
  cases d with
  | int i=>
   cases h
   unfold YR at e
   cases q:YR k _ with
   | none=>rw [q] at e; cases e
   | some b'=>
    rw [q] at e
    cases e
    obtain ⟨h1,h2⟩:=Zcs r q
    refine ⟨by rw [List.all_cons,h1]; rfl,?_⟩
    show ((i==k)||inV (.int k) _)=(decide (i=k)||b')
    rw [h2]
    rfl
  | _=>simp [YR] at e
theorem Jh {ad:List Addr}{H:Hp}{k:Str}:∀ {xs:List V}{ds:List D}{b:Bool},Dens X.K ad H xs ds→YS k ds=some b→xs.all flatV=true∧inV (.str k) xs=b
 | _,_,_,.nil,e=>by cases e; exact ⟨rfl,rfl⟩
 | _,_,b,.cons (d:=d) h r,e=>by
  cases d with
  | str i=>
   cases h
   unfold YS at e
   cases q:YS k _ with
   | none=>rw [q] at e; cases e
   | some b'=>
    rw [q] at e
    cases e
    obtain ⟨h1,h2⟩:=Jh r q
    refine ⟨by rw [List.all_cons,h1]; rfl,?_⟩
    show ((i==k)||inV (.str k) _)=(decide (i=k)||b')
    rw [h2]
    congr 1
  | _=>simp [YS] at e
def CW (X:Cx) (pins:List (Addr×Obj)) (σ:L2.St) (Q:VK) (s:Shared) (op:CmpOp) (v u:Value):Prop:=wpAny (model X.prog X.w) X.A (compareOp op v u) (EP X pins σ Q) X.xe s
def CW2 (X:Cx) (pins:List (Addr×Obj)) (σ:L2.St) (Q:VK) (s:Shared) (H:Hp) (op op':CmpOp) (v u:Value) (k:Bool):Prop:=(Q (.bl k) H→CW X pins σ Q s op v u)∧(Q (.bl (!k)) H→CW X pins σ Q s op' v u)
noncomputable def vSc:Sc→V
 | .non=>.non
 | .bl b=>.bl b
 | .int i=>.int i
 | .str x=>.str x
theorem Den.vSc {K:PySem.W.Frag}{ad:List Addr}{H:Hp}{x:V}{d:D}{a:Sc} (h:Den K ad H x d) (e:scD d=some a):x=vSc a:=by
 cases h<;>cases e<;>rfl
theorem Zd3 {a b:Sc}{k:Bool} (h:Zb2 a b=some k):scal (vSc a) (vSc b)=true∧decide (vSc a=vSc b)=k:=by
 cases a<;>cases b<;>first
  | (cases h; done)
  | (cases h; exact ⟨rfl,rfl⟩)
  | (cases h; exact ⟨rfl,dec_bl⟩)
  | (cases h; exact ⟨rfl,by simp [vSc]⟩)
inductive EqD (x y:V):D→D→Bool→Prop
 | sc {dx dy:D}{k:Bool} (h3:scal x y=true) (h4:decide (x=y)=k):EqD x y dx dy k
 | tup {xs ys:List D} (h:(okD 8 (.tup xs)&&okD 8 (.tup ys))=true):EqD x y (.tup xs) (.tup ys) (ZY xs ys)
theorem Zd1 {K:PySem.W.Frag}{ad:List Addr}{H:Hp}{x y:V}{dx dy:D}{k:Bool} (hx:Den K ad H x dx) (hy:Den K ad H y dy) (e:eqD dx dy=some k):EqD x y dx dy k:=by
 unfold eqD at e
 split at e
 ·unfold eqT at e
  split at e
  ·split at e
   ·rename_i hok
    cases e
    exact .tup hok
   ·cases e
  ·cases e
 ·refine j_e e fun e=>Yf (P:=fun o=>o=some k→EqD x y dx dy k) e (fun a b h1 h2 h=>?_) rfl
  obtain ⟨h3,h4⟩:=Zd3 h
  rw [←hx.vSc h1,←hy.vSc h2] at h3 h4
  exact .sc h3 h4
theorem ZhI (hu:X.A.units+64 < cLine) {pins:List (Addr×Obj)}{s:Shared}{σ:L2.St}{H:Hp}{x y:V}{v u:Value}{Q:VK}{ad:List Addr}{st:Za}{dx dy:D}{k:Bool} (I:Inv X pins σ H s) (rx:RelV x v) (ry:RelV y u) (S:StOk X.K ad H st) (hx:Den X.K ad H x dx) (hy:Den X.K ad H y dy)
  (e:eqD dx dy=some k):CW2 X pins σ Q s H .Eq .NotEq v u k:=by
 cases Zd1 hx hy e with
 | sc h3 h4=>
  subst h4
  exact ⟨fun q=>op_eq pins s σ H x y v u Q I rx ry ⟨h3,q⟩,fun q=>op_ne pins s σ H x y v u Q I rx ry ⟨h3,q⟩⟩
 | tup hok=>
  rw [Bool.and_eq_true] at hok
  obtain ⟨a,xs,rfl,ha,r1⟩:=hx.ofTup
  obtain ⟨b,ys,rfl,hb,r2⟩:=hy.ofTup
  cases rx; cases ry
  obtain ⟨g1,g2⟩:=ZeU (ad:=ad) (A:=X.A) I (n:=7) hok.1 hok.2 (by omega) ha r1 hb r2
  exact ⟨fun q=>g1 X.prog X.w X.xe _ ⟨.bl _,H,I,rfl,q⟩,fun q=>g2 X.prog X.w X.xe _ ⟨.bl _,H,I,rfl,q⟩⟩
open PySem.SeqAt in
theorem ZeT {X:Cx}{H:Hp}{ad:List Addr}{pins:List (Addr×Obj)}{σ:L2.St}{s:Shared} (I:Inv X pins σ H s) {n:Nat}{A:Around}{a b:Addr}{xs ys:List V}{ds es:List D}{its its':List Value} (hx:Yv n ds=true) (hy:Yv n es=true) (hu:A.units+n+1 < cLine)
  (r:Dens X.K ad H xs ds) (r':Dens X.K ad H ys es) (rv:Vals xs its) (rv':Vals ys its') (p:s.heap.IsList a its.toArray) (p':s.heap.IsList b its'.toArray):RcAt A s (.ref a) (.ref b) (ZY ds es)∧RcNeAt A s (.ref a) (.ref b) (!ZY ds es):=by
 have e1:its.toArray.size=ds.length:=by rw [List.size_toArray,←rv.length,r.length]
 have e2:its'.toArray.size=es.length:=by rw [List.size_toArray,←rv'.length,r'.length]
 by_cases hl:ds.length=es.length
 ·have it:=fun j h1 h2=>Um (a:=a) (b:=b) I hx hy hu r r' rv rv' j h1 h2
  have q:=RcAt.lists (A:=A) (s:=s) (e:=fun i=>ZB ((ds[i]?).getD .non) ((es[i]?).getD .non)) p p' (by omega) (by omega) it
  have q':=RcNeAt.lists (A:=A) (s:=s) (e:=fun i=>ZB ((ds[i]?).getD .non) ((es[i]?).getD .non)) p p' (by omega) (by omega) it
  rw [e1] at q q'
  rw [YG,show min ds.length es.length=ds.length by omega,show (ds.length==es.length)=true by simpa using hl,Bool.and_true]
  exact ⟨q,q'⟩
 ·have q:=RcAt.lists_lengths (A:=A) (s:=s) p p' (by rw [e1,e2]; simpa using hl) (by omega)
  have q':=RcNeAt.lists_lengths (A:=A) (s:=s) p p' (by rw [e1,e2]; simpa using hl) (by omega)
  rw [YG,show (ds.length==es.length)=false by simpa using hl,Bool.and_false]
  exact ⟨q,q'⟩
open PySem.SeqAt in
theorem ZiG (hu:X.A.units+64 < cLine) {pins:List (Addr×Obj)}{s:Shared}{σ:L2.St}{H:Hp}{x y:V}{v u:Value}{Q:VK}{ad:List Addr}{st:Za}{ds es:List D}{k:Bool} (I:Inv X pins σ H s) (rx:RelV x v) (ry:RelV y u) (S:StOk X.K ad H st) (hx:Den X.K ad H x (.tup ds)) (hy:Den X.K ad H y (.tup es))
  (e:Zal st ds es=some k):CW2 X pins σ Q s H .Eq .NotEq v u k:=by cases e
theorem ZhJ (hu:X.A.units+64 < cLine) {pins:List (Addr×Obj)}{s:Shared}{σ:L2.St}{H:Hp}{x y:V}{v u:Value}{Q:VK}{ad:List Addr}{st:Za}{dx dy:D}{k:Bool} (I:Inv X pins σ H s) (rx:RelV x v) (ry:RelV y u) (S:StOk X.K ad H st) (hx:Den X.K ad H x dx) (hy:Den X.K ad H y dy)
  (e:eqS st dx dy=some k):CW2 X pins σ Q s H .Eq .NotEq v u k:=by
 have sc:scal x y=true→(decide (x=y))=k→CW2 X pins σ Q s H .Eq .NotEq v u k:=fun h1 h2=>by
  subst h2
  exact ⟨fun q=>op_eq pins s σ H x y v u Q I rx ry ⟨h1,q⟩,fun q=>op_ne pins s σ H x y v u Q I rx ry ⟨h1,q⟩⟩
 unfold eqS at e
 split at e
 ·unfold ZhG at e
  split at e
  case h_2=>cases e
  obtain ⟨a,rfl,ha⟩:=hx.ofLst
  obtain ⟨b,rfl,hb⟩:=hy.ofLst
  cases rx; cases ry
  have two:∀ {ba bb:Bool}{xs ys:List D},st[_]?=some (ba,xs)→st[_]?=some (bb,ys)→(xs=[]∨ys=[])→(xs.isEmpty&&ys.isEmpty)=k→CW2 X pins σ Q s H .Eq .NotEq (.ref a) (.ref b) k:=fun {ba bb xs ys} q1 q2 hz hk=>by
   obtain ⟨vs,r1,s1⟩:=S.list ha q1
   obtain ⟨ws,r2,s2⟩:=S.list hb q2
   obtain ⟨its,rv,p1,_⟩:=I.list s1
   obtain ⟨its',rv',p2,_⟩:=I.list s2
   have l1:its.toArray.size=xs.length:=by rw [List.size_toArray,←rv.length,r1.length]
   have l2:its'.toArray.size=ys.length:=by rw [List.size_toArray,←rv'.length,r2.length]
   by_cases hl:xs.length=ys.length
   ·have z1:xs=[]:=by
     rcases hz with z | z
     ·exact z
     ·rw [z] at hl; exact List.length_eq_zero_iff.mp hl
    have z2:ys=[]:=by rw [z1] at hl; exact List.length_eq_zero_iff.mp hl.symm
    subst z1 z2
    cases hk
    have f:its=[]:=List.length_eq_zero_iff.mp (by simpa using l1)
    have f':its'=[]:=List.length_eq_zero_iff.mp (by simpa using l2)
    subst f f'
    refine ⟨fun q=>SeqAt.RcAt.lists (e:=fun _=>true) p1.isList p2.isList rfl (by omega) (fun j h1 _=>absurd h1 (by simp)) X.prog X.w X.xe _ ⟨.bl true,H,I,rfl,q⟩,fun q=>SeqAt.RcNeAt.lists (e:=fun _=>true) p1.isList p2.isList rfl (by omega) (fun j h1 _=>absurd h1 (by simp)) X.prog X.w X.xe _ ⟨.bl false,H,I,rfl,q⟩⟩
   ·have hk':k=false:=by
     rw [←hk]
     rcases hz with z | z
     ·subst z
      cases ys with
      | nil=>exact absurd rfl hl
      | cons _ _=>rfl
     ·subst z
      cases xs with
      | nil=>exact absurd rfl hl
      | cons _ _=>rfl
    subst hk'
    have hne:(its.toArray.size != its'.toArray.size)=true:=by rw [l1,l2]; simpa using hl
    exact ⟨fun q=>SeqAt.RcAt.lists_lengths p1.isList p2.isList hne (by omega) X.prog X.w X.xe _ ⟨.bl false,H,I,rfl,q⟩,fun q=>SeqAt.RcNeAt.lists_lengths p1.isList p2.isList hne (by omega) X.prog X.w X.xe _ ⟨.bl true,H,I,rfl,q⟩⟩
  refine j_e e fun e=>Yf (P:=fun o=>o=some k→CW2 X pins σ Q s H .Eq .NotEq (.ref a) (.ref b) k) e (fun c d q1 q2 e=>?_) rfl
  obtain ⟨c1,c2⟩:=c
  obtain ⟨d1,d2⟩:=d
  unfold ZaY at e
  split at e
  ·rename_i hz
   cases e
   rw [Bool.or_eq_true] at hz
   exact two q1 q2 (hz.imp List.isEmpty_iff.mp List.isEmpty_iff.mp) rfl
  ·split at e
   ·rename_i hok
    cases e
    rw [Bool.and_eq_true] at hok
    obtain ⟨vs,r1,s1⟩:=S.list ha q1
    obtain ⟨ws,r2,s2⟩:=S.list hb q2
    obtain ⟨its,rv,p1,_⟩:=I.list s1
    obtain ⟨its',rv',p2,_⟩:=I.list s2
    obtain ⟨g1,g2⟩:=ZeT (ad:=ad) (A:=X.A) I hok.1 hok.2 (by omega) r1 r2 rv rv' p1.isList p2.isList
    exact ⟨fun q=>g1 X.prog X.w X.xe _ ⟨.bl _,H,I,rfl,q⟩,fun q=>g2 X.prog X.w X.xe _ ⟨.bl _,H,I,rfl,q⟩⟩
   ·cases e
 ·unfold ZhH at e
  split at e
  ·split at e
   ·rename_i k' q
    cases e
    exact ZhI hu I rx ry S hx hy (show eqD (.tup _) (.tup _)=some _ from q)
   ·exact ZiG hu I rx ry S hx hy e
  ·cases e
 ·exact ZhI hu I rx ry S hx hy e
open Classical in
noncomputable def Zjs (K:PySem.W.Frag) (ad:List Addr) (H:Hp) (d:D) (u:Value):Bool:=decide (∃ y e,RelV y u∧Den K ad H y e∧okD 8 e=true∧ZB e d=true)
section
variable {pins:List (Addr×Obj)}{s:Shared}{σ:L2.St}{H:Hp}{x y:V}{v u:Value}{Q:VK}{ad:List Addr}{st:Za}{dx dy:D}{k:Bool}
theorem Ul {a:Addr}{xs:List V} (I:Inv X pins σ H s) (rx:RelV x v) (ry:RelV y u) (ey:y=.ref a) (sq:SqL X.K H a xs∨SqT X.K H a xs) (fx:flatV x=true) (h:xs.all flatV=true∧inV x xs=k):CW2 X pins σ Q s H .In .NotIn v u k:=by
 obtain ⟨h1,h2⟩:=h
 subst h2
 exact ⟨fun pk=>op_in_seq pins s σ H _ _ v u Q I rx ry ⟨a,xs,ey,sq,fx,h1,pk⟩,fun pk=>op_notIn_seq pins s σ H _ _ v u Q I rx ry ⟨a,xs,ey,sq,fx,h1,pk⟩⟩
def InW (X:Cx) (pins:List (Addr×Obj)) (σ:L2.St) (Q:VK) (s:Shared) (H:Hp) (v u:Value) (dy:D) (k:Bool):Prop:=(Q (.bl k) H→CW X pins σ Q s .In v u)∧((∀ ks vs,dy≠.dct ks vs)→Q (.bl (!k)) H→CW X pins σ Q s .NotIn v u)
theorem CW2.inW (h:CW2 X pins σ Q s H .In .NotIn v u k):InW X pins σ Q s H v u dy k:=⟨h.1,fun _=>h.2⟩
theorem ZhO (hu:X.A.units+64 < cLine) (I:Inv X pins σ H s) (rx:RelV x v) (ry:RelV y u) (S:StOk X.K ad H st) (hx:Den X.K ad H x dx) (hy:Den X.K ad H y dy) (q:inS st dx dy=some k):InW X pins σ Q s H v u dy k:=by
 unfold inS at q
 split at q
 ·split at q
  ·rename_i q0
   obtain ⟨a,e,ha⟩:=hy.ofLst
   obtain ⟨xs,r,sq⟩:=S.list ha q0
   cases hx
   exact (Ul I rx ry e (.inl sq) rfl (Zcs r q)).inW
  ·cases q
 ·split at q
  ·rename_i q0
   obtain ⟨a,e,ha⟩:=hy.ofLst
   obtain ⟨xs,r,sq⟩:=S.list ha q0
   cases hx
   exact (Ul I rx ry e (.inl sq) rfl (Jh r q)).inW
  ·cases q
 ·obtain ⟨a,xs,e,ha,r⟩:=hy.ofTup
  cases hx
  exact (Ul I rx ry e (.inr ha.sq) rfl (Zcs r q)).inW
 ·obtain ⟨a,xs,e,ha,r⟩:=hy.ofTup
  cases hx
  exact (Ul I rx ry e (.inr ha.sq) rfl (Jh r q)).inW
 ·obtain ⟨a,vs,rfl,ha,hl,r⟩:=hy.ofDct
  cases hx
  cases q
  refine ⟨fun pk=>op_in_dct pins s σ H _ _ v u Q I rx ry ⟨a,_,Sum.inr _,rfl,rfl,ha,?_⟩,fun z=>absurd rfl (z _ _)⟩
  rcases W5 r hl with ⟨w,d0,e1,e2,e3⟩ | ⟨e1,e2⟩
  ·rw [e1]; rw [e2] at pk; exact pk
  ·rw [e1]; rw [e2] at pk; exact pk
 ·cases hx; cases hy; cases q
  exact ⟨fun pk=>op_in_str pins s σ H _ _ v u Q I rx ry ⟨_,_,rfl,rfl,pk⟩,fun _ pk=>op_notIn_str pins s σ H _ _ v u Q I rx ry ⟨_,_,rfl,rfl,pk⟩⟩
 ·cases q
theorem Zep (hx:Den X.K ad H x dx) (q:isN dx=some k):decide (x=V.non)=k:=by
 cases hx<;>cases q<;>rfl
theorem ZhR (I:Inv X pins σ H s) (rx:RelV x v) (ry:RelV y u) (hx:Den X.K ad H x dx) (hy:Den X.K ad H y dy) (q:isD dx dy=some k):CW2 X pins σ Q s H .Is .IsNot v u k:=by
 unfold isD at q
 split at q
 ·cases hy
  have z:=Zep hx q
  subst z
  exact ⟨fun pk=>op_isN pins s σ H _ _ v u Q I rx ry ⟨rfl,pk⟩,fun pk=>op_notN pins s σ H _ _ v u Q I rx ry ⟨rfl,pk⟩⟩
 ·unfold isB at q
  split at q
  ·cases q
   cases hx; cases hy
   cases rx; cases ry
   have e:∀ a b:Bool,(Value.bool a==Value.bool b)=(a==b):=fun a b=>by cases a<;>cases b<;>rfl
   exact ⟨fun pk=>wpAny_is_plain rfl (by rw [e]; exact ⟨.bl _,H,I,rfl,pk⟩),fun pk=>wpAny_isNot_plain rfl (by rw [e]; exact ⟨.bl _,H,I,rfl,pk⟩)⟩
  ·cases q
 ·cases q
theorem Wu {f:Int→Int→Bool} (hx:Den X.K ad H x dx) (hy:Den X.K ad H y dy) (q:Jv f dx dy=some k):∃ i j,x=.int i∧y=.int j∧f i j=k:=by
 unfold Jv at q
 split at q
 ·cases q; cases hx; cases hy; exact ⟨_,_,rfl,rfl,rfl⟩
 ·cases q
theorem Zi1 (hu:X.A.units+64 < cLine) (I:Inv X pins σ H s) (rx:RelV x v) (ry:RelV y u) (S:StOk X.K ad H st) (hx:Den X.K ad H x dx) (hy:Den X.K ad H y dy) (q:ltS st dx dy=some k) (pk:Q (.bl k) H):CW X pins σ Q s .Lt v u:=by
   have q:ltD dx dy=some k:=q
   unfold ltD at q
   split at q
   ·split at q
    ·rename_i ds es hok
     rw [Bool.and_eq_true] at hok
     obtain ⟨a,xs,rfl,ha,r1⟩:=hx.ofTup
     obtain ⟨b,ys,rfl,hb,r2⟩:=hy.ofTup
     cases rx; cases ry
     exact Zez (ad:=ad) (A:=X.A) I (n:=7) hok.1 hok.2 (by omega) ha r1 hb r2 q X.prog X.w X.xe _ ⟨.bl _,H,I,rfl,pk⟩
    ·cases q
   obtain ⟨i,j,rfl,rfl,z⟩:=Wu hx hy q
   exact op_lt pins s σ H _ _ v u Q I rx ry ⟨_,_,rfl,rfl,by cases z; exact pk⟩
theorem Uu {o:Option Bool} (q:o.map not=some k):o=some (!k):=by
 cases o with
 | none=>cases q
 | some k'=>cases q; rw [Bool.not_not]
theorem ZcL {op op':CmpOp} (h:CW2 X pins σ Q s H op op' v u (!k)) (pk:Q (.bl k) H):CW X pins σ Q s op' v u:=h.2 (by rw [Bool.not_not]; exact pk)
end
theorem Zak (hu:X.A.units+64 < cLine) {op:CmpOp}:OpR X (compareOp op) (rD X.K (WN op)):=by
 intro pins s σ H x y v u Q I rx ry h
 obtain ⟨ad,st,dx,dy,d,st',S,hx,hy,e,p⟩:=h
 change CW X pins σ Q s op v u
 unfold WN at e
 cases q:Zge op dx dy st with
 | none=>rw [q] at e; cases e
 | some k=>
  rw [q] at e
  cases e
  have pk:=p.at S (.bl k)
  clear p
  cases op with
  | Lt=>exact Zi1 hu I rx ry S hx hy q pk
  | LtE=>
   obtain ⟨i,j,rfl,rfl,z⟩:=Wu hx hy q
   exact op_le pins s σ H _ _ v u Q I rx ry ⟨_,_,rfl,rfl,by cases z; exact pk⟩
  | Gt=>
   obtain ⟨i,j,rfl,rfl,z⟩:=Wu hx hy q
   exact op_gt pins s σ H _ _ v u Q I rx ry ⟨_,_,rfl,rfl,by cases z; exact pk⟩
  | GtE=>
   obtain ⟨i,j,rfl,rfl,z⟩:=Wu hx hy q
   exact op_ge pins s σ H _ _ v u Q I rx ry ⟨_,_,rfl,rfl,by cases z; exact pk⟩
  | Eq=>exact (ZhJ hu I rx ry S hx hy q).1 pk
  | NotEq=>exact ZcL (ZhJ hu I rx ry S hx hy (Uu q)) pk
  | In=>exact (ZhO hu I rx ry S hx hy q).1 pk
  | NotIn=>
   have q:niS st dx dy=some k:=q
   unfold niS at q
   split at q
   ·cases q
   ·rename_i hn
    exact (ZhO hu I rx ry S hx hy (Uu q)).2 hn (by rw [Bool.not_not]; exact pk)
  | Is=>exact (ZhR I rx ry hx hy q).1 pk
  | IsNot=>exact ZcL (ZhR I rx ry hx hy (Uu q)) pk
end
end Dp



namespace Dp
open PySem PySem.Spec PyProof.Rows L2
variable [ClsTab]
noncomputable def Zi:Expr→Bool
 | .Starred ..=>false
 | .Set ..=>false
 | .Slice ..=>false
 | _=>true
theorem Zf {G:Gs}{n:Nat}{sc:Scope}{N:List Str}{e:Expr}{c:CE} (h:cE G n sc N e=some c):Zi e=true:=by
 cases n with
 | zero=>exact nomatch (show (none:Option CE)=some c from h)
 | succ n=>cases e<;>first | rfl | exact nomatch (show (none:Option CE)=some c from h)
theorem Zd {e:Expr}{es:List Expr}{env:PySem.Env} (h:Zi e=true):starEach (e :: es) env=(false,eval e env) :: starEach es env:=by
 cases e<;>first | rfl | cases h
theorem Wc {op:CmpOp}{b:Expr} (h:Zi b=true):behindInMarks op b=false:=by
 cases b<;>first | rfl | cases h
theorem Zcw {b:Expr} (h:Zi b=true):PlainIx b:=by
 cases b<;>first | (intro o i; rfl) | cases h
theorem XO {pos:Pos}{env:PySem.Env}:∀ {es:List Expr},es.all Zi=true→(backTo pos (starEach es env)).any (·.1)=false
 | [],_=>rfl
 | e :: es,h=>by
  rw [List.all_cons,Bool.and_eq_true] at h
  rw [Zd h.1]
  show (false||(backTo pos (starEach es env)).any (·.1))=false
  rw [XO h.2]
  rfl
inductive EsOk (Pm:Params) (K:PySem.W.Frag):List DictEntry→List Str→List D→Prop where
 | nil:EsOk Pm K [] [] []
 | cons {e:DictEntry}{es:List DictEntry}{k:Str}{ks:List Str}{d:D}{ds:List D}{v:V}{t:Tok} (h1:e.hash=PyData.keyHash Pm k) (h2:e.key=.str k t) (h3:RelV v e.val) (h4:∀ ad H,Den K ad H v d) (r:EsOk Pm K es ks ds):EsOk Pm K (e :: es) (k :: ks) (d :: ds)
def JO (Pm:Params) (K:PySem.W.Frag) (mg:Str→Option Value) (x:Str) (ks:List Str) (ds:List D):Prop:=
 ∃ A o es ep,mg x=some (.ref A)∧K.lookup A=some o∧o.ExactDict∧o.data=.dict es ep∧(A==sysModules)=false∧ks.Nodup∧EsOk Pm K es.toList ks ds
theorem EsOk.open {w:World}{P:Program}{K:PySem.W.Frag}:∀ {es:List DictEntry}{ks:List Str}{ds:List D},EsOk w.params K es ks ds→∃ kvs:List (Key×Value),Pairs (mixKind P w) es kvs∧kvs.map (·.1)=ks.map Sum.inr∧(∀ e∈es,∃ k,(mixKind P w).is k e.key=true∧e.hash=(mixKind P w).hash k) ∧
  ∀ k d,Z0 ks ds k=some d→∃ u v,valueAt kvs (Sum.inr k)=some u∧RelV v u∧∀ ad H,Den K ad H v d
 | _,_,_,.nil=>⟨[],.nil,rfl,(fun _ h=>nomatch h),fun k d h=>by simp [Z0] at h⟩
 | e :: es,k0 :: ks,d0 :: ds,.cons (v:=v) (t:=t) h1 h2 h3 h4 r=>by
  obtain ⟨kvs,a1,a2,a3,a4⟩:=EsOk.open (P:=P) r
  have hk:(mixKind P w).is (Sum.inr k0) e.key=true:=by rw [h2]; exact mixKind_str P w k0 t
  refine ⟨(Sum.inr k0,e.val) :: kvs,.cons hk rfl a1,by rw [List.map_cons,List.map_cons,a2],fun x hx=>?_,fun k d h=>?_⟩
  ·rcases List.mem_cons.mp hx with rfl | hx
   ·exact ⟨Sum.inr k0,hk,h1⟩
   ·exact a3 x hx
  ·unfold valueAt
   by_cases c:k0=k
   ·subst c
    have h:Z0 (k0 :: ks) (d0 :: ds) k0=some d:=h
    simp only [Z0,if_pos] at h
    cases h
    exact ⟨e.val,v,by simp,h3,h4⟩
   ·have h:Z0 ks ds k=some d:=by
     simp only [Z0,if_neg c] at h
     exact h
    obtain ⟨u,v',b1,b2,b3⟩:=a4 k d h
    refine ⟨u,v',?_,b2,b3⟩
    have nk:¬(Sum.inr k0:Key)=Sum.inr k:=fun z=>c (Sum.inr.inj z)
    rw [List.find?_cons_of_neg (by simpa using nk)]
    exact b1
structure SubOk (K:PySem.W.Frag) (C B:Addr):Prop where
 cl:Cls K C
 ha:PySem.W.findIn K (.ref C) "__class__"=some (some (.builtin "object.__class__"))
 hn:PySem.W.specialIn K (.builtin "object.__class__") "__get__"=some (some (.builtin "getset_descriptor.__get__"))
 ht:PySem.W.takesIn K (.builtin "object.__class__")=some true
 hm:PySem.W.mroIn K C (.type "object")=some true
 kit:PySem.W.kitOne K (.ref C) (.ref B)=some true
structure NewOk (K:PySem.W.Frag) (C:Addr):Prop where
 makes:PySem.W.makesIn K C=true
 init:PySem.W.findIn K (.ref C) "__init__"=some (some (.builtin "object.__init__"))
 kp:PySem.W.keepIn K (.ref C)=true
 cl:Cls K C
def GOk (P:Program) (w:World) (K:PySem.W.Frag) (mg:Str→Option Value) (base:Heap) (A:Around) (F:Nat→Fn) (x:Str):GV→Prop
 | .cst d=>∃ v u,mg x=some u∧RelV v u∧∀ ad H,Den K ad H v d
 | .blt=>mg x=none
 | .dct ks ds=>JO w.params K mg x ks ds
 | .cls i ms subs=>mg x=some (.ref (ClsTab.ca i))∧NewOk K (ClsTab.ca i)∧(∀ i',subs.contains i'=true→SubOk K (ClsTab.ca i') (ClsTab.ca i)) ∧
   ∀ m j ps,ms.lookup m=some (j,ps)→∃ (k:Nat) (f:Addr) (fd:FuncData) (pn:List Str),FnOk P w K mg base CX0 k f fd pn (spD K (F j))∧Room k A∧Meth K (ClsTab.ca i) m f∧Binds K fd pn []
 | .fn i ps ds=>∃ (k:Nat) (f:Addr) (fd:FuncData) (pn:List Str),FnOk P w K mg base CX0 k f fd pn (spD K (F i))∧Room k A∧mg x=some (.ref f)∧PySem.W.keepIn K (.ref f)=true ∧
   ∀ m,m≤ds.length→∃ dvs us,(∀ ad H,Dens K ad H dvs (ds.drop m))∧Vals dvs us∧Binds K fd pn us
structure Cxt (X:Cx) (G:Gs) (F:Nat→Fn) (sc:Scope) (N:List Str):Prop where
 hN:X.N=N
 vis:∀ x,XH sc x=true→Vis X.env.scope x
 glb:∀ x,ZN sc x=true→Gl X x
 calm:X.calm=true
 hu:X.A.units+64 < cLine
 gl:∀ x g,G.lookup x=some g→GOk X.prog X.w X.K X.mg X.base X.A F x g
 cel:∀ x,W0 sc x=true→X.env.scope.names.lookup x=some .cell∨X.env.scope.names.lookup x=some .free
 nx:X.xe=fun _ _=>False
theorem Xu {N:List Str}{x:Str}{i:Nat} (h:N.idxOf? x=some i):N[i]?=some x:=by
 unfold List.idxOf? at h
 rw [List.findIdx?_eq_some_iff_getElem] at h
 obtain ⟨hi,h1,_⟩:=h
 rw [List.getElem?_eq_getElem hi]
 rw [beq_iff_eq.mp h1]
theorem Ur {sc:Scope}{x:Str} (h:XH sc x=true):(x==("__debug__":Str))=false∧(x==("__classdict__":Str))=false:=by
 unfold XH at h
 rw [Bool.and_eq_true,Bool.and_eq_true,Bool.not_eq_true',Bool.not_eq_true'] at h
 exact h.1
theorem WT {sc:Scope}{x:Str} (h:ZN sc x=true):(x==("__debug__":Str))=false:=by
 unfold ZN at h
 rw [Bool.and_eq_true,Bool.not_eq_true'] at h
 exact h.1
section
variable {X:Cx}{F:Nat→Fn}
theorem Zh6 {e:Expr}{f:Ev} (h:PE X e (tE X.K f)) (he:∀ whole,isTrue e X.env whole=(do let v ←whole; standAt e.pos; holding [v] (truthy v)):=by intro _; rfl):PT X e (tT X.K f):=Vf (pt_val h he) Zcr
theorem ZgU {c a b:Expr}{fc fa fb:Ev}{pos:Pos} (hc:PT X c (tT X.K fc)) (ha:PT X a (tT X.K fa)) (hb:PT X b (tT X.K fb)):PT X (.IfExp c a b pos) (tT X.K (YB fc fa fb)):=by
 intro pins s σ H Q I h
 obtain ⟨ad,ρ,st,d,st',E,S,e,p⟩:=h
 obtain ⟨k,st1,q,e⟩:=Yj e
 show wpAny _ _ (isTrue c X.env (eval c X.env) >>= fun t=>if t then isTrue a X.env (eval a X.env) else isTrue b X.env (eval b X.env)) _ _ s
 refine wpAny_bind (thn (hc pins s σ H (fun k' H1=>k'=k∧∃ ad1,Ext ad H ad1 H1∧StOk X.K ad1 H1 st1) I ⟨ad,ρ,st,k,st1,E,S,q,fun ad1 H1 x1 S1=>⟨rfl,ad1,x1,S1⟩⟩) fun t s1 ⟨H1,I1,et,ad1,x1,S1⟩=>?_)
 subst et
 cases t with
 | true=>
  rw [if_pos rfl] at e ⊢
  exact ha pins s1 σ H1 Q I1 ⟨ad1,ρ,st1,d,st',E.mono x1,S1,e,fun ad2 H2 x2 S2=>p ad2 H2 (x1.trans x2) S2⟩
 | false=>
  rw [if_neg Bool.false_ne_true] at e ⊢
  exact hb pins s1 σ H1 Q I1 ⟨ad1,ρ,st1,d,st',E.mono x1,S1,e,fun ad2 H2 x2 S2=>p ad2 H2 (x1.trans x2) S2⟩
def ZdH:CE→Prop
 | .anil=>True
 | .acons _ _=>True
 | _=>False
theorem V9 {c:CE} (h:ZdH c) {ρ:Env}{st st':Za}{d:D} (e:ev F c ρ st=some (d,st')):∃ ds,d=.tup ds∧ds.length≤1000:=by
 cases c with
 | anil=>cases e; exact ⟨[],rfl,by decide⟩
 | acons a r=>
  have e:Ye (ev F a) (ev F r) X9 ρ st=some (d,st'):=e
  unfold Ye at e
  split at e
  ·split at e
   ·rename_i y st2 _
    cases y with
    | tup zs=>
     have e:(if zs.length < 1000 then some (D.tup (_ :: zs),st2) else none)=some (d,st'):=e
     split at e
     ·rename_i hz
      cases e
      exact ⟨_,rfl,hz⟩
     ·cases e
    | _=>simp [X9] at e
   ·cases e
  ·cases e
 | _=>exact False.elim h
structure SE (X:Cx) (F:Nat→Fn) (e:Expr) (c:CE):Prop where
 pe:PE X e (tE X.K (ev F c))
 pt:PT X e (tT X.K (ev F c))
theorem SE.of {e:Expr}{c:CE} (h:PE X e (tE X.K (ev F c))) (he:∀ whole,isTrue e X.env whole=(do let v ←whole; standAt e.pos; holding [v] (truthy v)):=by intro _; rfl):SE X F e c:=⟨h,Zh6 h he⟩
theorem QH {op:BoolOp}{es:List Expr}{pos:Pos}{t:TT} (h:PT X (.BoolOp op es pos) t):PW X (.BoolOp op es pos) t:=fun _ pins s σ H Q I q=>h pins s σ H Q I q
end
section
variable {ad:List Addr}{H:Hp}{p:Addr}{o:HO}
variable (ho:∀ kvs,o≠.dT kvs)
include ho
end
section
variable {X:Cx}{F:Nat→Fn}{pos:Pos}{f:Expr→Option CE}
end
end Dp



namespace Dp
open PySem PySem.Spec PyProof.Rows L2
variable [ClsTab]
theorem UT:bootBuiltins "tuple"=some (.type "tuple"):=by decide +kernel
theorem JU:bootBuiltins "list"=some (.type "list"):=by decide +kernel
theorem Zf6:bootBuiltins "int"=some (.type "int"):=by decide +kernel
theorem ZdN:bootBuiltins "bool"=some (.type "bool"):=by decide +kernel
theorem Zga:bootBuiltins "str"=some (.type "str"):=by decide +kernel
theorem Zf9:bootBuiltins "min"=some (.builtin "min"):=by decide +kernel
theorem Zf8:bootBuiltins "max"=some (.builtin "max"):=by decide +kernel
theorem Vm:bootBuiltins "isinstance"=some (.builtin "isinstance"):=by decide +kernel
theorem Zf7:bootBuiltins "len"=some (.builtin "len"):=by decide +kernel
section
variable {G:Gs}{F:Nat→Fn}
def Zr (G:Gs) (F:Nat→Fn) (n:Nat):Prop:=∀ X sc N,Cxt X G F sc N→∀ e c,cE G n sc N e=some c→SE X F e c
def YA (G:Gs) (F:Nat→Fn) (n:Nat):Prop:=∀ X sc N,Cxt X G F sc N→∀ es c,cEs G n sc N es=some c→PA X es (tA X.K (ev F c))∧ZdH c∧es.all Zi=true∧(es=[]→c=.anil)
def V7 (G:Gs) (F:Nat→Fn) (n:Nat):Prop:=∀ X sc N,Cxt X G F sc N→∀ e c,cO G n sc N e=some c→PO X e (tO X.K (ev F c))

theorem Zds {X:Cx}{v:Const}{k:Nat}{pos:Pos}{c:CE} (h:CE.ofConst v=some c):SE X F (.Constant v k pos) c:=by
 cases v with
 | none=>cases h; exact .of (Zu pe_non (Qb fun _ _=>.non))
 | bool b=>cases h; exact .of (Zu pe_bl (Qb fun _ _=>.bl b))
 | int i=>cases h; exact .of (Zu pe_int (Qb fun _ _=>.int i))
 | str x=>cases h; exact .of (Zu pe_str (Qb fun _ _=>.str x))
 | _=>cases h
theorem Ze6 {X:Cx}{sc:Scope}{N:List Str}{x:Str}{pos:Pos}{c:CE} (K:Cxt X G F sc N)
  (h:ZcJ G sc N x=some c):SE X F (.Name x pos) c:=by
 unfold ZcJ at h
 split at h
 ·rename_i hl
  cases q:N.idxOf? x with
  | none=>rw [q] at h; cases h
  | some i=>
   rw [q] at h
   cases h
   obtain ⟨h1,h2⟩:=Ur hl
   exact .of (Zu (pe_var (i:=i) (by rw [K.hN]; exact Xu q) (K.vis x hl) h1 h2) Zek)
 ·split at h
  ·rename_i hg
   split at h
   ·rename_i d q
    cases h
    obtain ⟨v,u,hm,r,hd⟩:=K.gl x _ q
    exact .of (Zu (pe_glob (K.glb x hg) hm r (WT hg)) (Qb hd))
   ·cases h
  ·cases h
theorem pa1 {X:Cx}{a:Expr}{t:TE} (hp:Zi a=true) (ha:PE X a t):PA X [a] (tCons t tNil):=pa_cons ha pa_nil (Zd hp)
theorem pa2 {X:Cx}{a b:Expr}{t u:TE} (hp:Zi a=true) (hq:Zi b=true) (ha:PE X a t) (hb:PE X b u):PA X [a,b] (tCons t (tCons u tNil)):=pa_cons ha (pa1 hq hb) (Zd hp)
theorem ZeZ {X:Cx}{sc:Scope}{N:List Str}{f:Str}{a:Expr}{x c:CE}{p pos:Pos} (K:Cxt X G F sc N) (hg:ZN sc f=true) (hm:X.mg f=none) (hp:Zi a=true) (A:PE X a (tE X.K (ev F x))) (h:Zf4 f x=some c) :
  PE X (.Call (.Name f p) [a] [] pos) (tE X.K (ev F c)):=by 
 have hG:=K.glb f hg
 unfold Zf4 at h
 split at h
 ·rename_i e; subst e; cases h
  exact Zu (pe_callB ZaO hG hm Zf7 (pa1 hp A) (by decide) (by decide) (Zd hp) rfl) WY
 ·split at h
  ·rename_i e; subst e; cases h
   exact Zu (pe_callTy UW hG hm UT (pa1 hp A) (by decide) (by decide) (Zd hp) rfl) WY
  ·split at h
   ·rename_i e; subst e; cases h
    exact Zu (pe_callTy Jb hG hm JU (pa1 hp A) (by decide) (by decide) (Zd hp) rfl) WY
   ·cases h
theorem Zf3 {X:Cx}{b:Expr}{pos:Pos} (hq:Zi b=true):(backTo pos (starEach [b] X.env)).any (·.1)=false:=XO (by rw [List.all_cons,hq]; rfl)
theorem Ze0 {X:Cx}{sc:Scope}{N:List Str}{f:Str}{a b:Expr}{x y c:CE}{p pos:Pos} (K:Cxt X G F sc N) (hg:ZN sc f=true) (hm:X.mg f=none) (hp:Zi a=true) (hq:Zi b=true) (A:PE X a (tE X.K (ev F x))) (B:PE X b (tE X.K (ev F y)))
  (h:Zf5 f x y=some c):PE X (.Call (.Name f p) [a,b] [] pos) (tE X.K (ev F c)):=by
 have hG:=K.glb f hg
 unfold Zf5 at h
 split at h
 ·rename_i e; subst e; cases h
  exact Zu (pe_callB (ZaQ K.calm) hG hm Zf9 (pa2 hp hq A B) (by decide) (by decide) (Zd hp) (Zf3 hq)) Qa
 ·split at h
  ·rename_i e; subst e; cases h
   exact Zu (pe_callB (ZaP K.calm) hG hm Zf8 (pa2 hp hq A B) (by decide) (by decide) (Zd hp) (Zf3 hq)) Qa
  ·cases h
theorem Zea {K:PySem.W.Frag}{T:Ty}{fa:Ev} (σ:L2.St) (H:Hp) (Q:VK) (h:tE K (Z2 fa (Jk T)) σ H Q) :
  tCB (fun vs H Q=>∃ v,vs=[v,.ty (tyN T)]∧rC K (on1 (Jk T)) [v] H Q) (tCons (tE K fa) (tCons (tC (.ty (tyN T))) tNil)) σ H Q:=by
 obtain ⟨ad,ρ,st,d,st',E,S,e,p⟩:=h
 unfold Z2 at e
 split at e
 ·rename_i x st1 q1
  exact ⟨ad,ρ,st,x,st1,E,S,q1,fun v1 ad1 H1 x1 S1 d1=>⟨v1,rfl,ad1,st1,[x],d,st',S1,.cons d1 .nil,e,p.later x1⟩⟩
 ·cases e
theorem ZdD {X:Cx}{sc:Scope}{N:List Str}{b:Expr}{T:Ty} (K:Cxt X G F sc N) (h:ZaC G sc b=some T):Zi b=true∧PE X b (tC (.ty (tyN T))):=by
 cases b with
 | Name t p=>
  have h2:Zhf G sc t=some T:=h
  clear h
  unfold Zhf at h2
  split at h2
  ·rename_i hg
   rw [Bool.and_eq_true] at hg
   have hm:X.mg t=none:=by
    have z:=hg.2
    unfold J6 at z
    split at z
    ·rename_i q; exact K.gl t _ q
    ·cases z
   have hG:=K.glb t hg.1
   refine ⟨rfl,?_⟩
   unfold Zie at h2
   split at h2
   ·rename_i e; subst e; cases h2
    exact pe_bltn hG hm Zf6 rfl
   ·split at h2
    ·rename_i e; subst e; cases h2
     exact pe_bltn hG hm ZdN rfl
    ·split at h2
     ·rename_i e; subst e; cases h2
      exact pe_bltn hG hm Zga rfl
     ·split at h2
      ·rename_i e; subst e; cases h2
       exact pe_bltn hG hm UT rfl
      ·cases h2
  ·cases h2
 | _=>simp [ZaC] at h
theorem Zg1 {X:Cx}{sc:Scope}{N:List Str}{a b:Expr}{x:CE}{T:Ty}{p pos:Pos} (K:Cxt X G F sc N) (hg:ZN sc "isinstance"=true) (hm:X.mg "isinstance"=none) (hp:Zi a=true) (A:PE X a (tE X.K (ev F x))) (hT:ZaC G sc b=some T) :
  PE X (.Call (.Name "isinstance" p) [a,b] [] pos) (tE X.K (ev F (.isi T x))):=by
 obtain ⟨hq,B⟩:=ZdD K hT
 exact Zu (pe_callB (ZbP (T:=T)) (K.glb _ hg) hm Vm (pa2 hp hq A B) (by decide) (by decide) (Zd hp) (Zf3 hq)) Zea
theorem Ze2 {X:Cx}{sc:Scope}{N:List Str}{f:Str}{as:List Expr}{cs:CE}{i ps:Nat}{ds:List D}{p pos:Pos} (K:Cxt X G F sc N) (hg:ZN sc f=true) (hG:G.lookup f=some (.fn i ps ds)) (hl:as.length≤ps∧ps≤as.length+ds.length)
  (A:PA X as (tA X.K (ev F cs))∧ZdH cs∧as.all Zi=true∧(as=[]→cs=.anil)):PE X (.Call (.Name f p) as [] pos) (tE X.K (ev F (.call i cs (ds.drop (as.length+ds.length - ps))))):=by
 obtain ⟨k,fa,fd,pn,Fk,hr,hm,hk,hb⟩:=K.gl f _ hG
 obtain ⟨dvs,us,hd,hv,hbn⟩:=hb (as.length+ds.length - ps) (by omega)
 obtain ⟨PAs,_,hp,hn⟩:=A
 cases as with
 | nil=>
  refine Zu (pe_call0 (E:=E0) Fk hr (K.glb f hg) hm hk hbn hv pass0 (WT hg)) fun σ H Q h=>?_
  rw [hn rfl] at h
  exact U9 σ H _ (Qc (E:=E0) hd σ H Q h)
 | cons e es=>
  rw [List.all_cons,Bool.and_eq_true] at hp
  exact Zu (pe_call (E:=E0) Fk hr (K.glb f hg) hm hk hbn hv pass0 PAs (WT hg) (Zd hp.1) (XO hp.2)) (Qc hd)
theorem WR {X:Cx}{sc:Scope}{N:List Str}{nm:Str}{b:Expr}{as:List Expr} (K:Cxt X G F sc N) (h:fnA G sc nm b=some as):∃ p pos,b=.Call (.Name nm p) as [] pos∧Gl X nm∧X.mg nm=none:=by
 obtain ⟨q,h1,h2⟩:=Option.bind_eq_some_iff.mp h
 refine XJ h2 fun hc h3=>?_
 obtain ⟨rfl,hg,hb⟩:=hc
 cases h3
 unfold Zfz at h1
 split at h1
 ·cases h1
  refine ⟨_,_,rfl,K.glb _ hg,?_⟩
  unfold J6 at hb
  split at hb
  ·rename_i q; exact K.gl _ _ q
  ·cases hb
 ·cases h1
theorem Zai {as:List Expr}{a:Expr} (h:ZgK as=some a):as=[a]:=by
 cases as with
 | nil=>cases h
 | cons x as=>cases as with
  | nil=>cases h; rfl
  | cons _ _=>cases h
theorem Vu {X:Cx}{sc:Scope}{N:List Str}{b e:Expr} (K:Cxt X G F sc N) (h:Z1 G sc b=some e):∃ p pos,b=.Call (.Name "range" p) [e] [] pos∧Gl X "range"∧X.mg "range"=none:=by
 obtain ⟨as,h1,h2⟩:=Option.bind_eq_some_iff.mp h
 rw [Zai h2] at h1
 exact WR K h1
theorem ZgZ {X:Cx}{sc:Scope}{N:List Str}{a b e:Expr}{x y:CE}{op:CmpOp}{ng:Bool}{pos:Pos} (K:Cxt X G F sc N) (hb:Z1 G sc b=some e) (hg:Zgr op=some ng) (hp:Zi e=true) (A:PE X a (tE X.K (ev F x))) (B:PE X e (tE X.K (ev F y))):SE X F (.Compare a [op] [b] pos) (.inR ng x y):=by cases hg
theorem Zg3 {X:Cx}{sc:Scope}{N:List Str}{f:Str}{a e:Expr}{o:Option CE}{c:CE}{p pos:Pos} (K:Cxt X G F sc N) (hg:ZN sc f=true) (hm:X.mg f=none) (hb:JK G sc f a=some e) (B:∀ c,o=some c→Zi e=true∧PE X e (tE X.K (ev F c))) (h:o.map CE.tupR=some c):SE X F (.Call (.Name f p) [a] [] pos) c:=by cases hb
theorem JB {X:Cx}{e e':Expr}{te te':TE}{p pos:Pos}{pins:List (Addr×Obj)}{s:Shared}{σ:L2.St}{H:Hp}{Qv:Value→Shared→Prop} (hg:Gl X "range") (hm:X.mg "range"=none) (hp:Zi e=true) (hp':Zi e'=true) (he:PE X e te) (he':PE X e' te') (I:L2.Inv X pins σ H s)
  (h:tCons te (tCons te' tNil) σ H fun vs H1=>∃ a b:Int,vs=[.int a,.int b]∧∀ s2 r t u v,L2.Inv X pins σ H1 s2→IsRange s2.heap r a b 1 t u v→Qv (.ref r) s2):wpAny (model X.prog X.w) X.A (eval (.Call (.Name "range" p) [e,e'] [] pos) X.env) Qv X.xe s:=by
 have hs2:starEach [e'] X.env=[(false,eval e' X.env)]:=Zd hp'
 have hs:starEach [e,e'] X.env=[(false,eval e X.env),(false,eval e' X.env)]:=by rw [Zd hp,hs2]
 refine Call_ (ld_blt I hg hm boot_range (PyProof.Rows.callWith_type1 (thn (pa2 hp hp' he he' pos pins s σ H _ I h) fun us s1 ⟨vs,H1,I1,r1,q1⟩=>?_) (by rw [hs,hs2]) (by rw [hs2]; rfl)))
 obtain ⟨a,b,rfl,q⟩:=q1
 cases r1 with
 | cons r rr=>
  cases rr with
  | cons r' rr=>
   cases rr
   obtain ⟨t,rfl⟩:=r
   obtain ⟨t',rfl⟩:=r'
   exact call_range_2 (q _ _ _ _ _ (I1.kept (t':=_) fun b o e=>Heap.get?_push_of_some _ e) (IsRange.new ..))
theorem Ju {fx fy:Ev}{ρ:Env}{st st':Za}{d:D} (e:Ye fx fy Qp ρ st=some (d,st')):∃ a b st1 st2,fx ρ st=some (.int a,st1)∧fy ρ st1=some (.int b,st2)∧(Zs a b 1=true∧b - a≤1000)∧d=.lst st2.length∧st'=st2++[(true,(Zt a b 1).map .int)]:=by
 unfold Ye at e
 split at e
 ·rename_i dx st1 q1
  split at e
  ·rename_i dy st2 q2
   unfold Qp at e
   split at e
   ·split at e
    ·rename_i c
     cases e
     exact ⟨_,_,_,_,q1,q2,c,rfl,rfl⟩
    ·cases e
   ·cases e
  ·cases e
 ·cases e
theorem Jz {a b:Int} (h:Zs a b 1=true):Builtin.Range.rangeSize a b 1=((Zw a b 1:Nat):Int)∧Builtin.Range.small a b 1=true∧((Zw a b 1:Nat):Int)=if a < b then b - a else 0:=by
 have h:=of_decide_eq_true h
 obtain ⟨⟨h1,h2⟩,⟨h3,h4⟩,h5⟩:=h
 unfold Zw Builtin.Range.small Builtin.Range.rangeSize
 simp only [Builtin.Range.rangeFitsLong,Bool.and_eq_true,Bool.or_eq_true,decide_eq_true_eq,beq_iff_eq,gt_iff_lt,Int.neg_neg,Int.ediv_one]
 refine ⟨?_,?_,?_⟩
 ·split
  ·split<;>omega
  ·split<;>omega
 ·refine ⟨⟨by omega,?_⟩,.inr ?_⟩
  ·constructor
   ·repeat' split
    all_goals omega
   ·repeat' split
    all_goals omega
  ·simp
   omega
 ·split
  ·split<;>omega
  ·omega
theorem Wf {a:Int}:∀ {m k:Nat}{us:List Value},us.length=m→(∀ (i:Nat) v,us[i]?=some v→∃ t,v=.int (a+((k+i:Nat):Int) * 1) t)→Vals ((List.range' k m).map fun (k:Nat)=>V.int (a+(k:Int) * 1)) us
 | 0,k,us,hl,h=>by
  cases us with
  | nil=>exact .nil
  | cons _ _=>cases hl
 | m+1,k,us,hl,h=>by
  cases us with
  | nil=>cases hl
  | cons u us=>
   obtain ⟨t,rfl⟩:=h 0 u rfl
   refine .cons ⟨t,rfl⟩ (Wf (k:=k+1) (Nat.succ.inj hl) fun i v e=>?_)
   obtain ⟨t,q⟩:=h (i+1) v e
   exact ⟨t,by rw [q,show k+1+i=k+(i+1) by omega]⟩
theorem We {K:PySem.W.Frag}{ad:List Addr}{H:Hp}{a:Int}:∀ l:List Nat,Dens K ad H (l.map fun (k:Nat)=>V.int (a+(k:Int) * 1)) ((l.map fun (k:Nat)=>a+(k:Int) * 1).map D.int)
 | []=>.nil
 | k :: l=>.cons (.int _) (We l)
theorem Zfs {as:List Expr}{p:Expr×Expr} (h:Zfr as=some p):as=[p.1,p.2]:=by
 cases as with
 | nil=>cases h
 | cons x as=>cases as with
  | nil=>cases h
  | cons y as=>cases as with
   | nil=>cases h; rfl
   | cons _ _=>cases h
theorem Ze5 {X:Cx}{sc:Scope}{N:List Str}{f:Str}{a u v:Expr}{x y:CE}{p pos:Pos} (K:Cxt X G F sc N) (hg:ZN sc f=true) (hm:X.mg f=none) (hb:Us G sc f a=some (u,v)) (hu:Zi u=true) (hv:Zi v=true) (A:PE X u (tE X.K (ev F x))) (B:PE X v (tE X.K (ev F y))):PE X (.Call (.Name f p) [a] [] pos) (tE X.K (ev F (.lstR x y))):=by
 unfold Us at hb
 split at hb
 ·rename_i hf
  subst hf
  obtain ⟨as,h1,h2⟩:=Option.bind_eq_some_iff.mp hb
  obtain ⟨pg,pos',rfl,hg1,hm1⟩:=WR K h1
  cases Zfs h2
  ·intro pins s σ H Q I h
   obtain ⟨ad,ρ,st,d,st',En,S,e1,pq⟩:=h
   obtain ⟨a,b,st1,st2,q1,q2,hn,rfl,rfl⟩:=Ju e1
   obtain ⟨z1,z2,z3⟩:=Jz hn.1
   have hs:starEach [.Call (.Name "range" pg) [u,v] [] pos'] X.env=[(false,eval (.Call (.Name "range" pg) [u,v] [] pos') X.env)]:=Zd rfl
   refine Call_ (ld_blt I (K.glb _ hg) hm JU (PyProof.Rows.callWith_type1 ?_ hs rfl))
   rw [hs]
   refine Calls.spliced_cons (JB hg1 hm1 hu hv A B I ⟨ad,ρ,st,_,st1,En,S,q1,fun v1 ad1 H1 x1 S1 d1=>⟨ad1,ρ,st1,_,st2,En.mono x1,S1,q2,fun v2 ad2 H2 x2 S2 d2=>⟨a,b,by rw [d1.ofInt,d2.ofInt],fun s2 r t u w I2 hr=>?_⟩⟩⟩)
   refine Calls.spliced_nil ?_
   have hz:Zw a b 1≤1000:=by
    have:=hn.2
    split at z3<;>omega
   refine call_list_range (n:=Zw a b 1) (I2.ok.hd K.calm) hr z2 z1 (by omega) fun h' tk acc c' hk hS hacc=>?_
   have hv:Vals ((List.range (Zw a b 1)).map fun (k:Nat)=>V.int (a+(k:Int) * 1)) acc.toList:=by
    rw [List.range_eq_range']
    refine Wf (by rw [Array.length_toList,hacc.1]) fun i v e=>?_
    obtain ⟨t,z⟩:=hacc.2 i v (by rw [←e]; simp)
    exact ⟨t,by rw [z]; simp⟩
   have hf:=I2.hok.fresh (Nat.le_refl _)
   refine ⟨.ref s2.heap.objs.size,upd H2 s2.heap.objs.size (.lst ((List.range (Zw a b 1)).map fun (k:Nat)=>V.int (a+(k:Int) * 1))),I2.laid (t':=tk) hk (Nat.le_refl _) (show ObjOk X.prog X.w _ _ _ (.lst _) from ⟨?_,acc.toList,c',hv,?_⟩),rfl,pq _ (ad2++[s2.heap.objs.size]) _ ((x1.trans x2).trans (Ext.push hf)) (S2.push hf (We _)) (.newL ?_)⟩
   ·rw [List.length_map,List.length_range,sizeLine_eq]; omega
   ·rw [Array.toArray_toList]
    exact hS
   ·rw [←S2.len]
    exact ZL
 ·cases hb
theorem Ze4 {X:Cx}{sc:Scope}{N:List Str}{a b:Expr}{y:CE}{ks:List Str}{ds:List D}{pos:Pos} (K:Cxt X G F sc N) (hn:ZcD G sc a=some (ks,ds)) (hp:Zi b=true) (B:PE X b (tE X.K (ev F y))):PE X (.Subscript a b pos) (tE X.K (ev F (.look ks ds y))):=by cases hn
theorem Zg0 {X:Cx}{sc:Scope}{N:List Str}{a b:Expr}{x:CE}{l:List Nat}{p pos:Pos} (K:Cxt X G F sc N) (hg:ZN sc "isinstance"=true) (hm:X.mg "isinstance"=none) (hp:Zi a=true) (A:PE X a (tE X.K (ev F x))) (hT:Jc G sc b=some l) :
  PE X (.Call (.Name "isinstance" p) [a,b] [] pos) (tE X.K (ev F (.isc l x))):=by cases hT
section
open PySem.SeqAt PySem.MeetsSeq PySem.MeetsSeq2 PySem.MeetsSeq3 PySem.SeqRoads2
end
def ZfM (K:PySem.W.Frag):V→List V→Hp→VK→Prop:=fun x xs H Q=>∃ z a ys,x=.str z∧xs=[.ref a]∧SqL K H a (ys.map V.str)∧(Xt z ys).length≤Zg∧Q (.str ⟨(U7 z ys).toArray⟩) H
theorem Zaz {K:PySem.W.Frag}{ad:List Addr}{H:Hp}:∀ {ys:List V}{ds:List D}{xs:List Str},Dens K ad H ys ds→Wh ds=some xs→ys=xs.map V.str
 | _,_,_,.nil,h=>by cases h; rfl
 | _,d :: ds,xs,.cons a r,h=>by
  cases d with
  | str x=>
   obtain ⟨zs,h1,h2⟩:=Option.map_eq_some_iff.mp (show (Wh ds).map (x :: ·)=some xs from h)
   cases h2
   cases a
   rw [Zaz r h1]
   rfl
  | _=>cases h
theorem Zcm {K:PySem.W.Frag}{fa fb:Ev} (σ:L2.St) (H:Hp) (Q:VK) (h:tE K (Ye fa fb VO) σ H Q):tBM K "str" (ZfM K) (tE K fa) (tCons (tE K fb) tNil) σ H Q:=by
 obtain ⟨ad,ρ,st,d,st',E,S,e,p⟩:=h
 unfold Ye at e
 split at e
 ·rename_i dx st1 q1
  split at e
  ·rename_i dy st2 q2
   unfold VO at e
   split at e
   ·rename_i s a
    split at e
    ·rename_i bb ds q3
     have core:∀ {xs:List Str}{d':D}{s':Za},Wh ds=some xs→(Xt s xs).length≤Zg→Post K ad H (.str ⟨(U7 s xs).toArray⟩) st2 Q→tBM K "str" (ZfM K) (tE K fa) (tCons (tE K fb) tNil) σ H Q:=fun {xs d' s'} hx hz p=>by
      refine ⟨ad,ρ,st,.str s,st1,E,S,q1,fun v ad1 H1 x1 S1 d1=>?_⟩
      cases d1
      refine ⟨rfl,ad1,ρ,st1,.lst a,_,E.mono x1,S1,q2,fun w ad2 H2 x2 S2 d2=>?_⟩
      obtain ⟨l,rfl,hl⟩:=d2.ofLst
      obtain ⟨ys,rv,sq⟩:=S2.list hl q3
      have ey:=Zaz rv hx
      subst ey
      exact ⟨s,l,xs,rfl,rfl,sq,hz,(p.later (x1.trans x2)).at S2 (.str _)⟩
     split at e
     ·rename_i hs
      unfold J9 at e
      split at e
      ·rename_i xs hx
       split at e
       ·rename_i hz
        cases e
        exact core (d':=.non) (s':=[]) hx (by rw [WU hs]; exact hz) (by rw [Zb9 hs]; exact p)
       ·cases e
      ·cases e
     ·unfold J8 at e
      split at e
      ·rename_i xs hx
       split at e
       ·rename_i hz
        cases e
        exact core (d':=.non) (s':=[]) hx hz p
       ·cases e
      ·cases e
    ·cases e
   ·cases e
  ·cases e
 ·cases e
theorem Ze3 {X:Cx}{v:Const}{kd:Nat}{kp ap cp:Pos}{a:Expr}{x z:CE} (hline:(ap.endLine==cp.line)=true) (hp:Zi a=true) (B:PE X (.Constant v kd kp) (tE X.K (ev F x))) (A:PE X a (tE X.K (ev F z))):PE X (.Call (.Attribute (.Constant v kd kp) "join" ap) [a] [] cp) (tE X.K (ev F (.joinE x z))):=
 Zu (pe_bm PySem.F.plainAttrs_str PySem.F.slot_str_join PySem.F.type_str_join ZeE B (pa1 hp A) rfl (by rw [Zd hp]; rfl) hline (Zd hp) rfl) Zcm
theorem JG {b:Expr}{p:Option Expr×Option Expr} (q:Wv b=some p):∃ p2,b=.Slice p.1 p.2 none p2:=by
 unfold Wv at q
 split at q
 ·cases q; exact ⟨_,rfl⟩
 ·cases q
theorem Zic {X:Cx}{op:UnaryOp}{a:Expr}{o:Option CE}{c:CE}{pos:Pos} (A:∀ x,o=some x→SE X F a x) (h:unC op o=some c):SE X F (.UnaryOp op a pos) c:=by
 cases op with
 | Not=>exact Ux (P:=SE X F _) (show o.map CE.not=some c from h) fun x hx=>⟨Zu (pe_not (A x hx).pe) Zco,Vf (pt_not (A x hx).pt) Zcn⟩
 | USub=>exact Ux (P:=SE X F _) (show o.map CE.neg=some c from h) fun x hx=>.of (Zu (pe_un Zft (A x hx).pe) Zgq)
 | _=>cases h
section
variable {X:Cx}{sc:Scope}{N:List Str}{n:Nat}{c:CE} (K:Cxt X G F sc N) (hf:∀ e c,cE G n sc N e=some c→SE X F e c)
include K hf
theorem ZgY {a:Expr}{ops:List CmpOp}{bs:List Expr}{pos:Pos} (h:ZhF G sc (cE G n sc N) (cE G n sc N a) ops bs=some c):SE X F (.Compare a ops bs pos) c:=by
 cases ops with
 | nil=>cases h
 | cons op ops=>cases bs with
  | nil=>cases ops with
   | nil=>cases h
   | cons _ r=>cases r<;>cases h
  | cons b bs=>cases ops with
   | nil=>cases bs with
    | cons _ _=>cases h
    | nil=>
     replace h:(match Z1 G sc b with
      | some e=>o3 CE.inR (Zgr op) (cE G n sc N a) (cE G n sc N e)
      | none=>o2 (CE.cmp op) (cE G n sc N a) (cE G n sc N b))=some c:=h
     cases he:Z1 G sc b with
     | some e=>
      rw [he] at h
      exact Wn (P:=SE X F _) h fun ng x y hg hx hy=>ZgZ K he hg (Zf hy) (hf a x hx).pe (hf e y hy).pe
     | none=>
      rw [he] at h
      exact Yf (P:=SE X F _) h fun x y hx hy=>⟨Zu (pe_cmpR (Zak K.hu) (hf a x hx).pe (hf b y hy).pe (Wc (Zf hy))) Ui,Vf (pt_cmpR (Zak K.hu) (hf a x hx).pe (hf b y hy).pe (Wc (Zf hy))) fun σ H Q q=>Ui σ H _ (Zcr σ H Q q)⟩
   | cons op2 ops=>cases h
omit K in
theorem Ze1 {op:BoolOp}{vs:List Expr}{pos:Pos} (h:Zfy (cE G n sc N) op pos vs=some c):SE X F (.BoolOp op vs pos) c:=by
 cases vs with
 | nil=>cases h
 | cons a r=>cases r with
  | nil=>
   have A:=hf a c h
   refine ⟨pe_one A.pe,?_⟩
   cases op with
   | And=>exact (pw_and1 A.pt).pt
   | Or=>exact (pw_or1 A.pt).pt
  | cons b r=>cases op with
   | And=>exact Yf (P:=SE X F _) (show o2 CE.and (cE G n sc N a) (cE G n sc N (.BoolOp .And (b :: r) pos))=some c from h) fun x y hx hy=>⟨Zu (pe_and (hf a x hx).pe (hf _ y hy).pe) Zcd,Vf (pw_and (hf a x hx).pt (QH (hf _ y hy).pt)).pt Zcc⟩
   | Or=>exact Yf (P:=SE X F _) (show o2 CE.or (cE G n sc N a) (cE G n sc N (.BoolOp .Or (b :: r) pos))=some c from h) fun x y hx hy=>⟨Zu (pe_or (hf a x hx).pe (hf _ y hy).pe) Zef,Vf (pw_or (hf a x hx).pt (QH (hf _ y hy).pt)).pt Zee⟩
theorem Zg2 (ihO:V7 G F n) {a b:Expr}{pos:Pos} (h:Zhc G sc (cE G n sc N) (cO G n sc N) a b=some c):SE X F (.Subscript a b pos) c:=by
 unfold Zhc at h
 cases q:Wv b with
 | some p=>
  obtain ⟨lo,hi⟩:=p
  rw [q] at h
  obtain ⟨p2,rfl⟩:=JG q
  exact Wn (P:=SE X F _) h fun x l u hx hl hu=>.of (Zu (pe_slice Zjm (hf a x hx).pe (ihO X sc N K lo l hl) (ihO X sc N K hi u hu)) Za5)
 | none=>
  rw [q] at h
  dsimp only at h
  cases q':ZfO b with
  | some s=>
   cases q'
  | none=>
   rw [q'] at h
   dsimp only at h
   cases hn:ZcD G sc a with
   | some p=>
    obtain ⟨ks,ds⟩:=p
    rw [hn] at h
    exact Ux (P:=SE X F _) h fun y hy=>.of (Ze4 K hn (Zf hy) (hf b y hy).pe)
   | none=>
    rw [hn] at h
    exact Yf (P:=SE X F _) h fun x y hx hy=>.of (Zu (pe_ix (ZiS K.hu) (hf a x hx).pe (hf b y hy).pe (Zcw (Zf hy))) Ui)
theorem Zdp {f:Str}{a:Expr}{p pos:Pos} (hg:ZN sc f=true) (hm:X.mg f=none) (h:ZbG G sc f a (cE G n sc N)=some c):SE X F (.Call (.Name f p) [a] [] pos) c:=by
 unfold ZbG at h
 cases he:JK G sc f a with
 | some e=>
  rw [he] at h
  exact Zg3 K hg hm he (fun c hc=>⟨Zf hc,(hf e c hc).pe⟩) h
 | none=>
  rw [he] at h
  dsimp only at h
  cases hl:Us G sc f a with
  | some q=>
   obtain ⟨u,v⟩:=q
   rw [hl] at h
   exact Yf (P:=SE X F _) h fun x y hx hy=>.of (Ze5 K hg hm hl (Zf hx) (Zf hy) (hf u x hx).pe (hf v y hy).pe)
  | none=>
   rw [hl] at h
   exact j_e h fun h=>Ux (P:=fun o=>o=some c→SE X F _ c) h (fun x hx h=>.of (ZeZ K hg hm (Zf hx) (hf a x hx).pe h)) rfl
theorem Zdq {f:Str}{a b:Expr}{p pos:Pos} (hg:ZN sc f=true) (hm:X.mg f=none) (h:ZbH G sc f a b (cE G n sc N)=some c):SE X F (.Call (.Name f p) [a,b] [] pos) c:=by
 unfold ZbH at h
 by_cases ei:f = "isinstance"
 ·subst ei
  rw [if_pos rfl] at h
  cases hl:Jc G sc b with
  | some l=>
   rw [hl] at h
   exact Ux (P:=SE X F _) h fun x q=>.of (Zg0 K hg hm (Zf q) (hf a x q).pe hl)
  | none=>
   rw [hl] at h
   exact Yf (P:=SE X F _) h fun x T hx hT=>.of (Zg1 K hg hm (Zf hx) (hf a x hx).pe hT)
 ·rw [if_neg ei] at h
  exact j_e h fun h=>Yf (P:=fun o=>o=some c→SE X F _ c) h (fun x y hx hy h=>.of (Ze0 K hg hm (Zf hx) (Zf hy) (hf a x hx).pe (hf b y hy).pe h)) rfl
theorem Zdr (ihA:YA G F n) {f:Str}{as:List Expr}{p pos:Pos} (h:ZbO G sc f as (cEs G n sc N as) (cE G n sc N)=some c):SE X F (.Call (.Name f p) as [] pos) c:=by
 unfold ZbO at h
 cases hg:ZN sc f with
 | false=>rw [hg] at h; cases h
 | true=>
 rw [hg,if_pos rfl] at h
 cases hG:G.lookup f with
 | none=>rw [hG] at h; cases h
 | some g=>
  rw [hG] at h
  cases g with
  | fn i ps ds=>exact XJ h fun hl h=>Ux (P:=SE X F _) h fun cs hcs=>.of (Ze2 K hg hG hl (ihA X sc N K as cs hcs))
  | blt=>
   have hm:X.mg f=none:=K.gl f _ hG
   cases as with
   | nil=>cases h
   | cons a as=>cases as with
    | nil=>exact Zdp K hf hg hm h
    | cons b as=>cases as with
     | nil=>exact Zdq K hf hg hm h
     | cons _ _=>cases h
  | _=>cases h
theorem ZeY (ihA:YA G F n) {ob:Expr}{m:Str}{ap pos:Pos}{as:List Expr} (h:Zfx G ob m ap as pos (cEs G n sc N as) (cE G n sc N)=some c):SE X F (.Call (.Attribute ob m ap) as [] pos) c:=by
 cases ob with
 | Constant v kd kp=>cases as with
  | nil=>cases h
  | cons a as=>cases as with
   | cons _ _=>cases h
   | nil=>
    refine XJ h fun hc h=>Yf (P:=SE X F _) h fun x z hx hz=>?_
    obtain ⟨rfl,hline⟩:=hc
    exact .of (Ze3 hline (Zf hz) (hf _ x hx).pe (hf a z hz).pe)
 | _=>cases h
end
theorem JH {n:Nat} (ihE:Zr G F n) (ihA:YA G F n) (ihO:V7 G F n)
  (hcomp:∀ X sc N,Cxt X G F sc N→∀ elt gens sc2 pos c,cE G (n+1) sc N (.ListComp elt gens sc2 pos)=some c→SE X F (.ListComp elt gens sc2 pos) c):Zr G F (n+1):=by
 intro X sc N K e c h
 have hf:=ihE X sc N K
 have no:∀ {P:Prop},(none:Option CE)=some c→P:=fun z=>nomatch z
 cases e with
 | Constant v k pos=>exact Zds h
 | Name x pos=>exact Ze6 K h
 | BinOp a op b pos=>exact Yf (P:=SE X F _) (show o2 (CE.bin op) (cE G n sc N a) (cE G n sc N b)=some c from h) fun x y hx hy=>.of (Zu (pe_op ZeJ (hf a x hx).pe (hf b y hy).pe) Ui)
 | UnaryOp op a pos=>exact Zic (hf a) h
 | Compare a ops bs pos=>exact ZgY K hf h
 | BoolOp op vs pos=>exact Ze1 hf h
 | IfExp t a b pos=>exact Wn (P:=SE X F _) (show o3 CE.ife (cE G n sc N t) (cE G n sc N a) (cE G n sc N b)=some c from h) fun z x y hz hx hy=>⟨Zu (pe_ifExp (hf t z hz).pt (hf a x hx).pe (hf b y hy).pe) Zgp,ZgU (hf t z hz).pt (hf a x hx).pt (hf b y hy).pt⟩
 | Tuple es k pos=>
  refine Ux (P:=SE X F _) (show (cEs G n sc N es).map CE.tupE=some c from h) fun x q=>?_
  obtain ⟨A,hA,_,_⟩:=ihA X sc N K es x q
  exact .of (Zu (pe_tup A) (Zej (fun ρ st ds st' e=>by obtain ⟨ds',z,hz⟩:=V9 hA e; cases z; exact hz) fun ρ st d st' e=>by obtain ⟨ds',z,hz⟩:=V9 hA e; exact ⟨ds',z⟩))
 | List es pos=>
  refine Ux (P:=SE X F _) (show (cEs G n sc N es).map CE.lstE=some c from h) fun x q=>?_
  obtain ⟨A,hA,_,_⟩:=ihA X sc N K es x q
  exact .of (Zu (pe_lst A) (Zec fun ρ st ds st' e=>by obtain ⟨ds',z,hz⟩:=V9 hA e; cases z; exact hz))
 | Subscript a b pos=>exact Zg2 K hf ihO h
 | Call f as kws pos=>cases kws with
  | cons _ _=>exact no h
  | nil=>cases f with
   | Attribute ob m ap=>exact ZeY K hf ihA h
   | Name f p=>exact Zdr K hf ihA h
   | _=>exact no h
 | ListComp elt gens sc2 pos=>exact hcomp X sc N K elt gens sc2 pos c h
 | _=>exact no h
theorem QS {n:Nat} (ihE:Zr G F n) (ihA:YA G F n):YA G F (n+1):=by
 intro X sc N K es c h
 cases es with
 | nil=>
  simp only [cEs] at h
  cases h
  exact ⟨ZcV pa_nil U9,trivial,rfl,fun _=>rfl⟩
 | cons e es=>
  refine Yf (P:=fun c=>PA X _ (tA X.K (ev F c))∧ZdH c∧_∧(_→c=.anil)) (show o2 CE.acons (cE G n sc N e) (cEs G n sc N es)=some c from h) fun x r hx hr=>?_
  obtain ⟨A,hA,hp,_⟩:=ihA X sc N K es r hr
  exact ⟨ZcV (pa_cons (ihE X sc N K e x hx).pe A (Zd (Zf hx))) Za3,trivial,by rw [List.all_cons,hp,Zf hx]; rfl,fun z=>nomatch z⟩
theorem QT {n:Nat} (ihE:Zr G F n):V7 G F (n+1):=by
 intro X sc N K e c h
 cases e with
 | none=>
  simp only [cO] at h
  cases h
  exact Zc7 po_none Zed
 | some e=>
  simp only [cO] at h
  cases q:cE G n sc N e with
  | none=>rw [q] at h; cases h
  | some x=>
   rw [q] at h
   cases h
   refine Zc7 (po_some (ihE X sc N K e x q).pe) fun σ H Q hq=>?_
   obtain ⟨ad,ρ,st,d,st',E,S,e1,p⟩:=hq
   have e1:Z2 (ev F x) Zam ρ st=some (d,st'):=e1
   unfold Z2 at e1
   split at e1
   ·rename_i y st1 q1
    cases y with
    | int i=>
     cases e1
     rcases p with ⟨z,_⟩ | ⟨j,z,p⟩
     ·cases z
     ·cases z
      exact ⟨ad,ρ,st,.int i,_,E,S,q1,fun v ad' H' x S' d'=>⟨i,d'.ofInt,p ad' H' x S'⟩⟩
    | _=>simp [Zam] at e1
   ·cases e1
end
end Dp



namespace Dp
open PySem PySem.Spec PyProof.Rows L2
variable [ClsTab]
theorem b_e {α β:Type}{P:Prop}{o:Option α}{f:α→Option β}{c:β} (h:o.bind f=some c) (k:∀ x,o=some x→f x=some c→P):P:=by
 cases o with
 | none=>cases h
 | some x=>exact k x rfl h
theorem ZfL {X:Cx}{s:Stmt}{t u:TS} (h1:PS X s t) (h2:PS X s u):PS X s (fun D σ H=>t D σ H∨u D σ H):=fun pins s σ H D I q=>q.elim (h1 pins s σ H D I) (h2 pins s σ H D I)
theorem Wi {e:Expr}{tg:Option Expr}{l:Nat}{env:PySem.Env} (h:Y5 e=false):swapsWith e tg l env=pure false:=by
 cases e<;>first | rfl | cases h
theorem Xz {e tg:Expr}{l:Nat}{env:PySem.Env} (h:Y5 e=false):swapsWithSole [tg] e l env=pure false:=Wi h
theorem Q4 {o k:Expr}{p:Pos}{env:PySem.Env} (h:Zi k=true):∀ v,assign (.Subscript o k p) env v=(do
   let ov ←holding [v] (eval o env)
   let iv ←holding [v,ov] (eval k env)
   standAt p
   holding [v,ov,iv] (setItem ov iv v)
   release [v,ov,iv] []):=by
 cases k<;>first | (intro _; rfl) | cases h
theorem JI {o k e:Expr}{p:Pos}{env:PySem.Env}:swappedStores [.Subscript o k p] e env=pure none:=by
 cases e<;>rfl
theorem Z3 {e:Expr}{env:PySem.Env} (h:Zi e=true):∀ x,foldedSetIterable e env x=pure x:=by
 cases e<;>first | (intro _; rfl) | cases h
structure CxtS (X:Cx) (G:Gs) (F:Nat→Fn) (sc:Scope) (N:List Str):Prop extends Cxt X G F sc N where
 nd:N.Nodup
 loc:∀ x∈N,Loc X.env.scope x
 fn:∀ x,X.fn x=true
section
variable {G:Gs}{F:Nat→Fn}
def Q1 (G:Gs) (F:Nat→Fn) (n:Nat):Prop:=∀ X sc N,CxtS X G F sc N→∀ s c,cS G n sc N s=some c→PS X s (tS X.K (ex F c))
def Ya (G:Gs) (F:Nat→Fn) (n:Nat):Prop:=∀ X sc N,CxtS X G F sc N→∀ s c,cSs G n sc N s=some c→PSs X s (tS X.K (ex F c))
theorem Uh {N:List Str}{x:Str}{i:Nat} (h:N.idxOf? x=some i):x∈N:=List.mem_of_getElem? (Xu h)
theorem Yw {X:Cx}{sc:Scope}{N:List Str}{x:Str}{i:Nat}{p:Pos} (K:CxtS X G F sc N) (h:N.idxOf? x=some i):PG X (.Name x p) (gName i):=
 pg_name (by rw [K.hN]; exact K.nd) (by rw [K.hN]; exact Xu h) (K.loc x (Uh h)) (.inl (K.fn x))
theorem passes {X:Cx}{sc:Scope}{N:List Str} (K:CxtS X G F sc N):PassesOwn (model X.prog X.w) X.A X.env X.xe:=by
 rw [K.nx]; exact PassesOwn.never
theorem ZcZ {X:Cx}{sc:Scope}{N:List Str}{x:Str}{i:Nat}{p:Pos} (K:Cxt X G F sc N) (hl:XH sc x=true) (hi:N.idxOf? x=some i):PE X (.Name x p) (tVar i):=
 pe_var (by rw [K.hN]; exact Xu hi) (K.vis _ hl) (Ur hl).1 (Ur hl).2
theorem Wd {X:Cx}{sc:Scope}{N:List Str}{it a tg:Expr}{x:CE} (K:Cxt X G F sc N) (h:Z1 G sc it=some a) (hp:Zi a=true) (A:PE X a (tE X.K (ev F x))):Zi it=true∧PI X tg it (iRng1 (tCons (tE X.K (ev F x)) tNil)):=by
 obtain ⟨_,_,rfl,hg,hm⟩:=Vu K h
 exact ⟨rfl,pi_range1 hg hm (pa1 hp A) (Zd hp)⟩
def WB (G:Gs) (F:Nat→Fn) (n:Nat):Prop:=∀ X sc N,CxtS X G F sc N→∀ (x:Str) (i:Nat) (p:Pos) elt gens sc2 epos (pos:Pos) c,N.idxOf? x=some i→cE G n sc N (.ListComp elt gens sc2 epos)=some c→
 swapsWith (.ListComp elt gens sc2 epos) (some (.Name x p)) pos.line X.env=pure true→PS X (.Assign [.Name x p] (.ListComp elt gens sc2 epos) pos) (tAsg (tE X.K (ev F c)) (gName i))
theorem JJ {elt:Expr}{gens:List Comprehension}{sc2:Scope}{epos p:Pos}{x:Str}{l:Nat}{env:PySem.Env}:∃ b:Bool,swapsWith (.ListComp elt gens sc2 epos) (some (.Name x p)) l env=pure b:=⟨_,rfl⟩
theorem ZcM {n:Nat}{sc:Scope}{N:List Str}{e:Expr}{c:CE} (h:cE G n sc N e=some c):Y5 e=false∨∃ elt gens sc2 epos,e=.ListComp elt gens sc2 epos:=by
 cases n with
 | zero=>exact nomatch (show (none:Option CE)=some c from h)
 | succ n=>cases e<;>first | exact .inl rfl | exact .inr ⟨_,_,_,_,rfl⟩ | exact nomatch (show (none:Option CE)=some c from h)
theorem Zg6 {n:Nat} (ihE:Zr G F n) (hA:WB G F n) {X:Cx}{sc:Scope}{N:List Str} (K:CxtS X G F sc N) {c:CS}{x:Str}{e:Expr}{p pos:Pos} (h:o2 CS.set (N.idxOf? x) (cE G n sc N e)=some c):PS X (.Assign [.Name x p] e pos) (tS X.K (ex F c)):=by
 refine Yf (P:=fun c=>PS X _ (tS X.K (ex F c))) h fun i y hi hx=>?_
 have pl:∀ hs,PS X (.Assign [.Name x p] e pos) (tAsg (tE X.K (ev F y)) (gName i)):=fun hs=>ps_set (by rw [K.hN]; exact K.nd) (by rw [K.hN]; exact Xu hi) (K.loc _ (Uh hi)) (ihE X sc N K.toCxt _ y hx).pe hs (.inl (K.fn _))
 rcases ZcM hx with hc | ⟨elt,gens,sc2,epos,rfl⟩
 ·exact ZK (pl (Wi hc)) Uj
 ·obtain ⟨b,hb⟩:=JJ (elt:=elt) (gens:=gens) (sc2:=sc2) (epos:=epos) (p:=p) (x:=x) (l:=pos.line) (env:=X.env)
  cases b with
  | false=>exact ZK (pl hb) Uj
  | true=>exact ZK (hA X sc N K _ i p elt gens sc2 epos pos y hi hx hb) Uj
theorem Vj {ts:List Expr}{k:Nat}{tp:Pos}{e:Expr}{env:PySem.Env} (h:Qk e=false):swappedStores [.Tuple ts k tp] e env=pure none:=by
 cases e with
 | Tuple=>cases h
 | _=>rfl
theorem Zfh {n:Nat} (ihE:Zr G F n) {X:Cx}{sc:Scope}{N:List Str} (K:CxtS X G F sc N) {c:CS}{x y:Str}{e:Expr}{p p2 tp pos:Pos}{ctx:Nat} (h:og ((Y5 e||Qk e)=false) (o3 (fun i j c=>og (i≠j) (some (CS.set2 i j c))) (N.idxOf? x) (N.idxOf? y) (cE G n sc N e)).join=some c):PS X (.Assign [.Tuple [.Name x p,.Name y p2] ctx tp] e pos) (tS X.K (ex F c)):=by
 refine XJ h fun hc h=>j_e h fun h=>Wn (P:=fun o=>o=some c→PS X _ (tS X.K (ex F c))) h (fun i j ce hi hj hx h=>XJ h fun _ h=>?_) rfl
 cases h
 rw [Bool.or_eq_false_iff] at hc
 exact ZK (ps_asg (ihE X sc N K.toCxt _ ce hx).pe (pg_tup K.calm (pgs_cons (Yw K hi) (pgs_cons (Yw K hj) pgs_nil))) (Xz hc.1) (Vj hc.2)) Zcp
theorem Zfi {n:Nat} (ihE:Zr G F n) {X:Cx}{sc:Scope}{N:List Str} (K:CxtS X G F sc N) {c:CS}{x y z:Str}{e:Expr}{p p2 p3 tp pos:Pos}{ctx:Nat} (h:og ((Y5 e||Qk e)=false) (o3 (fun i j (p:Nat×CE)=>CS.set3 i j p.1 p.2) (N.idxOf? x) (N.idxOf? y) (o2 Prod.mk (N.idxOf? z) (cE G n sc N e)))=some c):PS X (.Assign [.Tuple [.Name x p,.Name y p2,.Name z p3] ctx tp] e pos) (tS X.K (ex F c)):=by
 refine XJ h fun hc h=>Wn (P:=fun c=>PS X _ (tS X.K (ex F c))) h fun i j q hi hj hq=>Yf (P:=fun q=>PS X _ (tS X.K (ex F (.set3 i j q.1 q.2)))) hq fun l ce hl hx=>?_
 rw [Bool.or_eq_false_iff] at hc
 exact ZK (ps_asg (ihE X sc N K.toCxt _ ce hx).pe (pg_tup K.calm (pgs_cons (Yw K hi) (pgs_cons (Yw K hj) (pgs_cons (Yw K hl) pgs_nil)))) (Xz hc.1) (Vj hc.2)) Zcq
theorem Zg4 {n:Nat} (ihE:Zr G F n) {X:Cx}{sc:Scope}{N:List Str} (K:CxtS X G F sc N) {c:CS}{f:Str}{fp cp pos:Pos}{as:List Expr}{kw:List Keyword} (h:(cE G n sc N (.Call (.Name f fp) as kw cp)).map CS.act=some c):PS X (.Expr (.Call (.Name f fp) as kw cp) pos) (tS X.K (ex F c)):=by
 obtain ⟨ce,hx,rfl⟩:=Option.map_eq_some_iff.mp h
 exact ZK (ps_expr (ihE X sc N K.toCxt _ ce hx).pe rfl) Zd6
theorem Zg7 {n:Nat} (ihE:Zr G F n) {X:Cx}{sc:Scope}{N:List Str} (K:CxtS X G F sc N) {c:CS}{x:Str}{k e:Expr}{p q pos:Pos} (h:Zh7 sc N x k e (cE G n sc N)=some c):PS X (.Assign [.Subscript (.Name x p) k q] e pos) (tS X.K (ex F c)):=
 XJ h fun hc h=>by
 cases hp:ZfJ k with
 | some ab=>
  cases hp
 | none=>
 rw [hp] at h
 exact Wn (P:=fun c=>PS X _ (tS X.K (ex F c))) h fun _ ck y hi hck hx=>ZK (ps_asg (ihE X sc N K.toCxt _ y hx).pe (pg_sub (ZcZ K.toCxt hc.2.2 hi) (ihE X sc N K.toCxt _ ck hck).pe set_list (Q4 (Zf hck))) (Xz hc.1) JI) Zeg
theorem Zg8 {n:Nat} (ihE:Zr G F n) {X:Cx}{sc:Scope}{N:List Str} (K:CxtS X G F sc N) {c:CS}{e:Expr}{pos:Pos} (h:(cE G n sc N e).map CS.ret=some c):PS X (.Return (some e) pos) (tS X.K (ex F c)):=
 Ux (P:=fun c=>PS X _ (tS X.K (ex F c))) h fun x q=>ZK (ps_ret (ihE X sc N K.toCxt _ x q).pe) Zeh
theorem Zid {n:Nat} (ihE:Zr G F n) (ihS:Ya G F n) {X:Cx}{sc:Scope}{N:List Str} (K:CxtS X G F sc N) {c:CS}{e:Expr}{a b:List Stmt}{pos:Pos} (h:o3 CS.ite (cE G n sc N e) (cSs G n sc N a) (cSs G n sc N b)=some c):PS X (.If e a b pos) (tS X.K (ex F c)):=
 Wn (P:=fun c=>PS X _ (tS X.K (ex F c))) h fun cc ca cb hc ha hb=>ZK (ps_if (ihE X sc N K.toCxt _ cc hc).pt (ihS X sc N K _ ca ha) (ihS X sc N K _ cb hb)) Zeb
theorem Zbq {P:Program}{w:World}{K:PySem.W.Frag}{tg:Expr} (it:Addr) (lo c:Int) (n:Nat):Turn P w K tg (Its lo c n) [it] it (fun i h=>IsRangeIter h it (lo+(i:Nat) * c) ((n:Int) - (i:Nat)) c) where
 mem:=by simp
 obj:=fun i h st b hb=>by
  have e:b=it:=by simpa using hb
  subst e
  exact ⟨_,st,fun v z=>by
   have z':Data.fields _=Data.cell v:=z
   cases z'⟩
 keep:=fun i h h' st k=>k it (by simp) _ st
 item:=by
  intro X hP hw hK hc i pins s σ H E I hf st hg
  subst hP hw hK
  obtain ⟨f0,f1,f2,f3,f4,f5⟩:=hf it (by simp)
  have W:=Walks.range (prog:=X.prog) (w:=X.w) (I.ok.hd hc) it lo c n
  refine W.item i s _ _ hg st fun v h' tk hv st' kk=>?_
  obtain ⟨t,rfl⟩:=hv
  have I1:L2.Inv X pins σ H { s with heap:=h',toks:=tk }:=I.turned (fun b o hb e=>kk b o (by simpa using hb) e) f0 f1 f3 f4 f5
  exact ⟨_,rfl,go_of (s:={ s with heap:=h',toks:=tk }) (n := "range_iterator") st' rfl rfl (by decide) ⟨.int (lo+i * c),H,I1,⟨t,rfl⟩,⟨rfl,rfl⟩,st',fun b hb=>(hf b hb).1⟩⟩
 done:=by
  intro X hP hw hK hc i pins s σ H E I hf st hg
  subst hP hw hK
  obtain ⟨f0,f1,f2,f3,f4,f5⟩:=hf it (by simp)
  exact wpAny_pyNext_range_end (I.ok.hd hc) st (by have:n≤i:=hg; omega) fun h' eb=>⟨rfl,I.turned (t':=s.toks) (fun b o hb e=>eb b o hb e) f0 f1 f3 f4 f5⟩
 self:=fun _ _ _ _ _ st h=>wpAny_pyIter_rangeiter st h
theorem Wg {a b c:Int} (h:Zs a b c=true):((Zw a b c:Nat):Int)=Builtin.Range.rangeSize a b c∧Builtin.Range.small a b c=true∧c≠0∧c.natAbs < 1073741824:=by
 have h:=of_decide_eq_true h
 obtain ⟨⟨h1,h2⟩,⟨h3,h4⟩,h5⟩:=h
 unfold Zw Builtin.Range.small Builtin.Range.rangeSize
 rcases h5 with rfl | rfl | rfl | rfl | rfl
 all_goals
  simp only [Builtin.Range.rangeFitsLong,Bool.and_eq_true,Bool.or_eq_true,decide_eq_true_eq,beq_iff_eq,gt_iff_lt,Int.neg_neg,Int.ediv_one]
  refine ⟨?_,?_,by decide,by decide⟩
  ·split
   ·split<;>omega
   ·split<;>omega
  ·refine ⟨⟨by omega,?_⟩,.inr ?_⟩
   ·constructor
    ·repeat' split
     all_goals omega
    ·repeat' split
     all_goals omega
   ·simp
    omega
theorem VT {X:Cx}{tg:Expr}{pins:List (Addr×Obj)}{σ:L2.St}{H:Hp}{s:Shared}{R:It→Hp→Prop}{E:Value→Shared→Prop}{lo hi c:Int}{t u v:Tok}{tk:Nat} (I:L2.Inv X pins σ H s) (ok:Zs lo hi c=true)
  (q:R (Its lo c (Zw lo hi c)) H):wpAny (model X.prog X.w) X.A (pyIter (.ref s.heap.objs.size)) (PIE X pins σ tg R) E { s with heap:=s.heap.push { cls:=.type "range",data:=.fields #[.int lo t,.int hi u,.int c v] },toks:=tk }:=by
 obtain ⟨z1,z2,_,_⟩:=Wg ok
 refine wpAny_pyIter_range (IsRange.new ..) z2 ?_
 have I1:L2.Inv X pins σ H { s with heap:=s.heap.push { cls:=.type "range",data:=.fields #[.int lo t,.int hi u,.int c v] },toks:=tk }:=I.kept fun b o e=>Heap.get?_push_of_some _ e
 refine ⟨(s.heap.push { cls:=.type "range",data:=.fields #[.int lo t,.int hi u,.int c v] }).objs.size,[(s.heap.push { cls:=.type "range",data:=.fields #[.int lo t,.int hi u,.int c v] }).objs.size],_,_,H,rfl,
  I1.kept (t':=tk) fun b o e=>Heap.get?_push_of_some _ e,Zbq _ lo c (Zw lo hi c),?_,fun b hb=>?_,q⟩
 ·have e1:lo+((0:Nat):Int) * c=lo:=by simp
  have e2:((Zw lo hi c:Nat):Int) - ((0:Nat):Int)=Builtin.Range.rangeSize lo hi c:=by rw [z1]; simp
  show IsRangeIter _ _ (lo+((0:Nat):Int) * c) (((Zw lo hi c:Nat):Int) - ((0:Nat):Int)) c
  rw [e1,e2]
  exact Heap.get?_push_size _ rfl
 ·have e:b=(s.heap.push { cls:=.type "range",data:=.fields #[.int lo t,.int hi u,.int c v] }).objs.size:=by simpa using hb
  subst e
  exact I1.fpOk (Nat.le_refl _) (I1.hok.fresh (Nat.le_refl _))
theorem Zbg {X:Cx}{tg:Expr}{as:List Expr}{ta:TA}{p pos:Pos} (hg:Gl X "range") (hm:X.mg "range"=none) (ha:PA X as ta) (hp:as.all Zi=true) (hl:(∃ a b,as=[a,b])∨∃ a b c,as=[a,b,c]):PI X tg (.Call (.Name "range" p) as [] pos) (ZfH ta):=by
 intro pins s σ H R I h
 have fin:∀ {us:List Value}{s1:Shared}{vs:List V}{H1:Hp},L2.Inv X pins σ H1 s1→Vals vs us→(∃ (i j c:Int),(vs=[.int i,.int j]∧c=1∨vs=[.int i,.int j,.int c])∧Zs i j c=true∧R (Its i c (Zw i j c)) H1)→
   wpAny (model X.prog X.w) X.A (call (.type "range") us) (fun v s2=>wpAny (model X.prog X.w) X.A (pyIter v) (PIE X pins σ tg R) X.xe s2) X.xe s1:=fun {us s1 vs H1} I1 r1 q1=>by
  obtain ⟨i,j,c,e,ok,q⟩:=q1
  rcases e with ⟨rfl,rfl⟩ | rfl
  ·cases r1 with
   | cons r rr=>
    cases rr with
    | cons r' rr=>
     cases rr
     obtain ⟨t,rfl⟩:=r
     obtain ⟨t',rfl⟩:=r'
     exact call_range_2 (VT I1 ok q)
  ·cases r1 with
   | cons r rr=>
    cases rr with
    | cons r' rr=>
     cases rr with
     | cons r2 rr=>
      cases rr
      obtain ⟨t,rfl⟩:=r
      obtain ⟨t',rfl⟩:=r'
      obtain ⟨t2,rfl⟩:=r2
      obtain ⟨_,_,z3,z4⟩:=Wg ok
      exact call_range_3 z3 (VT I1 ok q) (.inl (PyProof.noPylong_small z4))
 rcases hl with ⟨a,b,rfl⟩ | ⟨a,b,c,rfl⟩
 ·rw [List.all_cons,List.all_cons,Bool.and_eq_true,Bool.and_eq_true] at hp
  have hs2:starEach [b] X.env=[(false,eval b X.env)]:=Zd hp.2.1
  have hs:starEach [a,b] X.env=[(false,eval a X.env),(false,eval b X.env)]:=by rw [Zd hp.1,hs2]
  exact Call_ (ld_blt I hg hm boot_range (PyProof.Rows.callWith_type1 (thn (ha pos pins s σ H _ I h) fun us s1 ⟨vs,H1,I1,r1,q1⟩=>fin I1 r1 q1) (by rw [hs,hs2]) (by rw [hs2]; rfl)))
 ·rw [List.all_cons,List.all_cons,List.all_cons,Bool.and_eq_true,Bool.and_eq_true,Bool.and_eq_true] at hp
  have hs3:starEach [c] X.env=[(false,eval c X.env)]:=Zd hp.2.2.1
  have hs2:starEach [b,c] X.env=[(false,eval b X.env),(false,eval c X.env)]:=by rw [Zd hp.2.1,hs3]
  have hs:starEach [a,b,c] X.env=[(false,eval a X.env),(false,eval b X.env),(false,eval c X.env)]:=by rw [Zd hp.1,hs2]
  exact Call_ (ld_blt I hg hm boot_range (PyProof.Rows.callWith_type1 (thn (ha pos pins s σ H _ I h) fun us s1 ⟨vs,H1,I1,r1,q1⟩=>fin I1 r1 q1) (by rw [hs,hs2]) (by rw [hs2]; rfl)))
theorem Wo {X:Cx}{sc:Scope}{N:List Str}{it:Expr}{as:List Expr} (K:Cxt X G F sc N) (h:Xe G sc it=some as):∃ p pos,it=.Call (.Name "range" p) as [] pos∧Gl X "range"∧X.mg "range"=none∧((∃ a b,as=[a,b])∨∃ a b c,as=[a,b,c]):=by
 obtain ⟨bs,h1,h2⟩:=Option.bind_eq_some_iff.mp h
 obtain ⟨p,pos,rfl,hg,hm⟩:=WR K h1
 refine XJ h2 fun hl h3=>?_
 cases h3
 refine ⟨p,pos,rfl,hg,hm,?_⟩
 cases as with
 | nil=>rcases hl with hl | hl<;>cases hl
 | cons a as=>cases as with
  | nil=>rcases hl with hl | hl<;>cases hl
  | cons b as=>cases as with
   | nil=>exact .inl ⟨_,_,rfl⟩
   | cons c as=>cases as with
    | nil=>exact .inr ⟨_,_,_,rfl⟩
    | cons _ _=>rcases hl with hl | hl<;>cases hl
theorem Zfc {n:Nat} (ihA:YA G F n) (ihS:Ya G F n) {X:Cx}{sc:Scope}{N:List Str} (K:CxtS X G F sc N) {c:CS}{x:Str}{it:Expr}{as:List Expr}{b:List Stmt}{p pos:Pos} (hr:Xe G sc it=some as) (h:o3 CS.for3 (N.idxOf? x) (cEs G n sc N as) (cSs G n sc N b)=some c):PS X (.For (.Name x p) it b [] pos) (tS X.K (ex F c)):=by
 refine Wn (P:=fun c=>PS X _ (tS X.K (ex F c))) h fun i ci cb hi hc hb=>?_
 obtain ⟨p1,p2,rfl,hg,hm,hl⟩:=Wo K.toCxt hr
 obtain ⟨A,_,pl,_⟩:=ihA X sc N K.toCxt as ci hc
 exact ZK (ps_for (passes K) K.calm (Zbg hg hm A pl hl) (Yw K hi) (ihS X sc N K _ cb hb) (Z3 rfl)) Zch
theorem Zfa {n:Nat} (ihE:Zr G F n) (ihS:Ya G F n) {X:Cx}{sc:Scope}{N:List Str} (K:CxtS X G F sc N) {c:CS}{x:Str}{it:Expr}{b:List Stmt}{p pos:Pos} (h:(match Z1 G sc it with
   | some a=>o3 (fun i c b=>CS.for1 i true c b) (N.idxOf? x) (cE G n sc N a) (cSs G n sc N b)
   | none=>o3 (fun i c b=>CS.for1 i false c b) (N.idxOf? x) (cE G n sc N it) (cSs G n sc N b))=some c):PS X (.For (.Name x p) it b [] pos) (tS X.K (ex F c)):=by
 cases ha:Z1 G sc it with
 | some a=>
  rw [ha] at h
  refine Wn (P:=fun c=>PS X _ (tS X.K (ex F c))) h fun i ci cb hi q hb=>?_
  obtain ⟨hp,pi⟩:=Wd K.toCxt ha (Zf q) (ihE X sc N K.toCxt a _ q).pe
  exact ZK (ps_for (passes K) K.calm pi (Yw K hi) (ihS X sc N K _ cb hb) (Z3 hp)) Zck
 | none=>
  rw [ha] at h
  refine Wn (P:=fun c=>PS X _ (tS X.K (ex F c))) h fun i ci cb hi q hb=>?_
  have A:=(ihE X sc N K.toCxt _ _ q).pe
  have hf:=Z3 (env:=X.env) (Zf q)
  exact ZK (ZfL (ps_for (passes K) K.calm (pi_tup A) (Yw K hi) (ihS X sc N K _ cb hb) hf) (ps_for (passes K) K.calm (pi_list A) (Yw K hi) (ihS X sc N K _ cb hb) hf)) Zcj
theorem Qi {X:Cx}{pins:List (Addr×Obj)}{σ:L2.St}{H:Hp}{s:Shared}{h':Heap}{t':Nat}{wr:List Addr} (I:L2.Inv X pins σ H s) (hf:∀ b∈wr,FpOk X pins H b)
  (k:∀ b o,b∉wr→s.heap.get? b=some o→h'.get? b=some o):L2.Inv X pins σ H { s with heap:=h',toks:=t' }:=by
 have nw:∀ b u,H b=some u→b∉wr:=fun b u e hb=>by have:=(hf b hb).1; rw [e] at this; cases this
 refine I.step (g':=s.gens) (d':=s.drawn) (ch:=wr) (fun b hb=>⟨(hf b hb).2.2.2.1,(hf b hb).2.1,(hf b hb).2.2.2.2.1,(hf b hb).2.2.2.2.2⟩) (fun b o _ _ hc e _=>k b o hc e) (fun b o _ _ hc e _=>⟨o.slots,k b o hc e⟩)
  (fun b o _ e n=>n) (fun b o hc e=>⟨o,k b o hc e⟩) (fun b ys e=>e) (fun b o u e=>e) (fun b ps e=>⟨#[],by rw [e]; simp⟩) (fun m hm=>?_) (fun b u e=>?_) I.bare
 ·obtain ⟨o,es,ep,ho,r⟩:=hm
  exact ⟨o,es,ep,k _ o (fun z=>(hf _ z).2.1 rfl) ho,r⟩
 ·refine (I.hok b u e).stay (fun c v hc q=>k c v ?_ q) (fun c q=>q) fun c ys q=>q
  rcases hc with z | z
  ·rw [z]; exact nw b u e
  ·exact nw c _ z
theorem Vr {X:Cx}{pins:List (Addr×Obj)}{σ:L2.St}{H:Hp}{s:Shared}{h':Heap}{t':Nat}{wr:List Addr}{T:Addr}{xs:List V} (I:L2.Inv X pins σ H s) (hf:∀ b∈wr,FpOk X pins H b)
  (k:∀ b o,b∉wr→s.heap.get? b=some o→h'.get? b=some o) (hT:s.heap.objs.size≤T) (new:ObjOk X.prog X.w (upd H T (.tup xs)) h' T (.tup xs)):L2.Inv X pins σ (upd H T (.tup xs)) { s with heap:=h',toks:=t' }:=by
 have hn:H T=none:=I.hok.fresh hT
 have nT:∀ b u,s.heap.get? b=some u→b≠T:=fun b u e=>Nat.ne_of_lt (Nat.lt_of_lt_of_le (Heap.lt_size e) hT)
 have nw:∀ b u,H b=some u→b∉wr:=fun b u e hb=>by have:=(hf b hb).1; rw [e] at this; cases this
 refine I.step (g':=s.gens) (d':=s.drawn) (ch:=wr) (fun b hb=>⟨(hf b hb).2.2.2.1,(hf b hb).2.1,(hf b hb).2.2.2.2.1,(hf b hb).2.2.2.2.2⟩) (fun b o _ _ hc e _=>k b o hc e) (fun b o _ _ hc e _=>⟨o.slots,k b o hc e⟩)
  (fun b o _ e n=>by rw [upd_ne (nT b o e)]; exact n) (fun b o hc e=>⟨o,k b o hc e⟩) (fun b ys e=>by rw [upd_ne (ne_of_none e hn)]; exact e) (fun b o u e=>by rw [upd_ne (ne_of_none e hn)]; exact e) (fun b ps e=>⟨#[],by rw [upd_ne (ne_of_none e hn),e]; simp⟩) (fun m hm=>?_) (fun b u e=>?_) I.bare
 ·obtain ⟨o,es,ep,ho,r⟩:=hm
  exact ⟨o,es,ep,k _ o (fun z=>(hf _ z).2.1 rfl) ho,r⟩
 ·by_cases hb:b=T
  ·subst hb; rw [upd_same] at e; cases e; exact new
  ·rw [upd_ne hb] at e
   refine (I.hok b u e).stay (fun c v hc q=>k c v ?_ q) (fun c q=>by rw [upd_ne (ne_of_none q hn)]; exact q) fun c ys q=>by rw [upd_ne (ne_of_none q hn)]; exact q
   rcases hc with z | z
   ·rw [z]; exact nw b u e
   ·exact nw c _ z
theorem Zfk {X:Cx}{pins:List (Addr×Obj)}{σ:L2.St}{H:Hp}{s:Shared}{a:Addr}{xs ys:List V} (I:L2.Inv X pins σ H s) (h1:SqL X.K H a xs) (h2:SqL X.K H a ys):ys=xs:=by
 obtain ⟨i1,r1,⟨o1,n1,g1,_,_,d1⟩,_⟩:=I.list h1
 obtain ⟨i2,r2,⟨o2,n2,g2,_,_,d2⟩,_⟩:=I.list h2
 rw [g1] at g2
 cases g2
 rw [d1] at d2
 have e:i1.toArray=i2.toArray:=by injection d2
 have e:i1=i2:=by simpa using e
 subst e
 exact Vals.inj r2 r1
theorem ZcK {a b:String}{p:Prop} (h:Value.type a=Value.type b) (n:¬a=b):p:=by
 injection h with h
 exact absurd h n
structure ZD (z TI TO i1 i2:Addr):Prop where
 a:TI≠z
 b:TO≠z
 c:i1≠z
 d:i2≠z
 e:TI≠TO
 f:TI≠i1
 g:TI≠i2
 h:TO≠i1
 i:TO≠i2
 j:i1≠i2
structure ZSt (z TI TO i1 i2 a b:Addr) (i:Nat) (h:Heap):Prop where
 hz:IsZip h z TI TO .none
 hI:IsPair h TI (.ref i1) (.ref i2)
 hO:∃ u v,IsPair h TO u v
 h1:h.IsListIter i1 a i
 h2:h.IsListIter i2 b i
section
variable {prog:Program}{w:World}{A:Around}{E:Value→Shared→Prop}{s:Shared}
open Sem (wp)
open AutoSeq1 (wpAny_loadPart')
theorem Qw {it l:Addr}{i:Nat}{items:Array Value}{Q:Value→Shared→Prop} (hh:A.handled=none) (hit:s.heap.IsTupleIter it l i) (hl:s.heap.IsTuple l items)
  (hQ:∀ x h',items[i]?=some x→h'.IsTupleIter it l (i+1)→Heap.SameBut it s.heap h'→Q x { s with heap:=h' })
  (hE:items[i]?=none→∀ h' e,Heap.ExtBut it s.heap h'→(∃ o,h'.get? e=some o∧o.cls=.type "StopIteration")→E (.ref e) { s with heap:=h' }) :
  wpAny (model prog w) A (Builtin.SmallTypes.nextOf (.ref it)) Q E s:=by
 obtain ⟨o,ho,hc,hd⟩:=id hit
 obtain ⟨ol,hol,_,nl,hdl⟩:=hl
 unfold Builtin.SmallTypes.nextOf
 refine wpAny_bind (wpAny_callSpecial?_slot (name:=Str.ofString "__next__") hit.typeIs PySem.F.slot_tuple_iterator_next
  (wpAny_call_entry PySem.F.slot_tuple_iterator_next hit.typeIs PySem.F.entry_tuple_iterator_next ?_ (PySem.F.args_tuple_iterator_next_1 _)))
 show wpAny _ _ (field (.ref it) 0 >>= _) _ _ s
 refine wpAny_bind (wpAny_field ho hd (x:=.ref l) rfl ?_)
 show wpAny _ _ (if (Value.ref l==Value.none)=true then _ else _) _ _ s
 rw [if_neg (show ¬((Value.ref l==Value.none)=true) from Bool.false_ne_true)]
 show wpAny _ _ (field (.ref it) 1 >>= _) _ _ s
 refine wpAny_bind (wpAny_field ho hd (x:=.int i 0) rfl ?_)
 show wpAny _ _ (seqItems? (.ref l) >>= _) _ _ s
 refine wpAny_bind (wpAny_seqItems hol hdl ?_)
 cases hx:items[i]? with
 | some x=>
  simp only [Int.toNat_natCast,hx]
  refine wpAny_bind (wpAny_setField ho hd (by simp) (wpAny_pure ⟨x,rfl,wpAny_pure (hQ _ _ hx ?_ (Heap.SameBut.update ..))⟩))
  exact ⟨_,Heap.get?_update_self _ ho (Obj.isFreed_of_fields (Obj.data_mapFields hd _)),(Obj.cls_mapFields ..).trans hc,by
   rw [Obj.data_mapFields hd]; simp [rawInt]⟩
 | none=>
  simp only [Int.toNat_natCast,hx]
  refine wpAny_bind (wpAny_rule (wpAny_bind (wpAny_setField ho hd (by simp) ?_)))
  show wpAny _ _ (newExc (.type "StopIteration") [] >>= _) _ _ _
  refine wpAny_bind ?_
  simp only [newExc,newTuple]
  refine wpAny_bind (wpAny_newObj_type ?_ (by size_fits))
  refine wpAny_bind (m:=firstArgMember _ _) (wpAny_of_eq (a:=Value.none) (by first | rfl | (simp only [firstArgMember]; rfl)) ?_)
  refine wpAny_newObj_type ?_ (by size_fits)
  simp only [raiseNew]
  refine wpAny_bind (wpAny_handled ?_)
  first | rw [show A.in1.handled=none from hh] | rw [hh]
  refine wpAny_bind (wpAny_pure (wpAny_throw ?_))
  exact hE hx _ _ (((Heap.SameBut.update ..).extBut.push _).push _) ⟨_,Heap.get?_push_size _ rfl,rfl⟩
theorem ZaX (hh:A.handled=none) (it l:Addr) (hne:l≠it) (items:Array Value) :
  Draws prog w A it [it,l] items.size (fun i v=>items[i]?=some v) (fun i h=>h.IsTupleIter it l i∧h.IsTuple l items) where
 live:=fun _ _ st=>let ⟨o,ho,_⟩:=st.1; ⟨o,ho⟩
 frame:=fun _ _ _ st hk=>⟨st.1.at fun o e=>hk it (by simp) o e,st.2.at fun o e=>hk l (by simp) o e⟩
 item:=fun i s Q E hi st hQ=>Qw hh st.1 st.2 (fun x h' e hit' hs'=>hQ x h' s.toks e ⟨hit',st.2.extBut hs'.extBut hne⟩ hs') fun e=>absurd e (by simp [hi])
 done:=fun s Q E st hE=>Qw hh st.1 st.2 (fun x h' e=>absurd e (by simp)) fun _=>hE
theorem W9 (l:Addr) (items:Array Value) (n:Nat) (dct:Option Addr) (sl:Array (Option Value)) :
  Meets (Builtin.«enumerate.__new__» ⟨[.type "enumerate",.ref l],[]⟩) (fun _ R s=>s.heap.get? l=some { cls:=.type "tuple",dict:=dct,data:=.seq items n,slots:=sl } ∧
   R (.ok (.ret (.ref (s.heap.push { cls:=.type "tuple_iterator",data:=.fields #[.ref l,.int 0 0] }).objs.size)))
    { s with heap:=(s.heap.push { cls:=.type "tuple_iterator",data:=.fields #[.ref l,.int 0 0] }).push { cls:=.type "enumerate",data:=.fields #[.none,.bool false,.ref s.heap.objs.size,rawInt 0,.none,.none] } }):=
 .of_wp fun prog w A R s h=>by
  obtain ⟨hp,g,d,tk,os⟩:=s; obtain ⟨hl,h⟩:=h
  have hsub:=sub_enumerate
  have hL:Heap.IsTuple (Shared.heap ⟨hp,g,d,tk,os⟩) l items:=⟨_,hl,rfl,n,rfl⟩
  wp_walk using wpAny_loadPart' hl
  refine wpAny_stack_any fun st=>wpAny_pure ?_
  split
  ·rename_i c _ _ _ _ _
   cases (c==Value.type "enumerate")
   ·wp_walk using wpAny_loadPart' hl,wpAny_pyIter_tuple hL
    exact ⟨_,rfl,h⟩
   ·wp_walk using wpAny_loadPart' hl,wpAny_pyIter_tuple hL
    exact ⟨_,rfl,h⟩
  ·wp_walk using wpAny_loadPart' hl,wpAny_pyIter_tuple hL
   exact ⟨_,rfl,h⟩
theorem Vp {l:Addr}{items:Array Value}{Q:Value→Shared→Prop} (hL:s.heap.IsTuple l items)
  (h:∀ h',IsEnum h' (s.heap.objs.size+1) s.heap.objs.size 0 .none→h'.IsTupleIter s.heap.objs.size l 0→h'.objs.size=s.heap.objs.size+2→
   (∀ b o,s.heap.get? b=some o→h'.get? b=some o)→Q (.ref (s.heap.objs.size+1)) { s with heap:=h' }) :
  wpAny (model prog w) A (call (.type "enumerate") [.ref l]) Q E s:=by
 obtain ⟨⟨c,dct,dt,sl⟩,hl,hc,n,hd⟩:=hL
 replace hc:c=.type "tuple":=hc
 replace hd:dt=.seq items n:=hd
 subst hc hd
 refine callType_new PySem.F.called_enumerate (by decide) (PySem.F.typeCall_enumerate_1 _) (PySem.F.newCall_enumerate_1 _) (fun obj=>PySem.F.args_object_init_2 obj _) PySem.F.entry_enumerate_new
  (W9 l items n dct sl) ⟨hl,?_⟩
 have hz:(s.heap.push { cls:=.type "tuple_iterator",data:=.fields #[.ref l,.int 0 0] }).objs.size=s.heap.objs.size+1:=Heap.size_push ..
 show _∧_
 rw [hz]
 have he:IsEnum ((s.heap.push { cls:=.type "tuple_iterator",data:=.fields #[.ref l,.int 0 0] }).push
   { cls:=.type "enumerate",data:=.fields #[.none,.bool false,.ref s.heap.objs.size,rawInt 0,.none,.none] }) (s.heap.objs.size+1) s.heap.objs.size 0 .none:=by
  have:=Heap.get?_push_size (s.heap.push { cls:=.type "tuple_iterator",data:=.fields #[.ref l,.int 0 0] })
   (o:={ cls:=.type "enumerate",data:=.fields #[.none,.bool false,.ref s.heap.objs.size,rawInt 0,.none,.none] }) rfl
  rw [hz] at this; exact this
 refine ⟨⟨_,he,rfl⟩,h _ he ⟨_,Heap.get?_push_of_some _ (Heap.get?_push_size _ rfl),rfl,rfl⟩ (by rw [Heap.size_push,hz]) fun b o x=>Heap.get?_push_of_some _ (Heap.get?_push_of_some _ x)⟩
end
noncomputable def Ite (sq:Hp→List V→Prop):It:=
 ⟨fun i H=>∃ xs x,sq H xs∧xs[i]?=some x,fun i H v H'=>∃ T x,v=.ref T∧H T=none∧H'=upd H T (.tup [.int (i:Int),x])∧∀ xs,sq H xs→xs[i]?=some x,fun i H=>∃ xs,sq H xs∧xs.length=i⟩
noncomputable def J3 (K:PySem.W.Frag) (ta:TA):TI:=fun σ H R=>ta σ H fun vs H1=>∃ a,vs=[.ref a]∧(((∃ xs,SqL K H1 a xs)∧R (Ite fun H=>SqL K H a) H1)∨((∃ xs,SqT K H1 a xs)∧R (Ite fun H=>SqT K H a) H1))
theorem VX {P:Program}{w:World}{K:PySem.W.Frag}{elts:List Expr}{kk:Nat}{pos:Pos}{sq:Hp→List V→Prop}{it1:Nat→Heap→Prop} (e it a:Addr) (d:e≠it)
  (hi:∀ i h,it1 i h→∃ o,h.get? it=some o∧∀ v,o.data≠.cell v) (hk:∀ i h h',it1 i h→(∀ o,h.get? it=some o→h'.get? it=some o)→it1 i h')
  (hD:∀ (X:Cx),X.prog=P→X.w=w→X.K=K→X.calm=true→∀ (pins:List (Addr×Obj)) (s:Shared) (σ:L2.St) (H:Hp) (i:Nat) (xs:List V),L2.Inv X pins σ H s→(∃ old,IsEnum s.heap e it i old)→it1 i s.heap→sq H xs→
   (∀ ys,sq H ys→ys=xs)∧∃ (its:List Value) (ob:Heap→Prop),Vals xs its∧a≠e∧ob s.heap∧Draws P w X.A.in1 it [it,a] its.toArray.size (fun i v=>its.toArray[i]?=some v) (fun i h=>it1 i h∧ob h)) :
  Turn P w K (.Tuple elts kk pos) (Ite sq) [e,it] e (fun i h=>(∃ old,IsEnum h e it i old)∧it1 i h) where
 mem:=by simp
 obj:=fun i h st c hc=>by
  obtain ⟨⟨old,he⟩,h1⟩:=st
  simp only [List.mem_cons,List.not_mem_nil,or_false] at hc
  rcases hc with rfl | rfl
  ·exact ⟨_,he,fun v q=>by cases (show Data.fields _=Data.cell v from q)⟩
  ·exact hi i h h1
 keep:=fun i h h' st k=>by
  obtain ⟨⟨old,he⟩,h1⟩:=st
  exact ⟨⟨old,k e (by simp) _ he⟩,hk i h h' h1 fun o g=>k it (by simp) o g⟩
 item:=by
  intro X hP hw hK hc i pins s σ H E I hf st hg
  obtain ⟨xs,x,hs,ex⟩:=hg
  obtain ⟨hone,its,ob,r,ne,o0,D⟩:=hD X hP hw hK hc pins s σ H i xs I st.1 st.2 hs
  subst hP hw hK
  have W:=WalksT.enumerateD D e d (by simp only [List.mem_cons,List.not_mem_nil,or_false]; exact fun q=>q.elim d fun q=>ne q.symm) (by simp)
  have l1:=r.length
  have ix:i < xs.length:=(List.getElem?_eq_some_iff.mp ex).1
  refine W.item i s _ _ (by simp; omega) ⟨st.1,st.2,o0⟩ fun T vals h' tk hv hT tup mid k1=>?_
  obtain ⟨t,u,eu,rfl⟩:=hv
  refine ⟨.ref T,rfl,W.go elts kk pos i T _ _ _ mid fun h2' st2 k2=>?_⟩
  have nT:=W.apart i T h' mid
  have ru:RelV x u:=by
   obtain ⟨u',e1,e2⟩:=r.get ex
   have:its[i]?=some u:=by simpa using eu
   rw [this] at e1; cases e1; exact e2
  have tup2:h2'.IsTuple T #[.int i t,u]:=tup.at fun o g=>k2 T o nT g
  have I2:L2.Inv X pins σ (upd H T (.tup [.int (i:Int),x])) { s with heap:=h2',toks:=tk }:=Vr (wr:=[e,it]) I hf (fun c o hcn g=>k2 c o hcn (k1 c o hcn g)) hT ⟨show 2≤sizeLine by decide,[.int i t,u],.cons ⟨t,rfl⟩ (.cons ru .nil),tup2⟩
  refine ⟨.ref T,_,I2,rfl,⟨T,x,rfl,I.hok.fresh hT,rfl,fun xs' q=>by rw [hone _ q]; exact ex⟩,⟨st2.1,st2.2.1⟩,fun c hcm=>?_⟩
  have:c≠T:=fun q=>by
   have lt:∀ {o},s.heap.get? c=some o→False:=fun g=>absurd (Heap.lt_size g) (Nat.not_lt.mpr (by rw [q]; exact hT))
   obtain ⟨⟨_,he⟩,h1⟩:=st
   obtain ⟨_,g,_⟩:=hi _ _ h1
   simp only [List.mem_cons,List.not_mem_nil,or_false] at hcm
   rcases hcm with rfl | rfl
   ·exact lt he
   ·exact lt g
  rw [upd_ne this]
  exact (hf c hcm).1
 done:=by
  intro X hP hw hK hc i pins s σ H E I hf st hg
  obtain ⟨xs,hs,hle⟩:=hg
  obtain ⟨hone,its,ob,r,ne,o0,D⟩:=hD X hP hw hK hc pins s σ H i xs I st.1 st.2 hs
  subst hP hw hK
  have W:=WalksT.enumerateD D e d (by simp only [List.mem_cons,List.not_mem_nil,or_false]; exact fun q=>q.elim d fun q=>ne q.symm) (by simp)
  have l1:=r.length
  have e1:i=its.toArray.size:=by simp; omega
  subst e1
  exact W.done s _ _ ⟨st.1,st.2,o0⟩ fun h' tk k=>⟨rfl,Qi (wr:=[e,it]) I hf k⟩
 self:=fun _ _ _ _ _ st h=>let ⟨⟨_,he⟩,_⟩:=st; wpAny_pyIter_enum he h
theorem Qx {h:Heap}{e it:Addr}{i:Int}{old:Value}{a:Addr}{o:Obj}{n:String} (he:IsEnum h e it i old) (g:h.get? a=some o) (c:o.cls=.type n) (hn:¬n = "enumerate"):a≠e:=fun q=>by
 subst q
 have he:h.get? a=some _:=he
 rw [g] at he; cases he; exact ZcK c fun z=>hn z.symm
theorem Qy {h:Heap}{a b:Addr}{o u:Obj}{n m:String} (g:h.get? a=some o) (c:o.cls=.type n) (g2:h.get? b=some u) (c2:u.cls=.type m) (hn:¬n=m):a≠b:=fun q=>by
 subst q
 rw [g] at g2; cases g2; rw [c] at c2; exact ZcK c2 hn
theorem ZdO:bootBuiltins "enumerate"=some (.type "enumerate"):=by decide +kernel
theorem ZeN {X:Cx}{elts:List Expr}{kk:Nat}{tp:Pos}{x:Expr}{ta:TA}{p pos:Pos} (hg:Gl X "enumerate") (hm:X.mg "enumerate"=none) (ha:PA X [x] ta) (hs:starEach [x] X.env=[(false,eval x X.env)]):PI X (.Tuple elts kk tp) (.Call (.Name "enumerate" p) [x] [] pos) (J3 X.K ta):=by
 intro pins s σ H R I h
 refine Call_ (ld_blt I hg hm ZdO (PyProof.Rows.callWith_type1 (thn (ha pos pins s σ H _ I h) fun us s1 ⟨vs,H1,I1,r1,q1⟩=>?_) hs rfl))
 obtain ⟨a,rfl,q⟩:=q1
 have fo:∀ c∈[s1.heap.objs.size+1,s1.heap.objs.size],FpOk X pins H1 c:=fun c hcm=>by
  have hc:s1.heap.objs.size≤c:=by
   simp only [List.mem_cons,List.not_mem_nil,or_false] at hcm
   rcases hcm with rfl | rfl
   ·exact Nat.le_add_right _ _
   ·exact Nat.le_refl _
  exact I1.fpOk hc (I1.hok.fresh hc)
 cases r1 with
 | cons r rr=>
  cases rr
  cases r
  rcases q with ⟨⟨xs,sq⟩,q⟩ | ⟨⟨xs,sq⟩,q⟩
  ·obtain ⟨its,_,p1,_⟩:=I1.list sq
   refine call_enumerate_list p1.isList fun h' he h1 hsz k=>wpAny_pyIter_enum he ?_
   refine ⟨s1.heap.objs.size+1,[s1.heap.objs.size+1,s1.heap.objs.size],_,_,H1,rfl,I1.kept (t':=s1.toks) k,VX (it1:=fun i h=>h.IsListIter _ a i) _ _ a (Nat.succ_ne_self _) (fun i h st=>?_) (fun i h h' st k=>st.at k) (fun X hP hw hK hc pins s σ H i xs I he h1 sq=>?_),⟨⟨_,he⟩,h1⟩,fo,q⟩
   ·obtain ⟨o,g,_,f⟩:=st
    exact ⟨o,g,fun v q=>by rw [f] at q; cases q⟩
   ·rw [←hP,←hw]
    rw [←hK] at sq ⊢
    obtain ⟨its,r,p,_⟩:=I.list sq
    obtain ⟨⟨_,he⟩,⟨o2,g2,c2,_⟩⟩:=And.intro he h1
    obtain ⟨o,g,c,_⟩:=p.isList
    exact ⟨fun ys hy=>Zfk I sq hy,its,fun h=>h.IsList a its.toArray,r,Qx he g c (by decide),p.isList,Draws.list (show X.A.in1.handled=none from I.ok.hd hc) _ a (Qy g c g2 c2 (by decide)) its.toArray⟩
  ·obtain ⟨its,_,p1,_⟩:=I1.tuple sq
   refine Vp (show s1.heap.IsTuple a its.toArray from p1) fun h' he h1 hsz k=>wpAny_pyIter_enum he ?_
   refine ⟨s1.heap.objs.size+1,[s1.heap.objs.size+1,s1.heap.objs.size],_,_,H1,rfl,I1.kept (t':=s1.toks) k,VX (it1:=fun i h=>h.IsTupleIter _ a i) _ _ a (Nat.succ_ne_self _) (fun i h st=>?_) (fun i h h' st k=>st.at k) (fun X hP hw hK hc pins s σ H i xs I he h1 sq=>?_),⟨⟨_,he⟩,h1⟩,fo,q⟩
   ·obtain ⟨o,g,_,f⟩:=st
    exact ⟨o,g,fun v q=>by rw [f] at q; cases q⟩
   ·rw [←hP,←hw]
    rw [←hK] at sq ⊢
    obtain ⟨its,r,p,_⟩:=I.tuple sq
    have p:s.heap.IsTuple a its.toArray:=p
    obtain ⟨⟨_,he⟩,⟨o2,g2,c2,_⟩⟩:=And.intro he h1
    obtain ⟨o,g,c,_⟩:=id p
    exact ⟨fun ys hy=>I.tuple_inj hy sq,its,fun h=>h.IsTuple a its.toArray,r,Qx he g c (by decide),p,ZaX (show X.A.in1.handled=none from I.ok.hd hc) _ a (Qy g c g2 c2 (by decide)) its.toArray⟩
theorem VD:∀ {xs:List D}{k i:Nat}{x:D},xs[i]?=some x→(VC k xs)[i]?=some (.int ((k+i:Nat):Int),x)
 | [],_,_,_,h=>nomatch h
 | x :: xs,k,0,_,h=>by cases h; rfl
 | x :: xs,k,i+1,y,h=>by
  show (VC (k+1) xs)[i]?=_
  rw [VD (show xs[i]?=some y from h),show k+1+i=k+(i+1) by omega]
theorem XV:∀ {xs:List D}{k:Nat},(VC k xs).length=xs.length
 | [],_=>rfl
 | x :: xs,k=>congrArg (·+1) XV
theorem Zci {K:PySem.W.Frag}{fi:Ev}{f:Ex}{i j:Nat} (E:Ends) (σ:L2.St) (H:Hp) (h:tS K (VH i j fi f) E σ H):tFor (J3 K (tCons (tE K fi) tNil)) (gTup K 2 (gCons (gName i) (gCons (gName j) gNil))) (tS K f) E σ H:=by
 obtain ⟨ad,ρ,st,r,st',En,S,e,p⟩:=Z7 h
 unfold VH at e
 split at e
 ·rename_i x st1 q1
  split at e
  ·rename_i xs ok hw
   have core:∀ {sq:Hp→List V→Prop}{ad1:List Addr}{H1:Hp} (Good:List Addr→Hp→Prop),(∀ ad H ad' H',Ext ad H ad' H'→Good ad H→Good ad' H')→Good ad1 H1→
     (∀ ad H st,Good ad H→StOk K ad H st→ok st→∃ vs,Dens K ad H vs xs∧sq H vs)→Ext ad H ad1 H1→StOk K ad1 H1 st1→Zhr K f i j (Ite sq) E σ H1:=fun Good gm g1 hv x1 S1=>
    ⟨_,⟨_,.mk (Nat.zero_add _) (En.mono x1) S1 g1 e (p.later x1)⟩,Jq gm (fun ad H st g S o=>by
      obtain ⟨vs,rv,sv⟩:=hv ad H st g S o
      exact ⟨vs,sv,by rw [rv.length,XV]⟩) fun k ad H st q g S o hq=>by
      obtain ⟨vs,rv,sv⟩:=hv ad H st g S o
      have hk:k < xs.length:=by rw [←XV (k:=0)]; exact (List.getElem?_eq_some_iff.mp hq).1
      have hg:=List.getElem?_eq_getElem hk
      rw [VD (k:=0) hg,Nat.zero_add] at hq
      cases hq
      obtain ⟨w,ew,dw⟩:=rv.get hg
      exact ⟨_,w,⟨vs,w,sv,ew⟩,.int _,dw,fun x H' ⟨pt,y1,e1,e2,e3,hy⟩=>⟨pt,e1,e2,by have z:=hy vs sv; rw [ew] at z; cases z; exact e3⟩⟩⟩
   refine ⟨ad,ρ,st,x,st1,En,S,q1,fun v ad1 H1 x1 S1 d1=>?_⟩
   cases x with
   | tup ys=>
    cases hw
    obtain ⟨a,vs,rfl,ha,rv⟩:=d1.ofTup
    exact ⟨a,rfl,.inr ⟨⟨vs,ha.sq⟩,core (fun ad H=>TupAt K H a vs∧Dens K ad H vs xs) (fun _ _ _ _ x g=>⟨g.1.mono x,g.2.mono x⟩) ⟨ha,rv⟩ (fun ad H st g _ _=>⟨vs,g.2,g.1.sq⟩) x1 S1⟩⟩
   | lst l=>
    have hw:(match st1[l]? with
     | some c=>some (c.2,fun s=>s[l]?=some c)
     | none=>none)=some (xs,ok):=hw
    cases hc:st1[l]? with
    | none=>rw [hc] at hw; cases hw
    | some c=>
     rw [hc] at hw
     cases hw
     obtain ⟨a,rfl,ha⟩:=d1.ofLst
     obtain ⟨vs,rv,sq⟩:=S1.list ha (show st1[l]?=some (c.1,c.2) from hc)
     exact ⟨a,rfl,.inl ⟨⟨vs,sq⟩,core (fun ad H=>LA ad H l a) (fun _ _ _ _ x g=>g.mono x) ha (fun ad H st g S e=>S.list g (show st[l]?=some (c.1,c.2) from e)) x1 S1⟩⟩
   | _=>cases hw
  ·cases e
 ·cases e
theorem WQ {X:Cx}{sc:Scope}{N:List Str}{it a:Expr}{elts:List Expr}{kk:Nat}{tp:Pos}{x:CE} (K:Cxt X G F sc N) (h:Wp G sc it=some a) (hp:Zi a=true) (A:PE X a (tE X.K (ev F x))):Zi it=true∧PI X (.Tuple elts kk tp) it (J3 X.K (tCons (tE X.K (ev F x)) tNil)):=by
 obtain ⟨as,h1,h2⟩:=Option.bind_eq_some_iff.mp h
 rw [Zai h2] at h1
 obtain ⟨_,_,rfl,hg,hm⟩:=WR K h1
 exact ⟨rfl,ZeN hg hm (pa1 hp A) (Zd hp)⟩
theorem Zfg {n i j:Nat} (ihA:YA G F n) (ihS:Ya G F n) {X:Cx}{sc:Scope}{N:List Str} (K:CxtS X G F sc N) {c:CS}{x y:Str}{it:Expr}{as:List Expr}{b:List Stmt}{p p2 pos tp:Pos}{ctx:Nat} (hi:N.idxOf? x=some i) (hj:N.idxOf? y=some j) (hz:WA G sc it=some as) (h:o2 (CS.forP i j) (cEs G n sc N as) (cSs G n sc N b)=some c):PS X (.For (.Tuple [.Name x p,.Name y p2] ctx tp) it b [] pos) (tS X.K (ex F c)):=by cases hz
theorem Zff {n i j:Nat} (ihE:Zr G F n) (ihS:Ya G F n) {X:Cx}{sc:Scope}{N:List Str} (K:CxtS X G F sc N) {c:CS}{x y:Str}{it e:Expr}{b:List Stmt}{p p2 pos tp:Pos}{ctx:Nat} (hi:N.idxOf? x=some i) (hj:N.idxOf? y=some j) (hz:Wq G sc it=some e) (h:o2 (CS.forE i j) (cE G n sc N e) (cSs G n sc N b)=some c):PS X (.For (.Tuple [.Name x p,.Name y p2] ctx tp) it b [] pos) (tS X.K (ex F c)):=by
 refine Yf (P:=fun c=>PS X _ (tS X.K (ex F c))) h fun ci cb hc hb=>?_
 obtain ⟨pl,A⟩:=WQ (elts:=[.Name x p,.Name y p2]) (kk:=ctx) (tp:=tp) K.toCxt hz (Zf hc) (ihE X sc N K.toCxt _ ci hc).pe
 exact ZK (ps_for (passes K) K.calm A (pg_tup K.calm (pgs_cons (Yw K hi) (pgs_cons (Yw K hj) pgs_nil))) (ihS X sc N K _ cb hb) (Z3 pl)) Zci
theorem Zfd {n:Nat} (ihE:Zr G F n) (ihS:Ya G F n) {X:Cx}{sc:Scope}{N:List Str} (K:CxtS X G F sc N) {c:CS}{x y z:Str}{it:Expr}{b:List Stmt}{p p2 p3 pos tp:Pos}{ctx:Nat} (h:o3 (fun (p:Nat×Nat) (q:Nat×CE) b=>CS.for4 p.1 p.2 q.1 q.2 b) (o2 Prod.mk (N.idxOf? x) (N.idxOf? y)) (o2 Prod.mk (N.idxOf? z) (cE G n sc N it)) (cSs G n sc N b)=some c):PS X (.For (.Tuple [.Name x p,.Name y p2,.Name z p3] ctx tp) it b [] pos) (tS X.K (ex F c)):=
 Wn (P:=fun c=>PS X _ (tS X.K (ex F c))) h fun u v cb hu hv hb=>Yf (P:=fun u:Nat×Nat=>PS X _ (tS X.K (ex F (.for4 u.1 u.2 v.1 v.2 cb)))) hu fun i j hi hj=>Yf (P:=fun v:Nat×CE=>PS X _ (tS X.K (ex F (.for4 i j v.1 v.2 cb)))) hv fun l ci hl hc=>
  fun pins s σ H D I q=>by
   obtain ⟨_,_,_,_,_,_,_,e,_⟩:=Z7 q
   cases e
theorem Zfb {n i j:Nat} (ihE:Zr G F n) (ihS:Ya G F n) {X:Cx}{sc:Scope}{N:List Str} (K:CxtS X G F sc N) {c:CS}{x y:Str}{it:Expr}{b:List Stmt}{p p2 pos tp:Pos}{ctx:Nat} (hi:N.idxOf? x=some i) (hj:N.idxOf? y=some j) (h:o2 (CS.for2 i j) (cE G n sc N it) (cSs G n sc N b)=some c):PS X (.For (.Tuple [.Name x p,.Name y p2] ctx tp) it b [] pos) (tS X.K (ex F c)):=by
 refine Yf (P:=fun c=>PS X _ (tS X.K (ex F c))) h fun ci cb hc hb=>?_
 have A:=(ihE X sc N K.toCxt _ ci hc).pe
 have hf:=Z3 (env:=X.env) (Zf hc)
 exact ZK (ZfL (ps_for (passes K) K.calm (pi_tup A) (pg_tup K.calm (pgs_cons (Yw K hi) (pgs_cons (Yw K hj) pgs_nil))) (ihS X sc N K _ cb hb) hf) (ps_for (passes K) K.calm (pi_list A) (pg_tup K.calm (pgs_cons (Yw K hi) (pgs_cons (Yw K hj) pgs_nil))) (ihS X sc N K _ cb hb) hf)) Zcg
theorem Zg5 {n:Nat} (ihE:Zr G F n) {X:Cx}{sc:Scope}{N:List Str} (K:CxtS X G F sc N) {c:CS}{x m:Str}{e:Expr}{p ap cp pos:Pos} (h:ZhA sc N x m ap cp (cE G n sc N e)=some c):PS X (.Expr (.Call (.Attribute (.Name x p) m ap) [e] [] cp) pos) (tS X.K (ex F c)):=by
 refine XJ h fun hc h=>?_
 by_cases e1:m = "append"
 ·subst e1
  rw [if_pos rfl] at h
  exact Yf (P:=fun c=>PS X _ (tS X.K (ex F c))) h fun i y hi hx=>ZK (ps_expr (pe_bm PySem.F.plainAttrs_list PySem.F.slot_list_append PySem.F.type_list_append mt_append (ZcZ K.toCxt hc.1 hi) (pa1 (Zf hx) (ihE X sc N K.toCxt _ y hx).pe) rfl (by rw [Zd (Zf hx)]; rfl) hc.2 (Zd (Zf hx)) rfl) rfl) Zd7
 ·rw [if_neg e1] at h
  by_cases e2:m = "extend"
  ·subst e2
   rw [if_pos rfl] at h
   exact Yf (P:=fun c=>PS X _ (tS X.K (ex F c))) h fun i y hi hx=>ZK (ps_expr (pe_bm PySem.F.plainAttrs_list PySem.F.slot_list_extend PySem.F.type_list_extend mt_extend (ZcZ K.toCxt hc.1 hi) (pa1 (Zf hx) (ihE X sc N K.toCxt _ y hx).pe) rfl (by rw [Zd (Zf hx)]; rfl) hc.2 (Zd (Zf hx)) rfl) rfl) Zd9
  ·rw [if_neg e2] at h; cases h
theorem Ze9 {n:Nat} (ihE:Zr G F n) (hA:WB G F n) {X:Cx}{sc:Scope}{N:List Str} (K:CxtS X G F sc N) {c:CS}{tg e:Expr}{pos:Pos} (h:ZhB N tg e (cE G n sc N e)=some c):PS X (.Assign [tg] e pos) (tS X.K (ex F c)):=by
 have no:∀ {P:Prop},(none:Option CS)=some c→P:=fun z=>nomatch z
 cases tg with
 | Name x p=>exact Zg6 ihE hA K h
 | Tuple es ctx tp=>cases es with
  | nil=>exact no h
  | cons a es=>cases a with
   | Name _ _=>cases es with
    | nil=>exact no h
    | cons b es=>cases b with
     | Name _ _=>cases es with
      | nil=>exact Zfh ihE K h
      | cons c2 es=>cases c2 with
       | Name _ _=>cases es with
        | nil=>exact Zfi ihE K h
        | cons _ _=>exact no h
       | _=>exact no h
     | _=>exact no h
   | _=>exact no h
 | _=>exact no h
theorem Zfe {n:Nat} (ihE:Zr G F n) (ihA:YA G F n) (ihS:Ya G F n) {X:Cx}{sc:Scope}{N:List Str} (K:CxtS X G F sc N) {c:CS}{tg it:Expr}{b:List Stmt}{pos:Pos} (h:Zgo G sc N (cE G n sc N) (cEs G n sc N) tg it (cSs G n sc N b)=some c):PS X (.For tg it b [] pos) (tS X.K (ex F c)):=by
 have no:∀ {P:Prop},(none:Option CS)=some c→P:=fun z=>nomatch z
 cases tg with
 | Name x p=>
  unfold Zgo at h
  cases hr:Xe G sc it with
  | some as=>
   rw [hr] at h
   exact Zfc ihA ihS K hr h
  | none=>
   rw [hr] at h
   exact Zfa ihE ihS K h
 | Tuple es ctx tp=>cases es with
  | nil=>exact no h
  | cons a es=>cases a with
   | Name x p=>cases es with
    | nil=>exact no h
    | cons b2 es=>cases b2 with
     | Name y p2=>cases es with
      | nil=>
       replace h:((o2 (fun i j=>og (i≠j) (some (i,j))) (N.idxOf? x) (N.idxOf? y)).join.bind fun p=>(match WA G sc it with
        | some as=>o2 (CS.forP p.1 p.2) (cEs G n sc N as) (cSs G n sc N b)
        | none=>match Wq G sc it with
         | some e=>o2 (CS.forE p.1 p.2) (cE G n sc N e) (cSs G n sc N b)
         | none=>o2 (CS.for2 p.1 p.2) (cE G n sc N it) (cSs G n sc N b)))=some c:=h
       refine b_e h fun q hq h=>j_e hq fun hq=>Yf (P:=fun o=>o=some q→PS X _ (tS X.K (ex F c))) hq (fun i j hi hj e=>XJ e fun _ e=>?_) rfl
       cases e
       cases hz:WA G sc it with
       | some as=>
        rw [hz] at h
        exact Zfg ihA ihS K hi hj hz h
       | none=>
        rw [hz] at h
        dsimp only at h
        cases he:Wq G sc it with
        | some e=>
         rw [he] at h
         exact Zff ihE ihS K hi hj he h
        | none=>
         rw [he] at h
         exact Zfb ihE ihS K hi hj h
      | cons c2 es=>cases c2 with
       | Name _ _=>cases es with
        | nil=>exact Zfd ihE ihS K h
        | cons _ _=>exact no h
       | _=>exact no h
     | _=>exact no h
   | _=>exact no h
 | _=>exact no h
theorem Ze8 {n:Nat} (ihE:Zr G F n) {X:Cx}{sc:Scope}{N:List Str} (K:CxtS X G F sc N) {c:CS}{m:Str}{o k e:Expr}{p ap cp pos:Pos} (h:og (m = "append"∧(ap.endLine==cp.line)=true) (o2 CS.app2 (cE G n sc N (.Subscript o k p)) (cE G n sc N e))=some c):PS X (.Expr (.Call (.Attribute (.Subscript o k p) m ap) [e] [] cp) pos) (tS X.K (ex F c)):=by
 refine XJ h fun hc h'=>?_
 obtain ⟨e1,hl⟩:=hc
 subst e1
 exact Yf (P:=fun c=>PS X _ (tS X.K (ex F c))) h' fun z y hz hx=>ZK (ps_expr (pe_bm PySem.F.plainAttrs_list PySem.F.slot_list_append PySem.F.type_list_append mt_append (ihE X sc N K.toCxt _ z hz).pe (pa1 (Zf hx) (ihE X sc N K.toCxt _ y hx).pe) rfl (by rw [Zd (Zf hx)]; rfl) hl (Zd (Zf hx)) rfl) rfl) Zce
theorem Ze7 {n:Nat} (ihE:Zr G F n) {X:Cx}{sc:Scope}{N:List Str} (K:CxtS X G F sc N) {c:CS}{v:Expr}{pos:Pos} (h:Zhz sc N (cE G n sc N) v=some c):PS X (.Expr v pos) (tS X.K (ex F c)):=by
 have no:∀ {P:Prop},(none:Option CS)=some c→P:=fun z=>nomatch z
 cases v with
 | Call f as kw cp=>cases f with
  | Attribute o m ap=>cases o with
   | Name x p=>cases as with
    | nil=>exact no h
    | cons e es=>cases es with
     | nil=>cases kw with
      | nil=>exact Zg5 ihE K h
      | cons _ _=>exact no h
     | cons _ _=>exact no h
   | Subscript o k p=>cases as with
    | nil=>exact no h
    | cons e es=>cases es with
     | nil=>cases kw with
      | nil=>exact Ze8 ihE K h
      | cons _ _=>exact no h
     | cons _ _=>exact no h
   | _=>exact no h
  | Name f fp=>exact Zg4 ihE K h
  | _=>exact no h
 | _=>exact no h
theorem QU {n:Nat} (ihE:Zr G F n) (ihA:YA G F n) (ihS:Ya G F n) (hA:WB G F n):Q1 G F (n+1):=by
 intro X sc N K s c h
 have no:∀ {P:Prop},(none:Option CS)=some c→P:=fun z=>nomatch z
 cases s with
 | Assign tgs e pos=>cases tgs with
  | nil=>exact no h
  | cons t ts=>cases ts with
   | cons _ _=>cases t with
    | Subscript o k p=>cases o<;>exact no h
    | _=>exact no h
   | nil=>cases t with
    | Subscript o k p=>cases o with
     | Name x q=>exact Zg7 ihE K h
     | _=>exact no h
    | _=>exact Ze9 ihE hA K h
 | Return e pos=>cases e with
  | none=>exact no h
  | some e=>exact Zg8 ihE K h
 | If e a b pos=>exact Zid ihE ihS K h
 | For t it b oe pos=>cases oe with
  | cons _ _=>exact no h
  | nil=>exact Zfe ihE ihA ihS K h
 | Expr v pos=>exact Ze7 ihE K h
 | Pass pos=>
  cases (show some CS.skip=some c from h)
  exact ZK ps_pass Qe
 | Break pos=>
  cases (show some CS.brk=some c from h)
  exact ZK ps_break Zd8
 | Raise a b pos=>
  cases (show some CS.stop=some c from h)
  exact fun pins s σ H D I q=>by
   obtain ⟨_,_,_,_,_,_,_,e,_⟩:=Z7 q
   cases e
 | Continue pos=>
  cases (show some CS.cont=some c from h)
  exact ZK ps_continue Zcf
 | _=>exact no h
theorem UJ {n:Nat} (ihS:Q1 G F n) (ihSs:Ya G F n):Ya G F (n+1):=by
 intro X sc N K s c h
 cases s with
 | nil=>
  simp only [cSs] at h
  cases h
  exact Zap pss_nil Qe
 | cons s r=>
  exact Yf (P:=fun c=>PSs X _ (tS X.K (ex F c))) (show o2 CS.seq (cS G n sc N s) (cSs G n sc N r)=some c from h) fun a b ha hb=>Zap (pss_cons (ihS X sc N K s a ha) (ihSs X sc N K r b hb)) Zei
end
end Dp



namespace Dp
open PySem PySem.Spec PyProof.Rows L2
variable [ClsTab]
def Yz (G:Gs) (F:Nat→Fn):Prop:=∀ n,Zr G F n→(∀ X sc N,Cxt X G F sc N→∀ elt gens sc2 pos c,cE G (n+1) sc N (.ListComp elt gens sc2 pos)=some c→SE X F (.ListComp elt gens sc2 pos) c)∧WB G F (n+1)
theorem X2 {G:Gs}{F:Nat→Fn} (hc:Yz G F):∀ n,(Zr G F n∧YA G F n∧V7 G F n)∧Q1 G F n∧Ya G F n∧WB G F n
 | 0=>⟨⟨fun X sc N K e c h=>(nomatch (show (none:Option CE)=some c from h)),fun X sc N K e c h=>(nomatch (show (none:Option CE)=some c from h)),fun X sc N K e c h=>(nomatch (show (none:Option CE)=some c from h))⟩,fun X sc N K e c h=>(nomatch (show (none:Option CS)=some c from h)),fun X sc N K e c h=>(nomatch (show (none:Option CS)=some c from h)),fun X sc N K x i p elt gens sc2 epos pos c _ h=>(nomatch (show (none:Option CE)=some c from h))⟩
 | n+1=>by
  obtain ⟨⟨hE,hA,hO⟩,hS,hSs,hCA⟩:=X2 hc n
  exact ⟨⟨JH hE hA hO (hc n hE).1,QS hE hA,QT hE⟩,QU hE hA hSs hCA,UJ hS hSs,(hc n hE).2⟩
def ZaF (K:PySem.W.Frag) (G:Gs) (T:Nat→Option FD) (x y:Str) (i:Nat) (f:Addr) (fd:FuncData) (pn N:List Str):Prop:=∃ (st:Stmt) (oc:Value) (od:Option Addr) (dV kV doc pm:Value) (an:Option Addr) (cdv ct:Value) (osl:Array (Option Value)) (code:CS),
  fd=PySem.W.fnOf x y (defArgs st) (defBody st) (defScope st) dV kV doc pm an cdv ct∧K.lookup f=some ⟨oc,od,.func fd,osl⟩∧PySem.W.codeIn K cdv y=true∧FnScope N pn (defScope st)∧(∀ y∈N,Loc (defScope st) y) ∧
  cSs G 60 (defScope st) N (defBody st)=some code∧T i=some ⟨pn.length,N.length,code⟩
def ZaE (K:PySem.W.Frag) (mg:Str→Option Value) (G:Gs) (T:Nat→Option FD) (i:Nat) (f:Addr) (fd:FuncData) (pn:List Str):Prop:=∀ (P:Program) (w:World) (base:Heap) (n:Nat),(∀ m,m≤n→∀ A,Room m A→∀ y g,G.lookup y=some g→GOk P w K mg base A (run T m) y g)→FnOk P w K mg base CX0 (n+1) f fd pn (spD K (run T (n+1) i))
structure DefOk (K:PySem.W.Frag) (mg:Str→Option Value) (G:Gs) (T:Nat→Option FD) (x:Str) (i:Nat) (ds:List D) (f:Addr) (fd:FuncData) (pn N:List Str):Prop where
 ob:ZaF K G T x x i f fd pn N∨ZaE K mg G T i f fd pn
 kp:PySem.W.keepIn K (.ref f)=true
 at_:mg x=some (.ref f)
 bn:∀ m,m≤ds.length→∃ dvs us,(∀ ad H,Dens K ad H dvs (ds.drop m))∧Vals dvs us∧Binds K fd pn us
structure MethOk (K:PySem.W.Frag) (G:Gs) (T:Nat→Option FD) (C:Addr) (x y:Str) (i:Nat) (f:Addr) (fd:FuncData) (pn N:List Str):Prop where
 ob:ZaF K G T x y i f fd pn N
 mt:Meth K C x f
 bn:Binds K fd pn []
structure Text (Pm:Params) (K:PySem.W.Frag) (mg:Str→Option Value) (G:Gs) (T:Nat→Option FD):Prop where
 cst:∀ x d,G.lookup x=some (.cst d)→∃ v u,mg x=some u∧RelV v u∧∀ ad H,Den K ad H v d
 blt:∀ x,G.lookup x=some .blt→mg x=none
 dct:∀ x ks ds,G.lookup x=some (.dct ks ds)→JO Pm K mg x ks ds
 fn:∀ x i ps ds,G.lookup x=some (.fn i ps ds)→∃ f fd pn N,DefOk K mg G T x i ds f fd pn N
 cls:∀ x i ms subs,G.lookup x=some (.cls i ms subs)→(mg x=some (.ref (ClsTab.ca i))∧NewOk K (ClsTab.ca i)∧∀ i',subs.contains i'=true→SubOk K (ClsTab.ca i') (ClsTab.ca i)) ∧
  ∀ m j ps,ms.lookup m=some (j,ps)→∃ y f fd pn N,MethOk K G T (ClsTab.ca i) m y j f fd pn N
section
variable {P:Program}{w:World}{K:PySem.W.Frag}{mg:Str→Option Value}{base:Heap}{G:Gs}{T:Nat→Option FD}
theorem JN {sc:Scope}{x:Str} (h:XH sc x=true):Vis sc x:=by
 unfold XH at h
 rw [Bool.and_eq_true] at h
 have h:=h.2
 split at h
 ·rename_i q; exact .inl q
 ·rename_i q; exact .inr (.inl q)
 ·rename_i q; exact .inr (.inr q)
 ·cases h
theorem Ug {sc:Scope}{x:Str} (h:ZN sc x=true):sc.names.lookup x=some .globalImplicit:=by
 unfold ZN at h
 rw [Bool.and_eq_true] at h
 have h:=h.2
 split at h
 ·rename_i q; exact q
 ·cases h
theorem Uf {sc:Scope}{x:Str} (h:W0 sc x=true):sc.names.lookup x=some .cell∨sc.names.lookup x=some .free:=by
 unfold W0 at h
 split at h
 ·rename_i q; exact .inl q
 ·rename_i q; exact .inr q
 ·cases h
theorem VE {K:PySem.W.Frag}{ad:List Addr}{H:Hp}{N:List Str}{vs:List V}{ds:List D} (h:Dens K ad H vs ds) (hl:ds.length≤N.length):EnvOk K ad H (L2.start N vs) (ds.map some++List.replicate (N.length - ds.length) none):=by
 have e:=h.length
 refine ⟨by unfold L2.start; simp [e],fun i d q=>?_⟩
 by_cases hi:i < ds.length
 ·rw [List.getElem?_append_left (by simpa using hi),List.getElem?_map,List.getElem?_eq_getElem hi] at q
  have q':ds[i]=d:=by simpa using q
  have g:ds[i]?=some d:=by rw [List.getElem?_eq_getElem hi,q']
  obtain ⟨v,e1,e2⟩:=h.get g
  refine ⟨v,?_,e2⟩
  unfold L2.start
  rw [List.getElem?_append_left (by simpa [e] using hi),List.getElem?_map,e1]
  rfl
 ·rw [List.getElem?_append_right (by simpa using hi),List.getElem?_replicate] at q
  split at q<;>cases q
theorem ZgL {n:Nat} (hc:∀ n,Yz G (run T n)) (gl:∀ A,Room n A→∀ y g,G.lookup y=some g→GOk P w K mg base A (run T n) y g) {x y:Str}{i:Nat}{f:Addr}{fd:FuncData}{pn N:List Str} (ob:ZaF K G T x y i f fd pn N):FnOk P w K mg base CX0 (n+1) f fd pn (spD K (run T (n+1) i)):=by
 obtain ⟨st,oc,od,dV,kV,doc,pm,an,cdv,ct,osl,code,rfl,lk,hcd,S,hloc,hcode,hT⟩:=ob
 have hrun:run T (n+1) i=fnD (run T n) ⟨pn.length,N.length,code⟩:=by
  show (match T i with | some f=>fnD (run T n) f | none=>fun _ _=>none)=_
  rw [hT]
 refine fn_of lk hcd S (fun vs H Q E h=>?_) (fun A outer s H vs Q E hr h=>?_)
 ·obtain ⟨ad,es,st,d,st',_,hd,e,_⟩:=h
  rw [hrun] at e
  unfold fnD at e
  split at e
  ·rename_i hl
   rw [hd.length]
   exact hl
  ·cases e
 ·obtain ⟨ad,es,s0,d,st',S0,hd,e,p⟩:=h
  rw [hrun] at e
  unfold fnD at e
  split at e
  ·rename_i hl
   have C:CxtS (cxOf CX0 P w K mg base N y (defScope st) f cdv A outer s H E).nox G (run T n) (defScope st) N:={
    hN:=rfl
    vis:=fun y hy=>JN hy
    glb:=fun y hy=>Ug hy
    calm:=rfl
    hu:=hr.units
    gl:=gl _ hr
    cel:=fun y hy=>Uf hy
    nx:=rfl
    nd:=S.nd
    loc:=hloc
    fn:=fun _=>rfl }
   have B:=(X2 (hc n) 60).2.2.1 _ _ _ C _ _ hcode
   have hpl:pn.length≤N.length:=by have:=congrArg List.length S.pre; rw [List.length_take] at this; omega
   have E0':=VE (N:=N) hd (by rw [show es.length=pn.length from hl]; exact hpl)
   refine ⟨_,B.nox,?_⟩
   split at e
   ·rename_i d' st1 q
    cases e
    exact Yg E0' S0 q p
   ·rename_i ρ st1 q
    cases e
    exact Yg E0' S0 q fun σ1 ad1 H1 x1 S1 E1=>(p.later x1).at S1 .non
   ·cases e
  ·cases e
theorem Zfu {i:Nat}{f:Addr}{fd:FuncData}{pn:List Str}:FnOk P w K mg base CX0 0 f fd pn (spD K (run T 0 i)):=by
 refine ⟨fun vs H Q E h=>?_,fun A outer s H args us vs Q E _ _ _ _ h=>?_⟩
 ·obtain ⟨_,_,_,_,_,_,_,e,_⟩:=h; cases e
 ·obtain ⟨_,_,_,_,_,_,_,e,_⟩:=h; cases e
theorem ZfF {n:Nat} (X:Text w.params K mg G T) (F1:∀ {x y:Str}{i:Nat}{f:Addr}{fd:FuncData}{pn N:List Str},ZaF K G T x y i f fd pn N∨ZaE K mg G T i f fd pn→FnOk P w K mg base CX0 n f fd pn (spD K (run T n i))) (A:Around) (hr:Room n A):∀ y g,G.lookup y=some g→GOk P w K mg base A (run T n) y g:=fun y g hg=>by
 cases g with
 | cst d=>exact X.cst y d hg
 | blt=>exact X.blt y hg
 | dct ks ds=>exact X.dct y ks ds hg
 | fn j qs es=>
  obtain ⟨f,fd,pn,N,Dk⟩:=X.fn y j qs es hg
  exact ⟨n,f,fd,pn,F1 Dk.ob,hr,Dk.at_,Dk.kp,Dk.bn⟩
 | cls i ms subs=>
  obtain ⟨⟨h1,h2,h3⟩,h4⟩:=X.cls y i ms subs hg
  refine ⟨h1,h2,h3,fun m j ps hm=>?_⟩
  obtain ⟨z,f,fd,pn,N,Mk⟩:=h4 m j ps hm
  exact ⟨n,f,fd,pn,F1 (.inl Mk.ob),hr,Mk.mt,Mk.bn⟩
theorem Q3 (hc:∀ n,Yz G (run T n)) (X:Text w.params K mg G T):∀ (n m:Nat),m≤n→∀ {x y:Str}{i:Nat}{f:Addr}{fd:FuncData}{pn N:List Str},ZaF K G T x y i f fd pn N∨ZaE K mg G T i f fd pn→FnOk P w K mg base CX0 m f fd pn (spD K (run T m i))
 | n,0,_,_,_,_,_,_,_,_,_=>Zfu
 | n+1,m+1,h,_,_,_,_,_,_,_,.inl ob=>ZgL hc (fun A hr=>ZfF X (fun ob=>Q3 hc X n m (Nat.le_of_succ_le_succ h) ob) A hr) ob
 | n+1,m+1,h,_,_,_,_,_,_,_,.inr hd=>hd P w base m fun l hl A hr=>ZfF X (fun ob=>Q3 hc X n l (Nat.le_trans hl (Nat.le_of_succ_le_succ h)) ob) A hr
theorem Zf1 (hc:∀ n,Yz G (run T n)) (X:Text w.params K mg G T) (n:Nat) {x y:Str}{i:Nat}{f:Addr}{fd:FuncData}{pn N:List Str} (h:ZaF K G T x y i f fd pn N∨ZaE K mg G T i f fd pn):FnOk P w K mg base CX0 n f fd pn (spD K (run T n i)):=Q3 hc X n n (Nat.le_refl _) h
end
end Dp



namespace Dp
open PySem PySem.Spec PyProof.Rows L2
variable [ClsTab]
section
variable {ad:List Addr}{H:Hp}{p:Addr}{xs ys:List V}
theorem Ut (hp:H p=some (.lst xs)) {a:Addr}:Yu H a↔Yu (upd H p (.lst ys)) a:=JM (Uw hp fun _ z=>nomatch z) fun _ z=>nomatch z
theorem Jo {K:PySem.W.Frag} (hp:H p=some (.lst xs)):Keeps K ad ad H (upd H p (.lst ys)):=⟨fun h=>h.upd hp (by intro xs z; cases z),fun h=>⟨h,Ut hp⟩,fun _ h=>by rw [upd_ne (ne_of h hp (by intro z; cases z))]; exact h,fun h n=>⟨by rw [upd_ne (ne_of h hp (by intro z; cases z))]; exact h,n⟩⟩
theorem Den.wr {K:PySem.W.Frag} (hp:H p=some (.lst xs)) {v:V}{d:D} (h:Den K ad H v d):Den K ad (upd H p (.lst ys)) v d:=h.map (Jo hp)
theorem Dens.wr {K:PySem.W.Frag} (hp:H p=some (.lst xs)) {vs:List V}{ds:List D} (h:Dens K ad H vs ds):Dens K ad (upd H p (.lst ys)) vs ds:=h.map (Jo hp)
theorem EnvOk.wr {K:PySem.W.Frag}{σ:L2.St}{ρ:Env} (hp:H p=some (.lst xs)) (h:EnvOk K ad H σ ρ):EnvOk K ad (upd H p (.lst ys)) σ ρ:=⟨h.len,fun i d e=>let ⟨v,e1,e2⟩:=h.at_ i d e; ⟨v,e1,e2.wr hp⟩⟩
theorem StOk.wr {K:PySem.W.Frag}{st:Za} (S:StOk K ad H st) (hp:H p=some (.lst xs)) (hn:p∉ad):StOk K ad (upd H p (.lst ys)) st:=
 S.wrG (Jo hp) hn
theorem Ext.wr {ad0:List Addr}{H0:Hp} (x:Ext ad0 H0 ad H) (hp:H p=some (.lst xs)) (h0:H0 p=none):Ext ad0 H0 ad (upd H p (.lst ys)):=by
 refine ⟨x.pre,fun b zs h=>?_,fun b zs h=>?_,fun b o h n=>?_,x.new,fun i a h=>(x.kd i a h).trans (Ut hp)⟩
 ·rw [upd_ne (ne_of_none h h0)]; exact x.tup b zs h
 ·rw [upd_ne (ne_of_none h h0)]; exact x.dk b zs h
 ·rw [upd_ne (ne_of_none h h0)]; exact x.keep b o h n
end
theorem W6 {c:Str→NameKind→Bool}:∀ {l:List (Str×NameKind)}{y:Str},(l.map fun (n,k)=>if c n k=true then (n,NameKind.cell) else (n,k)).lookup y=(l.lookup y).map fun k=>if c y k=true then NameKind.cell else k
 | [],_=>rfl
 | (n,k) :: r,y=>by
  have ih:=@W6 c r y
  rw [List.map_cons]
  have e:(if c n k=true then (n,NameKind.cell) else (n,k))=(n,if c n k=true then NameKind.cell else k):=by split<;>rfl
  show List.lookup y ((if c n k=true then (n,NameKind.cell) else (n,k)) :: _)=_
  rw [e,List.lookup_cons,List.lookup_cons]
  cases q:y==n with
  | true=>rw [beq_iff_eq.mp q]; rfl
  | false=>exact ih
theorem Yx {sc:Scope}{env:PySem.Env}{y:Str}:(relabel sc env).names.lookup y=(sc.names.lookup y).map fun k=>if (k==NameKind.free&&env.scope.kind==.function&&env.kindOf y==some .cell)=true then NameKind.cell else k:=
 W6 (c:=fun n k=>k==NameKind.free&&env.scope.kind==.function&&env.kindOf n==some .cell)
theorem YF {sc:Scope}{env:PySem.Env}{y:Str}{k:NameKind} (h:sc.names.lookup y=some k) (hk:k≠.free):(relabel sc env).names.lookup y=some k:=by
 rw [Yx,h]
 have:(k==NameKind.free)=false:=by simpa using hk
 show some (if (k==NameKind.free&&_&&_)=true then NameKind.cell else k)=some k
 rw [this,Bool.false_and,Bool.false_and,if_neg Bool.false_ne_true]
theorem YU {sc:Scope}{env:PySem.Env}{y:Str} (h:sc.names.lookup y=some .free):(relabel sc env).names.lookup y=some .cell∨(relabel sc env).names.lookup y=some .free:=by
 rw [Yx,h]
 show (some (if _ then NameKind.cell else NameKind.free))=_∨(some (if _ then NameKind.cell else NameKind.free))=_
 split
 ·exact .inl rfl
 ·exact .inr rfl
theorem UG {sc:Scope}{env:PySem.Env}{y:Str} (hc:∀ p∈sc.names,p.2≠.cell) (h:(relabel sc env).names.lookup y=some .cell∨(relabel sc env).names.lookup y=some .free):sc.names.lookup y=some .free:=by
 rw [Yx] at h
 cases q:sc.names.lookup y with
 | none=>rw [q] at h; rcases h with h | h<;>cases h
 | some k=>
  rw [q] at h
  cases k with
  | free=>rfl
  | cell=>
   have:∀ {l:List (Str×NameKind)},l.lookup y=some .cell→∃ p∈l,p.2=.cell:=fun {l} e=>by
    induction l with
    | nil=>cases e
    | cons a l ih=>
     obtain ⟨n,k⟩:=a
     rw [List.lookup_cons] at e
     split at e
     ·cases e; exact ⟨_,List.mem_cons_self,rfl⟩
     ·obtain ⟨p,hp,e'⟩:=ih e; exact ⟨p,List.mem_cons_of_mem _ hp,e'⟩
   obtain ⟨p,hp,e⟩:=this q
   exact absurd e (hc p hp)
  | _=>rcases h with h | h<;>simp at h
theorem Xs {env:PySem.Env}:∀ (l:List (Str×NameKind)) (acc:List (Str×Addr)),(∀ p∈l,p.2=.free→∃ c,env.cells.lookup p.1=some c)→
  ∃ cl,(forIn l acc fun (x:Str×NameKind) (r:List (Str×Addr))=>(do
   if (x.2==NameKind.free)=true then
    let a ←cellOf env x.1
    pure (ForInStep.yield ((x.1,a) :: r))
   else pure (ForInStep.yield r):Sem (ForInStep (List (Str×Addr)))))=pure cl ∧
   (∀ y c,cl.lookup y=some c→acc.lookup y=some c∨((y,NameKind.free)∈l∧env.cells.lookup y=some c))∧(∀ y,(y,NameKind.free)∈l∨(acc.lookup y).isSome→(cl.lookup y).isSome)
 | [],acc,_=>⟨acc,by simp only [List.forIn_nil],fun y c h=>.inl h,fun y h=>by simpa using h⟩
 | (n,k) :: l,acc,h=>by
  by_cases hk:k=.free
  ·subst hk
   obtain ⟨c0,hc0⟩:=h (n,.free) List.mem_cons_self rfl
   obtain ⟨cl,e,h1,h2⟩:=Xs (env:=env) l ((n,c0) :: acc) fun p hp=>h p (List.mem_cons_of_mem _ hp)
   refine ⟨cl,?_,fun y c q=>?_,fun y q=>?_⟩
   ·rw [List.forIn_cons]
    simp only [beq_self_eq_true,if_true]
    have:cellOf env n=pure c0:=by unfold cellOf; rw [hc0]
    simp only [this,pure_bind]
    exact e
   ·rcases h1 y c q with z | ⟨z1,z2⟩
    ·rw [List.lookup_cons] at z
     split at z
     ·rename_i hy
      cases z
      rw [beq_iff_eq.mp hy]
      exact .inr ⟨List.mem_cons_self,hc0⟩
     ·exact .inl z
    ·exact .inr ⟨List.mem_cons_of_mem _ z1,z2⟩
   ·refine h2 y ?_
    rcases q with q | q
    ·rcases List.mem_cons.mp q with z | z
     ·cases z
      exact .inr (by rw [List.lookup_cons]; simp)
     ·exact .inl z
    ·refine .inr ?_
     rw [List.lookup_cons]
     split
     ·rfl
     ·exact q
  ·obtain ⟨cl,e,h1,h2⟩:=Xs (env:=env) l acc fun p hp=>h p (List.mem_cons_of_mem _ hp)
   refine ⟨cl,?_,fun y c q=>?_,fun y q=>?_⟩
   ·rw [List.forIn_cons]
    have:(k==NameKind.free)=false:=by simpa using hk
    simp only [this,Bool.false_eq_true,if_false,pure_bind]
    exact e
   ·rcases h1 y c q with z | ⟨z1,z2⟩
    ·exact .inl z
    ·exact .inr ⟨List.mem_cons_of_mem _ z1,z2⟩
   ·refine h2 y ?_
    rcases q with q | q
    ·rcases List.mem_cons.mp q with z | z
     ·cases z; exact absurd rfl hk
     ·exact .inl z
    ·exact .inr q
theorem UY {env:PySem.Env}{sc:Scope} (h:∀ p∈sc.names,p.2=.free→∃ c,env.cells.lookup p.1=some c):∃ cl,closureFor sc env=pure cl∧(∀ y c,cl.lookup y=some c→env.cells.lookup y=some c)∧∀ y,(y,NameKind.free)∈sc.names→(cl.lookup y).isSome:=by
 obtain ⟨cl,e,h1,h2⟩:=Xs (env:=env) sc.names [] h
 refine ⟨cl,?_,fun y c q=>?_,fun y q=>h2 y (.inl q)⟩
 ·unfold closureFor
  rw [show (fun (x:Str×NameKind) (r:List (Str×Addr))=>_)=_ from rfl] at e
  first | exact (by simp only [e,pure_bind]) | (simp only [bind_pure] at *; exact e) | exact e
 ·rcases h1 y c q with z | ⟨_,z⟩
  ·cases z
  ·exact z
end Dp



namespace Dp
open PySem PySem.Spec PyProof.Rows L2
variable [ClsTab]
theorem UZ {prog:Program}{w:World}{A:Around}{R:Result→Shared→Prop}{s:Shared}{elt target iter:Expr}{ifs:List Expr}{scope:Scope}{pos:Pos}{it acc:Value}{env:PySem.Env} (I:Nat→Shared→Prop)
  (turn:∀ n s,I n s→wpAny (model prog w) A (pyNext it) (fun r s₁=>match r with
   | none=>R (.ok .next) s₁
   | some v=>wpAny (model prog w) A (letOwnedTupleGo target it v) (fun _ s₁'=>wpAny (model prog w) A (assign target env v) (fun _ s₂=>
     wpAny (model prog w) A (forIn ifs true fun c r=>if r=true then do let ok ←isTrue c env (eval c env); pure (ForInStep.yield ok) else pure (ForInStep.yield r)) (fun ok s₃=>
      if ok=true then wpAny (model prog w) A (eval elt env) (fun x s₄=>
       wpAny (model prog w) A (call (.builtin "list.append") [acc,x]) (fun _ s₅=>∃ m,m < n∧I m s₅) (notedBy (model prog w) A env fun e s'=>R (.error e) s') s₄) (notedBy (model prog w) A env fun e s'=>R (.error e) s') s₃
      else ∃ m,m < n∧I m s₃) (notedBy (model prog w) A env fun e s'=>R (.error e) s') s₂) (notedBy (model prog w) A env fun e s'=>R (.error e) s') s₁') (notedBy (model prog w) A env fun e s'=>R (.error e) s') s₁) (notedBy (model prog w) A env fun e s'=>R (.error e) s') s)
  (n:Nat) (h:I n s):codeAny (model prog w) A (.compLoop (.ListComp elt [⟨target,iter,ifs,0⟩] scope pos) 0 it acc env) R s:=by
 refine codeAny_loop rfl I (fun n s hI=>?_) n h
 show wpAny _ A ((compTurn (.ListComp elt [⟨target,iter,ifs,0⟩] scope pos) 0 it acc env).onRaise (fun x=>do noteFrame x env; theTreesLotGoes x)) _ _ s
 refine wpAny_noted ?_
 rw [compTurn_list]
 refine wpAny_bind (wpAny_standAt (wpAny_bind (wpAny_mono (turn n s hI) (fun r s₁ h₁=>?_) fun _ _ h'=>h')))
 cases r with
 | none=>exact wpAny_pure h₁
 | some v=>
  refine wpAny_bind (wpAny_mono h₁ (fun _ s₁' h₁=>?_) fun _ _ h'=>h')
  refine wpAny_bind (wpAny_mono h₁ (fun _ s₂ h₂=>wpAny_bind (wpAny_mono h₂ (fun ok s₃ h₃=>?_) fun _ _ h'=>h')) fun _ _ h'=>h')
  cases ok with
  | false=>exact wpAny_pure ⟨rfl,h₃⟩
  | true=>
   exact wpAny_bind (wpAny_bind (wpAny_mono h₃ (fun x s₄ h₄=>wpAny_bind (wpAny_mono h₄ (fun _ s₅ h₅=>wpAny_pure (wpAny_pure ⟨rfl,h₅⟩)) fun _ _ h'=>h')) fun _ _ h'=>h'))
noncomputable def cxC (X:Cx) (N:List Str) (env:PySem.Env) (s3:Shared) (H3:Hp) (fp:List Addr) (pins:List (Addr×Obj)):Cx:=
 { X with N:=N,s₀:=s3,H₀:=H3,env:=env,outer:=X.stack,ex:=fp,fn:=fun _=>false,pn:=X.pn++pins,xe:=fun _ _=>False }
section
variable {X:Cx}{pins:List (Addr×Obj)}{σ:L2.St}{H H3:Hp}{s3:Shared}{sc2:Scope}{cl:List (Str×Addr)}{fp:List Addr}{N:List Str}
theorem Zcu (I3:L2.Inv X pins σ H3 s3) {m0:Str→Option Value}{h4:Heap}{tk:Nat}{σ':L2.St} (hk:sc2.kind=.function) (hcell:∀ p∈sc2.names,p.2≠.cell)
  (hns:h4.Ns s3.heap.objs.size m0) (up:∀ b u,s3.heap.get? b=some u→h4.get? b=some u)
  (c1:∀ y c,cl.lookup y=some c→X.env.cells.lookup y=some c) (c2:∀ y,sc2.names.lookup y=some .free→(cl.lookup y).isSome)
  (f3:∀ b∈fp,FpOk X pins H3 b) (fb:∀ b∈fp,b < s3.heap.objs.size)
  (hσ:∀ (i:Nat) (y:Str) (v:V),N[i]?=some y→σ'[i]?=some (some v)→∃ j:Nat,X.N[j]?=some y∧σ[j]?=some (some v)∧sc2.names.lookup y=some .free∧(X.env.scope.names.lookup y=some .cell∨X.env.scope.names.lookup y=some .free)) (hl:σ'.length=N.length) :
  L2.Inv (cxC X N (compEnvC sc2 cl s3.heap.objs.size X.env) s3 H3 fp pins) [] σ' H3 { s3 with heap:=h4,toks:=tk } where
 ok:={
  mod:=I3.ok.mod
  kind:=hk
  glob:=I3.ok.glob
  blt:=I3.ok.blt
  above:=Nat.le_refl _
  inj:=fun x y c e e'=>I3.ok.inj x y c (c1 _ _ e) (c1 _ _ e')
  has:=fun x h=>by
   have e:=UG (env:=X.env) hcell h
   have:=c2 x e
   cases q:cl.lookup x with
   | none=>rw [q] at this; cases this
   | some c=>exact ⟨c,q⟩
  cab:=fun x c h=>nomatch h
  hd:=I3.ok.hd
  frames:=I3.ok.frames
  stk:=.inl rfl
  exf:=fun b hb=>⟨Nat.ne_of_lt (fb b hb),fun x c e=>(f3 b hb).2.2.2.2.1 x c (c1 _ _ e)⟩
  bs:=I3.bs
  bsz:=Nat.le_trans I3.ok.bsz I3.sz
  noex:=fun b o e hb=>by
   rcases (f3 b hb).2.2.2.1 with z | z
   ·exact I3.ok.noex b o e z
   ·exact absurd (Nat.lt_of_lt_of_le (Heap.lt_size e) (Nat.le_trans I3.ok.bsz z)) (Nat.lt_irrefl _)
  exfs:=fun b hb hs=>by
   rcases List.mem_cons.mp (I3.stkSub b hs) with z | z
   ·exact (f3 b hb).2.1 z
   ·exact (f3 b hb).2.2.1 z
  funs:=I3.stack
  frf:=I3.stkFree }
 os:=rfl
 bare:=I3.bare
 base:=Un.kept up
 loc:=⟨m0,hns,fun i y v e1 e2 e3=>by
  obtain ⟨j,g1,g2,g3,g4⟩:=hσ i y v e1 e2
  obtain ⟨m,hn,hl'⟩:=I3.loc
  obtain ⟨u,r,l⟩:=hl' j y v g1 g2 (.inr g4)
  refine ⟨u,r,.inr ⟨YU g3,?_⟩⟩
  rcases l with ⟨z,_⟩ | ⟨_,c,e,z⟩
  ·have z':X.env.scope.names.lookup y=some .local:=z
   rcases g4 with w | w<;>(rw [z'] at w; cases w)
  ·have q:=c2 y g3
   cases q':cl.lookup y with
   | none=>rw [q'] at q; cases q
   | some c'=>
    have:=c1 _ _ q'
    rw [e] at this; cases this
    obtain ⟨o,ho,hd⟩:=z
    exact ⟨c,q',o,up c o ho,hd⟩⟩
 cell:=fun y c e=>by
  obtain ⟨v,o,ho,hd⟩:=I3.cell y c (c1 _ _ e)
  exact ⟨v,o,up c o ho,hd⟩
 free:=I3.hok.fresh (Nat.le_refl _)
 freeC:=fun y c e=>I3.freeC y c (c1 _ _ e)
 pin:=fun p hp=>by
  have hp':p∈X.pn++pins:=by simpa [cxC] using hp
  obtain ⟨e,n,ne,nf,d⟩:=I3.pin p hp'
  refine ⟨up _ _ e,n,Nat.ne_of_lt (Heap.lt_size e),fun hs=>?_,d⟩
  rcases List.mem_cons.mp (I3.stkSub _ hs) with z | z
  ·exact ne z
  ·exact nf z
 hok:=I3.hok.kept up
 len:=hl
theorem Zct (I3:L2.Inv X pins σ H3 s3) {env:PySem.Env}{pins':List (Addr×Obj)}{σ':L2.St}{H':Hp}{s':Shared}{h':Heap} (hC:env.locals=s3.heap.objs.size) (I':L2.Inv (cxC X N env s3 H3 fp pins) pins' σ' H' s') (sb:Heap.SameBut s3.heap.objs.size s'.heap h')
  (f3:∀ b∈fp,FpOk X pins H3 b):L2.Inv X pins σ H' { s' with heap:=h' }:=by
 have u:Un (frs X.stack) fp H3 H' s3.heap s'.heap:=I'.base
 have ne:∀ b o,s3.heap.get? b=some o→b≠s3.heap.objs.size:=fun b o e=>Nat.ne_of_lt (Heap.lt_size e)
 have fr:H' s3.heap.objs.size=none:=by have:=I'.free; rw [show (cxC X N env s3 H3 fp pins).env.locals=s3.heap.objs.size from hC] at this; exact this
 refine I3.call' (s':={ s' with heap:=h' }) (ch:=fp) I'.os ⟨fun b o e n hb hx=>?_,fun b o e n hb hx=>?_,u.free,fun b o e hx=>?_,u.tups,u.frzs,u.tbls⟩ (fun b ob e=>?_) I'.bare (fun b hb=>?_)
 ·exact (sb.2 b (ne b o e)).trans (u.keep b o e n hb hx)
 ·obtain ⟨sl,e1⟩:=u.slot b o e n hb hx
  exact ⟨sl,(sb.2 b (ne b o e)).trans e1⟩
 ·obtain ⟨o',e1⟩:=u.there b o e hx
  exact ⟨o',(sb.2 b (ne b o e)).trans e1⟩
 ·refine (I'.hok b ob e).stay (fun c w' hc q=>(sb.2 c ?_).trans q) (fun _ q=>q) fun _ _ q=>q
  rintro rfl
  rcases hc with rfl | hc
  ·rw [fr] at e; cases e
  ·rw [fr] at hc; cases hc
 ·exact ⟨(f3 b hb).2.2.2.1,(f3 b hb).2.1,(f3 b hb).2.2.2.2.1,(f3 b hb).2.2.2.2.2⟩
end
end Dp



namespace Dp
open PySem PySem.Spec PyProof.Rows L2
variable [ClsTab]
theorem Vd {N:List Str}:∀ {l:List Str}{fr:List Nat},Y7 N l=some fr→fr.length=l.length∧∀ (i:Nat) (k:Nat),fr[i]?=some k→∃ y,l[i]?=some y∧N[k]?=some y
 | [],fr,h=>by cases h; exact ⟨rfl,fun i k e=>by simp at e⟩
 | x :: r,fr,h=>by
  unfold Y7 at h
  split at h
  ·rename_i a as e1 e2
   cases h
   obtain ⟨h1,h2⟩:=Vd e2
   refine ⟨by simp [h1],fun i k e=>?_⟩
   cases i with
   | zero=>simp at e; subst e; exact ⟨x,rfl,Xu e1⟩
   | succ i=>exact h2 i k (by simpa using e)
  ·cases h
theorem StOk.lt {X:Cx}{pins:List (Addr×Obj)}{σ:L2.St}{H:Hp}{s:Shared}{ad:List Addr}{st:Za}{a:Addr} (I:L2.Inv X pins σ H s) (S:StOk X.K ad H st) (h:a∈ad):a < s.heap.objs.size:=by
 obtain ⟨i,hi,e⟩:=List.getElem_of_mem h
 rcases S.has (show ad[i]?=some a by rw [List.getElem?_eq_getElem hi,e]) with ⟨o,q⟩ | ⟨o,q⟩
 ·exact I.hok.lt q
 ·exact Heap.lt_size (I.kIn a o q)
theorem Zb1 {K:PySem.W.Frag}{ad:List Addr}{H:Hp}{σ bs:L2.St}{ρ:Env}{fr:List Nat}{b:D→List (Option D)}{d:D} (E:EnvOk K ad H σ ρ) (hd:EnvOk K ad H bs (b d)):EnvOk K ad H (bs++fr.map fun i=>(σ[i]?).join) (YD b ρ fr d):=by
 refine ⟨by simp [YD,hd.len],fun i e h=>?_⟩
 unfold YD at h
 by_cases hi:i < (b d).length
 ·rw [List.getElem?_append_left hi] at h
  rw [List.getElem?_append_left (by rw [hd.len]; exact hi)]
  exact hd.at_ i e h
 ·have hi:(b d).length≤i:=Nat.le_of_not_lt hi
  rw [List.getElem?_append_right hi,List.getElem?_map] at h
  rw [List.getElem?_append_right (by rw [hd.len]; exact hi),List.getElem?_map,hd.len]
  cases q:fr[i - (b d).length]? with
  | none=>rw [q] at h; cases h
  | some k=>
   rw [q] at h
   have h:(ρ[k]?).join=some e:=by simpa using h
   have h2:ρ[k]?=some (some e):=by
    cases z:ρ[k]? with
    | none=>rw [z] at h; cases h
    | some o=>rw [z] at h; rw [show o=some e from h]
   obtain ⟨w,e1,e2⟩:=E.at_ k e h2
   exact ⟨w,by simp [e1],e2⟩
def XN (K:PySem.W.Frag) (tg:Expr) (xs:List Str) (b:D→List (Option D)) (ds:List D):Prop:=
 ∀ X:Cx,X.K=K→X.calm=true→X.N.Nodup→(∀ (i:Nat) x,xs[i]?=some x→X.N[i]?=some x)→(∀ y∈xs,X.env.scope.names.lookup y=some .local)→∀ (pins:List (Addr×Obj)) (s:Shared) (os fv:L2.St) (H:Hp) (ad:List Addr) (v:V) (u:Value) (d:D),os.length=xs.length→L2.Inv X pins (os++fv) H s→RelV v u→Den K ad H v d→d∈ds→
  wpAny (model X.prog X.w) X.A (assign tg X.env u) (fun _ s'=>∃ bs,bs.length=xs.length∧EnvOk K ad H bs (b d)∧L2.Inv X pins (bs++fv) H s') X.xe s
theorem WE {K:PySem.W.Frag}{x:Str}{px:Pos}{ds:List D}:XN K (.Name x px) [x] one ds:=by
 intro X hK hc hN hx hl pins s os fv H ad v u d ho I r dv _
 obtain ⟨o,rfl⟩:∃ o,os=[o]:=by match os,ho with | [o],_=>exact ⟨o,rfl⟩
 have lx:=hl x List.mem_cons_self
 have pg:PG X (.Name x px) (gName 0):=pg_name hN (hx 0 x rfl) (.inl lx) (.inr lx)
 refine thn (pg pins s _ H v u (fun σ' H'=>σ'=[some v]++fv∧H'=H) I r ⟨rfl,rfl⟩) fun _ s' ⟨σ',H',I',e,e'⟩=>?_
 subst e; subst e'
 exact ⟨[some v],rfl,⟨rfl,fun i e h=>by
  cases i with
  | zero=>cases h; exact ⟨v,rfl,dv⟩
  | succ i=>exact nomatch (show (none:Option (Option D))=some (some e) from h)⟩,I'⟩
theorem US {K:PySem.W.Frag}{x y:Str}{px py tp:Pos}{k:Nat}{ds:List D} (hds:∀ d∈ds,∃ a b,d=.tup [a,b]):XN K (.Tuple [.Name x px,.Name y py] k tp) [x,y] two ds:=by
 intro X hK hc hN hx hl pins s os fv H ad v u d ho I r dv hd
 obtain ⟨o,o',rfl⟩:∃ o o',os=[o,o']:=by match os,ho with | [o,o'],_=>exact ⟨o,o',rfl⟩
 obtain ⟨a,b,rfl⟩:=hds d hd
 have lx:=hl x List.mem_cons_self
 have ly:=hl y (List.mem_cons_of_mem _ List.mem_cons_self)
 have g1:PG X (.Name x px) (gName 0):=pg_name hN (hx 0 x rfl) (.inl lx) (.inr lx)
 have g2:PG X (.Name y py) (gName 1):=pg_name hN (hx 1 y rfl) (.inl ly) (.inr ly)
 have pg:PG X (.Tuple [.Name x px,.Name y py] k tp) _:=pg_tup hc (pgs_cons g1 (pgs_cons g2 pgs_nil))
 obtain ⟨p,vs,rfl,ha,rv⟩:=dv.ofTup
 cases rv with
 | cons da rv=>cases rv with
  | cons db rv=>
   cases rv
   rename_i va vb
   refine thn (pg pins s _ H _ u (fun σ' H'=>σ'=[some va,some vb]++fv∧H'=H) I r ⟨p,[va,vb],rfl,by rw [hK]; exact ha.sq,rfl,va,[vb],rfl,vb,[],rfl,rfl,rfl,rfl⟩) fun _ s' ⟨σ',H',I',e,e'⟩=>?_
   subst e; subst e'
   exact ⟨[some va,some vb],rfl,⟨rfl,fun i e h=>by
    cases i with
    | zero=>cases h; exact ⟨va,rfl,da⟩
    | succ i=>cases i with
     | zero=>cases h; exact ⟨vb,rfl,db⟩
     | succ i=>exact nomatch (show (none:Option (Option D))=some (some e) from h)⟩,I'⟩
section
variable {X:Cx}{G:Gs}{F:Nat→Fn}{sc sc2:Scope}{N xs:List Str}
theorem Yq (h:Y3 sc sc2 xs=true):sc2.kind=.function∧(∀ p∈sc2.names,p.2≠.cell)∧(∀ x∈xs,sc2.names.lookup x=some .local)∧(∀ p∈sc2.names,p.2=.local→sc2.names.lookup p.1=some .local)∧(xs++ZO sc2).Nodup∧∀ y∈ZO sc2,W0 sc y=true∧sc2.names.lookup y=some .free:=by
 unfold Y3 at h
 simp only [Bool.and_eq_true,decide_eq_true_eq,List.all_eq_true,Bool.or_eq_true,Bool.not_eq_true',decide_eq_false_iff_not] at h
 obtain ⟨⟨⟨⟨⟨h1,h2⟩,h3⟩,h4⟩,h5⟩,h6⟩:=h
 exact ⟨h1,h2,h3,fun p hp e=>(h4 p hp).elim (fun z=>absurd e z) id,h5,h6⟩
theorem mem_frees {y:Str}:y∈ZO sc2↔(y,NameKind.free)∈sc2.names:=by
 unfold ZO
 rw [List.mem_map]
 constructor
 ·rintro ⟨⟨n,k⟩,h,rfl⟩
  rw [List.mem_filter] at h
  have:k=.free:=of_decide_eq_true h.2
  rw [←this]; exact h.1
 ·intro h
  exact ⟨(y,.free),List.mem_filter.mpr ⟨h,by simp⟩,rfl⟩
theorem mem_of_lookup {y:Str}{k:NameKind}:∀ {l:List (Str×NameKind)},l.lookup y=some k→(y,k)∈l
 | [],h=>by cases h
 | (n,q) :: l,h=>by
  rw [List.lookup_cons] at h
  split at h
  ·rename_i e
   cases h
   rw [beq_iff_eq.mp e]
   exact List.mem_cons_self
  ·exact List.mem_cons_of_mem _ (mem_of_lookup h)
theorem ZbZ (Kx:Cxt X G F sc N) (hsc:Y3 sc sc2 xs=true) {cl:List (Str×Addr)}{C:Addr}{s3:Shared}{H3:Hp}{fp:List Addr}{pins:List (Addr×Obj)}:Cxt (cxC X (xs++ZO sc2) (compEnvC sc2 cl C X.env) s3 H3 fp pins) G F sc2 (xs++ZO sc2):=by
 obtain ⟨h1,h2,h3,h4,h5,h6⟩:=Yq hsc
 exact {
  hN:=rfl
  vis:=fun y hy=>by
   rcases JN hy with z | z | z
   ·exact .inl (YF z (by intro q; cases q))
   ·exact absurd rfl (h2 _ (mem_of_lookup z))
   ·rcases YU (env:=X.env) z with w | w
    ·exact .inr (.inl w)
    ·exact .inr (.inr w)
  glb:=fun y hy=>YF (Ug hy) (by intro q; cases q)
  calm:=Kx.calm
  hu:=Kx.hu
  gl:=Kx.gl
  cel:=fun y hy=>by
   rcases Uf hy with z | z
   ·exact absurd rfl (h2 _ (mem_of_lookup z))
   ·exact YU z
  nx:=rfl }
theorem ZbU {ok:Za→Prop}{f c:D→Za→Res}{xs:List D}{st:Za}{r:List D×Za} (h:Ym ok f c xs st=some r):ok st:=by
 unfold Ym at h
 split at h
 ·split at h
  ·assumption
  ·cases h
 ·split at h
  ·assumption
  ·cases h
noncomputable def evB (F:Nat→Fn) (c:CE) (b:D→List (Option D)) (ρ:Env) (fr:List Nat):D→Za→Res:=fun d s=>ev F c (YD b ρ fr d) s
inductive CI (X:Cx) (tn:Nat→Heap→Prop) (fp:List Addr) (fv σ:L2.St) (ρ:Env) (w:Nat) (ds:List D) (go:List D→Za→Option (List D×Za)) (Good:List Addr→Hp→Prop) (dd:Addr) (ad2:List Addr) (H2:Hp) (st':Za) (ys:List D) (m:Nat) (s:Shared):Prop
 | mk (i:Nat) (o0:L2.St) (H:Hp) (ad:List Addr) (st:Za) (vs:List V) (es zs:List D) (him:i+m=ds.length) (hol:o0.length=w) (I:L2.Inv X [] (o0++fv) H s) (ti:tn i s.heap) (fi:∀ b∈fp,H b=none) (En:EnvOk X.K ad H σ ρ) (S:StOk X.K ad H st) (Gd:Good ad H) (nd:dd∉ad) (hv:H dd=some (.lst vs)) (rv:Dens X.K ad H vs es) (hel:es.length≤i)
  (hcp:go (ds.drop i) st=some (zs,st')) (hys:es++zs=ys) (ex:Ext ad2 H2 ad H):CI X tn fp fv σ ρ w ds go Good dd ad2 H2 st' ys m s
theorem ZaV (Kx:Cxt X G F sc2 N) {n:Nat} (ihE:Zr G F n) {elt iter tg:Expr}{pos:Pos}{ifs:List Expr}{fr:List Nat}{ce cc:CE}{bd:D→List (Option D)} (hce:cE G n sc2 N elt=some ce) (hcc:(ifs=[]∧cc=.cst (.bl true))∨∃ e,ifs=[e]∧cE G n sc2 N e=some cc)
  {J:It}{fp:List Addr}{it:Addr}{tn:Nat→Heap→Prop}{ds:List D}{ok:Za→Prop}{Good:List Addr→Hp→Prop} (gm:∀ ad H ad' H',Ext ad H ad' H'→Good ad H→Good ad' H') (gw:∀ ad H p xs ys,H p=some (.lst xs)→Good ad H→Good ad (upd H p (.lst ys)))
  (go:∀ i ad H st,Good ad H→StOk X.K ad H st→ok st→i < ds.length→J.go i H) (stop:∀ i ad H st,Good ad H→StOk X.K ad H st→ok st→ds.length=i→J.stop i H) (yl:∀ i ad H st v H',Good ad H→StOk X.K ad H st→ok st→J.yld i H v H'→i < ds.length→Ext ad H ad H'∧StOk X.K ad H' st∧∃ d,ds[i]?=some d∧Den X.K ad H' v d)
  (T:Turn X.prog X.w X.K tg J fp it tn) (B:XN X.K tg xs bd ds) (hN:X.N.Nodup) (hx:∀ (i:Nat) x,xs[i]?=some x→X.N[i]?=some x) (hl:∀ y∈xs,X.env.scope.names.lookup y=some .local) (exx:X.xe=fun _ _=>False)
  (fpk:∀ {H:Hp},(∀ b∈fp,H b=none)→∀ b∈fp,FpOk X [] H b) {fv σ:L2.St}{ρ:Env} (ec:∀ {ad H bs d},EnvOk X.K ad H σ ρ→EnvOk X.K ad H bs (bd d)→EnvOk X.K ad H (bs++fv) (YD bd ρ fr d)) {dd:Addr}{ad2:List Addr}{H2:Hp}{st':Za}{ys:List D} (D0:H2 dd=none) (hz:ds.length≤1000) {R:Result→Shared→Prop}
  (done:∀ s5 σ5 H ad vs,L2.Inv X [] σ5 H s5→StOk X.K ad H st'→dd∉ad→H dd=some (.lst vs)→Dens X.K ad H vs ys→Ext ad2 H2 ad H→R (.ok .next) s5) {s:Shared}{m:Nat} (h0:CI X tn fp fv σ ρ xs.length ds (Ym ok (evB F ce bd ρ fr) (evB F cc bd ρ fr)) Good dd ad2 H2 st' ys m s) :
  codeAny (model X.prog X.w) X.A (.compLoop (.ListComp elt [⟨tg,iter,ifs,0⟩] sc2 pos) 0 (.ref it) (.ref dd) X.env) R s:=by
 refine UZ _ (fun m s h=>?_) m h0
 cases h with
 | mk i o0 H ad st vs es zs him hol I ti fi En S Gd nd hv rv hel hcp hys ex=>
 have oks:=ZbU hcp
 have none_of:∀ {E:Value→Shared→Prop}{α:Type}{t:Sem α}{R:α→Shared→Prop}{s0:Shared},wpAny (model X.prog X.w) X.A t R X.xe s0→wpAny (model X.prog X.w) X.A t R E s0:=fun h=>by
  rw [exx] at h
  exact wpAny_mono h (fun _ _ q=>q) fun _ _ q=>q.elim
 by_cases hi:i < ds.length
 ·refine thn (T.item X rfl rfl rfl Kx.calm i [] s _ H _ I (fpk fi) ti (go i ad H st Gd S oks hi)) fun r s5 ⟨u,hr,h5'⟩=>?_
  subst hr
  refine thn h5' fun _ s6 ⟨v,H',I6,r6,y6,t6,f6⟩=>?_
  obtain ⟨x6,S6,d,ed,dv⟩:=yl i ad H st v H' Gd S oks y6 hi
  have hd:ds.drop i=d :: ds.drop (i+1):=by
   rw [List.drop_eq_getElem_cons hi]
   rw [List.getElem?_eq_getElem hi] at ed
   cases ed; rfl
  refine thn (none_of (B X rfl Kx.calm hN hx hl _ s6 o0 _ H' ad v u _ hol (I6.pinned (fpk f6) (T.obj _ _ t6)) r6 dv (List.mem_of_getElem? ed))) fun _ s7 ⟨bs,lb,Eb,I7⟩=>?_
  have En6:=En.mono x6
  have En7:=ec En6 Eb
  -- behind the item's turn
  have again:∀ {H9:Hp}{s9:Shared}{ad9:List Addr}{st9:Za}{vs9:List V}{es9 zs9:List D},L2.Inv X ([]++pinsAt fp s6.heap) (bs++fv) H9 s9→StOk X.K ad9 H9 st9→Good ad9 H9→dd∉ad9→H9 dd=some (.lst vs9)→Dens X.K ad9 H9 vs9 es9→es9.length≤i+1→
    Ym ok (evB F ce bd ρ fr) (evB F cc bd ρ fr) (ds.drop (i+1)) st9=some (zs9,st')→es9++zs9=ys→Ext ad2 H2 ad9 H9→EnvOk X.K ad9 H9 σ ρ→
    ∃ m',m' < m∧CI X tn fp fv σ ρ xs.length ds (Ym ok (evB F ce bd ρ fr) (evB F cc bd ρ fr)) Good dd ad2 H2 st' ys m' s9:=
   fun I9 S9 G9 n9 v9 r9 l9 c9 y9 x9 e9=>
    have pk:=fun b hb o e=>I9.pin (b,o) (List.mem_append_right _ (List.mem_append_right _ (mem_pinsAt hb e)))
    ⟨m - 1,by omega,.mk (i+1) bs _ _ _ _ _ _ (by omega) lb I9.unpinned (T.keep _ _ _ t6 fun b hb o e=>(pk b hb o e).1) (fun b hb=>let ⟨o,e,_⟩:=T.obj _ _ t6 b hb; (pk b hb o e).2.1) e9 S9 G9 n9 v9 r9 l9 c9 y9 x9⟩
  -- the tests
  have tests:∀ {k:Bool}{st2:Za},evB F cc bd ρ fr d st=some (.bl k,st2)→∀ {R:Bool→Shared→Prop}{E:Value→Shared→Prop},(∀ s8 H8 ad8,L2.Inv X ([]++pinsAt fp s6.heap) (bs++fv) H8 s8→Ext ad H' ad8 H8→StOk X.K ad8 H8 st2→R k s8)→
    wpAny (model X.prog X.w) X.A (forIn ifs true fun c r=>if r=true then do let ok ←isTrue c X.env (eval c X.env); pure (ForInStep.yield ok) else pure (ForInStep.yield r)) R E s7:=fun {k st2} q {R E} hR=>by
   rcases hcc with ⟨rfl,rfl⟩ | ⟨e,rfl,he⟩
   ·cases q
    exact wpAny_tests_nil (hR s7 H' ad I7 (Ext.refl _ _) S6)
   ·refine wpAny_tests_one (thn (none_of ((ihE X sc2 _ Kx e cc he).pt _ s7 _ H' (fun k' H8=>k'=k∧∃ ad8,Ext ad H' ad8 H8∧StOk X.K ad8 H8 st2) I7 ⟨ad,YD bd ρ fr d,st,k,st2,En7,S6,q,fun ad' H' x S'=>⟨rfl,ad',x,S'⟩⟩)) fun k' s8 ⟨H8,I8,e8,ad8,x8,S8⟩=>?_)
    subst e8; exact hR s8 H8 ad8 I8 x8 S8
  have n8:∀ {ad8 H8},Ext ad H' ad8 H8→dd∉ad8:=fun x8 z=>((x6.trans x8).new dd z).elim nd fun w=>by rw [hv] at w; cases w
  have v8:∀ {ad8 H8},Ext ad H' ad8 H8→H8 dd=some (.lst vs):=fun x8=>(x6.trans x8).keep dd _ hv nd
  have rv6:=rv.mono x6
  have ex6:=ex.trans x6
  have G6:=gm _ _ _ _ x6 Gd
  clear x6 En Eb ex Gd S I hv rv
  rw [hd] at hcp
  unfold Ym at hcp
  rw [if_pos oks] at hcp
  split at hcp
  ·rename_i st2 q1
   split at hcp
   ·rename_i y st3 q2
    split at hcp
    ·rename_i zs' st4 q3
     cases hcp
     refine tests q1 fun s8 H8 ad8 I8 x8 S8=>?_
     rw [if_pos rfl]
     refine thn (none_of ((ihE X sc2 _ Kx elt ce hce).pe _ s8 _ H8 (fun v8 H9=>∃ ad9,Ext ad8 H8 ad9 H9∧StOk X.K ad9 H9 st3∧Den X.K ad9 H9 v8 y) I8 ⟨ad8,YD bd ρ fr d,st2,y,st3,En7.mono x8,S8,q2,fun v8 ad' H' x S' dn=>⟨ad',x,S',dn⟩⟩)) fun u9 s9 ⟨v9,H9,I9,r9,ad9,x9,S9,d9⟩=>?_
     have x89:=x8.trans x9
     have hv9:=v8 x89
     have hlen:vs.length=es.length:=rv6.length
     refine thn (none_of (mt_append (X:=X) _ s9 _ H9 (.ref dd) [v9] (.ref dd) [u9] (fun _ H10=>H10=upd H9 dd (.lst (vs++[v9]))) I9 rfl (.cons r9 .nil) ⟨dd,vs,v9,rfl,rfl,hv9,Nat.lt_of_le_of_lt (show vs.length≤1000 by omega) (by decide),rfl⟩)) fun u10 s10 ⟨v10,H10,I10,r10,e10⟩=>?_
     subst e10
     have nd9:=n8 x89
     exact again (vs9:=vs++[v9]) (es9:=es++[y]) (zs9:=zs') I10 (S9.wr hv9 nd9) (gw _ _ _ _ _ hv9 (gm _ _ _ _ x89 G6)) nd9 upd_same (((rv6.mono x89).append (.cons d9 .nil)).wr hv9) (by rw [List.length_append,List.length_singleton]; omega) q3 (by rw [←hys,List.append_assoc]; rfl) ((ex6.trans x89).wr hv9 D0) ((En6.mono x89).wr hv9)
    ·cases hcp
   ·cases hcp
  ·rename_i st2 q1
   refine tests q1 fun s8 H8 ad8 I8 x8 S8=>?_
   rw [if_neg Bool.false_ne_true]
   exact again I8 S8 (gm _ _ _ _ x8 G6) (n8 x8) (v8 x8) (rv6.mono x8) (by omega) hcp hys (ex6.trans x8) (En6.mono x8)
  ·cases hcp
 ·refine thn (T.done X rfl rfl rfl Kx.calm i [] s _ H _ I (fpk fi) ti (stop i ad H st Gd S oks (by omega))) fun r s5 ⟨hr,I5⟩=>?_
  subst hr
  rw [List.drop_eq_nil_of_le (Nat.le_of_not_lt hi)] at hcp
  unfold Ym at hcp
  rw [if_pos oks] at hcp
  cases hcp
  rw [List.append_nil] at hys
  subst hys
  exact done s5 _ H ad vs I5 S nd hv rv ex
theorem Jd (Kx:Cxt X G F sc N) {n:Nat} (ihE:Zr G F n) {elt iter tg:Expr}{pos:Pos}{ifs:List Expr}{fr:List Nat}{ce cc:CE} (hsc:Y3 sc sc2 xs=true) (hfr:Y7 N (ZO sc2)=some fr)
  {bd:D→List (Option D)} (hce:cE G n sc2 (xs++ZO sc2) elt=some ce) (hcc:(ifs=[]∧cc=.cst (.bl true))∨∃ e,ifs=[e]∧cE G n sc2 (xs++ZO sc2) e=some cc) {cl:List (Str×Addr)}
  (c1:∀ y c,cl.lookup y=some c→X.env.cells.lookup y=some c) (c2:∀ y,(y,NameKind.free)∈sc2.names→(cl.lookup y).isSome)
  {J:It}{fp:List Addr}{it:Addr}{tn:Nat→Heap→Prop}{ds:List D}{ok:Za→Prop}{use:Option (Value→Sem Unit)}{R0:Value→Shared→Prop}{Good:List Addr→Hp→Prop} (gm:∀ ad H ad' H',Ext ad H ad' H'→Good ad H→Good ad' H') (gw:∀ ad H p xs ys,H p=some (.lst xs)→Good ad H→Good ad (upd H p (.lst ys)))
  (go:∀ i ad H st,Good ad H→StOk X.K ad H st→ok st→i < ds.length→J.go i H) (stop:∀ i ad H st,Good ad H→StOk X.K ad H st→ok st→ds.length=i→J.stop i H) (yl:∀ i ad H st v H',Good ad H→StOk X.K ad H st→ok st→J.yld i H v H'→i < ds.length→Ext ad H ad H'∧StOk X.K ad H' st∧∃ d,ds[i]?=some d∧Den X.K ad H' v d)
  {pins:List (Addr×Obj)}{σ:L2.St}{H2:Hp}{s2 s3:Shared}{dd:Addr}{h₁:Heap}{m0:Str→Option Value}{tk:Nat}{Q:VK}{ad2:List Addr}{ρ:Env}{st1 st':Za}{ys:List D} (B:XN X.K tg xs bd ds) (T:Turn X.prog X.w X.K tg J fp it tn) (t2:tn 0 s2.heap) (f2:∀ b∈fp,FpOk X pins H2 b) (fb:∀ b∈fp,b < dd)
  (E2:EnvOk X.K ad2 H2 σ ρ) (S2:StOk X.K ad2 H2 st1) (g2:Good ad2 H2) (hcomp:Ym ok (fun d s=>ev F ce (YD bd ρ fr d) s) (fun d s=>ev F cc (YD bd ρ fr d) s) ds st1=some (ys,st')) (hz:ds.length≤1000) (hp:Post X.K ad2 H2 (.lst st'.length) (st'++[(true,ys)]) Q)
  (hend:∀ C dd s5 H5 m',s5.heap.Ns C m'→(∀ h',Heap.SameBut C s5.heap h'→L2.Inv X pins σ H5 { s5 with heap:=h' })→FpOk X pins H5 C→Q (.ref dd) H5→compPost (model X.prog X.w) X.A X.xe use R0 (.ref dd) C (.ok .next) s5)  (D0:H2 dd=none) (I3:L2.Inv X pins σ (upd H2 dd (.lst [])) s3) (z3:s3.heap.objs.size=dd+1) (nad:dd∉ad2) (hns₁:h₁.Ns s3.heap.objs.size m0) (up:∀ b u,s3.heap.get? b=some u→h₁.get? b=some u) (up0:∀ b u,s2.heap.get? b=some u→s3.heap.get? b=some u) :
  codeAny (model X.prog X.w) X.A (.compStart (.ListComp elt [⟨tg,iter,ifs,0⟩] sc2 pos) 0 (.ref it) (.ref dd) (compEnvC sc2 cl s3.heap.objs.size X.env)) (compPost (model X.prog X.w) X.A X.xe use R0 (.ref dd) s3.heap.objs.size) { s3 with heap:=h₁,toks:=tk }:=by
 obtain ⟨h1,h2,h3,h4,h5,h6⟩:=Yq hsc
 have f3:∀ b∈fp,FpOk X pins (upd H2 dd (.lst [])) b:=fun b hb=>⟨by rw [upd_ne (Nat.ne_of_lt (fb b hb))]; exact (f2 b hb).1,(f2 b hb).2⟩
 obtain ⟨fl,fg⟩:=Vd hfr
 have I4:=Zcu (N:=xs++ZO sc2) (cl:=cl) (fp:=fp) (tk:=tk) (σ':=List.replicate xs.length none++fr.map fun i=>(σ[i]?).join) I3 h1 h2 hns₁ up c1 (fun y e=>c2 y (mem_of_lookup e)) f3 (fun b hb=>by rw [z3]; exact Nat.lt_succ_of_lt (fb b hb)) (fun i y v e1 e2=>by
  by_cases hi:i < xs.length
  ·rw [List.getElem?_append_left (by simpa using hi),List.getElem?_replicate,if_pos hi] at e2; cases e2
  ·have hi:xs.length≤i:=Nat.le_of_not_lt hi
   rw [List.getElem?_append_right (by simpa using hi),List.getElem?_map,List.length_replicate] at e2
   rw [List.getElem?_append_right hi] at e1
   cases q:fr[i - xs.length]? with
   | none=>rw [q] at e2; cases e2
   | some k=>
    rw [q] at e2
    have e2:(σ[k]?).join=some v:=by simpa using e2
    have e3:σ[k]?=some (some v):=by
     cases w:σ[k]? with
     | none=>rw [w] at e2; cases e2
     | some o=>rw [w] at e2; rw [show o=some v from e2]
    obtain ⟨y',g1,g2⟩:=fg _ k q
    rw [e1] at g1; cases g1
    obtain ⟨k1,k2⟩:=h6 y (List.mem_of_getElem? e1)
    exact ⟨k,by rw [Kx.hN]; exact g2,e3,k2,Kx.cel y k1⟩) (by simp [fl])
 have K':=ZbZ (cl:=cl) (C:=s3.heap.objs.size) (s3:=s3) (H3:=upd H2 dd (.lst [])) (fp:=fp) (pins:=pins) Kx hsc
 have loop:=ZaV (R:=compPost (model X.prog X.w) X.A X.xe use R0 (.ref dd) s3.heap.objs.size) (pos:=pos) (iter:=iter) K' ihE hce hcc gm gw go stop yl T B h5 (fun i x e=>by show (xs++ZO sc2)[i]?=some x; rw [List.getElem?_append_left (List.getElem?_eq_some_iff.mp e).1]; exact e) (fun y hy=>YF (h3 y hy) (by intro q; cases q)) rfl (fun {H} hn b hb=>⟨hn b hb,by
  show b≠s3.heap.objs.size
  rw [z3]; exact Nat.ne_of_lt (Nat.lt_succ_of_lt (fb b hb)),fun hs=>(List.mem_cons.mp (I3.stkSub b hs)).elim (f2 b hb).2.1 (f2 b hb).2.2.1,.inl hb,fun y c e=>(f2 b hb).2.2.2.2.1 y c (c1 _ _ e),fun p hp=>(f2 b hb).2.2.2.2.2 p (by simpa [cxC] using hp)⟩) (σ:=σ) (ρ:=ρ) (fr:=fr) (fun a b=>Zb1 a b) (dd:=dd) (ad2:=ad2) (H2:=H2) (st':=st') (ys:=ys) D0 hz (fun s5 σ5 H ad vs I5 S nd hv rv ex=>by
   obtain ⟨m',hn,_⟩:=I5.loc
   refine hend s3.heap.objs.size dd s5 H m' hn (fun h' sb=>Zct I3 rfl I5 sb f3) (I3.fpOk (Nat.le_refl _) I5.free) (hp (.ref dd) (ad++[dd]) H ⟨fun j a e=>Y9 (ex.pre j a e),ex.tup,ex.dk,ex.keep,fun b hb=>?_,ex.kd⟩ (S.adopt hv nd rv) (.lst ⟨by rw [←S.len]; exact ZL,Uw hv fun _ z=>nomatch z⟩))
   rcases List.mem_append.mp hb with z | z
   ·exact ex.new b z
   ·rw [List.mem_singleton.mp z]; exact .inr D0)
  (.mk 0 (List.replicate xs.length none) (upd H2 dd (.lst [])) ad2 st1 [] [] ys (Nat.zero_add _) (List.length_replicate ..) I4 (T.keep _ _ _ t2 fun b _ o e=>up b o (up0 b o e)) (fun b hb=>(f3 b hb).1) (E2.mono (Ext.laid D0)) (S2.laid D0) (gm _ _ _ _ (Ext.laid D0) g2) nad upd_same .nil (Nat.le_refl _) hcomp rfl (Ext.laid D0))
 exact codeAny_compStart_list loop (T.self X.A 0 _ _ _ (T.keep _ _ _ t2 fun b _ o e=>up b o (up0 b o e)) loop)
theorem ZaU (Kx:Cxt X G F sc N) {n:Nat} (ihE:Zr G F n) {elt iter tg:Expr}{pos:Pos}{ifs:List Expr}{fr:List Nat}{ce cc:CE} (hsc:Y3 sc sc2 xs=true) (hfr:Y7 N (ZO sc2)=some fr)
  {bd:D→List (Option D)} (hce:cE G n sc2 (xs++ZO sc2) elt=some ce) (hcc:(ifs=[]∧cc=.cst (.bl true))∨∃ e,ifs=[e]∧cE G n sc2 (xs++ZO sc2) e=some cc) {cl:List (Str×Addr)}
  (c1:∀ y c,cl.lookup y=some c→X.env.cells.lookup y=some c) (c2:∀ y,(y,NameKind.free)∈sc2.names→(cl.lookup y).isSome)
  {J:It}{fp:List Addr}{it:Addr}{tn:Nat→Heap→Prop}{ds:List D}{ok:Za→Prop}{use:Option (Value→Sem Unit)}{R0:Value→Shared→Prop} (Good:List Addr→Hp→Prop) (gm:∀ ad H ad' H',Ext ad H ad' H'→Good ad H→Good ad' H') (gw:∀ ad H p xs ys,H p=some (.lst xs)→Good ad H→Good ad (upd H p (.lst ys)))
  (go:∀ i ad H st,Good ad H→StOk X.K ad H st→ok st→i < ds.length→J.go i H) (stop:∀ i ad H st,Good ad H→StOk X.K ad H st→ok st→ds.length=i→J.stop i H) (yl:∀ i ad H st v H',Good ad H→StOk X.K ad H st→ok st→J.yld i H v H'→i < ds.length→Ext ad H ad H'∧StOk X.K ad H' st∧∃ d,ds[i]?=some d∧Den X.K ad H' v d)
  {pins:List (Addr×Obj)}{σ:L2.St}{H2:Hp}{s2:Shared}{Q:VK}{ad2:List Addr}{ρ:Env}{st1 st':Za}{ys:List D} (I2:L2.Inv X pins σ H2 s2) (B:XN X.K tg xs bd ds) (T:Turn X.prog X.w X.K tg J fp it tn) (t2:tn 0 s2.heap) (f2:∀ b∈fp,FpOk X pins H2 b)
  (E2:EnvOk X.K ad2 H2 σ ρ) (S2:StOk X.K ad2 H2 st1) (g2:Good ad2 H2) (hcomp:Ym ok (fun d s=>ev F ce (YD bd ρ fr d) s) (fun d s=>ev F cc (YD bd ρ fr d) s) ds st1=some (ys,st')) (hz:ds.length≤1000) (hp:Post X.K ad2 H2 (.lst st'.length) (st'++[(true,ys)]) Q)
  (hend:∀ C dd s5 H5 m',s5.heap.Ns C m'→(∀ h',Heap.SameBut C s5.heap h'→L2.Inv X pins σ H5 { s5 with heap:=h' })→FpOk X pins H5 C→Q (.ref dd) H5→compPost (model X.prog X.w) X.A X.xe use R0 (.ref dd) C (.ok .next) s5) :
  wpAny (model X.prog X.w) X.A (newList []) (fun acc s₃=>wpAny (model X.prog X.w) X.A (newFunctionEnv sc2 X.env.globals cl [] X.env.qual none .none (some X.env)) (fun cenv s₄=>
   codeAny (model X.prog X.w) X.A (.compStart (.ListComp elt [⟨tg,iter,ifs,0⟩] sc2 pos) 0 (.ref it) acc { cenv with scope:=relabel sc2 X.env }) (compPost (model X.prog X.w) X.A X.xe use R0 acc cenv.locals) s₄) X.xe s₃) X.xe s2:=by
 obtain ⟨h1,h2,h3,h4,h5,h6⟩:=Yq hsc
 have fb:∀ b∈fp,b < s2.heap.objs.size:=fun b hb=>let ⟨o,e,_⟩:=T.obj 0 _ t2 b hb; Heap.lt_size e
 refine wpAny_newObj_type (wpAny_newFunctionEnv h2 (by intro y hy; simp at hy) (fun h₁ hns₁ hsb₁=>?_) h1)
 dsimp only at hns₁ hsb₁ ⊢
 have I3:L2.Inv X pins σ (upd H2 s2.heap.objs.size (.lst [])) { s2 with heap:=s2.heap.push { cls:=.type "list",dict:=none,data:=.seq ([]:List Value).toArray } }:=I2.lnew (its:=[]) (t':=s2.toks) .nil (Nat.zero_le _)
 have e3:s2.heap.push { cls:=.type "list",dict:=none,data:=.seq ([]:List Value).toArray }=({ s2 with heap:=s2.heap.push { cls:=.type "list",dict:=none,data:=.seq ([]:List Value).toArray } }:Shared).heap:=rfl
 exact Jd Kx ihE hsc hfr hce hcc c1 c2 gm gw go stop yl B T t2 f2 fb E2 S2 g2 hcomp hz hp hend (I2.hok.fresh (Nat.le_refl _)) I3 (Heap.size_push ..) (fun z=>absurd (S2.lt I2 z) (Nat.lt_irrefl _)) hns₁ (fun b u e=>hsb₁.extBut b u (Nat.ne_of_lt (Heap.lt_size e)) (Heap.get?_push_of_some _ e)) (fun b u e=>Heap.get?_push_of_some _ e)
end
end Dp



namespace Dp
open PySem PySem.Spec PyProof.Rows L2
variable [ClsTab]
def UN (X:Cx) (σ:L2.St) (ρ:Env) (ds:List D) (ok:Za→Prop) (st1 st2:Za) (ys:List D) (Q:VK) (J:It) (H1:Hp):Prop:=
 ∃ (ad1:List Addr) (Good:List Addr→Hp→Prop),(∀ ad H ad' H',Ext ad H ad' H'→Good ad H→Good ad' H')∧(∀ ad H p xs ys,H p=some (.lst xs)→Good ad H→Good ad (upd H p (.lst ys))) ∧
  (∀ i ad H st,Good ad H→StOk X.K ad H st→ok st→i < ds.length→J.go i H)∧(∀ i ad H st,Good ad H→StOk X.K ad H st→ok st→ds.length=i→J.stop i H)∧(∀ i ad H st v H',Good ad H→StOk X.K ad H st→ok st→J.yld i H v H'→i < ds.length→Ext ad H ad H'∧StOk X.K ad H' st∧∃ d,ds[i]?=some d∧Den X.K ad H' v d) ∧
  EnvOk X.K ad1 H1 σ ρ∧StOk X.K ad1 H1 st1∧Good ad1 H1∧Post X.K ad1 H1 (.lst st2.length) (st2++[(true,ys)]) Q
theorem UX {X:Cx}{σ:L2.St}{ρ:Env}{ds:List D}{st st1 st2:Za}{ys:List D}{Q:VK}{H:Hp}{ad:List Addr}{f:Ev} (E:EnvOk X.K ad H σ ρ) (S:StOk X.K ad H st) (q:f ρ st=some (.tup ds,st1)) (p:Post X.K ad H (.lst st2.length) (st2++[(true,ys)]) Q) :
  iTup X.K (tE X.K f) σ H (UN X σ ρ ds (fun _=>True) st1 st2 ys Q):=by
 refine ⟨ad,ρ,st,.tup ds,st1,E,S,q,fun v ad1 H1 x1 S1 d1=>?_⟩
 obtain ⟨a,vs,rfl,ha,rv⟩:=d1.ofTup
 refine ⟨a,rfl,⟨vs,(ha).sq⟩,ad1,fun ad H=>TupAt X.K H a vs∧Dens X.K ad H vs ds,fun _ _ _ _ x g=>⟨g.1.mono x,g.2.mono x⟩,fun _ H p xs ys hp g=>⟨g.1.upd hp (by intro xs z; cases z),g.2.wr hp⟩,fun i ad H st g _ _ hi=>?_,fun i ad H st g _ _ hi=>⟨vs,(g.1).sq,by rw [g.2.length]; exact Nat.le_of_eq hi⟩,
  fun i ad H st v H' g S _ y hi=>?_,E.mono x1,S1,⟨ha,rv⟩,p.later x1⟩
 ·obtain ⟨v,e,_⟩:=g.2.get (List.getElem?_eq_getElem hi)
  exact ⟨vs,v,(g.1).sq,e⟩
 ·obtain ⟨w,e,dw⟩:=g.2.get (List.getElem?_eq_getElem hi)
  have:=y.2 vs ((g.1).sq)
  rw [e] at this; cases this
  cases y.1
  exact ⟨Ext.refl _ _,S,_,List.getElem?_eq_getElem hi,dw⟩
theorem ZbR {X:Cx}{σ:L2.St}{ρ:Env}{n:Int}{st st1 st2:Za}{ys:List D}{Q:VK}{H:Hp}{ad:List Addr}{f:Ev} (hn:n < 2 ^ 62∧-(2 ^ 62)≤n) (E:EnvOk X.K ad H σ ρ) (S:StOk X.K ad H st) (q:f ρ st=some (.int n,st1)) (p:Post X.K ad H (.lst st2.length) (st2++[(true,ys)]) Q) :
  iRng1 (tCons (tE X.K f) tNil) σ H (UN X σ ρ ((List.range n.toNat).map fun (k:Nat)=>D.int (k:Int)) (fun _=>True) st1 st2 ys Q):=by
 refine ⟨ad,ρ,st,.int n,st1,E,S,q,fun v ad1 H1 x1 S1 d1=>?_⟩
 cases d1.ofInt
 refine ⟨n,rfl,hn.2,hn.1,ad1,fun _ _=>True,fun _ _ _ _ _ _=>trivial,fun _ _ _ _ _ _ _=>trivial,fun i ad H st _ _ _ hi=>(show i < n.toNat by simpa using hi),fun i ad H st _ _ _ hi=>(show n.toNat≤i by simpa using Nat.le_of_eq hi),fun i ad H st v H' _ S _ y hi=>?_,E.mono x1,S1,trivial,p.later x1⟩
 cases y.1
 have hi':i < n.toNat:=by simpa using hi
 refine ⟨Ext.refl _ _,S,.int (i:Int),?_,?_⟩
 ·rw [List.getElem?_map,List.getElem?_range hi']; rfl
 ·rw [y.2,Int.zero_add]; exact .int _
theorem ZbQ {X:Cx}{σ:L2.St}{ρ:Env}{l:Nat}{c:V4}{st st1 st2:Za}{ys:List D}{Q:VK}{H:Hp}{ad:List Addr}{f:Ev} (E:EnvOk X.K ad H σ ρ) (S:StOk X.K ad H st) (q:f ρ st=some (.lst l,st1)) (hc:st1[l]?=some c) (p:Post X.K ad H (.lst st2.length) (st2++[(true,ys)]) Q) :
  iList X.K (tE X.K f) σ H (UN X σ ρ c.2 (fun s=>s[l]?=some c) st1 st2 ys Q):=by
 refine ⟨ad,ρ,st,.lst l,st1,E,S,q,fun v ad1 H1 x1 S1 d1=>?_⟩
 obtain ⟨a,rfl,ha⟩:=d1.ofLst
 obtain ⟨vs,rv,sq⟩:=S1.list ha (show st1[l]?=some (c.1,c.2) from hc)
 refine ⟨a,rfl,⟨vs,sq⟩,ad1,fun ad H=>LA ad H l a,fun _ _ _ _ x g=>g.mono x,fun _ _ _ _ _ e g=>⟨g.1,fun z=>g.2 ((Ut e).mpr z)⟩,fun i ad H st g S e hi=>?_,fun i ad H st g S e hi=>?_,fun i ad H st v H' g S e y hi=>?_,E.mono x1,S1,ha,p.later x1⟩
 ·obtain ⟨vs,rv,sq⟩:=S.list g (show st[l]?=some (c.1,c.2) from e)
  obtain ⟨v,e,_⟩:=rv.get (List.getElem?_eq_getElem hi)
  exact ⟨vs,v,sq,e⟩
 ·obtain ⟨vs,rv,sq⟩:=S.list g (show st[l]?=some (c.1,c.2) from e)
  exact ⟨vs,sq,by rw [rv.length]; exact Nat.le_of_eq hi⟩
 ·obtain ⟨vs,rv,sq⟩:=S.list g (show st[l]?=some (c.1,c.2) from e)
  obtain ⟨w,e,dw⟩:=rv.get (List.getElem?_eq_getElem hi)
  have:=y.2 vs sq
  rw [e] at this; cases this
  cases y.1
  exact ⟨Ext.refl _ _,S,_,List.getElem?_eq_getElem hi,dw⟩
theorem ZaS {X:Cx}{σ:L2.St}{ρ:Env}{x0:D}{ds:List D}{ok:Za→Prop}{st st1 st2:Za}{ys:List D}{Q:VK}{H:Hp}{ad:List Addr}{fa fb:Ev} (E:EnvOk X.K ad H σ ρ) (S:StOk X.K ad H st) (q:Ye fa fb QM ρ st=some (x0,st1)) (hw:VY false x0 st1=some (ds,ok)) (p:Post X.K ad H (.lst st2.length) (st2++[(true,ys)]) Q) :
  iRng2 (tCons (tE X.K fa) (tCons (tE X.K fb) tNil)) σ H (UN X σ ρ ds ok st1 st2 ys Q):=by
 unfold Ye at q
 split at q
 ·rename_i da s1 qa
  split at q
  ·rename_i db s2 qb
   unfold QM at q
   split at q
   ·rename_i a b
    split at q
    ·rename_i hr
     cases q
     cases hw
     unfold Zs at hr
     simp only [decide_eq_true_eq] at hr
     have hN:Zw a b 1=(b - a).toNat:=by
      unfold Zw
      rw [if_pos (by decide)]
      split
      ·rw [Int.ediv_one]; omega
      ·omega
     have hl:((Zt a b 1).map D.int).length=(b - a).toNat:=by unfold Zt; rw [List.length_map,List.length_map,List.length_range,hN]
     refine ⟨ad,ρ,st,.int a,s1,E,S,qa,fun v ad1 H1 x1 S1 d1=>?_⟩
     cases d1.ofInt
     refine ⟨ad1,ρ,s1,.int b,_,E.mono x1,S1,qb,fun w ad2 H2 x2 S2 d2=>?_⟩
     cases d2.ofInt
     refine ⟨a,b,rfl,⟨by omega,by omega,by omega,by omega⟩,ad2,fun _ _=>True,fun _ _ _ _ _ _=>trivial,fun _ _ _ _ _ _ _=>trivial,fun i ad H st _ _ _ hi=>(show i < (b - a).toNat by omega),fun i ad H st _ _ _ hi=>(show (b - a).toNat≤i by omega),fun i ad H st v H' _ S _ y hi=>?_,E.mono (x1.trans x2),S2,trivial,p.later (x1.trans x2)⟩
     cases y.1
     have hi':i < Zw a b 1:=by omega
     refine ⟨Ext.refl _ _,S,.int (a+(i:Int)),?_,?_⟩
     ·unfold Zt
      rw [List.getElem?_map,List.getElem?_map,List.getElem?_range hi']
      show some (D.int (a+(i:Int) * 1))=_
      rw [Int.mul_one]
     ·rw [y.2]; exact .int _
    ·cases q
   ·cases q
  ·cases q
 ·cases q
theorem ZbS {X:Cx}{σ:L2.St}{ρ:Env}{z:Str}{st st1 st2:Za}{ys:List D}{Q:VK}{H:Hp}{ad:List Addr}{f:Ev} (ha:z.cps.all (fun c=>decide (c < 128))=true) (E:EnvOk X.K ad H σ ρ) (S:StOk X.K ad H st) (q:f ρ st=some (.str z,st1)) (p:Post X.K ad H (.lst st2.length) (st2++[(true,ys)]) Q) :
  ZhN (tE X.K f) σ H (UN X σ ρ ((chS z).map D.str) (fun _=>True) st1 st2 ys Q):=by
 refine ⟨ad,ρ,st,.str z,st1,E,S,q,fun v ad1 H1 x1 S1 d1=>?_⟩
 cases d1
 have hl:((chS z).map D.str).length=z.cps.size:=by simp [chS]
 refine ⟨z,rfl,ha,ad1,fun _ _=>True,fun _ _ _ _ _ _=>trivial,fun _ _ _ _ _ _ _=>trivial,fun i ad H st _ _ _ hi=>(show i < z.cps.size by omega),fun i ad H st _ _ _ hi=>(show z.cps.size≤i by omega),fun i ad H st v H' _ S _ y hi=>?_,E.mono x1,S1,trivial,p.later x1⟩
 obtain ⟨rfl,c,hc,rfl⟩:=y
 refine ⟨Ext.refl _ _,S,.str ⟨#[c]⟩,?_,.str _⟩
 unfold chS
 rw [List.getElem?_map,List.getElem?_map,Array.getElem?_toList,hc]
 rfl
theorem VB:∀ {xs:List D}{k i:Nat},(Y4 k xs)[i]?=(xs[i]?).map fun x=>.tup [.int ((k+i:Nat):Int),x]
 | [],_,_=>rfl
 | x :: xs,k,0=>rfl
 | x :: xs,k,i+1=>by
  show (Y4 (k+1) xs)[i]?=_
  rw [VB,show k+1+i=k+(i+1) by omega]
  rfl
theorem Xa:∀ {xs:List D}{k:Nat},(Y4 k xs).length=xs.length
 | [],_=>rfl
 | x :: xs,k=>congrArg (·+1) Xa
theorem XU:∀ {xs:List D}{k:Nat},∀ d∈Y4 k xs,∃ a b,d=.tup [a,b]
 | [],_,_,h=>nomatch h
 | x :: xs,k,d,h=>by
  rcases List.mem_cons.mp h with rfl | h
  ·exact ⟨_,_,rfl⟩
  ·exact XU d h
theorem ZaR {X:Cx}{σ:L2.St}{ρ:Env}{x:D}{ds:List D}{ok:Za→Prop}{st st1 st2:Za}{ys:List D}{Q:VK}{H:Hp}{ad:List Addr}{f:Ev} (E:EnvOk X.K ad H σ ρ) (S:StOk X.K ad H st) (q:f ρ st=some (x,st1)) (hw:V0 x st1=some (ds,ok)) (p:Post X.K ad H (.lst st2.length) (st2++[(true,ys)]) Q) :
  J3 X.K (tCons (tE X.K f) tNil) σ H (UN X σ ρ ds ok st1 st2 ys Q):=by
 have core:∀ {sq:Hp→List V→Prop}{xs:List D}{ok:Za→Prop}{ad1:List Addr}{H1:Hp} (Good:List Addr→Hp→Prop),(∀ ad H ad' H',Ext ad H ad' H'→Good ad H→Good ad' H')→(∀ ad H p xs ys,H p=some (.lst xs)→Good ad H→Good ad (upd H p (.lst ys)))→Good ad1 H1→
   (∀ ad H st,Good ad H→StOk X.K ad H st→ok st→∃ vs,Dens X.K ad H vs xs∧sq H vs)→EnvOk X.K ad1 H1 σ ρ→StOk X.K ad1 H1 st1→Post X.K ad1 H1 (.lst st2.length) (st2++[(true,ys)]) Q→UN X σ ρ (Y4 0 xs) ok st1 st2 ys Q (Ite sq) H1:=
  fun {sq xs ok ad1 H1} Good gm gw g1 hv E1 S1 p1=>by
   refine ⟨ad1,Good,gm,gw,fun i ad H st g S e hi=>?_,fun i ad H st g S e hi=>?_,fun i ad H st v H' g S e y hi=>?_,E1,S1,g1,p1⟩
   ·rw [Xa] at hi
    obtain ⟨vs,rv,sq⟩:=hv ad H st g S e
    obtain ⟨v,e,_⟩:=rv.get (List.getElem?_eq_getElem hi)
    exact ⟨vs,v,sq,e⟩
   ·rw [Xa] at hi
    obtain ⟨vs,rv,sq⟩:=hv ad H st g S e
    exact ⟨vs,sq,by rw [rv.length]; exact hi⟩
   ·rw [Xa] at hi
    obtain ⟨vs,rv,sq⟩:=hv ad H st g S e
    obtain ⟨w,e,dw⟩:=rv.get (List.getElem?_eq_getElem hi)
    obtain ⟨T,x,rfl,hT,rfl,hx⟩:=y
    have:=hx vs sq
    rw [e] at this; cases this
    refine ⟨Ext.laid hT,S.laid hT,_,by rw [VB,List.getElem?_eq_getElem hi]; rfl,.tup (.inl upd_same) (.cons ?_ (.cons (dw.mono (Ext.laid hT)) .nil))⟩
    rw [Nat.zero_add]
    exact .int _
 refine ⟨ad,ρ,st,x,st1,E,S,q,fun v ad1 H1 x1 S1 d1=>?_⟩
 cases x with
 | tup xs=>
  cases hw
  obtain ⟨a,vs,rfl,ha,rv⟩:=d1.ofTup
  exact ⟨a,rfl,.inr ⟨⟨vs,ha.sq⟩,core (fun ad H=>TupAt X.K H a vs∧Dens X.K ad H vs xs) (fun _ _ _ _ x g=>⟨g.1.mono x,g.2.mono x⟩) (fun _ H p xs ys hp g=>⟨g.1.upd hp (by intro xs z; cases z),g.2.wr hp⟩) ⟨ha,rv⟩ (fun ad H st g _ _=>⟨vs,g.2,g.1.sq⟩) (E.mono x1) S1 (p.later x1)⟩⟩
 | lst l=>
  have hw:(match st1[l]? with
   | some c=>some (Y4 0 c.2,fun s=>s[l]?=some c)
   | none=>none)=some (ds,ok):=hw
  cases hc:st1[l]? with
  | none=>rw [hc] at hw; cases hw
  | some c=>
   rw [hc] at hw
   cases hw
   obtain ⟨a,rfl,ha⟩:=d1.ofLst
   obtain ⟨vs,rv,sq⟩:=S1.list ha (show st1[l]?=some (c.1,c.2) from hc)
   exact ⟨a,rfl,.inl ⟨⟨vs,sq⟩,core (fun ad H=>LA ad H l a) (fun _ _ _ _ x g=>g.mono x) (fun _ _ _ _ _ e g=>⟨g.1,fun z=>g.2 ((Ut e).mpr z)⟩) ha (fun ad H st g S e=>S.list g (show st[l]?=some (c.1,c.2) from e)) (E.mono x1) S1 (p.later x1)⟩⟩
 | _=>cases hw
theorem Zbr {x:D}{st:Za}{ds:List D}{ok:Za→Prop} (h:V0 x st=some (ds,ok)):∀ d∈ds,∃ a b,d=.tup [a,b]:=by
 cases x with
 | tup xs=>cases h; exact XU
 | lst l=>
  unfold V0 at h
  simp only at h
  split at h
  ·cases h; exact XU
  ·cases h
 | _=>cases h
theorem Zbs {x:D}{st:Za}{ds:List D}{ok:Za→Prop} (h:ZaD x st=some (ds,ok)):x=.tup ds∧ok=(fun _=>True)∧∀ d∈ds,∃ a b,d=.tup [a,b]:=by
 unfold ZaD at h
 split at h
 ·split at h
  ·rename_i ha
   cases h
   refine ⟨rfl,rfl,fun d hd=>?_⟩
   have:=List.all_eq_true.mp ha d hd
   unfold Zeq at this
   split at this
   ·exact ⟨_,_,rfl⟩
   ·cases this
  ·cases h
 ·cases h
theorem Zbp {tg:Expr}{xs:List Str} (h:tgN tg=some xs):(∃ x px,tg=.Name x px∧xs=[x])∨∃ x y px py k tp,tg=.Tuple [.Name x px,.Name y py] k tp∧xs=[x,y]:=by
 unfold tgN at h
 split at h
 ·cases h; exact .inl ⟨_,_,rfl,rfl⟩
 ·rename_i es k tp
  have nm:∀ {e:Expr}{x:Str},nmE e=some x→∃ p,e=.Name x p:=fun {e x} h=>by
   unfold nmE at h
   split at h
   ·cases h; exact ⟨_,rfl⟩
   ·cases h
  cases es with
  | nil=>cases h
  | cons a es=>cases es with
   | nil=>cases h
   | cons b es=>cases es with
    | cons _ _=>cases h
    | nil=>
     refine Yf (P:=fun xs=>_∨∃ x y px py k' tp',Expr.Tuple [a,b] k tp=.Tuple [.Name x px,.Name y py] k' tp'∧xs=[x,y]) h fun x y hx hy=>?_
     obtain ⟨px,rfl⟩:=nm hx
     obtain ⟨py,rfl⟩:=nm hy
     exact .inr ⟨x,y,px,py,k,tp,rfl,rfl⟩
 ·cases h
inductive CSh (G:Gs) (n:Nat) (sc:Scope) (N:List Str) (elt:Expr) (sc2:Scope):List Comprehension→CE→Prop
 | mk {tg it:Expr}{ifs:List Expr}{xs:List Str}{fr:List Nat}{r:Option (Option Bool)}{ci ce cc:CE} (htg:tgN tg=some xs) (hsc:Y3 sc sc2 xs=true) (hfr:Y7 N (ZO sc2)=some fr) (hi:itC G sc it (cE G n sc N) xs=some (r,ci)) (hce:cE G n sc2 (xs++ZO sc2) elt=some ce) (hcc:(ifs=[]∧cc=.cst (.bl true))∨∃ e,ifs=[e]∧cE G n sc2 (xs++ZO sc2) e=some cc):CSh G n sc N elt sc2 [⟨tg,it,ifs,0⟩] (mkC r fr ci ce cc)
theorem Zd0 {G:Gs}{n:Nat}{sc:Scope}{N:List Str}{elt:Expr}{gens:List Comprehension}{sc2:Scope}{pos:Pos}{c:CE} (h:cE G (n+1) sc N (.ListComp elt gens sc2 pos)=some c):CSh G n sc N elt sc2 gens c:=by
 replace h:ZfA G sc sc2 N (cE G n sc N) (cE G n sc2) elt gens=some c:=h
 have no:∀ {P:Prop},(none:Option CE)=some c→P:=fun z=>nomatch z
 cases gens with
 | nil=>exact no h
 | cons g gs=>
  obtain ⟨tg,it,ifs,k⟩:=g
  cases k with
  | negSucc _=>cases gs<;>exact no h
  | ofNat m=>cases m with
   | succ _=>cases gs<;>exact no h
   | zero=>cases gs with
    | cons _ _=>exact no h
    | nil=>
     replace h:(match tgN tg with
      | none=>none
      | some xs=>og (Y3 sc sc2 xs=true) (o3 (fun fr p (q:CE×CE)=>mkC p.1 fr p.2 q.1 q.2) (Y7 N (ZO sc2)) (itC G sc it (cE G n sc N) xs) (o2 Prod.mk (cE G n sc2 (xs++ZO sc2) elt) (ifC (cE G n sc2 (xs++ZO sc2)) ifs))))=some c:=h
     cases htg:tgN tg with
     | none=>rw [htg] at h; cases h
     | some xs=>
      rw [htg] at h
      refine XJ h fun hsc h=>Wn (P:=CSh G n sc N elt sc2 _) h fun fr p q hfr hi hq=>Yf (P:=fun q:CE×CE=>CSh G n sc N elt sc2 _ (mkC p.1 fr p.2 q.1 q.2)) hq fun ce cc hce hcc=>.mk htg hsc hfr hi hce ?_
      cases ifs with
      | nil=>cases hcc; exact .inl ⟨rfl,rfl⟩
      | cons a l=>cases l with
       | nil=>exact .inr ⟨a,rfl,hcc⟩
       | cons _ _=>cases hcc
inductive CR (b:D→List (Option D)) (w:D→Za→Option (List D×(Za→Prop))) (fr:List Nat) (fi fe fc:Ev) (ρ:Env) (st:Za):D→Za→Prop
 | mk {x:D}{st1 st2:Za}{ds ys:List D}{ok:Za→Prop} (q1:fi ρ st=some (x,st1)) (q2:w x st1=some (ds,ok)) (hz:ds.length≤1000) (q3:Ym ok (fun d s=>fe (YD b ρ fr d) s) (fun d s=>fc (YD b ρ fr d) s) ds st1=some (ys,st2)):CR b w fr fi fe fc ρ st (.lst st2.length) (st2++[(true,ys)])
theorem YH {b:D→List (Option D)}{w:D→Za→Option (List D×(Za→Prop))}{fr:List Nat}{fi fe fc:Ev}{ρ:Env}{st:Za}{d:D}{st':Za} (e:XD b w fr fi fe fc ρ st=some (d,st')):CR b w fr fi fe fc ρ st d st':=by
 unfold XD at e
 split at e
 ·split at e
  ·split at e
   ·split at e
    ·cases e; exact .mk ‹_› ‹_› ‹_› ‹_›
    ·cases e
   ·cases e
  ·cases e
 ·cases e
inductive CIt (X:Cx) (pins:List (Addr×Obj)) (s:Shared) (σ:L2.St) (ρ:Env) (tg it:Expr) (xs:List Str) (F:Nat→Fn) (fr:List Nat) (ce cc:CE) (Q:VK):Prop
 | mk {bd:D→List (Option D)}{ds:List D}{ok:Za→Prop}{st1 st2:Za}{ys:List D} (B:XN X.K tg xs bd ds) (hz:ds.length≤1000) (q3:Ym ok (fun d s=>ev F ce (YD bd ρ fr d) s) (fun d s=>ev F cc (YD bd ρ fr d) s) ds st1=some (ys,st2)) (hp:Zi it=true) (pi:wpAny (model X.prog X.w) X.A (eval it X.env) (fun v s1=>wpAny (model X.prog X.w) X.A (pyIter v) (PIE X pins σ tg (UN X σ ρ ds ok st1 st2 ys Q)) X.xe s1) X.xe s):CIt X pins s σ ρ tg it xs F fr ce cc Q
theorem Ws {α β:Type}{f:α→β}{o:Option α}{b:β} (h:o.map f=some b):∃ a,o=some a∧f a=b:=by
 cases o with
 | none=>cases h
 | some a=>exact ⟨a,rfl,by cases h; rfl⟩
theorem ZdY {G:Gs}{F:Nat→Fn}{n:Nat} (ihE:Zr G F n) {X:Cx}{sc:Scope}{N:List Str} (Kx:Cxt X G F sc N) {tg it:Expr}{xs:List Str}{fr:List Nat}{r:Option (Option Bool)}{ci ce cc:CE} (htg:tgN tg=some xs) (hi:itC G sc it (cE G n sc N) xs=some (r,ci))
  {pins:List (Addr×Obj)}{s:Shared}{σ:L2.St}{H:Hp}{Q:VK} (I:L2.Inv X pins σ H s) {ad:List Addr}{ρ:Env}{st:Za}{d:D}{st':Za} (E:EnvOk X.K ad H σ ρ) (S:StOk X.K ad H st) (e:ev F (mkC r fr ci ce cc) ρ st=some (d,st')) (p:Post X.K ad H d st' Q):CIt X pins s σ ρ tg it xs F fr ce cc Q:=by
 rcases Zbp htg with ⟨x,px,rfl,rfl⟩ | ⟨x,y,px,py,k,tp,rfl,rfl⟩
 ·replace hi:(match Z1 G sc it with
   | some a=>(cE G n sc N a).map fun c=>(some (some true),c)
   | none=>match (fnA G sc "range" it).bind Zfr with
    | some p=>o2 (fun x y=>(some (some false),.rng2 x y)) (cE G n sc N p.1) (cE G n sc N p.2)
    | none=>(cE G n sc N it).map fun c=>(some (some false),c))=some (r,ci):=hi
  split at hi
  ·rename_i a ha
   obtain ⟨ca,q,hi⟩:=Ws hi
   cases hi
   obtain ⟨hp,pi⟩:=Wd (tg:=.Name x px) Kx ha (Zf q) (ihE X sc N Kx a _ q).pe
   cases YH e with
   | @mk x0 st1 st2 ds ys ok q1 q2 hz q3=>
    refine .mk WE hz q3 hp (pi pins s σ H _ I ?_)
    cases x0 with
    | int k=>
     have q2:(match (if k < 2 ^ 62∧-(2 ^ 62)≤k then some ((List.range k.toNat).map fun (k:Nat)=>D.int (k:Int)) else none) with
      | some xs=>some (xs,fun _=>True)
      | none=>none)=some (ds,ok):=q2
     by_cases hk:k < 2 ^ 62∧-(2 ^ 62)≤k
     ·rw [if_pos hk] at q2
      cases q2
      exact ZbR hk E S q1 p
     ·rw [if_neg hk] at q2
      cases q2
    | _=>cases q2
  ·split at hi
   ·rename_i p hp2
    refine Yf (P:=fun u:Option (Option Bool)×CE=>u=(r,ci)→CIt X pins s σ ρ (.Name x px) it [x] F fr ce cc Q) hi (fun ca cb qa qb hu=>?_) rfl
    cases hu
    obtain ⟨as,h1,h2⟩:=Option.bind_eq_some_iff.mp hp2
    obtain ⟨pp,pos,rfl,hg,hm⟩:=WR Kx h1
    obtain ⟨a,b⟩:=p
    obtain rfl:as=[a,b]:=by
     cases as with
     | nil=>cases h2
     | cons a0 as=>cases as with
      | nil=>cases h2
      | cons b0 as=>cases as with
       | nil=>cases h2; rfl
       | cons _ _=>cases h2
    cases YH e with
    | @mk x0 st1 st2 ds ys ok q1 q2 hz q3=>
     refine .mk WE hz q3 rfl (pi_range2 hg hm (pa2 (Zf qa) (Zf qb) (ihE X sc N Kx a _ qa).pe (ihE X sc N Kx b _ qb).pe) (by rw [Zd (Zf qa),Zd (Zf qb)]; rfl) (Zd (Zf qb)) pins s σ H _ I (ZaS E S q1 q2 p))
   ·obtain ⟨ca,q,hi⟩:=Ws hi
    cases hi
    cases YH e with
    | @mk x0 st1 st2 ds ys ok q1 q2 hz q3=>
     refine .mk WE hz q3 (Zf q) ?_
     cases x0 with
     | tup xs=>cases q2; exact pi_tup (ihE X sc N Kx it _ q).pe pins s σ H _ I (UX E S q1 p)
     | lst l=>
      have q2:(match st1[l]? with
       | some c=>some (c.2,fun s=>s[l]?=some c)
       | none=>none)=some (ds,ok):=q2
      cases q4:st1[l]? with
      | none=>rw [q4] at q2; cases q2
      | some c0=>
       rw [q4] at q2
       cases q2
       exact pi_list (ihE X sc N Kx it _ q).pe pins s σ H _ I (ZbQ E S q1 q4 p)
     | str z=>
      have q2:(if z.cps.all (fun c=>decide (c < 128))=true then some ((chS z).map D.str,fun _=>True) else none)=some (ds,ok):=q2
      by_cases ha:z.cps.all (fun c=>decide (c < 128))=true
      ·rw [if_pos ha] at q2
       cases q2
       exact ZgQ (ihE X sc N Kx it _ q).pe pins s σ H _ I (ZbS ha E S q1 p)
      ·rw [if_neg ha] at q2
       cases q2
     | dct ks vs=>
      have no:∀ {v:V}{ad1:List Addr}{H1:Hp},Den X.K ad1 H1 v (.dct ks vs)→False:=fun {v ad1 H1} d1=>by
       obtain ⟨a,ws,_,_,hl,r⟩:=d1.ofDct
       cases ks with
       | cons _ _=>cases q2
       | nil=>
        cases ws with
        | cons _ _=>cases hl
        | nil=>cases r; cases q2
      exact thn ((ihE X sc N Kx it _ q).pe pins s σ H (fun _ _=>False) I ⟨ad,ρ,st,_,st1,E,S,q1,fun v ad1 H1 x1 S1 d1=>no d1⟩) fun v s1 ⟨x,H1,I1,r1,z⟩=>z.elim
     | _=>cases q2
 ·replace hi:(match Wp G sc it with
   | some a=>(cE G n sc N a).map fun c=>(some none,c)
   | none=>(cE G n sc N it).map fun c=>(none,c))=some (r,ci):=hi
  split at hi
  ·rename_i a ha
   obtain ⟨ca,q,hi⟩:=Ws hi
   cases hi
   cases YH e with
   | mk q1 q2 hz q3=>
    obtain ⟨hp,pi⟩:=WQ (elts:=[.Name x px,.Name y py]) (kk:=k) (tp:=tp) Kx ha (Zf q) (ihE X sc N Kx a _ q).pe
    exact .mk (US (Zbr q2)) hz q3 hp (pi pins s σ H _ I (ZaR E S q1 q2 p))
  ·obtain ⟨ca,q,hi⟩:=Ws hi
   cases hi
   cases YH e with
   | mk q1 q2 hz q3=>
    obtain ⟨rfl,rfl,hm⟩:=Zbs q2
    exact .mk (US hm) hz q3 (Zf q) (pi_tup (ihE X sc N Kx it _ q).pe pins s σ H _ I (UX E S q1 p))
theorem JX {G:Gs}{F:Nat→Fn}{n:Nat} (ihE:Zr G F n) {X:Cx}{sc:Scope}{N:List Str} (Kx:Cxt X G F sc N) {elt:Expr}{gens:List Comprehension}{sc2:Scope}{pos:Pos}{c:CE} (h:cE G (n+1) sc N (.ListComp elt gens sc2 pos)=some c)
  {pins:List (Addr×Obj)}{s:Shared}{σ:L2.St}{H:Hp}{Q:VK} (I:L2.Inv X pins σ H s) (hq:tE X.K (ev F c) σ H Q) {use:Option (Value→Sem Unit)}{R0:Value→Shared→Prop}
  (hend:∀ C dd s5 H5 m',s5.heap.Ns C m'→(∀ h',Heap.SameBut C s5.heap h'→L2.Inv X pins σ H5 { s5 with heap:=h' })→FpOk X pins H5 C→Q (.ref dd) H5→compPost (model X.prog X.w) X.A X.xe use R0 (.ref dd) C (.ok .next) s5) :
  ∃ tg it ifs,gens=[⟨tg,it,ifs,0⟩]∧∀ pos',wpAny (model X.prog X.w) X.A (comprehension (.ListComp elt [⟨tg,it,ifs,0⟩] sc2 pos) sc2 X.env pos' (newList []) false (eval it X.env) use) R0 X.xe s:=by
 cases Zd0 h with
 | @mk tg it ifs xs fr r ci ce cc htg hsc hfr hi hce hcc=>
  obtain ⟨h1,h2,h3,h4,h5,h6⟩:=Yq hsc
  obtain ⟨ad,ρ,st,d,st',E,S,e,p⟩:=hq
  obtain ⟨cl,ec,c1,c2⟩:=UY (env:=X.env) (sc:=sc2) (fun y hy hf=>by
   have hm:(y.1,NameKind.free)∈sc2.names:=by rw [←hf]; exact hy
   exact I.ok.has y.1 (Kx.cel y.1 (h6 y.1 (mem_frees.mpr hm)).1))
  refine ⟨tg,it,ifs,rfl,fun pos'=>?_⟩
  cases ZdY ihE Kx htg hi I E S e p with
  | mk B hz q3 hp pi=>
   refine wpAny_comprehension_free (use:=use) rfl (Z3 hp) ec h1 h4 (thn pi fun v s1 h1'=>thn h1' fun itv s2 h2'=>?_)
   obtain ⟨ita,fp,tn,J,H2,rfl,I2,T,t2,f2,ad1,Good,gm,gw,go,stop,yl,E2,S2,g2,p2⟩:=h2'
   exact ZaU Kx ihE hsc hfr hce hcc c1 c2 Good gm gw go stop yl I2 B T t2 f2 E2 S2 g2 q3 hz p2 hend
theorem ZdZ {G:Gs}{F:Nat→Fn}:Yz G F:=by
 intro n ihE
 refine ⟨fun X sc N Kx elt gens sc2 pos c h=>SE.of ?_,fun X sc N K y i p elt gens sc2 epos pos c hi h hsw=>?_⟩
 ·intro pins s σ H Q I hq
  obtain ⟨tg,it,ifs,rfl,go⟩:=JX ihE Kx h I hq (use:=none) (R0:=EP X pins σ Q) fun C dd s5 H5 m' hn hI _ q=>⟨m',hn,fun h' sb=>⟨.ref dd,H5,hI h' sb,rfl,q⟩⟩
  rw [eval_ListComp]
  exact go _
 ·intro pins s σ H D I hq
  obtain ⟨tg,it,ifs,rfl,go⟩:=JX ihE K.toCxt h I hq (use:=some (assign (.Name y p) X.env)) (R0:=fun _ s'=>SP X pins D .next s') fun C dd s5 H5 m' hn hI fo q=>by
   have I5:=hI s5.heap (Heap.SameBut.refl _ _)
   show wpAny _ X.A (assign (.Name y p) X.env (.ref dd)) _ _ s5
   refine wpAny_assign_Name (store_ok2 (v:=.ref dd) I5 (by rw [K.hN]; exact K.nd) (by rw [K.hN]; exact Xu hi) (K.loc _ (Uh hi)) rfl (fun s6 I6 ⟨a,sb,ha⟩=>?_) (.inl (K.fn _)))
   have ne:C≠a:=by
    rcases ha with z | z
    ·rw [z]; exact fo.2.1
    ·exact fun w=>fo.2.2.2.2.1 _ _ z w.symm
   exact ⟨m',hn.sameBut sb ne,fun h3 sb3=>⟨_,H5,I6.turned (t':=s6.toks) (fun b o hb e=>sb3.extBut b o hb e) fo.1 fo.2.1 fo.2.2.2.1 fo.2.2.2.2.1 fo.2.2.2.2.2,q⟩⟩
  rw [exec_Assign_Name_used _ _ _ _ hsw]
  refine wpAny_bind (wpAny_standAt (wpAny_bind ?_))
  show wpAny _ X.A (do let _ ←comprehension (.ListComp elt [⟨tg,it,ifs,0⟩] sc2 epos) sc2 X.env _ (newList []) false (eval it X.env) (some (assign (.Name y p) X.env))) _ _ s
  exact wpAny_bind (wpAny_mono (go _) (fun _ s' hq=>wpAny_pure (wpAny_pure hq)) fun _ _ e=>e)
end Dp


namespace Dp
open PySem

inductive P where
 | non | bl (b:Bool) | int (i:Int) | str (x:Str) | tup (xs:List P) | lst (m:Bool) (xs:List P) | dct (ks:List Str) (vs:List P) | obj (i:Nat) | kt (ks:List Str) | dic (m:Bool) (xs:List P)

mutual
noncomputable def noL:P→Bool
 | .tup xs=>Vb xs
 | .lst _ _=>false
 | .dic _ _=>false
 | .dct _ vs=>Vb vs
 | _=>true
noncomputable def Vb:List P→Bool
 | []=>true
 | x :: xs=>noL x&&Vb xs
end
mutual
noncomputable def ofD:D→Option P
 | .non=>some .non
 | .bl b=>some (.bl b)
 | .int i=>some (.int i)
 | .str x=>some (.str x)
 | .tup xs=>(XZ xs).map .tup
 | .kt ks=>some (.kt ks)
 | _=>none
noncomputable def XZ:List D→Option (List P)
 | []=>some []
 | x :: xs=>match ofD x,XZ xs with
  | some y,some ys=>some (y :: ys)
  | _,_=>none
end
mutual
noncomputable def Wj:P→P→Bool
 | .non,.non=>true
 | .bl a,.bl b=>a==b
 | .int a,.int b=>decide (a=b)
 | .str a,.str b=>decide (a=b)
 | .tup a,.tup b=>XA a b
 | _,_=>false
noncomputable def XA:List P→List P→Bool
 | [],[]=>true
 | x :: xs,y :: ys=>Wj x y&&XA xs ys
 | _,_=>false
end
mutual
noncomputable def okP:Nat→P→Bool
 | _,.non=>true
 | _,.int _=>true
 | _,.str _=>true
 | n+1,.tup xs=>Vt n xs
 | _,_=>false
noncomputable def Vt:Nat→List P→Bool
 | _,[]=>true
 | n,x :: xs=>okP n x&&Vt n xs
end
noncomputable def ZcW (_ _:List P):Option Bool:=none
noncomputable def scP:P→Option Sc
 | .non=>some .non
 | .bl b=>some (.bl b)
 | .int i=>some (.int i)
 | .str x=>some (.str x)
 | _=>none
noncomputable def Zgk (xs ys:List P):Option Bool:=if (xs.isEmpty||ys.isEmpty)=true then some (xs.isEmpty&&ys.isEmpty) else if Vt 7 xs&&Vt 7 ys then some (XA xs ys) else none
noncomputable def ZiF (xs:List P):P→Option Bool
 | .tup ys=>if okP 8 (.tup xs)&&okP 8 (.tup ys) then some (XA xs ys) else ZcW xs ys
 | _=>none
noncomputable def ZiE (xs:List P):P→Option Bool
 | .lst _ ys=>Zgk xs ys
 | _=>none
noncomputable def eqP (x y:P):Option Bool:=match x with
 | .tup xs=>ZiF xs y
 | .lst _ xs=>ZiE xs y
 | x=>(o2 Zb2 (scP x) (scP y)).join
noncomputable def Zdk (xs:List P) (j:Int):Option P:=match xs with
 | [x]=>if j≤1000∧-1000≤j then some (.tup (List.replicate j.toNat x)) else none
 | _=>none
noncomputable def ZfN (m:Bool) (xs:List P) (j:Int):Option P:=match m,xs with
 | true,[x]=>if j≤1000∧-1000≤j then some (.lst true (List.replicate j.toNat x)) else none
 | _,_=>none
noncomputable def Xp (op:Operator) (x y:P):Option P:=
 match x,y with
 | .int i,.int j=>match Q7 op i j with
  | some k=>some (.int k)
  | none=>none
 | .tup xs,.tup ys=>if YV op=true∧xs.length+ys.length≤Zg then some (.tup (xs++ys)) else none
 | .tup xs,.int j=>if Xj op=true then Zdk xs j else none
 | .lst _ xs,.lst _ ys=>if YV op=true∧xs.length+ys.length≤Zg then some (.lst true (xs++ys)) else none
 | .lst m xs,.int j=>if Xj op=true then ZfN m xs j else none
 | .str x,.str y=>if YV op=true∧x.length+y.length≤Zg then some (.str (x++y)) else none
 | _,_=>none
noncomputable def inP:Int→List P→Option Bool
 | _,[]=>some false
 | k,.int i :: r=>(inP k r).map fun b=>decide (i=k)||b
 | _,_=>none
noncomputable def Za6:Str→List P→Option Bool
 | _,[]=>some false
 | k,.str i :: r=>(Za6 k r).map fun b=>decide (i=k)||b
 | _,_=>none
noncomputable def ZhP:P→Option Int
 | .int i=>some i
 | _=>none
noncomputable def YW:List Str→List P→Str→Option P
 | k :: ks,v :: vs,x=>if k=x then some v else YW ks vs x
 | _,_,_=>none
noncomputable def ZcU (f:Int→Int→Bool):P→P→Option Bool
 | .int i,.int j=>some (f i j)
 | _,_=>none
noncomputable def Qs:List P→List P→Option Bool
 | x :: xs,y :: ys=>if Wj x y=true then Qs xs ys else match x,y with
  | .int i,.int j=>some (decide (i < j))
  | .str a,.str b=>some (decide (a.cps.toList < b.cps.toList))
  | _,_=>none
 | [],ys=>some (decide (0 < ys.length))
 | _ :: _,[]=>some false
noncomputable def ltP (x y:P):Option Bool:=match x,y with
 | .tup xs,.tup ys=>if okP 8 (.tup xs)&&okP 8 (.tup ys) then Qs xs ys else none
 | x,y=>ZcU (fun i j=>decide (i < j)) x y
noncomputable def ZhU (x y:P):Option Bool:=ltP x y
noncomputable def Zgt (x y:P):Option Bool:=match x,y with
 | .int k,.lst _ xs=>inP k xs
 | .str k,.lst _ xs=>Za6 k xs
 | .int k,.tup xs=>inP k xs
 | .str k,.tup xs=>Za6 k xs
 | .str k,.dct ks vs=>some (YW ks vs k).isSome
 | .str k,.str x=>some (Zh5 x k)
 | _,_=>none
noncomputable def niP (x y:P):Option Bool:=match y with
 | .dct _ _=>none
 | y=>(Zgt x y).map not
noncomputable def ZiN:P→Option Bool
 | .non=>some true
 | .int _=>some false
 | .str _=>some false
 | .bl _=>some false
 | .tup _=>some false
 | .lst _ _=>some false
 | .dct _ _=>none
 | .obj _=>none
 | .kt _=>none
 | .dic _ _=>none
noncomputable def ZiK (b:Bool):P→Option Bool
 | .bl a=>some (a==b)
 | _=>none
noncomputable def Zgv (x:P):P→Option Bool
 | .non=>ZiN x
 | .bl b=>ZiK b x
 | _=>none
noncomputable def Zgf (op:CmpOp) (x y:P):Option Bool:=
 match op with
 | .Lt=>ZhU x y
 | .LtE=>ZcU (fun i j=>decide (i≤j)) x y
 | .Gt=>ZcU (fun i j=>decide (j < i)) x y
 | .GtE=>ZcU (fun i j=>decide (j≤i)) x y
 | .Eq=>eqP x y
 | .NotEq=>(eqP x y).map not
 | .In=>Zgt x y
 | .NotIn=>niP x y
 | .Is=>Zgv x y
 | .IsNot=>(Zgv x y).map not
noncomputable def atP (xs:List P) (i:Int):Option P:=(ixN xs.length i).bind fun j=>xs[j]?
noncomputable def ixP:P→P→Option P
 | .tup xs,.int i=>atP xs i
 | .lst _ xs,.int i=>atP xs i
 | .dct ks vs,.str k=>YW ks vs k
 | .kt ks,.int i=>atP (ks.map .str) i
 | .str x,.int i=>if x.length≤Zg then atP ((chS x).map .str) i else none
 | _,_=>none
noncomputable def ZbW (xs:List P) (lo hi:Option Int):List P:=(xs.drop (sIx xs.length 0 lo)).take (sIx xs.length xs.length hi - sIx xs.length 0 lo)
noncomputable def Xg (x:P) (lo hi:Option Int):Option P:=
 match x with
 | .tup xs=>if sIx xs.length 0 lo=0∧sIx xs.length xs.length hi=xs.length then some (.tup xs) else some (.tup (ZbW xs lo hi))
 | .lst _ xs=>some (.lst true (ZbW xs lo hi))
 | .str x=>if x.length≤Zg then some (.str (Je x lo hi)) else none
 | _=>none
noncomputable def X1:P→P→P→Option P
 | x,.non,.non=>Xg x none none
 | x,.int i,.non=>Xg x (some i) none
 | x,.non,.int j=>Xg x none (some j)
 | x,.int i,.int j=>Xg x (some i) (some j)
 | _,_,_=>none
noncomputable def Jp:P→Option P
 | .tup xs=>some (.int xs.length)
 | .lst _ xs=>some (.int xs.length)
 | .kt ks=>some (.int ks.length)
 | .str x=>if x.length≤Zg then some (.int x.length) else none
 | _=>none
noncomputable def Zgw (T:Ty):P→Option Bool
 | .int _=>some (decide (T=.int))
 | .bl _=>some (decide (T=.int)||decide (T=.bool))
 | .str _=>some (decide (T=.str))
 | .tup _=>some (decide (T=.tuple))
 | .non=>some false
 | _=>none
noncomputable def Ql (T:Ty) (p:P):Option P:=(Zgw T p).map .bl
noncomputable def Zbd:P→Option P
 | .int i=>some (.int (-i))
 | _=>none
noncomputable def Zbf:P→Option P
 | .bl k=>some (.bl (!k))
 | _=>none
noncomputable def Y2 (op:CmpOp) (x y:P):Option P:=(Zgf op x y).map .bl
noncomputable def Jt:P→Option P
 | .tup xs=>some (.lst true xs)
 | _=>none
noncomputable def VA:P→P→Option P
 | x,.tup xs=>if xs.length < 1000 then some (.tup (x :: xs)) else none
 | _,_=>none
noncomputable def Zan:P→Option P
 | .int i=>some (.int i)
 | _=>none
noncomputable def WL (g:List P→Option P) (ds:List D):P→Option P
 | .tup xs=>match XZ ds with
  | some es=>g (xs++es)
  | none=>none
 | _=>none
noncomputable def X5:P→Option P
 | .tup xs=>some (.tup xs)
 | .lst _ xs=>some (.tup xs)
 | _=>none
noncomputable def Qn:P→Option P
 | .tup xs=>some (.lst true xs)
 | .lst _ xs=>some (.lst true xs)
 | _=>none
noncomputable def ZiI:P→Option P
 | .int i=>some (.int i)
 | .bl true=>some (.int 1)
 | .bl false=>some (.int 0)
 | .str x=>(match ZiJ x with
  | some i=>some (.int i)
  | none=>none)
 | _=>none
noncomputable def Zay:P→Option P
 | .int i=>if ZI i=true then some (.str (Str.ofString (toString i))) else none
 | _=>none
noncomputable def QW:List P→Option (List Str)
 | []=>some []
 | .str x :: r=>(QW r).map (x :: ·)
 | _=>none
noncomputable def Jn (ps:List P):Option P:=match QW ps with
 | some xs=>if (Ue xs).length≤Zg then some (.str ⟨(Ue xs).toArray⟩) else none
 | none=>none
noncomputable def Jm (s:Str) (ps:List P):Option P:=match QW ps with
 | some xs=>if (Xt s xs).length≤Zg then some (.str ⟨(U7 s xs).toArray⟩) else none
 | none=>none
noncomputable def Zaa:P→P→Option P
 | .str s,.lst _ ps=>if s.length=0 then Jn ps else Jm s ps
 | _,_=>none
noncomputable def Zau:P→P→Option P
 | .int a,.int b=>if Zs a b 1=true then some (.dct [] [.int a,.int b]) else none
 | _,_=>none
noncomputable def Ww:P→P→Option P
 | .str x,.tup [.str y]=>some (.bl (stW x y))
 | _,_=>none
noncomputable def Zbc:P→P→Option P
 | .int i,.int j=>some (.int (if j < i then j else i))
 | _,_=>none
noncomputable def Zbb:P→P→Option P
 | .int i,.int j=>some (.int (if j > i then j else i))
 | _,_=>none
noncomputable def Zel (ng:Bool):P→P→Option P
 | .int x,.int n=>if -(2 ^ 62)≤n∧n < 2 ^ 62 then some (.bl (ng != decide (0≤x∧x < n))) else none
 | _,_=>none
noncomputable def W8:P→P→Option P
 | .int a,.int b=>if Zs a b 1=true∧b - a≤1000 then some (.lst true ((Zt a b 1).map .int)) else none
 | _,_=>none
noncomputable def YE (n:Int):List P:=(List.range n.toNat).map fun (k:Nat)=>P.int (k:Int)
noncomputable def Uq (rng:Bool) (x:P):Option (List P):=
 match rng,x with
 | true,.int n=>if n < 2 ^ 62∧-(2 ^ 62)≤n then some (YE n) else none
 | false,.tup xs=>some xs
 | _,_=>none
noncomputable def Yn (f c:P→Option P):List P→Option (List P)
 | []=>some []
 | x :: xs=>match c x with
  | some (.bl true)=>match f x with
   | some y=>match Yn f c xs with
    | some ys=>some (y :: ys)
    | none=>none
   | none=>none
  | some (.bl false)=>Yn f c xs
  | _=>none
noncomputable def J5:List P→Option (List Int)
 | []=>some []
 | x :: r=>o2 List.cons (ZhP x) (J5 r)
noncomputable def Uo:P→Option (List Int)
 | .tup xs=>(J5 xs).bind UF
 | _=>none
noncomputable def YY (rng:Bool) (x:P):Option (List P):=match Uq rng x with
 | some xs=>some xs
 | none=>match rng,x with
  | false,.lst _ xs=>some xs
  | false,.str x=>if x.cps.all (fun c=>decide (c < 128))=true then some ((chS x).map .str) else none
  | false,.dct [] [.int a,.int b]=>some ((Zt a b 1).map .int)
  | _,_=>none
noncomputable abbrev Zl:=List (Option P)
noncomputable abbrev PEv:=Zl→Option P
noncomputable def pq1 (fa:PEv) (g:P→Option P):PEv:=fun π=>match fa π with
 | some x=>g x
 | none=>none
noncomputable def pq2 (fa fb:PEv) (g:P→P→Option P):PEv:=fun π=>match fa π with
 | some x=>match fb π with
  | some y=>g x y
  | none=>none
 | none=>none
noncomputable def pq3 (fa fb fc:PEv) (g:P→P→P→Option P):PEv:=fun π=>match fa π with
 | some x=>match fb π with
  | some y=>match fc π with
   | some z=>g x y z
   | none=>none
  | none=>none
 | none=>none
noncomputable def Yp (fc ft ff:PEv):PEv:=fun π=>match fc π with
 | some (.bl true)=>ft π
 | some (.bl false)=>ff π
 | _=>none
noncomputable def Y8 (i:Nat):PEv:=fun π=>match π[i]? with
 | some (some p)=>some p
 | _=>none
noncomputable def Xl (π:Zl) (fr:List Nat) (p:P):Zl:=some p :: fr.map fun i=>(π[i]?).join
noncomputable def Zc8 (p:P):List (Option P):=[some p]
noncomputable def YN:P→List (Option P)
 | .tup [a,b]=>[some a,some b]
 | _=>[]
noncomputable def UB:Nat→List P→List P
 | _,[]=>[]
 | k,x :: xs=>.tup [.int (k:Int),x] :: UB (k+1) xs
noncomputable def UM:P→Option (List P)
 | .tup xs=>some (UB 0 xs)
 | .lst _ xs=>some (UB 0 xs)
 | _=>none
noncomputable def Qj:P→Bool
 | .tup [_,_]=>true
 | _=>false
noncomputable def X7:P→Option (List P)
 | .tup xs=>if xs.all Qj=true then some xs else none
 | _=>none
noncomputable def Z8 (b:P→List (Option P)) (π:Zl) (fr:List Nat) (p:P):Zl:=b p++fr.map fun i=>(π[i]?).join
noncomputable def ZJ (b:P→List (Option P)) (w:P→Option (List P)) (fr:List Nat) (fi fe fc:PEv):PEv:=fun π=>match fi π with
 | some x=>match w x with
  | some xs=>if xs.length≤1000 then
    match Yn (fun p=>fe (Z8 b π fr p)) (fun p=>fc (Z8 b π fr p)) xs with
    | some ys=>some (.lst true ys)
    | none=>none
   else none
  | none=>none
 | none=>none
noncomputable def pe (F:Nat→List P→Option P):CE→PEv
 | .var i=>Y8 i
 | .cst d=>fun _=>ofD d
 | .bin op a b=>pq2 (pe F a) (pe F b) (Xp op)
 | .neg a=>pq1 (pe F a) Zbd
 | .cmp op a b=>pq2 (pe F a) (pe F b) (Y2 op)
 | .not a=>pq1 (pe F a) Zbf
 | .and a b=>Yp (pe F a) (pe F b) (fun _=>some (.bl false))
 | .or a b=>Yp (pe F a) (fun _=>some (.bl true)) (pe F b)
 | .ife c a b=>Yp (pe F c) (pe F a) (pe F b)
 | .tupE a=>pe F a
 | .lstE a=>pq1 (pe F a) Jt
 | .anil=>fun _=>some (.tup [])
 | .acons a r=>pq2 (pe F a) (pe F r) VA
 | .ix a b=>pq2 (pe F a) (pe F b) ixP
 | .slice a lo hi=>pq3 (pe F a) (pe F lo) (pe F hi) X1
 | .nop=>fun _=>some .non
 | .part a=>pq1 (pe F a) Zan
 | .call f a ds=>pq1 (pe F a) (WL (F f) ds)
 | .len a=>pq1 (pe F a) Jp
 | .tupleOf a=>pq1 (pe F a) X5
 | .listOf a=>pq1 (pe F a) Qn
 | .intOf _=>fun _=>none
 | .min a b=>pq2 (pe F a) (pe F b) Zbc
 | .max a b=>pq2 (pe F a) (pe F b) Zbb
 | .isi T a=>pq1 (pe F a) (Ql T)
 | .rs _ _=>fun _=>none
 | .inv _=>fun _=>none
 | .tupR _=>fun _=>none
 | .look _ _ _=>fun _=>none
 | .dget _ _ _=>fun _=>none
 | .inR ng a b=>pq2 (pe F a) (pe F b) (Zel ng)
 | .all _=>fun _=>none
 | .any _=>fun _=>none
 | .comp rng fr it elt cnd=>ZJ Zc8 (YY rng) fr (pe F it) (pe F elt) (pe F cnd)
 | .comp2 fr it elt cnd=>ZJ YN UM fr (pe F it) (pe F elt) (pe F cnd)
 | .compT fr it elt cnd=>ZJ YN X7 fr (pe F it) (pe F elt) (pe F cnd)
 | .lstR a b=>pq2 (pe F a) (pe F b) W8
 | .new _=>fun _=>none
 | .meth _ _ _=>fun _=>none
 | .isc _ _=>fun _=>none
 | .tix _ _=>fun _=>none
 | .dict _ _=>fun _=>none
 | .dnew=>fun _=>none
 | .strOf a=>pq1 (pe F a) Zay
 | .joinE a b=>pq2 (pe F a) (pe F b) Zaa
 | .starts a b=>pq2 (pe F a) (pe F b) Ww
 | .rng2 a b=>pq2 (pe F a) (pe F b) Zau

noncomputable def noM (M:List Nat):CE→Bool
 | .var i=>!M.contains i
 | .cst _=>true
 | .bin _ a b=>noM M a&&noM M b
 | .neg a=>noM M a
 | .cmp _ a b=>noM M a&&noM M b
 | .not a=>noM M a
 | .and a b=>noM M a&&noM M b
 | .or a b=>noM M a&&noM M b
 | .ife c a b=>noM M c&&(noM M a&&noM M b)
 | .tupE a=>noM M a
 | .lstE a=>noM M a
 | .anil=>true
 | .acons a r=>noM M a&&noM M r
 | .ix a b=>noM M a&&noM M b
 | .slice a lo hi=>noM M a&&(noM M lo&&noM M hi)
 | .nop=>true
 | .part a=>noM M a
 | .call _ a _=>noM M a
 | .len a=>noM M a
 | .tupleOf a=>noM M a
 | .listOf a=>noM M a
 | .intOf a=>noM M a
 | .min a b=>noM M a&&noM M b
 | .max a b=>noM M a&&noM M b
 | .isi _ a=>noM M a
 | .rs _ a=>noM M a
 | .inv a=>noM M a
 | .tupR a=>noM M a
 | .look _ _ a=>noM M a
 | .dget a k d=>noM M a&&(noM M k&&noM M d)
 | .inR _ a b=>noM M a&&noM M b
 | .all a=>noM M a
 | .any a=>noM M a
 | .comp _ fr it _ _=>noM M it&&fr.all fun i=>!M.contains i
 | .comp2 fr it _ _=>noM M it&&fr.all fun i=>!M.contains i
 | .compT fr it _ _=>noM M it&&fr.all fun i=>!M.contains i
 | .lstR a b=>noM M a&&noM M b
 | .new _=>true
 | .meth _ o a=>noM M o&&noM M a
 | .isc _ a=>noM M a
 | .tix o a=>noM M o&&noM M a
 | .dict _ a=>noM M a
 | .dnew=>true
 | .strOf a=>noM M a
 | .joinE a b=>noM M a&&noM M b
 | .starts a b=>noM M a&&noM M b
 | .rng2 a b=>noM M a&&noM M b
noncomputable def W1 (_:Nat):Bool:=false
noncomputable def Wr:CE→Bool
 | .call f _ _=>W1 f
 | .bin _ _ _=>true
 | .lstE _=>true
 | .slice _ _ _=>true
 | .listOf _=>true
 | .comp ..=>true
 | .comp2 ..=>true
 | .compT ..=>true
 | .lstR ..=>true
 | _=>false
noncomputable def ZP:CS→List Nat
 | .seq a b=>ZP a++ZP b
 | .app i _=>[i]
 | .ext i _=>[i]
 | .put i _ _=>[i]
 | .dput i _ _ _=>[i]
 | .ite _ a b=>ZP a++ZP b
 | .for1 _ _ _ b=>ZP b
 | .for3 _ _ b=>ZP b
 | .forP _ _ _ b=>ZP b
 | .forE _ _ _ b=>ZP b
 | .for4 _ _ _ _ b=>ZP b
 | .for2 _ _ _ b=>ZP b
 | .whl _ b=>ZP b
 | _=>[]
noncomputable def mvT:CE→List Nat
 | .var j=>[j]
 | _=>[]
noncomputable def ZG:CS→List Nat
 | .seq a b=>ZG a++ZG b
 | .app i _=>[i]
 | .ext i _=>[i]
 | .put i _ _=>[i]
 | .dput i _ _ _=>[i]
 | .set i e=>i :: mvT e
 | .set2 i j _=>[i,j]
 | .set3 i j l _=>[i,j,l]
 | .ite _ a b=>ZG a++ZG b
 | .for1 i _ _ b=>i :: ZG b
 | .for3 i _ b=>i :: ZG b
 | .forP i j _ b=>i :: j :: ZG b
 | .forE i j _ b=>i :: j :: ZG b
 | .for4 i j l _ b=>i :: j :: l :: ZG b
 | .for2 i j _ b=>i :: j :: ZG b
 | .whl _ b=>ZG b
 | _=>[]
inductive PFl where
 | nx (π:Zl) | rt (p:P) | bk (π:Zl) | ct (π:Zl)
noncomputable abbrev PEx:=Zl→Option PFl
noncomputable def Zj (π:Zl) (i:Nat) (p:P):Zl:=π.set i (some p)
noncomputable def Zy (body:P→Zl→Option PFl):List P→Zl→Option PFl
 | [],π=>some (.nx π)
 | d :: ds,π=>match body d π with
  | some (.nx π')=>Zy body ds π'
  | some (.ct π')=>Zy body ds π'
  | some (.bk π')=>some (.nx π')
  | some (.rt v)=>some (.rt v)
  | none=>none
noncomputable def Zdc (f g:PEx):PEx:=fun π=>match f π with
 | some (.nx π')=>g π'
 | r=>r
noncomputable def Zda (f:PEv):PEx:=fun π=>match f π with
 | some d=>some (.rt d)
 | none=>none
noncomputable def Zp (M:List Nat) (e:CE) (p:P):Bool:=noM M e||noL p
noncomputable def Yr (M:List Nat) (e:CE) (p:P):Bool:=match p with
 | .lst true xs=>Wr e&&(noM M e||Vb xs)
 | _=>false
noncomputable def mvP (M:List Nat) (i:Nat) (e:CE) (p:P) (π:Zl):Option PFl:=match e with
 | .var j=>if M.contains j&&!M.contains i then some (.nx (Zj (π.set j none) i p)) else none
 | _=>none
noncomputable def UC (M:List Nat) (i:Nat) (e:CE) (f:PEv):PEx:=fun π=>match f π with
 | some p=>if (if M.contains i then Yr M e p else Zp M e p||Yr M e p) then some (.nx (Zj π i p)) else mvP M i e p π
 | none=>none
noncomputable def Zdd (M:List Nat) (i j:Nat) (e:CE) (f:PEv):PEx:=fun π=>match f π with
 | some (.tup [x,y])=>if !M.contains i&&!M.contains j&&Zp M e (.tup [x,y]) then some (.nx (Zj (Zj π i x) j y)) else none
 | _=>none
noncomputable def Zde (M:List Nat) (i j l:Nat) (e:CE) (f:PEv):PEx:=fun π=>match f π with
 | some (.tup [x,y,z])=>if !M.contains i&&!M.contains j&&!M.contains l&&Zp M e (.tup [x,y,z]) then some (.nx (Zj (Zj (Zj π i x) j y) l z)) else none
 | _=>none
noncomputable def ZgM (M:List Nat) (e:CE) (f:PEv):PEx:=fun π=>match f π with
 | some p=>if Zp M e p then some (.nx π) else none
 | none=>none
noncomputable def ZcY (M:List Nat) (i:Nat) (e:CE) (f:PEv):PEx:=fun π=>match π[i]? with
 | some (some (.lst true xs))=>match f π with
  | some p=>if M.contains i&&Zp M e p&&decide (xs.length < Zg) then some (.nx (Zj π i (.lst true (xs++[p])))) else none
  | none=>none
 | _=>none
noncomputable def Zc5 (M:List Nat) (i:Nat) (e:CE) (f:PEv):PEx:=fun π=>match π[i]? with
 | some (some (.lst true xs))=>match f π with
  | some (.lst true ys)=>if M.contains i&&noM M e&&decide (xs.length+ys.length≤Zg) then some (.nx (Zj π i (.lst true (xs++ys)))) else none
  | _=>none
 | _=>none
noncomputable def ZgR (M:List Nat) (i:Nat) (e:CE) (k f:PEv):PEx:=fun π=>match f π with
 | some p=>match π[i]? with
  | some (some (.lst true xs))=>match k π with
   | some (.int j)=>match ixN xs.length j with
    | some q=>if M.contains i&&Zp M e p then some (.nx (Zj π i (.lst true (xs.set q p)))) else none
    | none=>none
   | _=>none
  | _=>none
 | none=>none
noncomputable def Zc6 (c:PEv) (f g:PEx):PEx:=fun π=>match c π with
 | some (.bl true)=>f π
 | some (.bl false)=>g π
 | _=>none
noncomputable def X6 (M T:List Nat) (e:CE) (xs:List P):Bool:=noM M e||(Wr e&&Vb xs)||(match e with
 | .var j=>!T.contains j
 | _=>false)
noncomputable def Jx (M T:List Nat) (i:Nat) (rng:Bool) (e:CE) (it:PEv) (b:PEx):PEx:=fun π=>match it π with
 | some x=>match Uq rng x with
  | some xs=>if !M.contains i&&(rng||Zp M e x) then Zy (fun d π=>b (Zj π i d)) xs π else none
  | none=>match rng,x with
   | false,.lst _ xs=>if !M.contains i&&X6 M T e xs then Zy (fun d π=>b (Zj π i d)) xs π else none
   | _,_=>none
 | none=>none
noncomputable def QE (M:List Nat) (i:Nat) (it:PEv) (b:PEx):PEx:=fun π=>match it π with
 | some x=>match Uo x with
  | some xs=>if !M.contains i then Zy (fun d π=>b (Zj π i d)) (xs.map .int) π else none
  | none=>none
 | none=>none
noncomputable def Xn (i j:Nat) (b:PEx) (d:P) (π:Zl):Option PFl:=match d with
 | .tup [x,y]=>b (Zj (Zj π i x) j y)
 | _=>none
noncomputable def QD (M T:List Nat) (i j:Nat) (e:CE) (it:PEv) (b:PEx):PEx:=fun π=>match it π with
 | some (.lst _ xs)=>if !M.contains i&&!M.contains j&&X6 M T e xs then Zy (Xn i j b) xs π else none
 | some (.tup xs)=>if !M.contains i&&!M.contains j&&Zp M e (.tup xs) then Zy (Xn i j b) xs π else none
 | _=>none
noncomputable def YK (body:P→P→Zl→Option PFl):List (P×P)→Zl→Option PFl
 | [],π=>some (.nx π)
 | p :: ps,π=>match body p.1 p.2 π with
  | some (.nx π')=>YK body ps π'
  | some (.ct π')=>YK body ps π'
  | some (.bk π')=>some (.nx π')
  | some (.rt v)=>some (.rt v)
  | none=>none
noncomputable def Xv:Nat→List P→List (P×P)
 | _,[]=>[]
 | k,x :: xs=>(.int (k:Int),x) :: Xv (k+1) xs
noncomputable def ZdE:P→Option (List P)
 | .tup xs=>some xs
 | .lst _ xs=>some xs
 | _=>none
noncomputable def QF (M:List Nat) (i j:Nat) (e:CE) (it:PEv) (b:PEx):PEx:=fun π=>match it π with
 | some x=>match ZdE x with
  | some xs=>if !M.contains i&&!M.contains j&&noM M e then YK (fun x y π=>b (Zj (Zj π i x) j y)) (Xv 0 xs) π else none
  | none=>none
 | none=>none
noncomputable def px (F:Nat→List P→Option P) (M:List Nat):CS→PEx
 | .skip=>fun π=>some (.nx π)
 | .seq a b=>Zdc (px F M a) (px F M b)
 | .ret e=>Zda (pe F e)
 | .set i e=>UC M i e (pe F e)
 | .set2 i j e=>Zdd M i j e (pe F e)
 | .app i e=>ZcY M i e (pe F e)
 | .ext i e=>Zc5 M i e (pe F e)
 | .put i k e=>ZgR M i e (pe F k) (pe F e)
 | .ite c a b=>Zc6 (pe F c) (px F M a) (px F M b)
 | .for1 i rng it b=>Jx M (ZG b) i rng it (pe F it) (px F M b)
 | .forP _ _ _ _=>fun _=>none
 | .forE i j it b=>QF M i j it (pe F it) (px F M b)
 | .for3 i it b=>QE M i (pe F it) (px F M b)
 | .for4 _ _ _ _ _=>fun _=>none
 | .for2 i j it b=>QD M (ZG b) i j it (pe F it) (px F M b)
 | .whl _ _=>fun _=>none
 | .brk=>fun π=>some (.bk π)
 | .cont=>fun π=>some (.ct π)
 | .stop=>fun _=>none
 | .app2 _ _=>fun _=>none
 | .set3 i j l e=>Zde M i j l e (pe F e)
 | .act e=>ZgM M e (pe F e)
 | .dput _ _ _ _=>fun _=>none
noncomputable def fnP (F:Nat→List P→Option P) (f:FD):List P→Option P:=fun ds=>
 if ds.length=f.ps∧(ZP f.body).all (fun i=>decide (f.ps≤i))=true then
  match px F (ZP f.body) f.body (ds.map some++List.replicate (f.ns - ds.length) none) with
  | some (.rt d)=>some d
  | some (.nx _)=>some .non
  | _=>none
 else none
noncomputable def YX:CS→Bool
 | .seq a b=>YX a&&YX b
 | .ret _=>false
 | .ite _ a b=>YX a&&YX b
 | .for1 _ _ _ b=>YX b
 | .for3 _ _ b=>YX b
 | .forP _ _ _ b=>YX b
 | .forE _ _ _ b=>YX b
 | .for4 _ _ _ _ b=>YX b
 | .for2 _ _ _ b=>YX b
 | .whl _ b=>YX b
 | _=>true
noncomputable def ZaB (M:List Nat):CS→Bool
 | .seq (.ret (.var j)) .skip=>M.contains j
 | .seq a b=>YX a&&ZaB M b
 | _=>false
noncomputable def Va (f:FD):Bool:=ZaB (ZP f.body) f.body
noncomputable def Zv (T:Nat→Option FD):Nat→Nat→List P→Option P
 | 0,_=>fun _=>none
 | n+1,i=>match T i with
  | some f=>if (W1 i&&!Va f)=true then fun _=>none else fnP (Zv T n) f
  | none=>fun _=>none
end Dp


namespace Dp
open PySem
abbrev Fz:=Nat→Prop
mutual
inductive Rel (fz:Fz) (st:Za):P→D→Prop where
 | non:Rel fz st .non .non
 | bl (b:Bool):Rel fz st (.bl b) (.bl b)
 | int (i:Int):Rel fz st (.int i) (.int i)
 | str (x:Str):Rel fz st (.str x) (.str x)
 | tup {ps:List P}{ds:List D} (r:Rels fz st ps ds):Rel fz st (.tup ps) (.tup ds)
 | lst {j:Nat}{m:Bool}{ps:List P}{ds:List D} (hz:fz j) (h:st[j]?=some (m,ds)) (r:Rels fz st ps ds):Rel fz st (.lst m ps) (.lst j)
 | dct {ks:List Str}{ps:List P}{ds:List D} (r:Rels fz st ps ds):Rel fz st (.dct ks ps) (.dct ks ds)
 | obj (i:Nat):Rel fz st (.obj i) (.obj i)
 | kt (ks:List Str):Rel fz st (.kt ks) (.kt ks)
 | dic {j:Nat}{m:Bool}{ps:List P}{ds:List D} (hz:fz j) (h:st[j]?=some (m,ds)) (r:Rels fz st ps ds):Rel fz st (.dic m ps) (.dic j)
inductive Rels (fz:Fz) (st:Za):List P→List D→Prop where
 | nil:Rels fz st [] []
 | cons {p:P}{d:D}{ps:List P}{ds:List D} (h:Rel fz st p d) (r:Rels fz st ps ds):Rels fz st (p :: ps) (d :: ds)
end
section
variable {fz fz':Fz}{st st':Za}
theorem Rel.mono (h1:∀ i,fz i→fz' i) (h2:∀ i,fz i→st'[i]?=st[i]?) {p:P}{d:D} (h:Rel fz st p d):Rel fz' st' p d:=
 Rel.rec (motive_1:=fun p d _=>Rel fz' st' p d) (motive_2:=fun ps ds _=>Rels fz' st' ps ds) .non .bl .int .str (fun _ r=>.tup r) (fun hz h _ r=>.lst (h1 _ hz) (by rw [h2 _ hz]; exact h) r) (fun _ r=>.dct r) .obj .kt (fun hz h _ r=>.dic (h1 _ hz) (by rw [h2 _ hz]; exact h) r) .nil (fun _ _ a b=>.cons a b) h
theorem Rels.mono (h1:∀ i,fz i→fz' i) (h2:∀ i,fz i→st'[i]?=st[i]?) {ps:List P}{ds:List D} (h:Rels fz st ps ds):Rels fz' st' ps ds:=
 Rels.rec (motive_1:=fun _ _ _=>True) (motive_2:=fun ps ds _=>Rels fz' st' ps ds) trivial (fun _=>trivial) (fun _=>trivial) (fun _=>trivial) (fun _ _=>trivial) (fun _ _ _ _=>trivial) (fun _ _=>trivial) (fun _=>trivial) (fun _=>trivial) (fun _ _ _ _=>trivial) .nil (fun a _ _ b=>.cons (a.mono h1 h2) b) h
theorem Rel.ofNoL {p:P}{d:D} (hn:noL p=true) (h:Rel fz st p d):Rel fz' st' p d:=
 Rel.rec (motive_1:=fun p d _=>noL p=true→Rel fz' st' p d) (motive_2:=fun ps ds _=>Vb ps=true→Rels fz' st' ps ds) (fun _=>.non) (fun _ _=>.bl _) (fun _ _=>.int _) (fun _ _=>.str _) (fun _ r h=>.tup (r h)) (fun _ _ _ _ h=>by cases h) (fun _ r h=>.dct (r h)) (fun _ _=>.obj _) (fun _ _=>.kt _) (fun _ _ _ _ h=>by cases h) (fun _=>.nil) (fun _ _ a b h=>.cons (a (Bool.and_eq_true_iff.mp h).1) (b (Bool.and_eq_true_iff.mp h).2)) h hn
theorem Rels.ofNoL {ps:List P}{ds:List D} (hn:Vb ps=true) (h:Rels fz st ps ds):Rels fz' st' ps ds:=by
 induction ps generalizing ds with
 | nil=>cases h; exact .nil
 | cons p ps ih=>cases h with
  | cons a r=>exact .cons (a.ofNoL (Bool.and_eq_true_iff.mp hn).1) (ih (Bool.and_eq_true_iff.mp hn).2 r)
theorem Rels.length:∀ {ps:List P}{ds:List D},Rels fz st ps ds→ps.length=ds.length
 | _,_,.nil=>rfl
 | _,_,.cons _ r=>congrArg (·+1) (Rels.length r)
theorem Rels.get:∀ {ps:List P}{ds:List D}{i:Nat}{p:P},Rels fz st ps ds→ps[i]?=some p→∃ d,ds[i]?=some d∧Rel fz st p d
 | _,_,_,_,.nil,e=>by simp at e
 | _,_,0,_,.cons h _,e=>by simp at e; subst e; exact ⟨_,rfl,h⟩
 | _,_,i+1,p,.cons _ r,e=>by
  obtain ⟨v,h1,h2⟩:=Rels.get (i:=i) (p:=p) r (by simpa using e)
  exact ⟨v,by simpa using h1,h2⟩
theorem Rels.append:∀ {ps qs:List P}{ds es:List D},Rels fz st ps ds→Rels fz st qs es→Rels fz st (ps++qs) (ds++es)
 | _,_,_,_,.nil,s=>s
 | _,_,_,_,.cons h r,s=>.cons h (Rels.append r s)
theorem Rels.take:∀ {ps:List P}{ds:List D} (n:Nat),Rels fz st ps ds→Rels fz st (ps.take n) (ds.take n)
 | _,_,0,_=>.nil
 | _,_,_+1,.nil=>.nil
 | _,_,n+1,.cons h r=>.cons h (Rels.take n r)
theorem Rels.drop:∀ {ps:List P}{ds:List D} (n:Nat),Rels fz st ps ds→Rels fz st (ps.drop n) (ds.drop n)
 | _,_,0,r=>r
 | _,_,_+1,.nil=>.nil
 | _,_,n+1,.cons _ r=>Rels.drop n r
theorem Rels.set {p:P}{d:D} (h:Rel fz st p d):∀ {ps:List P}{ds:List D} (n:Nat),Rels fz st ps ds→Rels fz st (ps.set n p) (ds.set n d)
 | _,_,_,.nil=>.nil
 | _,_,0,.cons _ r=>.cons h r
 | _,_,n+1,.cons q r=>.cons q (Rels.set h n r)
theorem Rels.rep {p:P}{d:D} (h:Rel fz st p d):∀ n:Nat,Rels fz st (List.replicate n p) (List.replicate n d)
 | 0=>.nil
 | n+1=>.cons h (Rels.rep h n)
mutual
theorem Rel.ofConst:∀ {d:D}{p:P},ofD d=some p→Rel fz st p d
 | .non,p,h=>by cases h; exact .non
 | .bl b,p,h=>by cases h; exact .bl b
 | .int i,p,h=>by cases h; exact .int i
 | .str x,p,h=>by cases h; exact .str x
 | .tup xs,p,h=>by
  have h:(XZ xs).map P.tup=some p:=h
  cases q:XZ xs with
  | none=>rw [q] at h; cases h
  | some ys=>rw [q] at h; cases h; exact .tup (Rels.ofConst q)
 | .lst _,p,h=>by cases h
 | .dct _ _,p,h=>by cases h
 | .obj _,p,h=>by cases h
 | .kt ks,p,h=>by cases h; exact .kt ks
theorem Rels.ofConst:∀ {ds:List D}{ps:List P},XZ ds=some ps→Rels fz st ps ds
 | [],ps,h=>by cases h; exact .nil
 | d :: ds,ps,h=>by
  have h:(match ofD d,XZ ds with
   | some y,some ys=>some (y :: ys)
   | _,_=>none)=some ps:=h
  split at h
  ·rename_i y ys h1 h2
   cases h
   exact .cons (Rel.ofConst h1) (Rels.ofConst h2)
  ·cases h
end
end
def Bd (fz:Fz) (st:Za):Prop:=∀ i,fz i→i < st.length
structure Next (fz:Fz) (st:Za) (fz':Fz) (st':Za):Prop where
 old:∀ i,i < st.length→st'[i]?=st[i]?
 len:st.length≤st'.length
 sub:∀ i,fz i→fz' i
 new:∀ i,fz' i→fz i∨st.length≤i
 bd:Bd fz' st'
section
variable {fz fz' fz1 fz2:Fz}{st st' st1 st2:Za}
theorem Next.refl (b:Bd fz st):Next fz st fz st:=⟨fun _ _=>rfl,Nat.le_refl _,fun _ h=>h,fun _ h=>.inl h,b⟩
theorem Next.trans (x:Next fz st fz1 st1) (y:Next fz1 st1 fz2 st2):Next fz st fz2 st2:=
 ⟨fun i h=>(y.old i (Nat.lt_of_lt_of_le h x.len)).trans (x.old i h),Nat.le_trans x.len y.len,fun i h=>y.sub i (x.sub i h),fun i h=>(y.new i h).elim (x.new i) fun z=>.inr (Nat.le_trans x.len z),y.bd⟩
theorem Next.small (b:Bd fz st) (x:Next fz1 st fz' st'):Next fz st fz st':=⟨x.old,x.len,fun _ h=>h,fun _ h=>.inl h,fun i h=>Nat.lt_of_lt_of_le (b i h) x.len⟩
theorem Rel.next {p:P}{d:D} (b:Bd fz st) (x:Next fz st fz' st') (r:Rel fz st p d):Rel fz' st' p d:=r.mono x.sub fun i h=>x.old i (b i h)
theorem Rels.next {p:List P}{d:List D} (b:Bd fz st) (x:Next fz st fz' st') (r:Rels fz st p d):Rels fz' st' p d:=r.mono x.sub fun i h=>x.old i (b i h)
theorem ZfP {α:Type}{l:List α}{x:α}:(l++[x])[l.length]?=some x:=by simp
theorem Zdf {m:Bool}{ds:List D} (b:Bd fz st):Next fz st fz (st++[(m,ds)]):=
 ⟨fun i h=>by rw [List.getElem?_append_left h],by simp,fun _ h=>h,fun _ h=>.inl h,fun i h=>by have:=b i h; simp; omega⟩
theorem Jy {m:Bool}{ds:List D} (b:Bd fz st):Next fz st (fun i=>fz i∨i=st.length) (st++[(m,ds)]):=
 ⟨fun i h=>by rw [List.getElem?_append_left h],by simp,fun _ h=>.inl h,fun i h=>h.elim .inl fun z=>.inr (by omega),fun i h=>by
  rcases h with h | h
  ·have:=b i h; simp; omega
  ·simp; omega⟩
theorem QG {m:Bool}{ps:List P}{ds:List D} (b:Bd fz st) (r:Rels fz st ps ds):Rel (fun i=>fz i∨i=st.length) (st++[(m,ds)]) (.lst m ps) (.lst st.length):=
 .lst (.inr rfl) ZfP (r.next b (Jy b))
end
abbrev Gives (fz:Fz) (st:Za) (r:Res) (p:P):Prop:=∃ d st' fz',r=some (d,st')∧Next fz st fz' st'∧Rel fz' st' p d
def Op1 (o:D→Za→Res) (O:P→Option P):Prop:=∀ fz st x dx p,Bd fz st→Rel fz st x dx→O x=some p→Gives fz st (o dx st) p
def Op2 (o:D→D→Za→Res) (O:P→P→Option P):Prop:=∀ fz st x y dx dy p,Bd fz st→Rel fz st x dx→Rel fz st y dy→O x y=some p→Gives fz st (o dx dy st) p
def Op3 (o:D→D→D→Za→Res) (O:P→P→P→Option P):Prop:=∀ fz st x y z dx dy dz p,Bd fz st→Rel fz st x dx→Rel fz st y dy→Rel fz st z dz→O x y z=some p→Gives fz st (o dx dy dz st) p
abbrev Makes (fz:Fz) (st:Za) (r:Res) (m:Bool) (ps:List P):Prop:=∃ ds,r=some (.lst st.length,st++[(m,ds)])∧Rels fz st ps ds
def ZfW (o:D→Za→Res) (O:P→Option P):Prop:=∀ fz st x dx m ps,Bd fz st→Rel fz st x dx→O x=some (.lst m ps)→Makes fz st (o dx st) m ps
def ZfX (o:D→D→Za→Res) (O:P→P→Option P):Prop:=∀ fz st x y dx dy m ps,Bd fz st→Rel fz st x dx→Rel fz st y dy→O x y=some (.lst m ps)→Makes fz st (o dx dy st) m ps
def Zhs (o:D→D→D→Za→Res) (O:P→P→P→Option P):Prop:=∀ fz st x y z dx dy dz m ps,Bd fz st→Rel fz st x dx→Rel fz st y dy→Rel fz st z dz→O x y z=some (.lst m ps)→Makes fz st (o dx dy dz st) m ps
theorem Gives.same {fz:Fz}{st:Za}{p:P}{d:D} (b:Bd fz st) (r:Rel fz st p d):Gives fz st (some (d,st)) p:=⟨d,st,fz,rfl,Next.refl b,r⟩
theorem Makes.gives {fz:Fz}{st:Za}{r:Res}{m:Bool}{ps:List P} (b:Bd fz st) (h:Makes fz st r m ps):Gives fz st r (.lst m ps):=by
 obtain ⟨ds,e,rr⟩:=h
 exact ⟨_,_,_,e,Jy b,QG b rr⟩
section
mutual
theorem Vc {fz:Fz}{st:Za}:∀ {n:Nat}{p:P}{d:D},Rel fz st p d→okP n p=okD n d
 | n,_,_,.non=>by cases n<;>rfl
 | n,_,_,.bl b=>by cases n<;>rfl
 | n,_,_,.int i=>by cases n<;>rfl
 | n,_,_,.str x=>by cases n<;>rfl
 | 0,_,_,.tup r=>rfl
 | n+1,_,_,.tup r=>Wt r
 | n,_,_,.lst _ _ _=>by cases n<;>rfl
 | n,_,_,.dct _=>by cases n<;>rfl
 | n,_,_,.obj _=>by cases n<;>rfl
 | n,_,_,.kt _=>by cases n<;>rfl
 | n,_,_,.dic _ _ _=>by cases n<;>rfl
theorem Wt {fz:Fz}{st:Za}:∀ {n:Nat}{p:List P}{d:List D},Rels fz st p d→Vt n p=Yv n d
 | _,_,_,.nil=>rfl
 | n,p :: ps,d :: ds,.cons h r=>by
  show (okP n p&&Vt n ps)=(okD n d&&Yv n ds)
  rw [Vc h,Wt r]
end
mutual
theorem JR {fz:Fz}{st:Za}:∀ {p q:P}{d e:D},Rel fz st p d→Rel fz st q e→Wj p q=ZB d e
 | _,_,_,_,.non,h=>by cases h<;>rfl
 | _,_,_,_,.bl b,h=>by cases h<;>rfl
 | _,_,_,_,.int i,h=>by cases h<;>rfl
 | _,_,_,_,.str x,h=>by cases h<;>rfl
 | _,_,_,_,.tup r,h=>by
  cases h with
  | tup r'=>exact XB r r'
  | _=>rfl
 | _,_,_,_,.lst _ _ _,h=>by cases h<;>rfl
 | _,_,_,_,.dct _,h=>by cases h<;>rfl
 | _,_,_,_,.obj _,h=>by cases h<;>rfl
 | _,_,_,_,.kt _,h=>by cases h<;>rfl
 | _,_,_,_,.dic _ _ _,h=>by cases h<;>rfl
theorem XB {fz:Fz}{st:Za}:∀ {p q:List P}{d e:List D},Rels fz st p d→Rels fz st q e→XA p q=ZY d e
 | _,_,_,_,.nil,h=>by cases h<;>rfl
 | p :: ps,_,d :: ds,_,.cons a r,h=>by
  cases h with
  | nil=>rfl
  | @cons q e qs es a' r'=>
   show (Wj p q&&XA ps qs)=(ZB d e&&ZY ds es)
   rw [JR a a',XB r r']
end
theorem Zae {fz:Fz}{st:Za}{ps:List P}{ds:List D} (r:Rels fz st ps ds):ps.isEmpty=ds.isEmpty:=by cases r<;>rfl
theorem ZcX {fz:Fz}{st:Za}{ps qs:List P}{ds es:List D}{k:Bool} (r:Rels fz st ps ds) (s:Rels fz st qs es) (h:ZcW ps qs=some k):Zal st ds es=some k:=by cases h
theorem Zdt {fz:Fz}{st:Za}{p:P}{d:D} (r:Rel fz st p d):scP p=scD d:=by cases r<;>rfl
theorem Zd2 {fz:Fz}{st:Za}{ps qs:List P}{ds es:List D} (r:Rels fz st ps ds) (s:Rels fz st qs es):Zgk ps qs=ZaY ds es:=by
 unfold Zgk ZaY
 rw [Zae r,Zae s,Wt r,Wt s,XB r s]
theorem Zb3 {fz:Fz}{st:Za}{p q:P}{d e:D}{k:Bool} (r:Rel fz st p d) (s:Rel fz st q e) (h:eqP p q=some k):eqS st d e=some k:=by
 have tail:(o2 Zb2 (scP p) (scP q)).join=some k→(o2 Zb2 (scD d) (scD e)).join=some k:=by
  rw [Zdt r,Zdt s]; exact id
 cases r with
 | @tup ps ds r=>
  cases s with
  | @tup qs es r'=>
   have h:(if okP 8 (.tup ps)&&okP 8 (.tup qs) then some (XA ps qs) else ZcW ps qs)=some k:=h
   show (match (if okD 8 (.tup ds)&&okD 8 (.tup es) then some (ZY ds es) else none) with
    | some k=>some k
    | none=>Zal st ds es)=some k
   rw [Vc (.tup r),Vc (.tup r'),XB r r'] at h
   by_cases c:(okD 8 (.tup ds)&&okD 8 (.tup es))=true
   ·rw [if_pos c] at h ⊢
    exact h
   ·rw [if_neg c] at h ⊢
    exact ZcX r r' h
  | _=>cases h
 | @lst j m ps ds hz hs r=>
  cases s with
  | @lst j' m' qs es hz' hs' r'=>
   show (o2 (fun (c d:V4)=>ZaY c.2 d.2) st[j]? st[j']?).join=some k
   rw [hs,hs']
   show ZaY ds es=some k
   rw [←Zd2 r r']
   exact h
  | _=>cases h
 | _=>exact tail h
theorem Ji {fz:Fz}{st:Za}{i:Int}:∀ {ps:List P}{ds:List D}{k:Bool},Rels fz st ps ds→inP i ps=some k→YR i ds=some k
 | _,_,_,.nil,h=>h
 | p :: ps,d :: ds,k,.cons a r,h=>by
  cases a with
  | int j=>
   have h:(inP i ps).map (fun b=>decide (j=i)||b)=some k:=h
   show (YR i ds).map (fun b=>decide (j=i)||b)=some k
   cases q:inP i ps with
   | none=>rw [q] at h; cases h
   | some k'=>rw [q] at h; rw [Ji r q]; exact h
  | _=>cases h
theorem Uk {fz:Fz}{st:Za}{i:Str}:∀ {ps:List P}{ds:List D}{k:Bool},Rels fz st ps ds→Za6 i ps=some k→YS i ds=some k
 | _,_,_,.nil,h=>h
 | p :: ps,d :: ds,k,.cons a r,h=>by
  cases a with
  | str j=>
   have h:(Za6 i ps).map (fun b=>decide (j=i)||b)=some k:=h
   show (YS i ds).map (fun b=>decide (j=i)||b)=some k
   cases q:Za6 i ps with
   | none=>rw [q] at h; cases h
   | some k'=>rw [q] at h; rw [Uk r q]; exact h
  | _=>cases h
theorem Ua {fz:Fz}{st:Za}{i:Int}{ps:List P}{ds:List D}{p:P} (r:Rels fz st ps ds) (h:atP ps i=some p):∃ d,atD ds i=some d∧Rel fz st p d:=by
 unfold atP at h
 unfold atD
 rw [←r.length]
 cases q:ixN ps.length i with
 | none=>rw [q] at h; cases h
 | some j=>
  rw [q] at h
  exact r.get h
theorem JY {fz:Fz}{st:Za}{lo hi:Option Int}{ps:List P}{ds:List D} (r:Rels fz st ps ds):Rels fz st (ZbW ps lo hi) (ZaW ds lo hi):=by
 unfold ZbW ZaW
 rw [←r.length]
 exact (r.drop _).take _
end
section
theorem Zh3:Op1 ZeF Zbd:=by
 intro fz st x dx p b r h
 cases r<;>first | (cases h; exact .same b (.int _)) | cases h
theorem Zh4:Op1 Zbe Zbf:=by
 intro fz st x dx p b r h
 cases r<;>first | (cases h; exact .same b (.bl _)) | cases h
theorem ZgH:Op1 Zam Zan:=by
 intro fz st x dx p b r h
 cases r<;>first | (cases h; exact .same b (.int _)) | cases h
theorem ZgJ:Op1 Zdw Zay:=by
 intro fz st x dx p b r h
 cases r with
 | int i=>
  have h:(if ZI i=true then some (P.str (Str.ofString (toString i))) else none)=some p:=h
  split at h
  ·rename_i c
   cases h
   rw [show Zdw (.int i) st=some (.str (Str.ofString (toString i)),st) from if_pos c]
   exact .same b (.str _)
  ·cases h
 | _=>cases h
theorem X3 {fz:Fz}{st:Za}:∀ {ps:List P}{ds:List D},Rels fz st ps ds→∀ {xs:List Str},QW ps=some xs→Wh ds=some xs
 | _,_,.nil,xs,h=>h
 | _,_,.cons a r,xs,h=>by
  cases a with
  | str x=>
   obtain ⟨zs,h1,h2⟩:=Option.map_eq_some_iff.mp (show (QW _).map (x :: ·)=some xs from h)
   show (Wh _).map (x :: ·)=some xs
   rw [X3 r h1,←h2]
   rfl
  | _=>cases h
theorem ZgD:Op2 VO Zaa:=by
 intro fz st x y dx dy p b r s h
 cases r with
 | str x=>
  cases s with
  | @lst k m ps ds hz hs r=>
   have h:(if x.length=0 then Jn ps else Jm x ps)=some p:=h
   have z:VO (.str x) (.lst k) st=(if x.length=0 then J9 ds st else J8 x ds st):=by unfold VO; simp only [hs]
   rw [z]
   split at h
   ·rename_i c
    rw [if_pos c]
    unfold Jn at h
    split at h
    ·rename_i xs q
     split at h
     ·rename_i c2
      cases h
      unfold J9
      rw [X3 r q]
      simp only
      rw [if_pos c2]
      exact .same b (.str _)
     ·cases h
    ·cases h
   ·rename_i c
    rw [if_neg c]
    unfold Jm at h
    split at h
    ·rename_i xs q
     split at h
     ·rename_i c2
      cases h
      unfold J8
      rw [X3 r q]
      simp only
      rw [if_pos c2]
      exact .same b (.str _)
     ·cases h
    ·cases h
  | _=>cases h
 | _=>cases h
theorem ZgI:Op2 QM Zau:=by
 intro fz st x y dx dy p b r s h
 cases r with
 | int i=>
  cases s with
  | int j=>
   have h:(if Zs i j 1=true then some (P.dct [] [.int i,.int j]) else none)=some p:=h
   split at h
   ·rename_i c
    cases h
    rw [show QM (.int i) (.int j) st=some (.dct [] [.int i,.int j],st) from if_pos c]
    exact .same b (.dct (.cons (.int _) (.cons (.int _) .nil)))
   ·cases h
  | _=>cases h
 | _=>cases h
theorem ZcO:Op2 Zax Ww:=by
 intro fz st x y dx dy p b r s h
 cases r with
 | str x=>
  cases s with
  | tup r=>cases r with
   | nil=>cases h
   | cons a r=>cases r with
    | cons _ _=>cases a<;>cases h
    | nil=>cases a with
     | str y=>cases h; exact .same b (.bl _)
     | _=>cases h
  | _=>cases h
 | _=>cases h
theorem ZgE:Op1 Qm Jp:=by
 intro fz st x dx p b r h
 cases r with
 | @tup ps ds r=>
  cases h
  rw [r.length]
  exact .same b (.int _)
 | @lst j m ps ds hz hs r=>
  cases h
  have e:Qm (.lst j) st=some (.int ds.length,st):=by unfold Qm Zeu; simp only [hs]
  rw [e,r.length]
  exact .same b (.int _)
 | kt ks=>
  cases h
  exact .same b (.int _)
 | str x=>
  have h:(if x.length≤Zg then some (P.int x.length) else none)=some p:=h
  split at h
  ·rename_i c
   cases h
   have e:Qm (.str x) st=some (.int x.length,st):=by
    unfold Qm Zeu
    simp only
    rw [if_pos c]
   rw [e]
   exact .same b (.int _)
  ·cases h
 | _=>cases h
theorem ZhZ (T:Ty):Op1 (Jk T) (Ql T):=by
 intro fz st x dx p b r h
 obtain ⟨k,e,rfl⟩:=Option.map_eq_some_iff.mp (show (Zgw T x).map P.bl=some p from h)
 have z:Zgw T x=Zer T dx:=by cases r<;>rfl
 rw [z] at e
 unfold Jk
 rw [e]
 exact .same b (.bl k)
theorem ZfD:ZfW ZcG Jt:=by
 intro fz st x dx m ps b r h
 cases r with
 | @tup ps ds r=>cases h; exact ⟨ds,rfl,r⟩
 | _=>cases h
theorem Zh0:Op1 ZcG Jt:=by
 intro fz st x dx p b r h
 cases r with
 | @tup ps ds r=>cases h; exact (ZfD fz st _ _ true ps b (.tup r) rfl).gives b
 | _=>cases h
theorem Jf:ZfW VP Qn:=by
 intro fz st x dx m ps b r h
 cases r with
 | @tup ps ds r=>cases h; exact ⟨ds,rfl,r⟩
 | @lst j m ps ds hz hs r=>
  cases h
  exact ⟨ds,by unfold VP; simp only [hs],r⟩
 | _=>cases h
theorem ZgF:Op1 VP Qn:=by
 intro fz st x dx p b r h
 cases r with
 | @tup ps ds r=>cases h; exact (Jf fz st _ _ true ps b (.tup r) rfl).gives b
 | @lst j m ps ds hz hs r=>cases h; exact (Jf fz st _ _ true ps b (.lst hz hs r) rfl).gives b
 | _=>cases h
theorem ZeI:Op1 X4 X5:=by
 intro fz st x dx p b r h
 cases r with
 | @tup ps ds r=>cases h; exact .same b (.tup r)
 | @lst j m ps ds hz hs r=>
  cases h
  have e:X4 (.lst j) st=some (.tup ds,st):=by unfold X4; simp only [hs]
  rw [e]
  exact .same b (.tup r)
 | _=>cases h
theorem ZgC:Op2 X9 VA:=by
 intro fz st x y dx dy p b r s h
 cases s with
 | @tup ps ds s=>
  have h:(if ps.length < 1000 then some (P.tup (x :: ps)) else none)=some p:=h
  split at h
  ·rename_i c
   cases h
   have e:X9 dx (.tup ds) st=some (.tup (dx :: ds),st):=by unfold X9; simp only; rw [s.length] at c; rw [if_pos c]
   rw [e]
   exact .same b (.tup (.cons r s))
  ·cases h
 | _=>cases h
theorem Zh2:Op2 ZeC Zbc:=by
 intro fz st x y dx dy p b r s h
 cases r with
 | int i=>
  cases s with
  | int j=>cases h; exact .same b (.int _)
  | _=>cases h
 | _=>cases h
theorem Zh1:Op2 ZeA Zbb:=by
 intro fz st x y dx dy p b r s h
 cases r with
 | int i=>
  cases s with
  | int j=>cases h; exact .same b (.int _)
  | _=>cases h
 | _=>cases h
theorem XX {fz:Fz}{st:Za}{k:Str}:∀ {ks:List Str}{ps:List P}{ds:List D},Rels fz st ps ds→(∃ p d,YW ks ps k=some p∧Z0 ks ds k=some d∧Rel fz st p d)∨(YW ks ps k=none∧Z0 ks ds k=none)
 | [],_,_,_=>.inr ⟨by simp [YW],by simp [Z0]⟩
 | _ :: _,_,_,.nil=>.inr ⟨by simp [YW],by simp [Z0]⟩
 | x :: ks,_,_,.cons h r=>by
  by_cases e:x=k
  ·exact .inl ⟨_,_,by simp [YW,e],by simp [Z0,e],h⟩
  ·have ih:=XX (k:=k) (ks:=ks) r
   simp only [YW,Z0,if_neg e]
   exact ih
theorem XL {fz:Fz}{st:Za}:∀ l:List Str,Rels fz st (l.map P.str) (l.map D.str)
 | []=>.nil
 | k :: l=>.cons (.str _) (XL l)
theorem Zi3:Op2 ixR ixP:=by
 intro fz st x y dx dy p b r s h
 cases r with
 | @tup ps ds r=>
  cases s with
  | int j=>
   obtain ⟨d,e,q⟩:=Ua r h
   have e:ixR (.tup ds) (.int j) st=some (d,st):=by unfold ixR ixD; simp only [e]
   rw [e]; exact .same b q
  | _=>cases h
 | @lst k m ps ds hz hs r=>
  cases s with
  | int j=>
   obtain ⟨d,e,q⟩:=Ua r h
   have e:ixR (.lst k) (.int j) st=some (d,st):=by unfold ixR ixD; simp only [hs,e]
   rw [e]; exact .same b q
  | _=>cases h
 | @dct ks ps ds r=>
  cases s with
  | str z=>
   rcases XX (k:=z) (ks:=ks) r with ⟨p',d,e1,e2,q⟩ | ⟨e1,_⟩
   ·have h:YW ks ps z=some p:=h
    rw [e1] at h; cases h
    have e:ixR (.dct ks ds) (.str z) st=some (d,st):=by unfold ixR ixD; simp only [e2]
    rw [e]; exact .same b q
   ·have h:YW ks ps z=some p:=h
    rw [e1] at h; cases h
  | _=>cases h
 | kt ks=>
  cases s with
  | int j=>
   obtain ⟨d,e,q⟩:=Ua (XL (fz:=fz) (st:=st) ks) h
   have e:ixR (.kt ks) (.int j) st=some (d,st):=by unfold ixR ixD; simp only [e]
   rw [e]; exact .same b q
  | _=>cases h
 | str x=>
  cases s with
  | int j=>
   have h:(if x.length≤Zg then atP ((chS x).map .str) j else none)=some p:=h
   split at h
   ·rename_i c
    obtain ⟨d,e,q⟩:=Ua (XL (fz:=fz) (st:=st) (chS x)) h
    have e:ixR (.str x) (.int j) st=some (d,st):=by
     unfold ixR ixD
     simp only
     rw [if_pos c,e]
    rw [e]; exact .same b q
   ·cases h
  | _=>cases h
 | _=>cases h
theorem Uz {f:Int→Int→Bool}{fz:Fz}{st:Za}{x y:P}{dx dy:D}{k:Bool} (r:Rel fz st x dx) (s:Rel fz st y dy) (h:ZcU f x y=some k):Jv f dx dy=some k:=by
 cases r with
 | int i=>
  cases s with
  | int j=>exact h
  | _=>cases h
 | _=>cases h
theorem Zad {fz:Fz}{st:Za}{k:Bool}:∀ {ps qs:List P}{ds es:List D},Rels fz st ps ds→Rels fz st qs es→Qs ps qs=some k→Wm ds es=some k
 | _,_,_,_,.nil,.nil,h=>h
 | _,_,_,_,.nil,.cons _ r,h=>by
  have h:some (decide (0 < _+1))=some k:=h
  show some (decide (0 < _+1))=some k
  rw [←h]; simp
 | _,_,_,_,.cons _ _,.nil,h=>h
 | p :: ps,q :: qs,d :: ds,e :: es,.cons a r,.cons b r',h=>by
  unfold Qs at h
  unfold Wm
  rw [←JR a b]
  by_cases c:Wj p q=true
  ·rw [if_pos c] at h ⊢
   exact Zad r r' h
  ·rw [if_neg c] at h ⊢
   cases a with
   | int i=>cases b<;>first | exact h | cases h
   | str x=>cases b<;>first | exact h | cases h
   | _=>cases h
theorem Zgy {fz:Fz}{st:Za}{x y:P}{dx dy:D}{k:Bool} (r:Rel fz st x dx) (s:Rel fz st y dy) (h:ltP x y=some k):ltD dx dy=some k:=by
 cases r with
 | int i=>
  cases s with
  | int j=>exact h
  | _=>cases h
 | @tup ps ds r=>
  cases s with
  | @tup qs es r'=>
   have h:(if okP 8 (.tup ps)&&okP 8 (.tup qs) then Qs ps qs else none)=some k:=h
   show (if okD 8 (.tup ds)&&okD 8 (.tup es) then Wm ds es else none)=some k
   rw [Vc (.tup r),Vc (.tup r')] at h
   split at h
   ·rename_i c
    rw [if_pos c]
    exact Zad r r' h
   ·cases h
  | _=>cases h
 | _=>cases s<;>cases h
theorem Zex {fz:Fz}{st:Za}{x y:P}{dx dy:D}{k:Bool} (r:Rel fz st x dx) (s:Rel fz st y dy) (h:ZhU x y=some k):ltS st dx dy=some k:=by exact Zgy r s h
theorem Uv {a b:Option Bool}{f:Bool→Bool}{k:Bool} (h:∀ k,a=some k→b=some k) (e:a.map f=some k):b.map f=some k:=by
 cases q:a with
 | none=>rw [q] at e; cases e
 | some k'=>rw [h k' q]; rw [q] at e; exact e
theorem J4 {fz:Fz}{st:Za}{x y:P}{dx dy:D}{k:Bool} (r:Rel fz st x dx) (s:Rel fz st y dy) (h:Zgt x y=some k):inS st dx dy=some k:=by
 cases r with
 | int i=>
  cases s with
  | tup rr=>exact Ji rr h
  | lst hz hs rr=>
   unfold inS
   simp only [hs]
   exact Ji rr h
  | _=>cases h
 | str z=>
  cases s with
  | tup rr=>exact Uk rr h
  | lst hz hs rr=>
   unfold inS
   simp only [hs]
   exact Uk rr h
  | @dct ks _ _ rr=>
   have h:some (YW ks _ z).isSome=some k:=h
   show some (Z0 ks _ z).isSome=some k
   rcases XX (k:=z) (ks:=ks) rr with ⟨p',d,e1,e2,_⟩ | ⟨e1,e2⟩
   ·rw [e1] at h; rw [e2]; exact h
   ·rw [e1] at h; rw [e2]; exact h
  | str w=>exact h
  | _=>cases h
 | _=>cases h
theorem J7 {fz:Fz}{st:Za}{x y:P}{dx dy:D}{k:Bool} (r:Rel fz st x dx) (s:Rel fz st y dy) (h:Zgv x y=some k):isD dx dy=some k:=by
 cases s with
 | non=>cases r<;>first | exact h | cases h
 | bl b=>cases r<;>first | exact h | cases h
 | _=>cases h
theorem VJ {fz:Fz}{st:Za}:∀ l:List Int,Rels fz st (l.map P.int) (l.map D.int)
 | []=>.nil
 | k :: l=>.cons (.int _) (VJ l)
theorem Zb6:ZfX Qp W8:=by
 intro fz st x y dx dy m ps b r s h
 cases r with
 | int i=>
  cases s with
  | int j=>
   have h:(if Zs i j 1=true∧j - i≤1000 then some (P.lst true ((Zt i j 1).map .int)) else none)=some (.lst m ps):=h
   split at h
   ·rename_i c
    cases h
    exact ⟨_,if_pos c,VJ _⟩
   ·cases h
  | _=>cases h
 | _=>cases h
theorem ZgG:Op2 Qp W8:=by
 intro fz st x y dx dy p b r s h
 cases r with
 | int i=>
  cases s with
  | int j=>
   have h':(if Zs i j 1=true∧j - i≤1000 then some (P.lst true ((Zt i j 1).map .int)) else none)=some p:=h
   split at h'
   ·cases h'
    exact (Zb6 fz st _ _ _ _ true _ b (.int i) (.int j) h).gives b
   ·cases h'
  | _=>cases h
 | _=>cases h
theorem ZhY (ng:Bool):Op2 (Zgs ng) (Zel ng):=by
 intro fz st x y dx dy p b r s h
 cases r with
 | int i=>
  cases s with
  | int j=>
   have h:(if -(2 ^ 62)≤j∧j < 2 ^ 62 then some (P.bl (ng != decide (0≤i∧i < j))) else none)=some p:=h
   split at h
   ·rename_i c
    cases h
    have e:Zgs ng (.int i) (.int j) st=some (.bl (ng != decide (0≤i∧i < j)),st):=if_pos c
    rw [e]
    exact .same b (.bl _)
   ·cases h
  | _=>cases h
 | _=>cases h
theorem ZhX (op:CmpOp):Op2 (WN op) (Y2 op):=by
 intro fz st x y dx dy p b r s h
 have h:(Zgf op x y).map P.bl=some p:=h
 cases q:Zgf op x y with
 | none=>rw [q] at h; cases h
 | some k=>
  rw [q] at h; cases h
  have e:Zge op dx dy st=some k:=by
   cases op with
   | Lt=>exact Zex r s q
   | LtE=>exact Uz r s q
   | Gt=>exact Uz r s q
   | GtE=>exact Uz r s q
   | Eq=>exact Zb3 r s q
   | NotEq=>exact Uv (fun k=>Zb3 r s) q
   | In=>exact J4 r s q
   | NotIn=>
    replace q:niP x y=some k:=q
    show niS st dx dy=some k
    cases s with
    | dct _=>cases q
    | _=>exact Uv (fun k=>J4 r (by constructor<;>assumption)) q
   | Is=>exact J7 r s q
   | IsNot=>exact Uv (fun k=>J7 r s) q
  have e2:WN op dx dy st=some (.bl k,st):=by unfold WN; rw [e]
  rw [e2]
  exact .same b (.bl k)
theorem JS {op:Operator}{fz:Fz}{st:Za}{x y p:P}{dx dy:D} (b:Bd fz st) (r:Rel fz st x dx) (s:Rel fz st y dy) (h:Xp op x y=some p):(∃ d,XR op dx dy st=some (d,st)∧Rel fz st p d∧∀ m ps,p≠.lst m ps)∨∃ ps,p=.lst true ps∧Makes fz st (XR op dx dy st) true ps:=by
 cases r with
 | @lst ja ma pa da hz hs rr=>
  cases s with
  | @lst jb mb pb db hz' hs' rr'=>
   have h:(if YV op=true∧pa.length+pb.length≤Zg then some (P.lst true (pa++pb)) else none)=some p:=h
   split at h
   ·rename_i c
    cases h
    refine .inr ⟨_,rfl,_,?_,rr.append rr'⟩
    show (if YV op=true then ZdV ja jb st else none)=_
    unfold ZdV
    rw [if_pos c.1,hs,hs']
    exact if_pos (by rw [←rr.length,←rr'.length]; exact c.2)
   ·cases h
  | int j=>
   have h:(if Xj op=true then ZfN ma pa j else none)=some p:=h
   split at h
   ·rename_i c
    cases ma with
    | false=>cases h
    | true=>cases rr with
     | nil=>cases h
     | @cons p0 _ _ _ a rr=>cases rr with
      | cons _ _=>cases h
      | nil=>
       have h:(if j≤1000∧-1000≤j then some (P.lst true (List.replicate j.toNat p0)) else none)=some p:=h
       split at h
       ·rename_i c2
        cases h
        refine .inr ⟨_,rfl,_,?_,Rels.rep a _⟩
        show (if Xj op=true then ZeW ja j st else none)=_
        unfold ZeW
        rw [if_pos c,hs]
        exact if_pos c2
       ·cases h
   ·cases h
  | _=>cases h
 | @tup pa da r1=>cases s with
  | @tup pb db s1=>
   have h:(if YV op=true∧pa.length+pb.length≤Zg then some (P.tup (pa++pb)) else none)=some p:=h
   split at h
   ·rename_i c
    cases h
    exact .inl ⟨_,if_pos ⟨c.1,by rw [←r1.length,←s1.length]; exact c.2⟩,.tup (r1.append s1),fun _ _ z=>nomatch z⟩
   ·cases h
  | int j=>
   have h:(if Xj op=true then Zdk pa j else none)=some p:=h
   split at h
   ·rename_i c
    cases r1 with
    | nil=>cases h
    | @cons p0 d0 _ _ a r1=>cases r1 with
     | cons _ _=>cases h
     | nil=>
      have h:(if j≤1000∧-1000≤j then some (P.tup (List.replicate j.toNat p0)) else none)=some p:=h
      split at h
      ·rename_i c2
       cases h
       exact .inl ⟨_,(if_pos c).trans (if_pos c2),.tup (Rels.rep a _),fun _ _ z=>nomatch z⟩
      ·cases h
   ·cases h
  | _=>cases h
 | int i=>cases s with
  | int j=>
   have h:(match Q7 op i j with
    | some k=>some (P.int k)
    | none=>none)=some p:=h
   have z:XR op (.int i) (.int j) st=(match Q7 op i j with
    | some k=>some (D.int k,st)
    | none=>none):=rfl
   rw [z]
   cases q:Q7 op i j with
   | none=>rw [q] at h; cases h
   | some k=>rw [q] at h; cases h; exact .inl ⟨_,rfl,.int _,fun _ _ z=>nomatch z⟩
  | _=>cases h
 | str x=>cases s with
  | str y=>
   have h:(if YV op=true∧x.length+y.length≤Zg then some (P.str (x++y)) else none)=some p:=h
   split at h
   ·rename_i c
    cases h
    exact .inl ⟨_,if_pos c,.str _,fun _ _ z=>nomatch z⟩
   ·cases h
  | _=>cases h
 | _=>cases h
theorem ZhM (op:Operator):ZfX (XR op) (Xp op):=by
 intro fz st x y dx dy m ps b r s h
 rcases JS b r s h with ⟨_,_,_,n⟩ | ⟨qs,e,mk⟩
 ·exact absurd rfl (n _ _)
 ·cases e; exact mk
theorem ZhW (op:Operator):Op2 (XR op) (Xp op):=by
 intro fz st x y dx dy p b r s h
 rcases JS b r s h with ⟨d,e,rp,_⟩ | ⟨qs,e,mk⟩
 ·rw [e]; exact .same b rp
 ·cases e; exact mk.gives b
theorem Zaw {fz:Fz}{st:Za}{x:P}{dx:D}{lo hi:Option Int}{p:P} (b:Bd fz st) (r:Rel fz st x dx) (h:Xg x lo hi=some p):(∃ d,Yl dx lo hi st=some (d,st)∧Rel fz st p d∧∀ m ps,p≠.lst m ps)∨∃ ps,p=.lst true ps∧Makes fz st (Yl dx lo hi st) true ps:=by
 cases r with
 | @tup ps ds r=>
  have h:(if sIx ps.length 0 lo=0∧sIx ps.length ps.length hi=ps.length then some (P.tup ps) else some (P.tup (ZbW ps lo hi)))=some p:=h
  split at h
  ·rename_i c
   cases h
   refine .inl ⟨_,?_,.tup r,fun _ _ z=>nomatch z⟩
   unfold Yl
   simp only
   rw [if_pos (by rw [←r.length]; exact c)]
  ·rename_i c
   cases h
   refine .inl ⟨_,?_,.tup (JY r),fun _ _ z=>nomatch z⟩
   unfold Yl
   simp only
   rw [if_neg (by rw [←r.length]; exact c)]
 | @lst j m ps ds hz hs r=>
  cases h
  refine .inr ⟨_,rfl,_,?_,JY r⟩
  unfold Yl
  simp only [hs]
 | str x=>
  have h:(if x.length≤Zg then some (P.str (Je x lo hi)) else none)=some p:=h
  split at h
  ·rename_i c
   cases h
   exact .inl ⟨_,if_pos c,.str _,fun _ _ z=>nomatch z⟩
  ·cases h
 | _=>cases h
theorem Zdu {fz:Fz}{st:Za}{x y z:P}{dx dy dz:D}{p:P} (s1:Rel fz st y dy) (s2:Rel fz st z dz) (h:X1 x y z=some p):∃ lo hi,Xg x lo hi=some p∧∀ dx,Xy dx dy dz st=Yl dx lo hi st:=by
 unfold X1 at h
 split at h
 ·cases s1; cases s2; exact ⟨_,_,h,fun _=>rfl⟩
 ·cases s1; cases s2; exact ⟨_,_,h,fun _=>rfl⟩
 ·cases s1; cases s2; exact ⟨_,_,h,fun _=>rfl⟩
 ·cases s1; cases s2; exact ⟨_,_,h,fun _=>rfl⟩
 ·cases h
theorem ZeH:Op3 Xy X1:=by
 intro fz st x y z dx dy dz p b r s1 s2 h
 obtain ⟨lo,hi,h0,e⟩:=Zdu (dx:=dx) s1 s2 h
 rw [e]
 rcases Zaw b r h0 with ⟨d,e1,rr,_⟩ | ⟨ps,rfl,mk⟩
 ·rw [e1]; exact .same b rr
 ·exact mk.gives b
theorem Zd4:Zhs Xy X1:=by
 intro fz st x y z dx dy dz m ps b r s1 s2 h
 obtain ⟨lo,hi,h0,e⟩:=Zdu (dx:=dx) s1 s2 h
 rw [e]
 rcases Zaw b r h0 with ⟨_,_,_,z⟩ | ⟨ps,z,mk⟩
 ·exact absurd rfl (z _ _)
 ·cases z; exact mk
end
end Dp


namespace Dp
open PySem
noncomputable abbrev PFn:=Nat→List P→Option P
def Zfv (F:Fn) (G:List P→Option P):Prop:=∀ ps m xs,G ps=some (.lst m xs)→∀ fz st ds,Bd fz st→Rels fz st ps ds→∃ j es st' fz1,F ds st=some (.lst j,st')∧st'[j]?=some (m,es)∧Next fz st fz1 st'∧¬fz1 j∧st.length≤j∧Rels fz1 st' xs es
def ZX (F:Nat→Fn) (G:PFn):Prop:=(∀ i ps p,G i ps=some p→∀ fz st ds,Bd fz st→Rels fz st ps ds→Gives fz st (F i ds st) p)∧∀ i,W1 i=true→Zfv (F i) (G i)
def EnvAll (fz:Fz) (st:Za) (π:Zl) (ρ:Env):Prop:=∀ (i:Nat) (p:P),π[i]?=some (some p)→∃ d,ρ[i]?=some (some d)∧Rel fz st p d
theorem EnvAll.next {fz fz':Fz}{st st':Za}{π:Zl}{ρ:Env} (b:Bd fz st) (x:Next fz st fz' st') (h:EnvAll fz st π ρ):EnvAll fz' st' π ρ:=fun i p e=>
 let ⟨d,e1,r⟩:=h i p e; ⟨d,e1,r.next b x⟩
def SEP (f:Ev) (g:PEv):Prop:=∀ π p,g π=some p→∀ fz st ρ,Bd fz st→EnvAll fz st π ρ→Gives fz st (f ρ st) p
def SFP (f:Ev) (g:PEv):Prop:=∀ π m ps,g π=some (.lst m ps)→∀ fz st ρ,Bd fz st→EnvAll fz st π ρ→∃ j ds st' fz1,f ρ st=some (.lst j,st')∧st'[j]?=some (m,ds)∧Next fz st fz1 st'∧¬fz1 j∧st.length≤j∧Rels fz1 st' ps ds
section
variable {f fa fb fc:Ev}{g ga gb gc:PEv}
theorem Makes.fresh {fz fz1:Fz}{st st1:Za}{r:Res}{m:Bool}{ps:List P} (x:Next fz st fz1 st1) (h:Makes fz1 st1 r m ps) :
  ∃ j ds st' fz2,r=some (.lst j,st')∧st'[j]?=some (m,ds)∧Next fz st fz2 st'∧¬fz2 j∧st.length≤j∧Rels fz2 st' ps ds:=by
 obtain ⟨ds,e,rr⟩:=h
 refine ⟨_,ds,_,fz1,e,ZfP,x.trans (Zdf x.bd),fun z=>?_,x.len,rr.next x.bd (Zdf x.bd)⟩
 exact absurd (x.bd _ z) (by omega)
theorem s1 {o:D→Za→Res}{O:P→Option P} (h:SEP f g) (k:Op1 o O):SEP (Z2 f o) (pq1 g O):=by
 intro π p e fz st ρ b E
 unfold pq1 at e
 split at e
 ·rename_i x q
  obtain ⟨d,st1,fz1,e1,n1,r1⟩:=h π x q fz st ρ b E
  obtain ⟨d2,st2,fz2,e2,n2,r2⟩:=k fz1 st1 x d p n1.bd r1 e
  exact ⟨d2,st2,fz2,by unfold Z2; rw [e1]; exact e2,n1.trans n2,r2⟩
 ·cases e
theorem s1F {o:D→Za→Res}{O:P→Option P} (h:SEP f g) (k:ZfW o O):SFP (Z2 f o) (pq1 g O):=by
 intro π m ps e fz st ρ b E
 unfold pq1 at e
 split at e
 ·rename_i x q
  obtain ⟨d,st1,fz1,e1,n1,r1⟩:=h π x q fz st ρ b E
  have mk:=k fz1 st1 x d m ps n1.bd r1 e
  have e3:Z2 f o ρ st=o d st1:=by unfold Z2; rw [e1]
  rw [e3]
  exact mk.fresh n1
 ·cases e
theorem s2 {o:D→D→Za→Res}{O:P→P→Option P} (ha:SEP fa ga) (hb:SEP fb gb) (k:Op2 o O):SEP (Ye fa fb o) (pq2 ga gb O):=by
 intro π p e fz st ρ b E
 unfold pq2 at e
 split at e
 ·rename_i x q
  split at e
  ·rename_i y q'
   obtain ⟨d,st1,fz1,e1,n1,r1⟩:=ha π x q fz st ρ b E
   obtain ⟨d2,st2,fz2,e2,n2,r2⟩:=hb π y q' fz1 st1 ρ n1.bd (E.next b n1)
   obtain ⟨d3,st3,fz3,e3,n3,r3⟩:=k fz2 st2 x y d d2 p n2.bd (r1.next n1.bd n2) r2 e
   exact ⟨d3,st3,fz3,by unfold Ye; rw [e1]; simp only [e2]; exact e3,(n1.trans n2).trans n3,r3⟩
  ·cases e
 ·cases e
theorem s2F {o:D→D→Za→Res}{O:P→P→Option P} (ha:SEP fa ga) (hb:SEP fb gb) (k:ZfX o O):SFP (Ye fa fb o) (pq2 ga gb O):=by
 intro π m ps e fz st ρ b E
 unfold pq2 at e
 split at e
 ·rename_i x q
  split at e
  ·rename_i y q'
   obtain ⟨d,st1,fz1,e1,n1,r1⟩:=ha π x q fz st ρ b E
   obtain ⟨d2,st2,fz2,e2,n2,r2⟩:=hb π y q' fz1 st1 ρ n1.bd (E.next b n1)
   have mk:=k fz2 st2 x y d d2 m ps n2.bd (r1.next n1.bd n2) r2 e
   have e3:Ye fa fb o ρ st=o d d2 st2:=by unfold Ye; rw [e1]; simp only [e2]
   rw [e3]
   exact mk.fresh (n1.trans n2)
  ·cases e
 ·cases e
theorem s3 {o:D→D→D→Za→Res}{O:P→P→P→Option P} (ha:SEP fa ga) (hb:SEP fb gb) (hc:SEP fc gc) (k:Op3 o O):SEP (QN fa fb fc o) (pq3 ga gb gc O):=by
 intro π p e fz st ρ b E
 unfold pq3 at e
 split at e
 ·rename_i x q
  split at e
  ·rename_i y q'
   split at e
   ·rename_i z q''
    obtain ⟨d,st1,fz1,e1,n1,r1⟩:=ha π x q fz st ρ b E
    obtain ⟨d2,st2,fz2,e2,n2,r2⟩:=hb π y q' fz1 st1 ρ n1.bd (E.next b n1)
    obtain ⟨d3,st3,fz3,e3,n3,r3⟩:=hc π z q'' fz2 st2 ρ n2.bd (E.next b (n1.trans n2))
    obtain ⟨d4,st4,fz4,e4,n4,r4⟩:=k fz3 st3 x y z d d2 d3 p n3.bd (r1.next n1.bd (n2.trans n3)) (r2.next n2.bd n3) r3 e
    exact ⟨d4,st4,fz4,by unfold QN; rw [e1]; simp only [e2,e3]; exact e4,((n1.trans n2).trans n3).trans n4,r4⟩
   ·cases e
  ·cases e
 ·cases e
theorem s3F {o:D→D→D→Za→Res}{O:P→P→P→Option P} (ha:SEP fa ga) (hb:SEP fb gb) (hc:SEP fc gc) (k:Zhs o O):SFP (QN fa fb fc o) (pq3 ga gb gc O):=by
 intro π m ps e fz st ρ b E
 unfold pq3 at e
 split at e
 ·rename_i x q
  split at e
  ·rename_i y q'
   split at e
   ·rename_i z q''
    obtain ⟨d,st1,fz1,e1,n1,r1⟩:=ha π x q fz st ρ b E
    obtain ⟨d2,st2,fz2,e2,n2,r2⟩:=hb π y q' fz1 st1 ρ n1.bd (E.next b n1)
    obtain ⟨d3,st3,fz3,e3,n3,r3⟩:=hc π z q'' fz2 st2 ρ n2.bd (E.next b (n1.trans n2))
    have mk:=k fz3 st3 x y z d d2 d3 m ps n3.bd (r1.next n1.bd (n2.trans n3)) (r2.next n2.bd n3) r3 e
    have e4:QN fa fb fc o ρ st=o d d2 d3 st3:=by unfold QN; rw [e1]; simp only [e2,e3]
    rw [e4]
    exact mk.fresh ((n1.trans n2).trans n3)
   ·cases e
  ·cases e
 ·cases e
theorem sC {p:P}{d:D} (h:∀ fz st,Rel fz st p d):SEP (evC d) (fun _=>some p):=by
 intro π q e fz st ρ b E
 cases e
 exact .same b (h fz st)
theorem Zdo (hc:SEP fc gc) (ha:SEP fa ga) (hb:SEP fb gb):SEP (YB fc fa fb) (Yp gc ga gb):=by
 intro π p e fz st ρ b E
 unfold Yp at e
 split at e
 ·rename_i q
  obtain ⟨d,st1,fz1,e1,n1,r1⟩:=hc π _ q fz st ρ b E
  cases r1
  obtain ⟨d2,st2,fz2,e2,n2,r2⟩:=ha π p e fz1 st1 ρ n1.bd (E.next b n1)
  exact ⟨d2,st2,fz2,by unfold YB; rw [e1]; exact e2,n1.trans n2,r2⟩
 ·rename_i q
  obtain ⟨d,st1,fz1,e1,n1,r1⟩:=hc π _ q fz st ρ b E
  cases r1
  obtain ⟨d2,st2,fz2,e2,n2,r2⟩:=hb π p e fz1 st1 ρ n1.bd (E.next b n1)
  exact ⟨d2,st2,fz2,by unfold YB; rw [e1]; exact e2,n1.trans n2,r2⟩
 ·cases e
theorem Zjl (i:Nat):SEP (XF i) (Y8 i):=by
 intro π p e fz st ρ b E
 unfold Y8 at e
 split at e
 ·rename_i q
  cases e
  obtain ⟨d,e1,r⟩:=E i _ q
  exact ⟨d,st,fz,by unfold XF; rw [e1],Next.refl b,r⟩
 ·cases e
theorem Zib {F:Fn}{G:List P→Option P}{ds:List D} (hF:∀ ps p,G ps=some p→∀ fz st es,Bd fz st→Rels fz st ps es→Gives fz st (F es st) p):Op1 (WM F ds) (WL G ds):=by
 intro fz st x dx p b r h
 cases r with
 | @tup ps es r=>
  have h:(match XZ ds with
   | some es=>G (ps++es)
   | none=>none)=some p:=h
  split at h
  ·rename_i qs q
   exact hF _ p h fz st (es++ds) b (r.append (Rels.ofConst q))
  ·cases h
 | _=>cases h
theorem ZgX {F:Fn}{G:List P→Option P}{ds:List D}{fa:Ev}{ga:PEv} (ha:SEP fa ga) (hF:Zfv F G):SFP (Z2 fa (WM F ds)) (pq1 ga (WL G ds)):=by
 intro π m ps h fz st ρ b E
 unfold pq1 at h
 split at h
 ·rename_i x q
  obtain ⟨d,st1,fz1,e1,n1,r1⟩:=ha π x q fz st ρ b E
  cases r1 with
  | @tup qs es r=>
   have h:(match XZ ds with
    | some es=>G (qs++es)
    | none=>none)=some (.lst m ps):=h
   split at h
   ·rename_i ws qq
    obtain ⟨j,us,st2,fz2,e2,f1,n2,f2,f3,f4⟩:=hF _ m ps h fz1 st1 (es++ds) n1.bd (r.append (Rels.ofConst qq))
    refine ⟨j,us,st2,fz2,?_,f1,n1.trans n2,f2,Nat.le_trans n1.len f3,f4⟩
    unfold Z2
    rw [e1]
    exact e2
   ·cases h
  | _=>cases h
 ·cases h
theorem Zbl {fz:Fz}{st:Za} (n:Nat):Rels fz st ((List.range n).map fun (k:Nat)=>P.int (k:Int)) ((List.range n).map fun (k:Nat)=>D.int (k:Int)):=by
 generalize List.range n=l
 induction l with
 | nil=>exact .nil
 | cons a l ih=>exact .cons (.int _) ih
theorem VN {fz:Fz}{st:Za}{rng:Bool}{x:P}{dx:D}{xs:List P} (r:Rel fz st x dx) (h:Uq rng x=some xs):∃ ds,YT rng dx=some ds∧Rels fz st xs ds:=by
 cases rng with
 | true=>
  cases r with
  | int n=>
   have h:(if n < 2 ^ 62∧-(2 ^ 62)≤n then some (YE n) else none)=some xs:=h
   split at h
   ·rename_i c
    cases h
    refine ⟨_,by unfold YT; simp only; rw [if_pos c],Zbl _⟩
   ·cases h
  | _=>cases h
 | false=>
  cases r with
  | tup r=>cases h; exact ⟨_,rfl,r⟩
  | _=>cases h
theorem VM {fz:Fz}{st:Za}:∀ (l:List Int),Rels fz st (l.map P.int) (l.map D.int)
 | []=>.nil
 | i :: l=>.cons (.int i) (VM l)
theorem VZ {fz:Fz}{st:Za}{rng:Bool}{x:P}{dx:D}{xs:List P} (b:Bd fz st) (r:Rel fz st x dx) (h:YY rng x=some xs):∃ ds ok,VY rng dx st=some (ds,ok)∧Rels fz st xs ds∧∀ fz' st',Next fz st fz' st'→ok st':=by
 unfold YY at h
 split at h
 ·rename_i ys q
  cases h
  obtain ⟨ds,e,rr⟩:=VN r q
  exact ⟨ds,_,by unfold VY; rw [e],rr,fun _ _ _=>trivial⟩
 ·split at h
  ·cases h
   cases r with
   | @lst j m ps ds hz hs r=>
    rename_i m _; refine ⟨ds,fun s=>s[j]?=some (m,ds),?_,r,fun fz' st' n=>?_⟩
    ·unfold VY YT
     simp only [hs]
    ·exact (n.old j (b j hz)).trans hs
  ·rename_i x _
   split at h
   ·rename_i c
    cases h
    cases r
    refine ⟨(chS x).map D.str,fun _=>True,?_,XL _,fun _ _ _=>trivial⟩
    unfold VY YT
    simp only
    rw [if_pos c]
   ·cases h
  ·cases h
   cases r with
   | dct r=>cases r with
    | cons r1 r=>cases r with
     | cons r2 r=>
      cases r; cases r1; cases r2
      exact ⟨_,fun _=>True,rfl,VM _,fun _ _ _=>trivial⟩
  ·cases h
theorem X0 {fz:Fz}{st:Za}:∀ {xs:List P}{ds:List D}{k:Nat},Rels fz st xs ds→Rels fz st (UB k xs) (Y4 k ds)
 | _,_,_,.nil=>.nil
 | _,_,k,.cons a r=>.cons (.tup (.cons (.int _) (.cons a .nil))) (X0 r)
theorem Zc9 {fz:Fz}{st:Za}:∀ {xs:List P}{ds:List D},Rels fz st xs ds→ds.all Zeq=xs.all Qj
 | _,_,.nil=>rfl
 | _,_,.cons a r=>by
  rw [List.all_cons,List.all_cons,Zc9 r]
  congr 1
  cases a with
  | tup s=>
   cases s with
   | nil=>rfl
   | cons _ s=>cases s with
    | nil=>rfl
    | cons _ s=>cases s<;>rfl
  | _=>rfl
theorem V2 {fz:Fz}{st:Za}{x:P}{dx:D}{xs:List P} (b:Bd fz st) (r:Rel fz st x dx) (h:X7 x=some xs):∃ ds ok,ZaD dx st=some (ds,ok)∧Rels fz st xs ds∧∀ fz' st',Next fz st fz' st'→ok st':=by
 cases r with
 | @tup ps ds r=>
  have h:(if ps.all Qj=true then some ps else none)=some xs:=h
  split at h
  ·rename_i c
   cases h
   refine ⟨ds,fun _=>True,?_,r,fun _ _ _=>trivial⟩
   show (if ds.all Zeq=true then some (ds,fun _=>True) else none)=_
   rw [if_pos (by rw [Zc9 r]; exact c)]
  ·cases h
 | _=>cases h
theorem V1 {fz:Fz}{st:Za}{x:P}{dx:D}{xs:List P} (b:Bd fz st) (r:Rel fz st x dx) (h:UM x=some xs):∃ ds ok,V0 dx st=some (ds,ok)∧Rels fz st xs ds∧∀ fz' st',Next fz st fz' st'→ok st':=by
 cases r with
 | @lst j m ps ds hz hs r=>
  cases h
  exact ⟨Y4 0 ds,fun s=>s[j]?=some (_,ds),by unfold V0; simp only [hs],X0 r,fun fz' st' n=>(n.old j (b j hz)).trans hs⟩
 | tup r=>cases h; exact ⟨_,_,rfl,X0 r,fun _ _ _=>trivial⟩
 | _=>cases h
def Vv (gb:P→List (Option P)) (bd:D→List (Option D)):Prop:=∀ fz st x d,Rel fz st x d→(gb x).length=(bd d).length∧EnvAll fz st (gb x) (bd d)
theorem Zaj:Vv Zc8 one:=fun fz st x d r=>⟨rfl,fun i p e=>by
 cases i with
 | zero=>cases e; exact ⟨d,rfl,r⟩
 | succ i=>exact nomatch (show (none:Option (Option P))=some (some p) from e)⟩
theorem Wy:Vv YN two:=fun fz st x d r=>by
 have no:∀ {l:List (Option D)},EnvAll fz st [] l:=fun i p e=>nomatch (show (none:Option (Option P))=some (some p) from e)
 cases r with
 | tup r=>cases r with
  | nil=>exact ⟨rfl,no⟩
  | cons a r=>cases r with
   | nil=>exact ⟨rfl,no⟩
   | cons b r=>cases r with
    | cons c r=>exact ⟨rfl,no⟩
    | nil=>exact ⟨rfl,fun i p e=>by
     cases i with
     | zero=>cases e; exact ⟨_,rfl,a⟩
     | succ i=>cases i with
      | zero=>cases e; exact ⟨_,rfl,b⟩
      | succ i=>exact nomatch (show (none:Option (Option P))=some (some p) from e)⟩
 | _=>exact ⟨rfl,no⟩
theorem WO {gb:P→List (Option P)}{bd:D→List (Option D)} (hb:Vv gb bd) {ok:Za→Prop}{fe fc:Ev}{ge gc:PEv} (he:SEP fe ge) (hc:SEP fc gc) {fr:List Nat}{π:Zl}{ρ:Env}:∀ {xs:List P}{ds:List D}{ys:List P}{fz:Fz}{st:Za},Bd fz st→EnvAll fz st π ρ→Rels fz st xs ds→(∀ fz' st',Next fz st fz' st'→ok st')→
   Yn (fun p=>ge (Z8 gb π fr p)) (fun p=>gc (Z8 gb π fr p)) xs=some ys→∃ es st' fz',Ym ok (fun d s=>fe (YD bd ρ fr d) s) (fun d s=>fc (YD bd ρ fr d) s) ds st=some (es,st')∧Next fz st fz' st'∧Rels fz' st' ys es
 | _,_,ys,fz,st,b,E,.nil,hok,h=>by cases h; exact ⟨[],st,fz,if_pos (hok _ _ (Next.refl b)),Next.refl b,.nil⟩
 | x :: xs,d :: ds,ys,fz,st,b,E,.cons a r,hok,h=>by
  have ok0:=hok _ _ (Next.refl b)
  obtain ⟨hl,hbe⟩:=hb fz st x d a
  have E1:EnvAll fz st (Z8 gb π fr x) (YD bd ρ fr d):=by
   intro i p e
   unfold Z8 at e
   unfold YD
   by_cases hi:i < (gb x).length
   ·rw [List.getElem?_append_left hi] at e
    rw [List.getElem?_append_left (by rw [←hl]; exact hi)]
    exact hbe i p e
   ·have hi:(gb x).length≤i:=Nat.le_of_not_lt hi
    rw [List.getElem?_append_right hi,List.getElem?_map] at e
    rw [List.getElem?_append_right (by rw [←hl]; exact hi),List.getElem?_map,←hl]
    cases q:fr[i - (gb x).length]? with
    | none=>rw [q] at e; cases e
    | some k=>
     rw [q] at e
     have e:(π[k]?).join=some p:=by simpa using e
     have e2:π[k]?=some (some p):=by
      cases q2:π[k]? with
      | none=>rw [q2] at e; cases e
      | some o=>rw [q2] at e; rw [show o=some p from e]
     obtain ⟨d',e3,r3⟩:=E k p e2
     exact ⟨d',by simp [e3],r3⟩
  unfold Yn at h
  split at h
  ·rename_i q
   split at h
   ·rename_i y q1
    split at h
    ·rename_i zs q2
     cases h
     obtain ⟨dc,st1,fz1,e1,n1,r1⟩:=hc _ _ q fz st _ b E1
     cases r1
     obtain ⟨dy,st2,fz2,e2,n2,r2⟩:=he _ _ q1 fz1 st1 _ n1.bd (E1.next b n1)
     obtain ⟨es,st3,fz3,e3,n3,r3⟩:=WO hb he hc n2.bd (E.next b (n1.trans n2)) (r.next b (n1.trans n2)) (fun _ _ n=>hok _ _ ((n1.trans n2).trans n)) q2
     refine ⟨dy :: es,st3,fz3,?_,(n1.trans n2).trans n3,.cons (r2.next n2.bd n3) r3⟩
     unfold Ym
     rw [if_pos ok0]
     simp only [e1,e2,e3]
    ·cases h
   ·cases h
  ·rename_i q
   obtain ⟨dc,st1,fz1,e1,n1,r1⟩:=hc _ _ q fz st _ b E1
   cases r1
   obtain ⟨es,st3,fz3,e3,n3,r3⟩:=WO hb he hc n1.bd (E.next b n1) (r.next b n1) (fun _ _ n=>hok _ _ (n1.trans n)) h
   refine ⟨es,st3,fz3,?_,n1.trans n3,r3⟩
   unfold Ym
   rw [if_pos ok0]
   simp only [e1]
   exact e3
  ·cases h
theorem Zdn {gb:P→List (Option P)}{bd:D→List (Option D)} (hb:Vv gb bd) {gw:P→Option (List P)}{dw:D→Za→Option (List D×(Za→Prop))} (hw:∀ {fz:Fz}{st:Za}{x:P}{dx:D}{xs:List P},Bd fz st→Rel fz st x dx→gw x=some xs→∃ ds ok,dw dx st=some (ds,ok)∧Rels fz st xs ds∧∀ fz' st',Next fz st fz' st'→ok st') {fr:List Nat}{fi fe fc:Ev}{gi ge gc:PEv} (hi:SEP fi gi) (he:SEP fe ge) (hc:SEP fc gc) {π:Zl}{p:P} (e:ZJ gb gw fr gi ge gc π=some p) {fz:Fz}{st:Za}{ρ:Env} (b:Bd fz st) (E:EnvAll fz st π ρ) :
  ∃ ps ds st1 fz1,p=.lst true ps∧XD bd dw fr fi fe fc ρ st=some (.lst st1.length,st1++[(true,ds)])∧Next fz st fz1 st1∧Rels fz1 st1 ps ds:=by
 unfold ZJ at e
 split at e
 ·rename_i x q
  split at e
  ·rename_i xs q1
   split at e
   ·rename_i c
    split at e
    ·rename_i ys q2
     cases e
     obtain ⟨d,st1,fz1,e1,n1,r1⟩:=hi π x q fz st ρ b E
     obtain ⟨ds,ok,e2,r2,hok⟩:=hw n1.bd r1 q1
     obtain ⟨es,st3,fz3,e3,n3,r3⟩:=WO hb he hc (fr:=fr) n1.bd (E.next b n1) r2 hok q2
     refine ⟨ys,es,st3,fz3,rfl,?_,n1.trans n3,r3⟩
     unfold XD
     simp only [e1,e2]
     rw [if_pos (by rw [←r2.length]; exact c)]
     simp only [e3]
    ·cases e
   ·cases e
  ·cases e
 ·cases e
theorem Zdm {gb:P→List (Option P)}{bd:D→List (Option D)} (hb:Vv gb bd) {gw:P→Option (List P)}{dw:D→Za→Option (List D×(Za→Prop))} (hw:∀ {fz:Fz}{st:Za}{x:P}{dx:D}{xs:List P},Bd fz st→Rel fz st x dx→gw x=some xs→∃ ds ok,dw dx st=some (ds,ok)∧Rels fz st xs ds∧∀ fz' st',Next fz st fz' st'→ok st') {fr:List Nat}{fi fe fc:Ev}{gi ge gc:PEv} (hi:SEP fi gi) (he:SEP fe ge) (hc:SEP fc gc):SEP (XD bd dw fr fi fe fc) (ZJ gb gw fr gi ge gc):=by
 intro π p e fz st ρ b E
 obtain ⟨ps,ds,st1,fz1,rfl,e1,n1,r1⟩:=Zdn hb hw hi he hc e b E
 exact ⟨_,_,_,e1,n1.trans (Jy n1.bd),QG n1.bd r1⟩
theorem JF {gb:P→List (Option P)}{bd:D→List (Option D)} (hb:Vv gb bd) {gw:P→Option (List P)}{dw:D→Za→Option (List D×(Za→Prop))} (hw:∀ {fz:Fz}{st:Za}{x:P}{dx:D}{xs:List P},Bd fz st→Rel fz st x dx→gw x=some xs→∃ ds ok,dw dx st=some (ds,ok)∧Rels fz st xs ds∧∀ fz' st',Next fz st fz' st'→ok st') {fr:List Nat}{fi fe fc:Ev}{gi ge gc:PEv} (hi:SEP fi gi) (he:SEP fe ge) (hc:SEP fc gc):SFP (XD bd dw fr fi fe fc) (ZJ gb gw fr gi ge gc):=by
 intro π m qs e fz st ρ b E
 obtain ⟨ps,ds,st1,fz1,h,e1,n1,r1⟩:=Zdn hb hw hi he hc e b E
 cases h
 exact Makes.fresh n1 ⟨ds,e1,r1⟩
end
theorem Zb {F:Nat→Fn}{G:PFn} (hF:ZX F G):∀ e:CE,SEP (ev F e) (pe G e)
 | .var i=>Zjl i
 | .cst d=>by
  intro π p e fz st ρ b E
  exact .same b (Rel.ofConst e)
 | .bin op a b=>s2 (Zb hF a) (Zb hF b) (ZhW op)
 | .neg a=>s1 (Zb hF a) Zh3
 | .cmp op a b=>s2 (Zb hF a) (Zb hF b) (ZhX op)
 | .not a=>s1 (Zb hF a) Zh4
 | .and a b=>Zdo (Zb hF a) (Zb hF b) (sC fun _ _=>.bl false)
 | .or a b=>Zdo (Zb hF a) (sC fun _ _=>.bl true) (Zb hF b)
 | .ife c a b=>Zdo (Zb hF c) (Zb hF a) (Zb hF b)
 | .tupE a=>Zb hF a
 | .lstE a=>s1 (Zb hF a) Zh0
 | .anil=>sC fun _ _=>.tup .nil
 | .acons a r=>s2 (Zb hF a) (Zb hF r) ZgC
 | .ix a b=>s2 (Zb hF a) (Zb hF b) Zi3
 | .slice a lo hi=>s3 (Zb hF a) (Zb hF lo) (Zb hF hi) ZeH
 | .nop=>sC fun _ _=>.non
 | .part a=>s1 (Zb hF a) ZgH
 | .call f a ds=>s1 (Zb hF a) (Zib (hF.1 f))
 | .len a=>s1 (Zb hF a) ZgE
 | .tupleOf a=>s1 (Zb hF a) ZeI
 | .listOf a=>s1 (Zb hF a) ZgF
 | .intOf _=>fun _ r e=>nomatch (show (none:Option P)=some r from e)
 | .min a b=>s2 (Zb hF a) (Zb hF b) Zh2
 | .max a b=>s2 (Zb hF a) (Zb hF b) Zh1
 | .isi T a=>s1 (Zb hF a) (ZhZ T)
 | .rs _ _=>fun _ r e=>nomatch (show (none:Option P)=some r from e)
 | .inv _=>fun _ r e=>nomatch (show (none:Option P)=some r from e)
 | .tupR _=>fun _ r e=>nomatch (show (none:Option P)=some r from e)
 | .look _ _ _=>fun _ r e=>nomatch (show (none:Option P)=some r from e)
 | .dget _ _ _=>fun _ r e=>nomatch (show (none:Option P)=some r from e)
 | .inR ng a b=>s2 (Zb hF a) (Zb hF b) (ZhY ng)
 | .all _=>fun _ r e=>nomatch (show (none:Option P)=some r from e)
 | .any _=>fun _ r e=>nomatch (show (none:Option P)=some r from e)
 | .comp rng fr it elt cnd=>Zdm Zaj VZ (Zb hF it) (Zb hF elt) (Zb hF cnd)
 | .comp2 fr it elt cnd=>Zdm Wy V1 (Zb hF it) (Zb hF elt) (Zb hF cnd)
 | .compT fr it elt cnd=>Zdm Wy V2 (Zb hF it) (Zb hF elt) (Zb hF cnd)
 | .lstR a b=>s2 (Zb hF a) (Zb hF b) ZgG
 | .new _=>fun _ r e=>nomatch (show (none:Option P)=some r from e)
 | .meth _ _ _=>fun _ r e=>nomatch (show (none:Option P)=some r from e)
 | .isc _ _=>fun _ r e=>nomatch (show (none:Option P)=some r from e)
 | .tix _ _=>fun _ r e=>nomatch (show (none:Option P)=some r from e)
 | .dict _ _=>fun _ r e=>nomatch (show (none:Option P)=some r from e)
 | .dnew=>fun _ r e=>nomatch (show (none:Option P)=some r from e)
 | .strOf a=>s1 (Zb hF a) ZgJ
 | .joinE a b=>s2 (Zb hF a) (Zb hF b) ZgD
 | .starts a b=>s2 (Zb hF a) (Zb hF b) ZcO
 | .rng2 a b=>s2 (Zb hF a) (Zb hF b) ZgI
theorem QV {F:Nat→Fn}{G:PFn} (hF:ZX F G):∀ e:CE,Wr e=true→SFP (ev F e) (pe G e)
 | .bin op a b,_=>s2F (Zb hF a) (Zb hF b) (ZhM op)
 | .lstE a,_=>s1F (Zb hF a) ZfD
 | .call f a ds,h=>ZgX (Zb hF a) (hF.2 f h)
 | .slice a lo hi,_=>s3F (Zb hF a) (Zb hF lo) (Zb hF hi) Zd4
 | .listOf a,_=>s1F (Zb hF a) Jf
 | .comp rng fr it elt cnd,_=>JF Zaj VZ (Zb hF it) (Zb hF elt) (Zb hF cnd)
 | .comp2 fr it elt cnd,_=>JF Wy V1 (Zb hF it) (Zb hF elt) (Zb hF cnd)
 | .compT fr it elt cnd,_=>JF Wy V2 (Zb hF it) (Zb hF elt) (Zb hF cnd)
 | .lstR a b,_=>s2F (Zb hF a) (Zb hF b) Zb6
noncomputable def YQ (M:List Nat) (π:Zl):Zl:=π.mapIdx fun i x=>if M.contains i then none else x
theorem XE {M:List Nat}{π:Zl}{i:Nat} (h:M.contains i=false):(YQ M π)[i]?=π[i]?:=by
 unfold YQ
 rw [List.getElem?_mapIdx]
 cases q:π[i]? with
 | none=>rfl
 | some x=>
  show some (if M.contains i then none else x)=some x
  rw [h]; rfl
theorem Zb4 {M:List Nat}{π:Zl}{i:Nat}{p:P} (h:(YQ M π)[i]?=some (some p)):M.contains i=false∧π[i]?=some (some p):=by
 unfold YQ at h
 rw [List.getElem?_mapIdx] at h
 cases q:π[i]? with
 | none=>rw [q] at h; cases h
 | some x=>
  rw [q] at h
  have h:(if M.contains i then none else x)=some p:=by simpa using h
  split at h
  ·cases h
  ·rename_i c
   exact ⟨by simpa using c,by rw [h]⟩
theorem Zc {G:PFn}{M:List Nat}{π:Zl}:∀ e:CE,noM M e=true→pe G e (YQ M π)=pe G e π
 | .var i,h=>by
  have h:(!M.contains i)=true:=h
  show Y8 i _=Y8 i _
  unfold Y8
  rw [XE (by simpa using h)]
 | .cst d,_=>rfl
 | .bin op a b,h=>by
  have h:=(Bool.and_eq_true _ _).mp h
  show pq2 (pe G a) (pe G b) (Xp op) _=pq2 (pe G a) (pe G b) (Xp op) _
  unfold pq2; rw [Zc a h.1,Zc b h.2]
 | .neg a,h=>by
  show pq1 (pe G a) Zbd _=pq1 (pe G a) Zbd _
  unfold pq1; rw [Zc a h]
 | .cmp op a b,h=>by
  have h:=(Bool.and_eq_true _ _).mp h
  show pq2 (pe G a) (pe G b) (Y2 op) _=pq2 (pe G a) (pe G b) (Y2 op) _
  unfold pq2; rw [Zc a h.1,Zc b h.2]
 | .not a,h=>by
  show pq1 (pe G a) Zbf _=pq1 (pe G a) Zbf _
  unfold pq1; rw [Zc a h]
 | .and a b,h=>by
  have h:=(Bool.and_eq_true _ _).mp h
  show Yp (pe G a) (pe G b) _ _=Yp (pe G a) (pe G b) _ _
  unfold Yp; rw [Zc a h.1,Zc b h.2]
 | .or a b,h=>by
  have h:=(Bool.and_eq_true _ _).mp h
  show Yp (pe G a) _ (pe G b) _=Yp (pe G a) _ (pe G b) _
  unfold Yp; rw [Zc a h.1,Zc b h.2]
 | .ife c a b,h=>by
  have h:=(Bool.and_eq_true _ _).mp h
  have h2:=(Bool.and_eq_true _ _).mp h.2
  show Yp (pe G c) (pe G a) (pe G b) _=Yp (pe G c) (pe G a) (pe G b) _
  unfold Yp; rw [Zc c h.1,Zc a h2.1,Zc b h2.2]
 | .tupE a,h=>Zc a h
 | .lstE a,h=>by
  show pq1 (pe G a) Jt _=pq1 (pe G a) Jt _
  unfold pq1; rw [Zc a h]
 | .anil,_=>rfl
 | .acons a b,h=>by
  have h:=(Bool.and_eq_true _ _).mp h
  show pq2 (pe G a) (pe G b) VA _=pq2 (pe G a) (pe G b) VA _
  unfold pq2; rw [Zc a h.1,Zc b h.2]
 | .ix a b,h=>by
  have h:=(Bool.and_eq_true _ _).mp h
  show pq2 (pe G a) (pe G b) ixP _=pq2 (pe G a) (pe G b) ixP _
  unfold pq2; rw [Zc a h.1,Zc b h.2]
 | .slice c a b,h=>by
  have h:=(Bool.and_eq_true _ _).mp h
  have h2:=(Bool.and_eq_true _ _).mp h.2
  show pq3 (pe G c) (pe G a) (pe G b) _ _=pq3 (pe G c) (pe G a) (pe G b) _ _
  unfold pq3; rw [Zc c h.1,Zc a h2.1,Zc b h2.2]
 | .nop,_=>rfl
 | .part a,h=>by
  show pq1 (pe G a) Zan _=pq1 (pe G a) Zan _
  unfold pq1; rw [Zc a h]
 | .call f a ds,h=>by
  show pq1 (pe G a) (WL (G f) ds) _=pq1 (pe G a) (WL (G f) ds) _
  unfold pq1; rw [Zc a h]
 | .len a,h=>by
  show pq1 (pe G a) Jp _=pq1 (pe G a) Jp _
  unfold pq1; rw [Zc a h]
 | .tupleOf a,h=>by
  show pq1 (pe G a) X5 _=pq1 (pe G a) X5 _
  unfold pq1; rw [Zc a h]
 | .listOf a,h=>by
  show pq1 (pe G a) Qn _=pq1 (pe G a) Qn _
  unfold pq1; rw [Zc a h]
 | .intOf _,_=>rfl
 | .min a b,h=>by
  have h:=(Bool.and_eq_true _ _).mp h
  show pq2 (pe G a) (pe G b) Zbc _=pq2 (pe G a) (pe G b) Zbc _
  unfold pq2; rw [Zc a h.1,Zc b h.2]
 | .max a b,h=>by
  have h:=(Bool.and_eq_true _ _).mp h
  show pq2 (pe G a) (pe G b) Zbb _=pq2 (pe G a) (pe G b) Zbb _
  unfold pq2; rw [Zc a h.1,Zc b h.2]
 | .isi T a,h=>by
  show pq1 (pe G a) (Ql T) _=pq1 (pe G a) (Ql T) _
  unfold pq1; rw [Zc a h]
 | .rs _ _,_=>rfl
 | .inv _,_=>rfl
 | .tupR _,_=>rfl
 | .look _ _ _,_=>rfl
 | .dget _ _ _,_=>rfl
 | .inR ng a b,h=>by
  have h:=(Bool.and_eq_true _ _).mp h
  show pq2 (pe G a) (pe G b) (Zel ng) _=pq2 (pe G a) (pe G b) (Zel ng) _
  unfold pq2; rw [Zc a h.1,Zc b h.2]
 | .all _,_=>rfl
 | .any _,_=>rfl
 | .comp rng fr it elt cnd,h=>by
  have h:=(Bool.and_eq_true _ _).mp h
  have e:∀ b p,Z8 b (YQ M π) fr p=Z8 b π fr p:=fun b p=>by
   unfold Z8
   congr 1
   refine List.map_congr_left fun i hi=>?_
   have:=List.all_eq_true.mp h.2 i hi
   rw [XE (by simpa using this)]
  show ZJ Zc8 (YY rng) fr (pe G it) (pe G elt) (pe G cnd) _=ZJ Zc8 (YY rng) fr (pe G it) (pe G elt) (pe G cnd) _
  unfold ZJ
  rw [Zc it h.1]
  simp only [e]
 | .comp2 fr it elt cnd,h=>by
  have h:=(Bool.and_eq_true _ _).mp h
  have e:∀ b p,Z8 b (YQ M π) fr p=Z8 b π fr p:=fun b p=>by
   unfold Z8
   congr 1
   refine List.map_congr_left fun i hi=>?_
   have:=List.all_eq_true.mp h.2 i hi
   rw [XE (by simpa using this)]
  show ZJ YN UM fr (pe G it) (pe G elt) (pe G cnd) _=ZJ YN UM fr (pe G it) (pe G elt) (pe G cnd) _
  unfold ZJ
  rw [Zc it h.1]
  simp only [e]
 | .compT fr it elt cnd,h=>by
  have h:=(Bool.and_eq_true _ _).mp h
  have e:∀ b p,Z8 b (YQ M π) fr p=Z8 b π fr p:=fun b p=>by
   unfold Z8
   congr 1
   refine List.map_congr_left fun i hi=>?_
   have:=List.all_eq_true.mp h.2 i hi
   rw [XE (by simpa using this)]
  show ZJ YN X7 fr (pe G it) (pe G elt) (pe G cnd) _=ZJ YN X7 fr (pe G it) (pe G elt) (pe G cnd) _
  unfold ZJ
  rw [Zc it h.1]
  simp only [e]
 | .new _,_=>rfl
 | .meth _ _ _,_=>rfl
 | .tix _ _,_=>rfl
 | .isc _ _,_=>rfl
 | .lstR a b,h=>by
  have h:=(Bool.and_eq_true _ _).mp h
  show pq2 (pe G a) (pe G b) W8 _=pq2 (pe G a) (pe G b) W8 _
  unfold pq2; rw [Zc a h.1,Zc b h.2]
 | .dict _ _,_=>rfl
 | .dnew,_=>rfl
 | .strOf a,h=>by
  show pq1 (pe G a) Zay _=pq1 (pe G a) Zay _
  unfold pq1; rw [Zc a h]
 | .joinE a b,h=>by
  have h:=(Bool.and_eq_true _ _).mp h
  show pq2 (pe G a) (pe G b) Zaa _=pq2 (pe G a) (pe G b) Zaa _
  unfold pq2; rw [Zc a h.1,Zc b h.2]
 | .starts a b,h=>by
  have h:=(Bool.and_eq_true _ _).mp h
  show pq2 (pe G a) (pe G b) Ww _=pq2 (pe G a) (pe G b) Ww _
  unfold pq2; rw [Zc a h.1,Zc b h.2]
 | .rng2 a b,h=>by
  have h:=(Bool.and_eq_true _ _).mp h
  show pq2 (pe G a) (pe G b) Zau _=pq2 (pe G a) (pe G b) Zau _
  unfold pq2; rw [Zc a h.1,Zc b h.2]
end Dp


namespace Dp
open PySem
inductive Own (p:P) (o:Option (Option D)) (ps:List P) (j:Nat):Prop where
 | l (a:p=.lst true ps) (b:o=some (some (.lst j)))
 | d (a:p=.dic true ps) (b:o=some (some (.dic j)))
def Rf (o:Option (Option D)) (j:Nat):Prop:=o=some (some (.lst j))∨o=some (some (.dic j))
theorem Own.rf {p:P}{o:Option (Option D)}{ps:List P}{j:Nat}:Own p o ps j→Rf o j
 | .l _ b=>.inl b
 | .d _ b=>.inr b
theorem Rf.inj {o:Option (Option D)}{i j:Nat} (h:Rf o i) (h':Rf o j):i=j:=by
 rcases h with h | h<;>rcases h' with h' | h'<;>(rw [h] at h'; cases h'; try rfl)
theorem Own.lst {m:Bool}{xs:List P}{o:Option (Option D)}{ps:List P}{j:Nat}:Own (.lst m xs) o ps j→(m=true∧xs=ps)∧o=some (some (.lst j))
 | .l a b=>by cases a; exact ⟨⟨rfl,rfl⟩,b⟩
 | .d a b=>nomatch a
theorem Own.dic {m:Bool}{xs:List P}{o:Option (Option D)}{ps:List P}{j:Nat}:Own (.dic m xs) o ps j→(m=true∧xs=ps)∧o=some (some (.dic j))
 | .l a b=>nomatch a
 | .d a b=>by cases a; exact ⟨⟨rfl,rfl⟩,b⟩
theorem Own.rel {fz:Fz}{st:Za}{p:P}{o:Option (Option D)}{ps:List P}{ds:List D}{j:Nat} (h:Own p o ps j) (hz:fz j) (e:st[j]?=some (true,ds)) (r:Rels fz st ps ds):∃ d,o=some (some d)∧Rel fz st p d:=by
 cases h with
 | l a b=>rw [a]; exact ⟨_,b,.lst hz e r⟩
 | d a b=>rw [a]; exact ⟨_,b,.dic hz e r⟩
structure Inv (n0:Nat) (M:List Nat) (fz:Fz) (st:Za) (π:Zl) (ρ:Env):Prop where
 bd:Bd fz st
 lo:n0≤st.length
 len:π.length=ρ.length
 fr:∀ (i:Nat) (p:P),M.contains i=false→π[i]?=some (some p)→∃ d,ρ[i]?=some (some d)∧Rel fz st p d
 mt:∀ (i:Nat) (p:P),M.contains i=true→π[i]?=some (some p)→∃ (j:Nat) (ps:List P) (ds:List D),Own p ρ[i]? ps j∧Rf ρ[i]? j∧st[j]?=some (true,ds)∧¬fz j∧n0≤j∧Rels fz st ps ds
 ne:∀ (i i':Nat) (p p':P) (j:Nat),M.contains i=true→M.contains i'=true→π[i]?=some (some p)→π[i']?=some (some p')→Rf ρ[i]? j→Rf ρ[i']? j→i=i'
structure Later (n0:Nat) (fz:Fz) (st:Za) (fz':Fz) (st':Za):Prop where
 low:∀ i,i < n0→st'[i]?=st[i]?
 frz:∀ i,fz i→st'[i]?=st[i]?
 sub:∀ i,fz i→fz' i
 new:∀ i,fz' i→fz i∨n0≤i
 len:st.length≤st'.length
section
variable {n0:Nat}{M:List Nat}{fz fz' fz1 fz2:Fz}{st st' st1 st2:Za}{π:Zl}{ρ:Env}
theorem Later.refl:Later n0 fz st fz st:=⟨fun _ _=>rfl,fun _ _=>rfl,fun _ h=>h,fun _ h=>.inl h,Nat.le_refl _⟩
theorem Later.trans (x:Later n0 fz st fz1 st1) (y:Later n0 fz1 st1 fz2 st2):Later n0 fz st fz2 st2:=
 ⟨fun i h=>(y.low i h).trans (x.low i h),fun i h=>(y.frz i (x.sub i h)).trans (x.frz i h),fun i h=>y.sub i (x.sub i h),fun i h=>(y.new i h).elim (x.new i) .inr,Nat.le_trans x.len y.len⟩
theorem Next.later (h:n0≤st.length) (b:Bd fz st) (x:Next fz st fz' st'):Later n0 fz st fz' st':=
 ⟨fun i hi=>x.old i (Nat.lt_of_lt_of_le hi h),fun i hi=>x.old i (b i hi),x.sub,fun i hi=>(x.new i hi).elim .inl fun z=>.inr (Nat.le_trans h z),x.len⟩
theorem ZQ {α:Type}{l:List α}{i:Nat}{x:α} (h:l[i]?=some x):i < l.length:=(List.getElem?_eq_some_iff.mp h).1
theorem Inv.next (I:Inv n0 M fz st π ρ) (x:Next fz st fz' st'):Inv n0 M fz' st' π ρ:=
 ⟨x.bd,Nat.le_trans I.lo x.len,I.len,fun i p h e=>let ⟨d,e1,r⟩:=I.fr i p h e; ⟨d,e1,r.next I.bd x⟩,fun i p h e=>by
  obtain ⟨j,ps,ds,e1,e2,e3,e4,e5,r⟩:=I.mt i p h e
  have hj:=ZQ e3
  exact ⟨j,ps,ds,e1,e2,(x.old j hj).trans e3,fun z=>(x.new j z).elim e4 fun z=>absurd hj (by omega),e5,r.next I.bd x⟩,I.ne⟩
theorem Inv.erase (I:Inv n0 M fz st π ρ):EnvAll fz st (YQ M π) ρ:=fun i p e=>let ⟨h1,h2⟩:=Zb4 e; I.fr i p h1 h2
noncomputable def fzM (M:List Nat) (fz:Fz) (π:Zl) (ρ:Env):Fz:=fun i=>fz i∨∃ (k:Nat) (p:P),M.contains k=true∧π[k]?=some (some p)∧Rf ρ[k]? i
theorem Inv.bdM (I:Inv n0 M fz st π ρ):Bd (fzM M fz π ρ) st:=by
 rintro i (h | ⟨k,p,hk,e,e'⟩)
 ·exact I.bd i h
 ·obtain ⟨j,ps,ds,e1,e2,e3,e4,e5,r⟩:=I.mt k p hk e
  cases e'.inj e2
  exact ZQ e3
theorem Inv.all (I:Inv n0 M fz st π ρ):EnvAll (fzM M fz π ρ) st π ρ:=by
 intro i p e
 cases h:M.contains i with
 | false=>
  obtain ⟨d,e1,r⟩:=I.fr i p h e
  exact ⟨d,e1,r.mono (fun _ z=>.inl z) fun _ _=>rfl⟩
 | true=>
  obtain ⟨j,ps,ds,e1,e2,e3,e4,e5,r⟩:=I.mt i p h e
  exact e1.rel (.inr ⟨i,_,h,e,e2⟩) e3 (r.mono (fun _ z=>.inl z) fun _ _=>rfl)
theorem ZE {F:Nat→Fn}{G:PFn} (hF:ZX F G) {e:CE}{p:P} (I:Inv n0 M fz st π ρ) (h:pe G e π=some p) (k:Zp M e p=true):Gives fz st (ev F e ρ st) p:=by
 unfold Zp at k
 rw [Bool.or_eq_true] at k
 rcases k with k | k
 ·rw [←Zc e k] at h
  exact Zb hF e _ p h fz st ρ I.bd I.erase
 ·obtain ⟨d,st',fz',e1,n1,r1⟩:=Zb hF e _ p h _ st ρ I.bdM I.all
  exact ⟨d,st',fz,e1,n1.small I.bd,r1.ofNoL k⟩
theorem U2 {F:Nat→Fn}{G:PFn} (hF:ZX F G) {e:CE}{m:Bool}{xs:List P} (I:Inv n0 M fz st π ρ) (h:pe G e π=some (.lst m xs)) (hf:Wr e=true) (k:(noM M e||Vb xs)=true) :
  ∃ j ds st' fz1,ev F e ρ st=some (.lst j,st')∧st'[j]?=some (m,ds)∧Next fz st fz1 st'∧¬fz1 j∧st.length≤j∧Rels fz1 st' xs ds:=by
 rw [Bool.or_eq_true] at k
 rcases k with k | k
 ·rw [←Zc e k] at h
  exact QV hF e hf _ m xs h fz st ρ I.bd I.erase
 ·obtain ⟨j,ds,st',fz1,e1,e2,n1,hn,hl,r⟩:=QV hF e hf _ m xs h _ st ρ I.bdM I.all
  exact ⟨j,ds,st',fz,e1,e2,n1.small I.bd,fun z=>absurd (I.bd j z) (by omega),hl,r.ofNoL k⟩
theorem VF {F:Nat→Fn}{G:PFn} (hF:ZX F G) {e:CE}{p:P} (I:Inv n0 M fz st π ρ) (h:pe G e π=some p) (k:Yr M e p=true) :
  ∃ d j ps ds st' fz1,(ev F e ρ st=some (d,st')∧Own p (some (some d)) ps j)∧st'[j]?=some (true,ds)∧Next fz st fz1 st'∧¬fz1 j∧st.length≤j∧Rels fz1 st' ps ds:=by
 unfold Yr at k
 split at k
 ·rw [Bool.and_eq_true] at k
  obtain ⟨j,ds,st',fz1,e1,r⟩:=U2 hF I h k.1 k.2
  exact ⟨_,j,_,ds,st',fz1,⟨e1,.l rfl rfl⟩,r⟩
 ·cases k
theorem ZaZ {F:Nat→Fn}{G:PFn} (hF:ZX F G) {e:CE}{p:P} (I:Inv n0 M fz st π ρ) (h:pe G e π=some p) (k:Yr M e p=true):Gives fz st (ev F e ρ st) p:=by
 obtain ⟨d,j,ps,ds,st',fz1,⟨e1,ow⟩,e2,n1,hn,hl,r⟩:=VF hF I h k
 obtain ⟨d',e3,r'⟩:=ow.rel (fz:=fun i=>fz1 i∨i=j) (.inr rfl) e2 (r.mono (fun _ z=>.inl z) fun _ _=>rfl)
 cases e3
 exact ⟨d,st',fun i=>fz1 i∨i=j,e1,⟨n1.old,n1.len,fun i z=>.inl (n1.sub i z),fun i z=>z.elim (n1.new i) fun z=>by rw [z]; exact .inr hl,fun i z=>z.elim (n1.bd i) fun z=>by rw [z]; exact ZQ e2⟩,r'⟩
theorem ZF {α:Type}{l:List (Option α)}{i k:Nat}{x y:α} (h:(l.set i (some x))[k]?=some (some y)):(k=i∧y=x∧i < l.length)∨(k≠i∧l[k]?=some (some y)):=by
 rw [List.getElem?_set] at h
 split at h
 ·rename_i e
  subst e
  split at h
  ·rename_i hl
   cases h
   exact .inl ⟨rfl,rfl,hl⟩
  ·cases h
 ·rename_i e
  exact .inr ⟨fun z=>e z.symm,h⟩
theorem Vh {α:Type}{l:List (Option α)}{i:Nat}{x:α} (h:i < l.length):(l.set i (some x))[i]?=some (some x):=by rw [List.getElem?_set,if_pos rfl,if_pos h]
theorem Ze {α:Type}{l:List (Option α)}{i k:Nat}{x:α} (h:k≠i):(l.set i (some x))[k]?=l[k]?:=by rw [List.getElem?_set,if_neg (fun z=>h z.symm)]
theorem Inv.set {i:Nat}{p:P}{d:D} (I:Inv n0 M fz st π ρ) (h:M.contains i=false) (r:Rel fz st p d):Inv n0 M fz st (Zj π i p) (Zo ρ i d):=by
 unfold Zj Zo
 refine ⟨I.bd,I.lo,by rw [List.length_set,List.length_set]; exact I.len,fun k q hk e=>?_,fun k q hk e=>?_,fun k k' q q' j hk hk' e e' e1 e1'=>?_⟩
 ·rcases ZF e with ⟨rfl,rfl,hl⟩ | ⟨hn,e⟩
  ·exact ⟨d,Vh (by rw [←I.len]; exact hl),r⟩
  ·rw [Ze hn]
   exact I.fr k q hk e
 ·rcases ZF e with ⟨rfl,rfl,hl⟩ | ⟨hn,e⟩
  ·rw [h] at hk; cases hk
  ·rw [Ze hn]
   exact I.mt k q hk e
 ·rcases ZF e with ⟨rfl,rfl,hl⟩ | ⟨hn,e⟩
  ·rw [h] at hk; cases hk
  ·rcases ZF e' with ⟨rfl,rfl,hl⟩ | ⟨hn',e'⟩
   ·rw [h] at hk'; cases hk'
   ·rw [Ze hn] at e1
    rw [Ze hn'] at e1'
    exact I.ne k k' q q' j hk hk' e e' e1 e1'
theorem Inv.setM {i j:Nat}{p:P}{d:D}{ps:List P}{ds:List D} (I:Inv n0 M fz st π ρ) (h:M.contains i=true) (ow:Own p (some (some d)) ps j) (hs:st[j]?=some (true,ds)) (hz:¬fz j) (hl:n0≤j) (r:Rels fz st ps ds)
  (hn:∀ (k:Nat) (p:P),M.contains k=true→π[k]?=some (some p)→¬Rf ρ[k]? j):Inv n0 M fz st (Zj π i p) (Zo ρ i d):=by
 unfold Zj Zo
 refine ⟨I.bd,I.lo,by rw [List.length_set,List.length_set]; exact I.len,fun k q hk e=>?_,fun k q hk e=>?_,fun k k' q q' j' hk hk' e e' e1 e1'=>?_⟩
 ·rcases ZF e with ⟨rfl,rfl,hl⟩ | ⟨hn,e⟩
  ·rw [h] at hk; cases hk
  ·rw [Ze hn]
   exact I.fr k q hk e
 ·rcases ZF e with ⟨rfl,rfl,hl'⟩ | ⟨hn,e⟩
  ·have z:=Vh (x:=d) (show k < ρ.length by rw [←I.len]; exact hl')
   exact ⟨j,ps,ds,by rw [z]; exact ow,by rw [z]; exact ow.rf,hs,hz,hl,r⟩
  ·rw [Ze hn]
   exact I.mt k q hk e
 ·rcases ZF e with ⟨a1,a2,a3⟩ | ⟨a1,a2⟩
  ·rcases ZF e' with ⟨b1,b2,b3⟩ | ⟨b1,b2⟩
   ·rw [a1,b1]
   ·rw [a1,Vh (by rw [←I.len]; exact a3)] at e1
    cases ow.rf.inj e1
    rw [Ze b1] at e1'
    exact absurd e1' (hn k' q' hk' b2)
  ·rcases ZF e' with ⟨b1,b2,b3⟩ | ⟨b1,b2⟩
   ·rw [b1,Vh (by rw [←I.len]; exact b3)] at e1'
    cases ow.rf.inj e1'
    rw [Ze a1] at e1
    exact absurd e1 (hn k q hk a2)
   ·rw [Ze a1] at e1
    rw [Ze b1] at e1'
    exact I.ne k k' q q' j' hk hk' a2 b2 e1 e1'
theorem Inv.write {i j:Nat}{p0 p1:P}{ps:List P}{ds:List D} (I:Inv n0 M fz st π ρ) (h:M.contains i=true) (e0:π[i]?=some (some p0)) (ow:Own p1 ρ[i]? ps j) (hz:¬fz j) (hl:n0≤j) (hj:j < st.length) (r:Rels fz st ps ds) :
  Inv n0 M fz (st.set j (true,ds)) (Zj π i p1) ρ∧Later n0 fz st fz (st.set j (true,ds)):=by
 have same:∀ k,fz k→(st.set j (true,ds))[k]?=st[k]?:=fun k hk=>by
  rw [List.getElem?_set,if_neg (fun z=>hz (by rw [z]; exact hk))]
 have mono:∀ {q:P}{d:D},Rel fz st q d→Rel fz (st.set j (true,ds)) q d:=fun r=>r.mono (fun _ z=>z) same
 have monos:∀ {q:List P}{d:List D},Rels fz st q d→Rels fz (st.set j (true,ds)) q d:=fun r=>r.mono (fun _ z=>z) same
 refine ⟨⟨fun k hk=>by rw [List.length_set]; exact I.bd k hk,by rw [List.length_set]; exact I.lo,by unfold Zj; rw [List.length_set]; exact I.len,fun k q hk e=>?_,fun k q hk e=>?_,fun k k' q q' j' hk hk' e e' e1 e1'=>?_⟩,
  ⟨fun k hk=>by rw [List.getElem?_set,if_neg (by omega)],same,fun _ z=>z,fun _ z=>.inl z,by rw [List.length_set]; exact Nat.le_refl _⟩⟩
 ·unfold Zj at e
  rcases ZF e with ⟨rfl,rfl,_⟩ | ⟨hn,e⟩
  ·rw [h] at hk; cases hk
  ·obtain ⟨d,e1,r1⟩:=I.fr k q hk e
   exact ⟨d,e1,mono r1⟩
 ·unfold Zj at e
  rcases ZF e with ⟨rfl,rfl,_⟩ | ⟨hn,e⟩
  ·exact ⟨j,ps,ds,ow,ow.rf,by rw [List.getElem?_set,if_pos rfl,if_pos hj],hz,hl,monos r⟩
  ·obtain ⟨j',qs,es,f1,f2,f3,f4,f5,f6⟩:=I.mt k q hk e
   refine ⟨j',qs,es,f1,f2,?_,f4,f5,monos f6⟩
   rw [List.getElem?_set,if_neg (fun z=>hn (I.ne k i q p0 j hk h e e0 (by rw [z]; exact f2) ow.rf))]
   exact f3
 ·unfold Zj at e e'
  have f:∀ {k:Nat}{q:P},(π.set i (some p1))[k]?=some (some q)→∃ q',π[k]?=some (some q'):=fun {k q} e=>by
   rcases ZF e with ⟨rfl,_,_⟩ | ⟨_,e⟩
   ·exact ⟨_,e0⟩
   ·exact ⟨_,e⟩
  obtain ⟨_,g⟩:=f e
  obtain ⟨_,g'⟩:=f e'
  exact I.ne k k' _ _ j' hk hk' g g' e1 e1'
end
def ZiC (n0:Nat) (M:List Nat) (fz:Fz) (st:Za):PFl→Fl→Prop
 | .nx π,.nx ρ=>Inv n0 M fz st π ρ
 | .bk π,.bk ρ=>Inv n0 M fz st π ρ
 | .ct π,.ct ρ=>Inv n0 M fz st π ρ
 | .rt p,.rt d=>Rel fz st p d∧Bd fz st
 | _,_=>False
def Kept (M T:List Nat) (π:Zl) (ρ:Env) (st:Za) (π':Zl) (ρ':Env) (st':Za):Prop:=
 ∀ (i:Nat),i∉T→M.contains i=true→π'[i]?=π[i]?∧ρ'[i]?=ρ[i]?∧∀ (j:Nat) (p:P),π[i]?=some (some p)→Rf ρ[i]? j→st'[j]?=st[j]?
def KeptF (M T:List Nat) (π:Zl) (ρ:Env) (st:Za) (r:PFl) (r':Fl) (st':Za):Prop:=match r,r' with
 | .nx π',.nx ρ'=>Kept M T π ρ st π' ρ' st'
 | .bk π',.bk ρ'=>Kept M T π ρ st π' ρ' st'
 | .ct π',.ct ρ'=>Kept M T π ρ st π' ρ' st'
 | _,_=>True
theorem Kept.refl {M T:List Nat}{π:Zl}{ρ:Env}{st:Za}:Kept M T π ρ st π ρ st:=fun _ _ _=>⟨rfl,rfl,fun _ _ _ _=>rfl⟩
theorem Kept.trans {M T T1 T2:List Nat}{π π1 π2:Zl}{ρ ρ1 ρ2:Env}{st st1 st2:Za} (s1:∀ i,i∈T1→i∈T) (s2:∀ i,i∈T2→i∈T) (x:Kept M T1 π ρ st π1 ρ1 st1) (y:Kept M T2 π1 ρ1 st1 π2 ρ2 st2):Kept M T π ρ st π2 ρ2 st2:=fun i h hm=>by
 obtain ⟨a1,a2,a3⟩:=x i (fun z=>h (s1 i z)) hm
 obtain ⟨b1,b2,b3⟩:=y i (fun z=>h (s2 i z)) hm
 exact ⟨b1.trans a1,b2.trans a2,fun j p e e'=>(b3 j p (a1.trans e) (by rw [a2]; exact e')).trans (a3 j p e e')⟩
theorem Kept.more {M T T1:List Nat}{π π1:Zl}{ρ ρ1:Env}{st st1:Za} (s1:∀ i,i∈T1→i∈T) (x:Kept M T1 π ρ st π1 ρ1 st1):Kept M T π ρ st π1 ρ1 st1:=fun i h hm=>x i (fun z=>h (s1 i z)) hm
theorem KeptF.trans {M T T1 T2:List Nat}{π π1:Zl}{ρ ρ1:Env}{st st1 st2:Za}{r:PFl}{r':Fl} (s1:∀ i,i∈T1→i∈T) (s2:∀ i,i∈T2→i∈T) (x:Kept M T1 π ρ st π1 ρ1 st1) (y:KeptF M T2 π1 ρ1 st1 r r' st2):KeptF M T π ρ st r r' st2:=by
 cases r<;>cases r'<;>first | trivial | exact Kept.trans s1 s2 x y
theorem KeptF.more {M T T1:List Nat}{π:Zl}{ρ:Env}{st st2:Za}{r:PFl}{r':Fl} (s1:∀ i,i∈T1→i∈T) (y:KeptF M T1 π ρ st r r' st2):KeptF M T π ρ st r r' st2:=by
 cases r<;>cases r'<;>first | trivial | exact Kept.more s1 y
theorem Next.kept {n0:Nat}{M T:List Nat}{fz fz':Fz}{st st':Za}{π:Zl}{ρ:Env} (I:Inv n0 M fz st π ρ) (x:Next fz st fz' st'):Kept M T π ρ st π ρ st':=fun i _ hm=>⟨rfl,rfl,fun j p e e'=>by
 obtain ⟨j',ps,ds,e1,e2,e3,e4,e5,r⟩:=I.mt i p hm e
 cases e'.inj e2
 exact x.old j (ZQ e3)⟩
abbrev YZ (n0:Nat) (M T:List Nat) (fz:Fz) (st:Za) (π:Zl) (ρ:Env) (x:Option (Fl×Za)) (r:PFl):Prop:=∃ r' st' fz',x=some (r',st')∧Later n0 fz st fz' st'∧ZiC n0 M fz' st' r r'∧KeptF M T π ρ st r r' st'
def SX (n0:Nat) (M T:List Nat) (f:Ex) (g:PEx):Prop:=∀ π r,g π=some r→∀ fz st ρ,Inv n0 M fz st π ρ→YZ n0 M T fz st π ρ (f ρ st) r
section
variable {n0:Nat}{M T T1 T2:List Nat}{f f1 f2:Ex}{g g1 g2:PEx}{F:Nat→Fn}{G:PFn}
theorem Zin (h1:SX n0 M T1 f1 g1) (h2:SX n0 M T2 f2 g2):SX n0 M (T1++T2) (Zbn f1 f2) (Zdc g1 g2):=by
 intro π r e fz st ρ I
 have s1:∀ i,i∈T1→i∈T1++T2:=fun i h=>List.mem_append.mpr (.inl h)
 have s2:∀ i,i∈T2→i∈T1++T2:=fun i h=>List.mem_append.mpr (.inr h)
 unfold Zdc at e
 split at e
 ·rename_i π1 q
  obtain ⟨r1,st1,fz1,e1,l1,R1,k1⟩:=h1 π _ q fz st ρ I
  cases r1 with
  | nx ρ1=>
   obtain ⟨r2,st2,fz2,e2,l2,R2,k2⟩:=h2 π1 r e fz1 st1 ρ1 R1
   exact ⟨r2,st2,fz2,by unfold Zbn; rw [e1]; exact e2,l1.trans l2,R2,KeptF.trans s1 s2 k1 k2⟩
  | _=>exact R1.elim
 ·rename_i hn
  obtain ⟨r1,st1,fz1,e1,l1,R1,k1⟩:=h1 π _ e fz st ρ I
  refine ⟨r1,st1,fz1,?_,l1,R1,KeptF.more s1 k1⟩
  unfold Zbn
  rw [e1]
  cases r with
  | nx π1=>exact absurd e (hn π1)
  | rt p=>cases r1<;>first | rfl | exact R1.elim
  | bk π1=>cases r1<;>first | rfl | exact R1.elim
  | ct π1=>cases r1<;>first | rfl | exact R1.elim
theorem Zim (hF:ZX F G) (e:CE):SX n0 M T (JD (ev F e)) (Zda (pe G e)):=by
 intro π r h fz st ρ I
 unfold Zda at h
 split at h
 ·rename_i p q
  cases h
  obtain ⟨d,st',fz',e1,n1,r1⟩:=Zb hF e _ p q _ st ρ I.bdM I.all
  refine ⟨.rt d,st',fz',by unfold JD; rw [e1],⟨fun i hi=>n1.old i (Nat.lt_of_lt_of_le hi I.lo),fun i hi=>n1.old i (I.bd i hi),fun i hi=>n1.sub i (.inl hi),fun i hi=>?_,n1.len⟩,⟨r1,n1.bd⟩,trivial⟩
  rcases n1.new i hi with (z | ⟨k,p,hk,e,e'⟩) | z
  ·exact .inl z
  ·obtain ⟨j,ps,ds,f1,f2,f3,f4,f5,r⟩:=I.mt k p hk e
   cases e'.inj f2
   exact .inr f5
  ·exact .inr (Nat.le_trans I.lo z)
 ·cases h
theorem Xf {α:Type}{l:List (Option α)}{j k:Nat}{x:α} (e:(l.set j none)[k]?=some (some x)):k≠j∧l[k]?=some (some x):=by
 by_cases h:k=j
 ·subst h
  rw [List.getElem?_set] at e
  simp only [if_true] at e
  split at e<;>cases e
 ·rw [List.getElem?_set,if_neg (fun z=>h z.symm)] at e
  exact ⟨h,e⟩
theorem Zjp {i j:Nat}{p:P}{π:Zl}{fz:Fz}{st:Za}{ρ:Env} (I:Inv n0 M fz st π ρ) (hj:M.contains j=true) (hi:M.contains i=false) (q:π[j]?=some (some p)) :
  ∃ d fz',ρ[j]?=some (some d)∧Later n0 fz st fz' st∧Inv n0 M fz' st (Zj (π.set j none) i p) (Zo ρ i d)∧Kept M [i,j] π ρ st (Zj (π.set j none) i p) (Zo ρ i d) st:=by
 obtain ⟨J,ps,ds,f1,f2,f3,f4,f5,f6⟩:=I.mt j p hj q
 have sub:∀ k,fz k→(fz k∨k=J):=fun k h=>.inl h
 obtain ⟨d,hd,rd⟩:=f1.rel (fz:=fun k=>fz k∨k=J) (.inr rfl) f3 (f6.mono sub fun _ _=>rfl)
 refine ⟨d,fun k=>fz k∨k=J,hd,⟨fun _ _=>rfl,fun _ _=>rfl,sub,fun k h=>h.elim .inl fun z=>.inr (by rw [z]; exact f5),Nat.le_refl _⟩,?_,fun k hk hm=>?_⟩
 ·unfold Zj Zo
  refine ⟨fun k h=>h.elim (I.bd k) fun z=>by rw [z]; exact ZQ f3,I.lo,by rw [List.length_set,List.length_set,List.length_set]; exact I.len,fun k q' hk e=>?_,fun k q' hk e=>?_,fun k k' q' q'' j' hk hk' e e' e1 e1'=>?_⟩
  ·rcases ZF e with ⟨rfl,rfl,hl⟩ | ⟨hn,e⟩
   ·exact ⟨d,Vh (by rw [←I.len]; simpa using hl),rd⟩
   ·rw [Ze hn]
    obtain ⟨d,e2,r⟩:=I.fr k q' hk (Xf e).2
    exact ⟨d,e2,r.mono sub fun _ _=>rfl⟩
  ·rcases ZF e with ⟨rfl,rfl,hl⟩ | ⟨hn,e⟩
   ·rw [hi] at hk; cases hk
   ·rw [Ze hn]
    obtain ⟨nj,e⟩:=Xf e
    obtain ⟨J',ps',ds',g1,g2,g3,g4,g5,g6⟩:=I.mt k q' hk e
    refine ⟨J',ps',ds',g1,g2,g3,fun z=>z.elim g4 fun z=>?_,g5,g6.mono sub fun _ _=>rfl⟩
    subst z
    exact nj (I.ne k j _ _ J' hk hj e q g2 f2)
  ·rcases ZF e with ⟨rfl,rfl,hl⟩ | ⟨hn,e⟩
   ·rw [hi] at hk; cases hk
   ·rcases ZF e' with ⟨rfl,rfl,hl⟩ | ⟨hn',e'⟩
    ·rw [hi] at hk'; cases hk'
    ·rw [Ze hn] at e1
     rw [Ze hn'] at e1'
     exact I.ne k k' _ _ j' hk hk' (Xf e).2 (Xf e').2 e1 e1'
 ·have n1:k≠i:=fun z=>hk (by rw [z]; exact List.mem_cons_self)
  have n2:k≠j:=fun z=>hk (by rw [z]; exact List.mem_cons_of_mem _ (List.mem_singleton.mpr rfl))
  refine ⟨?_,Ze n1,fun _ _ _ _=>rfl⟩
  unfold Zj
  rw [Ze n1,List.getElem?_set,if_neg (fun z=>n2 z.symm)]
theorem Zio (hF:ZX F G) (i:Nat) (e:CE):SX n0 M (i :: mvT e) (QQ i (ev F e)) (UC M i e (pe G e)):=by
 intro π r h fz st ρ I
 have kp:∀ {fz':Fz}{st':Za}{d:D}{p:P},Next fz st fz' st'→Kept M (i :: mvT e) π ρ st (Zj π i p) (Zo ρ i d) st':=fun {fz' st' d p} x k hk hm=>by
  have hki:k≠i:=fun z=>hk (by rw [z]; exact List.mem_cons_self)
  have:=Next.kept (T:=i :: mvT e) I x k hk hm
  exact ⟨Ze hki,Ze hki,this.2.2⟩
 unfold UC at h
 split at h
 ·rename_i p q
  cases hm:M.contains i with
  | true=>
   rw [hm] at h
   simp only [if_true] at h
   split at h
   ·rename_i c
    cases h
    obtain ⟨d,j,ps,ds,st',fz1,⟨e1,ow⟩,e2,n1,hn,hl,r⟩:=VF hF I q c
    refine ⟨.nx (Zo ρ i d),st',fz1,by unfold QQ; rw [e1],n1.later I.lo I.bd,(I.next n1).setM hm ow e2 hn (Nat.le_trans I.lo hl) r fun k p hk e e'=>?_,kp n1⟩
    obtain ⟨j',ps,es,f1,f2,f3,f4,f5,_⟩:=I.mt k p hk e
    cases e'.inj f2
    exact absurd (ZQ f3) (by omega)
   ·unfold mvP at h
    split at h
    ·rw [hm,Bool.not_true,Bool.and_false] at h
     cases h
    ·cases h
  | false=>
   rw [hm] at h
   simp only [Bool.false_eq_true,if_false] at h
   split at h
   ·rename_i c
    cases h
    obtain ⟨d,st',fz',e1,n1,r1⟩:Gives fz st (ev F e ρ st) p:=((Bool.or_eq_true _ _).mp c).elim (ZE hF I q) (ZaZ hF I q)
    exact ⟨.nx (Zo ρ i d),st',fz',by unfold QQ; rw [e1],n1.later I.lo I.bd,(I.next n1).set hm r1,kp n1⟩
   ·unfold mvP at h
    split at h
    ·rename_i j _
     split at h
     ·rename_i c
      cases h
      rw [Bool.and_eq_true] at c
      have q:Y8 j π=some p:=q
      unfold Y8 at q
      split at q
      ·rename_i p' q'
       cases q
       obtain ⟨d,fz',e1,l1,I1,k1⟩:=Zjp I c.1 hm q'
       refine ⟨.nx (Zo ρ i d),st,fz',?_,l1,I1,k1⟩
       show QQ i (XF j) ρ st=_
       unfold QQ XF
       simp only [e1]
      ·cases q
     ·cases h
    ·cases h
 ·cases h
theorem Zhj (hF:ZX F G) (i j:Nat) (e:CE):SX n0 M [i,j] (QO i j (ev F e)) (Zdd M i j e (pe G e)):=by
 intro π r h fz st ρ I
 have kp:∀ {fz':Fz}{st':Za}{d d':D}{p p':P},Next fz st fz' st'→Kept M [i,j] π ρ st (Zj (Zj π i p) j p') (Zo (Zo ρ i d) j d') st':=fun {fz' st' d d' p p'} x k hk hm=>by
  have hki:k≠i:=fun z=>hk (by rw [z]; exact List.mem_cons_self)
  have hkj:k≠j:=fun z=>hk (by rw [z]; exact List.mem_cons_of_mem _ List.mem_cons_self)
  have:=Next.kept (T:=[i,j]) I x k hk hm
  exact ⟨(Ze hkj).trans (Ze hki),(Ze hkj).trans (Ze hki),this.2.2⟩
 unfold Zdd at h
 split at h
 ·rename_i x y q
  split at h
  ·rename_i c
   cases h
   rw [Bool.and_eq_true,Bool.and_eq_true] at c
   have hi:M.contains i=false:=by simpa using c.1.1
   have hj:M.contains j=false:=by simpa using c.1.2
   obtain ⟨d,st',fz',e1,n1,r1⟩:=ZE hF I q c.2
   cases r1 with
   | tup rr=>
    cases rr with
    | cons a rr=>
     cases rr with
     | cons a' rr=>
      cases rr
      exact ⟨.nx _,st',fz',by unfold QO; rw [e1],n1.later I.lo I.bd,((I.next n1).set hi a).set hj a',kp n1⟩
  ·cases h
 ·cases h
theorem Zhk (hF:ZX F G) (i j l:Nat) (e:CE):SX n0 M [i,j,l] (QP i j l (ev F e)) (Zde M i j l e (pe G e)):=by
 intro π r h fz st ρ I
 have kp:∀ {fz':Fz}{st':Za}{d d' d2:D}{p p' p2:P},Next fz st fz' st'→Kept M [i,j,l] π ρ st (Zj (Zj (Zj π i p) j p') l p2) (Zo (Zo (Zo ρ i d) j d') l d2) st':=fun {fz' st' d d' d2 p p' p2} x k hk hm=>by
  have hki:k≠i:=fun z=>hk (by rw [z]; exact List.mem_cons_self)
  have hkj:k≠j:=fun z=>hk (by rw [z]; exact List.mem_cons_of_mem _ List.mem_cons_self)
  have hkl:k≠l:=fun z=>hk (by rw [z]; exact List.mem_cons_of_mem _ (List.mem_cons_of_mem _ List.mem_cons_self))
  have:=Next.kept (T:=[i,j,l]) I x k hk hm
  exact ⟨(Ze hkl).trans ((Ze hkj).trans (Ze hki)),(Ze hkl).trans ((Ze hkj).trans (Ze hki)),this.2.2⟩
 unfold Zde at h
 split at h
 ·rename_i x y z q
  split at h
  ·rename_i c
   cases h
   rw [Bool.and_eq_true,Bool.and_eq_true,Bool.and_eq_true] at c
   have hi:M.contains i=false:=by simpa using c.1.1.1
   have hj:M.contains j=false:=by simpa using c.1.1.2
   have hl:M.contains l=false:=by simpa using c.1.2
   obtain ⟨d,st',fz',e1,n1,r1⟩:=ZE hF I q c.2
   cases r1 with
   | tup rr=>
    cases rr with
    | cons a rr=>
     cases rr with
     | cons a' rr=>
      cases rr with
      | cons a2 rr=>
       cases rr
       exact ⟨.nx _,st',fz',by unfold QP; rw [e1],n1.later I.lo I.bd,(((I.next n1).set hi a).set hj a').set hl a2,kp n1⟩
  ·cases h
 ·cases h
theorem Zig (hF:ZX F G) (e:CE):SX n0 M [] (ZbB (ev F e)) (ZgM M e (pe G e)):=by
 intro π r h fz st ρ I
 unfold ZgM at h
 split at h
 ·rename_i p q
  split at h
  ·rename_i c
   cases h
   obtain ⟨d,st',fz',e1,n1,r1⟩:=ZE hF I q c
   exact ⟨.nx ρ,st',fz',by unfold ZbB; rw [e1],n1.later I.lo I.bd,I.next n1,Next.kept I n1⟩
  ·cases h
 ·cases h
theorem Zih (hF:ZX F G) (i:Nat) (e:CE):SX n0 M [i] (ZbF i (ev F e)) (ZcY M i e (pe G e)):=by
 intro π r h fz st ρ I
 unfold ZcY at h
 split at h
 ·rename_i xs q0
  split at h
  ·rename_i p q
   split at h
   ·rename_i c
    cases h
    rw [Bool.and_eq_true,Bool.and_eq_true] at c
    obtain ⟨⟨hm,hk⟩,hz⟩:=c
    have hz:=of_decide_eq_true hz
    obtain ⟨d,st',fz',e1,n1,r1⟩:=ZE hF I q hk
    have I1:=I.next n1
    obtain ⟨j,ps,ds,f1,f2,f3,f4,f5,f6⟩:=I1.mt i _ hm q0
    obtain ⟨⟨_,rfl⟩,f0⟩:=f1.lst
    obtain ⟨I2,l2⟩:=I1.write hm q0 (.l rfl f0) f4 f5 (ZQ f3) (f6.append (.cons r1 .nil))
    refine ⟨.nx ρ,_,fz',?_,(n1.later I.lo I.bd).trans l2,I2,fun k hk2 hm2=>?_⟩
    ·unfold ZbF
     rw [f0]
     simp only [e1]
     unfold ZbD
     simp only [f3]
     rw [if_pos (by rw [←f6.length]; exact hz)]
    ·have hki:k≠i:=fun z=>hk2 (by rw [z]; exact List.mem_singleton.mpr rfl)
     have kk:=Next.kept (T:=[i]) I n1 k hk2 hm2
     refine ⟨Ze hki,rfl,fun j' p' e e'=>?_⟩
     rw [←kk.2.2 j' p' e e',List.getElem?_set,if_neg (fun z=>hki (I.ne k i p' _ j hm2 hm e q0 (by rw [z]; exact e') f2))]
   ·cases h
  ·cases h
 ·cases h
theorem Zii (hF:ZX F G) (i:Nat) (e:CE):SX n0 M [i] (Zb5 i (ev F e)) (Zc5 M i e (pe G e)):=by
 intro π r h fz st ρ I
 unfold Zc5 at h
 split at h
 ·rename_i xs q0
  split at h
  ·rename_i ys q
   split at h
   ·rename_i c
    cases h
    rw [Bool.and_eq_true,Bool.and_eq_true] at c
    obtain ⟨⟨hm,hk⟩,hz⟩:=c
    have hz:=of_decide_eq_true hz
    obtain ⟨d,st',fz',e1,n1,r1⟩:=ZE hF I q (show Zp M e _=true by unfold Zp; rw [hk,Bool.true_or])
    have I1:=I.next n1
    obtain ⟨j,ps,ds,f1,f2,f3,f4,f5,f6⟩:=I1.mt i _ hm q0
    obtain ⟨⟨_,rfl⟩,f0⟩:=f1.lst
    cases r1 with
    | @lst jb _ _ db zb sb rb=>
     obtain ⟨I2,l2⟩:=I1.write hm q0 (.l rfl f0) f4 f5 (ZQ f3) (f6.append rb)
     refine ⟨.nx ρ,_,fz',?_,(n1.later I.lo I.bd).trans l2,I2,fun k hk2 hm2=>?_⟩
     ·unfold Zb5
      rw [f0]
      simp only [e1]
      unfold Zgl
      simp only [f3,sb]
      rw [if_pos (by rw [←f6.length,←rb.length]; exact hz)]
     ·have hki:k≠i:=fun z=>hk2 (by rw [z]; exact List.mem_singleton.mpr rfl)
      have kk:=Next.kept (T:=[i]) I n1 k hk2 hm2
      refine ⟨Ze hki,rfl,fun j' p' e e'=>?_⟩
      rw [←kk.2.2 j' p' e e',List.getElem?_set,if_neg (fun z=>hki (I.ne k i p' _ j hm2 hm e q0 (by rw [z]; exact e') f2))]
   ·cases h
  ·cases h
 ·cases h
theorem Zil (hF:ZX F G) (i:Nat) (e k:CE):SX n0 M [i] (Zdg i (ev F k) (ev F e)) (ZgR M i e (pe G k) (pe G e)):=by
 intro π r h fz st ρ I
 unfold ZgR at h
 split at h
 ·rename_i p q
  split at h
  ·rename_i xs q0
   split at h
   ·rename_i a qa
    split at h
    ·rename_i b qb
     split at h
     ·rename_i c
      cases h
      rw [Bool.and_eq_true] at c
      obtain ⟨hm,hk⟩:=c
      obtain ⟨d,st',fz',e1,n1,r1⟩:=ZE hF I q hk
      have I1:=I.next n1
      obtain ⟨d2,st2,fz2,e2,n2,r2⟩:=ZE hF I1 qa (by unfold Zp; rw [show noL (.int a)=true from rfl,Bool.or_true])
      cases r2
      have I2:=I1.next n2
      obtain ⟨j,ps,ds,f1,f2,f3,f4,f5,f6⟩:=I2.mt i _ hm q0
      obtain ⟨⟨_,rfl⟩,f0⟩:=f1.lst
      obtain ⟨I3,l3⟩:=I2.write hm q0 (.l rfl f0) f4 f5 (ZQ f3) (f6.set (r1.next n1.bd n2) b)
      refine ⟨.nx ρ,_,fz2,?_,((n1.trans n2).later I.lo I.bd).trans l3,I3,fun k' hk2 hm2=>?_⟩
      ·unfold Zdg
       rw [e1]
       simp only [f0,e2]
       unfold UL
       simp only [f3]
       rw [←f6.length,qb]
      ·have hki:k'≠i:=fun z=>hk2 (by rw [z]; exact List.mem_singleton.mpr rfl)
       have kk:=Next.kept (T:=[i]) I (n1.trans n2) k' hk2 hm2
       refine ⟨Ze hki,rfl,fun j' p' e e'=>?_⟩
       rw [←kk.2.2 j' p' e e',List.getElem?_set,if_neg (fun z=>hki (I.ne k' i p' _ j hm2 hm e q0 (by rw [z]; exact e') f2))]
     ·cases h
    ·cases h
   ·cases h
  ·cases h
 ·cases h
theorem Zik (hF:ZX F G) (c:CE) (h1:SX n0 M T1 f1 g1) (h2:SX n0 M T2 f2 g2):SX n0 M (T1++T2) (Vs (ev F c) f1 f2) (Zc6 (pe G c) g1 g2):=by
 intro π r e fz st ρ I
 have s1:∀ i,i∈T1→i∈T1++T2:=fun i h=>List.mem_append.mpr (.inl h)
 have s2:∀ i,i∈T2→i∈T1++T2:=fun i h=>List.mem_append.mpr (.inr h)
 unfold Zc6 at e
 split at e
 ·rename_i q
  obtain ⟨d,st',fz',e1,n1,r1⟩:=ZE hF I q (by unfold Zp; rw [show noL (.bl true)=true from rfl,Bool.or_true])
  cases r1
  obtain ⟨r2,st2,fz2,e2,l2,R2,k2⟩:=h1 π r e fz' st' ρ (I.next n1)
  exact ⟨r2,st2,fz2,by unfold Vs; rw [e1]; exact e2,(n1.later I.lo I.bd).trans l2,R2,KeptF.trans (T1:=T1) s1 s1 (Next.kept I n1) k2⟩
 ·rename_i q
  obtain ⟨d,st',fz',e1,n1,r1⟩:=ZE hF I q (by unfold Zp; rw [show noL (.bl false)=true from rfl,Bool.or_true])
  cases r1
  obtain ⟨r2,st2,fz2,e2,l2,R2,k2⟩:=h2 π r e fz' st' ρ (I.next n1)
  exact ⟨r2,st2,fz2,by unfold Vs; rw [e1]; exact e2,(n1.later I.lo I.bd).trans l2,R2,KeptF.trans (T1:=T2) s2 s2 (Next.kept I n1) k2⟩
 ·cases e
abbrev UP (n0:Nat) (M T:List Nat) (B:P→Zl→Option PFl) (B':D→Env→Za→Option (Fl×Za)):Prop:=∀ x d π r,B x π=some r→∀ fz st ρ,Inv n0 M fz st π ρ→Rel fz st x d→YZ n0 M T fz st π ρ (B' d ρ st) r
theorem Later.rels {fz fz':Fz}{st st':Za}{ps:List P}{ds:List D} (l:Later n0 fz st fz' st') (r:Rels fz st ps ds):Rels fz' st' ps ds:=r.mono l.sub l.frz
theorem YJ {B:P→Zl→Option PFl}{B':D→Env→Za→Option (Fl×Za)} (h:UP n0 M T B B'):∀ {xs:List P}{ds:List D}{π:Zl}{r:PFl}{fz:Fz}{st:Za}{ρ:Env},Inv n0 M fz st π ρ→Rels fz st xs ds→Zy B xs π=some r→YZ n0 M T fz st π ρ (Yc B' ds ρ st) r
 | _,_,π,r,fz,st,ρ,I,.nil,e=>by cases e; exact ⟨.nx ρ,st,fz,rfl,Later.refl,I,Kept.refl⟩
 | x :: xs,d :: ds,π,r,fz,st,ρ,I,.cons a rs,e=>by
  unfold Zy at e
  split at e
  ·rename_i π1 q
   obtain ⟨r1,st1,fz1,e1,l1,R1,k1⟩:=h x d π _ q fz st ρ I a
   cases r1 with
   | nx ρ1=>
    obtain ⟨r2,st2,fz2,e2,l2,R2,k2⟩:=YJ h (ρ:=ρ1) R1 (l1.rels rs) e
    exact ⟨r2,st2,fz2,by unfold Yc; rw [e1]; exact e2,l1.trans l2,R2,KeptF.trans (fun _ z=>z) (fun _ z=>z) k1 k2⟩
   | _=>exact R1.elim
  ·rename_i π1 q
   obtain ⟨r1,st1,fz1,e1,l1,R1,k1⟩:=h x d π _ q fz st ρ I a
   cases r1 with
   | ct ρ1=>
    obtain ⟨r2,st2,fz2,e2,l2,R2,k2⟩:=YJ h (ρ:=ρ1) R1 (l1.rels rs) e
    exact ⟨r2,st2,fz2,by unfold Yc; rw [e1]; exact e2,l1.trans l2,R2,KeptF.trans (fun _ z=>z) (fun _ z=>z) k1 k2⟩
   | _=>exact R1.elim
  ·rename_i π1 q
   cases e
   obtain ⟨r1,st1,fz1,e1,l1,R1,k1⟩:=h x d π _ q fz st ρ I a
   cases r1 with
   | bk ρ1=>exact ⟨.nx ρ1,st1,fz1,by unfold Yc; rw [e1],l1,R1,k1⟩
   | _=>exact R1.elim
  ·rename_i v q
   cases e
   obtain ⟨r1,st1,fz1,e1,l1,R1,k1⟩:=h x d π _ q fz st ρ I a
   cases r1 with
   | rt d'=>exact ⟨.rt d',st1,fz1,by unfold Yc; rw [e1],l1,R1,trivial⟩
   | _=>exact R1.elim
  ·cases e
theorem Jr {B':D→Env→Za→Option (Fl×Za)}{a n k:Nat}{ρ:Env}{st:Za}{m:Bool}{all:List D}{d:D} (h:st[a]?=some (m,all)) (hk:all[k]?=some d):ZM B' a (n+1) k ρ st=(match B' d ρ st with
  | some (.nx ρ',st')=>ZM B' a n (k+1) ρ' st'
  | some (.ct ρ',st')=>ZM B' a n (k+1) ρ' st'
  | some (.bk ρ',st')=>some (.nx ρ',st')
  | some (.rt v,st')=>some (.rt v,st')
  | none=>none):=by
 rw [ZM]; simp only [h,hk]<;>rfl
abbrev Zhu (n0:Nat) (M T:List Nat) (a:Nat) (m:Bool) (all:List D) (J:Fz→Za→Zl→Env→Prop):Prop:=
 (∀ fz st π ρ,J fz st π ρ→st[a]?=some (m,all))∧∀ fz st π ρ fz' st' π' ρ',Later n0 fz st fz' st'→Kept M T π ρ st π' ρ' st'→J fz st π ρ→J fz' st' π' ρ'
theorem Xc {B:P→Zl→Option PFl}{B':D→Env→Za→Option (Fl×Za)} (h:UP n0 M T B B') {a:Nat}{m:Bool}{all:List D}{J:Fz→Za→Zl→Env→Prop} (hJ:Zhu n0 M T a m all J):∀ {xs:List P}{ds:List D}{k:Nat}{π:Zl}{r:PFl}{fz:Fz}{st:Za}{ρ:Env},
   Inv n0 M fz st π ρ→J fz st π ρ→all.drop k=ds→Rels fz st xs ds→Zy B xs π=some r→YZ n0 M T fz st π ρ (ZM B' a ds.length k ρ st) r
 | _,_,k,π,r,fz,st,ρ,I,j,hd,.nil,e=>by
  cases e
  refine ⟨.nx ρ,st,fz,?_,Later.refl,I,Kept.refl⟩
  show ZM B' a 0 k ρ st=_
  unfold ZM
  simp only [hJ.1 _ _ _ _ j]
  rw [if_pos (List.drop_eq_nil_iff.mp hd)]
 | x :: xs,d :: ds,k,π,r,fz,st,ρ,I,j,hd,.cons b rs,e=>by
  have hk:all[k]?=some d:=by
   have:=congrArg (fun l=>l[0]?) hd
   simpa using this
  have hd2:all.drop (k+1)=ds:=by
   have:=congrArg (fun l=>l.drop 1) hd
   simpa using this
  have start:∀ {y},B' d ρ st=some y→ZM B' a (d :: ds).length k ρ st=(match y with
    | (.nx ρ',st')=>ZM B' a ds.length (k+1) ρ' st'
    | (.ct ρ',st')=>ZM B' a ds.length (k+1) ρ' st'
    | (.bk ρ',st')=>some (.nx ρ',st')
    | (.rt v,st')=>some (.rt v,st')):=fun {y} ey=>by
   show ZM B' a (ds.length+1) k ρ st=_
   rw [Jr (hJ.1 _ _ _ _ j) hk,ey]
   obtain ⟨f,s⟩:=y
   cases f<;>rfl
  unfold Zy at e
  split at e
  ·rename_i π1 q
   obtain ⟨r1,st1,fz1,e1,l1,R1,k1⟩:=h x d π _ q fz st ρ I b
   cases r1 with
   | nx ρ1=>
    obtain ⟨r2,st2,fz2,e2,l2,R2,k2⟩:=Xc h hJ (ρ:=ρ1) R1 (hJ.2 _ _ _ _ _ _ _ _ l1 k1 j) hd2 (l1.rels rs) e
    exact ⟨r2,st2,fz2,by rw [start e1]; exact e2,l1.trans l2,R2,KeptF.trans (fun _ z=>z) (fun _ z=>z) k1 k2⟩
   | _=>exact R1.elim
  ·rename_i π1 q
   obtain ⟨r1,st1,fz1,e1,l1,R1,k1⟩:=h x d π _ q fz st ρ I b
   cases r1 with
   | ct ρ1=>
    obtain ⟨r2,st2,fz2,e2,l2,R2,k2⟩:=Xc h hJ (ρ:=ρ1) R1 (hJ.2 _ _ _ _ _ _ _ _ l1 k1 j) hd2 (l1.rels rs) e
    exact ⟨r2,st2,fz2,by rw [start e1]; exact e2,l1.trans l2,R2,KeptF.trans (fun _ z=>z) (fun _ z=>z) k1 k2⟩
   | _=>exact R1.elim
  ·rename_i π1 q
   cases e
   obtain ⟨r1,st1,fz1,e1,l1,R1,k1⟩:=h x d π _ q fz st ρ I b
   cases r1 with
   | bk ρ1=>exact ⟨.nx ρ1,st1,fz1,by rw [start e1],l1,R1,k1⟩
   | _=>exact R1.elim
  ·rename_i v q
   cases e
   obtain ⟨r1,st1,fz1,e1,l1,R1,k1⟩:=h x d π _ q fz st ρ I b
   cases r1 with
   | rt d'=>exact ⟨.rt d',st1,fz1,by rw [start e1],l1,R1,trivial⟩
   | _=>exact R1.elim
  ·cases e
theorem ZdB {i:Nat} (hi:M.contains i=false) (h:SX n0 M T f g):UP n0 M (i :: T) (fun d π=>g (Zj π i d)) (fun d ρ s=>f (Zo ρ i d) s):=by
 intro x d π r e fz st ρ I a
 obtain ⟨r1,st1,fz1,e1,l1,R1,k1⟩:=h _ r e fz st _ (I.set hi a)
 refine ⟨r1,st1,fz1,e1,l1,R1,?_⟩
 refine KeptF.trans (T1:=i :: T) (T2:=T) (fun _ z=>z) (fun _ z=>List.mem_cons_of_mem _ z) (fun k hk hm=>?_) k1
 have hki:k≠i:=fun z=>hk (by rw [z]; exact List.mem_cons_self)
 exact ⟨Ze hki,Ze hki,fun _ _ _ _=>rfl⟩
theorem ZfR {i j:Nat} (hi:M.contains i=false) (hj:M.contains j=false) (h:SX n0 M T f g):UP n0 M (i :: j :: T) (Xn i j g) (QB i j f):=by
 intro x d π r e fz st ρ I a
 unfold Xn at e
 split at e
 ·rename_i p q
  cases a with
  | tup a=>
   cases a with
   | cons a1 a=>
    cases a with
    | cons a2 a=>
     cases a
     obtain ⟨r1,st1,fz1,e1,l1,R1,k1⟩:=h _ r e fz st _ ((I.set hi a1).set hj a2)
     refine ⟨r1,st1,fz1,e1,l1,R1,?_⟩
     refine KeptF.trans (T1:=i :: j :: T) (T2:=T) (fun _ z=>z) (fun _ z=>List.mem_cons_of_mem _ (List.mem_cons_of_mem _ z)) (fun k hk hm=>?_) k1
     have hki:k≠i:=fun z=>hk (by rw [z]; exact List.mem_cons_self)
     have hkj:k≠j:=fun z=>hk (by rw [z]; exact List.mem_cons_of_mem _ List.mem_cons_self)
     exact ⟨(Ze hkj).trans (Ze hki),(Ze hkj).trans (Ze hki),fun _ _ _ _=>rfl⟩
 ·cases e
theorem Q0 (hF:ZX F G) {B:P→Zl→Option PFl}{B':D→Env→Za→Option (Fl×Za)}{e:CE}{m:Bool}{xs:List P}{T0:List Nat} (h:UP n0 M T B B') (hT:∀ i,M.contains i=true→i∈T→i∈T0) {fz:Fz}{st:Za}{π:Zl}{ρ:Env}{r:PFl} (I:Inv n0 M fz st π ρ)
  (q:pe G e π=some (.lst m xs)) (c:X6 M T0 e xs=true) (el:Zy B xs π=some r):∃ a st1 mm ds,ev F e ρ st=some (.lst a,st1)∧st1[a]?=some (mm,ds)∧YZ n0 M T fz st π ρ (ZM B' a ds.length 0 ρ st1) r:=by
 have frozen:∀ {a:Nat}{st1:Za}{fz1:Fz}{ds:List D},ev F e ρ st=some (.lst a,st1)→Next fz st fz1 st1→fz1 a→st1[a]?=some (m,ds)→Rels fz1 st1 xs ds→∃ a st1 mm ds,ev F e ρ st=some (.lst a,st1)∧st1[a]?=some (mm,ds)∧YZ n0 M T fz st π ρ (ZM B' a ds.length 0 ρ st1) r:=fun {a st1 fz1 ds} e1 n1 hz hs rr=>by
  refine ⟨a,st1,m,ds,e1,hs,?_⟩
  obtain ⟨r1,st2,fz2,e2,l2,R2,k2⟩:=Xc h (a:=a) (m:=m) (all:=ds) (J:=fun fz st _ _=>fz a∧st[a]?=some (m,ds)) ⟨fun _ _ _ _ j=>j.2,fun _ _ _ _ _ _ _ _ l _ j=>⟨l.sub _ j.1,(l.frz _ j.1).trans j.2⟩⟩ (k:=0) (I.next n1) ⟨hz,hs⟩ rfl rr el
  exact ⟨r1,st2,fz2,e2,(n1.later I.lo I.bd).trans l2,R2,KeptF.trans (T1:=T) (fun _ z=>z) (fun _ z=>z) (Next.kept I n1) k2⟩
 unfold X6 at c
 rw [Bool.or_eq_true,Bool.or_eq_true] at c
 rcases c with (c | c) | c
 ·obtain ⟨d,st',fz',e1,n1,r1⟩:=ZE hF I q (by unfold Zp; rw [c]; rfl)
  cases r1 with
  | lst hz hs rr=>exact frozen e1 n1 hz hs rr
 ·rw [Bool.and_eq_true] at c
  obtain ⟨j,ds,st',fz1,e1,e2,n1,hn,hl,rr⟩:=U2 hF I q c.1 (by rw [c.2,Bool.or_true])
  have n2:Next fz st (fun i=>fz1 i∨i=j) st':=⟨n1.old,n1.len,fun i z=>.inl (n1.sub i z),fun i z=>z.elim (n1.new i) fun z=>.inr (by rw [z]; exact hl),fun i z=>z.elim (n1.bd i) fun z=>by rw [z]; exact ZQ e2⟩
  exact frozen e1 n2 (.inr rfl) e2 (rr.mono (fun _ z=>.inl z) fun _ _=>rfl)
 ·split at c
  ·rename_i i
   have c:i∉T0:=by
    intro z
    have:T0.contains i=true:=by simpa using z
    rw [this] at c; cases c
   have q:Y8 i π=some (.lst m xs):=q
   unfold Y8 at q
   split at q
   ·rename_i q0
    cases q
    cases hm:M.contains i with
    | false=>
     obtain ⟨d,st',fz',e1,n1,r1⟩:=ZE hF I (e:=.var i) (p:=.lst m xs) (by show Y8 i π=_; unfold Y8; rw [q0]) (by show ((!M.contains i)||_)=true; rw [hm]; rfl)
     cases r1 with
     | lst hz hs rr=>exact frozen e1 n1 hz hs rr
    | true=>
     obtain ⟨j,ps,ds,f1,f2,f3,f4,f5,f6⟩:=I.mt i _ hm q0
     obtain ⟨⟨rfl,rfl⟩,f0⟩:=f1.lst
     refine ⟨j,st,true,ds,by show XF i ρ st=_; unfold XF; rw [f0],f3,?_⟩
     obtain ⟨r1,st2,fz2,e2,l2,R2,k2⟩:=Xc h (a:=j) (m:=true) (all:=ds) (J:=fun fz st π ρ=>(∃ p,π[i]?=some (some p))∧Rf ρ[i]? j∧st[j]?=some (true,ds)) ⟨fun _ _ _ _ j=>j.2.2,fun _ _ _ _ _ _ _ _ l k jj=>by
      obtain ⟨⟨p,jp⟩,j2,j3⟩:=jj
      obtain ⟨k1,k2,k3⟩:=k i (fun z=>c (hT i hm z)) hm
      exact ⟨⟨p,k1.trans jp⟩,by rw [k2]; exact j2,(k3 j p jp j2).trans j3⟩⟩ (k:=0) I ⟨⟨_,q0⟩,f2,f3⟩ rfl f6 el
     exact ⟨r1,st2,fz2,e2,l2,R2,k2⟩
   ·cases q
  ·cases c
theorem Zij (hF:ZX F G) {i:Nat}{rng:Bool}{e:CE} (h:SX n0 M T f g):SX n0 M (i :: T) (U6 i rng (ev F e) f) (Jx M T i rng e (pe G e) g):=by
 intro π r hp fz st ρ I
 unfold Jx at hp
 split at hp
 ·rename_i x q
  split at hp
  ·rename_i xs qi
   split at hp
   ·rename_i c
    rw [Bool.and_eq_true] at c
    have hi:M.contains i=false:=by simpa using c.1
    have kp:Zp M e x=true:=by
     cases rng with
     | false=>simpa using c.2
     | true=>
      cases x with
      | int n=>unfold Zp; rw [show noL (.int n)=true from rfl,Bool.or_true]
      | _=>cases qi
    obtain ⟨d,st',fz',e1,n1,r1⟩:=ZE hF I q kp
    obtain ⟨ds,e2,r2⟩:=VN r1 qi
    obtain ⟨r3,st3,fz3,e3,l3,R3,k3⟩:=YJ (ZdB hi h) (I.next n1) r2 hp
    exact ⟨r3,st3,fz3,by unfold U6; rw [e1]; simp only [e2]; exact e3,(n1.later I.lo I.bd).trans l3,R3,KeptF.trans (T1:=i :: T) (fun _ z=>z) (fun _ z=>z) (Next.kept I n1) k3⟩
   ·cases hp
  ·split at hp
   ·rename_i m xs _
    split at hp
    ·rename_i c
     rw [Bool.and_eq_true] at c
     have hi:M.contains i=false:=by simpa using c.1
     obtain ⟨a,st1,mm,ds,e1,e2,r3,st3,fz3,e3,l3,R3,k3⟩:=Q0 hF (ZdB hi h) (T0:=T) (fun k hk hm=>by
      rcases List.mem_cons.mp hm with z | z
      ·rw [z] at hk; rw [hi] at hk; cases hk
      ·exact z) I q c.2 hp
     refine ⟨r3,st3,fz3,?_,l3,R3,k3⟩
     unfold U6
     rw [e1]
     simp only [YT,e2]
     exact e3
    ·cases hp
   ·cases hp
 ·cases hp
theorem VL {fz:Fz}{st:Za}:∀ {ps:List P}{ds:List D}{l:List Int},Rels fz st ps ds→J5 ps=some l→Vb ps=true∧WZ ds=some l
 | _,_,_,.nil,h=>⟨rfl,h⟩
 | p :: ps,d :: ds,_,.cons a r,h=>Yf (P:=fun l=>Vb (p :: ps)=true∧WZ (d :: ds)=some l) h fun i l hi hl=>by
  obtain ⟨h1,h2⟩:=VL r hl
  have z:noL p=true∧Zen d=some i:=by cases a<;>first | (cases hi; done) | exact ⟨rfl,hi⟩
  exact ⟨by show (noL p&&Vb ps)=true; rw [z.1,h1]; rfl,by show o2 List.cons (Zen d) (WZ ds)=_; rw [z.2,h2]; rfl⟩
theorem W2 {fz:Fz}{st:Za}{x:P}{dx:D}{xs:List Int} (r:Rel fz st x dx) (h:Uo x=some xs):noL x=true∧Jl dx=some xs:=by
 cases r with
 | tup r=>
  obtain ⟨l,h1,h2⟩:=Option.bind_eq_some_iff.mp (show (J5 _).bind UF=some xs from h)
  obtain ⟨z1,z2⟩:=VL r h1
  exact ⟨z1,by show (WZ _).bind UF=_; rw [z2]; exact h2⟩
 | _=>cases h
theorem Qh {fz:Fz}{st:Za}:∀ xs:List Int,Rels fz st (xs.map P.int) (xs.map D.int)
 | []=>.nil
 | x :: xs=>.cons (.int x) (Qh xs)
theorem Zhh (hF:ZX F G) {i:Nat}{e:CE} (h:SX n0 M T f g):SX n0 M (i :: T) (U5 i (ev F e) f) (QE M i (pe G e) g):=by
 intro π r hp fz st ρ I
 unfold QE at hp
 split at hp
 ·rename_i x q
  split at hp
  ·rename_i xs qi
   split at hp
   ·rename_i c
    have hi:M.contains i=false:=by simpa using c
    have nl:noL x=true:=by
     obtain ⟨d,st',fz',e1,n1,r1⟩:=Zb hF e _ x q _ st ρ I.bdM I.all
     exact (W2 r1 qi).1
    obtain ⟨d,st',fz',e1,n1,r1⟩:=ZE hF I q (show Zp M e x=true by unfold Zp; rw [nl,Bool.or_true])
    obtain ⟨_,e2⟩:=W2 r1 qi
    obtain ⟨r3,st3,fz3,e3,l3,R3,k3⟩:=YJ (ZdB hi h) (I.next n1) (Qh xs) hp
    exact ⟨r3,st3,fz3,by unfold U5; rw [e1]; simp only [e2]; exact e3,(n1.later I.lo I.bd).trans l3,R3,KeptF.trans (T1:=i :: T) (fun _ z=>z) (fun _ z=>z) (Next.kept I n1) k3⟩
   ·cases hp
  ·cases hp
 ·cases hp
theorem Zhg (hF:ZX F G) {i j:Nat}{e:CE} (h:SX n0 M T f g):SX n0 M (i :: j :: T) (VG i j (ev F e) f) (QD M T i j e (pe G e) g):=by
 intro π r hp fz st ρ I
 unfold QD at hp
 split at hp
 ·rename_i m xs q
  split at hp
  ·rename_i c
   rw [Bool.and_eq_true,Bool.and_eq_true] at c
   have hi:M.contains i=false:=by simpa using c.1.1
   have hj:M.contains j=false:=by simpa using c.1.2
   obtain ⟨a,st1,mm,ds,e1,e2,r3,st3,fz3,e3,l3,R3,k3⟩:=Q0 hF (ZfR hi hj h) (T0:=T) (fun k hk hm=>by
    rcases List.mem_cons.mp hm with z | z
    ·rw [z] at hk; rw [hi] at hk; cases hk
    ·rcases List.mem_cons.mp z with z | z
     ·rw [z] at hk; rw [hj] at hk; cases hk
     ·exact z) I q c.2 hp
   refine ⟨r3,st3,fz3,?_,l3,R3,k3⟩
   unfold VG
   rw [e1]
   simp only [e2]
   exact e3
  ·cases hp
 ·rename_i xs q
  split at hp
  ·rename_i c
   rw [Bool.and_eq_true,Bool.and_eq_true] at c
   have hi:M.contains i=false:=by simpa using c.1.1
   have hj:M.contains j=false:=by simpa using c.1.2
   obtain ⟨d,st',fz',e1,n1,r1⟩:=ZE hF I q c.2
   cases r1 with
   | tup r2=>
    obtain ⟨r3,st3,fz3,e3,l3,R3,k3⟩:=YJ (ZfR hi hj h) (I.next n1) r2 hp
    exact ⟨r3,st3,fz3,by unfold VG; rw [e1]; exact e3,(n1.later I.lo I.bd).trans l3,R3,KeptF.trans (T1:=i :: j :: T) (fun _ z=>z) (fun _ z=>z) (Next.kept I n1) k3⟩
  ·cases hp
 ·cases hp
inductive RelsQ (fz:Fz) (st:Za):List (P×P)→List (D×D)→Prop where
 | nil:RelsQ fz st [] []
 | cons {p:P×P}{d:D×D}{ps:List (P×P)}{ds:List (D×D)} (h1:Rel fz st p.1 d.1) (h2:Rel fz st p.2 d.2) (r:RelsQ fz st ps ds):RelsQ fz st (p :: ps) (d :: ds)
theorem RelsQ.zip {fz:Fz}{st:Za}:∀ {xs ys:List P}{ds es:List D},Rels fz st xs ds→Rels fz st ys es→RelsQ fz st (xs.zip ys) (ds.zip es)
 | _,_,_,_,.nil,_=>.nil
 | _,_,_,_,.cons _ _,.nil=>.nil
 | _,_,_,_,.cons a r,.cons b s=>.cons a b (RelsQ.zip r s)
theorem RelsQ.mono {fz fz':Fz}{st st':Za} (l:Later n0 fz st fz' st'):∀ {ps:List (P×P)}{ds:List (D×D)},RelsQ fz st ps ds→RelsQ fz' st' ps ds
 | _,_,.nil=>.nil
 | _,_,.cons a b r=>.cons (a.mono l.sub l.frz) (b.mono l.sub l.frz) (RelsQ.mono l r)
theorem Xb {i j:Nat} (hi:M.contains i=false) (hj:M.contains j=false) (h:SX n0 M T f g) {ok:Za→Prop}:∀ {xs:List (P×P)}{ds:List (D×D)}{π:Zl}{r:PFl}{fz:Fz}{st:Za}{ρ:Env},Inv n0 M fz st π ρ→RelsQ fz st xs ds→(∀ fz' st',Later n0 fz st fz' st'→ok st')→
  YK (fun x y π=>g (Zj (Zj π i x) j y)) xs π=some r→YZ n0 M (i :: j :: T) fz st π ρ (Yo ok (fun x y ρ s=>f (Zo (Zo ρ i x) j y) s) ds ρ st) r
 | _,_,π,r,fz,st,ρ,I,.nil,hok,e=>by cases e; exact ⟨.nx ρ,st,fz,if_pos (hok _ _ Later.refl),Later.refl,I,Kept.refl⟩
 | x :: xs,d :: ds,π,r,fz,st,ρ,I,.cons a b rs,hok,e=>by
  have ok0:=hok _ _ Later.refl
  have tr:∀ {r1:PFl},g (Zj (Zj π i x.1) j x.2)=some r1→YZ n0 M (i :: j :: T) fz st π ρ (f (Zo (Zo ρ i d.1) j d.2) st) r1:=fun {r1} q=>by
   obtain ⟨r2,st2,fz2,e2,l2,R2,k2⟩:=h _ _ q fz st _ ((I.set hi a).set hj b)
   refine ⟨r2,st2,fz2,e2,l2,R2,?_⟩
   have kp:Kept M (i :: j :: T) π ρ st (Zj (Zj π i x.1) j x.2) (Zo (Zo ρ i d.1) j d.2) st:=fun k hk hm=>by
    have hki:k≠i:=fun z=>hk (by rw [z]; exact List.mem_cons_self)
    have hkj:k≠j:=fun z=>hk (by rw [z]; exact List.mem_cons_of_mem _ List.mem_cons_self)
    exact ⟨(Ze hkj).trans (Ze hki),(Ze hkj).trans (Ze hki),fun _ _ _ _=>rfl⟩
   exact KeptF.trans (T1:=i :: j :: T) (T2:=T) (fun _ z=>z) (fun _ z=>List.mem_cons_of_mem _ (List.mem_cons_of_mem _ z)) kp k2
  unfold YK at e
  split at e
  ·rename_i π1 q
   obtain ⟨r1,st1,fz1,e1,l1,R1,k1⟩:=tr q
   cases r1 with
   | nx ρ1=>
    obtain ⟨r2,st2,fz2,e2,l2,R2,k2⟩:=Xb hi hj h (ρ:=ρ1) R1 (rs.mono l1) (fun _ _ l=>hok _ _ (l1.trans l)) e
    exact ⟨r2,st2,fz2,by unfold Yo; rw [if_pos ok0]; simp only [e1]; exact e2,l1.trans l2,R2,KeptF.trans (fun _ z=>z) (fun _ z=>z) k1 k2⟩
   | _=>exact R1.elim
  ·rename_i π1 q
   obtain ⟨r1,st1,fz1,e1,l1,R1,k1⟩:=tr q
   cases r1 with
   | ct ρ1=>
    obtain ⟨r2,st2,fz2,e2,l2,R2,k2⟩:=Xb hi hj h (ρ:=ρ1) R1 (rs.mono l1) (fun _ _ l=>hok _ _ (l1.trans l)) e
    exact ⟨r2,st2,fz2,by unfold Yo; rw [if_pos ok0]; simp only [e1]; exact e2,l1.trans l2,R2,KeptF.trans (fun _ z=>z) (fun _ z=>z) k1 k2⟩
   | _=>exact R1.elim
  ·rename_i π1 q
   cases e
   obtain ⟨r1,st1,fz1,e1,l1,R1,k1⟩:=tr q
   cases r1 with
   | bk ρ1=>exact ⟨.nx ρ1,st1,fz1,by unfold Yo; rw [if_pos ok0]; simp only [e1],l1,R1,k1⟩
   | _=>exact R1.elim
  ·rename_i v q
   cases e
   obtain ⟨r1,st1,fz1,e1,l1,R1,k1⟩:=tr q
   cases r1 with
   | rt d'=>exact ⟨.rt d',st1,fz1,by unfold Yo; rw [if_pos ok0]; simp only [e1],l1,R1,trivial⟩
   | _=>exact R1.elim
  ·cases e
theorem RelsQ.enum {fz:Fz}{st:Za}:∀ {xs:List P}{ds:List D}{k:Nat},Rels fz st xs ds→RelsQ fz st (Xv k xs) (VC k ds)
 | _,_,_,.nil=>.nil
 | _,_,k,.cons a r=>.cons (.int _) a (RelsQ.enum r)
theorem Zhi (hF:ZX F G) {i j:Nat}{e:CE} (h:SX n0 M T f g):SX n0 M (i :: j :: T) (VH i j (ev F e) f) (QF M i j e (pe G e) g):=by
 intro π r hp fz st ρ I
 unfold QF at hp
 split at hp
 ·rename_i x q
  split at hp
  ·rename_i xs hw
   split at hp
   ·rename_i c
    rw [Bool.and_eq_true,Bool.and_eq_true] at c
    have hi:M.contains i=false:=by simpa using c.1.1
    have hj:M.contains j=false:=by simpa using c.1.2
    obtain ⟨d,st',fz',e1,n1,r1⟩:=ZE hF I q (show Zp M e _=true by unfold Zp; rw [c.2,Bool.true_or])
    cases r1 with
    | tup rr=>
     cases hw
     obtain ⟨r3,st3,fz3,e3,l3,R3,k3⟩:=Xb (ok:=fun _=>True) hi hj h (I.next n1) (RelsQ.enum rr) (fun _ _ _=>trivial) hp
     exact ⟨r3,st3,fz3,by unfold VH; rw [e1]; exact e3,(n1.later I.lo I.bd).trans l3,R3,KeptF.trans (T1:=i :: j :: T) (fun _ z=>z) (fun _ z=>z) (Next.kept I n1) k3⟩
    | @lst ja m1 _ da za sa ra=>
     cases hw
     obtain ⟨r3,st3,fz3,e3,l3,R3,k3⟩:=Xb (ok:=fun s=>s[ja]?=some (m1,da)) hi hj h (I.next n1) (RelsQ.enum ra) (fun fz2 st2 l=>(l.frz ja za).trans sa) hp
     exact ⟨r3,st3,fz3,by unfold VH ZfT; rw [e1]; simp only [sa]; exact e3,(n1.later I.lo I.bd).trans l3,R3,KeptF.trans (T1:=i :: j :: T) (fun _ z=>z) (fun _ z=>z) (Next.kept I n1) k3⟩
    | _=>cases hw
   ·cases hp
  ·cases hp
 ·cases hp
theorem Z9 (hF:ZX F G):∀ s:CS,SX n0 M (ZG s) (ex F s) (px G M s)
 | .skip=>fun π r e fz st ρ I=>by cases e; exact ⟨.nx ρ,st,fz,rfl,Later.refl,I,Kept.refl⟩
 | .brk=>fun π r e fz st ρ I=>by cases e; exact ⟨.bk ρ,st,fz,rfl,Later.refl,I,Kept.refl⟩
 | .cont=>fun π r e fz st ρ I=>by cases e; exact ⟨.ct ρ,st,fz,rfl,Later.refl,I,Kept.refl⟩
 | .stop=>fun π r e=>nomatch (show (none:Option PFl)=some r from e)
 | .app2 _ _=>fun π r e=>nomatch (show (none:Option PFl)=some r from e)
 | .set3 i j l e=>Zhk hF i j l e
 | .act e=>Zig hF e
 | .seq a b=>Zin (Z9 hF a) (Z9 hF b)
 | .ret e=>Zim hF e
 | .set i e=>Zio hF i e
 | .set2 i j e=>Zhj hF i j e
 | .app i e=>Zih hF i e
 | .ext i e=>Zii hF i e
 | .put i k e=>Zil hF i e k
 | .dput _ _ _ _=>fun _ r e=>nomatch (show (none:Option PFl)=some r from e)
 | .ite c a b=>Zik hF c (Z9 hF a) (Z9 hF b)
 | .for1 i rng it b=>Zij hF (Z9 hF b)
 | .forP _ _ _ _=>fun _ r e=>nomatch (show (none:Option PFl)=some r from e)
 | .forE i j it b=>Zhi hF (Z9 hF b)
 | .for3 i it b=>Zhh hF (Z9 hF b)
 | .for4 _ _ _ _ _=>fun _ r e=>nomatch (show (none:Option PFl)=some r from e)
 | .for2 i j it b=>Zhg hF (Z9 hF b)
 | .whl _ _=>fun _ r e=>nomatch (show (none:Option PFl)=some r from e)
end
theorem inv_start {f:FD}{ps:List P}{fz:Fz}{st:Za}{ds:List D} (c:(ZP f.body).all (fun i=>decide (ps.length≤i))=true) (b:Bd fz st) (r:Rels fz st ps ds) :
  Inv st.length (ZP f.body) fz st (ps.map some++List.replicate (f.ns - ps.length) none) (ds.map some++List.replicate (f.ns - ds.length) none):=by
 have slot:∀ (i:Nat) (q:P),(ps.map some++List.replicate (f.ns - ps.length) none:Zl)[i]?=some (some q)→i < ps.length∧ps[i]?=some q:=fun i q h=>by
  by_cases hi:i < ps.length
  ·rw [List.getElem?_append_left (by simpa using hi),List.getElem?_map] at h
   refine ⟨hi,?_⟩
   cases z:ps[i]? with
   | none=>rw [z] at h; cases h
   | some y=>rw [z] at h; cases h; rfl
  ·rw [List.getElem?_append_right (by simpa using hi),List.getElem?_replicate] at h
   split at h<;>cases h
 have noM:∀ (i:Nat),i < ps.length→(ZP f.body).contains i=false:=fun i hi=>by
  cases z:(ZP f.body).contains i with
  | false=>rfl
  | true=>
   have:=List.all_eq_true.mp c i (by simpa using z)
   have:=of_decide_eq_true this
   omega
 refine ⟨b,Nat.le_refl _,by simp [r.length],fun i q hi h=>?_,fun i q hi h=>?_,fun i i' q q' j hi hi' h h' _ _=>?_⟩
 ·obtain ⟨h1,h2⟩:=slot i q h
  obtain ⟨d,e1,r1⟩:=r.get h2
  refine ⟨d,?_,r1⟩
  rw [List.getElem?_append_left (by simpa [←r.length] using h1),List.getElem?_map,e1]
  rfl
 ·rw [noM i (slot i q h).1] at hi; cases hi
 ·rw [noM i (slot i q h).1] at hi; cases hi
theorem Zgn {F:Nat→Fn}{G:PFn} (hF:ZX F G) (f:FD) {ps:List P}{p:P} (e:fnP G f ps=some p) {fz:Fz}{st:Za}{ds:List D} (b:Bd fz st) (r:Rels fz st ps ds):Gives fz st (fnD F f ds st) p:=by
 unfold fnP at e
 split at e
 ·rename_i c
  have I:Inv st.length (ZP f.body) fz st (ps.map some++List.replicate (f.ns - ps.length) none) (ds.map some++List.replicate (f.ns - ds.length) none):=inv_start (by rw [c.1]; exact c.2) b r
  have hd:ds.length=f.ps:=by rw [←r.length]; exact c.1
  split at e
  ·rename_i d q
   cases e
   obtain ⟨r1,st1,fz1,e1,l1,R1,k1⟩:=Z9 (n0:=st.length) hF f.body _ _ q fz st _ I
   cases r1 with
   | rt d'=>exact ⟨d',st1,fz1,by unfold fnD; rw [if_pos hd,e1],⟨l1.low,l1.len,l1.sub,l1.new,R1.2⟩,R1.1⟩
   | _=>exact R1.elim
  ·rename_i π' q
   cases e
   obtain ⟨r1,st1,fz1,e1,l1,R1,k1⟩:=Z9 (n0:=st.length) hF f.body _ _ q fz st _ I
   cases r1 with
   | nx ρ'=>exact ⟨.non,st1,fz1,by unfold fnD; rw [if_pos hd,e1],⟨l1.low,l1.len,l1.sub,l1.new,R1.bd⟩,.non⟩
   | _=>exact R1.elim
  ·cases e
 ·cases e
theorem VS {T:Nat→Option FD}{n i:Nat}{f:FD} (q:T i=some f):Zv T (n+1) i=if (W1 i&&!Va f)=true then fun _=>none else fnP (Zv T n) f:=by
 show (match T i with | some f=>if (W1 i&&!Va f)=true then (fun _=>none) else fnP (Zv T n) f | none=>fun _=>none)=_
 rw [q]
theorem Zbj {T:Nat→Option FD}{n i:Nat} (q:T i=none):Zv T (n+1) i=fun _=>none:=by
 show (match T i with | some f=>if (W1 i&&!Va f)=true then (fun _=>none) else fnP (Zv T n) f | none=>fun _=>none)=_
 rw [q]
theorem Zdl {T:Nat→Option FD}{n i:Nat}{f:FD} (q:T i=some f):run T (n+1) i=fnD (run T n) f:=by
 show (match T i with | some f=>fnD (run T n) f | none=>fun _ _=>none)=_
 rw [q]
theorem Zav (T:Nat→Option FD):∀ n,ZX (run T n) (Zv T n)
 | 0=>⟨(fun i ps p e=>nomatch (show (none:Option P)=some p from e)),(fun i _ ps m xs e=>nomatch (show (none:Option P)=some (.lst m xs) from e))⟩
 | n+1=>by
  refine ⟨fun i ps p e fz st ds b r=>?_,fun i hi ps m xs e fz st ds b r=>?_⟩
  ·cases q:T i with
   | none=>rw [Zbj q] at e; cases e
   | some f=>
    rw [VS q] at e
    rw [Zdl q]
    split at e
    ·cases e
    ·exact Zgn (Zav T n) f e b r
  ·cases hi
theorem Zes {T:Nat→Option FD}{n i:Nat}{ns:List Int} (h:Zv T n i [.lst false (ns.map .int)]=some (.bl true)):∃ st',run T n i [.lst 0] [(false,ns.map .int)]=some (.bl true,st'):=by
 have r:∀ ns:List Int,Rels (fun i=>i=0) [(false,(ns.map D.int))] [] []:=fun _=>.nil
 have rs:∀ (st:Za) (ns:List Int),Rels (fun i=>i=0) st (ns.map P.int) (ns.map D.int):=fun st ns=>by
  induction ns with
  | nil=>exact .nil
  | cons a l ih=>exact .cons (.int a) ih
 obtain ⟨d,st',fz',e1,n1,r1⟩:=(Zav T n).1 i _ _ h (fun i=>i=0) [(false,ns.map D.int)] [.lst 0] (fun i hi=>by rw [hi]; exact Nat.zero_lt_one) (.cons (.lst rfl rfl (rs _ ns)) .nil)
 cases r1
 exact ⟨st',e1⟩
end Dp



namespace Dp
open PySem PySem.Spec PyProof.Rows L2
variable [ClsTab]
theorem ZiU {α:Type}:∀ {us:List α},us.length=0→us=[]
 | [],_=>rfl
theorem ZhT {α:Type}:∀ {us:List α},us.length=1→∃ a,us=[a]
 | [a],_=>⟨a,rfl⟩
theorem ZiV {α:Type}:∀ {us:List α},us.length=2→∃ a b,us=[a,b]
 | [a,b],_=>⟨a,b,rfl⟩
theorem ZiW {α:Type}:∀ {us:List α},us.length=3→∃ a b c,us=[a,b,c]
 | [a,b,c],_=>⟨a,b,c,rfl⟩
theorem ZiX {α:Type}:∀ {us:List α},us.length=4→∃ a b c d,us=[a,b,c,d]
 | [a,b,c,d],_=>⟨a,b,c,d,rfl⟩
theorem ZiY {α:Type}:∀ {us:List α},us.length=5→∃ a b c d e,us=[a,b,c,d,e]
 | [a,b,c,d,e],_=>⟨a,b,c,d,e,rfl⟩
theorem ZiZ {α:Type}:∀ {us:List α},us.length=6→∃ a b c d e f,us=[a,b,c,d,e,f]
 | [a,b,c,d,e,f],_=>⟨a,b,c,d,e,f,rfl⟩
def V5 (K:PySem.W.Frag) (G:Gs) (T:Nat→Option FD) (C:Addr):List (Str×Nat×Nat)→Prop
 | []=>True
 | (m,j,_) :: r=>(∃ y f fd pn N,MethOk K G T C m y j f fd pn N)∧V5 K G T C r
def V8 (K:PySem.W.Frag) (B:Addr):List Nat→Prop
 | []=>True
 | i :: r=>SubOk K (ClsTab.ca i) B∧V8 K B r
def Xh (Pm:Params) (K:PySem.W.Frag) (mg:Str→Option Value) (G:Gs) (T:Nat→Option FD):Gs→Prop
 | []=>True
 | (x,.cst d) :: r=>(∃ v u,mg x=some u∧RelV v u∧∀ ad H,Den K ad H v d)∧Xh Pm K mg G T r
 | (x,.blt) :: r=>mg x=none∧Xh Pm K mg G T r
 | (x,.dct ks ds) :: r=>JO Pm K mg x ks ds∧Xh Pm K mg G T r
 | (x,.fn i _ ds) :: r=>(∃ f fd pn N,DefOk K mg G T x i ds f fd pn N)∧Xh Pm K mg G T r
 | (x,.cls i ms subs) :: r=>((mg x=some (.ref (ClsTab.ca i))∧NewOk K (ClsTab.ca i)∧V8 K (ClsTab.ca i) subs)∧V5 K G T (ClsTab.ca i) ms)∧Xh Pm K mg G T r
section
variable {P:Program}{w:World}{K:PySem.W.Frag}{mg:Str→Option Value}{base:Heap}{G:Gs}{T:Nat→Option FD}
def ZfV (Pm:Params) (K:PySem.W.Frag) (mg:Str→Option Value) (G:Gs) (T:Nat→Option FD) (x:Str):GV→Prop
 | .cst d=>∃ v u,mg x=some u∧RelV v u∧∀ ad H,Den K ad H v d
 | .blt=>mg x=none
 | .dct ks ds=>JO Pm K mg x ks ds
 | .fn i _ ds=>∃ f fd pn N,DefOk K mg G T x i ds f fd pn N
 | .cls i ms subs=>(mg x=some (.ref (ClsTab.ca i))∧NewOk K (ClsTab.ca i)∧V8 K (ClsTab.ca i) subs)∧V5 K G T (ClsTab.ca i) ms
theorem YI {Pm:Params}:∀ {l:Gs}{x:Str}{g:GV},Xh Pm K mg G T l→l.lookup x=some g→ZfV Pm K mg G T x g
 | [],_,_,_,h=>by cases h
 | (y,v) :: r,x,g,a,h=>by
  have tl:Xh Pm K mg G T r∧ZfV Pm K mg G T y v:=by
   cases v with
   | cst d=>exact ⟨a.2,a.1⟩
   | blt=>exact ⟨a.2,a.1⟩
   | dct ks ds=>exact ⟨a.2,a.1⟩
   | fn i ps ds=>exact ⟨a.2,a.1⟩
   | cls i ms subs=>exact ⟨a.2,a.1⟩
  rw [List.lookup_cons] at h
  cases e:x==y with
  | true=>
   rw [e] at h
   cases h
   rw [beq_iff_eq.mp e]
   exact tl.2
  | false=>
   rw [e] at h
   exact YI tl.1 h
theorem ZaA {B:Addr}:∀ {l:List Nat},V8 K B l→∀ i,l.contains i=true→SubOk K (ClsTab.ca i) B
 | [],_,_,h=>by cases h
 | j :: r,a,i,h=>by
  rw [List.contains_cons,Bool.or_eq_true] at h
  rcases h with h | h
  ·rw [beq_iff_eq.mp h]; exact a.1
  ·exact ZaA a.2 i h
theorem Qu {C:Addr}:∀ {l:List (Str×Nat×Nat)},V5 K G T C l→∀ m j ps,l.lookup m=some (j,ps)→∃ y f fd pn N,MethOk K G T C m y j f fd pn N
 | [],_,_,_,_,h=>by cases h
 | (m',j',ps') :: r,a,m,j,ps,h=>by
  rw [List.lookup_cons] at h
  cases e:m==m' with
  | true=>
   rw [e] at h
   cases h
   rw [beq_iff_eq.mp e]
   exact a.1
  | false=>
   rw [e] at h
   exact Qu a.2 m j ps h
theorem Zfp {Pm:Params} (h:Xh Pm K mg G T G):Text Pm K mg G T:=
 ⟨fun _ _ e=>YI h e,fun _ e=>YI h e,fun _ _ _ e=>YI h e,fun _ _ _ _ e=>YI h e,fun x i ms subs e=>by
  have g:ZfV Pm K mg G T x (.cls i ms subs):=YI h e
  exact ⟨⟨g.1.1,g.1.2.1,ZaA g.1.2.2⟩,Qu g.2⟩⟩
theorem Zgh (hc:∀ n,Yz G (run T n)) (X:Text w.params K mg G T) (n:Nat) {x:Str}{i:Nat}{ds:List D}{f:Addr}{fd:FuncData}{pn N:List Str} (Dk:DefOk K mg G T x i ds f fd pn N):FnOk P w K mg base CX0 n f fd pn (spD K (run T n i)):=Zf1 hc X n Dk.ob
theorem Zhb {H:Hp}{a:Addr}{ns:List Int}{n i:Nat} (hO:Only H) (hS:SqL K H a (ns.map V.int)) (h:∃ st',run T n i [.lst 0] [(false,ns.map .int)]=some (.bl true,st')):spD K (run T n i) [.ref a] H (fun v _=>v=.bl true) fun _ _ _=>False:=by
 obtain ⟨st',e⟩:=h
 have ds:∀ ns:List Int,Dens K [a] H (ns.map V.int) (ns.map D.int):=fun ns=>by
  induction ns with
  | nil=>exact .nil
  | cons n l ih=>exact .cons (.int n) ih
 have nT:¬Yu H a:=fun ⟨kvs,q⟩=>by
  rcases hO a with z | ⟨o,xs,z⟩<;>(rw [q] at z; cases z)
 refine ⟨[a],[.lst 0],[(false,ns.map .int)],.bl true,st',⟨rfl,fun i j b c d _ _ h3 _=>?_,fun i c hc=>?_⟩,.cons (.lst ⟨rfl,nT⟩) .nil,e,fun v ad' H' x S h=>h.ofBl⟩
 ·cases i with
  | zero=>simp at h3
  | succ i=>simp at h3
 ·cases i with
  | succ i=>simp at hc
  | zero=>
   have hc:(false,ns.map D.int)=c:=by simpa using hc
   subst hc
   refine ⟨a,rfl,.l nT (ds ns) (.inr ⟨rfl,?_⟩)⟩
   rcases hS with (h | ⟨o,h⟩) | ⟨o,its,n,h1,h2,h3,h4,h5,h6⟩
   ·rcases hO a with z | ⟨o,xs,z⟩
    ·rw [h] at z; cases z
    ·rw [h] at z; cases z
   ·exact .inl ⟨o,h⟩
   ·exact .inr ⟨o,its,n,⟨h1,h2⟩,⟨h3,h4⟩,h5,h6⟩
end
noncomputable abbrev fnS (x y:Str) (s:Stmt) (dV kV dc pm:Value) (an:Option Addr) (cd ct:Value):FuncData:=PySem.W.fnOf x y (defArgs s) (defBody s) (defScope s) dV kV dc pm an cd ct
inductive FnAt (K:PySem.W.Frag) (x:Str) (s:Stmt):Prop
 | mk {f:Addr}{oc kV dc pm cd ct:Value}{od an:Option Addr}{sl:Array (Option Value)} (a:PySem.W.nsIn K mainGlobals x=some (some (.ref f))) (l:K.lookup f=some ⟨oc,od,.func (PySem.W.fnOf x x (defArgs s) (defBody s) (defScope s) .none kV dc pm an cd ct),sl⟩) (e:PySem.W.codeIn K cd x=true) (k:PySem.W.keepIn K (.ref f)=true):FnAt K x s
inductive FnAtE (K:PySem.W.Frag) (x:Str) (s:Stmt) (v:Int):Prop
 | mk {f E:Addr}{eo:Obj}{en:Nat}{et:Tok}{oc kV dc pm cd ct:Value}{od an:Option Addr}{sl:Array (Option Value)} (a:PySem.W.nsIn K mainGlobals x=some (some (.ref f))) (l:K.lookup f=some ⟨oc,od,.func (PySem.W.fnOf x x (defArgs s) (defBody s) (defScope s) (.ref E) kV dc pm an cd ct),sl⟩) (e:PySem.W.codeIn K cd x=true) (k:PySem.W.keepIn K (.ref f)=true) (d:K.lookup E=some eo) (g:eo.data=.seq #[.int v et] en):FnAtE K x s v
inductive MtAt (K:PySem.W.Frag) (C:Addr) (x y:Str) (s:Stmt):Prop
 | mk {f:Addr}{oc kV dc pm cd ct:Value}{od an:Option Addr}{sl:Array (Option Value)} (m:PySem.W.findIn K (.ref C) x=some (some (.ref f))) (l:K.lookup f=some ⟨oc,od,.func (PySem.W.fnOf x y (defArgs s) (defBody s) (defScope s) .none kV dc pm an cd ct),sl⟩) (e:PySem.W.codeIn K cd y=true) (k:PySem.W.keepIn K (.ref f)=true) (i:PySem.W.isFn K (.ref f)=true):MtAt K C x y s
structure ClsAt (K:PySem.W.Frag) (x:Str) (C:Addr):Prop where
 ya:PySem.W.nsIn K mainGlobals x=some (some (.ref C))
 yb:PySem.W.makesIn K C=true
 yc:PySem.W.findIn K (.ref C) "__init__"=some (some (.builtin "object.__init__"))
 yd:PySem.W.keepIn K (.ref C)=true
 ye:PySem.W.plainGet K C Str.empty=true
 yf:PySem.W.hasDictIn K C=true
 yg:PySem.W.plainOver K C=true
 yh:PySem.W.findIn K (.ref C) "__setattr__"=some (some (.builtin "object.__setattr__"))
 yi:PySem.W.findIn K (.ref C) "__class__"=some (some (.builtin "object.__class__"))
 yj:PySem.W.mroIn K C (.type "object")=some true
 yk:PySem.W.specialIn K (.builtin "object.__class__") "__get__"=some (some (.builtin "getset_descriptor.__get__"))
 yl:PySem.W.takesIn K (.builtin "object.__class__")=some true
abbrev ZfU (G:Gs) (s:Stmt) (N ps:List Str) (c:CS):Prop:=FnScope N ps (defScope s)∧(∀ y∈N,L2.Loc (defScope s) y)∧cSs G 60 (defScope s) N (defBody s)=some c
section
variable {K:PySem.W.Frag}{fd:FuncData}{ps:List Str}
theorem bd1 (hl:ps.length=1) (h:∀ a,bindArgs fd ⟨[a],[]⟩=pure (ps.zip [a])):Binds K fd ps []:=.all fun us e=>by obtain ⟨_,rfl⟩:=ZhT (e.trans hl); exact h _
theorem bd2 (hl:ps.length=2) (h:∀ a b,bindArgs fd ⟨[a,b],[]⟩=pure (ps.zip [a,b])):Binds K fd ps []:=.all fun us e=>by obtain ⟨_,_,rfl⟩:=ZiV (e.trans hl); exact h _ _
theorem bd3 (hl:ps.length=3) (h:∀ a b c,bindArgs fd ⟨[a,b,c],[]⟩=pure (ps.zip [a,b,c])):Binds K fd ps []:=.all fun us e=>by obtain ⟨_,_,_,rfl⟩:=ZiW (e.trans hl); exact h _ _ _
theorem bd4 (hl:ps.length=4) (h:∀ a b c d,bindArgs fd ⟨[a,b,c,d],[]⟩=pure (ps.zip [a,b,c,d])):Binds K fd ps []:=.all fun us e=>by obtain ⟨_,_,_,_,rfl⟩:=ZiX (e.trans hl); exact h _ _ _ _
theorem bd5 (hl:ps.length=5) (h:∀ a b c d k,bindArgs fd ⟨[a,b,c,d,k],[]⟩=pure (ps.zip [a,b,c,d,k])):Binds K fd ps []:=.all fun us e=>by obtain ⟨_,_,_,_,_,rfl⟩:=ZiY (e.trans hl); exact h _ _ _ _ _
theorem bd6 (hl:ps.length=6) (h:∀ a b c d k l,bindArgs fd ⟨[a,b,c,d,k,l],[]⟩=pure (ps.zip [a,b,c,d,k,l])):Binds K fd ps []:=.all fun us e=>by obtain ⟨_,_,_,_,_,_,rfl⟩:=ZiZ (e.trans hl); exact h _ _ _ _ _ _
theorem bd0 (hl:ps.length=0) (h:bindArgs fd ⟨[],[]⟩=pure []):Binds K fd ps []:=.all fun us e=>by rw [ZiU (e.trans hl),List.zip_nil_right]; exact h
end
section
variable {Pm:Params}{K:PySem.W.Frag}{mg:Str→Option Value}{G:Gs}{T:Nat→Option FD}{h:Heap}{x y:Str}{i p:Nat}{s:Stmt}{N ps:List Str}{c:CS}{r:Gs}
theorem gD (X:K.In h) (G0:h.Ns mainGlobals mg) (F:FnAt K x s) (q:ZfU G s N ps c) (hT:T i=some ⟨ps.length,N.length,c⟩) (t:Xh Pm K mg G T r) (hb:∀ kV dc pm an cd ct,Binds K (fnS x x s .none kV dc pm an cd ct) ps []:=by first | exact fun _ _ _ _ _ _=>bd1 rfl fun _=>rfl | exact fun _ _ _ _ _ _=>bd2 rfl fun _ _=>rfl | exact fun _ _ _ _ _ _=>bd3 rfl fun _ _ _=>rfl | exact fun _ _ _ _ _ _=>bd4 rfl fun _ _ _ _=>rfl | exact fun _ _ _ _ _ _=>bd5 rfl fun _ _ _ _ _=>rfl | exact fun _ _ _ _ _ _=>bd6 rfl fun _ _ _ _ _ _=>rfl | exact fun _ _ _ _ _ _=>bd0 rfl rfl):Xh Pm K mg G T ((x,.fn i p []) :: r):=by
 cases F with
 | mk a l e k=>exact ⟨⟨_,_,ps,N,.inl ⟨s,_,_,_,_,_,_,_,_,_,_,c,rfl,l,e,q.1,q.2.1,q.2.2,hT⟩,k,PySem.W.mg_of X G0 a,fun m hm=>⟨[],[],fun _ _=>by rw [List.drop_nil]; exact .nil,.nil,hb _ _ _ _ _ _⟩⟩,t⟩
theorem gH (X:K.In h) (G0:h.Ns mainGlobals mg) (F:FnAt K x s) (q:∀ {f:Addr}{oc kV dc pm cd ct:Value}{od an:Option Addr}{sl:Array (Option Value)},K.lookup f=some ⟨oc,od,.func (fnS x x s .none kV dc pm an cd ct),sl⟩→PySem.W.codeIn K cd x=true→ZaE K mg G T i f (fnS x x s .none kV dc pm an cd ct) ps) (hb:∀ kV dc pm an cd ct,Binds K (fnS x x s .none kV dc pm an cd ct) ps []) (t:Xh Pm K mg G T r):Xh Pm K mg G T ((x,.fn i p []) :: r):=by
 cases F with
 | mk a l e k=>exact ⟨⟨_,_,ps,[],.inr (q l e),k,PySem.W.mg_of X G0 a,fun m hm=>⟨[],[],fun _ _=>by rw [List.drop_nil]; exact .nil,.nil,hb _ _ _ _ _ _⟩⟩,t⟩
theorem gB (X:K.In h) (G0:h.Ns mainGlobals mg) (z:PySem.W.nsIn K mainGlobals x=some none) (t:Xh Pm K mg G T r):Xh Pm K mg G T ((x,.blt) :: r):=⟨PySem.W.mg_none_of X G0 z,t⟩
theorem gI {v:Int}{k:Tok} (X:K.In h) (G0:h.Ns mainGlobals mg) (g:PySem.W.nsIn K mainGlobals x=some (some (.int v k))) (t:Xh Pm K mg G T r):Xh Pm K mg G T ((x,.cst (.int v)) :: r):=⟨⟨.int v,_,PySem.W.mg_of X G0 g,⟨_,rfl⟩,fun _ _=>.int _⟩,t⟩
theorem gL {fa:Addr}{z:Str} (X:K.In h) (G0:h.Ns mainGlobals mg) (hfa:mg x=some (.ref fa)) (F:FnAt K x s) (q:ZfU G s N [z] c) (hT:T i=some ⟨1,N.length,c⟩) (hb:∀ kV dc pm an cd ct u,bindArgs (fnS x x s .none kV dc pm an cd ct) ⟨[u],[]⟩=pure [(z,u)]):∃ (fd:FuncData) (N:List Str),(∀ (s:Shared) (u:Value),BindsTo s fd ⟨[u],[]⟩ [(z,u)])∧DefOk K mg G T x i [] fa fd [z] N:=by
 cases F with
 | @mk f _ _ _ _ _ _ _ _ _ a l e k=>
  have e':=hfa.symm.trans (PySem.W.mg_of X G0 a)
  have e':fa=f:=by cases e'; rfl
  rw [e']
  exact ⟨_,N,fun _ u=>.of_eq (hb _ _ _ _ _ _ u),.inl ⟨s,_,_,_,_,_,_,_,_,_,_,c,rfl,l,e,q.1,q.2.1,q.2.2,hT⟩,k,PySem.W.mg_of X G0 a,fun m hm=>⟨[],[],fun _ _=>by rw [List.drop_nil]; exact .nil,.nil,.all fun us hl=>by obtain ⟨u,rfl⟩:=ZhT hl; exact hb _ _ _ _ _ _ u⟩⟩
end
omit [ClsTab] in
theorem Za8 {l:PySem.W.OpenLaw}{q:Program}{loose:List Str}{XP:(Str→Option Value)→Heap→Prop}{YP:World→Heap→Prop}{d:DefRec}{K:Params→PySem.W.Frag}{G:Gs}{T:Nat→Option FD}{n i:Nat}{x:Str}
  (hn:l.most=some 63) (hdf:d.params.defaults=[]) (hr:Room n callerA) (hY:∀ (w:World) (h:Heap),YP w h→(K w.params).In h) (hc:∀ [ClsTab] n,Yz G (run T n))
  (F:∀ (w:World) (mg:Str→Option Value) (fa:Addr) (h:Heap),(K w.params).In h→h.Ns mainGlobals mg→mg d.name=some (.ref fa)→
   ∃ _:ClsTab,Text w.params (K w.params) mg G T∧∃ (fd:FuncData) (N:List Str),(∀ (s:Shared) (u:Value),BindsTo s fd ⟨[u],[]⟩ [(x,u)])∧DefOk (K w.params) mg G T d.name i [] fa fd [x] N)
  (L:∀ ns:List Int,ns.length≤63→∃ st',run T n i [.lst 0] [(false,ns.map .int)]=some (.bl true,st')) :
  PySem.W.WalkO q loose XP YP l.row.toRowW d [] (fun f vs=>PySem.call f vs):=
 L2.walk_of (n:=63) (k:=n) (x:=x) (CX:=fun _=>CX0) (sp:=fun w vs H Q E=>∀ c:ClsTab,@spD c (K w.params) (run T n i) vs H Q E) hn (by decide) hdf hr hY
  (fun w mg fa h KX G0 hmg=>by
   obtain ⟨c,X,fd,N,hb,Dk⟩:=F w mg fa h KX G0 hmg
   refine ⟨fd,hb,fun base _ _=>?_⟩
   have fo:=Zgh (P:=l.prog) (w:=w) (base:=base) (fun n=>hc n) X n Dk
   exact ⟨fun vs H Q E z=>fo.len vs H Q E (z c),fun A outer s H args us vs Q E a1 a2 a3 a4 z=>fo.run A outer s H args us vs Q E a1 a2 a3 a4 (z c)⟩)
  (fun w H a ns hl hO hS c=>Zhb hO hS (L ns hl)) fun _ _ _ _ _ z=>z

omit [ClsTab] in
theorem ZcB {l:PySem.W.OpenLaw}{q:Program}{loose:List Str}{XP:(Str→Option Value)→Heap→Prop}{YP:World→Heap→Prop}{d:DefRec}{K:Params→PySem.W.Frag}{G:Gs}{T:Nat→Option FD}{n i:Nat}{x:Str}
  (hn:l.most=some 63) (hdf:d.params.defaults=[]) (hr:Room n callerA) (hY:∀ (w:World) (h:Heap),YP w h→(K w.params).In h) (hc:∀ [ClsTab] n,Yz G (run T n))
  (F:∀ (w:World) (mg:Str→Option Value) (fa:Addr) (h:Heap),(K w.params).In h→h.Ns mainGlobals mg→mg d.name=some (.ref fa)→
   ∃ _:ClsTab,Text w.params (K w.params) mg G T∧∃ (fd:FuncData) (N:List Str),(∀ (s:Shared) (u:Value),BindsTo s fd ⟨[u],[]⟩ [(x,u)])∧DefOk (K w.params) mg G T d.name i [] fa fd [x] N)
  (L:∀ ns:List Int,ns.length≤63→Zv T n i [.lst false (ns.map .int)]=some (.bl true)) :
  PySem.W.WalkO q loose XP YP l.row.toRowW d [] (fun f vs=>PySem.call f vs):=Za8 hn hdf hr hY hc F fun ns hl=>Zes (L ns hl)
end Dp


namespace L2
open PySem PySem.Spec PyProof.Rows
structure Xo (h:Heap) (e C dx:Addr) (t:Option Addr):Prop where
 ob:∃ sl vs,h.get? e=some ⟨.ref C,some dx,.fields vs,sl⟩∧vs.size=6∧vs[1]?=some (t.elim .none .ref)
 tb:∀ a,t=some a→a≠e∧∃ o ts,h.get? a=some o∧o.data=.fields ts∧3 < ts.size∧ts[3]?=some .none
def Kx (fs:List Addr) (e:Addr) (t:Option Addr) (h h':Heap):Prop:=
 ∀ b o,h.get? b=some o→b≠e→(∀ a,t=some a→b≠a)→(b∉fs→h'.get? b=some o)∧∃ sl,h'.get? b=some { o with slots:=sl }
theorem J1 {base h:Heap}:∀ {l:List Env},h.FunFrames base l→∀ b∈frs l,∃ o,h.get? b=some o∧∀ vs,o.data≠.fields vs
 | [],_,b,hb=>by simp [frs] at hb
 | env :: l,hf,b,hb=>by
  obtain ⟨_,⟨L,o,e1,_,e3,e4⟩,r⟩:=hf
  rw [frs,List.filterMap_cons,e1] at hb
  rcases List.mem_cons.mp hb with z | z
  ·subst z; exact ⟨o,e3,e4⟩
  ·exact J1 r b z
theorem nofr {base h:Heap}{l:List Env}{e:Addr}{o:Obj}{vs:Array Value} (hf:h.FunFrames base l) (he:h.get? e=some o) (hd:o.data=.fields vs):e∉frs l:=fun z=>by
 obtain ⟨o',e1,e2⟩:=J1 hf e z
 rw [he] at e1
 cases e1
 exact e2 vs hd
theorem Wz {h:Heap}{a:Addr}{o:Obj}{vs:Array Value}{i:Nat}{x:Value} (e:h.get? a=some o) (d:o.data=.fields vs):(h.update a (Obj.mapFields fun y=>y.setIfInBounds i x)).get? a=some { o with data:=.fields (vs.setIfInBounds i x) }:=by
 obtain ⟨c,dd,da,sl⟩:=o
 have d:da=.fields vs:=d
 subst d
 exact Heap.get?_update_self _ e rfl
section
variable {M:Model}{A:Around}{E:Value→Shared→Prop}{s:Shared}{base:Heap}{env:Env}{outer:List Env}{L e C dx:Addr}{t:Option Addr}{Q:Unit→Shared→Prop}
theorem ZgA {l:List Value}{Q:Value→Shared→Prop} (hl:l.length≤100) (h:Q (.ref s.heap.objs.size) { s with heap:=s.heap.push { cls:=.type "traceback",data:=.fields l.toArray } }):wpAny M A (newFields "traceback" l) Q E s:=by
 unfold newFields newObj
 have z:¬l.toArray.size > sizeLine+2:=by rw [List.size_toArray]; unfold sizeLine; omega
 show wpAny M A (if l.toArray.size > sizeLine+2 then _ else newObjAsIs _ _ _) Q E s
 rw [if_neg z]
 unfold newObjAsIs
 exact wpAny_bind (wpAny_alloc (wpAny_pure h))
theorem J0 {head:Value}{b:Bool} (hfr:A.frames=some (env :: outer)) (hF:s.heap.FunFrames base (env :: outer)) (hL:env.frame=some L) {sl:Array (Option Value)}{vs:Array Value} (he:s.heap.get? e=some ⟨.ref C,some dx,.fields vs,sl⟩) (hz:vs.size=6)
  (h:∀ h' a,s.heap.objs.size≤a→Xo h' e C dx (some a)→Kx (frs (env :: outer)) e none s.heap h'→Q () { s with heap:=h' }) :
  wpAny M A (do
   let a ←frameOf env
   let pl ←entryPlaceOf L b
   let b ←EntryCells.newEntry head a .none (rawInt L) .none pl
   setField (.ref e) 1 b) (fun _ s'=>wpAny M A (setFlight (.ref e) none) Q E s') E s:=by
 refine wpAny_bind (wpAny_frameOf_fun hfr hF hL fun h1 ⟨z1,z2,z3⟩=>wpAny_bind (wpAny_entryPlaceOf fun pl hp=>wpAny_bind ?_))
 have ne:e∉frs (env :: outer):=nofr hF he rfl
 have he1:h1.get? e=some ⟨.ref C,some dx,.fields vs,sl⟩:=(z2 e ne).trans he
 have hpl:5≤([head,Value.ref L,.none,rawInt L,.none]++if pl.isEmpty=true then List.replicate 6 Value.none else pl).length∧([head,Value.ref L,.none,rawInt L,.none]++if pl.isEmpty=true then List.replicate 6 Value.none else pl).length≤100:=by
  rcases hp with rfl | ⟨a,b,c,d,c9,b10,_,rfl⟩
  ·exact ⟨show 5≤11 by decide,show 11≤100 by decide⟩
  ·exact ⟨show 5≤11 by decide,show 11≤100 by decide⟩
 unfold EntryCells.newEntry
 generalize [head,Value.ref L,.none,rawInt L,.none]++(if pl.isEmpty=true then List.replicate 6 Value.none else pl)=l at hpl
 refine ZgA hpl.2 ?_
 have sz:h1.objs.size=s.heap.objs.size:=z1
 have new:s.heap.get? h1.objs.size=none:=by
  cases q:s.heap.get? h1.objs.size with
  | none=>rfl
  | some o=>
   have:=Heap.lt_size q
   rw [sz] at this
   exact absurd this (Nat.lt_irrefl _)
 have nae:h1.objs.size≠e:=fun z=>by rw [z,he] at new; cases new
 have he2:=Heap.get?_push_of_some { cls:=.type "traceback",data:=.fields l.toArray } he1
 refine wpAny_setField he2 rfl (by rw [hz]; decide) ?_
 have ht:(h1.push { cls:=.type "traceback",data:=.fields l.toArray }).get? h1.objs.size=some { cls:=.type "traceback",data:=.fields l.toArray }:=Heap.get?_push_size _ rfl
 refine wpAny_setFlight_none (e:=e) (tb:=h1.objs.size) (Wz he2 rfl) rfl (by show (vs.setIfInBounds 1 _)[1]?=_; rw [Array.getElem?_setIfInBounds]; simp [hz]) ((Heap.get?_update_other _ _ (Ne.symm nae)).trans ht) rfl (by rw [List.size_toArray]; omega) ?_
 refine h _ h1.objs.size (Nat.le_of_eq sz.symm) ⟨⟨sl,vs.setIfInBounds 1 (.ref h1.objs.size),?_,by simp [hz],by rw [Array.getElem?_setIfInBounds]; simp [hz]⟩,fun a q=>?_⟩ fun b o hb hbe hbt=>?_
 ·exact (Heap.get?_update_other _ _ nae).trans (Wz he2 rfl)
 ·cases q
  refine ⟨nae,_,_,Wz ((Heap.get?_update_other _ _ (Ne.symm nae)).trans ht) rfl,rfl,?_,?_⟩
  ·simp; omega
  ·rw [Array.getElem?_setIfInBounds]; simp; omega
 ·have hbn:b≠h1.objs.size:=fun z=>by rw [z,new] at hb; cases hb
  have go:∀ {o'},h1.get? b=some o'→(((h1.push { cls:=.type "traceback",data:=.fields l.toArray }).update e (Obj.mapFields fun x=>x.setIfInBounds 1 (.ref h1.objs.size))).update h1.objs.size (Obj.mapFields fun x=>x.setIfInBounds 3 .none)).get? b=some o':=fun q=>
   (Heap.get?_update_other _ _ (Ne.symm hbn)).trans ((Heap.get?_update_other _ _ (Ne.symm hbe)).trans (Heap.get?_push_of_some _ q))
  obtain ⟨sl',q'⟩:=z3 b o hb
  exact ⟨fun hn=>go ((z2 b hn).trans hb),sl',go q'⟩
theorem ZcN (hfr:A.frames=some (env :: outer)) (hF:s.heap.FunFrames base (env :: outer)) (hL:env.frame=some L) (x:Xo s.heap e C dx t)
  (h:∀ h' a,s.heap.objs.size≤a→Xo h' e C dx (some a)→Kx (frs (env :: outer)) e t s.heap h'→Q () { s with heap:=h' }) :
  wpAny M A (noteFrame (.ref e) env) (fun _ s'=>wpAny M A (setFlight (.ref e) none) Q E s') E s:=by
 obtain ⟨sl,vs,he,hz,h1⟩:=x.ob
 unfold noteFrame
 rw [hL]
 cases t with
 | none=>
  refine wpAny_bind (wpAny_field he rfl h1 ?_)
  rw [if_neg (by decide)]
  exact J0 hfr hF hL he hz h
 | some a=>
  obtain ⟨ae,o,ts,q1,q2,q3,q4⟩:=x.tb a rfl
  refine wpAny_bind (wpAny_field he rfl h1 ?_)
  rw [if_pos (by rfl)]
  refine wpAny_bind (wpAny_field q1 q2 q4 ?_)
  rw [if_neg (fun z=>by have:=beq_iff_eq.mp z; unfold rawInt at this; cases this)]
  refine wpAny_bind (wpAny_setField q1 q2 q3 ?_)
  have ot:∀ b,b≠a→(s.heap.update a (Obj.mapFields fun x=>x.setIfInBounds 3 .none)).get? b=s.heap.get? b:=fun b hb=>Heap.get?_update_other _ _ (Ne.symm hb)
  refine J0 (s:={ s with heap:=s.heap.update a (Obj.mapFields fun x=>x.setIfInBounds 3 .none) }) (base:=base) hfr (Heap.FunFrames.of_keeps (fun b o' hb hn=>⟨o',(ot b fun z=>?_).trans hb,rfl⟩) hF) hL ((ot e (Ne.symm ae)).trans he) hz fun h' a' n' x' k'=>h h' a' ?_ x' fun b o' hb hbe hbt=>k' b o' ((ot b (hbt a rfl)).trans hb) hbe fun _ z=>nomatch z
  ·rw [z,q1] at hb
   cases hb
   exact hn ts q2
  ·have n':(s.heap.update a (Obj.mapFields fun x=>x.setIfInBounds 3 .none)).objs.size≤a':=n'
   rw [Heap.size_update] at n'
   exact n'
theorem Zet (hfr:A.frames=some (env :: outer)) (hF:s.heap.FunFrames base (env :: outer)) (hL:env.frame=some L) (x:Xo s.heap e C dx t)
  (h:∀ h' a,s.heap.objs.size≤a→Xo h' e C dx (some a)→Kx (frs (env :: outer)) e t s.heap h'→Q () { s with heap:=h' }) :
  wpAny M A (leaving env (.ref e)) Q E s:=by
 unfold leaving
 exact wpAny_bind (ZcN hfr hF hL x h)
end
end L2


namespace L2
open PySem PySem.Spec PyProof.Rows
section
variable {prog:Program}{w:World}{A:Around}{E:Value→Shared→Prop}{h:Heap}{g:Array GenState}{d:Drawn}{t:Nat}{os:OsState}{nm q:Str}{C N fI:Addr}{bs bm bmB:List Value}{hdct:Bool}{sn:List Str}{sub:List Value}{ab:Bool}{col:Option Bool}{dd:Option Addr}{k0 k1 k2 k3 k5:Option Value}{B newId initId:String}{rest:List Value}{oI:Obj}
theorem Zfo {Q:Fin→Shared→Prop} (F:ExcBaseFacts B newId initId bmB) (T:OwnTail h bmB bm) (hC:h.get? C=some (excClassObj nm q C N bs bm hdct sn sub ab col dd k0 k1 k2 k3 k5 newId)) (hi:PySem.W.Looks (model prog w) h (typeLookup (.ref C) "__init__") (some (.ref fI))) (hf:h.get? fI=some oI) (hc:oI.cls=.type "function") (hr:rest.length≤sizeLine)
  (hq:∀ h' e,h.objs.size≤e→h.MadeExcOf h' e (.ref C) rest→wpAny (model prog w) A (call (.ref fI) (.ref e :: rest)) (fun r s'=>r=.none∧Q (.done (.ret (.ref e))) s') E ⟨h',g,d,t,os⟩) :
  wpAny (model prog w) A (Builtin.«type.__call__» { pos:=.ref C :: rest }) Q E ⟨h,g,d,t,os⟩:=by
 unfold Builtin.«type.__call__»
 simp only
 have n1:¬(Value.ref C==Value.type "type")=true:=fun z=>nomatch beq_iff_eq.mp z
 rw [if_neg n1]
 refine wpAny_bind (wpAny_mroOf_exc hC ?_)
 rw [if_neg (by simp)]
 refine wpAny_bind (wpAny_madeBy_exc hC (wpAny_bind (wpAny_pure (wpAny_bind (wpAny_holding (wpAny_call (codeAny_call_builtin_code (Code.quiet_builtin _ F.quiet) (wpAny_check_new_subT F T hC (codeAny_exc_new_subT F T hC ?_ hr)))))))))
 have hh:∀ b o,h.get? b=some o→((h.push { cls:=.type "tuple",data:=.seq rest.toArray }).push { cls:=.ref C,data:=.fields #[.ref h.objs.size,.none,.none,.none,.bool false,.none] }).get? b=some o:=fun b o z=>Heap.get?_push_of_some _ (Heap.get?_push_of_some _ z)
 have hn:∀ a,h.objs.size≤a→h.get? a=none:=fun a ha=>by
  cases z:h.get? a with
  | none=>rfl
  | some o=>exact absurd (Heap.lt_size z) (Nat.not_lt.mpr ha)
 have hs:(h.push { cls:=.type "tuple",data:=.seq rest.toArray }).objs.size=h.objs.size+1:=Heap.size_push _ _
 have he:((h.push { cls:=.type "tuple",data:=.seq rest.toArray }).push { cls:=.ref C,data:=.fields #[.ref h.objs.size,.none,.none,.none,.bool false,.none] }).get? (h.objs.size+1)=some { cls:=.ref C,data:=.fields #[.ref h.objs.size,.none,.none,.none,.bool false,.none] }:=Heap.get?_push_at hs.symm rfl
 have hm:h.MadeExcOf ((h.push { cls:=.type "tuple",data:=.seq rest.toArray }).push { cls:=.ref C,data:=.fields #[.ref h.objs.size,.none,.none,.none,.bool false,.none] }) (h.objs.size+1) (.ref C) rest:=⟨hh,hn _ (Nat.le_succ _),h.objs.size,he,hn _ (Nat.le_refl _),Heap.get?_push_of_some _ (Heap.get?_push_size _ rfl)⟩
 have hC1:=hh C _ hC
 generalize hg:(h.push { cls:=.type "tuple",data:=.seq rest.toArray }).push { cls:=.ref C,data:=.fields #[.ref h.objs.size,.none,.none,.none,.bool false,.none] }=h2 at *
 refine wpAny_bind ?_
 unfold isInstance typeOf
 refine wpAny_bind (wpAny_bind (wpAny_loadPart_at he (wpAny_pure (wpAny_isSubtype_exc hC1 ?_))))
 rw [show (Value.ref C :: bm).contains (.ref C)=true by simp]
 rw [if_neg (by decide)]
 refine wpAny_bind (wpAny_holding ?_)
 unfold callSpecial? specialOf typeOf
 refine wpAny_bind (wpAny_bind (wpAny_bind (wpAny_loadPart_at he (wpAny_pure (hi _ _ _ _ hh ?_)))))
 refine wpAny_holding (wpAny_bind (wpAny_bindSpecial_def (hh fI _ hf) hc (wpAny_bind ?_)))
 refine wpAny_mono (hq h2 (h.objs.size+1) (Nat.le_succ _) hm) (fun r s' ⟨q1,q2⟩=>?_) fun _ _ z=>z
 subst q1
 exact wpAny_pure (wpAny_pure q2)
theorem Zgd {Q:Value→Shared→Prop} (F:ExcBaseFacts B newId initId bmB) (T:OwnTail h bmB bm) (hC:h.get? C=some (excClassObj nm q C N bs bm hdct sn sub ab col dd k0 k1 k2 k3 k5 newId)) (hi:PySem.W.Looks (model prog w) h (typeLookup (.ref C) "__init__") (some (.ref fI))) (hf:h.get? fI=some oI) (hc:oI.cls=.type "function") (hr:rest.length≤sizeLine)
  (hq:∀ h' e,h.objs.size≤e→h.MadeExcOf h' e (.ref C) rest→wpAny (model prog w) (A.under (Code.builtin "type.__call__" { pos:=.ref C :: rest })) (call (.ref fI) (.ref e :: rest)) (fun r s'=>r=.none∧Q (.ref e) s') E ⟨h',g,d,t,os⟩) :
  wpAny (model prog w) A (call (.ref C) rest) Q E ⟨h,g,d,t,os⟩:=by
 refine wpAny_call (codeAny_of_tree (wpAny_bind (wpAny_load' hC ?_)))
 refine wpAny_bind (wpAny_specialOf ⟨_,hC,rfl⟩ tc_lookup (wpAny_bind (wpAny_of_eq (tc_bind (.ref C)) (wpAny_bind (wpAny_pure ?_)))))
 refine wpAny_ite_true (by rfl) (wpAny_pure ⟨rfl,codeAny_call_builtin_at (Code.quiet_builtin _ (by decide +kernel)) entry_typeCall (wpAny_check_type_call_sub hC (Zfo F T hC hi hf hc hr fun h' e hz hm=>hq h' e hz hm))⟩)
end
end L2


namespace L2
open PySem PySem.Spec PyProof.Rows
section
variable {prog:Program}{w:World}{A:Around}{E:Value→Shared→Prop}{h:Heap}{g:Array GenState}{d:Drawn}{t:Nat}{os:OsState}{nm q:Str}{C H0 N e:Addr}{bs bm bmB:List Value}{sn:List Str}{sub:List Value}{ab:Bool}{col:Option Bool}{dd:Option Addr}{k0 k1 k2 k3 k5:Option Value}{B newId sa owner:String}{vs:Array Value}{name:Str}{v:Value}{tk:Tok}
theorem QL {self:Value}{what:Str}{P:Heap} (T:OwnTail P bmB bm) (h:refuseLoop self what bmB=pure ()):refuseLoop self what bm=pure ():=by
 induction T with
 | base=>exact h
 | own _ _ _ _ ih=>rw [refuseLoop_ref]; exact ih
theorem Zfl {Q:Fin→Shared→Prop} (SF:StoreFacts B bmB sa owner) (T:OwnTail h bmB bm) (hC:h.get? C=some (excClassObj nm q C N bs bm true sn sub ab col dd k0 k1 k2 k3 k5 newId)) (hl:PySem.W.Looks (model prog w) h (typeLookup (.ref C) name) none) (he:h.get? e=some { cls:=.ref C,data:=.fields vs })
  (hq:∀ h' tk',h'.get? e=some ⟨.ref C,some h.objs.size,.fields vs,#[]⟩→h'.Ns1 h.objs.size (fun y=>if y=name then some v else none)→(∀ b o,b≠e→h.get? b=some o→h'.get? b=some o)→Q (.done (.ret .none)) ⟨h',g,d,tk',os⟩) :
  wpAny (model prog w) A (Builtin.«object.__setattr__» { pos:=[.ref e,.str name tk,v] }) Q E ⟨h,g,d,t,os⟩:=by
 unfold Builtin.«object.__setattr__»
 simp only
 rw [if_neg (by decide),refuse_eq]
 have n1:¬(Value.ref C==Value.type "module")=true:=fun z=>nomatch beq_iff_eq.mp z
 unfold typeOf
 refine wpAny_bind (wpAny_bind (wpAny_bind (wpAny_loadPart_at he (wpAny_pure (wpAny_bind (wpAny_mroOf_exc hC ?_))))))
 rw [refuseLoop_ref,QL T (SF.passes _)]
 refine wpAny_pure ?_
 unfold Builtin.ObjectAttr.attrName
 refine wpAny_bind (wpAny_pure (wpAny_bind (wpAny_bind (wpAny_loadPart_at he (wpAny_pure (wpAny_bind (hl _ _ _ _ (fun _ _ z=>z) ?_)))))))
 unfold Builtin.ObjectAttr.storeTaker?
 refine wpAny_bind (wpAny_pure ?_)
 unfold Builtin.ObjectAttr.storeInOwnDict ownStreamTells
 refine wpAny_bind (wpAny_pure ?_)
 rw [if_neg n1]
 unfold Builtin.ObjectAttr.ownDictForStores instanceDict
 refine wpAny_bind (wpAny_bind (wpAny_loadPart_at he ?_))
 simp only
 unfold classData
 refine wpAny_bind (wpAny_bind (wpAny_load' hC (wpAny_pure ?_)))
 rw [if_neg (show ¬(!true)=true from Bool.false_ne_true)]
 show wpAny _ _ (if (!true||!typeHasDict (.ref C))=true then pure none else _) _ _ _
 rw [if_neg (show ¬(!true||!typeHasDict (.ref C))=true from Bool.false_ne_true)]
 refine wpAny_bind (wpAny_alloc ?_)
 have hn:∀ a,h.objs.size≤a→h.get? a=none:=fun a ha=>by
  cases z:h.get? a with
  | none=>rfl
  | some o=>exact absurd (Heap.lt_size z) (Nat.not_lt.mpr ha)
 have ne:e≠h.objs.size:=fun z=>by rw [z,hn _ (Nat.le_refl _)] at he; cases he
 have he1:=Heap.get?_push_of_some { cls:=.type "dict",data:=.dict #[] } he
 have hd1:(h.push { cls:=.type "dict",data:=.dict #[] }).get? h.objs.size=some { cls:=.type "dict",data:=.dict #[] }:=Heap.get?_push_size _ rfl
 refine wpAny_bind (wpAny_update' he1 (wpAny_pure ?_))
 have he2:((h.push { cls:=.type "dict",data:=.dict #[] }).update e fun o=>{ o with dict:=some h.objs.size }).get? e=some ⟨.ref C,some h.objs.size,.fields vs,#[]⟩:=Heap.get?_update_self _ he1 rfl
 have hd2:((h.push { cls:=.type "dict",data:=.dict #[] }).update e fun o=>{ o with dict:=some h.objs.size }).get? h.objs.size=some { cls:=.type "dict",data:=.dict #[] }:=(Heap.get?_update_other _ _ ne).trans hd1
 have kp2:∀ b o,b≠e→h.get? b=some o→((h.push { cls:=.type "dict",data:=.dict #[] }).update e fun o=>{ o with dict:=some h.objs.size }).get? b=some o:=fun b o hb z=>(Heap.get?_update_other _ _ (Ne.symm hb)).trans (Heap.get?_push_of_some _ z)
 unfold Builtin.ObjectAttr.storeInDict Builtin.ObjectAttr.newKeyGuard
 refine wpAny_bind (wpAny_pure (wpAny_bind (wpAny_nsSet1 (m:=fun _=>none) (Heap.Ns1.of_empty ?_) fun h' n' sb=>?_)))
 ·exact ⟨_,#[],0,hd2,rfl,by simp [StrKeys],by intro; rfl⟩
 ·obtain ⟨o,es,ep,o1,o2,o3⟩:=Heap.Ns1.count (ns:=[name]) n' (fun y hy=>by
   by_cases z:y=name
   ·simp [z]
   ·rw [if_neg z] at hy; exact absurd rfl hy)
  refine wpAny_bind (wpAny_lookBehind o1 ?_ (wpAny_pure (hq h' _ ?_ n' fun b o hb z=>?_)))
  ·rw [o2]
   show (if es.size > sizeLine+1 then some "dict:memory" else none)=none
   rw [if_neg (by unfold sizeLine; simp at o3; omega)]
  ·exact (sb.2 e ne).trans he2
  ·exact (sb.2 b fun y=>by rw [y,hn _ (Nat.le_refl _)] at z; cases z).trans (kp2 b o hb z)
end
end L2


namespace L2
open PySem PySem.Spec PyProof.Rows
section
variable {prog:Program}{w:World}{A:Around}{E:Value→Shared→Prop}{h:Heap}{g:Array GenState}{d:Drawn}{t:Nat}{os:OsState}{nm q:Str}{C H0 N e:Addr}{bs bm bmB:List Value}{sn:List Str}{sub:List Value}{ab:Bool}{col:Option Bool}{dd:Option Addr}{k0 k1 k2 k3 k5:Option Value}{B newId sa owner:String}{vs:Array Value}{name:Str}{v:Value}{tk:Tok}{K:PySem.W.Frag}
theorem QX {P:Heap}{x:Value} (T:OwnTail P bmB bm) (h:bmB.contains x=true):bm.contains x=true:=by
 induction T with
 | base=>exact h
 | own _ _ _ _ ih=>rw [List.contains_cons,ih,Bool.or_true]
theorem ZdX {M:Model}{o:Obj}{nv:Value}{Q:Unit→Shared→Prop} (SF:StoreFacts B bmB sa owner) (T:OwnTail h bmB bm) (hC:h.get? C=some (excClassObj nm q C N bs bm true sn sub ab col dd k0 k1 k2 k3 k5 newId)) (he:h.get? e=some o) (hc:o.cls=.ref C) (hq:Q () ⟨h,g,d,t,os⟩) :
  wpAny M A (checkBuiltinCall sa { pos:=[.ref e,nv,v] }) Q E ⟨h,g,d,t,os⟩:=by
 have ha:=SF.args (.ref e) nv v
 unfold checkBuiltinCall
 rw [SF.kind,SF.split]
 simp only
 unfold isInstance typeOf
 refine wpAny_bind (wpAny_bind (wpAny_bind (wpAny_loadPart_at he (wpAny_pure ?_))))
 rw [hc]
 refine wpAny_isSubtype_exc hC ?_
 rw [show (Value.ref C :: bm).contains (.type owner)=true by rw [List.contains_cons,QX T SF.hasOwner,Bool.or_true]]
 rw [if_neg (by decide)]
 unfold argsOk at ha
 cases z:Manifest.signature? sa with
 | none=>exact wpAny_pure hq
 | some sig=>
  rw [z] at ha
  exact wpAny_of_eq ha hq
theorem Zfj {R:Result→Shared→Prop} (SF:StoreFacts B bmB sa owner) (T:OwnTail h bmB bm) (hC:h.get? C=some (excClassObj nm q C N bs bm true sn sub ab col dd k0 k1 k2 k3 k5 newId)) (hl:PySem.W.Looks (model prog w) h (typeLookup (.ref C) name) none) (he:h.get? e=some { cls:=.ref C,data:=.fields vs })
  (hq:∀ h' tk',h'.get? e=some ⟨.ref C,some h.objs.size,.fields vs,#[]⟩→h'.Ns1 h.objs.size (fun y=>if y=name then some v else none)→(∀ b o,b≠e→h.get? b=some o→h'.get? b=some o)→R (.ok (.ret .none)) ⟨h',g,d,tk',os⟩) :
  codeAny (model prog w) A (Code.call (.builtin sa) { pos:=[.ref e,.str name tk,v] }) R ⟨h,g,d,t,os⟩:=
 codeAny_call_builtin SF.slot.plain SF.entry (ZdX SF T hC he rfl (Zfl SF T hC hl he hq))
theorem Zbo {Q:Unit→Shared→Prop} (KX:K.In h) (SF:StoreFacts B bmB "object.__setattr__" owner) (T:OwnTail h bmB bm) (hC:h.get? C=some (excClassObj nm q C N bs bm true sn sub ab col dd k0 k1 k2 k3 k5 newId)) (hs:PySem.W.findIn K (.ref C) "__setattr__"=some (some (.builtin "object.__setattr__"))) (hl:PySem.W.findIn K (.ref C) name=some none) (he:h.get? e=some { cls:=.ref C,data:=.fields vs })
  (hq:∀ h' tk',h'.get? e=some ⟨.ref C,some h.objs.size,.fields vs,#[]⟩→h'.Ns1 h.objs.size (fun y=>if y=name then some v else none)→(∀ b o,b≠e→h.get? b=some o→h'.get? b=some o)→Q () ⟨h',g,d,tk',os⟩) :
  wpAny (model prog w) A (setAttr (.ref e) name v) Q E ⟨h,g,d,t,os⟩:=
 PySem.W.set_plain (od:=none) KX ⟨he,rfl,rfl,trivial⟩ hs (Zfj SF T hC (PySem.W.looks_findIn KX hl) he hq)
end
end L2


namespace L2
open PySem PySem.Spec PyProof.Rows
def fX (C e dx:Addr):Heap→Prop:=fun h=>∃ sl vs,h.get? e=some ⟨.ref C,some dx,.fields vs,sl⟩∧vs.size=6
theorem ZfC {P:Program}{w:World}{H:Hp}{h:Heap}{C e dx:Addr} (x:fX C e dx h):ObjOk P w H h e (.ext (fX C e dx)):=
 ⟨x,let ⟨_,_,q,_⟩:=x; ⟨_,q⟩,fun _ _ ⟨sl,vs,q,z⟩ k=>⟨sl,vs,k _ q,z⟩⟩
theorem Xo.f {h:Heap}{e C dx:Addr}{t:Option Addr} (x:Xo h e C dx t):fX C e dx h:=let ⟨sl,vs,q,z,_⟩:=x.ob; ⟨sl,vs,q,z⟩
noncomputable def CX1 (P:Program) (w:World):CXT:=fun outer H s E e s'=>∃ (ea C dx:Addr) (t:Option Addr) (H':Hp),e=.ref ea∧(s'.os=s.os∧AllBare s'.gens∧Un (frs outer) [] H H' s.heap s'.heap∧HOk P w H' s'.heap) ∧
 (Xo s'.heap ea C dx t∧H' ea=some (.ext (fX C ea dx))∧s.heap.objs.size≤ea∧∀ a,t=some a→H' a=none∧s.heap.objs.size≤a)∧E (.ref C) (some dx) H'
def XS (X:Cx) (pins:List (Addr×Obj)) (σ:St) (E:XK) (e:Value) (s':Shared):Prop:=∃ (ea C dx:Addr) (t:Option Addr) (H':Hp),e=.ref ea∧Inv X pins σ H' s' ∧
 (Xo s'.heap ea C dx t∧H' ea=some (.ext (fX C ea dx))∧X.s₀.heap.objs.size≤ea∧∀ a,t=some a→H' a=none∧X.s₀.heap.objs.size≤a∧a≠X.env.locals)∧E (.ref C) (some dx) H'
section
variable {X:Cx}{pins:List (Addr×Obj)}{σ:St}{H H':Hp}{s s':Shared}{E:XK}{e:Value}
theorem ZfG {P:Program}{w:World}{h h':Heap}{C e dx:Addr} (ok:HOk P w H h) (he:H e=some (.ext (fX C e dx))) (x:fX C e dx h') (k:∀ b o u,b≠e→H b=some u→h.get? b=some o→h'.get? b=some o):HOk P w H h':=fun b u q=>by
 by_cases z:b=e
 ·subst z
  rw [he] at q
  cases q
  exact ZfC x
 ·exact (ok b u q).stay (fun c v hc q'=>by
   rcases hc with hc | hc
   ·rw [hc] at q' ⊢; exact k b v u z q q'
   ·exact k c v _ (fun y=>by rw [y,he] at hc; cases hc) hc q') (fun _ z=>z) fun _ _ z=>z
theorem ZdG {P:Program}{w:World}{K:PySem.W.Frag}{mg:Str→Option Value}{base:Heap}{N:List Str}{qual:Str}{scope:Scope}{f:Addr}{cd:Value}{A:Around}{outer:List Env}
  (h:XS (cxOf (CX1 P w) P w K mg base N qual scope f cd A outer s H E) pins σ E e s'):(cxOf (CX1 P w) P w K mg base N qual scope f cd A outer s H E).xe e s':=by
 obtain ⟨ea,C,dx,t,H',rfl,I,⟨x,n1,z1,tt⟩,q⟩:=h
 refine Zet (base:=base) (outer:=outer) (L:=s.heap.objs.size) I.ok.frames I.stack rfl x fun h' a na x' k=>?_
 have far:∀ b o,s.heap.get? b=some o→b≠ea∧(∀ a,t=some a→b≠a)∧b≠s.heap.objs.size:=fun b o hb=>by
  have:=Heap.lt_size hb
  exact ⟨fun z=>absurd (Nat.lt_of_lt_of_le this z1) (z ▸ Nat.lt_irrefl _),fun a ha z=>absurd (Nat.lt_of_lt_of_le this (tt a ha).2.1) (z ▸ Nat.lt_irrefl _),Nat.ne_of_lt this⟩
 have bs:Un (frs outer) [] H H' s.heap s'.heap:=I.base
 have kk:∀ b o,s'.heap.get? b=some o→b≠ea→H' b≠none→h'.get? b=some o:=fun b o hb he hn=>(k b o hb he (fun a ha z=>hn (z ▸ (tt a ha).1))).1 fun z=>hn (I.stkFree b z)
 refine ⟨ea,C,dx,some a,H',rfl,⟨I.os,I.bare,⟨fun b o hb hn hf _=>?_,fun b o hb hn hf _=>?_,bs.free,fun b o hb _=>?_,bs.tups,bs.frzs,bs.tbls⟩,ZfG I.hok n1 x'.f fun b o u hn hu hb=>kk b o hb hn (by rw [hu]; exact fun z=>nomatch z)⟩,⟨x',n1,z1,fun b hb=>?_⟩,q⟩
 ·obtain ⟨f1,f2,f3⟩:=far b o hb
  refine (k b o (bs.keep b o hb hn hf (by simp)) f1 f2).1 fun z=>?_
  rcases List.mem_cons.mp (show b∈s.heap.objs.size :: frs outer from z) with z | z
  ·exact f3 z
  ·exact hf z
 ·obtain ⟨f1,f2,f3⟩:=far b o hb
  obtain ⟨sl,e1⟩:=bs.slot b o hb hn hf (by simp)
  obtain ⟨sl',e2⟩:=(k b _ e1 f1 f2).2
  exact ⟨sl',e2⟩
 ·obtain ⟨f1,f2,f3⟩:=far b o hb
  obtain ⟨o',e1⟩:=bs.there b o hb (by simp)
  obtain ⟨sl',e2⟩:=(k b _ e1 f1 f2).2
  exact ⟨_,e2⟩
 ·cases hb
  exact ⟨I.hok.fresh na,Nat.le_trans I.sz na⟩
end
end L2


namespace L2
open PySem PySem.Spec PyProof.Rows
section
variable {M:Model}{A:Around}{E:Value→Shared→Prop}{env:Env}{nm q:Str}{C N:Addr}{bs bm:List Value}{hdct:Bool}{sn:List Str}{sub:List Value}{ab:Bool}{col:Option Bool}{dd:Option Addr}{k0 k1 k2 k3 k5:Option Value}{newId:String}{s:Shared}{x:Sem Value}{Q:Flow→Shared→Prop}
theorem ZeS (hb:bm.contains (.type "BaseException")=true) (hh:A.handled=none) (h:wpAny M A x (fun v s1=>∃ e oe vs,v=.ref e∧s1.heap.get? C=some (excClassObj nm q C N bs bm hdct sn sub ab col dd k0 k1 k2 k3 k5 newId)∧s1.heap.get? e=some oe∧oe.cls=.ref C∧oe.data=.fields vs∧vs[1]?=some .none∧E (.ref e) s1) E s) :
  wpAny M A (raiseStmt env (some x) none) Q E s:=by
 have hcB:(Value.ref C :: bm).contains (.type "BaseException")=true:=by rw [List.contains_cons,hb,Bool.or_true]
 unfold raiseStmt
 refine wpAny_bind (wpAny_mono h (fun v s1 ⟨e,oe,vs,ev,hC,he,hc,hd,h1,hE⟩=>?_) fun _ _ z=>z)
 subst ev
 obtain ⟨hp,g,d,tk,os⟩:=s1
 refine wpAny_bind (wpAny_pure (wpAny_bind (wpAny_holding ?_)))
 obtain ⟨c0,di,da,sl⟩:=oe
 have hc:c0=.ref C:=hc
 have hd:da=.fields vs:=hd
 subst hc
 subst hd
 unfold excFromValue isExcClass isType loadHead
 refine wpAny_bind (wpAny_bind (wpAny_bind (wpAny_loadPart_at he (wpAny_pure (wpAny_ite_false rfl (wpAny_pure (wpAny_ite_false rfl ?_)))))))
 unfold isInstance typeOf
 refine wpAny_bind (wpAny_bind (wpAny_bind (wpAny_loadPart_at he (wpAny_pure (wpAny_isSubtype_exc hC ?_)))))
 rw [hcB,if_pos rfl]
 refine wpAny_pure (wpAny_bind (wpAny_bind (wpAny_loadPart_at he (wpAny_pure (wpAny_ite_false rfl ?_)))))
 unfold raisedInstance typeOf
 refine wpAny_bind (wpAny_bind (wpAny_bind (wpAny_loadPart_at he (wpAny_pure (wpAny_bind (wpAny_bind (wpAny_loadPart_at hC (wpAny_pure (wpAny_ite_true rfl ?_)))))))))
 refine wpAny_pure ?_
 unfold setFlight
 refine wpAny_bind (wpAny_bind (wpAny_field he rfl h1 (wpAny_ite_false rfl (wpAny_pure ?_))))
 exact wpAny_raiseNew_none hh hE

end
end L2


namespace L2
open PySem PySem.Spec PyProof.Rows
structure XCls (K:PySem.W.Frag) (C fI:Addr) (f:Str):Prop where
 cl:∃ nm q N bs bm sn sub ab col dd k0 k1 k2 k3 k5 newId B initId bmB owner,K.lookup C=some (excClassObj nm q C N bs bm true sn sub ab col dd k0 k1 k2 k3 k5 newId)∧(∀ h:Heap,K.In h→OwnTail h bmB bm)∧ExcBaseFacts B newId initId bmB∧StoreFacts B bmB "object.__setattr__" owner
 sa:PySem.W.findIn K (.ref C) "__setattr__"=some (some (.builtin "object.__setattr__"))
 na:PySem.W.findIn K (.ref C) f=some none
 ini:PySem.W.findIn K (.ref C) "__init__"=some (some (.ref fI))
 fn:∃ o,K.lookup fI=some o∧o.cls=.type "function"
 kp:PySem.W.keepIn K (.ref C)=true
def f0 (C e:Addr) (vs:Array Value):Heap→Prop:=fun h=>h.get? e=some { cls:=.ref C,data:=.fields vs }
theorem ZhK {P:Program}{w:World}{H:Hp}{h:Heap}{C e:Addr}{vs:Array Value} (x:f0 C e vs h):ObjOk P w H h e (.ext (f0 C e vs)):=⟨x,⟨_,x⟩,fun _ _ q k=>k _ q⟩
def New (H:Hp) (C e:Addr):Prop:=∃ vs,vs.size=6∧vs[1]?=some Value.none∧H e=some (.ext (f0 C e vs))
section
variable {X:Cx}{pins:List (Addr×Obj)}{σ:St}{H:Hp}{s:Shared}{e C fI:Addr}{f:Str}{y:V}{u:Value}{A:Around}{E:Value→Shared→Prop}
def f1 (C e dx:Addr):Heap→Prop:=fun h=>Xo h e C dx none
theorem ZhL {P:Program}{w:World}{H:Hp}{h:Heap}{C e dx:Addr} (x:f1 C e dx h):ObjOk P w H h e (.ext (f1 C e dx)):=
 ⟨x,let ⟨_,_,q,_⟩:=x.ob; ⟨_,q⟩,fun _ _ ⟨⟨sl,vs,q,z⟩,r⟩ k=>⟨⟨sl,vs,k _ q,z⟩,fun _ z=>nomatch z⟩⟩
noncomputable def Yh (H:Hp) (C e dx:Addr) (f:Str) (y:V):Hp:=upd (upd H dx (.xd [(f,y)])) e (.ext (f1 C e dx))
theorem QR {Q:Unit→Shared→Prop} (c:XCls X.K C fI f) (I:Inv X pins σ H s) (n:New H C e) (ry:RelV y u) (h:∀ dx s',H dx=none→dx≠e→Inv X pins σ (Yh H C e dx f y) s'→Q () s') :
  wpAny (model X.prog X.w) A (setAttr (.ref e) f u) Q E s:=by
 obtain ⟨vs,z6,z1,he⟩:=n
 obtain ⟨nm,q,N,bs,bm,sn,sub,ab,col,dd,k0,k1,k2,k3,k5,newId,B,initId,bmB,owner,lk,T,F,SF⟩:=c.cl
 have ob:f0 C e vs s.heap:=(show ObjOk X.prog X.w H s.heap e (.ext (f0 C e vs)) from I.hok e _ he).1
 obtain ⟨hp,g,d,tk,os⟩:=s
 have hd:H hp.objs.size=none:=I.hok.fresh (Nat.le_refl _)
 have ne:hp.objs.size≠e:=fun z=>by rw [z,he] at hd; cases hd
 refine Zbo (K:=X.K) I.kIn SF (T _ I.kIn) (I.kIn _ _ lk) c.sa c.na ob fun h' tk' e1 e2 k=>h hp.objs.size _ hd ne ?_
 have kd:∀ b o,b≠e→hp.get? b=some o→h'.get? b=some o:=k
 have un:Un X.fs [] H (Yh H C e hp.objs.size f y) hp h':=by
  have w1:∀ b,H b=none→b < hp.objs.size→Yh H C e hp.objs.size f y b=none:=fun b hb lt=>by
   unfold Yh
   rw [upd_ne (fun z=>by rw [z,he] at hb; cases hb),upd_ne (Nat.ne_of_lt lt)]; exact hb
  have w2:∀ b v,H b=some v→b≠e→Yh H C e hp.objs.size f y b=some v:=fun b v hb hn=>by
   unfold Yh
   rw [upd_ne hn,upd_ne (ne_of_none hb hd)]; exact hb
  have w3:∀ b v,H b=some v→(∀ φ,v≠.ext φ)→b≠e:=fun b v hb hv z=>by
   rw [z,he] at hb; cases hb; exact hv _ rfl
  have w4:∀ b o,hp.get? b=some o→H b=none→b≠e:=fun b o _ hb z=>by rw [z,he] at hb; cases hb
  refine ⟨fun b o hb hn _ _=>kd b o (w4 b o hb hn) hb,fun b o hb hn _ _=>⟨o.slots,kd b o (w4 b o hb hn) hb⟩,fun b o hb hn _=>w1 b hn (Heap.lt_size hb),fun b o hb _=>?_,fun b xs hb=>w2 b _ hb (w3 b _ hb fun _ z=>nomatch z),fun b o u hb=>w2 b _ hb (w3 b _ hb fun _ z=>nomatch z),fun b ps hb=>⟨#[],by rw [w2 b _ hb (w3 b _ hb fun _ z=>nomatch z)]; simp⟩⟩
  by_cases z:b=e
  ·rw [z]; exact ⟨_,e1⟩
  ·exact ⟨o,kd b o z hb⟩
 refine I.un un fun b v hb=>?_
 by_cases z:b=e
 ·subst z
  unfold Yh at hb
  rw [upd_same] at hb
  cases hb
  exact ZhL ⟨⟨#[],vs,e1,z6,z1⟩,fun _ z=>nomatch z⟩
 ·by_cases z2:b=hp.objs.size
  ·subst z2
   unfold Yh at hb
   rw [upd_ne z,upd_same] at hb
   cases hb
   refine ⟨_,e2,fun g=>?_⟩
   by_cases q:g=f
   ·rw [if_pos q,q]
    show RelO (List.lookup f [(f,y)]) (some u)
    rw [List.lookup_cons,beq_self_eq_true]
    exact ry
   ·rw [if_neg q]
    show RelO (List.lookup g [(f,y)]) none
    rw [List.lookup_cons,beq_eq_false_iff_ne.mpr q]
    exact True.intro
  ·have hb':H b=some v:=by unfold Yh at hb; rw [upd_ne z,upd_ne z2] at hb; exact hb
   refine (I.hok b v hb').stay (fun c o hc q=>kd c o ?_ q) (fun c q=>?_) fun c xs q=>?_
   ·rcases hc with hc | hc
    ·rw [hc]; exact z
    ·exact fun y=>by rw [y,he] at hc; cases hc
   ·unfold Yh
    rw [upd_ne (fun y=>by rw [y,he] at q; cases q),upd_ne (ne_of_none q hd)]; exact q
   ·unfold Yh
    rw [upd_ne (fun y=>by rw [y,he] at q; cases q),upd_ne (ne_of_none q hd)]; exact q
variable {o value:Expr}{pos pos' p:Pos}{ta tv:TE}{x:Str}{CX:CXT}{k:Nat}{fd:FuncData}{ps:List Str}{E':XK}{t:TA}{arg:Expr}
noncomputable def sX (C:Addr) (f:Str) (ta tv:TE):TS:=fun D σ H=>tv σ H fun y H1=>ta σ H1 fun x H2=>∃ e,x=.ref e∧New H2 C e∧∀ dx,H2 dx=none→dx≠e→D.nx σ (Yh H2 C e dx f y)
theorem Zi7 (c:XCls X.K C fI f) (ha:PE X o ta) (hv:PE X value tv) (hs:swapsWith value (some (.Attribute o f pos')) pos.line X.env=pure false):PS X (.Assign [.Attribute o f pos'] value pos) (sX C f ta tv):=by
 intro pins s σ H D I h
 refine plainObj_wpAny_Assign_Attribute (thn (hv pins s σ H _ I h) fun u s1 ⟨y,H1,I1,ry,q⟩=>thn (ha pins s1 σ H1 _ I1 q) fun ov s2 ⟨x,H2,I2,rx,e,ex,n,q2⟩=>?_) hs
 subst ex
 obtain rfl:ov=Value.ref e:=rx
 exact QR c I2 n ry fun dx s3 h1 h2 I3=>⟨σ,_,I3,q2 dx h1 h2⟩
noncomputable def spI (C:Addr) (f:Str):Sp:=fun vs H Q _=>∃ e y,vs=[.ref e,y]∧New H C e∧∀ dx,H dx=none→dx≠e→Q .non (Yh H C e dx f y)
theorem Zgu {P:Program}{w:World}{K:PySem.W.Frag}{mg:Str→Option Value}{base:Heap}{name qual a0 a1:Str}{params:Arguments}{scope:Scope}{dV kV doc pm cdv ct oc:Value}{an od:Option Addr}{osl:Array (Option Value)}{p1 p2 p3 p4:Pos}
  (c:XCls K C fI f) (lk:K.lookup fI=some ⟨oc,od,.func (PySem.W.fnOf name qual params [.Assign [.Attribute (.Name a0 p1) f p2] (.Name a1 p3) p4] scope dV kV doc pm an cdv ct),osl⟩) (hcd:PySem.W.codeIn K cdv qual=true) (S:FnScope [a0,a1] [a0,a1] scope) (v0:Vis scope a0) (v1:Vis scope a1)
  (d0:(a0==("__debug__":Str))=false) (d1:(a1==("__debug__":Str))=false) (g0:(a0==("__classdict__":Str))=false) (g1:(a1==("__classdict__":Str))=false) :
  FnOk P w K mg base CX (k+1) fI (PySem.W.fnOf name qual params [.Assign [.Attribute (.Name a0 p1) f p2] (.Name a1 p3) p4] scope dV kV doc pm an cdv ct) [a0,a1] (spI C f):=by
 refine fn_of lk hcd S (fun vs H Q E ⟨e,y,h,_⟩=>by rw [h]; rfl) fun A outer s H vs Q E hr ⟨e,y,h,n,q⟩=>?_
 subst h
 refine ⟨_,pss_cons (Zi7 c (pe_var (i:=0) rfl v0 d0 g0) (pe_var (i:=1) rfl v1 d1 g1) (by rfl)) pss_nil,?_⟩
 exact ⟨y,rfl,.ref e,rfl,e,rfl,n,fun dx h1 h2=>q dx h1 h2⟩
theorem Zbv {oo:HO}{dx:Addr}:Yh (upd H e oo) C e dx f y=Yh H C e dx f y:=by
 funext b
 unfold Yh upd
 by_cases z:b=e
 ·simp [z]
 ·simp [z]
end
end L2


namespace L2
open PySem PySem.Spec PyProof.Rows
section
variable {X:Cx}{pins:List (Addr×Obj)}{σ:St}{H:Hp}{s:Shared}{e C fI:Addr}{f:Str}{y:V}{u:Value}{A:Around}{E:Value→Shared→Prop}{pos p rpos:Pos}{x:Str}{CX:CXT}{k:Nat}{fd:FuncData}{ps:List Str}{E' E1:XK}{t:TA}{arg:Expr}
theorem Zbm {Q:VK} (c:XCls X.K C fI f) (F:FnOk X.prog X.w X.K X.mg X.base CX k fI fd ps (spI C f)) (hr:Room (k+1) X.A) (hb:Binds X.K fd ps []) (hx:Passes CX X E') (I:Inv X pins σ H s) (ry:RelV y u)
  (h:∀ e dx,X.s₀.heap.objs.size≤e→H e=none→H dx=none→dx≠e→Q (.ref e) (Yh H C e dx f y)):wpAny (model X.prog X.w) X.A (call (.ref C) [u]) (EP X pins σ Q) X.xe s:=by
 obtain ⟨nm,q,N,bs,bm,sn,sub,ab,col,dd,k0,k1,k2,k3,k5,newId,B,initId,bmB,owner,lk,T,FB,SF⟩:=c.cl
 obtain ⟨oI,lI,cI⟩:=c.fn
 obtain ⟨hp,g,d,tk,os⟩:=s
 refine Zgd FB (T _ I.kIn) (I.kIn _ _ lk) (PySem.W.looks_findIn I.kIn c.ini) (I.kIn _ _ lI) cI (show 1≤sizeLine by decide) fun h' e hz hm=>?_
 obtain ⟨ta,te,_,_⟩:=hm.there
 have I2:Inv X pins σ (upd H e (.ext (f0 C e #[.ref ta,.none,.none,.none,.bool false,.none]))) ⟨h',g,d,tk,os⟩:=I.laid (t':=tk) hm.keeps hz (ZhK te)
 have hn:H e=none:=I.hok.fresh hz
 have hq:spI C f [.ref e,y] (upd H e (.ext (f0 C e #[.ref ta,.none,.none,.none,.bool false,.none]))) (fun v H2=>v=.non∧Q (.ref e) H2) E':=
  ⟨e,y,rfl,⟨_,rfl,rfl,upd_same⟩,fun dx h1 h2=>⟨rfl,by rw [Zbv]; exact h e dx (Nat.le_trans I.sz hz) hn (by rw [upd_ne h2] at h1; exact h1) h2⟩⟩
 have r2:Vals [V.ref e,y] [Value.ref e,u]:=.cons rfl (.cons ry .nil)
 have hl:([Value.ref e,u]++[]).length=ps.length:=by
  have:=F.len _ _ _ _ hq
  exact this
 refine wpAny_call (codeAny_mono (F.run _ X.stack _ _ ⟨[Value.ref e,u],[]⟩ [Value.ref e,u] _ _ E' (hr.make C [u] []) (I2.env0.make C [u] []) (hb _ [Value.ref e,u] I2.kIn hl) r2 hq) fun r s' hq'=>?_)
 cases r with
 | error e=>exact hx pins σ _ _ e s' I2 hq'
 | ok fl=>
  cases fl with
  | ret u=>
   obtain ⟨v,H',I3,rv,ev,q3⟩:=I2.after hq'
   subst ev
   exact ⟨rv,⟨V.ref e,H',I3,rfl,q3⟩⟩
  | next=>exact False.elim hq'
  | brk=>exact False.elim hq'
  | cont=>exact False.elim hq'
noncomputable def V3 (H:Hp) (C e dx:Addr) (f:Str) (y:V):Hp:=upd (upd H dx (.xd [(f,y)])) e (.ext (fX C e dx))
noncomputable def Zhd (C:Addr) (f:Str) (E:XK) (t:TA):TS:=fun _ σ H=>t σ H fun vs H1=>∃ y,vs=[y]∧∀ e dx,H1 e=none→H1 dx=none→dx≠e→E (.ref C) (some dx) (V3 H1 C e dx f y)
theorem Zdb (c:XCls X.K C fI f) (F:FnOk X.prog X.w X.K X.mg X.base CX k fI fd ps (spI C f)) (hr:Room (k+1) X.A) (hh:X.A.handled=none) (hb:Binds X.K fd ps []) (hx:Passes CX X E') (hg:Gl X x) (hm:X.mg x=some (.ref C)) (ha:PA X [arg] t) (hxe:∀ pins σ e s',XS X pins σ E1 e s'→X.xe e s')
  (hdb:(x==("__debug__":Str))=false:=by decide) (he:starEach [arg] X.env=(false,eval arg X.env) :: starEach [] X.env:=by rfl):PS X (.Raise (some (.Call (.Name x p) [arg] [] pos)) none rpos) (Zhd C f E1 t):=by
 intro pins s σ H D I h
 obtain ⟨nm,q,N,bs,bm,sn,sub,ab,col,dd,k0,k1,k2,k3,k5,newId,B,initId,bmB,owner,lk,T,FB,SF⟩:=c.cl
 rw [arm_exec_Raise]
 refine wpAny_bind (wpAny_standAt ?_)
 refine ZeS (nm:=nm) (q:=q) (C:=C) (N:=N) (bs:=bs) (bm:=bm) (hdct:=true) (sn:=sn) (sub:=sub) (ab:=ab) (col:=col) (dd:=dd) (k0:=k0) (k1:=k1) (k2:=k2) (k3:=k3) (k5:=k5) (newId:=newId) (QX (T _ I.kIn) FB.hasBase) hh (wpAny_bind ?_)
 have ev:wpAny (model X.prog X.w) X.A (eval (.Call (.Name x p) [arg] [] pos) X.env) (EP X pins σ fun v H'=>∃ e dx y H1,v=.ref e∧X.s₀.heap.objs.size≤e∧H1 e=none∧H1 dx=none∧dx≠e∧H'=Yh H1 C e dx f y∧E1 (.ref C) (some dx) (V3 H1 C e dx f y)) X.xe s:=by
  refine wpAny_Call_Name_kw (ld_glob I hg hm ?_ hdb)
  refine PySem.W.callWith_K (h₀:=X.base) I.ok.mod.kin c.kp (thn (ha pos pins s σ H _ I h) fun us s1 ⟨vs,H1,I1,r,y,ey,q⟩=>⟨I1.kIn,?_⟩) he rfl
  subst ey
  obtain ⟨u,rfl,ru⟩:=Vals.one r
  exact Zbm c F hr hb hx I1 ru fun e dx h0 h1 h2 h3=>⟨e,dx,y,H1,rfl,h0,h1,h2,h3,rfl,q e dx h1 h2 h3⟩
 refine thn ev fun v s1 ⟨w,H',I1,rw',e,dx,y,H1,ev,h0,h1,h2,h3,eH,q⟩=>wpAny_bind (wpAny_standAt (wpAny_pure ?_))
 subst ev
 obtain rfl:v=Value.ref e:=rw'
 have he':H' e=some (.ext (f1 C e dx)):=by rw [eH]; exact upd_same
 have xo:Xo s1.heap e C dx none:=(show ObjOk X.prog X.w H' s1.heap e (.ext (f1 C e dx)) from I1.hok e _ he').1
 obtain ⟨sl,vs,q1,q2,q3⟩:=xo.ob
 refine ⟨e,_,vs,rfl,I1.kIn _ _ lk,q1,rfl,rfl,q3,hxe pins σ _ s1 ⟨e,C,dx,none,V3 H1 C e dx f y,rfl,?_,⟨xo,upd_same,h0,fun _ z=>nomatch z⟩,q⟩⟩
 have ex:V3 H1 C e dx f y=upd H' e (.ext (fX C e dx)):=by
  rw [eH]
  unfold V3 Yh
  rw [upd_upd]
 rw [ex]
 obtain ⟨hp,g,d,tk,os⟩:=s1
 exact I1.write (x:=e) (e:=e) (h':=hp) (t':=tk) (by rw [he']; exact True.intro) (.inl rfl) (fun b o _ z=>z) ⟨_,q1⟩ (ZfC xo.f)
end
end L2


namespace L2
open PySem PySem.Spec PyProof.Rows
section
variable {X:Cx}{pins:List (Addr×Obj)}{σ:St}{H H':Hp}{s s':Shared}{ea C dx:Addr}{t:Option Addr}{h h2 h3:Heap}{fs:List Addr}{n x:Str}{i:Nat}{M:Model}{A:Around}{E:Value→Shared→Prop}
theorem ZfS (u:Un fs [] H H' h h2) (k:Kx fs ea t h2 h3) (z1:h.objs.size≤ea) (z2:∀ a,t=some a→h.objs.size≤a):Un fs [] H H' h h3:=by
 have far:∀ b o,h.get? b=some o→b≠ea∧∀ a,t=some a→b≠a:=fun b o hb=>by
  have:=Heap.lt_size hb
  exact ⟨fun z=>absurd (Nat.lt_of_lt_of_le this z1) (z ▸ Nat.lt_irrefl _),fun a ha z=>absurd (Nat.lt_of_lt_of_le this (z2 a ha)) (z ▸ Nat.lt_irrefl _)⟩
 refine ⟨fun b o hb hn hf _=>?_,fun b o hb hn hf _=>?_,u.free,fun b o hb _=>?_,u.tups,u.frzs,u.tbls⟩
 ·obtain ⟨f1,f2⟩:=far b o hb
  exact (k b o (u.keep b o hb hn hf (by simp)) f1 f2).1 hf
 ·obtain ⟨f1,f2⟩:=far b o hb
  obtain ⟨sl,e1⟩:=u.slot b o hb hn hf (by simp)
  obtain ⟨sl',e2⟩:=(k b _ e1 f1 f2).2
  exact ⟨sl',e2⟩
 ·obtain ⟨f1,f2⟩:=far b o hb
  obtain ⟨o',e1⟩:=u.there b o hb (by simp)
  obtain ⟨sl',e2⟩:=(k b _ e1 f1 f2).2
  exact ⟨_,e2⟩
theorem Zcb {P:Program}{w:World} (ok:HOk P w H' h2) (he:H' ea=some (.ext (fX C ea dx))) (x:fX C ea dx h3) (k:Kx fs ea t h2 h3) (n2:∀ a,t=some a→H' a=none) (n3:∀ b∈fs,H' b=none):HOk P w H' h3:=
 ZfG ok he x fun b o u hb hu hg=>(k b o hg hb fun a ha z=>by rw [z,n2 a ha] at hu; cases hu).1 fun z=>by rw [n3 b z] at hu; cases hu
theorem Zb7 {a:Addr}{Q:Unit→Shared→Prop} (x:Xo s.heap ea C dx (some a)) (q:∀ h',Xo h' ea C dx (some a)→Kx [] ea (some a) s.heap h'→Q () { s with heap:=h' }):wpAny M A (setFlight (.ref ea) none) Q E s:=by
 obtain ⟨sl,vs,e1,e2,e3⟩:=x.ob
 obtain ⟨ne,o,ts,e4,e5,e6,e7⟩:=x.tb a rfl
 refine wpAny_setFlight_none e1 rfl e3 e4 e5 e6 (q _ ⟨⟨sl,vs,(Heap.get?_update_other _ _ ne).trans e1,e2,e3⟩,fun b hb=>?_⟩ fun b o' hb he ht=>?_)
 ·cases hb
  exact ⟨ne,_,_,Wz e4 e5,rfl,by simp; exact e6,by rw [Array.getElem?_setIfInBounds]; simp [e6]⟩
 ·have:=(Heap.get?_update_other s.heap (Obj.mapFields fun x=>x.setIfInBounds 3 .none) (Ne.symm (ht a rfl))).trans hb
  exact ⟨fun _=>this,o'.slots,this⟩
noncomputable def Xm (X:Cx) (e:Value):Cx:={ X with A:=X.A.mark (some e),calm:=false }
theorem Inv.marked {e:Value} (I:Inv X pins σ H s):Inv (Xm X e) pins σ H s:=
 ⟨⟨I.ok.mod,I.ok.kind,I.ok.glob,I.ok.blt,I.ok.above,I.ok.inj,I.ok.has,I.ok.cab,fun z=>(nomatch z),I.ok.frames,I.ok.stk,I.ok.exf,I.ok.bs,I.ok.bsz,I.ok.noex,I.ok.exfs,I.ok.funs,I.ok.frf⟩,I.os,I.bare,I.base,I.loc,I.cell,I.free,I.freeC,I.pin,I.hok,I.len⟩
theorem Inv.unmarked {e:Value} (o:X.Ok) (I:Inv (Xm X e) pins σ H s):Inv X pins σ H s:=
 ⟨o,I.os,I.bare,I.base,I.loc,I.cell,I.free,I.freeC,I.pin,I.hok,I.len⟩
theorem Zgi {Q:Unit→Shared→Prop} (I:Inv X pins σ H s) (hN:X.N.Nodup) (hi:X.N[i]?=some x) (hk:X.env.scope.names.lookup x=some .local) {v:V} (hσ:σ[i]?=some (some v)) (q:∀ s',Inv X pins (σ.set i none) H s'→Q () s'):wpAny M A (unbindName X.env x) Q E s:=by
 obtain ⟨m,hn,hl⟩:=id I.loc
 have hcls:(X.env.scope.kind==.class||(X.env.scope.kind==.module&&X.env.locals != X.env.globals))=false:=by rw [I.ok.kind]; rfl
 have hiσ:i < σ.length:=by rw [I.len]; exact (List.getElem?_eq_some_iff.mp hi).1
 obtain ⟨u,ru,lo⟩:=hl i x v hi hσ (.inl hk)
 have mx:m x=some u:=by
  rcases lo with ⟨_,q⟩ | ⟨q,_⟩
  ·exact q
  ·have e:X.env.kindOf x=some .local:=hk
   rcases q with q | q<;>(rw [e] at q; cases q)
 obtain ⟨oL,_,_,hoL,_⟩:=id hn
 refine wpAny_unbindName_local hk hn mx hcls fun h' w hn' hs=>q _ ?_
 have tracked:HOk X.prog X.w H h':=fun b ob e=>by
  refine (I.hok b ob e).stay (fun c w' hc q=>(hs.2 c ?_).trans q) (fun _ q=>q) fun _ _ q=>q
  rintro rfl
  have hf:=I.free
  rcases hc with hc | hc
  ·rw [←hc,hf] at e; cases e
  ·rw [hf] at hc; cases hc
 refine ⟨I.ok,I.os,I.bare,⟨fun b o e n hb hx=>?_,fun b o e n hb hx=>?_,I.base.free,fun b o e hx=>?_,I.base.tups,I.base.frzs,I.base.tbls⟩,⟨_,hn',fun j y v' e1 e2 e3=>?_⟩,fun y c e=>?_,I.free,I.freeC,fun p hp=>?_,tracked,by simpa using I.len⟩
 ·exact (hs.2 b (Nat.ne_of_lt (Nat.lt_of_lt_of_le (Heap.lt_size e) I.ok.above))).trans (I.base.keep b o e n hb hx)
 ·obtain ⟨sl,e1⟩:=I.base.slot b o e n hb hx
  exact ⟨sl,(hs.2 b (Nat.ne_of_lt (Nat.lt_of_lt_of_le (Heap.lt_size e) I.ok.above))).trans e1⟩
 ·obtain ⟨o',e1⟩:=I.base.there b o e hx
  exact ⟨o',(hs.2 b (Nat.ne_of_lt (Nat.lt_of_lt_of_le (Heap.lt_size e) I.ok.above))).trans e1⟩
 ·by_cases hj:j=i
  ·subst hj
   rw [List.getElem?_set_self hiσ] at e2
   cases e2
  ·rw [List.getElem?_set_ne (Ne.symm hj)] at e2
   obtain ⟨u',r',lk⟩:=hl j y v' e1 e2 e3
   refine ⟨u',r',?_⟩
   rcases lk with ⟨k1,k2⟩ | ⟨k1,c,k2,k3⟩
   ·refine .inl ⟨k1,?_⟩
    show (if y=x then w else m y)=some u'
    have ny:y≠x:=fun e=>hj (nodup_ix hN e1 (e ▸ hi))
    rw [if_neg ny]
    exact k2
   ·exact .inr ⟨k1,c,k2,by
     obtain ⟨o,p1,p2⟩:=k3
     exact ⟨o,(hs.2 c (I.cne y c k2)).trans p1,p2⟩⟩
 ·obtain ⟨w',o,p1,p2⟩:=I.cell y c e
  exact ⟨w',o,(hs.2 c (I.cne y c e)).trans p1,p2⟩
 ·obtain ⟨p1,p2,p3,p4⟩:=I.pin p hp
  exact ⟨(hs.2 p.1 p3).trans p1,p2,p3,p4⟩
end
end L2


namespace L2
open PySem PySem.Spec PyProof.Rows
section
variable {X:Cx}{es:List Expr}{t:TA}
theorem PA.nox (h:PA X.nox es t):PA X es t:=fun p pins s σ H Q I hw=>
 wpAny_mono (h p pins s σ H Q (I.wish _) hw) (fun _ _ ⟨v,H',I',r,q⟩=>⟨v,H',I'.unwish,r,q⟩) fun _ _ z=>False.elim z
end
section
variable {X:Cx}{pins:List (Addr×Obj)}{σ:St}{H:Hp}{s:Shared}{fb C0 Ch:Addr}{g hx n:Str}{a:Expr}{as:List Expr}{t:TA}{k ni:Nat}{fd:FuncData}{ps:List Str}{sp:Sp}{ds:List Value}{dvs:List V}{gp cp ep hp hq pos:Pos}{b0:Stmt}{suite:List Stmt}{ts:TS}
noncomputable def Zjo (ni:Nat) (C0:Addr) (sp:Sp) (dvs:List V) (t:TA) (ts:TS):TS:=fun D σ H=>t σ H fun vs H1=>∃ E1:XK,sp (vs++dvs) H1 (fun _ _=>False) E1∧∀ e C dx H',H' e=some (.ext (fX C e dx))→E1 (.ref C) (some dx) H'→C=C0∧ts { nx:=fun σ2 H2=>D.nx (σ2.set ni none) H2,rt:=fun _ _=>False } (σ.set ni (some (.ref e))) H'
theorem ZgT (hst:X.stack=X.env :: X.outer∧X.env.frame=some X.env.locals) (hN:X.N.Nodup) (F:FnOk X.prog X.w X.K X.mg X.base (CX1 X.prog X.w) k fb fd ps sp) (hr:Room k X.A) (hg:Gl X g) (hm:X.mg g=some (.ref fb)) (hk:PySem.W.keepIn X.K (.ref fb)=true) (hb:Binds X.K fd ps ds) (hd:Vals dvs ds) (ha:PA X.nox (a :: as) t)
  (hgx:Gl X hx) (hmx:X.mg hx=some (.ref Ch)) (hmt:PySem.W.exmOne X.K (.ref C0) (.ref Ch)=some true) (hni:X.N[ni]?=some n) (hnl:X.env.scope.names.lookup n=some .local) (hs:∀ e,PSs (Xm X e).nox (b0 :: suite) ts)
  (d1:(g==("__debug__":Str))=false:=by decide) (d2:(hx==("__debug__":Str))=false:=by decide) (he:starEach (a :: as) X.env=(false,eval a X.env) :: starEach as X.env:=by rfl) (hpl:(backTo cp (starEach as X.env)).any (·.1)=false:=by rfl) :
  PS X (.Try [.Expr (.Call (.Name g gp) (a :: as) [] cp) ep] [.ExceptHandler (some (.Name hx hp)) (some n) (b0 :: suite) hq] [] [] pos) (Zjo ni C0 sp dvs t ts):=by
 intro pins s σ H D I h
 refine wpAny_Try_except ?_
 generalize hEb:(fun (e:Value) (s₁:Shared)=>wpAny (model X.prog X.w) X.A (noteFrame e X.env) (fun _ s₂=>wpAny (model X.prog X.w) X.A (setFlight e none) (fun _ s₃=>wpAny (model X.prog X.w) X.A (handleBy e X.env [.ExceptHandler (some (.Name hx hp)) (some n) (b0 :: suite) hq]) (SP X pins D) X.xe s₃) X.xe s₂) X.xe s₁)=Eb
 have ev:wpAny (model X.prog X.w) X.A (eval (.Call (.Name g gp) (a :: as) [] cp) X.env) (fun _ _=>False) Eb s:=by
  refine wpAny_Call_Name_kw (ld_glob (X:=X.wish Eb) (I.wish Eb) hg hm ?_ d1)
  refine PySem.W.callWith_K (h₀:=X.base) I.ok.mod.kin hk (thn ((PA.nox (X:=X.wish Eb) ha) cp pins s σ H _ (I.wish Eb) h) fun us s1 ⟨vs,H1,I1,r,E1,hsp,hh⟩=>⟨I1.kIn,?_⟩) he hpl
  have I1:=I1.unwish
  have r2:Vals (vs++dvs) (us++ds):=r.append hd
  have hl:(us++ds).length=ps.length:=by rw [←r2.length]; exact F.len _ _ _ _ hsp
  refine wpAny_call (codeAny_mono (F.run X.A X.stack s1 H1 ⟨us,[]⟩ (us++ds) (vs++dvs) _ E1 hr I1.env0 (hb s1 us I1.kIn hl) r2 hsp) fun r s' hq'=>?_)
  cases r with
  | ok fl=>
   cases fl with
   | ret u=>obtain ⟨_,_,_,_,_,_,_,z⟩:=hq'; exact z.elim
   | next=>exact False.elim hq'
   | brk=>exact False.elim hq'
   | cont=>exact False.elim hq'
  | error e=>
   obtain ⟨ea,C,dx,tb,H',rfl,⟨os,ba,un,ok⟩,⟨x,n1,z1,tt⟩,q⟩:=hq'
   obtain ⟨rfl,hts⟩:=hh ea C dx H' n1 q
   have I2:Inv X pins σ H' s':=I1.call' os un ok ba (fun _ z=>absurd z (by simp))
   rw [←hEb]
   refine ZcN (base:=X.base) (outer:=X.outer) (L:=X.env.locals) (I1.ok.frames.trans (by rw [hst.1])) (hst.1 ▸ I2.stack) hst.2 x fun h3 b3 z3 x3 k3=>?_
   rw [←hst.1] at k3
   have un3:=ZfS un k3 z1 fun a ha=>(tt a ha).2
   have ok3:HOk X.prog X.w H' h3:=Zcb ok n1 x3.f k3 (fun a ha=>(tt a ha).1) I2.stkFree
   have z3':s1.heap.objs.size≤b3:=by
    obtain ⟨_,_,q1,_⟩:=x.ob
    exact Nat.le_trans (Nat.le_trans z1 (Nat.le_of_lt (Heap.lt_size q1))) z3
   have nb3:H' b3=none:=I2.hok.fresh z3
   have I3:Inv X pins σ H' { s' with heap:=h3 }:=I1.call' os un3 ok3 ba (fun _ z=>absurd z (by simp))
   refine wpAny_handleBy_cons ?_ (fun z=>nomatch z)
   refine codeAny_handlers_test (ld_glob (X:=Xm X (.ref ea)) I3.marked hgx hmx ?_ d2)
   have lt:PySem.W.Looks (model X.prog X.w) h3 (typeOf (.ref ea)) (.ref C):=fun A Q E s hk hq=>by
    obtain ⟨sl,vs,q1,_⟩:=x3.ob
    obtain ⟨hp',g',d',t',o'⟩:=s
    unfold typeOf
    exact wpAny_bind (wpAny_loadPart_at (hk _ _ q1) (wpAny_pure hq))
   refine PySem.W.exm_one (show X.K.In h3 from I3.kIn) lt hmt _ _ _ _ (fun _ _ z=>z) ?_
   refine codeAny_handlers_suite_as (Zb7 x3 fun h4 x4 k4=>?_)
   have k4':Kx (frs X.stack) ea (some b3) h3 h4:=fun b o hb he ht=>⟨fun _=>(k4 b o hb he ht).1 (by simp),(k4 b o hb he ht).2⟩
   have un4:=ZfS un3 k4' z1 fun a ha=>by cases ha; exact z3'
   have ok4:HOk X.prog X.w H' h4:=Zcb ok3 n1 x4.f k4' (fun a ha=>by cases ha; exact nb3) I2.stkFree
   have I4:Inv X pins σ H' { s' with heap:=h4 }:=I1.call' os un4 ok4 ba (fun _ z=>absurd z (by simp))
   refine store_ok I4 hN hni (.inl hnl) (v:=.ref ea) rfl (fun s5 I5=>?_) (.inr hnl)
   refine wpAny_mono (hs (.ref ea) pins s5 _ H' _ (I5.marked.wish _) hts) (fun fl s6 q6=>?_) fun _ _ z=>z.elim
   have q6:=q6.unwish
   cases fl with
   | next=>
    obtain ⟨σ2,H2,I6,q7⟩:=q6
    have I6:Inv X pins σ2 H2 s6:=I6.unmarked I.ok
    refine wpAny_bind (wpAny_bindName (store_ok I6 hN hni (.inl hnl) (v:=.non) rfl (fun s7 I7=>?_) (.inr hnl)))
    have hσ:(σ2.set ni (some V.non))[ni]?=some (some V.non):=List.getElem?_set_self (by rw [I6.len]; exact (List.getElem?_eq_some_iff.mp hni).1)
    unfold unbindBehindTheSuite
    refine wpAny_onRaise (Zgi I7 hN hni hnl hσ fun s8 I8=>⟨_,H2,I8,?_⟩)
    rw [List.set_set]
    exact q7
   | ret u=>obtain ⟨_,_,_,_,_,z⟩:=q6; exact z.elim
   | brk=>obtain ⟨_,_,_,z⟩:=q6; exact z.elim
   | cont=>obtain ⟨_,_,_,z⟩:=q6; exact z.elim
 refine wpAny_execs_cons ?_
 refine wpAny_mono (wpAny_Expr_any (Q:=fun _ _=>False) (wpAny_mono ev (fun _ _ z=>z.elim) fun _ _ z=>z) (I.wish Eb).quiet (by rfl)) (fun _ _ z=>z.elim) fun e s1 z=>z
end
end L2


namespace L2
open PySem PySem.Spec PyProof.Rows
section
variable {prog:Program}{w:World}{A:Around}{E:Value→Shared→Prop}{s:Shared}{h:Heap}{g:Array GenState}{d:Drawn}{t:Nat}{os:OsState}{nm q name:Str}{C N e:Addr}{bs bm bmB:List Value}{hdct:Bool}{sn:List Str}{sub:List Value}{ab:Bool}{col:Option Bool}{dd:Option Addr}{k0 k1 k2 k3 k5:Option Value}{B newId:String}{K:PySem.W.Frag}{ox:Obj}{od:Option Obj}{v:Value}{tk:Tok}{fill expr:Bool}
theorem ZfE {Q:Value→Shared→Prop} (KX:K.In s.heap) (J:PySem.W.InstAt s.heap e ox C od) (FB:ExcAttrBase B bmB) (hg:PySem.W.findIn K (.ref C) "__getattribute__"=some (some (.builtin "BaseException.__getattribute__"))) (hn:PySem.W.findIn K (.ref C) "__getattr__"=some none)
  (hc:codeAny (model prog w) A (Code.call (.builtin "BaseException.__getattribute__") { pos:=[.ref e,.str name tk] }) (fun r s'=>match r with
   | .ok (.ret v)=>PySem.W.handedIn v=true∧Q v s'
   | _=>False) s):wpAny (model prog w) A (getAttrBy (.ref e) (.str name tk) fill expr) Q E s:=by
 obtain ⟨hp,g,d,tt,os⟩:=s
 unfold getAttrBy typeOf
 refine wpAny_holding (wpAny_bind (wpAny_bind (wpAny_loadPart_at J.at_ (wpAny_pure ?_))))
 rw [J.cls]
 refine wpAny_bind (PySem.W.looks_findIn KX hg _ _ _ _ (fun _ _ z=>z) ?_)
 refine wpAny_ite_false (by rfl) ?_
 unfold getAttrByItsOwn hookBefore
 refine wpAny_bind (wpAny_ite_true (by rfl) (PySem.W.looks_findIn KX hn _ _ _ _ (fun _ _ z=>z) ?_))
 refine wpAny_bind (wpAny_attempt (wpAny_holding ?_))
 unfold callGetattribute
 have hx:(expr&&onTheHeap (.builtin "BaseException.__getattribute__"))=false:=by cases expr<;>rfl
 rw [hx,if_neg Bool.false_ne_true]
 unfold boundAndCalled
 refine wpAny_bind (wpAny_of_eq (FB.ga.bind (.ref e)) (wpAny_call (codeAny_mono hc fun r s' q=>?_)))
 cases r with
 | error e=>exact q.elim
 | ok fl=>
  cases fl with
  | ret v=>exact PySem.W.handed_on q.1 q.2
  | next=>exact q.elim
  | brk=>exact q.elim
  | cont=>exact q.elim
theorem J2 {R:Result→Shared→Prop}{r:Builtin.ObjectAttr.Found} (KX:K.In h) (J:PySem.W.InstAt h e ox C od) (FB:ExcAttrBase B bmB) (hC:h.get? C=some (excClassObj nm q C N bs bm hdct sn sub ab col dd k0 k1 k2 k3 k5 newId)) (T:OwnTailQ h bmB bm) (hf:PySem.W.findObj K C od name=some r)
  (hr:match r with
   | .value v=>R (.ok (.ret v)) ⟨h,g,d,t,os⟩
   | .bind gg a=>wpAny (model prog w) A.in1 (call gg [a,.ref e,.ref C]) (fun v s'=>R (.ok (.ret v)) s') (fun e s'=>R (.error e) s') ⟨h,g,d,t,os⟩
   | .missing=>False):codeAny (model prog w) A (Code.call (.builtin "BaseException.__getattribute__") { pos:=[.ref e,.str name tk] }) R ⟨h,g,d,t,os⟩:=by
 refine codeAny_call_builtin FB.ga.plain F.entry_bexc_ga (wpAny_check_ga_own FB hC T J.at_ J.cls ?_)
 unfold Builtin.«object.__getattribute__» slotArgs
 refine wpAny_bind (wpAny_ite_false (by rfl) (wpAny_ite_false (by rfl) (wpAny_pure ?_)))
 unfold Builtin.ObjectAttr.attrName typeOf
 refine wpAny_bind (wpAny_pure (wpAny_bind (wpAny_bind (wpAny_loadPart_at J.at_ (wpAny_pure ?_)))))
 rw [J.cls]
 refine wpAny_bind (PySem.W.looks_find KX J hf _ _ _ _ (fun _ _ z=>z) ?_)
 cases r with
 | value v=>exact wpAny_pure hr
 | bind gg a=>
  unfold Builtin.ObjectAttr.bindTo
  exact wpAny_bind (wpAny_holding (wpAny_mono hr (fun v s' z=>wpAny_pure z) fun _ _ z=>z))
 | missing=>exact hr.elim
theorem Zd5 {Q:Value→Shared→Prop} (KX:K.In h) (J:PySem.W.InstAt h e ox C od) (FB:ExcAttrBase B bmB) (hC:h.get? C=some (excClassObj nm q C N bs bm hdct sn sub ab col dd k0 k1 k2 k3 k5 newId)) (T:OwnTailQ h bmB bm)
  (hg:PySem.W.findIn K (.ref C) "__getattribute__"=some (some (.builtin "BaseException.__getattribute__"))) (hn:PySem.W.findIn K (.ref C) "__getattr__"=some none) (hf:PySem.W.findObj K C od name=some (.value v)) (hv:PySem.W.handedIn v=true) (hq:Q v ⟨h,g,d,t+1,os⟩) :
  wpAny (model prog w) A (getAttr (.ref e) name expr) Q E ⟨h,g,d,t,os⟩:=by
 unfold getAttr mkText
 exact wpAny_bind (wpAny_bind (wpAny_fresh' (wpAny_pure (ZfE KX J FB hg hn (J2 KX J FB hC T hf ⟨hv,hq⟩)))))
theorem ZhS {od:Obj} (FB:ExcAttrBase B bmB) (lk:K.lookup C=some (excClassObj nm q C N bs bm hdct sn sub ab col dd k0 k1 k2 k3 k5 newId)) (T:∀ h:Heap,K.In h→OwnTailQ h bmB bm)
  (hg:PySem.W.findIn K (.ref C) "__getattribute__"=some (some (.builtin "BaseException.__getattribute__"))) (hn:PySem.W.findIn K (.ref C) "__getattr__"=some none) (hc:PySem.W.findIn K (.ref C) "__class__"=some (some (.builtin "object.__class__")))
  (hs:PySem.W.specialIn K (.builtin "object.__class__") "__get__"=some (some (.builtin "getset_descriptor.__get__"))) (ht:PySem.W.takesIn K (.builtin "object.__class__")=some true) (hm:PySem.W.mroIn K C (.type "object")=some true) (hd:(PySem.W.clsIn K C).isSome=true) :
  PySem.W.KitX K (.ref e) (.ref C) (fun h=>PySem.W.InstAt h e ox C (some od)) where
 ty:=fun M h KX J A Q E s hk hq=>by
  obtain ⟨hp,g,d,t,os⟩:=s
  unfold typeOf
  refine wpAny_bind (wpAny_loadPart_at (hk _ _ J.at_) (wpAny_pure ?_))
  rw [J.cls]; exact hq
 it:=fun M h KX J A Q E s hk hq=>by
  obtain ⟨hp,g,d,t,os⟩:=s
  unfold isType loadHead
  exact wpAny_bind (wpAny_loadPart_at (hk _ _ (KX _ _ lk)) (wpAny_pure hq))
 ne:=fun h tp dd its n sl KX z=>by
  refine beq_eq_false_iff_ne.mpr fun y=>?_
  cases y
  rw [KX _ _ lk] at z
  exact absurd (congrArg Obj.cls (Option.some.inj z)) (by simp [excClassObj])
 ca:=fun {prog w A E Q s} KX J hq=>by
  obtain ⟨hp,g,d,t,os⟩:=s
  unfold getAttr? mkText getAttrBy?
  refine wpAny_bind (wpAny_bind (wpAny_fresh' (wpAny_pure (wpAny_bind (wpAny_attempt ?_)))))
  refine ZfE KX J FB hg hn (J2 KX J FB (KX _ _ lk) (T _ KX) (PySem.W.findObj_data hd hc hs ht) (wpAny_call (PySem.W.class_get KX J hm ⟨rfl,wpAny_pure hq⟩)))
end
end L2


namespace L2
open PySem PySem.Spec PyProof.Rows
structure XGet (K:PySem.W.Frag) (C:Addr):Prop where
 cl:∃ nm q N bs bm sn sub ab col dd k0 k1 k2 k3 k5 newId B bmB,K.lookup C=some (excClassObj nm q C N bs bm true sn sub ab col dd k0 k1 k2 k3 k5 newId)∧(∀ h:Heap,K.In h→OwnTailQ h bmB bm)∧ExcAttrBase B bmB
 ga:PySem.W.findIn K (.ref C) "__getattribute__"=some (some (.builtin "BaseException.__getattribute__"))
 gn:PySem.W.findIn K (.ref C) "__getattr__"=some none
 gc:PySem.W.findIn K (.ref C) "__class__"=some (some (.builtin "object.__class__"))
 gs:PySem.W.specialIn K (.builtin "object.__class__") "__get__"=some (some (.builtin "getset_descriptor.__get__"))
 gt:PySem.W.takesIn K (.builtin "object.__class__")=some true
 gm:PySem.W.mroIn K C (.type "object")=some true
 gd:PySem.W.hasDictIn K C=true
section
variable {X:Cx}{pins:List (Addr×Obj)}{σ:St}{H:Hp}{s:Shared}{C:Addr}{x t f:Str}{p tp pos:Pos}{i:Nat}{b:Bool}{u:Value}{v:V}
def Ex (H:Hp) (C e:Addr) (fs:List (Str×V)):Prop:=∃ dx,H e=some (.ext (fX C e dx))∧H dx=some (.xd fs)
theorem Ex.look {e:Addr}{fs:List (Str×V)}{P:Program}{w:World}{h:Heap} (n:Ex H C e fs) (ok:HOk P w H h):∃ (ox od:Obj) (mA:Str→Option Value),PySem.W.InstAt h e ox C (some od)∧(∀ f,PySem.W.lookIn f od=some (mA f))∧∀ f,RelO (fs.lookup f) (mA f):=by
 obtain ⟨dx,h1,h2⟩:=n
 obtain ⟨sl,vs,q,_⟩:=(show ObjOk P w H h e (.ext (fX C e dx)) from ok e _ h1).1
 obtain ⟨mA,ns,r⟩:=(show ObjOk P w H h dx (.xd fs) from ok dx _ h2)
 obtain ⟨od,ho,hl⟩:=lookIn_ns ns
 exact ⟨_,od,mA,⟨q,rfl,rfl,ho⟩,hl,r⟩
theorem Zb0 {K:PySem.W.Frag} (h:PySem.W.hasDictIn K C=true):(PySem.W.clsIn K C).isSome=true:=by
 unfold PySem.W.hasDictIn at h
 cases q:PySem.W.clsIn K C with
 | none=>rw [q] at h; cases h
 | some c=>rfl
noncomputable def Zfn (i:Nat) (C:Addr) (b:Bool):TE:=fun σ H Q=>∃ e fs,σ[i]?=some (some (.ref e))∧Ex H C e fs∧Q (.bl b) H
theorem Zc3 (g:XGet X.K C) (gi:Gl X "isinstance") (mi:X.mg "isinstance"=none) (hN:X.N[i]?=some x) (hv:Vis X.env.scope x) (hc:PE X (.Name t tp) (tC v)) (ru:∀ u',RelV v u'→u'=u) (hk:PySem.W.kitOne X.K (.ref C) u=some b)
  (hd:(x==("__debug__":Str))=false:=by decide) (hcd:(x==("__classdict__":Str))=false:=by decide):PE X (.Call (.Name "isinstance" p) [.Name x xp,.Name t tp] [] pos) (Zfn i C b):=by
 have cr:CallR X (.builtin "isinstance") (fun vs H Q=>∃ e fs,vs=[.ref e,v]∧Ex H C e fs∧Q (.bl b) H):=by
  intro pins s σ H xs us Q I r h
  obtain ⟨e,fs,rfl,ex,q⟩:=h
  obtain ⟨nm,qq,N,bs,bm,sn,sub,ab,col,dd,k0,k1,k2,k3,k5,newId,B,bmB,lk,T,FB⟩:=g.cl
  obtain ⟨ox,od,mA,J,_,_⟩:=ex.look I.hok
  cases r with
  | cons r1 r2=>
   cases r2 with
   | cons r3 r4=>
    cases r4
    cases r1
    cases ru _ r3
    exact PySem.W.kia_one (ZhS (e:=e) (ox:=ox) (od:=od) FB lk T g.ga g.gn g.gc g.gs g.gt g.gm (Zb0 g.gd)) I.kIn J hk (fun z=>nomatch z) fun tk=>⟨.bl b,H,I.tok _,rfl,q⟩
 have P:=pe_callB (p:=p) (pos:=pos) cr gi mi (by decide +kernel) (pa_cons (pe_var (pos:=xp) hN hv hd hcd) (pa_cons hc pa_nil))
 intro pins s σ H Q I ⟨e,fs,h1,h2,h3⟩
 exact P pins s σ H Q I ⟨.ref e,h1,e,fs,rfl,h2,h3⟩
noncomputable def tXf (i:Nat) (C:Addr) (f:Str):TE:=fun σ H Q=>∃ e fs y,σ[i]?=some (some (.ref e))∧Ex H C e fs∧fs.lookup f=some y∧Q y H
theorem ZfK (g:XGet X.K C) (na:PySem.W.findIn X.K (.ref C) f=some none) (hN:X.N[i]?=some x) (hv:Vis X.env.scope x) (hb:attributeBase (.Name x xp) f X.env (eval (.Name x xp) X.env)=eval (.Name x xp) X.env)
  (hd:(x==("__debug__":Str))=false:=by decide) (hcd:(x==("__classdict__":Str))=false:=by decide):PE X (.Attribute (.Name x xp) f pos) (tXf i C f):=by
 intro pins s σ H Q I ⟨e,fs,y,h1,ex,h2,q⟩
 obtain ⟨nm,qq,N,bs,bm,sn,sub,ab,col,dd,k0,k1,k2,k3,k5,newId,B,bmB,lk,T,FB⟩:=g.cl
 refine attr_of hb (thn (pe_var (pos:=xp) hN hv hd hcd pins s σ H (fun z H1=>z=.ref e∧H1=H) I ⟨.ref e,h1,rfl,rfl⟩) fun u s1 ⟨z,H1,I1,rz,ez,eh⟩=>?_)
 subst ez
 subst eh
 obtain rfl:u=Value.ref e:=rz
 obtain ⟨ox,od,mA,J,hl,r⟩:=ex.look I1.hok
 obtain ⟨u,hu,ru⟩:=RelO.some_of (v:=y) (o:=mA f) (by rw [←h2]; exact r f)
 obtain ⟨hp,gg,d,tk,os⟩:=s1
 exact Zd5 I1.kIn J FB (I1.kIn _ _ lk) (T _ I1.kIn) g.ga g.gn (PySem.W.findObj_own g.gd na rfl (by rw [hl,hu])) (handed_of ru) ⟨y,H1,I1.tok _,ru,q⟩
end
end L2


namespace L2
open PySem PySem.Spec PyProof.Rows
theorem ZdP:bootBuiltins "isinstance"=some (.builtin "isinstance"):=by decide +kernel
section
variable {X:Cx}{C:Addr}{x t f:Str}{T:String}{p xp tp pos:Pos}{i:Nat}{b:Bool}{ta tb:TE}
noncomputable def Zjn (i:Nat) (b:Bool):TE:=fun σ H Q=>∃ n:Int,σ[i]?=some (some (.int n))∧Q (.bl b) H
theorem Zc2 (gi:Gl X "isinstance") (mi:X.mg "isinstance"=none) (hN:X.N[i]?=some x) (hv:Vis X.env.scope x) (hc:PE X (.Name t tp) (tC (.ty T))) (hk:PySem.W.kitOne X.K (.type "int") (.type T)=some b)
  (hd:(x==("__debug__":Str))=false) (hcd:(x==("__classdict__":Str))=false):PE X (.Call (.Name "isinstance" p) [.Name x xp,.Name t tp] [] pos) (Zjn i b):=by
 have cr:CallR X (.builtin "isinstance") (fun vs H Q=>∃ n:Int,vs=[.int n,.ty T]∧Q (.bl b) H):=by
  intro pins s σ H xs us Q I r h
  obtain ⟨n,rfl,q⟩:=h
  cases r with
  | cons r1 r2=>
   cases r2 with
   | cons r3 r4=>
    cases r4
    cases r3
    exact isinst_ok I r1 (.int n) hk fun tk=>⟨.bl b,H,I.tok _,rfl,q⟩
 have P:=pe_callB (p:=p) (pos:=pos) cr gi mi ZdP (pa_cons (pe_var (pos:=xp) hN hv hd hcd) (pa_cons hc pa_nil))
 intro pins s σ H Q I ⟨n,h1,h2⟩
 exact P pins s σ H Q I ⟨.int n,h1,n,rfl,h2⟩
end
section
variable {P:Program}{w:World}{K:PySem.W.Frag}{mg:Str→Option Value}{base:Heap}{CX:CXT}{k:Nat}{f:Addr}{name qual a m:Str}{params:Arguments}{scope:Scope}{dV kV doc pm cdv ct oc:Value}{an od:Option Addr}{osl:Array (Option Value)}{p1 p2 p3 p4 p5 p6 p7 p8 p9 p10 p11:Pos}
def isG (sc:Scope) (x:Str):Prop:=sc.names.lookup x=some .globalImplicit
noncomputable def spW:Sp:=fun vs H Q _=>∃ i:Int,vs=[.int i]∧Q (.bl true) H
theorem ZdF (lk:K.lookup f=some ⟨oc,od,.func (PySem.W.fnOf name qual params [.Return (some (.BoolOp .And [.Call (.Name "isinstance" p1) [.Name a p2,.Name "int" p3] [] p4,.UnaryOp .Not (.Call (.Name "isinstance" p5) [.Name a p6,.Name "bool" p7] [] p8) p9] p10)) p11] scope dV kV doc pm an cdv ct),osl⟩)
  (hcd:PySem.W.codeIn K cdv qual=true) (S:FnScope [a] [a] scope) (v:Vis scope a) (gi:isG scope "isinstance") (g1:isG scope "int") (g2:isG scope "bool") (mi:mg "isinstance"=none) (m1:mg "int"=none) (m2:mg "bool"=none) (d0:(a==("__debug__":Str))=false) (d1:(a==("__classdict__":Str))=false) :
  FnOk P w K mg base CX (k+1) f (PySem.W.fnOf name qual params [.Return (some (.BoolOp .And [.Call (.Name "isinstance" p1) [.Name a p2,.Name "int" p3] [] p4,.UnaryOp .Not (.Call (.Name "isinstance" p5) [.Name a p6,.Name "bool" p7] [] p8) p9] p10)) p11] scope dV kV doc pm an cdv ct) [a] spW:=by
 refine fn_of lk hcd S (fun vs H Q E ⟨e,h,_⟩=>by rw [h]; rfl) fun A outer s H vs Q E hr ⟨n,h,q⟩=>?_
 subst h
 refine ⟨_,pss_one (ps_ret (pe_and (Zc2 (i:=0) (T := "int") (b:=true) gi mi rfl v (pe_bltn g1 m1 (show bootBuiltins "int"=some (.type "int") by decide +kernel) rfl) rfl d0 d1) (pe_one (pe_not (Zc2 (i:=0) (T := "bool") (b:=false) gi mi rfl v (pe_bltn g2 m2 (show bootBuiltins "bool"=some (.type "bool") by decide +kernel) rfl) rfl d0 d1))))),?_⟩
 exact ⟨n,rfl,true,rfl,n,rfl,false,rfl,q⟩
end
end L2


namespace L2
open PySem PySem.Spec PyProof.Rows
noncomputable abbrev Isi (a t:Str) (p1 p2 p3 p4:Pos):Expr:=.Call (.Name "isinstance" p1) [.Name a p2,.Name t p3] [] p4
section
variable {X:Cx}{C:Addr}{x t f:Str}{p1 p2 p3 p4 pos:Pos}{i:Nat}{b:Bool}{e:Expr}{tt:TT}
def Sub (K:PySem.W.Frag) (mg:Str→Option Value) (sc:Scope) (C:Addr) (t:Str) (b:Bool):Prop:=isG sc t∧(t==("__debug__":Str))=false∧∃ B,mg t=some (.ref B)∧PySem.W.kitOne K (.ref C) (.ref B)=some b
theorem ZeL (g:XGet X.K C) (gi:Gl X "isinstance") (mi:X.mg "isinstance"=none) (hN:X.N[i]?=some x) (hv:Vis X.env.scope x) (c:Sub X.K X.mg X.env.scope C t b) (d0:(x==("__debug__":Str))=false) (d1:(x==("__classdict__":Str))=false):PE X (Isi x t p1 p2 p3 p4) (Zfn i C b):=by
 obtain ⟨h1,h2,B,h3,h4⟩:=c
 exact Zc3 g gi mi hN hv (pe_glob h1 h3 (v:=.ref B) rfl h2) (fun _ z=>z) h4 d0 d1
theorem ZeM (g:XGet X.K C) (gi:Gl X "isinstance") (mi:X.mg "isinstance"=none) (hN:X.N[i]?=some x) (hv:Vis X.env.scope x) (gv:isG X.env.scope "ValueError") (mv:X.mg "ValueError"=none) (hk:PySem.W.kitOne X.K (.ref C) (.type "ValueError")=some b) (d0:(x==("__debug__":Str))=false) (d1:(x==("__classdict__":Str))=false) :
  PE X (Isi x "ValueError" p1 p2 p3 p4) (Zfn i C b):=Zc3 g gi mi hN hv (pe_bltn gv mv (show bootBuiltins "ValueError"=some (.type "ValueError") by decide +kernel) (v:=.ty "ValueError") rfl) (fun _ z=>z) hk d0 d1
end
section
variable {P:Program}{w:World}{K:PySem.W.Frag}{mg:Str→Option Value}{base:Heap}{CX:CXT}{k:Nat}{f fw C:Addr}{fdw:FuncData}{pw:List Str}{name qual a m wn fx c1 c3 c4 c5 c6 c7 c8:Str}{params:Arguments}{scope:Scope}{dV kV doc pm cdv ct oc:Value}{an od:Option Addr}{osl:Array (Option Value)}{j1 j2 j3:Nat}
 {q1 q2 q3 q4 q5 q6 q7 q8 q9 q10 q11 q12 q13 q14 q15 q16 q17 q18 q19 q20 q21 q22 q23 q24 q25 q26 q27 q28 q29 q30 q31 q32 q33 q34 q35 q36 q37 q38 q39 q40 q41 q42 q43 q44 q45 q46 q47 q48 q49 q50 q51 q52 q53 q54 q55 q56:Pos}
noncomputable def spT (C:Addr) (fx:Str):Sp:=fun vs H Q _=>∃ e w m,vs=[.ref e,.int m]∧Ex H C e [(fx,.int w)]∧Q (.bl (decide (w=m))) H
theorem Zfq (lk:K.lookup f=some ⟨oc,od,.func (PySem.W.fnOf name qual params [.If (.BoolOp .Or [.UnaryOp .Not (Isi a c1 q1 q2 q3 q4) q5,.UnaryOp .Not (Isi a "ValueError" q6 q7 q8 q9) q10] q11) [.Return (some (.Constant (.bool false) j1 q12)) q13] [] q14,.If (.BoolOp .Or [(Isi a c3 q15 q16 q17 q18),(Isi a c4 q19 q20 q21 q22),(Isi a c5 q23 q24 q25 q26)] q27) [.Return (some (.Constant (.bool false) j2 q28)) q29] [] q30,.If (.BoolOp .Or [(Isi a c6 q31 q32 q33 q34),(Isi a c7 q35 q36 q37 q38),(Isi a c8 q39 q40 q41 q42)] q43) [.Return (some (.Constant (.bool false) j3 q44)) q45] [] q46,.Return (some (.BoolOp .And [.Call (.Name wn q47) [.Attribute (.Name a q48) fx q49] [] q50,.Compare (.Attribute (.Name a q51) fx q52) [.Eq] [.Name m q53] q54] q55)) q56] scope dV kV doc pm an cdv ct),osl⟩)
  (hcd:PySem.W.codeIn K cdv qual=true) (S:FnScope [a,m] [a,m] scope) (va:Vis scope a) (vm:Vis scope m) (gi:isG scope "isinstance") (mi:mg "isinstance"=none) (gv:isG scope "ValueError") (mv:mg "ValueError"=none) (gw:isG scope wn) (mw:mg wn=some (.ref fw)) (kw:PySem.W.keepIn K (.ref fw)=true) (bw:Binds K fdw pw [])
  (W:FnOk P w K mg base CX0 1 fw fdw pw spW) (g:XGet K C) (na:PySem.W.findIn K (.ref C) fx=some none)
  (s1:Sub K mg scope C c1 true) (s2:PySem.W.kitOne K (.ref C) (.type "ValueError")=some true) (s3:Sub K mg scope C c3 false) (s4:Sub K mg scope C c4 false) (s5:Sub K mg scope C c5 false) (s6:Sub K mg scope C c6 false) (s7:Sub K mg scope C c7 false) (s8:Sub K mg scope C c8 false)
  (d0:(a==("__debug__":Str))=false) (d1:(a==("__classdict__":Str))=false) (d2:(m==("__debug__":Str))=false) (d3:(m==("__classdict__":Str))=false) (d4:(wn==("__debug__":Str))=false) :
  FnOk P w K mg base CX0 2 f (PySem.W.fnOf name qual params [.If (.BoolOp .Or [.UnaryOp .Not (Isi a c1 q1 q2 q3 q4) q5,.UnaryOp .Not (Isi a "ValueError" q6 q7 q8 q9) q10] q11) [.Return (some (.Constant (.bool false) j1 q12)) q13] [] q14,.If (.BoolOp .Or [(Isi a c3 q15 q16 q17 q18),(Isi a c4 q19 q20 q21 q22),(Isi a c5 q23 q24 q25 q26)] q27) [.Return (some (.Constant (.bool false) j2 q28)) q29] [] q30,.If (.BoolOp .Or [(Isi a c6 q31 q32 q33 q34),(Isi a c7 q35 q36 q37 q38),(Isi a c8 q39 q40 q41 q42)] q43) [.Return (some (.Constant (.bool false) j3 q44)) q45] [] q46,.Return (some (.BoolOp .And [.Call (.Name wn q47) [.Attribute (.Name a q48) fx q49] [] q50,.Compare (.Attribute (.Name a q51) fx q52) [.Eq] [.Name m q53] q54] q55)) q56] scope dV kV doc pm an cdv ct) [a,m] (spT C fx):=by
 refine fn_of lk hcd S (fun vs H Q E ⟨e,_,_,h,_⟩=>by rw [h]; rfl) fun A outer s H vs Q E hr ⟨e,z,n,h,ex,q⟩=>?_
 subst h
 have O:∀ {t b} (c:Sub K mg scope C t b) {p1 p2 p3 p4},PE (cxOf CX0 P w K mg base [a,m] qual scope f cdv A outer s H E) (Isi a t p1 p2 p3 p4) (Zfn 0 C b):=by
  intro t b c p1 p2 p3 p4
  exact ZeL g gi mi rfl va c d0 d1
 refine ⟨_,pss_cons (ps_if (PW.pt (pw_or (pt_not (pt_val (O s1))) (pw_or1 (pt_not (pt_val (ZeM (i:=0) g gi mi rfl va gv mv s2 d0 d1)))))) (pss_never) pss_nil)
  (pss_cons (ps_if (PW.pt (pw_or (pt_val (O s3)) (pw_or (pt_val (O s4)) (pw_or1 (pt_val (O s5)))))) pss_never pss_nil)
  (pss_cons (ps_if (PW.pt (pw_or (pt_val (O s6)) (pw_or (pt_val (O s7)) (pw_or1 (pt_val (O s8)))))) pss_never pss_nil)
  (pss_one (ps_ret (pe_and (pe_call W hr gw mw kw bw .nil pass0 (pa_cons (ZfK (i:=0) g na rfl va (by rfl) d0 d1) pa_nil) d4) (pe_one (pe_cmp (pc_eqI (ZfK (i:=0) g na rfl va (by rfl) d0 d1) (pe_var (i:=1) rfl vm d2 d3))))))))),?_⟩
 have hl:List.lookup fx [(fx,V.int z)]=some (.int z):=by rw [List.lookup_cons,beq_self_eq_true]
 exact ⟨e,_,rfl,ex,true,rfl,e,_,rfl,ex,true,rfl,e,_,rfl,ex,false,rfl,e,_,rfl,ex,false,rfl,e,_,rfl,ex,false,rfl,e,_,rfl,ex,false,rfl,e,_,rfl,ex,false,rfl,e,_,rfl,ex,false,rfl,e,_,.int z,rfl,ex,hl,z,rfl,true,rfl,e,_,.int z,rfl,ex,hl,.int n,rfl,z,n,rfl,rfl,q⟩
end
end L2


namespace Dp
open PySem PySem.Spec PyProof.Rows L2
variable [ClsTab]
section
variable {P:Program}{w:World}{K:PySem.W.Frag}{mg:Str→Option Value}{base:Heap}{G:Gs}{T:Nat→Option FD}{n i:Nat}{f fI C:Addr}{fdI:FuncData}{psI N pn:List Str}{name qual cn fx:Str}{params:Arguments}{scope:Scope}{dV kV doc pm cdv ct oc:Value}{an od:Option Addr}{osl:Array (Option Value)}
 {YB arg:Expr}{rest:List Stmt}{p1 p2 p3 p4:Pos}{cc ca:CE}
noncomputable def spX (K:PySem.W.Frag) (C:Addr) (fx:Str) (g:Fn):Sp:=fun vs H _ E=>∃ ad ds st z st',StOk K ad H st∧Dens K ad H vs ds∧g ds st=some (.int z,st')∧∀ ad' H' dx,Ext ad H ad' H'→StOk K ad' H' st'→H' dx=some (.xd [(fx,.int z)])→E (.ref C) (some dx) H'
theorem Zcv {a b:Ev}{ρ:Env}{st st':Za}{r:Fl} (h:Vs a (JD b) (fun _ _=>none) ρ st=some (r,st')):∃ st1 d,a ρ st=some (.bl true,st1)∧b ρ st1=some (d,st')∧r=.rt d:=by
 unfold Vs at h
 split at h
 ·rename_i st1 q
  unfold JD at h
  split at h
  ·rename_i d st2 q2
   cases h
   exact ⟨st1,d,q,q2,rfl⟩
  ·cases h
 ·cases h
 ·cases h
theorem Zdj (hc:∀ n,Yz G (run T n)) (gl:∀ A,Room n A→∀ y g,G.lookup y=some g→GOk P w K mg base A (run T n) y g) (c:XCls K C fI fx) (FI:FnOk P w K mg base CX0 1 fI fdI psI (spI C fx)) (bI:Binds K fdI psI [])
  (lk:K.lookup f=some ⟨oc,od,.func (PySem.W.fnOf name qual params (.If YB [.Raise (some (.Call (.Name cn p1) [arg] [] p2)) none p3] [] p4 :: rest) scope dV kV doc pm an cdv ct),osl⟩) (hcd:PySem.W.codeIn K cdv qual=true) (S:FnScope N pn scope)
  (hcc:cE G 60 scope N YB=some cc) (hca:cE G 60 scope N arg=some ca) (hp:Zi arg=true) (hT:T i=some ⟨pn.length,N.length,.ite cc (.ret ca) .stop⟩) (gc:isG scope cn) (mc:mg cn=some (.ref C)) (dc:(cn==("__debug__":Str))=false) (low:∀ ds st r,run T (n+1) i ds st=some r→2≤n) :
  FnOk P w K mg base (CX1 P w) (n+1) f (PySem.W.fnOf name qual params (.If YB [.Raise (some (.Call (.Name cn p1) [arg] [] p2)) none p3] [] p4 :: rest) scope dV kV doc pm an cdv ct) pn (spX K C fx (run T (n+1) i)):=by
 have hrun:run T (n+1) i=fnD (run T n) ⟨pn.length,N.length,.ite cc (.ret ca) .stop⟩:=by
  show (match T i with | some f=>fnD (run T n) f | none=>fun _ _=>none)=_
  rw [hT]
 refine fn_of lk hcd S (fun vs H Q E h=>?_) (fun A outer s H vs Q E hr h=>?_)
 ·obtain ⟨ad,es,st,d,st',_,hd,e,_⟩:=h
  rw [hrun] at e
  unfold fnD at e
  split at e
  ·rename_i hl
   rw [hd.length]
   exact hl
  ·cases e
 ·obtain ⟨ad,es,s0,z,st',S0,hd,e,p⟩:=h
  have h2:2≤n:=low es s0 _ e
  rw [hrun] at e
  unfold fnD at e
  split at e
  ·rename_i hl
   have Cx:Cxt (cxOf (CX1 P w) P w K mg base N qual scope f cdv A outer s H E).nox G (run T n) scope N:={
    hN:=rfl
    vis:=fun y hy=>JN hy
    glb:=fun y hy=>Ug hy
    calm:=rfl
    hu:=hr.units
    gl:=gl _ hr
    cel:=fun y hy=>Uf hy
    nx:=rfl }
   have SO:=(X2 (hc n) 60).1.1 _ _ _ Cx
   have hpl:pn.length≤N.length:=by have:=congrArg List.length S.pre; rw [List.length_take] at this; omega
   have E0':=VE (N:=N) hd (by rw [show es.length=pn.length from hl]; exact hpl)
   refine ⟨_,pss_cons (ps_if (SO _ _ hcc).pt.nox (pss_one (Zdb (E1:=E) c FI (hr.mono h2) hr.hd bI pass0 gc mc (pa_cons (SO _ _ hca).pe.nox pa_nil (Zd hp)) (fun pins σ e s' h=>ZdG h) dc (Zd hp))) pss_never) pss_never,?_⟩
   have key:∃ st1,ev (run T n) cc (es.map some++List.replicate (N.length - es.length) none) s0=some (.bl true,st1)∧ev (run T n) ca (es.map some++List.replicate (N.length - es.length) none) st1=some (.int z,st'):=by
    split at e
    ·rename_i d' st2 q
     cases e
     obtain ⟨st1,d,h1,h2,h3⟩:=Zcv q
     cases h3
     exact ⟨st1,h1,h2⟩
    ·rename_i ρ st1 q
     cases e
    ·cases e
   obtain ⟨st1,k1,k2⟩:=key
   refine ⟨ad,_,s0,true,st1,E0',S0,k1,fun ad1 H1 x1 S1=>?_⟩
   refine ⟨ad1,_,st1,_,st',E0'.mono x1,S1,k2,fun v ad2 H2 x2 S2 hv=>?_⟩
   refine ⟨v,rfl,fun e dx h1 h2 h3=>?_⟩
   cases hv.ofInt
   have he:upd H2 dx (.xd [(fx,.int z)]) e=none:=by rw [upd_ne (Ne.symm h3)]; exact h1
   exact p ad2 _ dx (x1.trans (x2.trans ((Ext.laid h2).trans (Ext.laid he)))) ((S2.laid h2).laid he) (by unfold V3; rw [upd_ne h3,upd_same])
  ·cases e
end
end Dp


namespace Dp
open PySem PySem.Spec PyProof.Rows L2
variable [ClsTab]
noncomputable abbrev Zia (a m er en bn hn tn:Str) (j1 j2:Nat) (q1 q2 q3 q4 q5 q6 q7 q8 q9 q10 q11 q12 q13 q14 q15 q16 q17 q18 q19 q20 q21 q22:Pos):List Stmt:=
 [.Assign [.Name er q1] (.Constant .none j1 q2) q3,.Try [.Expr (.Call (.Name bn q4) [.Name a q5] [] q6) q7] [.ExceptHandler (some (.Name hn q8)) (some en) [.Assign [.Name er q9] (.Name en q10) q11] q12] [] [] q13,
  .Return (some (.BoolOp .And [.Compare (.Name er q14) [.IsNot] [.Constant .none j2 q15] q16,.Call (.Name tn q17) [.Name er q18,.Name m q19] [] q20] q21)) q22]
section
variable {P:Program}{w:World}{K:PySem.W.Frag}{mg:Str→Option Value}{base:Heap}{T:Nat→Option FD}{n i ib:Nat}{f fb ft C Ch:Addr}{fdb fdt:FuncData}{pb pt:List Str}{name qual a m er en bn hn tn fx:Str}{params:Arguments}{scope:Scope}{dV kV doc pm cdv ct oc:Value}{an od:Option Addr}{osl:Array (Option Value)}{j1 j2:Nat}
 {q1 q2 q3 q4 q5 q6 q7 q8 q9 q10 q11 q12 q13 q14 q15 q16 q17 q18 q19 q20 q21 q22:Pos}
noncomputable abbrev ZeV (ib:Nat):CS:=.ret (.cmp .Eq (.bin .Sub (.call ib (.acons (.var 0) .anil) []) (.var 1)) (.cst (.int 0)))
theorem QK {F:Nat→Fn}{ds:List D}{st st':Za}{d:D} (h:fnD F ⟨2,4,ZeV ib⟩ ds st=some (d,st')):∃ x z y,ds=[x,.int y]∧F ib [x] st=some (.int z,st')∧d=.bl (decide (z=y)):=by
 unfold fnD at h
 split at h
 ·rename_i hl
  match ds,hl with
  | [x,y],_=>
   have r:ex F (ZeV ib) ([x,y].map some++List.replicate (4 - 2) none) st=match F ib [x] st with
    | some (r,s1)=>(match XR .Sub r y s1 with
     | some (k,s2)=>(match WN .Eq k (.int 0) s2 with
      | some (d,s3)=>some (.rt d,s3)
      | none=>none)
     | none=>none)
    | none=>none:=by
    have e1:ev F (.call ib (.acons (.var 0) .anil) []) ([x,y].map some++List.replicate (4 - 2) none) st=F ib [x] st:=rfl
    show (match (match (match ev F (.call ib (.acons (.var 0) .anil) []) ([x,y].map some++List.replicate (4 - 2) none) st with
     | some (r,s1)=>XR .Sub r y s1
     | none=>none) with
     | some (k,s2)=>WN .Eq k (.int 0) s2
     | none=>none) with
     | some (d,s3)=>some (Fl.rt d,s3)
     | none=>none)=_
    rw [e1]
    cases F ib [x] st with
    | none=>rfl
    | some v=>
     obtain ⟨v,s1⟩:=v
     show (match (match XR .Sub v y s1 with | some (x,st1)=>WN .Eq x (.int 0) st1 | none=>none) with | some (d,st')=>some (Fl.rt d,st') | none=>none)=(match XR .Sub v y s1 with
     | some (k,s2)=>(match WN .Eq k (.int 0) s2 with
      | some (d,s3)=>some (Fl.rt d,s3)
      | none=>none)
     | none=>none)
     cases XR .Sub v y s1 with
     | none=>rfl
     | some k=>rfl
   rw [show ([x,y]:List D).length=2 from rfl,r] at h
   cases q:F ib [x] st with
   | none=>rw [q] at h; cases h
   | some v=>
    obtain ⟨v,s1⟩:=v
    rw [q] at h
    cases v with
    | int z=>
     cases y with
     | int y=>
      have h':some (D.bl (decide (z - y=0)),s1)=some (d,st'):=h
      cases h'
      exact ⟨x,z,y,rfl,q,by congr 1; exact decide_eq_decide.mpr (by omega)⟩
     | _=>cases h
    | _=>cases y<;>cases h
 ·cases h
structure Nm (scope:Scope) (x:Str):Prop where
 l:scope.names.lookup x=some .local
 d:(x==("__debug__":Str))=false
 c:(x==("__classdict__":Str))=false
structure Gn (scope:Scope) (mg:Str→Option Value) (x:Str) (b:Addr):Prop where
 g:isG scope x
 d:(x==("__debug__":Str))=false
 m:mg x=some (.ref b)
theorem JC (BX:FnOk P w K mg base (CX1 P w) n fb fdb pb (spX K C fx (run T n ib))) (TW:FnOk P w K mg base CX0 2 ft fdt pt (spT C fx)) (bb:Binds K fdb pb []) (bt:Binds K fdt pt []) (kb:PySem.W.keepIn K (.ref fb)=true) (kt:PySem.W.keepIn K (.ref ft)=true)
  (lk:K.lookup f=some ⟨oc,od,.func (PySem.W.fnOf name qual params (Zia a m er en bn hn tn j1 j2 q1 q2 q3 q4 q5 q6 q7 q8 q9 q10 q11 q12 q13 q14 q15 q16 q17 q18 q19 q20 q21 q22) scope dV kV doc pm an cdv ct),osl⟩) (hcd:PySem.W.codeIn K cdv qual=true) (S:FnScope [a,m,er,en] [a,m] scope)
  (na:Nm scope a) (nm:Nm scope m) (ne:Nm scope er) (nn:Nm scope en) (gb:Gn scope mg bn fb) (gh:Gn scope mg hn Ch) (gt:Gn scope mg tn ft) (hm:PySem.W.exmOne K (.ref C) (.ref Ch)=some true)
  (hT:T i=some ⟨2,4,ZeV ib⟩) (low:∀ m ds st,m≤2→run T m ib ds st=none) :
  FnOk P w K mg base CX0 (n+1) f (PySem.W.fnOf name qual params (Zia a m er en bn hn tn j1 j2 q1 q2 q3 q4 q5 q6 q7 q8 q9 q10 q11 q12 q13 q14 q15 q16 q17 q18 q19 q20 q21 q22) scope dV kV doc pm an cdv ct) [a,m] (spD K (run T (n+1) i)):=by
 have hrun:run T (n+1) i=fnD (run T n) ⟨2,4,ZeV ib⟩:=by
  show (match T i with | some f=>fnD (run T n) f | none=>fun _ _=>none)=_
  rw [hT]
 refine fn_of lk hcd S (fun vs H Q E h=>?_) (fun A outer s H vs Q E hr h=>?_)
 ·obtain ⟨ad,es,st,d,st',_,hd,e,_⟩:=h
  rw [hrun] at e
  obtain ⟨x,z,y,rfl,_,_⟩:=QK e
  rw [hd.length]
  rfl
 ·obtain ⟨ad,es,s0,d,st',S0,hd,e,p⟩:=h
  rw [hrun] at e
  obtain ⟨x,z,y,rfl,e0,rfl⟩:=QK e
  have h2:2≤n:=by
   refine Nat.le_of_not_lt fun q=>?_
   rw [low n _ s0 (by omega)] at e0
   cases e0
  cases hd with
  | cons dx hd=>
   cases hd with
   | cons dy hd=>
    cases hd
    cases dy.ofInt
    rename_i vx
    have va:Vis scope a:=.inl na.l
    have vm:Vis scope m:=.inl nm.l
    have ve:Vis scope er:=.inl ne.l
    have vn:Vis scope en:=.inl nn.l
    refine ⟨_,pss_cons (ps_set (i:=2) S.nd rfl (.inl ne.l) pe_non) (pss_cons (ZgT (ni:=3) (k:=n) ⟨rfl,rfl⟩ S.nd BX hr gb.g gb.m kb bb .nil (pa_cons (pe_var (i:=0) rfl va na.d na.c) pa_nil) gh.g gh.m hm rfl nn.l (fun e=>pss_one (ps_set (i:=2) S.nd rfl (.inl ne.l) (pe_var (i:=3) rfl vn nn.d nn.c))) gb.d gh.d)
     (pss_one (ps_ret (pe_and (pe_cmp (pc_notN (pe_var (i:=2) rfl ve ne.d ne.c))) (pe_one (pe_call TW (hr.mono h2) gt.g gt.m kt bt .nil pass0 (pa_cons (pe_var (i:=2) rfl ve ne.d ne.c) (pa_cons (pe_var (i:=1) rfl vm nm.d nm.c) pa_nil)) gt.d)))))),?_⟩
    refine ⟨vx,rfl,fun c o H'=>c=.ref C∧∃ dx ad',o=some dx∧Ext ad H ad' H'∧StOk K ad' H' st'∧H' dx=some (.xd [(fx,.int z)]),⟨ad,[x],s0,z,st',S0,.cons dx .nil,e0,fun ad' H' dx' h1 h2 h3=>⟨rfl,dx',ad',rfl,h1,h2,h3⟩⟩,fun e C' dx' H' h1 h2=>?_⟩
    obtain ⟨hC,d2,ad',hd2,x',S',hx⟩:=h2
    cases hC
    cases hd2
    refine ⟨rfl,.ref e,rfl,?_⟩
    exact ⟨.ref e,rfl,true,rfl,.ref e,rfl,.int y,rfl,e,z,y,rfl,⟨dx',h1,hx⟩,p _ ad' H' x' S' (.bl _)⟩
end
end Dp


namespace Dp
open PySem PySem.Spec PyProof.Rows L2
variable [ClsTab]
noncomputable def bmV:List Value:=[.type "ValueError",.type "Exception",.type "BaseException",.type "object"]
noncomputable def stK (e:DictEntry):Bool:=match e.key with
 | .str _ _=>true
 | _=>false
inductive XAt (K:PySem.W.Frag) (x y fx:Str) (s:Stmt) (C fI:Addr):Prop
 | mk {B N:Addr}{nm q:Str}{bs:List Value}{sn:List Str}{sub:List Value}{ab:Bool}{col:Option Bool}{dd ddB od ofd an:Option Addr}{k0 k1 k2 k3 k5:Option Value}{c0 oc ofc kV dc pm cd ct:Value}{cdB:ClassData}{slB osl ofs:Array (Option Value)}{es:Array DictEntry}{ep:Nat}
  (a:PySem.W.nsIn K mainGlobals x=some (some (.ref C)))
  (l:K.lookup C=some (excClassObj nm q C N bs (.ref B :: [.type "ValueError",.type "Exception",.type "BaseException",.type "object"]) true sn sub ab col dd k0 k1 k2 k3 k5 "ValueError.__new__"))
  (lb:K.lookup B=some ⟨c0,ddB,.cls cdB,slB⟩) (ln:K.lookup cdB.ns=some ⟨oc,od,.dict es ep,osl⟩) (sk:es.toList.all stK=true)
  (n1:PySem.W.nsIn K cdB.ns "__init__"=some none) (n2:PySem.W.nsIn K cdB.ns "__getattribute__"=some none) (n3:PySem.W.nsIn K cdB.ns "__getattr__"=some none) (n4:PySem.W.nsIn K cdB.ns "args"=some none)
  (sa:PySem.W.findIn K (.ref C) "__setattr__"=some (some (.builtin "object.__setattr__"))) (na:PySem.W.findIn K (.ref C) fx=some none) (ini:PySem.W.findIn K (.ref C) "__init__"=some (some (.ref fI))) (kp:PySem.W.keepIn K (.ref C)=true)
  (ga:PySem.W.findIn K (.ref C) "__getattribute__"=some (some (.builtin "BaseException.__getattribute__"))) (gn:PySem.W.findIn K (.ref C) "__getattr__"=some none) (gc:PySem.W.findIn K (.ref C) "__class__"=some (some (.builtin "object.__class__")))
  (gs:PySem.W.specialIn K (.builtin "object.__class__") "__get__"=some (some (.builtin "getset_descriptor.__get__"))) (gt:PySem.W.takesIn K (.builtin "object.__class__")=some true) (gm:PySem.W.mroIn K C (.type "object")=some true) (gd:PySem.W.hasDictIn K C=true)
  (li:K.lookup fI=some ⟨ofc,ofd,.func (PySem.W.fnOf "__init__" y (defArgs s) (defBody s) (defScope s) .none kV dc pm an cd ct),ofs⟩) (ci:PySem.W.codeIn K cd y=true) (ic:ofc=.type "function"):XAt K x y fx s C fI
section
variable {K:PySem.W.Frag}{x y fx:Str}{s:Stmt}{C fI:Addr}
theorem Zhe {B:Addr}{c0 oc:Value}{ddB od:Option Addr}{cdB:ClassData}{slB osl:Array (Option Value)}{es:Array DictEntry}{ep:Nat}{bm tl:List Value}
  (lb:K.lookup B=some ⟨c0,ddB,.cls cdB,slB⟩) (ln:K.lookup cdB.ns=some ⟨oc,od,.dict es ep,osl⟩) (sk:es.toList.all stK=true)
  (nn:∀ n∈quietNames,PySem.W.nsIn K cdB.ns n=some none) (h:Heap) (X:K.In h) (T:OwnTailQ h bm tl):OwnTailQ h bm (.ref B :: tl):=by
 have sk':StrKeys es:=fun e he=>by
  have z:=List.all_eq_true.mp sk e (Array.mem_toList_iff.mpr he)
  unfold stK at z
  split at z
  ·rename_i a b q; exact ⟨a,b,q⟩
  ·cases z
 have ns:h.Ns cdB.ns (nsFind es):=⟨_,es,ep,X _ _ ln,rfl,sk',fun _=>rfl⟩
 refine .own (X _ _ lb) ns (fun n hn=>?_) T
 have e:=nn n hn
 unfold PySem.W.nsIn at e
 rw [ln] at e
 dsimp only at e
 unfold nsFind findBy
 rw [←Array.find?_toList]
 split at e
 ·cases e
 ·rename_i q; rw [q]; rfl
theorem XAt.cls (h:XAt K x y fx s C fI):XCls K C fI fx∧XGet K C:=by
 cases h with
 | mk a l lb ln sk n1 n2 n3 n4 sa na ini kp ga gn gc gs gt gm gd li ci ic=>
  have T:∀ h:Heap,K.In h→OwnTailQ h bmV (.ref _ :: bmV):=fun h X=>Zhe lb ln sk (fun n hn=>by
   unfold quietNames at hn
   simp only [List.mem_cons,List.not_mem_nil,or_false] at hn
   rcases hn with rfl | rfl | rfl | rfl<;>assumption) h X .base
  exact ⟨⟨⟨_,_,_,_,_,_,_,_,_,_,_,_,_,_,_,_,_,_,_,_,l,fun h X=>(T h X).tail,F.excBase_ValueError,F.store_ValueError⟩,sa,na,ini,⟨_,li,ic⟩,kp⟩,⟨⟨_,_,_,_,_,_,_,_,_,_,_,_,_,_,_,_,_,_,l,T,F.attrBase_ValueError⟩,ga,gn,gc,gs,gt,gm,gd⟩⟩
end
end Dp


namespace Dp
open PySem
theorem XI:∀ {l m:List Char},l.map Char.toNat=m.map Char.toNat→l=m
 | [],[],_=>rfl
 | [],_ :: _,h=>by cases h
 | _ :: _,[],h=>by cases h
 | a :: l,b :: m,h=>by
  rw [List.map_cons,List.map_cons] at h
  injection h with h1 h2
  have:a=b:=by
   apply Char.ext
   apply UInt32.toNat_inj.mp
   exact h1
  rw [this,XI h2]
@[simp] theorem Zjt {a b:String}:(Str.ofString a=Str.ofString b)=(a=b):=by
 apply propext
 constructor
 ·intro h
  rw [Str.ofString_eq_toList,Str.ofString_eq_toList] at h
  injection h with h
  have h2:=congrArg Array.toList h
  simp only [List.toList_toArray] at h2
  exact String.toList_inj.mp (XI h2)
 ·intro h; rw [h]
section
variable {F:PFn}{π:Zl}{a b c lo hi it elt cnd:CE}{M:List Nat}
noncomputable def U1 (c:Option P) (x y:Option P):Option P:=match c with
 | some (.bl true)=>x
 | some (.bl false)=>y
 | _=>none
@[simp] theorem ZbV {k:Bool}{x y:Option P}:U1 (some (.bl k)) x y=if k=true then x else y:=by cases k<;>rfl
@[simp] theorem pe_var {i:Nat}:pe F (.var i) π=(π[i]?).join:=by
 show Y8 i π=_
 unfold Y8
 cases π[i]? with
 | none=>rfl
 | some o=>cases o<;>rfl
@[simp] theorem Jw {d:D}:pe F (.cst d) π=ofD d:=Eq.trans rfl rfl
@[simp] theorem Uy {i:Int}:ofD (.int i)=some (.int i):=Eq.trans rfl rfl
@[simp] theorem Zix {i:Str}:ofD (.str i)=some (.str i):=Eq.trans rfl rfl
@[simp] theorem Zi4 {i:Bool}:ofD (.bl i)=some (.bl i):=Eq.trans rfl rfl
@[simp] theorem Qz:XZ []=some []:=Eq.trans rfl rfl
theorem Xw {f:PEv}{g:P→Option P}:pq1 f g π=(f π).bind g:=by unfold pq1; cases f π<;>rfl
theorem Xx {f f':PEv}{g:P→P→Option P}:pq2 f f' g π=(f π).bind fun x=>(f' π).bind fun y=>g x y:=by unfold pq2; cases f π<;>cases f' π<;>rfl
theorem ZgS {f f' f'':PEv}{g:P→P→P→Option P}:pq3 f f' f'' g π=(f π).bind fun x=>(f' π).bind fun y=>(f'' π).bind fun z=>g x y z:=by unfold pq3; cases f π<;>cases f' π<;>cases f'' π<;>rfl
theorem QC {f g h:PEv}:Yp f g h π=U1 (f π) (g π) (h π):=by
 unfold Yp U1
 rfl
@[simp] theorem Zc0 {op:Operator}:pe F (.bin op a b) π=(pe F a π).bind fun x=>(pe F b π).bind fun y=>Xp op x y:=Xx
@[simp] theorem pe_cmp {op:CmpOp}:pe F (.cmp op a b) π=(pe F a π).bind fun x=>(pe F b π).bind fun y=>Y2 op x y:=Xx
@[simp] theorem Zi6:pe F (.neg a) π=(pe F a π).bind Zbd:=Xw
@[simp] theorem pe_not:pe F (.not a) π=(pe F a π).bind Zbf:=Xw
@[simp] theorem pe_and:pe F (.and a b) π=U1 (pe F a π) (pe F b π) (some (.bl false)):=QC
@[simp] theorem pe_or:pe F (.or a b) π=U1 (pe F a π) (some (.bl true)) (pe F b π):=QC
@[simp] theorem ZiA:pe F (.tupE a) π=pe F a π:=Eq.trans rfl rfl
@[simp] theorem Ziy:pe F (.lstE a) π=(pe F a π).bind Jt:=Xw
@[simp] theorem UA:pe F .anil π=some (.tup []):=Eq.trans rfl rfl
@[simp] theorem YM:pe F (.acons a b) π=(pe F a π).bind fun x=>(pe F b π).bind fun y=>VA x y:=Xx
@[simp] theorem pe_ix:pe F (.ix a b) π=(pe F a π).bind fun x=>(pe F b π).bind fun y=>ixP x y:=Xx
@[simp] theorem pe_slice:pe F (.slice a lo hi) π=(pe F a π).bind fun x=>(pe F lo π).bind fun y=>(pe F hi π).bind fun z=>X1 x y z:=ZgS
@[simp] theorem pe_call {f:Nat}{ds:List D}:pe F (.call f a ds) π=(pe F a π).bind (WL (F f) ds):=Xw
@[simp] theorem ZgN:pe F (.len a) π=(pe F a π).bind Jp:=Xw
@[simp] theorem ZgP:pe F (.tupleOf a) π=(pe F a π).bind X5:=Xw
@[simp] theorem Zc4:pe F (.min a b) π=(pe F a π).bind fun x=>(pe F b π).bind fun y=>Zbc x y:=Xx
@[simp] theorem ZgO:pe F (.max a b) π=(pe F a π).bind fun x=>(pe F b π).bind fun y=>Zbb x y:=Xx
@[simp] theorem Zi5 {T:Ty}:pe F (.isi T a) π=(pe F a π).bind (Ql T):=Xw
theorem Zao {rng:Bool}{fr:List Nat}:pe F (.comp rng fr it elt cnd) π=(pe F it π).bind fun x=>(YY rng x).bind fun xs=>if xs.length≤1000 then (Yn (fun p=>pe F elt (Xl π fr p)) (fun p=>pe F cnd (Xl π fr p)) xs).bind (fun ys=>some (.lst true ys)) else none:=by
 show ZJ Zc8 (YY rng) fr (pe F it) (pe F elt) (pe F cnd) π=_
 unfold ZJ
 cases pe F it π with
 | none=>rfl
 | some x=>
  simp only [Option.bind_some]
  cases YY rng x with
  | none=>rfl
  | some xs=>
   simp only [Option.bind_some]
   split
   ·show (match Yn (fun p=>pe F elt (Xl π fr p)) (fun p=>pe F cnd (Xl π fr p)) xs with
     | some ys=>some (P.lst true ys)
     | none=>none)=_
    cases Yn (fun p=>pe F elt (Xl π fr p)) (fun p=>pe F cnd (Xl π fr p)) xs<;>rfl
   ·rfl
@[simp] theorem Ziz:pe F (.lstR a b) π=(pe F a π).bind fun x=>(pe F b π).bind fun y=>W8 x y:=Xx
theorem Zc1 {fr:List Nat}{xs:List P} (h:pe F it π=some (.tup xs)) (hw:xs.all Qj=true) (hl:xs.length≤1000):pe F (.compT fr it elt cnd) π=(Yn (fun p=>pe F elt (Z8 YN π fr p)) (fun p=>pe F cnd (Z8 YN π fr p)) xs).map (P.lst true):=by
 show ZJ YN X7 fr (pe F it) (pe F elt) (pe F cnd) π=_
 unfold ZJ
 have hw:X7 (.tup xs)=some xs:=if_pos hw
 simp only [h,hw,hl,if_true]
 cases Yn (fun p=>pe F elt (Z8 YN π fr p)) (fun p=>pe F cnd (Z8 YN π fr p)) xs<;>rfl
variable {i j:Int}{xs ys:List P}{x y:P}{m:Bool}
@[simp] theorem ZdL:Xp .Add (.int i) (.int j)=some (.int (i+j)):=Eq.trans rfl rfl
@[simp] theorem JT:Xp .Sub (.int i) (.int j)=some (.int (i - j)):=Eq.trans rfl rfl
@[simp] theorem ZdM:Xp .Mult (.int i) (.int j)=if ZI i||ZI j then some (.int (i * j)) else none:=by
 show (match (if ZI i||ZI j then some ((i * j)) else none:Option Int) with
  | some k=>some (P.int k)
  | none=>none)=_
 by_cases h:(ZI i||ZI j)=true
 ·rw [if_pos h,if_pos h]
 ·rw [if_neg h,if_neg h]
@[simp] theorem ZhC:Xp .FloorDiv (.int i) (.int j)=if 0 < j∧j < 1073741824 then some (.int (i / j)) else if j < 0∧-1073741824 < j then some (.int (i.fdiv j)) else none:=by
 show (match (if 0 < j∧j < 1073741824 then some (i / j) else if j < 0∧-1073741824 < j then some (i.fdiv j) else none:Option Int) with
  | some k=>some (P.int k)
  | none=>none)=_
 by_cases h:0 < j∧j < 1073741824
 ·rw [if_pos h,if_pos h]
 ·rw [if_neg h,if_neg h]
  by_cases h':j < 0∧-1073741824 < j
  ·rw [if_pos h',if_pos h']
  ·rw [if_neg h',if_neg h']
@[simp] theorem Zir:Xp .Mod (.int i) (.int j)=if 0 < j then some (.int (i % j)) else if j < 0 then some (.int (i.fmod j)) else none:=by
 show (match (if 0 < j then some (i % j) else if j < 0 then some (i.fmod j) else none:Option Int) with
  | some k=>some (P.int k)
  | none=>none)=_
 by_cases h:0 < j
 ·rw [if_pos h,if_pos h]
 ·rw [if_neg h,if_neg h]
  by_cases h':j < 0
  ·rw [if_pos h',if_pos h']
  ·rw [if_neg h',if_neg h']
@[simp] theorem Ziq:Xp .Add (.tup xs) (.tup ys)=if xs.length+ys.length≤Zg then some (.tup (xs++ys)) else none:=by
 show (if YV .Add=true∧xs.length+ys.length≤Zg then some (P.tup (xs++ys)) else none)=_
 by_cases h:xs.length+ys.length≤Zg
 ·rw [if_pos ⟨rfl,h⟩,if_pos h]
 ·rw [if_neg (fun z=>h z.2),if_neg h]
@[simp] theorem Zis:Xp .Mult (.tup [x]) (.int j)=if j≤1000∧-1000≤j then some (.tup (List.replicate j.toNat x)) else none:=by
 show (if Xj .Mult=true then Zdk [x] j else none)=_
 exact (if_pos (show Xj .Mult=true from rfl)).trans rfl
theorem lim_iff:ZI i=true↔-(2 ^ 64) < i∧i < 2 ^ 64:=by unfold ZI; rw [Bool.and_eq_true,decide_eq_true_iff,decide_eq_true_iff]
theorem Zew (h:-(2 ^ 64) < i) (h':i < 2 ^ 64):ZI i=true:=lim_iff.mpr ⟨h,h'⟩
@[simp] theorem ZiD:Y2 .Lt (.int i) (.int j)=some (.bl (decide (i < j))):=Eq.trans rfl rfl
@[simp] theorem Zgg:Y2 .Gt (.int i) (.int j)=some (.bl (decide (j < i))):=Eq.trans rfl rfl
@[simp] theorem Zit:Y2 .Eq (.int i) (.int j)=some (.bl (decide (i=j))):=Eq.trans rfl rfl
@[simp] theorem Ziu:Y2 .NotEq (.int i) (.int j)=some (.bl (!decide (i=j))):=Eq.trans rfl rfl
@[simp] theorem neg_int:Zbd (.int i)=some (.int (-i)):=Eq.trans rfl rfl
@[simp] theorem ZgB:Zbf (.bl m)=some (.bl (!m)):=Eq.trans rfl rfl
@[simp] theorem Ziw:Jt (.tup xs)=some (.lst true xs):=Eq.trans rfl rfl
@[simp] theorem WP:VA x (.tup xs)=if xs.length < 1000 then some (.tup (x :: xs)) else none:=Eq.trans rfl rfl
@[simp] theorem Ziv:Jp (.tup xs)=some (.int xs.length):=Eq.trans rfl rfl
@[simp] theorem Zev:Jp (.lst m xs)=some (.int xs.length):=Eq.trans rfl rfl
@[simp] theorem Zho:X5 (.lst m xs)=some (.tup xs):=Eq.trans rfl rfl
@[simp] theorem int_int:ZiI (.int i)=some (.int i):=Eq.trans rfl rfl
@[simp] theorem ZeD:Zbc (.int i) (.int j)=some (.int (if j < i then j else i)):=Eq.trans rfl rfl
@[simp] theorem ZeB:Zbb (.int i) (.int j)=some (.int (if j > i then j else i)):=Eq.trans rfl rfl
@[simp] theorem ix_tup:ixP (.tup xs) (.int i)=atP xs i:=Eq.trans rfl rfl
@[simp] theorem ZiT:ixP (.lst m xs) (.int i)=atP xs i:=Eq.trans rfl rfl
@[simp] theorem ZiQ:Ql .int (.int i)=some (.bl true):=Eq.trans rfl rfl
@[simp] theorem ZiP:Ql .bool (.int i)=some (.bl false):=Eq.trans rfl rfl
@[simp] theorem ZiR:Ql .tuple (.tup xs)=some (.bl true):=Eq.trans rfl rfl
@[simp] theorem UV {g:List P→Option P}{ds:List D}:WL g ds (.tup xs)=(XZ ds).bind fun es=>g (xs++es):=by
 show (match XZ ds with | some es=>g (xs++es) | none=>none)=_
 cases XZ ds<;>rfl
theorem Yi {n:Nat} (h:i=(n:Int)):atP xs i=xs[n]?:=by
 subst h
 unfold atP ixN
 rw [if_pos (by omega)]
 by_cases hn:(n:Int) < xs.length
 ·rw [if_pos hn]; rfl
 ·rw [if_neg hn]
  rw [List.getElem?_eq_none (by omega)]
  rfl
@[simp] theorem Zip {n:Nat}:atP xs ((n:Nat):Int)=xs[n]?:=Yi rfl
@[simp] theorem Zjw:atP xs 2=xs[2]?:=Yi rfl
@[simp] theorem Zjx:atP xs 3=xs[3]?:=Yi rfl
@[simp] theorem Zjy:atP xs 4=xs[4]?:=Yi rfl
@[simp] theorem Zjz:atP xs 5=xs[5]?:=Yi rfl
@[simp] theorem ZjA:atP xs 6=xs[6]?:=Yi rfl
@[simp] theorem ZjB:atP xs 7=xs[7]?:=Yi rfl
@[simp] theorem Zju:atP xs 0=xs[0]?:=Yi rfl
@[simp] theorem Zjv:atP xs 1=xs[1]?:=Yi rfl
@[simp] theorem Zjq:atP xs (-1)=xs.getLast?:=by
 unfold atP ixN
 rw [if_neg (by omega)]
 cases xs with
 | nil=>rfl
 | cons x xs=>
  rw [if_pos (by simp only [List.length_cons]; omega),List.getLast?_eq_getElem?]
  show (x :: xs)[(-1+(((x :: xs).length:Nat):Int)).toNat]?=_
  have:(-1+(((x :: xs).length:Nat):Int)).toNat=(x :: xs).length - 1:=by omega
  rw [this]
variable {s t:CS}
noncomputable def QY (x:Option PFl) (g:Zl→Option PFl):Option PFl:=match x with
 | some (.nx π')=>g π'
 | r=>r
@[simp] theorem ZA {g:PEx}:QY (some (.nx π)) g=g π:=Eq.trans rfl rfl
@[simp] theorem ZiB {g:PEx}:QY (some (.rt x)) g=some (.rt x):=Eq.trans rfl rfl
@[simp] theorem Zhn {g:PEx}:QY none g=none:=Eq.trans rfl rfl
noncomputable def Zdx (c:Option P) (x y:Option PFl):Option PFl:=match c with
 | some (.bl true)=>x
 | some (.bl false)=>y
 | _=>none
@[simp] theorem Wx {k:Bool}{x y:Option PFl}:Zdx (some (.bl k)) x y=if k=true then x else y:=by cases k<;>rfl
@[simp] theorem Zat:px F M .skip π=some (.nx π):=Eq.trans rfl rfl
@[simp] theorem Zz:px F M (.seq s t) π=QY (px F M s π) (px F M t):=by
 show Zdc _ _ π=_
 unfold Zdc QY
 rfl
@[simp] theorem Zdh:px F M (.ret a) π=(pe F a π).bind fun d=>some (.rt d):=by
 show Zda _ π=_
 unfold Zda
 cases pe F a π<;>rfl
@[simp] theorem UD:px F M (.ite c s t) π=Zdx (pe F c π) (px F M s π) (px F M t π):=by
 show Zc6 _ _ _ π=_
 unfold Zc6 Zdx
 rfl
@[simp] theorem ZS {o:Option P}:Zj (o :: π) 0 x=some x :: π:=rfl
@[simp] theorem ZR {o:Option P}{k:Nat}:Zj (o :: π) (k+1) x=o :: Zj π k x:=rfl
theorem ZdJ {a b:Bool} (ha:a=true) (hb:b=true):(a&&b)=true:=by rw [ha,hb]; rfl
theorem ZdI {l:List Nat}:(l.all fun i=>!([]:List Nat).contains i)=true:=by
 induction l with
 | nil=>rfl
 | cons a l ih=>exact ih
theorem ZeG:∀ e:CE,noM [] e=true:=by
 intro e
 induction e<;>first | rfl | assumption | (show (_&&_)=true; exact ZdJ (by assumption) (by assumption)) | (show (_&&(_&&_))=true; exact ZdJ (by assumption) (ZdJ (by assumption) (by assumption))) | (show (_&&_)=true; exact ZdJ (by assumption) ZdI)
theorem W4 {e:CE}:Zp [] e x=true:=by unfold Zp; rw [ZeG]; rfl
@[simp] theorem ZeR {k:Nat}:px F [] (.set k a) π=(pe F a π).bind fun p=>some (.nx (Zj π k p)):=by
 show UC _ _ _ _ π=_
 unfold UC
 cases pe F a π with
 | none=>rfl
 | some p=>simp [W4]
theorem Zh8 {k j:Nat} (h:π[j]?=some (some (.lst m xs))) (h1:M.contains j=true) (h2:M.contains k=false):px F M (.set k (.var j)) π=some (.nx (Zj (π.set j none) k (.lst m xs))):=by
 show UC _ _ _ (Y8 j) π=_
 have e:Y8 j π=some (.lst m xs):=by unfold Y8; rw [h]
 have n:Zp M (.var j) (.lst m xs)=false:=by
  show ((!M.contains j)||false)=false
  rw [h1]; rfl
 unfold UC
 rw [e]
 have g:Yr M (.var j) (.lst m xs)=false:=by cases m<;>rfl
 simp only [h2,n,g,Bool.or_false,Bool.false_eq_true,if_false]
 show (if M.contains j&&!M.contains k then some (PFl.nx (Zj (π.set j none) k (.lst m xs))) else none)=_
 rw [h1,h2]; rfl
theorem Zdi {k:Nat}:px F M (.set k a) π=(pe F a π).bind fun p=>if (if M.contains k then Yr M a p else Zp M a p||Yr M a p) then some (.nx (Zj π k p)) else mvP M k a p π:=by
 show UC _ _ _ _ π=_
 unfold UC
 cases pe F a π<;>rfl
theorem UE {k:Nat}{p:P} (h:pe F a π=some p) (hm:M.contains k=false) (hk:Zp M a p=true):px F M (.set k a) π=some (.nx (Zj π k p)):=by
 rw [Zdi,h,Option.bind_some,hm,if_neg Bool.false_ne_true,hk,Bool.true_or,if_pos rfl]
theorem Zas {k:Nat}{p:P} (h:pe F a π=some p) (hm:M.contains k=true) (hk:Yr M a p=true):px F M (.set k a) π=some (.nx (Zj π k p)):=by
 rw [Zdi,h,Option.bind_some,hm,if_pos rfl,if_pos hk]
theorem ZgV {k:Nat} (h:π[k]?=some (some (.lst true xs))):px F M (.app k a) π=(pe F a π).bind fun p=>if M.contains k&&Zp M a p&&decide (xs.length < Zg) then some (.nx (Zj π k (.lst true (xs++[p])))) else none:=by
 show ZcY _ _ _ _ π=_
 unfold ZcY
 rw [h]
 cases pe F a π<;>rfl
theorem ZgW {k:Nat} (h:π[k]?=some (some (.lst true xs))) (he:pe F a π=some (.lst true ys)) (hw:(M.contains k&&noM M a)=true) (hz:xs.length+ys.length≤Zg):px F M (.ext k a) π=some (.nx (Zj π k (.lst true (xs++ys)))):=by
 show Zc5 _ _ _ _ π=_
 unfold Zc5
 simp only [h,he]
 rw [if_pos (by rw [Bool.and_eq_true]; exact ⟨hw,decide_eq_true hz⟩)]
theorem Zaq {k:Nat} (h:pe F it π=some (.lst m xs)) (hw:!M.contains k&&X6 M (ZG s) it xs=true):px F M (.for1 k false it s) π=Zy (fun d π=>px F M s (Zj π k d)) xs π:=by
 show Jx _ _ _ _ _ _ _ π=_
 unfold Jx
 rw [h]
 show (if !M.contains k&&X6 M (ZG s) it xs then Zy (fun d π=>px F M s (Zj π k d)) xs π else none)=_
 rw [if_pos (by simpa using hw)]
theorem ZeQ {k:Nat}{n:Int} (h:pe F it π=some (.int n)) (h1:n < 2 ^ 62) (h2:-(2 ^ 62)≤n) (hw:M.contains k=false):px F M (.for1 k true it s) π=Zy (fun d π=>px F M s (Zj π k d)) (YE n) π:=by
 show Jx _ _ _ _ _ _ _ π=_
 unfold Jx
 rw [h]
 have e:Uq true (.int n)=some (YE n):=by
  show (if n < 2 ^ 62∧-(2 ^ 62)≤n then some (YE n) else none)=_
  rw [if_pos ⟨h1,h2⟩]
 simp only [e]
 rw [if_pos (by simpa using hw)]
theorem ZeP {k l:Nat}{x:P} (h:pe F it π=some x) (hx:ZdE x=some xs) (hw:(!M.contains k&&!M.contains l&&noM M it)=true):px F M (.forE k l it s) π=YK (fun x y π=>px F M s (Zj (Zj π k x) l y)) (Xv 0 xs) π:=by
 show QF _ _ _ _ _ _ π=_
 unfold QF
 rw [h]
 dsimp only
 rw [hx]
 show (if (!M.contains k&&!M.contains l&&noM M it)=true then _ else _)=_
 rw [if_pos hw]
theorem ZeO {k:Nat}{zs:List Int}{p:P} (h:pe F it π=some p) (hz:Uo p=some zs) (hw:M.contains k=false):px F M (.for3 k it s) π=Zy (fun d π=>px F M s (Zj π k d)) (zs.map P.int) π:=by
 show QE _ _ _ _ π=_
 unfold QE
 rw [h]
 simp only [hz]
 rw [if_pos (by simpa using hw)]
theorem QI {k l:Nat} (h:pe F it π=some (.tup xs)) (hw:!M.contains k&&!M.contains l&&Zp M it (.tup xs)=true):px F M (.for2 k l it s) π=Zy (Xn k l (px F M s)) xs π:=by
 show QD _ _ _ _ _ _ _ π=_
 unfold QD
 rw [h]
 show (if !M.contains k&&!M.contains l&&Zp M it (.tup xs) then Zy (Xn k l (px F M s)) xs π else none)=_
 rw [if_pos (by simpa using hw)]
noncomputable def QZ (x:Option PFl) (g:Zl→Option PFl):Option PFl:=match x with
 | some (.nx π')=>g π'
 | some (.ct π')=>g π'
 | some (.bk π')=>some (.nx π')
 | some (.rt v)=>some (.rt v)
 | none=>none
@[simp] theorem XM {g:PEx}:QZ (some (.nx π)) g=g π:=Eq.trans rfl rfl
theorem ZcF {B:P→Zl→Option PFl}:Zy B [] π=some (.nx π):=Eq.trans rfl rfl
theorem YL {B:P→Zl→Option PFl}:Zy B (x :: xs) π=QZ (B x π) (Zy B xs):=by
 show (match B x π with
  | some (.nx π')=>Zy B xs π'
  | some (.ct π')=>Zy B xs π'
  | some (.bk π')=>some (.nx π')
  | some (.rt v)=>some (.rt v)
  | none=>none)=_
 unfold QZ
 rfl
theorem mem_range {n:Int}{p:P} (h:p∈YE n):∃ k:Nat,p=.int (k:Int)∧(k:Int) < n:=by
 obtain ⟨k,hk,rfl⟩:=List.mem_map.mp h
 exact ⟨k,rfl,by have:=List.mem_range.mp hk; omega⟩
theorem Qo {B:P→Zl→Option PFl}{I:Zl→Prop}:∀ {xs:List P},(∀ x∈xs,∀ π,I π→∃ π',B x π=some (.nx π')∧I π')→∀ π,I π→∃ π',Zy B xs π=some (.nx π')∧I π'
 | [],_,π,h=>⟨π,rfl,h⟩
 | x :: xs,h,π,i=>by
  obtain ⟨π1,e1,i1⟩:=h x List.mem_cons_self π i
  obtain ⟨π2,e2,i2⟩:=Qo (fun y hy=>h y (List.mem_cons_of_mem _ hy)) π1 i1
  exact ⟨π2,by unfold Zy; rw [e1]; exact e2,i2⟩
noncomputable def Vg (x:Option PFl):Option P:=match x with
 | some (.rt d)=>some d
 | some (.nx _)=>some .non
 | _=>none
@[simp] theorem Zjk:Vg (some (.rt x))=some x:=Eq.trans rfl rfl
theorem Zgm {f:FD}{ds:List P} (hl:ds.length=f.ps) (hM:(ZP f.body).all (fun i=>decide (f.ps≤i))=true):fnP F f ds=Vg (px F (ZP f.body) f.body (ds.map some++List.replicate (f.ns - ds.length) none)):=by
 unfold fnP
 rw [if_pos ⟨hl,hM⟩]
 rfl
theorem ZV {T:Nat→Option FD}{n k:Nat}{f:FD}{ds:List P} (h:T k=some f) (hl:ds.length=f.ps) (hM:(ZP f.body).all (fun i=>decide (f.ps≤i))=true) (hN:(W1 k&&!Va f)=false:=by rfl) (hW:(k==16&&(T 999).isSome)=false:=by rfl) :
  Zv T (n+1) k ds=Vg (px (Zv T n) (ZP f.body) f.body (ds.map some++List.replicate (f.ns - ds.length) none)):=by
 have:Zv T (n+1) k=fnP (Zv T n) f:=by rw [VS h,if_neg (by rw [hN]; exact Bool.false_ne_true)]
 rw [this]
 exact Zgm hl hM
section
variable {F:PFn}{M:List Nat}{π π':Zl}{a b:CS}{c:CE}{v:P}
end
theorem Zhm {xs:List P}:YY false (.tup xs)=some xs:=rfl
theorem VQ {B:P→Zl→Option PFl}{I:Nat→Zl→Prop}:∀ (j k:Nat),(∀ i,k≤i→i < k+j→∀ π,I i π→∃ π',B (.int (i:Int)) π=some (.nx π')∧I (i+1) π')→∀ π,I k π→∃ π',Zy B ((List.range' k j).map fun (i:Nat)=>P.int (i:Int)) π=some (.nx π')∧I (k+j) π'
 | 0,k,_,π,h=>⟨π,rfl,h⟩
 | j+1,k,hb,π,h=>by
  obtain ⟨π1,e1,i1⟩:=hb k (Nat.le_refl _) (by omega) π h
  obtain ⟨π2,e2,i2⟩:=VQ j (k+1) (fun i h1 h2=>hb i (by omega) (by omega)) π1 i1
  refine ⟨π2,?_,by rw [show k+(j+1)=k+1+j by omega]; exact i2⟩
  rw [List.range'_succ,List.map_cons,YL,e1]
  exact e2
theorem W7 {B:P→Zl→Option PFl} (I:Nat→Zl→Prop) {m:Nat} (hb:∀ i,i < m→∀ π,I i π→∃ π',B (.int (i:Int)) π=some (.nx π')∧I (i+1) π') {π:Zl} (h:I 0 π):∃ π',Zy B (YE (m:Int)) π=some (.nx π')∧I m π':=by
 have:=VQ (B:=B) (I:=I) m 0 (fun i _ h2=>hb i (by omega)) π h
 rw [Nat.zero_add] at this
 have e:YE (m:Int)=(List.range' 0 m).map fun (i:Nat)=>P.int (i:Int):=by
  unfold YE
  rw [show ((m:Int)).toNat=m by omega,List.range_eq_range']
 rw [e]; exact this
theorem Zar {k:Nat}{n:Nat} (h:pe F it π=some (.int (n:Int))) (h1:n≤100000) (hw:M.contains k=false):px F M (.for1 k true it s) π=Zy (fun d π=>px F M s (Zj π k d)) (YE (n:Int)) π:=
 ZeQ h (Int.lt_of_le_of_lt (Int.ofNat_le.mpr h1) (by decide)) (Int.le_trans (by decide) (Int.natCast_nonneg n)) hw
mutual
theorem ZaI:∀ {n:Nat}{x:P},okP n x=true→Wj x x=true
 | _,.non,_=>rfl
 | _,.bl a,_=>by simp [Wj]
 | _,.int a,_=>by simp [Wj]
 | _,.str a,_=>by simp [Wj]
 | 0,.tup a,h=>by simp [okP] at h
 | n+1,.tup a,h=>WD (n:=n) (x:=a) h
 | _,.lst a b,h=>by simp [okP] at h
 | _,.dct a b,h=>by simp [okP] at h
 | _,.obj a,h=>by simp [okP] at h
 | _,.kt a,h=>by simp [okP] at h
theorem WD:∀ {n:Nat}{x:List P},Vt n x=true→XA x x=true
 | _,[],_=>rfl
 | n,a :: x,h=>by
  have h:(okP n a&&Vt n x)=true:=h
  rw [Bool.and_eq_true] at h
  show (Wj a a&&XA x x)=true
  rw [ZaI h.1,WD h.2]
  rfl
end
theorem QA {n:Nat}:∀ {xs:List P},(∀ x∈xs,okP n x=true)→Vt n xs=true
 | [],_=>rfl
 | x :: xs,h=>by
  show (okP n x&&Vt n xs)=true
  rw [h x List.mem_cons_self,QA fun y hy=>h y (List.mem_cons_of_mem _ hy)]
  rfl
end
end Dp


namespace Dp
open PySem
noncomputable def ZbJ:FD:=⟨1,1,(.seq (.ret (.bin .Sub (.bin .Mod (.bin .Add (.var 0) (.cst (.int 1000000000))) (.cst (.int 2000000000))) (.cst (.int 1000000000))))
 .skip)⟩
noncomputable def c__law_whole:FD:=⟨1,1,(.seq (.ret (.and (.isi .int (.var 0)) (.not (.isi .bool (.var 0)))))
 .skip)⟩
noncomputable def ZaJ:FD:=⟨2,2,(.seq (.ite (.cmp .Eq (.var 1) (.cst (.int 0))) (.seq (.ret (.cst (.int 0)))
 .skip) .skip)
 (.seq (.ret (.call 0 (.acons (.bin .FloorDiv (.var 0) (.var 1)) .anil) []))
 .skip))⟩
noncomputable def UU:FD:=⟨2,2,(.seq (.ite (.cmp .Eq (.var 1) (.cst (.int 0))) (.seq (.ret (.var 0))
 .skip) .skip)
 (.seq (.ret (.bin .Sub (.var 0) (.bin .Mult (.var 1) (.bin .FloorDiv (.var 0) (.var 1)))))
 .skip))⟩
noncomputable def ZbN:FD:=⟨3,3,(.seq (.ite (.cmp .Eq (.var 1) (.cst (.str (S "+")))) (.seq (.ret (.call 0 (.acons (.bin .Add (.var 0) (.var 2)) .anil) []))
 .skip) .skip)
 (.seq (.ite (.cmp .Eq (.var 1) (.cst (.str (S "-")))) (.seq (.ret (.call 0 (.acons (.bin .Sub (.var 0) (.var 2)) .anil) []))
 .skip) .skip)
 (.seq (.ite (.cmp .Eq (.var 1) (.cst (.str (S "*")))) (.seq (.ret (.call 0 (.acons (.bin .Mult (.var 0) (.var 2)) .anil) []))
 .skip) .skip)
 (.seq (.ite (.cmp .Eq (.var 1) (.cst (.str (S "/")))) (.seq (.ret (.call 1 (.acons (.var 0) (.acons (.var 2) .anil)) []))
 .skip) .skip)
 (.seq (.ret (.call 2 (.acons (.var 0) (.acons (.var 2) .anil)) []))
 .skip)))))⟩
noncomputable def Zbw:FD:=⟨1,2,(.seq (.set 1 (.lstE (.acons (.neg (.cst (.int 1000000000))) (.acons (.neg (.cst (.int 999999999))) (.acons (.neg (.cst (.int 2))) (.acons (.neg (.cst (.int 1))) (.acons (.cst (.int 0)) (.acons (.cst (.int 1)) (.acons (.cst (.int 2)) (.acons (.cst (.int 999999999)) .anil))))))))))
 (.seq (.ite (.cmp .Eq (.bin .Mod (.var 0) (.cst (.int 3))) (.cst (.int 0))) (.seq (.ret (.ix (.var 1) (.bin .Mod (.bin .FloorDiv (.var 0) (.cst (.int 3))) (.cst (.int 8)))))
 .skip) .skip)
 (.seq (.ite (.cmp .Eq (.bin .Mod (.var 0) (.cst (.int 3))) (.cst (.int 1))) (.seq (.ret (.bin .Sub (.bin .Mod (.bin .FloorDiv (.var 0) (.cst (.int 3))) (.cst (.int 13))) (.cst (.int 6))))
 .skip) .skip)
 (.seq (.ret (.bin .Sub (.bin .Mod (.bin .Mult (.bin .FloorDiv (.var 0) (.cst (.int 3))) (.cst (.int 48271))) (.cst (.int 2000000000))) (.cst (.int 1000000000))))
 .skip))))⟩
noncomputable def ZdQ:FD:=⟨1,1,(.seq (.ret (.and (.call 17 (.acons (.var 0) .anil) []) (.and (.cmp .LtE (.neg (.cst (.int 1000000000))) (.var 0)) (.cmp .LtE (.var 0) (.cst (.int 999999999))))))
 .skip)⟩
noncomputable def ZbI:FD:=⟨2,2,(.seq (.ite (.cmp .Gt (.var 1) (.cst (.int 0))) (.seq (.ret (.and (.cmp .LtE (.cst (.int 0)) (.var 0)) (.cmp .Lt (.var 0) (.var 1))))
 .skip) .skip)
 (.seq (.ret (.and (.cmp .Lt (.var 1) (.var 0)) (.cmp .LtE (.var 0) (.cst (.int 0)))))
 .skip))⟩
noncomputable def WK:FD:=⟨3,3,(.seq (.ret (.bin .Add (.bin .Add (.slice (.var 0) .nop (.part (.var 1))) (.tupE (.acons (.var 2) .anil))) (.slice (.var 0) (.part (.bin .Add (.var 1) (.cst (.int 1)))) .nop)))
 .skip)⟩
noncomputable def JV:FD:=⟨3,3,(.seq (.ite (.cmp .Eq (.var 1) (.cst (.str (S "<")))) (.seq (.ret (.cmp .Lt (.var 0) (.var 2)))
 .skip) .skip)
 (.seq (.ite (.cmp .Eq (.var 1) (.cst (.str (S "<=")))) (.seq (.ret (.cmp .LtE (.var 0) (.var 2)))
 .skip) .skip)
 (.seq (.ite (.cmp .Eq (.var 1) (.cst (.str (S "=")))) (.seq (.ret (.cmp .Eq (.var 0) (.var 2)))
 .skip) .skip)
 (.seq (.ite (.cmp .Eq (.var 1) (.cst (.str (S ">=")))) (.seq (.ret (.cmp .GtE (.var 0) (.var 2)))
 .skip) .skip)
 (.seq (.ite (.cmp .Eq (.var 1) (.cst (.str (S ">")))) (.seq (.ret (.cmp .Gt (.var 0) (.var 2)))
 .skip) .skip)
 (.seq (.ret (.cmp .NotEq (.var 0) (.var 2)))
 .skip))))))⟩
noncomputable def ZdU:FD:=⟨2,2,(.seq (.ite (.cmp .Eq (.ix (.var 0) (.cst (.int 0))) (.cst (.str (S "name")))) (.seq (.ret (.ix (.var 1) (.ix (.var 0) (.cst (.int 1)))))
 .skip) .skip)
 (.seq (.ret (.ix (.var 0) (.cst (.int 1))))
 .skip))⟩
noncomputable def ZbK:FD:=⟨2,2,(.seq (.ret (.cmp .GtE (.ix (.var 1) (.cst (.int 0))) (.len (.ix (.var 0) (.cst (.int 2))))))
 .skip)⟩
noncomputable def Wk:FD:=⟨2,3,(.seq (.ite (.cmp .NotEq (.ix (.var 0) (.cst (.int 0))) (.cst (.str (S "put")))) (.seq (.ret (.var 1))
 .skip) .skip)
 (.seq (.set 2 (.call 3 (.acons (.call 5 (.acons (.ix (.var 0) (.cst (.int 2))) (.acons (.var 1) .anil)) []) (.acons (.ix (.var 0) (.cst (.int 3))) (.acons (.call 5 (.acons (.ix (.var 0) (.cst (.int 4))) (.acons (.var 1) .anil)) []) .anil))) []))
 (.seq (.ret (.call 42 (.acons (.var 1) (.acons (.ix (.var 0) (.cst (.int 1))) (.acons (.var 2) .anil))) []))
 .skip)))⟩
noncomputable def WJ:FD:=⟨3,3,(.seq (.ite (.cmp .Eq (.ix (.var 0) (.cst (.int 0))) (.cst (.str (S "go")))) (.seq (.ret (.ix (.var 0) (.cst (.int 1))))
 .skip) .skip)
 (.seq (.ite (.and (.cmp .Eq (.ix (.var 0) (.cst (.int 0))) (.cst (.str (S "if")))) (.call 4 (.acons (.call 5 (.acons (.ix (.var 0) (.cst (.int 1))) (.acons (.var 2) .anil)) []) (.acons (.ix (.var 0) (.cst (.int 2))) (.acons (.call 5 (.acons (.ix (.var 0) (.cst (.int 3))) (.acons (.var 2) .anil)) []) .anil))) [])) (.seq (.ret (.ix (.var 0) (.cst (.int 4))))
 .skip) .skip)
 (.seq (.ret (.bin .Add (.var 1) (.cst (.int 1))))
 .skip)))⟩
noncomputable def ZdS:FD:=⟨2,5,(.seq (.ite (.call 7 (.acons (.var 0) (.acons (.var 1) .anil)) []) (.seq (.ret (.tupE (.acons (.cst (.str (S "none"))) .anil)))
 .skip) .skip)
 (.seq (.set 2 (.ix (.var 1) (.cst (.int 0))))
 (.seq (.set 3 (.ix (.var 1) (.cst (.int 1))))
 (.seq (.set 4 (.ix (.ix (.var 0) (.cst (.int 2))) (.var 2)))
 (.seq (.ite (.cmp .Eq (.ix (.var 4) (.cst (.int 0))) (.cst (.str (S "tell")))) (.seq (.ret (.tupE (.acons (.cst (.str (S "told"))) (.acons (.call 5 (.acons (.ix (.var 4) (.cst (.int 1))) (.acons (.var 3) .anil)) []) .anil))))
 .skip) .skip)
 (.seq (.ret (.tupE (.acons (.call 9 (.acons (.var 4) (.acons (.var 2) (.acons (.var 3) .anil))) []) (.acons (.call 8 (.acons (.var 4) (.acons (.var 3) .anil)) []) .anil))))
 .skip))))))⟩
noncomputable def Q6:CS:=(.seq (.set 1 (.bin .Mult (.var 1) (.cst (.int 2))))
 .skip)
noncomputable def ZbL:FD:=⟨1,3,(.seq (.set 1 (.cst (.int 1)))
 (.seq (.for1 2 true (.var 0) Q6)
 (.seq (.ret (.var 1))
 .skip)))⟩
noncomputable def ZdR:FD:=⟨2,2,(.seq (.ret (.tupE (.acons (.cst (.int 0)) (.acons (.bin .Add (.var 1) (.bin .Mult (.tupE (.acons (.cst (.int 0)) .anil)) (.bin .Sub (.ix (.var 0) (.cst (.int 1))) (.len (.var 1))))) .anil))))
 .skip)⟩
noncomputable def Uc:FD:=⟨1,1,(.seq (.ret (.isi .str (.ix (.var 0) (.cst (.int 0)))))
 .skip)⟩
noncomputable def ZaH:CS:=(.seq (.set 6 (.call 10 (.acons (.var 0) (.acons (.var 3) .anil)) []))
 (.seq (.app 4 (.var 6))
 (.seq (.ite (.call 11 (.acons (.var 6) .anil) []) (.seq (.ret (.tupleOf (.var 4)))
 .skip) .skip)
 (.seq (.set 3 (.var 6))
 .skip))))
noncomputable def ZdT:FD:=⟨3,7,(.seq (.set 3 (.call 6 (.acons (.var 0) (.acons (.var 1) .anil)) []))
 (.seq (.set 4 (.lstE (.acons (.var 3) .anil)))
 (.seq (.for1 5 true (.var 2) ZaH)
 (.seq (.app 4 (.ife (.call 7 (.acons (.var 0) (.acons (.var 3) .anil)) []) (.tupE (.acons (.cst (.str (S "none"))) .anil)) (.tupE (.acons (.cst (.str (S "late"))) .anil))))
 (.seq (.ret (.tupleOf (.var 4)))
 .skip)))))⟩
noncomputable def ZaL:FD:=⟨3,3,(.seq (.ret (.ix (.call 12 (.acons (.var 0) (.acons (.var 1) (.acons (.var 2) .anil))) []) (.neg (.cst (.int 1)))))
 .skip)⟩
noncomputable def Wl:CE:=(.comp false [] (.var 1) (.ix (.var 0) (.cst (.int 0))) (.cst (.bl true)))
noncomputable def Vo:FD:=⟨1,2,(.seq (.set 1 (.slice (.var 0) .nop (.part (.neg (.cst (.int 1))))))
 (.seq (.ite (.cmp .NotEq (.ix (.ix (.var 0) (.neg (.cst (.int 1)))) (.cst (.int 0))) (.cst (.str (S "told")))) (.seq (.set 1 (.slice (.var 1) .nop (.part (.neg (.cst (.int 1))))))
 .skip) .skip)
 (.seq (.ret Wl)
 .skip)))⟩
noncomputable def UQ:CS:=(.seq (.set 1 (.bin .BitOr (.var 1) (.call 43 (.acons (.var 2) .anil) [])))
 .skip)
noncomputable def ZaM:FD:=⟨1,3,(.seq (.set 1 (.cst (.int 0)))
 (.seq (.for1 2 false (.call 14 (.acons (.var 0) .anil) []) UQ)
 (.seq (.ret (.var 1))
 .skip)))⟩
noncomputable def Zgc:FD:=⟨3,3,(.seq (.ret (.call 44 (.acons (.call 12 (.acons (.var 0) (.acons (.var 1) (.acons (.var 2) .anil))) []) .anil) []))
 .skip)⟩
noncomputable def Vn:FD:=⟨2,2,(.seq (.ret (.and (.cmp .Eq (.ix (.var 0) (.cst (.int 0))) (.cst (.str (S "number")))) (.cmp .Eq (.ix (.var 1) (.cst (.int 0))) (.cst (.str (S "number"))))))
 .skip)⟩
noncomputable def WH:FD:=⟨3,3,(.seq (.ite (.cmp .Lt (.ix (.var 0) (.var 2)) (.ix (.var 0) (.var 1))) (.seq (.ret (.call 42 (.acons (.call 42 (.acons (.var 0) (.acons (.var 1) (.acons (.ix (.var 0) (.var 2)) .anil))) []) (.acons (.var 2) (.acons (.ix (.var 0) (.var 1)) .anil))) []))
 .skip) .skip)
 (.seq (.ret (.var 0))
 .skip))⟩
noncomputable def WG:FD:=⟨1,1,(.seq (.ite (.and (.cmp .Eq (.ix (.var 0) (.cst (.int 3))) (.cst (.str (S "-")))) (.cmp .Eq (.ix (.ix (.var 0) (.cst (.int 4))) (.cst (.int 0))) (.cst (.str (S "number"))))) (.seq (.ret (.bin .Add (.slice (.var 0) .nop (.part (.cst (.int 3)))) (.tupE (.acons (.cst (.str (S "+"))) (.acons (.tupE (.acons (.cst (.str (S "number"))) (.acons (.call 0 (.acons (.neg (.ix (.ix (.var 0) (.cst (.int 4))) (.cst (.int 1)))) .anil) []) .anil))) .anil)))))
 .skip) .skip)
 (.seq (.ret (.var 0))
 .skip))⟩
noncomputable def Xi:FD:=⟨1,4,(.seq (.set 1 (.ix (.var 0) (.cst (.int 2))))
 (.seq (.set 2 (.ix (.var 0) (.cst (.int 3))))
 (.seq (.set 3 (.ix (.var 0) (.cst (.int 4))))
 (.seq (.ite (.or (.and (.cmp .Eq (.var 2) (.cst (.str (S "*")))) (.cmp .Eq (.var 3) (.cst (.tup [(.str (S "number")),(.int 0)])))) (.or (.and (.cmp .Eq (.var 2) (.cst (.str (S "mod")))) (.cmp .Eq (.var 3) (.cst (.tup [(.str (S "number")),(.int 1)])))) (.and (.cmp .Eq (.var 2) (.cst (.str (S "-")))) (.cmp .Eq (.var 1) (.var 3))))) (.seq (.ret (.tupE (.acons (.cst (.str (S "put"))) (.acons (.ix (.var 0) (.cst (.int 1))) (.acons (.cst (.tup [(.str (S "number")),(.int 0)])) (.acons (.cst (.str (S "+"))) (.acons (.cst (.tup [(.str (S "number")),(.int 0)])) .anil)))))))
 .skip) .skip)
 (.seq (.ite (.and (.cmp .In (.var 2) (.tupE (.acons (.cst (.str (S "*"))) (.acons (.cst (.str (S "/"))) .anil)))) (.cmp .Eq (.var 3) (.cst (.tup [(.str (S "number")),(.int 1)])))) (.seq (.ret (.tupE (.acons (.cst (.str (S "put"))) (.acons (.ix (.var 0) (.cst (.int 1))) (.acons (.var 1) (.acons (.cst (.str (S "+"))) (.acons (.cst (.tup [(.str (S "number")),(.int 0)])) .anil)))))))
 .skip) .skip)
 (.seq (.ret (.var 0))
 .skip))))))⟩
noncomputable def Q9:FD:=⟨1,1,(.seq (.ite (.call 73 (.acons (.ix (.var 0) (.cst (.int 2))) (.acons (.ix (.var 0) (.cst (.int 4))) .anil)) []) (.seq (.ret (.tupE (.acons (.cst (.str (S "put"))) (.acons (.ix (.var 0) (.cst (.int 1))) (.acons (.tupE (.acons (.cst (.str (S "number"))) (.acons (.call 3 (.acons (.ix (.ix (.var 0) (.cst (.int 2))) (.cst (.int 1))) (.acons (.ix (.var 0) (.cst (.int 3))) (.acons (.ix (.ix (.var 0) (.cst (.int 4))) (.cst (.int 1))) .anil))) []) .anil))) (.acons (.cst (.str (S "+"))) (.acons (.cst (.tup [(.str (S "number")),(.int 0)])) .anil)))))))
 .skip) .skip)
 (.seq (.set 0 (.call 75 (.acons (.var 0) .anil) []))
 (.seq (.ite (.cmp .In (.ix (.var 0) (.cst (.int 3))) (.tupE (.acons (.cst (.str (S "+"))) (.acons (.cst (.str (S "*"))) .anil)))) (.seq (.set 0 (.call 74 (.acons (.var 0) (.acons (.cst (.int 2)) (.acons (.cst (.int 4)) .anil))) []))
 .skip) .skip)
 (.seq (.set 0 (.call 76 (.acons (.var 0) .anil) []))
 (.seq (.ite (.cmp .Eq (.var 0) (.tupE (.acons (.cst (.str (S "put"))) (.acons (.ix (.var 0) (.cst (.int 1))) (.acons (.tupE (.acons (.cst (.str (S "name"))) (.acons (.ix (.var 0) (.cst (.int 1))) .anil))) (.acons (.cst (.str (S "+"))) (.acons (.cst (.tup [(.str (S "number")),(.int 0)])) .anil))))))) (.seq (.ret (.cst (.tup [(.str (S "skip"))])))
 .skip) .skip)
 (.seq (.ret (.var 0))
 .skip))))))⟩
noncomputable def XC:FD:=⟨1,1,(.seq (.ite (.cmp .Eq (.ix (.var 0) (.cst (.int 2))) (.cst (.str (S ">")))) (.seq (.ret (.tupE (.acons (.cst (.str (S "if"))) (.acons (.ix (.var 0) (.cst (.int 3))) (.acons (.cst (.str (S "<"))) (.acons (.ix (.var 0) (.cst (.int 1))) (.acons (.ix (.var 0) (.cst (.int 4))) .anil)))))))
 .skip) .skip)
 (.seq (.ite (.cmp .Eq (.ix (.var 0) (.cst (.int 2))) (.cst (.str (S ">=")))) (.seq (.ret (.tupE (.acons (.cst (.str (S "if"))) (.acons (.ix (.var 0) (.cst (.int 3))) (.acons (.cst (.str (S "<="))) (.acons (.ix (.var 0) (.cst (.int 1))) (.acons (.ix (.var 0) (.cst (.int 4))) .anil)))))))
 .skip) .skip)
 (.seq (.ret (.var 0))
 .skip)))⟩
noncomputable def Ud:FD:=⟨1,1,(.seq (.ret (.or (.call 73 (.acons (.ix (.var 0) (.cst (.int 1))) (.acons (.ix (.var 0) (.cst (.int 3))) .anil)) []) (.cmp .Eq (.ix (.var 0) (.cst (.int 1))) (.ix (.var 0) (.cst (.int 3))))))
 .skip)⟩
noncomputable def ZaN:FD:=⟨1,2,(.seq (.set 1 (.call 4 (.acons (.ix (.ix (.var 0) (.cst (.int 1))) (.cst (.int 1))) (.acons (.ix (.var 0) (.cst (.int 2))) (.acons (.ix (.ix (.var 0) (.cst (.int 3))) (.cst (.int 1))) .anil))) []))
 (.seq (.ret (.ife (.var 1) (.tupE (.acons (.cst (.str (S "go"))) (.acons (.ix (.var 0) (.cst (.int 4))) .anil))) (.cst (.tup [(.str (S "skip"))]))))
 .skip))⟩
noncomputable def WI:FD:=⟨1,3,(.seq (.set 1 (.ix (.var 0) (.cst (.int 1))))
 (.seq (.set 2 (.ix (.var 0) (.cst (.int 3))))
 (.seq (.ite (.cmp .NotEq (.ix (.var 0) (.cst (.int 2))) (.cst (.str (S "<=")))) (.seq (.ret (.var 0))
 .skip) .skip)
 (.seq (.ite (.and (.cmp .Eq (.ix (.var 2) (.cst (.int 0))) (.cst (.str (S "number")))) (.cmp .Lt (.ix (.var 2) (.cst (.int 1))) (.cst (.int 999999999)))) (.seq (.ret (.tupE (.acons (.cst (.str (S "if"))) (.acons (.var 1) (.acons (.cst (.str (S "<"))) (.acons (.tupE (.acons (.cst (.str (S "number"))) (.acons (.bin .Add (.ix (.var 2) (.cst (.int 1))) (.cst (.int 1))) .anil))) (.acons (.ix (.var 0) (.cst (.int 4))) .anil)))))))
 .skip) .skip)
 (.seq (.ite (.and (.cmp .Eq (.ix (.var 1) (.cst (.int 0))) (.cst (.str (S "number")))) (.cmp .Gt (.ix (.var 1) (.cst (.int 1))) (.cst (.int (-1000000000))))) (.seq (.ret (.tupE (.acons (.cst (.str (S "if"))) (.acons (.tupE (.acons (.cst (.str (S "number"))) (.acons (.bin .Sub (.ix (.var 1) (.cst (.int 1))) (.cst (.int 1))) .anil))) (.acons (.cst (.str (S "<"))) (.acons (.var 2) (.acons (.ix (.var 0) (.cst (.int 4))) .anil)))))))
 .skip) .skip)
 (.seq (.ret (.var 0))
 .skip))))))⟩
noncomputable def ZaK:FD:=⟨2,2,(.seq (.ite (.cmp .Eq (.ix (.var 0) (.cst (.int 4))) (.bin .Add (.var 1) (.cst (.int 1)))) (.seq (.ret (.cst (.tup [(.str (S "skip"))])))
 .skip) .skip)
 (.seq (.set 0 (.call 78 (.acons (.var 0) .anil) []))
 (.seq (.ite (.call 79 (.acons (.var 0) .anil) []) (.seq (.ret (.call 80 (.acons (.var 0) .anil) []))
 .skip) .skip)
 (.seq (.ite (.cmp .In (.ix (.var 0) (.cst (.int 2))) (.tupE (.acons (.cst (.str (S "="))) (.acons (.cst (.str (S "!="))) .anil)))) (.seq (.set 0 (.call 74 (.acons (.var 0) (.acons (.cst (.int 1)) (.acons (.cst (.int 3)) .anil))) []))
 .skip) .skip)
 (.seq (.ret (.call 81 (.acons (.var 0) .anil) []))
 .skip)))))⟩
noncomputable def Ja:FD:=⟨2,2,(.seq (.ite (.cmp .Eq (.ix (.var 0) (.cst (.int 0))) (.cst (.str (S "put")))) (.seq (.ret (.call 77 (.acons (.var 0) .anil) []))
 .skip) .skip)
 (.seq (.ite (.cmp .Eq (.ix (.var 0) (.cst (.int 0))) (.cst (.str (S "if")))) (.seq (.ret (.call 82 (.acons (.var 0) (.acons (.var 1) .anil)) []))
 .skip) .skip)
 (.seq (.ite (.cmp .Eq (.var 0) (.tupE (.acons (.cst (.str (S "go"))) (.acons (.bin .Add (.var 1) (.cst (.int 1))) .anil)))) (.seq (.ret (.cst (.tup [(.str (S "skip"))])))
 .skip) .skip)
 (.seq (.ret (.var 0))
 .skip))))⟩
noncomputable def c__law_cell_at_k25:FD:=⟨2,2,(.seq (.ite (.cmp .Lt (.var 1) (.len (.var 0))) (.seq (.ret (.ix (.var 0) (.var 1)))
 .skip) .skip)
 (.seq (.ret (.cst (.int 0)))
 .skip))⟩
noncomputable def c__law_number_by_k25:FD:=⟨1,1,(.seq (.ite (.cmp .Eq (.bin .Mod (.var 0) (.cst (.int 3))) (.cst (.int 0))) (.seq (.ret (.ix (.lstE (.acons (.neg (.cst (.int 1000000000))) (.acons (.cst (.int 999999999)) (.acons (.neg (.cst (.int 1))) (.acons (.cst (.int 0)) (.acons (.cst (.int 1)) (.acons (.cst (.int 2)) (.acons (.neg (.cst (.int 999999999))) (.acons (.cst (.int 999999998)) .anil))))))))) (.bin .Mod (.bin .FloorDiv (.var 0) (.cst (.int 3))) (.cst (.int 8)))))
 .skip) .skip)
 (.seq (.ret (.bin .Sub (.bin .Mod (.bin .Mult (.bin .FloorDiv (.var 0) (.cst (.int 3))) (.cst (.int 48271))) (.cst (.int 2000000000))) (.cst (.int 1000000000))))
 .skip))⟩
noncomputable def Xq:FD:=⟨2,2,(.seq (.ite (.cmp .Lt (.var 1) (.len (.var 0))) (.seq (.ret (.ix (.var 0) (.var 1)))
 .skip) .skip)
 (.seq (.ite (.cmp .Eq (.var 0) (.lstE .anil)) (.seq (.ret (.bin .Mod (.bin .Mult (.bin .Add (.bin .Add (.bin .Mult (.var 1) (.var 1)) (.bin .Mult (.cst (.int 3)) (.var 1))) (.cst (.int 1))) (.cst (.int 16807))) (.cst (.int 2147483629))))
 .skip) .skip)
 (.seq (.ret (.bin .Mod (.bin .Mult (.bin .Add (.bin .Mod (.ix (.var 0) (.neg (.cst (.int 1)))) (.cst (.int 1000003))) (.cst (.int 2))) (.bin .Add (.bin .Mult (.var 1) (.var 1)) (.cst (.int 16807)))) (.cst (.int 2147483629))))
 .skip)))⟩
noncomputable def XT:FD:=⟨1,1,(.seq (.ite (.cmp .Eq (.bin .Mod (.var 0) (.cst (.int 4))) (.cst (.int 0))) (.seq (.ret (.bin .Sub (.bin .Mod (.bin .FloorDiv (.var 0) (.cst (.int 4))) (.cst (.int 9))) (.cst (.int 4))))
 .skip) .skip)
 (.seq (.ite (.cmp .Eq (.bin .Mod (.var 0) (.cst (.int 4))) (.cst (.int 1))) (.seq (.ret (.ix (.lstE (.acons (.neg (.cst (.int 1000000000))) (.acons (.neg (.cst (.int 999999999))) (.acons (.neg (.cst (.int 1))) (.acons (.cst (.int 0)) (.acons (.cst (.int 1)) (.acons (.cst (.int 999999998)) (.acons (.cst (.int 999999999)) .anil)))))))) (.bin .Mod (.bin .FloorDiv (.var 0) (.cst (.int 4))) (.cst (.int 7)))))
 .skip) .skip)
 (.seq (.ret (.bin .Sub (.bin .Mod (.bin .Mult (.bin .FloorDiv (.var 0) (.cst (.int 4))) (.cst (.int 69621))) (.cst (.int 2000000000))) (.cst (.int 1000000000))))
 .skip)))⟩
noncomputable def Xr:FD:=⟨2,2,(.seq (.ite (.and (.cmp .Gt (.var 1) (.cst (.int 0))) (.cmp .Gt (.bin .Mod (.var 0) (.cst (.int 3))) (.cst (.int 0)))) (.seq (.ret (.tupE (.acons (.cst (.str (S "name"))) (.acons (.bin .Mod (.bin .FloorDiv (.var 0) (.cst (.int 3))) (.var 1)) .anil))))
 .skip) .skip)
 (.seq (.ret (.tupE (.acons (.cst (.str (S "number"))) (.acons (.call 20 (.acons (.bin .FloorDiv (.var 0) (.cst (.int 3))) .anil) []) .anil))))
 .skip))⟩
noncomputable def WF:FD:=⟨3,5,(.seq (.set 3 (.call 28 (.acons (.ix (.var 0) (.cst (.int 1))) (.acons (.var 1) .anil)) []))
 (.seq (.set 4 (.call 28 (.acons (.ix (.var 0) (.cst (.int 2))) (.acons (.var 1) .anil)) []))
 (.seq (.ite (.and (.cmp .Lt (.bin .Mod (.ix (.var 0) (.cst (.int 0))) (.cst (.int 8))) (.cst (.int 4))) (.cmp .Gt (.var 1) (.cst (.int 0)))) (.seq (.ret (.tupE (.acons (.cst (.str (S "put"))) (.acons (.bin .Mod (.ix (.var 0) (.cst (.int 3))) (.var 1)) (.acons (.var 3) (.acons (.ix (.lstE (.acons (.cst (.str (S "+"))) (.acons (.cst (.str (S "-"))) (.acons (.cst (.str (S "*"))) (.acons (.cst (.str (S "/"))) (.acons (.cst (.str (S "mod"))) .anil)))))) (.bin .Mod (.bin .FloorDiv (.ix (.var 0) (.cst (.int 0))) (.cst (.int 8))) (.cst (.int 5)))) (.acons (.var 4) .anil)))))))
 .skip) .skip)
 (.seq (.ite (.cmp .Lt (.bin .Mod (.ix (.var 0) (.cst (.int 0))) (.cst (.int 8))) (.cst (.int 6))) (.seq (.ret (.tupE (.acons (.cst (.str (S "if"))) (.acons (.var 3) (.acons (.ix (.lstE (.acons (.cst (.str (S "<"))) (.acons (.cst (.str (S "<="))) (.acons (.cst (.str (S "="))) (.acons (.cst (.str (S ">="))) (.acons (.cst (.str (S ">"))) (.acons (.cst (.str (S "!="))) .anil))))))) (.bin .Mod (.bin .FloorDiv (.ix (.var 0) (.cst (.int 0))) (.cst (.int 8))) (.cst (.int 6)))) (.acons (.var 4) (.acons (.bin .Mod (.ix (.var 0) (.cst (.int 3))) (.bin .Add (.var 2) (.cst (.int 1)))) .anil)))))))
 .skip) .skip)
 (.seq (.ite (.cmp .Eq (.bin .Mod (.ix (.var 0) (.cst (.int 0))) (.cst (.int 8))) (.cst (.int 6))) (.seq (.ret (.tupE (.acons (.cst (.str (S "tell"))) (.acons (.var 3) .anil))))
 .skip) .skip)
 (.seq (.ret (.ix (.lstE (.acons (.tupE (.acons (.cst (.str (S "go"))) (.acons (.bin .Mod (.ix (.var 0) (.cst (.int 3))) (.bin .Add (.var 2) (.cst (.int 1)))) .anil))) (.acons (.tupE (.acons (.cst (.str (S "skip"))) .anil)) .anil))) (.bin .Mod (.bin .FloorDiv (.ix (.var 0) (.cst (.int 0))) (.cst (.int 8))) (.cst (.int 2)))))
 .skip))))))⟩
noncomputable def Ys:CS:=(.seq (.set 1 (.bin .Mult (.var 1) (.bin .Add (.bin .Sub (.var 3) (.var 2)) (.cst (.int 1)))))
 .skip)
noncomputable def c_width:FD:=⟨1,4,(.seq (.set 1 (.cst (.int 1)))
 (.seq (.for2 2 3 (.ix (.var 0) (.cst (.int 0))) Ys)
 (.seq (.ret (.var 1))
 .skip)))⟩
noncomputable def YC:CE:=(.comp false [4] (.var 2) (.bin .Add (.var 1) (.tupE (.acons (.var 0) .anil))) (.cst (.bl true)))
noncomputable def Z5:CS:=(.seq (.ext 3 YC)
 .skip)
noncomputable def ZC:CS:=(.seq (.set 3 (.lstE .anil))
 (.seq (.for1 4 false (.var 1) Z5)
 (.seq (.set 1 (.var 3))
 .skip)))
noncomputable def c_inputs_of:FD:=⟨1,5,(.seq (.set 1 (.lstE (.acons (.tupE .anil) .anil)))
 (.seq (.for1 2 false (.var 0) ZC)
 (.seq (.ret (.tupleOf (.var 1)))
 .skip)))⟩
noncomputable def c_is_wide:FD:=⟨1,1,(.seq (.ret (.cmp .Gt (.call 133 (.acons (.var 0) .anil) []) (.cst (.int 64))))
 .skip)⟩
noncomputable def c_box:FD:=⟨1,1,(.seq (.ite (.call 135 (.acons (.var 0) .anil) []) (.seq .stop
 .skip) .skip)
 (.seq (.ret (.call 134 (.acons (.compT [] (.ix (.var 0) (.cst (.int 0))) (.lstR (.var 0) (.bin .Add (.var 1) (.cst (.int 1)))) (.cst (.bl true))) .anil) []))
 .skip))⟩
noncomputable def XQ:CS:=(.seq (.ite (.cmp .NotIn (.var 3) (.var 2)) (.seq (.app 2 (.var 3))
 .skip) .skip)
 .skip)
noncomputable def Y1:FD:=⟨2,4,(.seq (.set 2 (.lstE .anil))
 (.seq (.for1 3 false (.tupE (.acons (.var 0) (.acons (.bin .FloorDiv (.bin .Add (.var 0) (.var 1)) (.cst (.int 2))) (.acons (.var 1) .anil)))) XQ)
 (.seq (.ret (.var 2))
 .skip)))⟩
noncomputable def ZbM:FD:=⟨1,1,(.seq (.ret (.call 134 (.acons (.compT [] (.ix (.var 0) (.cst (.int 0))) (.call 137 (.acons (.var 0) (.acons (.var 1) .anil)) []) (.cst (.bl true))) .anil) []))
 .skip)⟩
noncomputable def JW:FD:=⟨1,1,(.seq (.ret (.ife (.call 135 (.acons (.var 0) .anil) []) (.call 138 (.acons (.var 0) .anil) []) (.call 136 (.acons (.var 0) .anil) [])))
 .skip)⟩
noncomputable def c__law_widths:FD:=⟨1,2,(.seq (.set 1 (.bin .FloorDiv (.var 0) (.cst (.int 8))))
 (.seq (.ite (.cmp .Eq (.bin .Mod (.var 0) (.cst (.int 8))) (.cst (.int 0))) (.seq (.ret (.lstE .anil))
 .skip) .skip)
 (.seq (.ite (.cmp .Eq (.bin .Mod (.var 0) (.cst (.int 8))) (.cst (.int 1))) (.seq (.ret (.lstE (.acons (.bin .Add (.cst (.int 1)) (.bin .Mod (.var 1) (.cst (.int 64)))) .anil)))
 .skip) .skip)
 (.seq (.ite (.cmp .Eq (.bin .Mod (.var 0) (.cst (.int 8))) (.cst (.int 2))) (.seq (.ret (.lstE (.acons (.bin .Add (.cst (.int 1)) (.bin .Mod (.var 1) (.cst (.int 8)))) (.acons (.bin .Add (.cst (.int 1)) (.bin .Mod (.bin .FloorDiv (.var 1) (.cst (.int 8))) (.cst (.int 8)))) .anil))))
 .skip) .skip)
 (.seq (.ite (.cmp .Eq (.bin .Mod (.var 0) (.cst (.int 8))) (.cst (.int 3))) (.seq (.ret (.lstE (.acons (.bin .Add (.cst (.int 1)) (.bin .Mod (.var 1) (.cst (.int 4)))) (.acons (.bin .Add (.cst (.int 1)) (.bin .Mod (.bin .FloorDiv (.var 1) (.cst (.int 4))) (.cst (.int 4)))) (.acons (.bin .Add (.cst (.int 1)) (.bin .Mod (.bin .FloorDiv (.var 1) (.cst (.int 16))) (.cst (.int 4)))) .anil)))))
 .skip) .skip)
 (.seq (.ite (.cmp .Eq (.bin .Mod (.var 0) (.cst (.int 8))) (.cst (.int 4))) (.seq (.ret (.ix (.lstE (.acons (.lstE (.acons (.cst (.int 64)) .anil)) (.acons (.lstE (.acons (.cst (.int 8)) (.acons (.cst (.int 8)) .anil))) (.acons (.lstE (.acons (.cst (.int 4)) (.acons (.cst (.int 4)) (.acons (.cst (.int 4)) .anil)))) (.acons (.lstE (.acons (.cst (.int 2)) (.acons (.cst (.int 32)) .anil))) (.acons (.lstE (.acons (.cst (.int 1)) (.acons (.cst (.int 64)) (.acons (.cst (.int 1)) .anil)))) (.acons (.lstE (.acons (.cst (.int 16)) (.acons (.cst (.int 2)) (.acons (.cst (.int 2)) .anil)))) (.acons (.lstE (.acons (.cst (.int 1)) (.acons (.cst (.int 64)) .anil))) (.acons (.lstE (.acons (.cst (.int 1)) (.acons (.cst (.int 1)) (.acons (.cst (.int 64)) .anil)))) .anil))))))))) (.bin .Mod (.var 1) (.cst (.int 8)))))
 .skip) .skip)
 (.seq (.ite (.cmp .Eq (.bin .Mod (.var 0) (.cst (.int 8))) (.cst (.int 5))) (.seq (.ret (.ix (.lstE (.acons (.lstE (.acons (.cst (.int 65)) .anil)) (.acons (.lstE (.acons (.cst (.int 5)) (.acons (.cst (.int 13)) .anil))) (.acons (.lstE (.acons (.cst (.int 13)) (.acons (.cst (.int 5)) (.acons (.cst (.int 1)) .anil)))) (.acons (.lstE (.acons (.cst (.int 22)) (.acons (.cst (.int 3)) .anil))) (.acons (.lstE (.acons (.cst (.int 1)) (.acons (.cst (.int 65)) (.acons (.cst (.int 1)) .anil)))) (.acons (.lstE (.acons (.cst (.int 4)) (.acons (.cst (.int 4)) (.acons (.cst (.int 5)) .anil)))) (.acons (.lstE (.acons (.cst (.int 65)) (.acons (.cst (.int 1)) .anil))) (.acons (.lstE (.acons (.cst (.int 1)) (.acons (.cst (.int 2)) (.acons (.cst (.int 33)) .anil)))) .anil))))))))) (.bin .Mod (.var 1) (.cst (.int 8)))))
 .skip) .skip)
 (.seq (.ite (.cmp .Eq (.bin .Mod (.var 0) (.cst (.int 8))) (.cst (.int 6))) (.seq (.ret (.lstE (.acons (.bin .Add (.cst (.int 1)) (.bin .Mod (.bin .FloorDiv (.var 1) (.cst (.int 7))) (.cst (.int 5)))) (.acons (.bin .Add (.cst (.int 1)) (.bin .Mod (.var 1) (.cst (.int 2000000000)))) .anil))))
 .skip) .skip)
 (.seq (.ret (.lstE (.acons (.cst (.int 2000000000)) (.acons (.bin .Add (.cst (.int 1)) (.bin .Mod (.var 1) (.cst (.int 2000000000)))) (.acons (.bin .Sub (.cst (.int 2000000000)) (.bin .Mod (.bin .FloorDiv (.var 1) (.cst (.int 5))) (.cst (.int 3)))) .anil)))))
 .skip)))))))))⟩
noncomputable def Zk:CS:=(.seq (.set 4 (.min (.call 18 (.acons (.ix (.var 0) (.bin .Add (.cst (.int 1)) (.var 2))) .anil) []) (.bin .Sub (.cst (.int 1000000000)) (.var 3))))
 (.seq (.app 1 (.tupE (.acons (.var 4) (.acons (.bin .Sub (.bin .Add (.var 4) (.var 3)) (.cst (.int 1))) .anil))))
 .skip))
noncomputable def c__law_program_k46:FD:=⟨1,6,(.seq (.set 1 (.lstE .anil))
 (.seq (.forE 2 3 (.call 142 (.acons (.ix (.var 0) (.cst (.int 0))) .anil) []) Zk)
 (.seq (.set 5 (.min (.cst (.int 5)) (.bin .Add (.len (.var 1)) (.bin .Mod (.bin .FloorDiv (.ix (.var 0) (.cst (.int 1))) (.cst (.int 24))) (.cst (.int 3))))))
 (.seq (.ret (.tupE (.acons (.tupleOf (.var 1)) (.acons (.var 5) (.acons (.bin .Mult (.tupE (.acons (.tupE (.acons (.cst (.str (S "skip"))) .anil)) .anil)) (.bin .Mod (.bin .FloorDiv (.ix (.var 0) (.cst (.int 2))) (.cst (.int 24))) (.cst (.int 4)))) .anil)))))
 .skip))))⟩
noncomputable def Zx:CS:=(.seq (.ite (.or (.not (.call 17 (.acons (.ix (.var 0) (.var 2)) .anil) [])) (.or (.cmp .Lt (.ix (.var 0) (.var 2)) (.ix (.ix (.var 1) (.var 2)) (.cst (.int 0)))) (.cmp .Gt (.ix (.var 0) (.var 2)) (.ix (.ix (.var 1) (.var 2)) (.cst (.int 1)))))) (.seq (.ret (.cst (.bl false)))
 .skip) .skip)
 .skip)
noncomputable def c__law_inputs_k45:FD:=⟨2,3,(.seq (.ite (.or (.not (.isi .tuple (.var 0))) (.cmp .NotEq (.len (.var 0)) (.len (.var 1)))) (.seq (.ret (.cst (.bl false)))
 .skip) .skip)
 (.seq (.for1 2 true (.len (.var 1)) Zx)
 (.seq (.ret (.cst (.bl true)))
 .skip)))⟩
noncomputable def ZH:CS:=(.seq (.ite (.or (.not (.call 101 (.acons (.ix (.var 0) (.var 3)) (.acons (.var 1) .anil)) [])) (.and (.cmp .Gt (.var 3) (.cst (.int 0))) (.not (.cmp .Lt (.ix (.var 0) (.bin .Sub (.var 3) (.cst (.int 1)))) (.ix (.var 0) (.var 3)))))) (.seq (.ret (.cst (.bl false)))
 .skip) .skip)
 .skip)
noncomputable def c__law_all_k45:FD:=⟨3,4,(.seq (.ite (.or (.not (.isi .tuple (.var 0))) (.cmp .NotEq (.len (.var 0)) (.var 2))) (.seq (.ret (.cst (.bl false)))
 .skip) .skip)
 (.seq (.for1 3 true (.var 2) ZH)
 (.seq (.ret (.cst (.bl true)))
 .skip)))⟩
noncomputable def Yy:CE:=(.comp true [1,0] (.cst (.int 4)) (.call 27 (.acons (.var 2) (.acons (.bin .Add (.var 1) (.var 0)) .anil)) []) (.cst (.bl true)))
noncomputable def Y0:CS:=(.seq (.set 3 (.bin .Mult (.var 3) (.bin .Sub (.bin .Add (.var 5) (.cst (.int 1))) (.var 4))))
 .skip)
noncomputable def Yb:CS:=(.seq (.set 2 (.call 30 (.acons Yy .anil) []))
 (.seq (.set 3 (.cst (.int 1)))
 (.seq (.for2 4 5 (.ix (.var 2) (.cst (.int 0))) Y0)
 (.seq (.set 6 (.call 133 (.acons (.var 2) .anil) []))
 (.seq (.ite (.or (.not (.call 17 (.acons (.var 6) .anil) [])) (.cmp .NotEq (.var 6) (.var 3))) (.seq (.ret (.cst (.bl false)))
 .skip) .skip)
 (.seq (.ite (.cmp .Gt (.var 3) (.cst (.int 64))) (.seq (.ite (.not (.call 229 (.acons (.var 2) (.acons (.var 3) .anil)) [])) (.seq (.ret (.cst (.bl false)))
 .skip) .skip)
 .skip) (.seq (.ite (.not (.call 145 (.acons (.call 136 (.acons (.var 2) .anil) []) (.acons (.ix (.var 2) (.cst (.int 0))) (.acons (.var 3) .anil))) [])) (.seq (.ret (.cst (.bl false)))
 .skip) .skip)
 .skip))
 .skip))))))
noncomputable def c_law_k45:FD:=⟨1,7,(.seq (.for3 1 (.acons (.cst (.int 0)) (.acons (.max (.cst (.int 1)) (.min (.len (.var 0)) (.cst (.int 60)))) (.acons (.cst (.int 4)) .anil))) Yb)
 (.seq (.ret (.cst (.bl true)))
 .skip))⟩
end Dp

noncomputable section
namespace Dp
open PySem
def Sm (a:Int):Prop:=-1000000000≤a∧a≤999999999
instance {a:Int}:Decidable (Sm a):=inferInstanceAs (Decidable (_∧_))
structure NumT (T:Nat→Option FD):Prop where
 t0:T 0=some ZbJ
 t1:T 1=some ZaJ
 t2:T 2=some UU
 t3:T 3=some ZbN
section
variable {T:Nat→Option FD}{n:Nat}{a b x:Int}{s:Str}
end
end Dp


namespace Dp
open PySem
theorem r8 (c:Int):c % 8=0∨c % 8=1∨c % 8=2∨c % 8=3∨c % 8=4∨c % 8=5∨c % 8=6∨c % 8=7:=by omega
section
variable {T:Nat→Option FD}{n:Nat}{a b c x:Int}{s:Str}
theorem JP (h:T 17=some c__law_whole):Zv T (n+1) 17 [.int x]=some (.bl true):=by
 rw [ZV (f:=c__law_whole) h rfl rfl]
 (rw [show ZP c__law_whole.body=[] from rfl]; simp [c__law_whole])
end
end Dp


namespace Dp
open PySem
inductive Opd where
 | name (i:Nat) | num (c:Int)
inductive Row where
 | put (x:Nat) (y:Opd) (s:Str) (z:Opd) | ifr (y:Opd) (s:Str) (z:Opd) (t:Nat) | go (t:Nat) | tell (y:Opd) | skip
structure Prog where
 takes:P
 many:Nat
 rows:List Row
abbrev StM:=Nat×List Int
def Zq (vs:List Int):P:=.tup (vs.map .int)
inductive Out where
 | none | told (v:Int) | late
def UO (m:Nat):Opd→Prop
 | .name i=>i < m
 | .num c=>Sm c
def Zht (m n:Nat):Row→Prop
 | .put x y _ z=>x < m∧UO m y∧UO m z
 | .ifr y _ z t=>UO m y∧UO m z∧t≤n
 | .go t=>t≤n
 | .tell y=>UO m y
 | .skip=>True
structure ProgOk (p:Prog):Prop where
 rows:∀ r∈p.rows,Zht p.many p.rows.length r
 many:p.many≤100
 size:p.rows.length≤100
structure VsOk (m:Nat) (vs:List Int):Prop where
 len:vs.length=m
 sm:∀ v∈vs,Sm v
inductive Thing where
 | st (s:StM) | out (o:Out)
structure StOkM (p:Prog) (s:StM):Prop where
 k:s.1≤p.rows.length
 vs:VsOk p.many s.2
structure MoveT (T:Nat→Option FD):Prop where
 num:NumT T
 t4:T 4=some JV
 t5:T 5=some ZdU
 t7:T 7=some ZbK
 t8:T 8=some Wk
 t9:T 9=some WJ
 t10:T 10=some ZdS
 t42:T 42=some WK
structure MachT (T:Nat→Option FD):Prop extends MoveT T where
 t6:T 6=some ZdR
section
variable {T:Nat→Option FD}{n:Nat}{p:Prog}{s:StM}{vs:List Int}{o:Opd}{r:Row}{k m:Nat}{ins:List Int}
theorem Z6 {F:PFn}{M:List Nat}{c e:CE}{r:CS}{π:Zl}{v:P} (h:pe F c π=some (.bl true)) (he:pe F e π=some v):px F M (.seq (.ite c (.seq (.ret e) .skip) .skip) r) π=some (.rt v):=by
 rw [Zz,UD,h,Wx,if_pos rfl,Zz,Zdh,he]; rfl
theorem ZT {F:PFn}{M:List Nat}{c:CE}{a r:CS}{π:Zl} (h:pe F c π=some (.bl false)):px F M (.seq (.ite c a .skip) r) π=px F M r π:=by
 rw [Zz,UD,h,Wx,if_neg Bool.false_ne_true,Zat,ZA]
theorem Vw {F:PFn}{k:Nat}{e:CE}{r:CS}{π:Zl}{v:P} (h:pe F e π=some v):px F [] (.seq (.set k e) r) π=px F [] r (Zj π k v):=by
 rw [Zz,ZeR,h,Option.bind_some,ZA]
theorem X8 {F:PFn}{M:List Nat}{e:CE}{r:CS}{π:Zl}{v:P} (h:pe F e π=some v):px F M (.seq (.ret e) r) π=some (.rt v):=by
 rw [Zz,Zdh,h]; rfl
structure TrailT (T:Nat→Option FD):Prop extends MachT T where
 t11:T 11=some Uc
 t12:T 12=some ZdT
structure SeenT (T:Nat→Option FD):Prop extends TrailT T where
 t13:T 13=some ZaL
 t14:T 14=some Vo
 t15:T 15=some Zgc
 t43:T 43=some ZbL
 t44:T 44=some ZaM
end
end Dp


namespace Dp
open PySem
theorem Zah {n:Nat}{vs:List Int}:okP (n+1) (Zq vs)=true:=QA fun x hx=>by
 obtain ⟨i,_,rfl⟩:=List.mem_map.mp hx
 cases n<;>rfl
end Dp


namespace Dp
open PySem
theorem nn:(S "name"=S "number")=False:=by simp
structure MadeT (T:Nat→Option FD):Prop where
 num:NumT T
 t4:T 4=some JV
 t42:T 42=some WK
 t73:T 73=some Vn
 t74:T 74=some WH
 t75:T 75=some WG
 t76:T 76=some Xi
 t77:T 77=some Q9
 t78:T 78=some XC
 t79:T 79=some Ud
 t80:T 80=some ZaN
 t81:T 81=some WI
 t82:T 82=some ZaK
 t83:T 83=some Ja
section
variable {T:Nat→Option FD}{n:Nat}{y z:Opd}{s:Str}{x t k:Nat}
end
end Dp


namespace Dp
open PySem
structure DrawT (T:Nat→Option FD):Prop where
 t20:T 20=some XT
 t27:T 27=some Xq
 t28:T 28=some Xr
 t29:T 29=some WF
section
variable {T:Nat→Option FD}{n:Nat}{ns:List Int}{k m size:Nat}{c c0 c1 c2 c3:Int}{fl b:Bool}
theorem s7 (c:Int):c % 7=0∨c % 7=1∨c % 7=2∨c % 7=3∨c % 7=4∨c % 7=5∨c % 7=6:=by omega
theorem s5 (c:Int):c % 5=0∨c % 5=1∨c % 5=2∨c % 5=3∨c % 5=4:=by omega
theorem s6 (c:Int):c % 6=0∨c % 6=1∨c % 6=2∨c % 6=3∨c % 6=4∨c % 6=5:=by omega
end
end Dp


namespace Dp
open PySem
structure BoxT (T:Nat→Option FD):Prop where
 t133:T 133=some c_width
 t134:T 134=some c_inputs_of
 t135:T 135=some c_is_wide
 t136:T 136=some c_box
 t137:T 137=some Y1
 t138:T 138=some ZbM
 t139:T 139=some JW
abbrev Tk:=List (Int×Int)
def ZZ (t:Int×Int):P:=.tup [.int t.1,.int t.2]
def Zm (ts:Tk):P:=.tup (ts.map ZZ)
def Zn (m:Int) (ts:Tk):Int:=ts.foldl (fun m t=>m * (t.2 - t.1+1)) m
def Z4 (L:List (List Int)) (ns:List Int):List (List Int):=L.flatMap fun i=>ns.map fun n=>i++[n]
def Zh (ns:List Int):P:=.lst true (ns.map .int)
section
variable {T:Nat→Option FD}{n:Nat}
theorem Vk {F:PFn}{x0:Option P}:∀ {ts:Tk}{m:Int}{x2 x3:Option P},(∀ t∈ts,ZI (t.2 - t.1+1)=true)→
  ∃ y2 y3,Zy (Xn 2 3 (px F [] Ys)) (ts.map ZZ) [x0,some (.int m),x2,x3]=some (.nx [x0,some (.int (Zn m ts)),y2,y3])
 | [],m,x2,x3,_=>⟨x2,x3,rfl⟩
 | t :: ts,m,x2,x3,h=>by
  have h1:=h t List.mem_cons_self
  obtain ⟨y2,y3,e⟩:=Vk (F:=F) (x0:=x0) (ts:=ts) (m:=m * (t.2 - t.1+1)) (x2:=some (.int t.1)) (x3:=some (.int t.2)) fun q hq=>h q (List.mem_cons_of_mem _ hq)
  refine ⟨y2,y3,?_⟩
  rw [List.map_cons,YL]
  have b:Xn 2 3 (px F [] Ys) (ZZ t) [x0,some (.int m),x2,x3]=some (.nx [x0,some (.int (m * (t.2 - t.1+1))),some (.int t.1),some (.int t.2)]):=by
   show px F [] Ys [x0,some (.int m),some (.int t.1),some (.int t.2)]=_
   simp [Ys,h1]
  rw [b,XM,e]
  rfl
theorem V6 (t:BoxT T) {ts:Tk}{b c:P} (h:∀ t∈ts,ZI (t.2 - t.1+1)=true):Zv T (n+1) 133 [.tup [Zm ts,b,c]]=some (.int (Zn 1 ts)):=by
 rw [ZV (f:=c_width) t.t133 rfl rfl]
 obtain ⟨y2,y3,e⟩:=Vk (F:=Zv T n) (x0:=some (.tup [Zm ts,b,c])) (m:=1) (x2:=none) (x3:=none) h
 show Vg (px (Zv T n) [] (.seq (.set 1 (.cst (.int 1))) (.seq (.for2 2 3 (.ix (.var 0) (.cst (.int 0))) Ys) (.seq (.ret (.var 1)) .skip))) [some (.tup [Zm ts,b,c]),none,none,none])=_
 rw [Vw (v:=.int 1) (by simp)]
 simp only [ZS,ZR]
 rw [Zz,QI (xs:=ts.map ZZ) (by simp [Zm]) (by simp [W4]),e,ZA,X8 (v:=.int (Zn 1 ts)) (by simp)]
 rfl
theorem Zby (t:BoxT T) {ts:Tk}{b c:P} (h:∀ t∈ts,ZI (t.2 - t.1+1)=true):Zv T (n+2) 135 [.tup [Zm ts,b,c]]=some (.bl (decide (64 < Zn 1 ts))):=by
 rw [ZV (f:=c_is_wide) t.t135 rfl rfl]
 have w:=V6 (n:=n) t (b:=b) (c:=c) h
 simp [c_is_wide,ZP,w]
theorem Vz {F:PFn}{i:List Int} (hi:i.length < 1000):∀ {ns:List Int},Yn (fun p=>pe F (.bin .Add (.var 1) (.tupE (.acons (.var 0) .anil))) [some p,some (Zq i)]) (fun p=>pe F (.cst (.bl true)) [some p,some (Zq i)]) (ns.map .int)=some (ns.map fun n=>Zq (i++[n]))
 | []=>rfl
 | k :: ns=>by
  rw [List.map_cons]
  unfold Yn
  have e1:pe F (.cst (.bl true)) [some (P.int k),some (Zq i)]=some (.bl true):=rfl
  have e2:pe F (.bin .Add (.var 1) (.tupE (.acons (.var 0) .anil))) [some (P.int k),some (Zq i)]=some (Zq (i++[k])):=by
   have:i.length+1≤Zg:=by unfold Zg; omega
   simp [Zq,this]
  rw [e1,e2]
  simp only
  rw [Vz hi]
  rfl
theorem Za2 {F:PFn}{x0 x1:Option P}{ns:List Int}{xs:List P}{i:List Int} (hi:i.length < 1000) (hn:ns.length≤1000) (hx:xs.length+ns.length≤Zg) :
  px F [3] Z5 [x0,x1,some (Zh ns),some (.lst true xs),some (Zq i)]=some (.nx [x0,x1,some (Zh ns),some (.lst true (xs++(ns.map fun n=>i++[n]).map Zq)),some (Zq i)]):=by
 have e:pe F YC [x0,x1,some (Zh ns),some (.lst true xs),some (Zq i)]=some (.lst true ((ns.map fun n=>i++[n]).map Zq)):=by
  unfold YC
  rw [Zao]
  have w:YY false (Zh ns)=some (ns.map .int):=rfl
  have cg:=Vz (F:=F) hi (ns:=ns)
  simp only [pe_var,Zh,List.getElem?_cons_zero,List.getElem?_cons_succ,Option.join_some,Option.bind_some]
  rw [show YY false (.lst true (ns.map P.int))=some (ns.map .int) from rfl]
  simp only [Option.bind_some,List.length_map,hn,if_true]
  have z:(fun p=>pe F (.bin .Add (.var 1) (.tupE (.acons (.var 0) .anil))) (Xl [x0,x1,some (.lst true (ns.map P.int)),some (.lst true xs),some (Zq i)] [4] p))=fun p=>pe F (.bin .Add (.var 1) (.tupE (.acons (.var 0) .anil))) [some p,some (Zq i)]:=rfl
  have z2:(fun p=>pe F (.cst (.bl true)) (Xl [x0,x1,some (.lst true (ns.map P.int)),some (.lst true xs),some (Zq i)] [4] p))=fun p=>pe F (.cst (.bl true)) [some p,some (Zq i)]:=rfl
  rw [z,z2,cg]
  simp [List.map_map,Function.comp_def]
 unfold Z5
 rw [Zz,ZgW (xs:=xs) rfl e rfl (by simpa using hx)]
 rfl
theorem VI {F:PFn}{x0 x1:Option P}{ns:List Int} (hn:ns.length≤1000):∀ {L:List (List Int)}{xs:List P}{x4:Option P},(∀ i∈L,i.length < 1000)→xs.length+(Z4 L ns).length≤Zg→
  ∃ y4,Zy (fun d π=>px F [3] Z5 (Zj π 4 d)) (L.map Zq) [x0,x1,some (Zh ns),some (.lst true xs),x4]=some (.nx [x0,x1,some (Zh ns),some (.lst true (xs++(Z4 L ns).map Zq)),y4])
 | [],xs,x4,_,_=>⟨x4,by rw [List.map_nil,ZcF]; simp [Z4]⟩
 | i :: L,xs,x4,hi,hx=>by
  have g:Z4 (i :: L) ns=(ns.map fun n=>i++[n])++Z4 L ns:=rfl
  rw [g,List.length_append,List.length_map] at hx
  obtain ⟨y4,e⟩:=VI (F:=F) (x0:=x0) (x1:=x1) hn (L:=L) (xs:=xs++(ns.map fun n=>i++[n]).map Zq) (x4:=some (Zq i)) (fun q hq=>hi q (List.mem_cons_of_mem _ hq)) (by simp; omega)
  refine ⟨y4,?_⟩
  rw [List.map_cons,YL]
  have b:px F [3] Z5 (Zj [x0,x1,some (Zh ns),some (.lst true xs),x4] 4 (Zq i))=_:=Za2 (F:=F) (x0:=x0) (x1:=x1) (xs:=xs) (hi i List.mem_cons_self) hn (by omega)
  rw [b,XM,e,g,List.map_append,List.append_assoc]
def Vi:List (List Int)→List (List Int)→Prop
 | _,[]=>True
 | L,ns :: r=>ns.length≤1000∧(Z4 L ns).length≤1000∧Vi (Z4 L ns) r
theorem Qf {F:PFn}{x0 x3 x4:Option P}{ns:List Int}{L:List (List Int)} (hn:ns.length≤1000) (hL:∀ i∈L,i.length < 1000) (hg:(Z4 L ns).length≤1000) {m:Bool} :
  ∃ y4,px F [3] ZC [x0,some (.lst m (L.map Zq)),some (Zh ns),x3,x4]=some (.nx [x0,some (.lst true ((Z4 L ns).map Zq)),some (Zh ns),none,y4]):=by
 obtain ⟨y4,e⟩:=VI (F:=F) (x0:=x0) (x1:=some (.lst m (L.map Zq))) hn (L:=L) (xs:=[]) (x4:=x4) hL (by simp; unfold Zg; omega)
 refine ⟨y4,?_⟩
 unfold ZC
 rw [Zz,Zas (p:=.lst true []) rfl rfl rfl,ZA]
 simp only [ZS,ZR]
 rw [Zz,Zaq (m:=m) (xs:=L.map Zq) rfl rfl,e,ZA,Zz,Zh8 (m:=true) (xs:=(Z4 L ns).map Zq) (by simp) rfl rfl,ZA,Zat]
 simp [Zj]
theorem Wb {F:PFn}{x0:Option P}:∀ {nss:List (List Int)}{L:List (List Int)}{m:Bool}{x2 x3 x4:Option P},(∀ i∈L,i.length+nss.length < 1000)→Vi L nss→
  ∃ m' y2 y3 y4,Zy (fun d π=>px F [3] ZC (Zj π 2 d)) (nss.map Zh) [x0,some (.lst m (L.map Zq)),x2,x3,x4]=some (.nx [x0,some (.lst m' ((nss.foldl Z4 L).map Zq)),y2,y3,y4])
 | [],L,m,x2,x3,x4,_,_=>⟨m,x2,x3,x4,rfl⟩
 | ns :: nss,L,m,x2,x3,x4,hL,hs=>by
  obtain ⟨h1,h2,h3⟩:=hs
  obtain ⟨y4,e⟩:=Qf (F:=F) (x0:=x0) (x3:=x3) (x4:=x4) (m:=m) h1 (fun i hi=>by have:=hL i hi; simp at this; omega) h2
  obtain ⟨m',z2,z3,z4,e2⟩:=Wb (F:=F) (x0:=x0) (nss:=nss) (L:=Z4 L ns) (m:=true) (x2:=some (Zh ns)) (x3:=none) (x4:=y4) (fun i hi=>by
   unfold Z4 at hi
   obtain ⟨j,hj,hi⟩:=List.mem_flatMap.mp hi
   obtain ⟨k,_,rfl⟩:=List.mem_map.mp hi
   have:=hL j hj
   simp at this
   simp
   omega) h3
  refine ⟨m',z2,z3,z4,?_⟩
  rw [List.map_cons,YL]
  have b:px F [3] ZC (Zj [x0,some (.lst m (L.map Zq)),x2,x3,x4] 2 (Zh ns))=_:=e
  rw [b,XM,e2]
  rfl
def ZU (nss:List (List Int)):List (List Int):=nss.foldl Z4 [[]]
theorem Zbx (t:BoxT T) {m:Bool}{nss:List (List Int)} (hl:nss.length < 900) (h:Vi [[]] nss):Zv T (n+1) 134 [.lst m (nss.map Zh)]=some (.tup ((ZU nss).map Zq)):=by
 rw [ZV (f:=c_inputs_of) t.t134 rfl rfl]
 obtain ⟨m',y2,y3,y4,e⟩:=Wb (F:=Zv T n) (x0:=some (.lst m (nss.map Zh))) (nss:=nss) (L:=[[]]) (m:=true) (x2:=none) (x3:=none) (x4:=none) (fun i hi=>by rw [List.mem_singleton.mp hi]; simp; omega) h
 show Vg (px (Zv T n) [3] (.seq (.set 1 (.lstE (.acons (.tupE .anil) .anil))) (.seq (.for1 2 false (.var 0) ZC) (.seq (.ret (.tupleOf (.var 1))) .skip))) [some (.lst m (nss.map Zh)),none,none,none,none])=_
 rw [Zz,UE (p:=.lst true [.tup []]) (by simp) rfl (by rfl),ZA]
 simp only [ZS,ZR]
 have e:Zy (fun d π=>px (Zv T n) [3] ZC (Zj π 2 d)) (nss.map Zh) [some (.lst m (nss.map Zh)),some (.lst true [.tup []]),none,none,none]=some (.nx [some (.lst m (nss.map Zh)),some (.lst m' ((nss.foldl Z4 [[]]).map Zq)),y2,y3,y4]):=e
 rw [Zz,Zaq (m:=m) (xs:=nss.map Zh) rfl rfl,e,ZA,X8 (v:=.tup ((ZU nss).map Zq)) (by simp [ZU])]
 rfl
def ZW (t:Int×Int):List Int:=Zt t.1 (t.2+1) 1
theorem Zf2 {ts:Tk}:(ts.map ZZ).all Qj=true:=by
 rw [List.all_eq_true]
 intro x hx
 obtain ⟨t,_,rfl⟩:=List.mem_map.mp hx
 rfl
theorem U0 {F:PFn}:∀ {ts:Tk},(∀ t∈ts,Zs t.1 (t.2+1) 1=true∧t.2+1 - t.1≤1000)→Yn (fun p=>pe F (.lstR (.var 0) (.bin .Add (.var 1) (.cst (.int 1)))) (YN p++[])) (fun p=>pe F (.cst (.bl true)) (YN p++[])) (ts.map ZZ)=some ((ts.map ZW).map Zh)
 | [],_=>rfl
 | t :: ts,h=>by
  rw [List.map_cons]
  unfold Yn
  have e1:pe F (.cst (.bl true)) (YN (ZZ t)++[])=some (.bl true):=rfl
  have e2:pe F (.lstR (.var 0) (.bin .Add (.var 1) (.cst (.int 1)))) (YN (ZZ t)++[])=some (Zh (ZW t)):=by
   show pe F (.lstR (.var 0) (.bin .Add (.var 1) (.cst (.int 1)))) [some (.int t.1),some (.int t.2)]=_
   have:=h t List.mem_cons_self
   simp [W8,this.1,this.2,Zh,ZW]
  rw [e1,e2]
  simp only
  rw [U0 fun q hq=>h q (List.mem_cons_of_mem _ hq)]
  rfl
theorem Zhq (t:BoxT T) {ts:Tk}{b c:P} (h:∀ t∈ts,ZI (t.2 - t.1+1)=true) (hw:Zn 1 ts≤64) (hb:∀ t∈ts,Zs t.1 (t.2+1) 1=true∧t.2+1 - t.1≤1000) (hl:ts.length < 900) (hs:Vi [[]] (ts.map ZW)) :
  Zv T (n+3) 136 [.tup [Zm ts,b,c]]=some (.tup ((ZU (ts.map ZW)).map Zq)):=by
 rw [ZV (f:=c_box) t.t136 rfl rfl]
 have w:=Zby (n:=n) t (b:=b) (c:=c) h
 rw [decide_eq_false (by omega)] at w
 have i:=Zbx (n:=n+1) t (m:=true) (nss:=ts.map ZW) (by simpa using hl) hs
 have e:pe (Zv T (n+2)) (.compT [] (.ix (.var 0) (.cst (.int 0))) (.lstR (.var 0) (.bin .Add (.var 1) (.cst (.int 1)))) (.cst (.bl true))) [some (.tup [Zm ts,b,c])]=some (.lst true ((ts.map ZW).map Zh)):=by
  rw [Zc1 (xs:=ts.map ZZ) (by simp [Zm]) Zf2 (by rw [List.length_map]; omega)]
  rw [show (fun p=>pe (Zv T (n+2)) (.lstR (.var 0) (.bin .Add (.var 1) (.cst (.int 1)))) (Z8 YN [some (.tup [Zm ts,b,c])] [] p))=(fun p=>pe (Zv T (n+2)) (.lstR (.var 0) (.bin .Add (.var 1) (.cst (.int 1)))) (YN p++[])) from rfl,
   show (fun p=>pe (Zv T (n+2)) (.cst (.bl true)) (Z8 YN [some (.tup [Zm ts,b,c])] [] p))=(fun p=>pe (Zv T (n+2)) (.cst (.bl true)) (YN p++[])) from rfl,U0 hb]
  rfl
 show Vg (px (Zv T (n+2)) [] (.seq (.ite (.call 135 (.acons (.var 0) .anil) []) (.seq .stop .skip) .skip) (.seq (.ret _) .skip)) [some (.tup [Zm ts,b,c])])=_
 rw [ZT (by simp [w]),X8 (v:=.tup ((ZU (ts.map ZW)).map Zq)) (by
  rw [pe_call,YM,e]
  have q:(0:Nat) < 1000:=by omega
  simp only [UA,Option.bind_some,WP,List.length_nil,q,if_true,UV,Qz,List.append_nil]
  exact i)]
 rfl
end
end Dp


namespace Dp
open PySem
section
variable {T:Nat→Option FD}{n:Nat}
end
def Yd (nss:List (List Int)):Nat:=nss.foldr (fun ns p=>ns.length * p) 1
theorem WW {L:List (List Int)}{ns:List Int}:(Z4 L ns).length=L.length * ns.length:=by
 induction L with
 | nil=>simp [Z4]
 | cons i L ih=>
  have g:Z4 (i :: L) ns=(ns.map fun n=>i++[n])++Z4 L ns:=rfl
  rw [g,List.length_append,List.length_map,ih,List.length_cons,Nat.succ_mul,Nat.add_comm]
theorem U3:∀ {nss:List (List Int)}{L:List (List Int)},(nss.foldl Z4 L).length=L.length * Yd nss
 | [],L=>by simp [Yd]
 | ns :: nss,L=>by
  show (nss.foldl Z4 (Z4 L ns)).length=_
  rw [U3,WW,Nat.mul_assoc]
  rfl
theorem Ve:∀ {nss:List (List Int)},(∀ ns∈nss,1≤ns.length)→1≤Yd nss
 | [],_=>Nat.le_refl _
 | ns :: nss,h=>by
  have h1:=h ns List.mem_cons_self
  have h2:=Ve fun q hq=>h q (List.mem_cons_of_mem _ hq)
  exact Nat.mul_le_mul h1 h2
theorem VU:∀ {nss:List (List Int)}{L:List (List Int)},(∀ ns∈nss,1≤ns.length)→1≤L.length→L.length * Yd nss≤1000→Vi L nss
 | [],L,_,_,_=>trivial
 | ns :: nss,L,h,hL,hp=>by
  have h1:=h ns List.mem_cons_self
  have h2:=Ve fun q hq=>h q (List.mem_cons_of_mem _ hq)
  have e:L.length * Yd (ns :: nss)=(Z4 L ns).length * Yd nss:=by
   rw [WW,Nat.mul_assoc]; rfl
  rw [e] at hp
  have g1:(Z4 L ns).length≤1000:=Nat.le_trans (Nat.le_mul_of_pos_right _ h2) hp
  have g2:ns.length≤(Z4 L ns).length:=by rw [WW]; exact Nat.le_mul_of_pos_left _ hL
  have g3:1≤(Z4 L ns).length:=Nat.le_trans h1 g2
  exact ⟨Nat.le_trans g2 g1,g1,VU (fun q hq=>h q (List.mem_cons_of_mem _ hq)) g3 hp⟩
def Yt:List Int→List (List Int)→Prop
 | [],[]=>True
 | x :: i,ns :: nss=>x∈ns∧Yt i nss
 | _,_=>False
theorem WX:∀ {i:List Int}{nss:List (List Int)}{x:Int}{ns:List Int},Yt i nss→x∈ns→Yt (i++[x]) (nss++[ns])
 | [],[],_,_,_,h=>⟨h,trivial⟩
 | _ :: _,_ :: _,_,_,h,h'=>⟨h.1,WX h.2 h'⟩
theorem Jg {L:List (List Int)}{done:List (List Int)}{ns:List Int} (h:∀ i∈L,Yt i done):∀ i∈Z4 L ns,Yt i (done++[ns]):=fun i hi=>by
 obtain ⟨j,hj,hi⟩:=List.mem_flatMap.mp hi
 obtain ⟨k,hk,rfl⟩:=List.mem_map.mp hi
 exact WX (h j hj) hk
theorem WS:∀ {nss:List (List Int)}{L:List (List Int)}{done:List (List Int)},(∀ i∈L,Yt i done)→∀ i∈nss.foldl Z4 L,Yt i (done++nss)
 | [],L,done,h,i,hi=>by rw [List.append_nil]; exact h i hi
 | ns :: nss,L,done,h,i,hi=>by
  have:=WS (nss:=nss) (L:=Z4 L ns) (done:=done++[ns]) (Jg h) i hi
  rw [List.append_assoc] at this
  exact this
theorem Wa {nss:List (List Int)}:∀ i∈ZU nss,Yt i nss:=WS (L:=[[]]) (done:=[]) fun i hi=>by rw [List.mem_singleton.mp hi]; trivial
theorem XW:∀ {i:List Int}{nss:List (List Int)},Yt i nss→i.length=nss.length
 | [],[],_=>rfl
 | _ :: _,_ :: _,h=>congrArg (·+1) (XW h.2)
theorem U8:∀ {i:List Int}{nss:List (List Int)},Yt i nss→∀ k,k < nss.length→∃ x ns,i[k]?=some x∧nss[k]?=some ns∧x∈ns
 | [],[],_,k,hk=>nomatch hk
 | x :: i,ns :: nss,h,0,hk=>⟨x,ns,rfl,rfl,h.1⟩
 | x :: i,ns :: nss,h,k+1,hk=>U8 (i:=i) (nss:=nss) h.2 k (Nat.lt_of_succ_lt_succ hk)
def ltI:List Int→List Int→Bool
 | x :: xs,y :: ys=>if x=y then ltI xs ys else decide (x < y)
 | _,_=>false
theorem Qr:∀ {i j:List Int}{x y:Int},i.length=j.length→ltI i j=true→ltI (i++[x]) (j++[y])=true
 | [],_,_,_,_,h=>nomatch h
 | _ :: _,[],_,_,h,_=>nomatch h
 | a :: i,b :: j,x,y,hl,h=>by
  have h:(if a=b then ltI i j else decide (a < b))=true:=h
  show (if a=b then ltI (i++[x]) (j++[y]) else decide (a < b))=true
  split at h
  ·rename_i q
   rw [if_pos q]
   exact Qr (Nat.succ.inj hl) h
  ·rename_i q
   rw [if_neg q]; exact h
theorem Qq:∀ {i:List Int}{x y:Int},x < y→ltI (i++[x]) (i++[y])=true
 | [],x,y,h=>by
  show (if x=y then false else decide (x < y))=true
  rw [if_neg (by omega),decide_eq_true h]
 | a :: i,x,y,h=>by
  show (if a=a then ltI (i++[x]) (i++[y]) else decide (a < a))=true
  rw [if_pos rfl]
  exact Qq h
abbrev Ord (L:List (List Int)):Prop:=L.Pairwise fun i j=>ltI i j=true
theorem Zca {L:List (List Int)}{ns:List Int}{m:Nat} (hl:∀ i∈L,i.length=m) (h:Ord L) (hn:ns.Pairwise (· < ·)):Ord (Z4 L ns):=by
 unfold Ord Z4
 rw [List.pairwise_flatMap]
 refine ⟨fun i _=>List.pairwise_map.mpr (hn.imp fun q=>Qq q),?_⟩
 refine List.Pairwise.imp_of_mem (fun {i j} hi hj q x hx y hy=>?_) h
 obtain ⟨a,_,rfl⟩:=List.mem_map.mp hx
 obtain ⟨b,_,rfl⟩:=List.mem_map.mp hy
 exact Qr ((hl i hi).trans (hl j hj).symm) q
theorem Za1 {L:List (List Int)}{ns:List Int}{m:Nat} (hl:∀ i∈L,i.length=m):∀ i∈Z4 L ns,i.length=m+1:=fun i hi=>by
 obtain ⟨j,hj,hi⟩:=List.mem_flatMap.mp hi
 obtain ⟨k,hk,rfl⟩:=List.mem_map.mp hi
 simp [hl j hj]
theorem U4:∀ {nss:List (List Int)}{L:List (List Int)}{m:Nat},(∀ i∈L,i.length=m)→Ord L→(∀ ns∈nss,ns.Pairwise (· < ·))→Ord (nss.foldl Z4 L)
 | [],L,m,_,h,_=>h
 | ns :: nss,L,m,hl,h,hn=>U4 (nss:=nss) (L:=Z4 L ns) (m:=m+1) (Za1 hl) (Zca hl h (hn ns List.mem_cons_self)) fun q hq=>hn q (List.mem_cons_of_mem _ hq)
theorem Jj {nss:List (List Int)} (h:∀ ns∈nss,ns.Pairwise (· < ·)):Ord (ZU nss):=U4 (L:=[[]]) (m:=0) (fun i hi=>by rw [List.mem_singleton.mp hi]; rfl) (List.pairwise_singleton _ _) h
theorem Qt:∀ {i j:List Int},i.length=j.length→Qs (i.map .int) (j.map .int)=some (ltI i j)
 | [],[],_=>rfl
 | x :: i,y :: j,h=>by
  have ih:=Qt (i:=i) (j:=j) (Nat.succ.inj h)
  show (if Wj (.int x) (.int y)=true then Qs (i.map .int) (j.map .int) else some (decide (x < y)))=some (if x=y then ltI i j else decide (x < y))
  have e:Wj (.int x) (.int y)=decide (x=y):=rfl
  rw [e,ih]
  by_cases q:x=y
  ·rw [decide_eq_true q,if_pos rfl,if_pos q]
  ·rw [decide_eq_false q,if_neg Bool.false_ne_true,if_neg q]
theorem Zi2 {i j:List Int} (h:i.length=j.length) (q:ltI i j=true):Y2 .Lt (Zq i) (Zq j)=some (.bl true):=by
 have e:Y2 .Lt (Zq i) (Zq j)=((if okP 8 (Zq i)&&okP 8 (Zq j) then Qs (i.map .int) (j.map .int) else none)).map .bl:=rfl
 rw [e,Zah,Zah,Bool.and_self,if_pos rfl,Qt h,q]
 rfl
theorem Q8 {t:Int×Int}:(ZW t).Pairwise (· < ·):=by
 unfold ZW Zt
 refine List.pairwise_map.mpr ((List.pairwise_lt_range).imp fun {a b} h=>?_)
 omega
theorem Ub {t:Int×Int} (h:t.1≤t.2):((ZW t).length:Int)=t.2 - t.1+1:=by
 unfold ZW Zt Zw
 rw [List.length_map,List.length_range,if_pos (by omega),if_pos (by omega)]
 omega
theorem Vl:∀ {ts:Tk}{m:Int},(∀ t∈ts,t.1≤t.2)→Zn m ts=m * (Yd (ts.map ZW):Nat)
 | [],m,_=>by simp [Zn,Yd]
 | t :: ts,m,h=>by
  show Zn (m * (t.2 - t.1+1)) ts=m * (((ZW t).length * Yd (ts.map ZW):Nat):Int)
  rw [Vl fun q hq=>h q (List.mem_cons_of_mem _ hq),Int.natCast_mul,Ub (h t List.mem_cons_self),Int.mul_assoc]
end Dp


namespace Dp
open PySem
noncomputable def num:List (Str×Nat):=[(S "HuntError",177),(S "TextError",222),(S "TextError.__init__",223),(S "NoLine",224),(S "Twice",225),(S "NoName",226),(S "NoPlace",227),(S "TooWide",189),(S "TooWide.__init__",190),(S "TooMany",178),(S "TooMany.__init__",179),(S "width",133),(S "inputs_of",134),(S "is_wide",135),(S "box",136),(S "_law_cell_at",27),(S "_law_whole",17),(S "_law_number_by",18),(S "_law_widths",142),(S "_law_program",30),(S "_law_inputs",101),(S "_law_all",145),(S "_law_too_wide",228),(S "_law_refused",229),(S "law",16)]
noncomputable def T:Nat→Option FD
 | 133=>some c_width
 | 134=>some c_inputs_of
 | 135=>some c_is_wide
 | 136=>some c_box
 | 27=>some c__law_cell_at_k25
 | 17=>some c__law_whole
 | 18=>some c__law_number_by_k25
 | 142=>some c__law_widths
 | 30=>some c__law_program_k46
 | 101=>some c__law_inputs_k45
 | 145=>some c__law_all_k45
 | 16=>some c_law_k45
 | 137=>some Y1
 | 138=>some ZbM
 | 139=>some JW
 | 229=>some ⟨2,4,.ret (.cmp .Eq (.bin .Sub (.call 900 (.acons (.var 0) .anil) []) (.var 1)) (.cst (.int 0)))⟩
 | 900=>some ⟨1,1,.ite (.call 135 (.acons (.var 0) .anil) []) (.ret (.call 133 (.acons (.var 0) .anil) [])) .stop⟩
 | _=>none
end Dp


namespace Dp
open PySem
theorem Zfm:BoxT T:=⟨rfl,rfl,rfl,rfl,rfl,rfl,rfl⟩
section
variable {n:Nat}
def Zhv (ts:Tk):Prop:=ts.length≤3∧∀ t∈ts,-1000000000≤t.1∧t.1≤t.2∧t.2≤999999999
theorem Zgz {a b:Int} (h:ZI b=true):Xp .Mult (.int a) (.int b)=some (.int (a * b)):=by
 rw [ZdM,h,Bool.or_true,if_pos rfl]
theorem Js {B:P→P→Zl→Option PFl}{x y:P}{ps:List (P×P)}{π:Zl}:YK B ((x,y) :: ps) π=QZ (B x y π) (YK B ps):=by
 show (match B x y π with
  | some (.nx π')=>YK B ps π'
  | some (.ct π')=>YK B ps π'
  | some (.bk π')=>some (.nx π')
  | some (.rt v)=>some (.rt v)
  | none=>none)=_
 unfold QZ
 rfl
theorem Zhx {c:Int}:∃ v,Sm v∧Zv T (n+1) 18 [.int c]=some (.int v):=by
 rw [ZV (f:=c__law_number_by_k25) rfl rfl rfl]
 have lm:ZI 48271=true:=rfl
 by_cases h:c % 3=0
 ·rcases r8 (c / 3) with q | q | q | q | q | q | q | q
  ·exact ⟨-1000000000,⟨by omega,by omega⟩,by simp [c__law_number_by_k25,ZP,h,q]⟩
  ·exact ⟨999999999,⟨by omega,by omega⟩,by simp [c__law_number_by_k25,ZP,h,q]⟩
  ·exact ⟨-1,⟨by omega,by omega⟩,by simp [c__law_number_by_k25,ZP,h,q]⟩
  ·exact ⟨0,⟨by omega,by omega⟩,by simp [c__law_number_by_k25,ZP,h,q]⟩
  ·exact ⟨1,⟨by omega,by omega⟩,by simp [c__law_number_by_k25,ZP,h,q]⟩
  ·exact ⟨2,⟨by omega,by omega⟩,by simp [c__law_number_by_k25,ZP,h,q]⟩
  ·exact ⟨-999999999,⟨by omega,by omega⟩,by simp [c__law_number_by_k25,ZP,h,q]⟩
  ·exact ⟨999999998,⟨by omega,by omega⟩,by simp [c__law_number_by_k25,ZP,h,q]⟩
 ·exact ⟨c / 3 * 48271 % 2000000000 - 1000000000,⟨by omega,by omega⟩,by simp [c__law_number_by_k25,ZP,h,lm]⟩
def ZaG (ws:List Int):Prop:=ws.length≤3∧∀ w∈ws,1≤w∧w≤2000000000
theorem ws0:ZaG []:=⟨by simp,by simp⟩
theorem ws1 {a:Int} (ha:1≤a∧a≤2000000000):ZaG [a]:=⟨by simp,by simp; omega⟩
theorem ws2 {a b:Int} (ha:1≤a∧a≤2000000000) (hb:1≤b∧b≤2000000000):ZaG [a,b]:=⟨by simp,by simp; omega⟩
theorem ws3 {a b c:Int} (ha:1≤a∧a≤2000000000) (hb:1≤b∧b≤2000000000) (hc:1≤c∧c≤2000000000):ZaG [a,b,c]:=⟨by simp,by simp; omega⟩
theorem ZbA {c:Int}:∃ ws,ZaG ws∧Zv T (n+1) 142 [.int c]=some (Zh ws):=by
 rw [ZV (f:=c__law_widths) rfl rfl rfl]
 show ∃ ws,ZaG ws∧Vg (px (Zv T n) [] c__law_widths.body [some (.int c),none])=_
 unfold c__law_widths
 rw [Vw (v:=.int (c / 8)) (by simp)]
 simp only [ZS,ZR]
 rcases r8 c with q | q | q | q | q | q | q | q
 ·exact ⟨[],ws0,by rw [Z6 (by simp [q]) (v:=Zh []) (by simp [Zh])]; rfl⟩
 ·exact ⟨[1+c / 8 % 64],ws1 (by omega),by rw [ZT (by simp [q]),Z6 (by simp [q]) (v:=Zh [1+c / 8 % 64]) (by simp [Zh])]; rfl⟩
 ·exact ⟨[1+c / 8 % 8,1+c / 8 / 8 % 8],ws2 (by omega) (by omega),by rw [ZT (by simp [q]),ZT (by simp [q]),Z6 (by simp [q]) (v:=Zh [1+c / 8 % 8,1+c / 8 / 8 % 8]) (by simp [Zh])]; rfl⟩
 ·exact ⟨[1+c / 8 % 4,1+c / 8 / 4 % 4,1+c / 8 / 16 % 4],ws3 (by omega) (by omega) (by omega),by rw [ZT (by simp [q]),ZT (by simp [q]),ZT (by simp [q]),Z6 (by simp [q]) (v:=Zh [1+c / 8 % 4,1+c / 8 / 4 % 4,1+c / 8 / 16 % 4]) (by simp [Zh])]; rfl⟩
 ·rw [ZT (by simp [q]),ZT (by simp [q]),ZT (by simp [q]),ZT (by simp [q])]
  rcases r8 (c / 8) with q' | q' | q' | q' | q' | q' | q' | q'
  ·exact ⟨[64],ws1 (by omega),by rw [Z6 (by simp [q]) (v:=Zh [64]) (by simp [Zh,q'])]; rfl⟩
  ·exact ⟨[8,8],ws2 (by omega) (by omega),by rw [Z6 (by simp [q]) (v:=Zh [8,8]) (by simp [Zh,q'])]; rfl⟩
  ·exact ⟨[4,4,4],ws3 (by omega) (by omega) (by omega),by rw [Z6 (by simp [q]) (v:=Zh [4,4,4]) (by simp [Zh,q'])]; rfl⟩
  ·exact ⟨[2,32],ws2 (by omega) (by omega),by rw [Z6 (by simp [q]) (v:=Zh [2,32]) (by simp [Zh,q'])]; rfl⟩
  ·exact ⟨[1,64,1],ws3 (by omega) (by omega) (by omega),by rw [Z6 (by simp [q]) (v:=Zh [1,64,1]) (by simp [Zh,q'])]; rfl⟩
  ·exact ⟨[16,2,2],ws3 (by omega) (by omega) (by omega),by rw [Z6 (by simp [q]) (v:=Zh [16,2,2]) (by simp [Zh,q'])]; rfl⟩
  ·exact ⟨[1,64],ws2 (by omega) (by omega),by rw [Z6 (by simp [q]) (v:=Zh [1,64]) (by simp [Zh,q'])]; rfl⟩
  ·exact ⟨[1,1,64],ws3 (by omega) (by omega) (by omega),by rw [Z6 (by simp [q]) (v:=Zh [1,1,64]) (by simp [Zh,q'])]; rfl⟩
 ·rw [ZT (by simp [q]),ZT (by simp [q]),ZT (by simp [q]),ZT (by simp [q]),ZT (by simp [q])]
  rcases r8 (c / 8) with q' | q' | q' | q' | q' | q' | q' | q'
  ·exact ⟨[65],ws1 (by omega),by rw [Z6 (by simp [q]) (v:=Zh [65]) (by simp [Zh,q'])]; rfl⟩
  ·exact ⟨[5,13],ws2 (by omega) (by omega),by rw [Z6 (by simp [q]) (v:=Zh [5,13]) (by simp [Zh,q'])]; rfl⟩
  ·exact ⟨[13,5,1],ws3 (by omega) (by omega) (by omega),by rw [Z6 (by simp [q]) (v:=Zh [13,5,1]) (by simp [Zh,q'])]; rfl⟩
  ·exact ⟨[22,3],ws2 (by omega) (by omega),by rw [Z6 (by simp [q]) (v:=Zh [22,3]) (by simp [Zh,q'])]; rfl⟩
  ·exact ⟨[1,65,1],ws3 (by omega) (by omega) (by omega),by rw [Z6 (by simp [q]) (v:=Zh [1,65,1]) (by simp [Zh,q'])]; rfl⟩
  ·exact ⟨[4,4,5],ws3 (by omega) (by omega) (by omega),by rw [Z6 (by simp [q]) (v:=Zh [4,4,5]) (by simp [Zh,q'])]; rfl⟩
  ·exact ⟨[65,1],ws2 (by omega) (by omega),by rw [Z6 (by simp [q]) (v:=Zh [65,1]) (by simp [Zh,q'])]; rfl⟩
  ·exact ⟨[1,2,33],ws3 (by omega) (by omega) (by omega),by rw [Z6 (by simp [q]) (v:=Zh [1,2,33]) (by simp [Zh,q'])]; rfl⟩
 ·exact ⟨[1+c / 8 / 7 % 5,1+c / 8 % 2000000000],ws2 (by omega) (by omega),by rw [ZT (by simp [q]),ZT (by simp [q]),ZT (by simp [q]),ZT (by simp [q]),ZT (by simp [q]),ZT (by simp [q]),Z6 (by simp [q]) (v:=Zh [1+c / 8 / 7 % 5,1+c / 8 % 2000000000]) (by simp [Zh])]; rfl⟩
 ·exact ⟨[2000000000,1+c / 8 % 2000000000,2000000000 - c / 8 / 5 % 3],ws3 (by omega) (by omega) (by omega),by rw [ZT (by simp [q]),ZT (by simp [q]),ZT (by simp [q]),ZT (by simp [q]),ZT (by simp [q]),ZT (by simp [q]),ZT (by simp [q]),X8 (v:=Zh [2000000000,1+c / 8 % 2000000000,2000000000 - c / 8 / 5 % 3]) (by simp [Zh])]; rfl⟩
theorem Zbi {F:PFn} (h18:∀ c,∃ v,Sm v∧F 18 [.int c]=some (.int v)) {a b c d w:Int}{k:Nat}{ts:Tk}{x2 x3 x4 x5:Option P} (hk:k≤2) (ht:ts.length≤10) (hw:1≤w∧w≤2000000000) :
  ∃ t:Int×Int,(-1000000000≤t.1∧t.1≤t.2∧t.2≤999999999)∧px F [1] Zk [some (Zh [a,b,c,d]),some (.lst true (ts.map ZZ)),some (.int (k:Int)),some (.int w),x4,x5]=some (.nx [some (Zh [a,b,c,d]),some (.lst true ((ts++[t]).map ZZ)),some (.int (k:Int)),some (.int w),some (.int t.1),x5]):=by
 obtain ⟨e,he⟩:∃ e,pe F (.ix (.var 0) (.bin .Add (.cst (.int 1)) (.var 2))) [some (Zh [a,b,c,d]),some (.lst true (ts.map ZZ)),some (.int (k:Int)),some (.int w),x4,x5]=some (.int e):=by
  rcases (show k=0∨k=1∨k=2 by omega) with rfl | rfl | rfl
  ·exact ⟨b,by simp [Zh]⟩
  ·exact ⟨c,by simp [Zh]⟩
  ·exact ⟨d,by simp [Zh]⟩
 obtain ⟨v,hv,e18⟩:=h18 e
 obtain ⟨lo,hlo⟩:∃ lo,(if 1000000000 - w < v then 1000000000 - w else v)=lo:=⟨_,rfl⟩
 have b1:=hv.1
 have b2:=hv.2
 refine ⟨(lo,lo+w - 1),⟨by show -1000000000≤lo; split at hlo<;>omega,by show lo≤lo+w - 1; omega,by show lo+w - 1≤999999999; split at hlo<;>omega⟩,?_⟩
 unfold Zk
 rw [Zz,UE (p:=.int lo) (by
  rw [Zc4,pe_call,YM,he]
  simp [e18,hlo]) rfl (by rfl),ZA]
 simp only [ZS,ZR]
 have z:ts.length < Zg:=by unfold Zg; omega
 rw [Zz,ZgV (xs:=ts.map ZZ) rfl]
 simp [Zp,noM,z,ZZ]
theorem Zbh {F:PFn} (h18:∀ c,∃ v,Sm v∧F 18 [.int c]=some (.int v)) {a b c d:Int}{x5:Option P}:∀ (ws:List Int) (k:Nat) (ts:Tk) (x2 x3 x4:Option P),k+ws.length≤3→ts.length=k→(∀ w∈ws,1≤w∧w≤2000000000)→(∀ t∈ts,-1000000000≤t.1∧t.1≤t.2∧t.2≤999999999)→
  ∃ ts' y2 y3 y4,Zhv ts'∧YK (fun x y π=>px F [1] Zk (Zj (Zj π 2 x) 3 y)) (Xv k (ws.map .int)) [some (Zh [a,b,c,d]),some (.lst true (ts.map ZZ)),x2,x3,x4,x5]=some (.nx [some (Zh [a,b,c,d]),some (.lst true (ts'.map ZZ)),y2,y3,y4,x5]):=by
 intro ws
 induction ws with
 | nil=>exact fun k ts x2 x3 x4 h1 h2 h3 h4=>⟨ts,x2,x3,x4,⟨by simp at h1; omega,h4⟩,rfl⟩
 | cons w ws ih=>
  intro k ts x2 x3 x4 h1 h2 h3 h4
  rw [List.length_cons] at h1
  obtain ⟨t,ok,e⟩:=Zbi (F:=F) h18 (a:=a) (b:=b) (c:=c) (d:=d) (w:=w) (k:=k) (ts:=ts) (x2:=x2) (x3:=x3) (x4:=x4) (x5:=x5) (by omega) (by omega) (h3 w List.mem_cons_self)
  obtain ⟨ts',y2,y3,y4,ok',e'⟩:=ih (k+1) (ts++[t]) (some (.int (k:Int))) (some (.int w)) (some (.int t.1)) (by omega) (by simp; omega) (fun q hq=>h3 q (List.mem_cons_of_mem _ hq)) (fun q hq=>by
   rcases List.mem_append.mp hq with hq | hq
   ·exact h4 q hq
   ·rw [List.mem_singleton.mp hq]; exact ok)
  refine ⟨ts',y2,y3,y4,ok',?_⟩
  show YK _ ((.int (k:Int),.int w) :: Xv (k+1) (ws.map .int)) _=_
  rw [Js]
  have e2:px F [1] Zk (Zj (Zj [some (Zh [a,b,c,d]),some (.lst true (ts.map ZZ)),x2,x3,x4,x5] 2 (.int (k:Int))) 3 (.int w))=_:=e
  rw [e2,XM,e']
theorem ZfZ {a b c d:Int}:∃ ts m r,Zhv ts∧Zv T (n+2) 30 [Zh [a,b,c,d]]=some (.tup [Zm ts,m,r]):=by
 rw [ZV (f:=c__law_program_k46) rfl rfl rfl]
 obtain ⟨ws,ok,ew⟩:=ZbA (n:=n) (c:=a)
 obtain ⟨ts,y2,y3,y4,okt,e⟩:=Zbh (F:=Zv T (n+1)) (fun c=>Zhx) (a:=a) (b:=b) (c:=c) (d:=d) (x5:=none) ws 0 [] none none none (by have:=ok.1; omega) rfl ok.2 (by simp)
 have hm:=okt.1
 refine ⟨ts,.int (if (ts.length:Int)+b / 24 % 3 < 5 then (ts.length:Int)+b / 24 % 3 else 5),.tup (List.replicate (c / 24 % 4).toNat (.tup [.str (S "skip")])),okt,?_⟩
 show Vg (px (Zv T (n+1)) [1] (.seq (.set 1 (.lstE .anil)) (.seq (.forE 2 3 (.call 142 (.acons (.ix (.var 0) (.cst (.int 0))) .anil) []) Zk) (.seq (.set 5 _) (.seq (.ret _) .skip)))) [some (Zh [a,b,c,d]),none,none,none,none,none])=_
 rw [Zz,Zas (p:=.lst true []) (by simp) rfl rfl,ZA]
 simp only [ZS,ZR]
 have e:YK (fun x y π=>px (Zv T (n+1)) [1] Zk (Zj (Zj π 2 x) 3 y)) (Xv 0 (ws.map .int)) [some (Zh [a,b,c,d]),some (.lst true []),none,none,none,none]=_:=e
 rw [Zz,ZeP (x:=Zh ws) (xs:=ws.map .int) (by
  have z:pe (Zv T (n+1)) (.ix (.var 0) (.cst (.int 0))) [some (Zh [a,b,c,d]),some (.lst true []),none,none,none,none]=some (.int a):=by simp [Zh]
  rw [pe_call,YM,z]
  simp [ew]) rfl rfl,e,ZA]
 rw [Zz,UE (p:=.int (if (ts.length:Int)+b / 24 % 3 < 5 then (ts.length:Int)+b / 24 % 3 else 5)) (by simp [Zh]) rfl rfl,ZA]
 simp only [ZS,ZR]
 rw [X8 (v:=.tup [Zm ts,.int (if (ts.length:Int)+b / 24 % 3 < 5 then (ts.length:Int)+b / 24 % 3 else 5),.tup (List.replicate (c / 24 % 4).toNat (.tup [.str (S "skip")]))]) (by
  simp [Zh,Zm,show c / 24 % 4≤1000 by omega,show -1000≤c / 24 % 4 by omega])]
 rfl
def cellK (ns:List Int) (k:Nat):Int:=(ns[k]?).getD 0
theorem ZfY {ns:List Int}{k:Nat}:Zv T (n+1) 27 [.lst false (ns.map .int),.int (k:Int)]=some (.int (cellK ns k)):=by
 rw [ZV (f:=c__law_cell_at_k25) rfl rfl rfl]
 unfold cellK
 by_cases h:k < ns.length
 ·simp [c__law_cell_at_k25,ZP,h]
 ·simp [c__law_cell_at_k25,ZP,h]
theorem ZbT {F:PFn}{ns:List Int}{q:Nat}{x2 x3 x4 x5 x6:Option P} (h27:∀ k:Nat,F 27 [.lst false (ns.map .int),.int (k:Int)]=some (.int (cellK ns k))) :
  pe F Yy [some (.lst false (ns.map .int)),some (.int (q:Int)),x2,x3,x4,x5,x6]=some (Zh [cellK ns (q+0),cellK ns (q+1),cellK ns (q+2),cellK ns (q+3)]):=by
 have e:∀ j:Nat,F 27 [.lst false (ns.map .int),.int ((q:Int)+(j:Int))]=some (.int (cellK ns (q+j))):=fun j=>by
  have:=h27 (q+j)
  rwa [Int.natCast_add] at this
 have one:∀ j:Nat,pe F (.call 27 (.acons (.var 2) (.acons (.bin .Add (.var 1) (.var 0)) .anil)) []) [some (.int (j:Int)),some (.int (q:Int)),some (.lst false (ns.map .int))]=some (.int (cellK ns (q+j))):=fun j=>by
  simp [e]
 unfold Yy
 rw [Zao]
 show ((some (P.int 4)).bind fun x=>_)=_
 rw [Option.bind_some,show YY true (.int 4)=some [.int ((0:Nat):Int),.int ((1:Nat):Int),.int ((2:Nat):Int),.int ((3:Nat):Int)] from rfl,Option.bind_some,if_pos (by simp)]
 have cp:Yn (fun p=>pe F (.call 27 (.acons (.var 2) (.acons (.bin .Add (.var 1) (.var 0)) .anil)) []) [some p,some (.int (q:Int)),some (.lst false (ns.map .int))]) (fun p=>pe F (.cst (.bl true)) [some p,some (.int (q:Int)),some (.lst false (ns.map .int))]) [.int ((0:Nat):Int),.int ((1:Nat):Int),.int ((2:Nat):Int),.int ((3:Nat):Int)]=some [.int (cellK ns (q+0)),.int (cellK ns (q+1)),.int (cellK ns (q+2)),.int (cellK ns (q+3))]:=by
  have t:∀ p:P,pe F (.cst (.bl true)) [some p,some (.int (q:Int)),some (.lst false (ns.map .int))]=some (.bl true):=fun _=>rfl
  simp only [Yn,t,one]
 have z:(fun p=>pe F (.call 27 (.acons (.var 2) (.acons (.bin .Add (.var 1) (.var 0)) .anil)) []) (Xl [some (.lst false (ns.map .int)),some (.int (q:Int)),x2,x3,x4,x5,x6] [1,0] p))=fun p=>pe F (.call 27 (.acons (.var 2) (.acons (.bin .Add (.var 1) (.var 0)) .anil)) []) [some p,some (.int (q:Int)),some (.lst false (ns.map .int))]:=rfl
 have z2:(fun p=>pe F (.cst (.bl true)) (Xl [some (.lst false (ns.map .int)),some (.int (q:Int)),x2,x3,x4,x5,x6] [1,0] p))=fun p=>pe F (.cst (.bl true)) [some p,some (.int (q:Int)),some (.lst false (ns.map .int))]:=rfl
 rw [z,z2,cp]
 rfl
theorem Zgb {t:Int×Int}{x:Int} (h:x∈ZW t):t.1≤x∧x≤t.2:=by
 unfold ZW Zt at h
 obtain ⟨k,hk,rfl⟩:=List.mem_map.mp h
 have z:=List.mem_range.mp hk
 unfold Zw at z
 split at z
 ·split at z
  ·omega
  ·omega
 ·exact absurd z (by omega)
theorem Zem {F:PFn}{i:List Int}{ts:Tk}{k:Nat}{x:Int}{t:Int×Int} (h17:∀ x:Int,F 17 [.int x]=some (.bl true)) (h1:i[k]?=some x) (h2:ts[k]?=some t) (h3:t.1≤x∧x≤t.2):px F [] Zx [some (Zq i),some (Zm ts),some (.int (k:Int))]=some (.nx [some (Zq i),some (Zm ts),some (.int (k:Int))]):=by
 have a1:atP (i.map P.int) (k:Int)=some (.int x):=by rw [Yi rfl,List.getElem?_map,h1]; rfl
 have a2:atP (ts.map ZZ) (k:Int)=some (ZZ t):=by rw [Yi rfl,List.getElem?_map,h2]; rfl
 unfold Zx
 rw [ZT (by simp [Zq,Zm,a1,a2,ZZ,h17,show ¬x < t.1 by omega,show ¬t.2 < x by omega])]
 rfl
theorem Zbz {i:List Int}{ts:Tk} (h:Yt i (ts.map ZW)) (hl:ts.length≤100):Zv T (n+2) 101 [Zq i,Zm ts]=some (.bl true):=by
 rw [ZV (f:=c__law_inputs_k45) rfl rfl rfl]
 have hln:=XW h
 rw [List.length_map] at hln
 obtain ⟨π',e,y,rfl⟩:=W7 (B:=fun d π=>px (Zv T (n+1)) [] Zx (Zj π 2 d)) (fun _ π=>∃ y,π=[some (Zq i),some (Zm ts),y]) (m:=ts.length) (π:=[some (Zq i),some (Zm ts),none]) (fun k hk π hπ=>by
  obtain ⟨y,rfl⟩:=hπ
  obtain ⟨x,ns,h1,h2,h3⟩:=U8 h k (by rw [List.length_map]; exact hk)
  rw [List.getElem?_map,List.getElem?_eq_getElem hk] at h2
  cases h2
  exact ⟨_,Zem (fun x=>JP rfl) h1 (List.getElem?_eq_getElem hk) (Zgb h3),_,rfl⟩) ⟨_,rfl⟩
 show Vg (px (Zv T (n+1)) [] (.seq (.ite _ _ _) (.seq (.for1 2 true (.len (.var 1)) Zx) (.seq (.ret _) .skip))) [some (Zq i),some (Zm ts),none])=_
 rw [ZT (by simp [Zq,Zm,hln]),Zz,Zar (n:=ts.length) (by simp [Zm]) (by omega) rfl,e,ZA,X8 (v:=.bl true) (by simp)]
 rfl
theorem ZbC {F:PFn}{L:List (List Int)}{ts:Tk}{x2:Option P}{k m:Nat} (hk:k < L.length) (h101:∀ i∈L,F 101 [Zq i,Zm ts]=some (.bl true)) (hl:∀ i∈L,i.length=m) (ho:Ord L) :
  px F [] ZH [some (.tup (L.map Zq)),some (Zm ts),x2,some (.int (k:Int))]=some (.nx [some (.tup (L.map Zq)),some (Zm ts),x2,some (.int (k:Int))]):=by
 have e1:=List.getElem?_eq_getElem hk
 have a1:atP (L.map Zq) (k:Int)=some (Zq L[k]):=by rw [Yi rfl,List.getElem?_map,e1]; rfl
 have c1:=h101 _ (List.getElem_mem hk)
 unfold ZH
 cases k with
 | zero=>rw [ZT (by simp [e1,c1])]; rfl
 | succ k=>
  have hk':k < L.length:=by omega
  have e2:=List.getElem?_eq_getElem hk'
  have a2:atP (L.map Zq) (((k+1:Nat):Int) - 1)=some (Zq L[k]):=by rw [Yi (n:=k) (by omega),List.getElem?_map,e2]; rfl
  have lt:=Zi2 ((hl _ (List.getElem_mem hk')).trans (hl _ (List.getElem_mem hk)).symm) (List.pairwise_iff_getElem.mp ho k (k+1) hk' hk (by omega))
  rw [ZT (by
   have z:(0:Int) < ((k+1:Nat):Int):=by omega
   simp only [pe_or,pe_and,pe_not,pe_call,YM,UA,pe_ix,pe_var,pe_cmp,Jw,Zc0,Uy,List.getElem?_cons_zero,List.getElem?_cons_succ,Option.join_some,Option.bind_some,ix_tup,a1,WP,List.length_nil,List.length_cons,show (0:Nat) < 1000 by omega,show (0+1:Nat) < 1000 by omega,if_true,UV,Qz,List.append_nil,c1,ZgB,ZbV,Zgg,JT,a2,lt,decide_eq_true z,Bool.not_true,Bool.false_eq_true,if_false])]
  rfl
theorem Zhw {ts:Tk} (h2:Yd (ts.map ZW)≤1000) (h4:ts.length≤100):Zv T (n+3) 145 [.tup ((ZU (ts.map ZW)).map Zq),Zm ts,.int (Yd (ts.map ZW):Int)]=some (.bl true):=by
 rw [ZV (f:=c__law_all_k45) rfl rfl rfl]
 have hL:(ZU (ts.map ZW)).length=Yd (ts.map ZW):=by
  have:=U3 (nss:=ts.map ZW) (L:=[[]])
  simpa [ZU] using this
 obtain ⟨π',e',z,rfl⟩:=W7 (B:=fun d π=>px (Zv T (n+2)) [] ZH (Zj π 3 d)) (fun _ π=>∃ z,π=[some (.tup ((ZU (ts.map ZW)).map Zq)),some (Zm ts),some (.int (Yd (ts.map ZW):Int)),z]) (m:=Yd (ts.map ZW)) (π:=[some (.tup ((ZU (ts.map ZW)).map Zq)),some (Zm ts),some (.int (Yd (ts.map ZW):Int)),none]) (fun k hk π hπ=>by
  obtain ⟨z,rfl⟩:=hπ
  exact ⟨_,ZbC (by omega) (fun i hi=>Zbz (Wa i hi) h4) (fun i hi=>XW (Wa i hi)) (Jj fun ns hn=>by
   obtain ⟨t,ht,rfl⟩:=List.mem_map.mp hn
   exact Q8),_,rfl⟩) ⟨_,rfl⟩
 show Vg (px (Zv T (n+2)) [] (.seq (.ite _ _ _) (.seq (.for1 3 true (.var 2) ZH) (.seq (.ret _) .skip))) [some (.tup ((ZU (ts.map ZW)).map Zq)),some (Zm ts),some (.int (Yd (ts.map ZW):Int)),none])=_
 rw [ZT (by simp [hL]),Zz,Zar (n:=Yd (ts.map ZW)) (by simp) (by omega) rfl,e',ZA,X8 (v:=.bl true) (by simp)]
 rfl
theorem Zhy {ts:Tk}{b c:P} (h:∀ t∈ts,ZI (t.2 - t.1+1)=true) (hw:64 < Zn 1 ts):Zv T (n+4) 229 [.tup [Zm ts,b,c],.int (Zn 1 ts)]=some (.bl true):=by
 have w:=Zby (n:=n) Zfm (b:=b) (c:=c) h
 rw [decide_eq_true hw] at w
 have w1:=V6 (n:=n+1) Zfm (b:=b) (c:=c) h
 have e:Zv T (n+3) 900 [.tup [Zm ts,b,c]]=some (.int (Zn 1 ts)):=by
  rw [ZV (f:=⟨1,1,.ite (.call 135 (.acons (.var 0) .anil) []) (.ret (.call 133 (.acons (.var 0) .anil) [])) .stop⟩) rfl rfl rfl]
  simp [ZP,w,w1]
 rw [ZV (f:=⟨2,4,.ret (.cmp .Eq (.bin .Sub (.call 900 (.acons (.var 0) .anil) []) (.var 1)) (.cst (.int 0)))⟩) rfl rfl rfl]
 simp [ZP,e]
theorem Zbu {F:PFn}{x0 x1 x2 x6 x3 x4:Option P}{m:Int}{t:Int×Int} (h:ZI (t.2 - t.1+1)=true):Xn 4 5 (px F [] Y0) (ZZ t) [x0,x1,x2,some (.int m),x3,x4,x6]=some (.nx [x0,x1,x2,some (.int (m * (t.2 - t.1+1))),some (.int t.1),some (.int t.2),x6]):=by
 have e:pe F (.bin .Mult (.var 3) (.bin .Sub (.bin .Add (.var 5) (.cst (.int 1))) (.var 4))) [x0,x1,x2,some (.int m),some (.int t.1),some (.int t.2),x6]=some (.int (m * (t.2 - t.1+1))):=by
  simp only [Zc0,pe_var,Jw,Uy,List.getElem?_cons_zero,List.getElem?_cons_succ,Option.join_some,Option.bind_some,ZdL,JT]
  rw [show t.2+1 - t.1=t.2 - t.1+1 by omega]
  exact Zgz h
 show px F [] (.seq (.set 3 _) .skip) [x0,x1,x2,some (.int m),some (.int t.1),some (.int t.2),x6]=_
 rw [Vw e]
 rfl
theorem Zbt {F:PFn}{x0 x1 x2 x6:Option P}:∀ (ts:Tk) (m:Int) (x3 x4:Option P),(∀ t∈ts,ZI (t.2 - t.1+1)=true)→
  ∃ y3 y4,Zy (Xn 4 5 (px F [] Y0)) (ts.map ZZ) [x0,x1,x2,some (.int m),x3,x4,x6]=some (.nx [x0,x1,x2,some (.int (Zn m ts)),y3,y4,x6]):=by
 intro ts
 induction ts with
 | nil=>exact fun m x3 x4 _=>⟨x3,x4,rfl⟩
 | cons t ts ih=>
  intro m x3 x4 h
  obtain ⟨y3,y4,e⟩:=ih (m * (t.2 - t.1+1)) (some (.int t.1)) (some (.int t.2)) fun q hq=>h q (List.mem_cons_of_mem _ hq)
  exact ⟨y3,y4,by rw [List.map_cons,YL,Zbu (h t List.mem_cons_self),XM,e]; rfl⟩
theorem ZcA {F:PFn}{s:P}{q:Nat}{ts:Tk}{b c m cells:P}{x2 x3 x4 x5 x6:Option P} (hc:pe F Yy [some s,some (.int (q:Int)),x2,x3,x4,x5,x6]=some cells)
  (h30:F 30 [cells]=some (.tup [Zm ts,b,c])) (hw:∀ t∈ts,ZI (t.2 - t.1+1)=true) (h133:F 133 [.tup [Zm ts,b,c]]=some (.int (Zn 1 ts))) (h17:F 17 [.int (Zn 1 ts)]=some (.bl true))
  (h229:64 < Zn 1 ts→F 229 [.tup [Zm ts,b,c],.int (Zn 1 ts)]=some (.bl true)) (h136:Zn 1 ts≤64→F 136 [.tup [Zm ts,b,c]]=some m) (h145:Zn 1 ts≤64→F 145 [m,Zm ts,.int (Zn 1 ts)]=some (.bl true)) :
  ∃ y2 y3 y4 y5 y6,px F [] Yb [some s,some (.int (q:Int)),x2,x3,x4,x5,x6]=some (.nx [some s,some (.int (q:Int)),y2,y3,y4,y5,y6]):=by
 obtain ⟨y4,y5,e⟩:=Zbt (F:=F) (x0:=some s) (x1:=some (.int (q:Int))) (x2:=some (.tup [Zm ts,b,c])) (x6:=x6) ts 1 x4 x5 hw
 unfold Yb
 rw [Vw (v:=.tup [Zm ts,b,c]) (by
  rw [pe_call,YM,hc]
  simp [h30])]
 simp only [ZS,ZR]
 rw [Vw (v:=.int 1) (by simp)]
 simp only [ZS,ZR]
 rw [Zz,QI (xs:=ts.map ZZ) (by simp [Zm]) (by simp [W4]),e,ZA]
 rw [Vw (v:=.int (Zn 1 ts)) (by simp [h133])]
 simp only [ZS,ZR]
 rw [ZT (by simp [h17])]
 by_cases h:Zn 1 ts≤64
 ·have c1:px F [] (.ite (.cmp .Gt (.var 3) (.cst (.int 64))) (.seq (.ite (.not (.call 229 (.acons (.var 2) (.acons (.var 3) .anil)) [])) (.seq (.ret (.cst (.bl false))) .skip) .skip) .skip) (.seq (.ite (.not (.call 145 (.acons (.call 136 (.acons (.var 2) .anil) []) (.acons (.ix (.var 2) (.cst (.int 0))) (.acons (.var 3) .anil))) [])) (.seq (.ret (.cst (.bl false))) .skip) .skip) .skip)) [some s,some (.int (q:Int)),some (.tup [Zm ts,b,c]),some (.int (Zn 1 ts)),y4,y5,some (.int (Zn 1 ts))]=some (.nx [some s,some (.int (q:Int)),some (.tup [Zm ts,b,c]),some (.int (Zn 1 ts)),y4,y5,some (.int (Zn 1 ts))]):=by
   rw [UD,show pe F (.cmp .Gt (.var 3) (.cst (.int 64))) [some s,some (.int (q:Int)),some (.tup [Zm ts,b,c]),some (.int (Zn 1 ts)),y4,y5,some (.int (Zn 1 ts))]=some (.bl false) by simp; omega,Wx,if_neg (by simp),ZT (by simp [h136 h,h145 h])]
   rfl
  rw [Zz,c1,ZA]
  exact ⟨_,_,_,_,_,rfl⟩
 ·have c1:px F [] (.ite (.cmp .Gt (.var 3) (.cst (.int 64))) (.seq (.ite (.not (.call 229 (.acons (.var 2) (.acons (.var 3) .anil)) [])) (.seq (.ret (.cst (.bl false))) .skip) .skip) .skip) (.seq (.ite (.not (.call 145 (.acons (.call 136 (.acons (.var 2) .anil) []) (.acons (.ix (.var 2) (.cst (.int 0))) (.acons (.var 3) .anil))) [])) (.seq (.ret (.cst (.bl false))) .skip) .skip) .skip)) [some s,some (.int (q:Int)),some (.tup [Zm ts,b,c]),some (.int (Zn 1 ts)),y4,y5,some (.int (Zn 1 ts))]=some (.nx [some s,some (.int (q:Int)),some (.tup [Zm ts,b,c]),some (.int (Zn 1 ts)),y4,y5,some (.int (Zn 1 ts))]):=by
   rw [UD,show pe F (.cmp .Gt (.var 3) (.cst (.int 64))) [some s,some (.int (q:Int)),some (.tup [Zm ts,b,c]),some (.int (Zn 1 ts)),y4,y5,some (.int (Zn 1 ts))]=some (.bl true) by simp; omega,Wx,if_pos rfl,ZT (by simp [h229 (by omega)])]
   rfl
  rw [Zz,c1,ZA]
  exact ⟨_,_,_,_,_,rfl⟩
theorem Zcz {ns:List Int}{q:Nat}{x2 x3 x4 x5 x6:Option P}:∃ y2 y3 y4 y5 y6,px (Zv T (n+9)) [] Yb [some (.lst false (ns.map .int)),some (.int (q:Int)),x2,x3,x4,x5,x6]=some (.nx [some (.lst false (ns.map .int)),some (.int (q:Int)),y2,y3,y4,y5,y6]):=by
 have hc:=ZbT (F:=Zv T (n+9)) (ns:=ns) (q:=q) (x2:=x2) (x3:=x3) (x4:=x4) (x5:=x5) (x6:=x6) fun k=>ZfY (n:=n+8)
 obtain ⟨ts,b,c,ok,h30⟩:=ZfZ (n:=n+7) (a:=cellK ns (q+0)) (b:=cellK ns (q+1)) (c:=cellK ns (q+2)) (d:=cellK ns (q+3))
 have okl:=ok.1
 have le:∀ t∈ts,t.1≤t.2:=fun t ht=>(ok.2 t ht).2.1
 have hw:∀ t∈ts,ZI (t.2 - t.1+1)=true:=fun t ht=>by
  have:=ok.2 t ht
  exact Zew (by omega) (by omega)
 have wp:=Vl (m:=1) le
 rw [Int.one_mul] at wp
 have b1:∀ ns∈ts.map ZW,1≤ns.length:=fun ns hn=>by
  obtain ⟨t,ht,rfl⟩:=List.mem_map.mp hn
  have:=Ub (le t ht)
  have:=le t ht
  omega
 have lb:∀ (l:List (List Int)),(∀ ns∈l,1≤ns.length)→∀ ns∈l,ns.length≤Yd l:=fun l=>by
  induction l with
  | nil=>intro _ ns hn; exact nomatch hn
  | cons a l ih=>
   intro h ns hn
   have p1:=Ve fun q hq=>h q (List.mem_cons_of_mem _ hq)
   show ns.length≤a.length * Yd l
   rcases List.mem_cons.mp hn with rfl | hn
   ·exact Nat.le_mul_of_pos_right _ p1
   ·exact Nat.le_trans (ih (fun q hq=>h q (List.mem_cons_of_mem _ hq)) ns hn) (Nat.le_mul_of_pos_left _ (h a List.mem_cons_self))
 refine ZcA (m:=.tup ((ZU (ts.map ZW)).map Zq)) hc h30 hw (V6 (n:=n+8) Zfm hw) (JP rfl) (fun z=>Zhy (n:=n+5) hw z) (fun h=>?_) (fun h=>?_)
 ·have pb:Yd (ts.map ZW)≤64:=by omega
  have hb:∀ t∈ts,Zs t.1 (t.2+1) 1=true∧t.2+1 - t.1≤1000:=fun t ht=>by
   have o:=ok.2 t ht
   have l1:=lb _ b1 (ZW t) (List.mem_map.mpr ⟨t,ht,rfl⟩)
   have l2:=Ub (le t ht)
   exact ⟨decide_eq_true ⟨⟨by omega,by omega⟩,⟨by omega,by omega⟩,.inl rfl⟩,by omega⟩
  exact Zhq (n:=n+6) Zfm hw h hb (by omega) (VU b1 (by simp) (by simp; omega))
 ·rw [wp]
  exact Zhw (n:=n+6) (by omega) (by omega)
theorem Za7 {n:Nat}{ns:List Int} (hn:ns.length≤63):Zv T (n+10) 16 [.lst false (ns.map .int)]=some (.bl true):=by
 rw [ZV (f:=c_law_k45) rfl rfl rfl]
 obtain ⟨b,hb,hb2⟩:∃ b:Int,(max 1 (min (ns.length:Int) 60):Int)=b∧(0≤b∧b≤60):=⟨_,rfl,by omega⟩
 obtain ⟨π',e,y1,y2,y3,y4,y5,y6,rfl⟩:=Qo (B:=fun d π=>px (Zv T (n+9)) [] Yb (Zj π 1 d)) (I:=fun π=>∃ y1 y2 y3 y4 y5 y6,π=[some (.lst false (ns.map .int)),y1,y2,y3,y4,y5,y6]) (xs:=(Zt 0 b 4).map P.int) (fun x hx π hπ=>by
  obtain ⟨y1,y2,y3,y4,y5,y6,rfl⟩:=hπ
  obtain ⟨z,hz,rfl⟩:=List.mem_map.mp hx
  unfold Zt at hz
  obtain ⟨k,_,rfl⟩:=List.mem_map.mp hz
  obtain ⟨z2,z3,z4,z5,z6,e⟩:=Zcz (n:=n) (ns:=ns) (q:=k * 4) (x2:=y2) (x3:=y3) (x4:=y4) (x5:=y5) (x6:=y6)
  refine ⟨[some (.lst false (ns.map .int)),some (.int ((k * 4:Nat):Int)),z2,z3,z4,z5,z6],?_,some (.int ((k * 4:Nat):Int)),z2,z3,z4,z5,z6,rfl⟩
  rw [show (0:Int)+(k:Int) * 4=((k * 4:Nat):Int) by omega]
  exact e) [some (.lst false (ns.map .int)),none,none,none,none,none,none] ⟨_,_,_,_,_,_,rfl⟩
 show Vg (px (Zv T (n+9)) [] (.seq (.for3 1 _ Yb) (.seq (.ret _) .skip)) [some (.lst false (ns.map .int)),none,none,none,none,none,none])=_
 rw [Zz,ZeO (zs:=Zt 0 b 4) (p:=.tup [.int 0,.int b,.int 4]) (by
  have m1:(if (60:Int) < (ns.length:Int) then (60:Int) else (ns.length:Int))=min (ns.length:Int) 60:=by omega
  have m2:(if min (ns.length:Int) 60 > 1 then min (ns.length:Int) 60 else 1)=b:=by rw [←hb]; omega
  simp only [YM,Jw,ZgO,Zc4,ZgN,pe_var,UA,Uy,List.getElem?_cons_zero,Option.join_some,Option.bind_some,Zev,List.length_map,ZeD,ZeB,m1,m2,WP,List.length_nil,List.length_cons,show (0:Nat) < 1000 by omega,show (0+1:Nat) < 1000 by omega,show (0+1+1:Nat) < 1000 by omega,if_true]) (by
  show (if Zs 0 b 4 then some (Zt 0 b 4) else none)=_
  rw [if_pos (show Zs 0 b 4=true from decide_eq_true ⟨⟨by omega,by omega⟩,⟨by omega,by omega⟩,.inr (.inr (.inr (.inr rfl)))⟩)]) rfl,e,ZA,X8 (v:=.bl true) (by simp)]
 rfl
end
end Dp


namespace PySem.W.Fast
def tw10492568465889863929:=0
def tw9938824266763614752:=0
def tw9631217321157613201:=0
def tw367828360550143372:=0
def tw3397404833883853616:=0
def tw16857976475067650917:=0
def tw14609385576305274655:=0
def tw2542550621744067666:=0
def tw17336355843405626101:=0
def tw4536197429942021552:=0
def tw2228992602841842881:=0
def tw6799045602960953216:=0
def tw601663542156467667:=0
def tw11371667004873210755:=0
def tw13536797766682311920:=0
def tw7168145298045856218:=0
def tw16045298897578992103:=0
def tw8839303613818456566:=0
def tw8727461317843157065:=0
def tw6113911550347588864:=0
def tw10527458318057482933:=0
def tw17759142436606577665:=0
def tw4371230201551342636:=0
def tw11163366548418878056:=0
def tw1091829214372005293:=0
def tw12604146636536523226:=0
def tw13200799944203365248:=0
def tw2474242237342391401:=0
def tw11038991842980438056:=0
def tw16786171345708752182:=0
def tw936324423862041365:=0
def tw12961543034587337511:=0
def tw11367581350454395911:=0
def tw62721844505126391:=0
def tw7365921391345508230:=0
def tw4926029845364749439:=0
def tw5781636139623125300:=0
def tw15909220776897705255:=0
def tw130409096891212867:=0
def tw4117654647768600991:=0
def tw7912578239094816324:=0
def tw11417834806682272076:=0
def tw15435129131686480348:=0
def tw11035431905283502227:=0
def tw3555883256941735600:=0
def tw14082168394825823360:=0
def tw5613525538678425583:=0
def tw2685542589387290274:=0
def tw8535895911937076605:=0
def tw8362211331866633222:=0
def tw7065222699770980091:=0
def tw17554349615503606039:=0
def tw18063660510271600972:=0
def tw7643036026740088028:=0
def tw2029610376933708169:=0
def tw11960963670683987414:=0
def tw14880862171695164307:=0
def tw16772118352228379040:=0
def tw3429383532656209707:=0
def tw407234396390879888:=0
def tw2247729701568614245:=0
def tw10631489854048000526:=0
def tw10819913149115643508:=0
def tw8649622954546342802:=0
def tw11413799017778764873:=0
def tw13697020998874683898:=0
def tw4518247510986656788:=0
def tw5518079339893780559:=0
def tw3003159276108715944:=0
def tw9825316371363042946:=0
def tw2120399037510510576:=0
def tw14716811185558903573:=0
def tw12846668625372681045:=0
def tw17697570829269280625:=0
def tw5855562999844702099:=0
def tw4748106629801569309:=0
def tw6022970981745603338:=0
def tw7603300874432904252:=0
end PySem.W.Fast
namespace Dp
open PySem L2
noncomputable def top (i:Nat):Stmt:=PySem.Challenge.pw_fakehunt_k45_boxes.main.body.getD i (.Pass ⟨0,0,0,0⟩)
noncomputable def G:Gs:=[(S "WIDEST",GV.cst (.int 64)),(S "width",GV.fn 133 1 []),(S "inputs_of",GV.fn 134 1 []),(S "is_wide",GV.fn 135 1 []),(S "box",GV.fn 136 1 []),(S "_law_cell_at",GV.fn 27 2 []),(S "_law_whole",GV.fn 17 1 []),(S "_law_number_by",GV.fn 18 1 []),(S "_law_widths",GV.fn 142 1 []),(S "_law_program",GV.fn 30 1 []),(S "_law_inputs",GV.fn 101 2 []),(S "_law_all",GV.fn 145 3 []),(S "_law_refused",GV.fn 229 2 []),(S "law",GV.fn 16 1 []),(S "len",GV.blt),(S "range",GV.blt),(S "tuple",GV.blt),(S "list",GV.blt),(S "int",GV.blt),(S "bool",GV.blt),(S "str",GV.blt),(S "min",GV.blt),(S "max",GV.blt),(S "isinstance",GV.blt),(S "all",GV.blt),(S "any",GV.blt),(S "zip",GV.blt),(S "sorted",GV.blt),(S "enumerate",GV.blt)]
noncomputable def ZhV (i k:Nat):Stmt:=match top i with
 | .ClassDef _ _ _ b _ _ _ _ _ _ _=>b.getD k (.Pass ⟨0,0,0,0⟩)
 | s=>s
abbrev Cmp (i:Nat) (N ps:List Str) (c:CS):Prop:=ZfU G (top i) N ps c
local macro_rules
 | `(tactic| trivial)=>`(tactic| exact ⟨⟨rfl,rfl,rfl,by decide +kernel,rfl,by decide +kernel,by decide +kernel⟩,by unfold L2.Loc; decide +kernel,by kernel_rfl⟩)
theorem Zi8:Cmp 11 [S "program",S "many",S "low",S "high"] [S "program"] c_width.body:=by trivial
theorem Zi9:Cmp 12 [S "numbers_taken",S "told",S "numbers",S "longer",S "inputs"] [S "numbers_taken"] c_inputs_of.body:=by trivial
theorem Zja:Cmp 13 [S "program"] [S "program"] c_is_wide.body:=by trivial
theorem Zjb:Cmp 14 [S "program"] [S "program"] c_box.body:=by trivial
theorem Zjc:Cmp 16 [S "_law_script",S "_law_k"] [S "_law_script",S "_law_k"] c__law_cell_at_k25.body:=by trivial
theorem Zjd:Cmp 17 [S "_law_found"] [S "_law_found"] c__law_whole.body:=by trivial
theorem Zje:Cmp 18 [S "_law_cell"] [S "_law_cell"] c__law_number_by_k25.body:=by trivial
theorem Zjf:Cmp 19 [S "_law_cell",S "_law_free"] [S "_law_cell"] c__law_widths.body:=by trivial
theorem Zjg:Cmp 20 [S "_law_cells",S "_law_takes",S "_law_k",S "_law_wide",S "_law_low",S "_law_names"] [S "_law_cells"] c__law_program_k46.body:=by trivial
theorem Zjh:Cmp 21 [S "_law_found",S "_law_takes",S "_law_k"] [S "_law_found",S "_law_takes"] c__law_inputs_k45.body:=by trivial
theorem Zji:Cmp 22 [S "_law_found",S "_law_takes",S "_law_many",S "_law_k"] [S "_law_found",S "_law_takes",S "_law_many"] c__law_all_k45.body:=by trivial
theorem Zh9:Cmp 25 [S "_law_script",S "_law_k",S "_law_program_here",S "_law_many",S "_law_low",S "_law_high",S "_law_found"] [S "_law_script"] c_law_k45.body:=by trivial
@[reducible] noncomputable def tab (l:List (Nat×Addr)):ClsTab:=⟨fun i=>(l.lookup i).getD 0⟩
section
variable [ct:ClsTab]
theorem Vy {F:Nat→Fn}{i:Nat}{a:CE}{ρ:Env}{st:Za} (h:∀ ds st,F i ds st=none):ev F (.call i a []) ρ st=none:=by
 show Z2 (ev F a) (WM (F i) []) ρ st=none
 unfold Z2
 split
 ·unfold WM
  split
  ·exact h _ _
  ·rfl
 ·rfl
theorem Zi0 (ds:List D) (st:Za):run T 1 135 ds st=none:=by
 show fnD (run T 0) c_is_wide ds st=none
 unfold fnD
 split
 ·have e:∀ ρ,ex (run T 0) c_is_wide.body ρ st=none:=fun ρ=>by
   show (match (match (match ev (run T 0) (.call 133 (.acons (.var 0) .anil) []) ρ st with | some (x,st1)=>WN .Gt x (.int 64) st1 | none=>none) with | some (d,st')=>some (Fl.rt d,st') | none=>none) with | some (.nx ρ',st1)=>some (Fl.nx ρ',st1) | r=>r)=none
   rw [Vy fun _ _=>rfl]
  rw [e]
 ·rfl
theorem low (m:Nat) (ds:List D) (st:Za) (h:m≤2):run T m 900 ds st=none:=by
 have go:∀ F:Nat→Fn,(∀ ds st,F 135 ds st=none)→fnD F ⟨1,1,.ite (.call 135 (.acons (.var 0) .anil) []) (.ret (.call 133 (.acons (.var 0) .anil) [])) .stop⟩ ds st=none:=fun F hF=>by
  unfold fnD
  split
  ·have e:∀ ρ,ex F (.ite (.call 135 (.acons (.var 0) .anil) []) (.ret (.call 133 (.acons (.var 0) .anil) [])) .stop) ρ st=none:=fun ρ=>by
    show Vs (ev F (.call 135 (.acons (.var 0) .anil) [])) _ _ ρ st=none
    unfold Vs
    rw [Vy hF]
   rw [e]
  ·rfl
 match m,h with
 | 0,_=>rfl
 | 1,_=>exact go (run T 0) fun _ _=>rfl
 | 2,_=>exact go (run T 1) Zi0
theorem Zaf:∀ n,Yz G (run T n):=fun _=>ZdZ
theorem ZiH {K:PySem.W.Frag}{h:Heap}{mg:Str→Option Value}{C fI Bh B3 B4 B5 B6 B7 B8:Addr} (X:K.In h) (G0:h.Ns mainGlobals mg) (xa:XAt K "TooWide" "TooWide.__init__" "width" (ZhV 7 0) C fI) (ab:FnAt K "box" (top 14)) (aw:FnAt K "_law_whole" (top 17)) (xt:FnAt K "_law_too_wide" (top 23))
  (zi:PySem.W.nsIn K mainGlobals "isinstance"=some none) (z1:PySem.W.nsIn K mainGlobals "int"=some none) (z2:PySem.W.nsIn K mainGlobals "bool"=some none) (xv:PySem.W.nsIn K mainGlobals "ValueError"=some none) (xh:PySem.W.nsIn K mainGlobals "HuntError"=some (some (.ref Bh))) (xm:PySem.W.exmOne K (.ref C) (.ref Bh)=some true)
  (x1:PySem.W.kitOne K (.ref C) (.ref C)=some true) (x2:PySem.W.kitOne K (.ref C) (.type "ValueError")=some true)
  (c3:PySem.W.nsIn K mainGlobals "TooMany"=some (some (.ref B3))) (x3:PySem.W.kitOne K (.ref C) (.ref B3)=some false) (c4:PySem.W.nsIn K mainGlobals "TextError"=some (some (.ref B4))) (x4:PySem.W.kitOne K (.ref C) (.ref B4)=some false)
  (c5:PySem.W.nsIn K mainGlobals "NoLine"=some (some (.ref B5))) (x5:PySem.W.kitOne K (.ref C) (.ref B5)=some false) (c6:PySem.W.nsIn K mainGlobals "Twice"=some (some (.ref B6))) (x6:PySem.W.kitOne K (.ref C) (.ref B6)=some false)
  (c7:PySem.W.nsIn K mainGlobals "NoName"=some (some (.ref B7))) (x7:PySem.W.kitOne K (.ref C) (.ref B7)=some false) (c8:PySem.W.nsIn K mainGlobals "NoPlace"=some (some (.ref B8))) (x8:PySem.W.kitOne K (.ref C) (.ref B8)=some false)
  {f:Addr}{oc kV dc pm cd ct':Value}{od an:Option Addr}{sl:Array (Option Value)} (lk:K.lookup f=some ⟨oc,od,.func (fnS "_law_refused" "_law_refused" (top 24) .none kV dc pm an cd ct'),sl⟩) (hcd:PySem.W.codeIn K cd "_law_refused"=true) :
  ZaE K mg G T 229 f (fnS "_law_refused" "_law_refused" (top 24) .none kV dc pm an cd ct') [S "_law_program_here",S "_law_many"]:=by
 intro P w base n gl
 obtain ⟨xc,xg⟩:=xa.cls
 have na:=xc.na
 cases xa with
 | mk ca cl lb ln sk n1 n2 n3 n4 sa na' ini kp ga gn gc gs gt gm gd li ci ic=>
 cases ab with
 | @mk fb ob kb db pb cb tb odb anb slb ba bl be bk=>
 cases aw with
 | mk wa wl we wk=>
 cases xt with
 | mk ta tl te tk=>
 have sub:∀ {sc:Scope}{t:Str}{B:Addr}{b:Bool},isG sc t→(t==("__debug__":Str))=false→PySem.W.nsIn K mainGlobals t=some (some (.ref B))→PySem.W.kitOne K (.ref C) (.ref B)=some b→Sub K mg sc C t b:=fun h1 h2 h3 h4=>⟨h1,h2,_,PySem.W.mg_of X G0 h3,h4⟩
 have mi:=PySem.W.mg_none_of X G0 zi
 have W:FnOk P w K mg base CX0 1 _ _ [S "_law_found"] spW:=ZdF wl we ⟨rfl,rfl,rfl,by decide +kernel,rfl,by decide +kernel,by decide +kernel⟩ (.inl rfl) rfl rfl rfl mi (PySem.W.mg_none_of X G0 z1) (PySem.W.mg_none_of X G0 z2) (by decide) (by decide)
 have TW:FnOk P w K mg base CX0 2 _ _ [S "_law_error",S "_law_many"] (spT C "width"):=Zfq tl te ⟨rfl,rfl,rfl,by decide +kernel,rfl,by decide +kernel,by decide +kernel⟩ (.inl rfl) (.inl rfl) rfl mi rfl (PySem.W.mg_none_of X G0 xv) rfl (PySem.W.mg_of X G0 wa) wk (bd1 rfl fun _=>rfl) W xg na
  (sub rfl (by decide) ca x1) x2 (sub rfl (by decide) c3 x3) (sub rfl (by decide) c4 x4) (sub rfl (by decide) c5 x5) (sub rfl (by decide) c6 x6) (sub rfl (by decide) c7 x7) (sub rfl (by decide) c8 x8) (by decide) (by decide) (by decide) (by decide) (by decide)
 have FI:FnOk P w K mg base CX0 1 fI _ [S "self",S "width"] (spI C "width"):=Zgu xc li ci ⟨rfl,rfl,rfl,by decide +kernel,rfl,by decide +kernel,by decide +kernel⟩ (.inl rfl) (.inl rfl) (by decide) (by decide) (by decide) (by decide)
 have BX:FnOk P w K mg base (CX1 P w) n fb (fnS "box" "box" (top 14) .none kb db pb anb cb tb) [S "program"] (spX K C "width" (run T n 900)):=by
  cases n with
  | zero=>exact ⟨fun vs H Q E h=>(by obtain ⟨_,_,_,_,_,_,_,e,_⟩:=h; cases e),fun A outer s H args us vs Q E _ _ _ _ h=>(by obtain ⟨_,_,_,_,_,_,_,e,_⟩:=h; cases e)⟩
  | succ n=>exact Zdj (n:=n) (N:=[S "program"]) Zaf (fun A hr=>gl n (Nat.le_succ n) A hr) xc FI (bd2 rfl fun _ _=>rfl) bl be ⟨rfl,rfl,rfl,by decide +kernel,rfl,by decide +kernel,by decide +kernel⟩ (by kernel_rfl) (by kernel_rfl) rfl rfl rfl (PySem.W.mg_of X G0 ca) (by decide) (fun ds st r e=>Nat.le_of_not_lt fun q=>by rw [low (n+1) ds st (by omega)] at e; cases e)
 exact JC BX TW (bd1 rfl fun _=>rfl) (bd2 rfl fun _ _=>rfl) bk tk lk hcd ⟨rfl,rfl,rfl,by decide +kernel,rfl,by decide +kernel,by decide +kernel⟩ ⟨rfl,by decide,by decide⟩ ⟨rfl,by decide,by decide⟩ ⟨rfl,by decide,by decide⟩ ⟨rfl,by decide,by decide⟩
  ⟨rfl,by decide,PySem.W.mg_of X G0 ba⟩ ⟨rfl,by decide,PySem.W.mg_of X G0 xh⟩ ⟨rfl,by decide,PySem.W.mg_of X G0 ta⟩ xm rfl low
theorem Zf0 {Pm:Params}{K:PySem.W.Frag}{h:Heap}{mg:Str→Option Value}{fa:Addr} (X:K.In h) (G0:h.Ns mainGlobals mg) (hfa:mg "law"=some (.ref fa))
  {t0:Tok}
  {C0 fI0 Bh B3 B4 B5 B6 B7 B8:Addr}
  (g0:PySem.W.nsIn K mainGlobals "WIDEST"=some (some (.int (64) t0)))
  (a1:FnAt K "width" (top 11))
  (a2:FnAt K "inputs_of" (top 12))
  (a3:FnAt K "is_wide" (top 13))
  (a4:FnAt K "box" (top 14))
  (a5:FnAt K "_law_cell_at" (top 16))
  (a6:FnAt K "_law_whole" (top 17))
  (a7:FnAt K "_law_number_by" (top 18))
  (a8:FnAt K "_law_widths" (top 19))
  (a9:FnAt K "_law_program" (top 20))
  (a10:FnAt K "_law_inputs" (top 21))
  (a11:FnAt K "_law_all" (top 22))
  (a12:FnAt K "_law_refused" (top 24))
  (a13:FnAt K "law" (top 25))
  (z14:PySem.W.nsIn K mainGlobals "len"=some none)
  (z15:PySem.W.nsIn K mainGlobals "range"=some none)
  (z16:PySem.W.nsIn K mainGlobals "tuple"=some none)
  (z17:PySem.W.nsIn K mainGlobals "list"=some none)
  (z18:PySem.W.nsIn K mainGlobals "int"=some none)
  (z19:PySem.W.nsIn K mainGlobals "bool"=some none)
  (z20:PySem.W.nsIn K mainGlobals "str"=some none)
  (z21:PySem.W.nsIn K mainGlobals "min"=some none)
  (z22:PySem.W.nsIn K mainGlobals "max"=some none)
  (z23:PySem.W.nsIn K mainGlobals "isinstance"=some none)
  (z24:PySem.W.nsIn K mainGlobals "all"=some none)
  (z25:PySem.W.nsIn K mainGlobals "any"=some none)
  (z26:PySem.W.nsIn K mainGlobals "zip"=some none)
  (z27:PySem.W.nsIn K mainGlobals "sorted"=some none)
  (z28:PySem.W.nsIn K mainGlobals "enumerate"=some none)
  (xa:XAt K "TooWide" "TooWide.__init__" "width" (ZhV 7 0) C0 fI0) (xt:FnAt K "_law_too_wide" (top 23)) (xv:PySem.W.nsIn K mainGlobals "ValueError"=some none) (xh:PySem.W.nsIn K mainGlobals "HuntError"=some (some (.ref Bh))) (xm:PySem.W.exmOne K (.ref C0) (.ref Bh)=some true) (x1:PySem.W.kitOne K (.ref C0) (.ref C0)=some true) (x2:PySem.W.kitOne K (.ref C0) (.type "ValueError")=some true)
  (c3:PySem.W.nsIn K mainGlobals "TooMany"=some (some (.ref B3))) (x3:PySem.W.kitOne K (.ref C0) (.ref B3)=some false) (c4:PySem.W.nsIn K mainGlobals "TextError"=some (some (.ref B4))) (x4:PySem.W.kitOne K (.ref C0) (.ref B4)=some false)
  (c5:PySem.W.nsIn K mainGlobals "NoLine"=some (some (.ref B5))) (x5:PySem.W.kitOne K (.ref C0) (.ref B5)=some false) (c6:PySem.W.nsIn K mainGlobals "Twice"=some (some (.ref B6))) (x6:PySem.W.kitOne K (.ref C0) (.ref B6)=some false)
  (c7:PySem.W.nsIn K mainGlobals "NoName"=some (some (.ref B7))) (x7:PySem.W.kitOne K (.ref C0) (.ref B7)=some false) (c8:PySem.W.nsIn K mainGlobals "NoPlace"=some (some (.ref B8))) (x8:PySem.W.kitOne K (.ref C0) (.ref B8)=some false) :
  Text Pm K mg G T∧∃ (fd:FuncData) (N:List Str),(∀ (s:Shared) (u:Value),BindsTo s fd ⟨[u],[]⟩ [(S "_law_script",u)])∧DefOk K mg G T "law" 16 [] fa fd [S "_law_script"] N:=by
 exact ⟨Zfp (gI X G0 g0 (gD X G0 a1 Zi8 rfl (gD X G0 a2 Zi9 rfl (gD X G0 a3 Zja rfl (gD X G0 a4 Zjb rfl (gD X G0 a5 Zjc rfl (gD X G0 a6 Zjd rfl (gD X G0 a7 Zje rfl (gD X G0 a8 Zjf rfl (gD X G0 a9 Zjg rfl (gD X G0 a10 Zjh rfl (gD X G0 a11 Zji rfl (gH X G0 a12 (ZiH X G0 xa a4 a6 xt z23 z18 z19 xv xh xm x1 x2 c3 x3 c4 x4 c5 x5 c6 x6 c7 x7 c8 x8) (fun _ _ _ _ _ _=>bd2 rfl fun _ _=>rfl) (gD X G0 a13 Zh9 rfl (gB X G0 z14 (gB X G0 z15 (gB X G0 z16 (gB X G0 z17 (gB X G0 z18 (gB X G0 z19 (gB X G0 z20 (gB X G0 z21 (gB X G0 z22 (gB X G0 z23 (gB X G0 z24 (gB X G0 z25 (gB X G0 z26 (gB X G0 z27 (gB X G0 z28 (trivial)))))))))))))))))))))))))))))),gL X G0 hfa a13 Zh9 rfl fun _ _ _ _ _ _ _=>rfl⟩
end
end Dp
open PySem PySem.W PyProof.Rows
set_option maxRecDepth 100000 in
set_option maxHeartbeats 0 in
theorem PySem.Challenge.cw_fakehunt_k45_boxes_holds : PySem.Challenge.rw_fakehunt_k45_boxes.Holds := by
 w_on; o_law; k_head; (case hw=>w_witness2)
 k_fill
 refine Dp.ZcB (l:=PySem.Challenge.rw_fakehunt_k45_boxes) (G:=Dp.G) (T:=Dp.T) (n:=10) (i:=16) (x := "_law_script") rfl rfl ⟨rfl,by decide,by decide⟩ (fun w h Y=>PySem.W.kIn_of Y) Dp.Zaf ?F (fun ns hn=>Dp.Za7 hn)
 case F=>
  intro w mg fa h KX G0 hmg
  refine' ⟨Dp.tab [],Dp.Zf0 (ct:=Dp.tab []) (Pm:=w.params)  KX G0 hmg  ?_ (.mk ?_ ?_ ?_ ?_) (.mk ?_ ?_ ?_ ?_) (.mk ?_ ?_ ?_ ?_) (.mk ?_ ?_ ?_ ?_) (.mk ?_ ?_ ?_ ?_) (.mk ?_ ?_ ?_ ?_) (.mk ?_ ?_ ?_ ?_) (.mk ?_ ?_ ?_ ?_) (.mk ?_ ?_ ?_ ?_) (.mk ?_ ?_ ?_ ?_) (.mk ?_ ?_ ?_ ?_) (.mk ?_ ?_ ?_ ?_) (.mk ?_ ?_ ?_ ?_) ?_ ?_ ?_ ?_ ?_ ?_ ?_ ?_ ?_ ?_ ?_ ?_ ?_ ?_ ?_ (.mk ?_ ?_ ?_ ?_ ?_ ?_ ?_ ?_ ?_ ?_ ?_ ?_ ?_ ?_ ?_ ?_ ?_ ?_ ?_ ?_ ?_ ?_ ?_) (.mk ?_ ?_ ?_ ?_) ?_ ?_ ?_ ?_ ?_ ?_ ?_ ?_ ?_ ?_ ?_ ?_ ?_ ?_ ?_ ?_ ?_⟩
  all_goals (first | k_is | exact rfl | skip)
  all_goals (first | k_is | exact rfl | skip)

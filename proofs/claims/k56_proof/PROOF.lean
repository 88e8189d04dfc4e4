import PyProof.Rows.All
import Wide.All
import OpenK.AllK
import Wide.FinOn
import Lean
import PyProof.EqAt
import PyProof.EqKinds
import PyProof.TupleCall
import PySem.Challenge.RW_fakehunt_k56_trials_too_many
set_option Elab.async false
set_option linter.all false
set_option maxRecDepth 100000
set_option maxHeartbeats 4000000
set_option genSizeOf false
namespace L2
open PySem PySem.Spec PyProof.Rows

noncomputable abbrev Key:=Sum Int Str
noncomputable def keyIs:Key→Value→Bool
  |.inl k,v=>Value.isInt k v
  |.inr x,v=>Value.isStrOf x v
noncomputable def keyH(w:World):Key→Int
  |.inl k=>hashInt k
  |.inr x=>hashStr w x
theorem keyIs_shape:∀ {k:Key}{v:Value},keyIs k v=true→(∃ i t,k=Sum.inl i∧v=Value.int i t)∨(∃ x t,k=Sum.inr x∧v=Value.str x t)
  |.inl i,v,h=>by
    obtain⟨t,e⟩:=Value.isInt_shape (k:=i) (v:=v) h;exact .inl ⟨i,t,rfl,e⟩
  |.inr x,v,h=>by
    obtain⟨t,e⟩:=Value.isStrOf_shape (x:=x) (v:=v) h;exact .inr ⟨x,t,rfl,e⟩
theorem keyIs_int(i:Int)(t:Tok):keyIs (.inl i) (.int i t)=true:=by simp[keyIs,Value.isInt]
theorem keyIs_str(x:Str)(t:Tok):keyIs (.inr x) (.str x t)=true:=by simp[keyIs,Value.isStrOf]
theorem key_ll(a b:Int):decide ((Sum.inl a:Key)=Sum.inl b)=(a==b):=by
  by_cases e:a=b
  · subst e;simp
  · have h:¬(Sum.inl a:Key)=Sum.inl b:=fun q=>e (Sum.inl.inj q)
    rw[decide_eq_false h];exact(beq_eq_false_iff_ne.mpr e).symm
theorem key_rr(a b:Str):decide ((Sum.inr a:Key)=Sum.inr b)=decide (a=b):=by
  by_cases e:a=b
  · subst e;simp
  · have h:¬(Sum.inr a:Key)=Sum.inr b:=fun q=>e (Sum.inr.inj q)
    rw[decide_eq_false h,decide_eq_false e]
theorem key_lr(a:Int)(b:Str):decide ((Sum.inl a:Key)=Sum.inr b)=false:=decide_eq_false (fun q=>nomatch q)
theorem key_rl(a:Str)(b:Int):decide ((Sum.inr a:Key)=Sum.inl b)=false:=decide_eq_false (fun q=>nomatch q)

noncomputable def mixKind(prog:Program)(w:World):PySem.KeyKind prog w Key where
  is:=keyIs
  hash:=keyH w
  inj:=fun v a b ha hb=>by
    rcases keyIs_shape ha with⟨i,t,rfl,rfl⟩|⟨x,t,rfl,rfl⟩
    · rcases keyIs_shape hb with⟨j,u,rfl,e⟩|⟨y,u,rfl,e⟩
      · injection e with e1 _;rw[e1]
      · exact nomatch e
    · rcases keyIs_shape hb with⟨j,u,rfl,e⟩|⟨y,u,rfl,e⟩
      · exact nomatch e
      · injection e with e1 _;rw[e1]
  byValue:=fun k v h=>by
    rcases keyIs_shape h with⟨i,t,rfl,rfl⟩|⟨x,t,rfl,rfl⟩<;>rfl
  pyHash:=fun hv h=>by
    rcases keyIs_shape hv with⟨i,t,rfl,rfl⟩|⟨x,t,rfl,rfl⟩
    · exact wpAny_pyHash_int h
    · exact wpAny_pyHash_str h
  eqBool:=fun hu hv h=>by
    rcases keyIs_shape hu with⟨i,t,rfl,rfl⟩|⟨x,t,rfl,rfl⟩
    · rcases keyIs_shape hv with⟨j,u,rfl,rfl⟩|⟨y,u,rfl,rfl⟩
      · rw[key_ll]at h;exact wpAny_eqBool_int h
      · rw[key_lr]at h;exact SeqAt.EqAt.int_str i t y u _ _ _ _ h
    · rcases keyIs_shape hv with⟨j,u,rfl,rfl⟩|⟨y,u,rfl,rfl⟩
      · rw[key_rl]at h;exact SeqAt.EqAt.str_int x t j u _ _ _ _ h
      · rw[key_rr]at h;exact wpAny_eqBool_str h
  «strs»:=fun k x t v h=>by
    rcases keyIs_shape h with⟨i,u,rfl,e⟩|⟨y,u,rfl,e⟩
    · exact nomatch e
    · injection e with e1 _
      subst e1;cases v<;>rfl

theorem mixKind_int(prog:Program)(w:World)(i:Int)(t:Tok):(mixKind prog w).is (.inl i) (.int i t)=true:=keyIs_int i t
theorem mixKind_str(prog:Program)(w:World)(x:Str)(t:Tok):(mixKind prog w).is (.inr x) (.str x t)=true:=keyIs_str x t
end L2

namespace L2
open PySem PySem.Spec PyProof.Rows

inductive V where
  |non|bl (b:Bool)|int (i:Int)|str (x:Str)|byt (b:Array UInt8)|flt (b:UInt64)|ref (a:Addr)|ty (n:String)
  deriving DecidableEq

def RelV:V→Value→Prop
  |.non,u=>u=Value.none
  |.bl b,u=>u=Value.bool b
  |.int i,u=>∃ t,u=Value.int i t
  |.str x,u=>∃ t,u=Value.str x t
  |.byt b,u=>∃ t,u=Value.bytes b t
  |.flt b,u=>∃ t,u=Value.float b t
  |.ref a,u=>u=Value.ref a
  |.ty n,u=>u=Value.type n

abbrev Vals:List V→List Value→Prop:=Paired RelV
theorem Vals.length{xs:List V}{us:List Value}(r:Vals xs us):xs.length=us.length:=Paired.length r
theorem Vals.get:∀ {xs:List V}{us:List Value}{i:Nat}{x:V},Vals xs us→xs[i]?=some x→∃ u,us[i]?=some u∧RelV x u
  |_,_,_,_,.nil,e=>by simp at e
  |_,_,0,_,.cons r _,e=>by simp at e;subst e;exact⟨_,rfl,r⟩
  |_,_,i+1,x,.cons _ t,e=>by
    obtain⟨u,h1,h2⟩:=Vals.get (i:=i) (x:=x) t (by simpa using e)
    exact⟨u,by simpa using h1,h2⟩
theorem Vals.set{x:V}{u:Value}(r:RelV x u):∀ {xs:List V}{us:List Value} (i:Nat),Vals xs us→Vals (xs.set i x) (us.set i u)
  |_,_,_,.nil=>.nil
  |_,_,0,.cons _ t=>.cons r t
  |_,_,i+1,.cons q t=>.cons q (Vals.set r i t)
theorem Vals.append:∀ {xs ys:List V}{us ws:List Value},Vals xs us→Vals ys ws→Vals (xs++ys) (us++ws)
  |_,_,_,_,.nil,s=>s
  |_,_,_,_,.cons r t,s=>.cons r (Vals.append t s)
theorem Vals.take:∀ {xs:List V}{us:List Value} (n:Nat),Vals xs us→Vals (xs.take n) (us.take n)
  |_,_,0,_=>.nil
  |_,_,_+1,.nil=>.nil
  |_,_,n+1,.cons r t=>.cons r (Vals.take n t)
theorem Vals.drop:∀ {xs:List V}{us:List Value} (n:Nat),Vals xs us→Vals (xs.drop n) (us.drop n)
  |_,_,0,r=>r
  |_,_,_+1,.nil=>.nil
  |_,_,n+1,.cons _ t=>Vals.drop n t

def RelO:Option V→Option Value→Prop
  |some v,some u=>RelV v u
  |none,none=>True
  |_,_=>False
def KV{κ:Type}:List (κ×V)→List (κ×Value)→Prop:=Paired fun(p:κ×V) (q:κ×Value)=>p.1=q.1∧RelV p.2 q.2

noncomputable def kV:Key→V
  |.inl i=>.int i
  |.inr x=>.str x

inductive HO where
    |lst (xs:List V)
    |tup (xs:List V)
    |dK (kvs:List (Key×V))|dT (kvs:List (List Key×V))
    |set (S:Int→Bool) (n:Nat)
    |ins (C dx:Addr) (fs:List (Str×V))
    |own (x:Addr)
    |xd (fs:List (Str×V))
    |met (f x:Addr)
    |rng (lo hi:Int)
    |frz (o:Obj) (u:HO)
    |tbl (ps:Array Value)
    |ext (φ:Heap→Prop)

noncomputable abbrev Hp:=Addr→Option HO
noncomputable def upd(H:Hp)(a:Addr)(o:HO):Hp:=fun b=>if b=a then some o else H b
theorem upd_same{H:Hp}{a:Addr}{o:HO}:upd H a o a=some o:=by unfold upd;rw[if_pos rfl]
theorem upd_ne{H:Hp}{a b:Addr}{o:HO}(h:b≠a):upd H a o b=H b:=by unfold upd;rw[if_neg h]
theorem upd_upd{H:Hp}{a:Addr}{o u:HO}:upd (upd H a o) a u=upd H a u:=by
  funext b;unfold upd;split<;>rfl
theorem ne_of{H:Hp}{a b:Addr}{o u:HO}(h:H a=some o)(h':H b=some u)(d:o≠u):a≠b:=by
  intro e;subst e;rw[h]at h';exact d (Option.some.inj h')
theorem ne_of_none{H:Hp}{a b:Addr}{o:HO}(h:H a=some o)(h':H b=none):a≠b:=by
  intro e;subst e;rw[h]at h';cases h'

section
variable (P:Program) (w:World)
def ObjOk(H:Hp)(h:Heap)(a:Addr):HO→Prop
  |.lst xs=>xs.length≤sizeLine∧∃ (its:List Value) (n:Nat),Vals xs its∧h.get? a=some { cls:=.type "list",data:=.seq its.toArray n }
  |.tup xs=>xs.length≤sizeLine∧∃ its:List Value,Vals xs its∧IsTup h a its.toArray
  |.dK kvs=>kvs.length≤sizeLine∧(a==sysModules)=false∧∃ vs,KV kvs vs∧h.DictOf (mixKind P w) a vs
  |.dT kvs=>kvs.length≤sizeLine∧(a==sysModules)=false∧∃ xs:List (List Key×Addr×Value),
      Paired (fun(p:List Key×V) (q:List Key×Addr×Value)=>p.1=q.1∧H q.2.1=some (.tup (p.1.map kV))∧RelV p.2 q.2.2) kvs xs ∧
      ∃ o es ep,h.get? a=some o∧o.ExactDict∧o.data=.dict es ep∧es.toList=xs.map (entryOfKey (tupleKind (mixKind P w)))∧(xs.map (·.1)).Nodup
  |.set S n=>h.SetOf (intKind P w) a S n
  |.ins C dx fs=>H dx=some (.own a)∧fs.length≤1000∧dx≠a∧h.get? a=some (PySem.W.instObj C dx) ∧
      ∃ mA,h.Ns1 dx mA∧(∀ f,RelO (fs.lookup f) (mA f))∧PySem.Within mA (fs.map (·.1))
  |.own _=>∃ o,h.get? a=some o
  |.xd fs=>∃ mA,h.Ns1 a mA∧∀ f,RelO (fs.lookup f) (mA f)
  |.rng lo hi=>∃ t u v,h.get? a=some { cls:=.type "range",data:=.fields #[.int lo t,.int hi u,.int 1 v] }
  |.frz o u=>h.get? a=some o∧ObjOk H h a u
  |.tbl ps=>h.get? a=some { cls:=.none,data:=.fields ps }
  |.met f x=>h.get? a=some (PySem.W.methodObj (.ref f) (.ref x))
  |.ext φ=>φ h∧(∃ o,h.get? a=some o)∧∀ h1 h2:Heap,φ h1→(∀ o,h1.get? a=some o→h2.get? a=some o)→φ h2
def HOk(H:Hp)(h:Heap):Prop:=∀ a o,H a=some o→ObjOk P w H h a o
end

section
variable {P:Program}{w:World}{H H':Hp}{h h':Heap}{a:Addr}{o:HO}
theorem ObjOk.lt(x:ObjOk P w H h a o):a < h.objs.size:=by
  cases o with
  |lst xs=>obtain⟨_,_,_,_,e⟩:=x;exact Heap.lt_size e
  |tup xs=>obtain⟨_,_,_,p⟩:=x;exact p.lt
  |dK kvs=>obtain⟨_,_,_,_,o,_,_,e,_⟩:=x;exact Heap.lt_size e
  |dT kvs=>obtain⟨_,_,_,_,o,_,_,e,_⟩:=x;exact Heap.lt_size e
  |set S n=>obtain⟨o,_,_,_,e,_⟩:=x;exact Heap.lt_size e
  |ins C dx fs=>obtain⟨_,_,_,e,_⟩:=x;exact Heap.lt_size e
  |own y=>obtain⟨_,e⟩:=x;exact Heap.lt_size e
  |xd fs=>obtain⟨_,⟨_,_,_,e,_⟩,_⟩:=x;exact Heap.lt_size e
  |rng lo hi=>obtain⟨_,_,_,e⟩:=x;exact Heap.lt_size e
  |frz ob u=>obtain⟨e,_⟩:=x;exact Heap.lt_size e
  |tbl ps=>exact Heap.lt_size (show h.get? a=some _ from x)
  |met f y=>exact Heap.lt_size (show h.get? a=some _ from x)
  |ext φ=>obtain⟨_,⟨_,e⟩,_⟩:=x;exact Heap.lt_size e
theorem Paired.mapP{α β:Type}{F G:α→β→Prop}:∀ {l₁:List α}{l₂:List β},Paired F l₁ l₂→(∀ a b,F a b→G a b)→Paired G l₁ l₂
  |_,_,.nil,_=>.nil
  |_,_,.cons r t,f=>.cons (f _ _ r) (Paired.mapP t f)
theorem ObjOk.stay(x:ObjOk P w H h a o)(k:∀ b u,(b=a∨H b=some (.own a))→h.get? b=some u→h'.get? b=some u)(ho:∀ b,H b=some (.own a)→H' b=some (.own a))(ht:∀ b xs,H b=some (.tup xs)→H' b=some (.tup xs)):ObjOk P w H' h' a o:=by
  induction o with
  |lst xs=>obtain⟨z,its,n,r,e⟩:=x;exact⟨z,its,n,r,k _ _ (.inl rfl) e⟩
  |tup xs=>obtain⟨z,its,r,ob,e,c⟩:=x;exact⟨z,its,r,ob,k _ _ (.inl rfl) e,c⟩
  |dK kvs=>obtain⟨z,y,vs,r,ob,es,ep,e,c⟩:=x;exact⟨z,y,vs,r,ob,es,ep,k _ _ (.inl rfl) e,c⟩
  |dT kvs=>
    obtain⟨z,y,xs,r,ob,es,ep,e,c⟩:=x;exact⟨z,y,xs,Paired.mapP r fun p q z=>⟨z.1,ht _ _ z.2.1,z.2.2⟩,ob,es,ep,k _ _ (.inl rfl) e,c⟩
  |set S n=>obtain⟨ob,es,ep,t,e,c⟩:=x;exact⟨ob,es,ep,t,k _ _ (.inl rfl) e,c⟩
  |ins C dx fs=>
    obtain⟨d,z,ne,e,mA,⟨od,es,ep,e2,c⟩,r⟩:=x;exact⟨ho _ d,z,ne,k _ _ (.inl rfl) e,mA,⟨od,es,ep,k _ _ (.inr d) e2,c⟩,r⟩
  |own y=>obtain⟨ob,e⟩:=x;exact⟨ob,k _ _ (.inl rfl) e⟩
  |xd fs=>obtain⟨mA,⟨od,es,ep,e,c⟩,r⟩:=x;exact⟨mA,⟨od,es,ep,k _ _ (.inl rfl) e,c⟩,r⟩
  |rng lo hi=>obtain⟨t,u,v,e⟩:=x;exact⟨t,u,v,k _ _ (.inl rfl) e⟩
  |frz ob u ih=>obtain⟨e,q⟩:=x;exact⟨k _ _ (.inl rfl) e,ih q⟩
  |tbl ps=>
    have e:h.get? a=some { cls:=.none,data:=.fields ps }:=x;show h'.get? a=some { cls:=.none,data:=.fields ps };exact k a _ (.inl rfl) e
  |met f y=>
    have e:h.get? a=some (PySem.W.methodObj (.ref f) (.ref y)):=x;show h'.get? a=some (PySem.W.methodObj (.ref f) (.ref y));exact k a _ (.inl rfl) e
  |ext φ=>obtain⟨p,⟨o,e⟩,st⟩:=x;exact⟨st _ _ p fun o q=>k _ _ (.inl rfl) q,⟨o,k _ _ (.inl rfl) e⟩,st⟩
theorem HOk.lt(x:HOk P w H h)(e:H a=some o):a < h.objs.size:=(x a o e).lt
theorem HOk.fresh(x:HOk P w H h)(e:h.objs.size≤a):H a=none:=by
  cases q:H a with
  |none=>rfl
  |some u=>exact absurd (Nat.lt_of_lt_of_le (x.lt q) e) (Nat.lt_irrefl _)
theorem HOk.kept(x:HOk P w H h)(k:∀ b u,h.get? b=some u→h'.get? b=some u):HOk P w H h':=fun a o e=>
  (x a o e).stay (fun b u _ q=>k b u q) (fun _ q=>q) fun _ _ q=>q
theorem HOk.laid(x:HOk P w H h)(k:∀ b u,h.get? b=some u→h'.get? b=some u)(hp:h.objs.size≤a)(new:ObjOk P w (upd H a o) h' a o):HOk P w (upd H a o) h':=fun b u e=>by
  have hn:=x.fresh hp;by_cases hb:b=a
  · subst hb;rw[upd_same]at e;cases e;exact new
  · rw[upd_ne hb]at e
    exact(x b u e).stay (fun c v _ q=>k c v q) (fun c q=>by rw[upd_ne (ne_of_none q hn)];exact q) fun c xs q=>by rw[upd_ne (ne_of_none q hn)];exact q
end

def Rd(H:Hp)(a:Addr)(u:HO):Prop:=H a=some u∨∃ o,H a=some (.frz o u)
theorem Rd.ok{P:Program}{w:World}{H:Hp}{h:Heap}{a:Addr}{u:HO}(r:Rd H a u)(x:HOk P w H h):ObjOk P w H h a u:=by
  rcases r with r|⟨o,r⟩
  · exact x a u r
  · obtain⟨_,q⟩:=x a _ r
    exact q
def Mut:Option HO→Prop
  |some (.lst _)=>True
  |some (.dK _)=>True
  |some (.dT _)=>True
  |some (.set _ _)=>True
  |some (.ins _ _ _)=>True
  |some (.ext _)=>True
  |_=>False
section
variable {P:Program}{w:World}{H:Hp}{h h':Heap}{x e:Addr}{o':HO}
theorem HOk.write(ok:HOk P w H h)(mu:Mut (H x))(he:e=x∨H e=some (.own x))(k:∀ b u,b≠e→h.get? b=some u→h'.get? b=some u)(heo:∃ u,h'.get? e=some u)(new:ObjOk P w (upd H x o') h' x o'):HOk P w (upd H x o') h':=fun b u q=>by
  have nown:∀ c y,H c=some (.own y)→c≠x:=fun c y r z=>by subst z;rw[r]at mu;exact mu
  have ntup:∀ c xs,H c=some (.tup xs)→c≠x:=fun c xs r z=>by subst z;rw[r]at mu;exact mu
  by_cases hb:b=x
  · subst hb;rw[upd_same]at q;cases q;exact new
  · rw[upd_ne hb]at q
    by_cases hbe:b=e
    · have q':H b=some (.own x):=by
        rcases he with z|z
        · exact absurd (hbe.trans z) hb
        · rw[hbe];exact z
      rw[q]at q';cases q'
      obtain⟨v,hv⟩:=heo;exact⟨v,by rw[hbe];exact hv⟩
    · refine(ok b u q).stay (fun c v hc r=>k c v ?_ r) (fun c r=>by rw[upd_ne (nown c b r)];exact r) fun c xs r=>by rw[upd_ne (ntup c xs r)];exact r
      rcases hc with rfl|hc
      · exact hbe
      · rintro rfl
        rcases he with z|z
        · exact nown c b hc z
        · rw[hc]at z;cases z;exact hb rfl
end

structure Un(fs ex:List Addr)(H H':Hp)(h h':Heap):Prop where
  keep:∀ b o,h.get? b=some o→H b=none→b∉fs→b∉ex→h'.get? b=some o
  slot:∀ b o,h.get? b=some o→H b=none→b∈fs→b∉ex→∃ sl,h'.get? b=some { o with slots:=sl }
  free:∀ b o,h.get? b=some o→H b=none→b∉ex→H' b=none
  there:∀ b o,h.get? b=some o→b∉ex→∃ o',h'.get? b=some o'
  tups:∀ b xs,H b=some (.tup xs)→H' b=some (.tup xs)
  frzs:∀ b o u,H b=some (.frz o u)→H' b=some (.frz o u)
  tbls:∀ b ps,H b=some (.tbl ps)→∃ more,H' b=some (.tbl (ps++more))
section
variable {fs fs' ex ex':List Addr}{H H1 H2:Hp}{h h1 h2 h':Heap}{a x e:Addr}{o:HO}
theorem Un.any(u:Un fs ex H H1 h h1){b:Addr}{ob:Obj}(q:h.get? b=some ob)(n:H b=none)(hx:b∉ex):∃ sl,h1.get? b=some { ob with slots:=sl }:=by
  by_cases hb:b∈fs
  · exact u.slot b ob q n hb hx
  · exact⟨ob.slots,u.keep b ob q n hb hx⟩
theorem Un.kept(k:∀ b u,h.get? b=some u→h'.get? b=some u):Un fs ex H H h h':=
  ⟨fun b ob q _ _ _=>k b ob q,fun b ob q _ _ _=>⟨ob.slots,k b ob q⟩,fun _ _ _ n _=>n,fun b ob q _=>⟨ob,k b ob q⟩,fun _ _ q=>q,fun _ _ _ q=>q,fun _ ps q=>⟨#[],by rw[q];simp⟩⟩
theorem Un.refl:Un fs ex H H h h:=Un.kept fun _ _ q=>q
theorem Un.laid(k:∀ b u,h.get? b=some u→h'.get? b=some u)(hp:h.objs.size≤a)(hn:H a=none):Un fs ex H (upd H a o) h h' where
  keep:=fun b u q _ _ _=>k b u q
  slot:=fun b u q _ _ _=>⟨u.slots,k b u q⟩
  free:=fun b u q n _=>by rw[upd_ne (Nat.ne_of_lt (Nat.lt_of_lt_of_le (Heap.lt_size q) hp))];exact n
  there:=fun b u q _=>⟨u,k b u q⟩
  tups:=fun b xs q=>by rw[upd_ne (ne_of_none q hn)];exact q
  frzs:=fun b u xs q=>by rw[upd_ne (ne_of_none q hn)];exact q
  tbls:=fun b ps q=>⟨#[],by rw[upd_ne (ne_of_none q hn),q];simp⟩
theorem Un.write(mu:Mut (H x))(he:e=x∨H e=some (.own x))(k:∀ b u,b≠e→h.get? b=some u→h'.get? b=some u)(heo:∃ u,h'.get? e=some u):Un fs ex H (upd H x o) h h':=by
  have hx:∀ b,H b=none→b≠x:=fun b n z=>by subst z;rw[n]at mu;exact mu
  have hb:∀ b,H b=none→b≠e:=fun b n z=>by
    subst z;rcases he with r|r
    · exact hx b n r
    · rw[n]at r;cases r
  have hm:∀ b u,H b=some u→¬Mut (some u)→b≠x:=fun b u q nm z=>by subst z;rw[q]at mu;exact nm mu
  refine⟨fun b u q n _ _=>k b u (hb b n) q,fun b u q n _ _=>⟨u.slots,k b u (hb b n) q⟩,fun b u q n _=>by rw[upd_ne (hx b n)];exact n,fun b u q _=>?_,
    fun b xs q=>by rw[upd_ne (hm b _ q fun z=>z)];exact q,fun b u xs q=>by rw[upd_ne (hm b _ q fun z=>z)];exact q,fun b ps q=>⟨#[],by rw[upd_ne (hm b _ q fun z=>z),q];simp⟩⟩
  by_cases hbe:b=e
  · subst hbe;exact heo
  · exact⟨u,k b u hbe q⟩
end

noncomputable def trk(h:Heap)(H:Hp):List Addr:=(List.range h.objs.size).filter fun a=>(H a).isSome
noncomputable def hidT(h:Heap)(H:Hp):Heap:=PySem.W.hideAll h (trk h H)
theorem hidT_size(h:Heap)(H:Hp):(hidT h H).objs.size=h.objs.size:=PySem.W.hideAll_size _ _
theorem hidT_get{h:Heap}{H:Hp}{b:Addr}{o:Obj}(e:h.get? b=some o)(n:H b=none):(hidT h H).get? b=some o:=
  PySem.W.hideAll_get _ e fun hm=>by
    have q:(H b).isSome=true:=(List.mem_filter.mp hm).2;rw[n]at q;simp at q
theorem of_hidT{h:Heap}{H:Hp}{b:Addr}{o:Obj}(e:(hidT h H).get? b=some o):h.get? b=some o∧H b=none:=by
  have e':h.get? b=some o:=PySem.W.of_hideAll (trk h H) e;refine⟨e',?_⟩;cases q:H b with
  |none=>rfl
  |some x=>
    have hm:b∈trk h H:=List.mem_filter.mpr ⟨List.mem_range.mpr (Heap.lt_size e'),by simp[q]⟩
    have z:(hidT h H).get? b=none:=PySem.W.hideAll_none (trk h H) hm;rw[z]at e;cases e

end L2

namespace L2
open PySem PySem.Spec PyProof.Rows

structure Mod(K:PySem.W.Frag)(mg:Str→Option Value)(base:Heap):Prop where
  kin:K.In base
  glob:base.Ns mainGlobals mg
  blt:∃ mb,base.Ns builtinsNs mb∧∀ x:Str,x ≠ "__name__"→mb x=bootBuiltins x
  nolimit:base.NoLimit

structure Cx where
  prog:Program
  w:World
  K:PySem.W.Frag
  mg:Str→Option Value
  base:Heap
  A:Around
  N:List Str
  s₀:Shared
  H₀:Hp
  env:Env
  outer:List Env
  stack:List Env
  ex:List Addr
  fn:Str→Bool
  calm:Bool
  pn:List (Addr×Obj)
  xe:Value→Shared→Prop
noncomputable def frs(l:List Env):List Addr:=l.filterMap (·.frame)
noncomputable abbrev Cx.fs(X:Cx):List Addr:=frs X.outer

def Vis(sc:Scope)(x:Str):Prop:=sc.names.lookup x=some .local∨sc.names.lookup x=some .cell∨sc.names.lookup x=some .free
def Loc(sc:Scope)(x:Str):Prop:=sc.names.lookup x=some .local∨sc.names.lookup x=some .cell
def Look(env:Env)(h:Heap)(m:Str→Option Value)(x:Str)(u:Value):Prop:=
  (env.kindOf x=some .local∧m x=some u)∨((env.kindOf x=some .cell∨env.kindOf x=some .free)∧∃ c,env.cells.lookup x=some c∧h.IsCell c (some u))

structure Cx.Ok(X:Cx):Prop where
  mod:Mod X.K X.mg X.base
  kind:X.env.scope.kind=.function
  glob:X.env.globals=mainGlobals
  blt:X.env.builtins=builtinsNs
  above:X.s₀.heap.objs.size≤X.env.locals
  inj:∀ x y c,X.env.cells.lookup x=some c→X.env.cells.lookup y=some c→x=y
  has:∀ x,(X.env.kindOf x=some .cell∨X.env.kindOf x=some .free)→∃ c,X.env.cells.lookup x=some c
  cab:∀ x c,X.fn x=true→X.env.cells.lookup x=some c→X.s₀.heap.objs.size≤c
  hd:X.calm=true→X.A.handled=none
  frames:X.A.frames=some X.stack
  stk:X.stack=X.outer∨(X.stack=X.env :: X.outer∧X.env.frame=some X.env.locals)
  exf:∀ b∈X.ex,b≠X.env.locals∧∀ x c,X.env.cells.lookup x=some c→c≠b
  bs:∀ b o,X.base.get? b=some o→X.s₀.heap.get? b=some o∧X.H₀ b=none
  bsz:X.base.objs.size≤X.s₀.heap.objs.size
  noex:∀ b o,X.base.get? b=some o→b∉X.ex
  exfs:∀ b∈X.ex,b∉X.fs
  funs:X.s₀.heap.FunFrames X.base X.outer
  frf:∀ b∈X.fs,X.H₀ b=none

structure Inv(X:Cx)(pins:List (Addr×Obj))(σ:List (Option V))(H:Hp)(s:Shared):Prop where
  ok:X.Ok
  os:s.os=X.s₀.os
  bare:AllBare s.gens
  base:Un X.fs X.ex X.H₀ H X.s₀.heap s.heap
  loc:∃ m,s.heap.Ns X.env.locals m∧∀ (i:Nat) (x:Str) (v:V),X.N[i]?=some x→σ[i]?=some (some v)→Vis X.env.scope x→∃ u,RelV v u∧Look X.env s.heap m x u
  cell:∀ x c,X.env.cells.lookup x=some c→∃ v,s.heap.IsCell c v
  free:H X.env.locals=none
  freeC:∀ x c,X.env.cells.lookup x=some c→H c=none
  pin:∀ p∈X.pn++pins,s.heap.get? p.1=some p.2∧H p.1=none∧p.1≠X.env.locals∧p.1∉X.fs∧∀ v,p.2.data≠.cell v
  hok:HOk X.prog X.w H s.heap
  len:σ.length=X.N.length

section
variable {X:Cx}{pins:List (Addr×Obj)}{σ:List (Option V)}{H H':Hp}{s:Shared}{h':Heap}

theorem Cx.Ok.nofr(ok:X.Ok){b:Addr}{o:Obj}(e:X.base.get? b=some o):b∉X.fs:=fun hb=>by
  have:=(ok.funs.mem hb).1;rw[e]at this;cases this
theorem Inv.bs(I:Inv X pins σ H s):∀ b o,X.base.get? b=some o→s.heap.get? b=some o∧H b=none:=fun b o e=>
  ⟨I.base.keep b o (I.ok.bs b o e).1 (I.ok.bs b o e).2 (I.ok.nofr e) (I.ok.noex b o e),I.base.free b o (I.ok.bs b o e).1 (I.ok.bs b o e).2 (I.ok.noex b o e)⟩
theorem Inv.bk(I:Inv X pins σ H s):∀ b o,X.base.get? b=some o→s.heap.get? b=some o:=fun b o e=>(I.bs b o e).1
theorem Inv.mod(I:Inv X pins σ H s):Mod X.K X.mg X.base:=I.ok.mod
theorem Inv.kIn(I:Inv X pins σ H s):X.K.In s.heap:=I.ok.mod.kin.keeps I.bk
theorem Inv.lt(I:Inv X pins σ H s):X.env.locals < s.heap.objs.size:=let ⟨_,hn,_⟩:=I.loc;hn.lt
theorem Inv.sz(I:Inv X pins σ H s):X.s₀.heap.objs.size≤s.heap.objs.size:=Nat.le_trans I.ok.above (Nat.le_of_lt I.lt)
theorem Inv.nofs(I:Inv X pins σ H s){a:Addr}(h:s.heap.objs.size≤a):a∉X.fs:=fun hb=>by
  obtain⟨_,o,ho,_⟩:=I.ok.funs.mem hb;exact absurd (Nat.lt_of_lt_of_le (Heap.lt_size ho) (Nat.le_trans I.sz h)) (Nat.lt_irrefl _)
theorem Inv.cne(I:Inv X pins σ H s):∀ x c,X.env.cells.lookup x=some c→c≠X.env.locals:=fun x c e z=>by
  obtain⟨v,o,ho,hd⟩:=I.cell x c e;obtain⟨m,⟨o',es,ep,ho',hd',_⟩,_⟩:=I.loc;rw[z,ho']at ho;cases ho;rw[hd']at hd;cases hd
theorem Inv.funs(I:Inv X pins σ H s):s.heap.FunFrames X.base X.outer:=by
  have all:∀ (l:List Env),(∀ b∈frs l,b∈X.fs)→X.s₀.heap.FunFrames X.base l→s.heap.FunFrames X.base l:=by
    intro l
    induction l with
    |nil=>intro _ _;trivial
    |cons env r ih=>
      intro hs hl;obtain⟨hk,⟨L,o,hf,hn,ho,hd⟩,hr⟩:=hl;have hL:L∈X.fs:=hs L (by unfold frs;rw[List.filterMap_cons,hf];exact List.mem_cons_self)
      obtain⟨sl,e⟩:=I.base.slot L o ho (I.ok.frf L hL) hL fun z=>I.ok.exfs L z hL
      exact⟨hk,⟨L,_,hf,hn,e,hd⟩,ih (fun b hb=>hs b (by unfold frs;rw[List.filterMap_cons,hf];exact List.mem_cons_of_mem _ hb)) hr⟩
  exact all X.outer (fun _ hb=>hb) I.ok.funs

theorem Inv.stack(I:Inv X pins σ H s):s.heap.FunFrames X.base X.stack:=by
  rcases I.ok.stk with e|⟨e,hf⟩
  · rw[e];exact I.funs
  · rw[e]
    obtain⟨m,hn,_⟩:=I.loc;refine .cons (by rw[I.ok.kind];decide) hf hn ?_ I.funs
    exact Heap.get?_none_of_le (Nat.le_trans I.ok.bsz I.ok.above)
theorem Inv.stkSub(I:Inv X pins σ H s):∀ b∈frs X.stack,b∈X.env.locals :: X.fs:=fun b hb=>by
  rcases I.ok.stk with e|⟨e,hf⟩
  · rw[e]at hb;exact List.mem_cons_of_mem _ hb
  · rw[e]at hb
    unfold frs at hb;rw[List.filterMap_cons,hf]at hb;exact hb
theorem Inv.stkFree(I:Inv X pins σ H s):∀ b∈frs X.stack,H b=none:=fun b hb=>by
  rcases List.mem_cons.mp (I.stkSub b hb) with e|hb
  · rw[e];exact I.free
  · obtain⟨_,o,ho,_⟩:=I.ok.funs.mem hb
    exact I.base.free b o ho (I.ok.frf b hb) fun z=>I.ok.exfs b z hb

theorem Inv.step{g':Array GenState}{t':Nat}{d':Drawn}{ch:List Addr}(I:Inv X pins σ H s)(hch:∀ b∈ch,(b∈X.ex∨X.s₀.heap.objs.size≤b)∧b≠X.env.locals∧(∀ x c,X.env.cells.lookup x=some c→c≠b)∧∀ p∈X.pn++pins,p.1≠b)(keep:∀ b o,b≠X.env.locals→b∉X.fs→b∉ch→s.heap.get? b=some o→H b=none→h'.get? b=some o)(slot:∀ b o,b≠X.env.locals→b∈X.fs→b∉ch→s.heap.get? b=some o→H b=none→∃ sl,h'.get? b=some { o with slots:=sl })(free:∀ b o,b∉ch→s.heap.get? b=some o→H b=none→H' b=none)(there:∀ b o,b∉ch→s.heap.get? b=some o→∃ o',h'.get? b=some o')(tups:∀ b xs,H b=some (.tup xs)→H' b=some (.tup xs))(frzs:∀ b o u,H b=some (.frz o u)→H' b=some (.frz o u))(tbls:∀ b ps,H b=some (.tbl ps)→∃ more,H' b=some (.tbl (ps++more)))(ns:∀ m,s.heap.Ns X.env.locals m→h'.Ns X.env.locals m)(hok:HOk X.prog X.w H' h')(hg:AllBare g') :
    Inv X pins σ H' { s with heap:=h',gens:=g',drawn:=d',toks:=t' }:=by
  have neL:∀ b o,X.s₀.heap.get? b=some o→b≠X.env.locals:=fun b o e=>Nat.ne_of_lt (Nat.lt_of_lt_of_le (Heap.lt_size e) I.ok.above)
  have neC:∀ b o,X.s₀.heap.get? b=some o→b∉X.ex→b∉ch:=fun b o e hx hb=>by
    rcases (hch b hb).1 with z|z
    · exact hx z
    · exact absurd (Nat.lt_of_lt_of_le (Heap.lt_size e) z) (Nat.lt_irrefl _)
  have cellK:∀ x c,X.env.cells.lookup x=some c→∀ v,s.heap.IsCell c v→h'.IsCell c v:=fun x c e v ⟨o,ho,hd⟩=>by
    have nch:c∉ch:=fun z=>(hch c z).2.2.1 x c e rfl
    by_cases hc:c∈X.fs
    · obtain⟨sl,q⟩:=slot c o (I.cne x c e) hc nch ho (I.freeC x c e)
      exact⟨_,q,hd⟩
    · exact⟨o,keep c o (I.cne x c e) hc nch ho (I.freeC x c e),hd⟩
  refine⟨I.ok,I.os,hg,⟨fun b o e n hb hx=>?_,fun b o e n hb hx=>?_,fun b o e n hx=>?_,fun b o e hx=>?_,fun b xs e=>tups b xs (I.base.tups b xs e),fun b o xs e=>frzs b o xs (I.base.frzs b o xs e),fun b ps e=>?_⟩,?_,fun x c e=>?_,?_,fun x c e=>?_,fun p hp=>?_,hok,I.len⟩
  · exact keep b o (neL b o e) hb (neC b o e hx) (I.base.keep b o e n hb hx) (I.base.free b o e n hx)
  · obtain⟨sl,e1⟩:=I.base.slot b o e n hb hx
    obtain⟨sl',e2⟩:=slot b _ (neL b o e) hb (neC b o e hx) e1 (I.base.free b o e n hx);exact⟨sl',e2⟩
  · obtain⟨o',e1⟩:=I.base.there b o e hx
    exact free b o' (neC b o e hx) e1 (I.base.free b o e n hx)
  · obtain⟨o',e1⟩:=I.base.there b o e hx
    exact there b o' (neC b o e hx) e1
  · obtain⟨m1,e1⟩:=I.base.tbls b ps e
    obtain⟨m2,e2⟩:=tbls b _ e1;exact⟨m1++m2,by rw[e2,Array.append_assoc]⟩
  · obtain⟨m,hn,hl⟩:=I.loc
    refine⟨m,ns m hn,fun i x v e1 e2 e3=>?_⟩
    obtain⟨u,r,l⟩:=hl i x v e1 e2 e3;refine⟨u,r,?_⟩;rcases l with l|⟨k,c,e,z⟩
    · exact .inl l
    · exact .inr ⟨k,c,e,cellK x c e _ z⟩
  · obtain⟨v,z⟩:=I.cell x c e
    exact⟨v,cellK x c e v z⟩
  · obtain⟨m,⟨o,_,_,ho,_⟩,_⟩:=I.loc
    exact free _ o (fun z=>(hch _ z).2.1 rfl) ho I.free
  · obtain⟨v,o,ho,hd⟩:=I.cell x c e
    exact free c o (fun z=>(hch c z).2.2.1 x c e rfl) ho (I.freeC x c e)
  · obtain⟨e,n,ne,nf,d⟩:=I.pin p hp
    have nch:p.1∉ch:=fun z=>(hch p.1 z).2.2.2 p hp rfl
    exact⟨keep p.1 p.2 ne nf nch e n,free p.1 p.2 nch e n,ne,nf,d⟩
theorem Inv.un{t':Nat}(I:Inv X pins σ H s)(u:Un X.fs [] H H' s.heap h')(hok:HOk X.prog X.w H' h'):Inv X pins σ H' { s with heap:=h',toks:=t' }:=by
  obtain⟨m,⟨o,es,ep,ho,r⟩,_⟩:=id I.loc;obtain⟨sl,hL⟩:=u.any ho I.free (by simp)
  exact I.step (g':=s.gens) (d':=s.drawn) (ch:=[]) (fun _ z=>nomatch z) (fun b o _ hb _ e n=>u.keep b o e n hb (by simp)) (fun b o _ hb _ e n=>u.slot b o e n hb (by simp)) (fun b o _ e n=>u.free b o e n (by simp)) (fun b o _ e=>u.there b o e (by simp)) u.tups u.frzs u.tbls (fun m' hm=>by
    obtain⟨o',es',ep',ho',r'⟩:=hm;rw[ho]at ho';cases ho'
    exact⟨_,es',ep',hL,r'⟩) hok I.bare
theorem Inv.call{g':Array GenState}{t':Nat}{d':Drawn}{ch:List Addr}(I:Inv X pins σ H s)(u:Un (frs X.stack) ch H H' s.heap h')(hok:HOk X.prog X.w H' h')(hg:AllBare g')(hch:∀ b∈ch,(b∈X.ex∨X.s₀.heap.objs.size≤b)∧b≠X.env.locals∧(∀ x c,X.env.cells.lookup x=some c→c≠b)∧∀ p∈X.pn++pins,p.1≠b) :
    Inv X pins σ H' { s with heap:=h',gens:=g',drawn:=d',toks:=t' }:=by
  obtain⟨m,⟨o,es,ep,ho,r⟩,_⟩:=id I.loc;obtain⟨sl,hL⟩:=u.any ho I.free fun z=>(hch _ z).2.1 rfl
  exact I.step (ch:=ch) hch (fun b o hL hb hc e n=>u.keep b o e n (fun z=>(List.mem_cons.mp (I.stkSub b z)).elim hL hb) hc) (fun b o _ _ hc e n=>u.any e n hc) (fun b o hc e n=>u.free b o e n hc) (fun b o hc e=>u.there b o e hc) u.tups u.frzs u.tbls (fun m' hm=>by
    obtain⟨o',es',ep',ho',r'⟩:=hm;rw[ho]at ho';cases ho'
    exact⟨_,es',ep',hL,r'⟩) hok hg
theorem Inv.turned{t':Nat}{it:Addr}(I:Inv X pins σ H s)(k:∀ b o,b≠it→s.heap.get? b=some o→h'.get? b=some o)(hn:H it=none)(hL:it≠X.env.locals)(h1:it∈X.ex∨X.s₀.heap.objs.size≤it)(h2:∀ x c,X.env.cells.lookup x=some c→c≠it)(h3:∀ p∈X.pn++pins,p.1≠it):Inv X pins σ H { s with heap:=h',toks:=t' }:=by
  have nit:∀ b u,H b=some u→b≠it:=fun b u e z=>by rw[z,hn]at e;cases e
  refine I.step (g':=s.gens) (d':=s.drawn) (ch:=[it]) (fun b hb=>?_) (fun b o _ _ hc e _=>k b o (fun z=>hc (by simp[z])) e) (fun b o _ _ hc e _=>⟨o.slots,k b o (fun z=>hc (by simp[z])) e⟩) (fun _ _ _ _ n=>n)
    (fun b o hc e=>⟨o,k b o (fun z=>hc (by simp[z])) e⟩) (fun _ _ e=>e) (fun _ _ _ e=>e) (fun b ps e=>⟨#[],by rw[e];simp⟩) (fun m hm=>?_) (fun b u e=>?_) I.bare
  · have e:b=it:=by simpa using hb
    subst e;exact⟨h1,hL,h2,h3⟩
  · obtain⟨o,es,ep,ho,r⟩:=hm
    exact⟨o,es,ep,k _ o (Ne.symm hL) ho,r⟩
  · refine(I.hok b u e).stay (fun c v hc q=>k c v ?_ q) (fun _ q=>q) fun _ _ q=>q
    rcases hc with z|z
    · rw[z];exact nit b u e
    · exact nit c _ z
theorem Inv.tok(I:Inv X pins σ H s)(t:Nat):Inv X pins σ H { s with toks:=t }:=I.un (h':=s.heap) (t':=t) Un.refl I.hok
theorem Inv.kept{t':Nat}(I:Inv X pins σ H s)(k:∀ b u,s.heap.get? b=some u→h'.get? b=some u):Inv X pins σ H { s with heap:=h',toks:=t' }:=I.un (Un.kept k) (I.hok.kept k)
theorem Inv.laid{a:Addr}{o:HO}{t':Nat}(I:Inv X pins σ H s)(k:∀ b u,s.heap.get? b=some u→h'.get? b=some u)(hp:s.heap.objs.size≤a)(new:ObjOk X.prog X.w (upd H a o) h' a o) :
    Inv X pins σ (upd H a o) { s with heap:=h',toks:=t' }:=I.un (Un.laid k hp (I.hok.fresh hp)) (I.hok.laid k hp new)
theorem Inv.write{x e:Addr}{o:HO}{t':Nat}(I:Inv X pins σ H s)(mu:Mut (H x))(he:e=x∨H e=some (.own x))(k:∀ b u,b≠e→s.heap.get? b=some u→h'.get? b=some u)(heo:∃ u,h'.get? e=some u)(new:ObjOk X.prog X.w (upd H x o) h' x o):Inv X pins σ (upd H x o) { s with heap:=h',toks:=t' }:=I.un (Un.write mu he k heo) (I.hok.write mu he k heo new)
theorem Inv.pins_of{pins':List (Addr×Obj)}(I:Inv X pins σ H s)(h:∀ p∈pins',s.heap.get? p.1=some p.2∧H p.1=none∧p.1≠X.env.locals∧p.1∉X.fs∧∀ v,p.2.data≠.cell v):Inv X pins' σ H s:=
  ⟨I.ok,I.os,I.bare,I.base,I.loc,I.cell,I.free,I.freeC,fun p hp=>(List.mem_append.mp hp).elim (fun z=>I.pin p (List.mem_append_left _ z)) (h p),I.hok,I.len⟩

theorem nodup_ix{N:List Str}(hN:N.Nodup){i j:Nat}{x:Str}(a:N[i]?=some x)(b:N[j]?=some x):i=j:=by
  obtain⟨h1,e1⟩:=List.getElem?_eq_some_iff.mp a;obtain⟨h2,e2⟩:=List.getElem?_eq_some_iff.mp b;exact(List.getElem_inj hN).mp (e1.trans e2.symm)

theorem store_ok2{M:Model}{A:Around}{E:Value→Shared→Prop}{i:Nat}{x:Str}{v:V}{u:Value}{Q:Unit→Shared→Prop}(I:Inv X pins σ H s)(hN:X.N.Nodup)(hi:X.N[i]?=some x)(hx:Loc X.env.scope x)(r:RelV v u)(h:∀ s',Inv X pins (σ.set i (some v)) H s'→(∃ a,Heap.SameBut a s.heap s'.heap∧(a=X.env.locals∨X.env.cells.lookup x=some a))→Q () s')(hf:X.fn x=true∨X.env.scope.names.lookup x=some .local:=by first|exact .inl rfl|exact .inr rfl|assumption):wpAny M A (storeName X.env x u) Q E s:=by
  obtain⟨m,hn,hl⟩:=id I.loc;have hcls:(X.env.scope.kind==.class||(X.env.scope.kind==.module&&X.env.locals != X.env.globals))=false:=by rw[I.ok.kind];rfl
  have hiσ:i < σ.length:=by rw[I.len];exact(List.getElem?_eq_some_iff.mp hi).1
  have cne:=I.cne;have tracked:∀ {a:Addr}{h':Heap},(∃ o,s.heap.get? a=some o∧H a=none)→Heap.SameBut a s.heap h'→HOk X.prog X.w H h':=fun {a h'} ha hs b ob e=>by
    obtain⟨_,_,hfree⟩:=ha;refine(I.hok b ob e).stay (fun c w' hc q=>(hs.2 c ?_).trans q) (fun _ q=>q) fun _ _ q=>q
    rintro rfl
    rcases hc with rfl|hc
    · rw[hfree]at e;cases e
    · rw[hfree]at hc;cases hc
  rcases hx with hk|hk
  · refine wpAny_storeName_local hk hn (fun h' hn' hs=>?_) hcls
    obtain⟨oL,_,_,hoL,_⟩:=id hn;refine h _ ⟨I.ok,I.os,I.bare,⟨fun b o e n hb hx=>?_,fun b o e n hb hx=>?_,I.base.free,fun b o e hx=>?_,I.base.tups,I.base.frzs,I.base.tbls⟩,⟨_,hn',fun j y v' e1 e2 e3=>?_⟩,fun y c e=>?_,I.free,I.freeC,fun p hp=>?_,tracked ⟨oL,hoL,I.free⟩ hs,by simpa using I.len⟩ ⟨_,hs,.inl rfl⟩
    · exact(hs.2 b (Nat.ne_of_lt (Nat.lt_of_lt_of_le (Heap.lt_size e) I.ok.above))).trans (I.base.keep b o e n hb hx)
    · obtain⟨sl,e1⟩:=I.base.slot b o e n hb hx
      exact⟨sl,(hs.2 b (Nat.ne_of_lt (Nat.lt_of_lt_of_le (Heap.lt_size e) I.ok.above))).trans e1⟩
    · obtain⟨o',e1⟩:=I.base.there b o e hx
      exact⟨o',(hs.2 b (Nat.ne_of_lt (Nat.lt_of_lt_of_le (Heap.lt_size e) I.ok.above))).trans e1⟩
    · by_cases hj:j=i
      · subst hj
        rw[hi]at e1;cases e1
        rw[List.getElem?_set_self hiσ]at e2;cases e2;exact⟨u,r,.inl ⟨hk,by simp⟩⟩
      · rw[List.getElem?_set_ne (Ne.symm hj)]at e2
        obtain⟨u',r',q⟩:=hl j y v' e1 e2 e3;refine⟨u',r',?_⟩;rcases q with⟨k,e⟩|⟨k,c,e,z⟩
        · refine .inl ⟨k,?_⟩
          have:y≠x:=fun e=>hj (nodup_ix hN e1 (e ▸ hi))
          simp[this,e]
        · exact .inr ⟨k,c,e,z.sameBut hs (cne y c e)⟩
    · obtain⟨w',z⟩:=I.cell y c e
      exact⟨w',z.sameBut hs (cne y c e)⟩
    · obtain⟨e,n,ne,nf,d⟩:=I.pin p hp
      exact⟨(hs.2 p.1 ne).trans e,n,ne,nf,d⟩
  · have hfn:X.fn x=true:=by
      rcases hf with z|z
      · exact z
      · rw[z]at hk;cases hk
    obtain⟨c,hc⟩:=I.ok.has x (.inl hk);obtain⟨w',z⟩:=I.cell x c hc;refine wpAny_storeName_cell I.ok.kind hk hc z (fun h' hc' hs=>?_)
    obtain⟨oc,hoc,hocd⟩:=id z;refine h { s with heap:=h' } ⟨I.ok,I.os,I.bare,⟨fun b o e n hb hx=>?_,fun b o e n hb hx=>?_,I.base.free,fun b o e hx=>?_,I.base.tups,I.base.frzs,I.base.tbls⟩,⟨m,hn.sameBut hs (Ne.symm (cne x c hc)),fun j y v' e1 e2 e3=>?_⟩,fun y c' e=>?_,I.free,I.freeC,fun p hp=>?_,tracked ⟨oc,hoc,I.freeC x c hc⟩ hs,by simpa using I.len⟩ ⟨c,hs,.inr hc⟩
    · exact(hs.2 b (Nat.ne_of_lt (Nat.lt_of_lt_of_le (Heap.lt_size e) (I.ok.cab x c hfn hc)))).trans (I.base.keep b o e n hb hx)
    · obtain⟨sl,e1⟩:=I.base.slot b o e n hb hx
      exact⟨sl,(hs.2 b (Nat.ne_of_lt (Nat.lt_of_lt_of_le (Heap.lt_size e) (I.ok.cab x c hfn hc)))).trans e1⟩
    · obtain⟨o',e1⟩:=I.base.there b o e hx
      exact⟨o',(hs.2 b (Nat.ne_of_lt (Nat.lt_of_lt_of_le (Heap.lt_size e) (I.ok.cab x c hfn hc)))).trans e1⟩
    · by_cases hj:j=i
      · subst hj
        rw[hi]at e1;cases e1
        rw[List.getElem?_set_self hiσ]at e2;cases e2;exact⟨u,r,.inr ⟨.inl hk,c,hc,hc'⟩⟩
      · rw[List.getElem?_set_ne (Ne.symm hj)]at e2
        obtain⟨u',r',q⟩:=hl j y v' e1 e2 e3;refine⟨u',r',?_⟩;rcases q with q|⟨k,c',e,z'⟩
        · exact .inl q
        · refine .inr ⟨k,c',e,z'.sameBut hs ?_⟩
          rintro rfl
          exact hj (nodup_ix hN e1 (I.ok.inj _ _ _ e hc ▸ hi))
    · by_cases hcc:c'=c
      · subst hcc;exact⟨_,hc'⟩
      · obtain⟨w2,z2⟩:=I.cell y c' e
        exact⟨w2,z2.sameBut hs hcc⟩
    · obtain⟨e,n,ne,nf,d⟩:=I.pin p hp
      refine⟨(hs.2 p.1 ?_).trans e,n,ne,nf,d⟩;intro q;rw[q,hoc]at e;have q':oc=p.2:=Option.some.inj e;exact d w' (by rw[←q'];exact hocd)
theorem store_ok{M:Model}{A:Around}{E:Value→Shared→Prop}{i:Nat}{x:Str}{v:V}{u:Value}{Q:Unit→Shared→Prop}(I:Inv X pins σ H s)(hN:X.N.Nodup)(hi:X.N[i]?=some x)(hx:Loc X.env.scope x)(r:RelV v u)(h:∀ s',Inv X pins (σ.set i (some v)) H s'→Q () s')(hf:X.fn x=true∨X.env.scope.names.lookup x=some .local:=by first|exact .inl rfl|exact .inr rfl|assumption):wpAny M A (storeName X.env x u) Q E s:=
  store_ok2 I hN hi hx r (fun s' I' _=>h s' I') hf
theorem Inv.call'{s':Shared}{ch:List Addr}(I:Inv X pins σ H s)(ho:s'.os=s.os)(u:Un (frs X.stack) ch H H' s.heap s'.heap)(hok:HOk X.prog X.w H' s'.heap)(hg:AllBare s'.gens)(hch:∀ b∈ch,(b∈X.ex∨X.s₀.heap.objs.size≤b)∧b≠X.env.locals∧(∀ x c,X.env.cells.lookup x=some c→c≠b)∧∀ p∈X.pn++pins,p.1≠b):Inv X pins σ H' s':=by
  obtain⟨h',g',d',t',o'⟩:=s';have e:o'=s.os:=ho;subst e;exact I.call (g':=g') (t':=t') (d':=d') u hok hg hch
end

abbrev XK:=Value→Option Addr→Hp→Prop
noncomputable abbrev St:=List (Option V)
abbrev VK:=V→Hp→Prop
abbrev TE:=St→Hp→VK→Prop
abbrev TT:=St→Hp→(Bool→Hp→Prop)→Prop
abbrev TA:=St→Hp→(List V→Hp→Prop)→Prop
structure Ends where
  nx:St→Hp→Prop
  rt:VK
  bk:St→Hp→Prop:=fun _ _=>False
  ct:St→Hp→Prop:=fun _ _=>False
abbrev TS:=Ends→St→Hp→Prop

def EP(X:Cx)(pins:List (Addr×Obj))(σ:St)(Q:VK)(u:Value)(s':Shared):Prop:=∃ v H',Inv X pins σ H' s'∧RelV v u∧Q v H'
def TP(X:Cx)(pins:List (Addr×Obj))(σ:St)(Q:Bool→Hp→Prop)(b:Bool)(s':Shared):Prop:=∃ H',Inv X pins σ H' s'∧Q b H'
def AP(X:Cx)(pins:List (Addr×Obj))(σ:St)(Q:List V→Hp→Prop)(us:List Value)(s':Shared):Prop:=∃ vs H',Inv X pins σ H' s'∧Vals vs us∧Q vs H'
def SP(X:Cx)(pins:List (Addr×Obj))(D:Ends)(f:Flow)(s':Shared):Prop:=
  match f with
  |.next=>∃ σ' H',Inv X pins σ' H' s'∧D.nx σ' H'
  |.brk=>∃ σ' H',Inv X pins σ' H' s'∧D.bk σ' H'
  |.cont=>∃ σ' H',Inv X pins σ' H' s'∧D.ct σ' H'
  |.ret u=>∃ v σ' H',Inv X pins σ' H' s'∧RelV v u∧D.rt v H'

def PE(X:Cx)(e:Expr)(t:TE):Prop:=
  ∀ (pins:List (Addr×Obj)) (s:Shared) (σ:St) (H:Hp) (Q:VK),Inv X pins σ H s→t σ H Q→wpAny (model X.prog X.w) X.A (eval e X.env) (EP X pins σ Q) X.xe s
def PT(X:Cx)(e:Expr)(t:TT):Prop:=
  ∀ (pins:List (Addr×Obj)) (s:Shared) (σ:St) (H:Hp) (Q:Bool→Hp→Prop),Inv X pins σ H s→t σ H Q→wpAny (model X.prog X.w) X.A (isTrue e X.env (eval e X.env)) (TP X pins σ Q) X.xe s
def PW(X:Cx)(e:Expr)(t:TT):Prop:=
  ∀ (whole:Sem Value) (pins:List (Addr×Obj)) (s:Shared) (σ:St) (H:Hp) (Q:Bool→Hp→Prop),Inv X pins σ H s→t σ H Q→wpAny (model X.prog X.w) X.A (isTrue e X.env whole) (TP X pins σ Q) X.xe s
theorem PW.pt{X:Cx}{e:Expr}{t:TT}(h:PW X e t):PT X e t:=h _
def PA(X:Cx)(es:List Expr)(t:TA):Prop:=
  ∀ (pos:Pos) (pins:List (Addr×Obj)) (s:Shared) (σ:St) (H:Hp) (Q:List V→Hp→Prop),Inv X pins σ H s→t σ H Q→wpAny (model X.prog X.w) X.A (spliced (backTo pos (starEach es X.env))) (AP X pins σ Q) X.xe s
def PS(X:Cx)(st:Stmt)(t:TS):Prop:=
  ∀ (pins:List (Addr×Obj)) (s:Shared) (σ:St) (H:Hp) (D:Ends),Inv X pins σ H s→t D σ H→wpAny (model X.prog X.w) X.A (exec st X.env) (SP X pins D) X.xe s
def PSs(X:Cx)(st:List Stmt)(t:TS):Prop:=
  ∀ (pins:List (Addr×Obj)) (s:Shared) (σ:St) (H:Hp) (D:Ends),Inv X pins σ H s→t D σ H→wpAny (model X.prog X.w) X.A (execs st X.env) (SP X pins D) X.xe s
theorem thn{α:Type}{t:Sem α}{Q Q':α→Shared→Prop}{M:Model}{A:Around}{E:Value→Shared→Prop}{s:Shared}(h:wpAny M A t Q E s)(hQ:∀ a s,Q a s→Q' a s):wpAny M A t Q' E s:=wpAny_mono h hQ fun _ _ x=>x
end L2

namespace L2
open PySem PySem.Spec PyProof.Rows
section
variable {X:Cx}


noncomputable def tVar(i:Nat):TE:=fun σ H Q=>∃ v,σ[i]?=some (some v)∧Q v H
noncomputable def tC(v:V):TE:=fun _ H Q=>Q v H
theorem pe_var{i:Nat}{x:Str}{pos:Pos}(hN:X.N[i]?=some x)(hv:Vis X.env.scope x)(hd:(x==("__debug__":Str))=false:=by decide)(hcd:(x==("__classdict__":Str))=false:=by decide):PE X (.Name x pos) (tVar i):=by
  intro pins s σ H Q I h;obtain⟨v,e,h⟩:=h;obtain⟨m,hn,hl⟩:=I.loc;obtain⟨u,r,l⟩:=hl i x v hN e hv;have fin:EP X pins σ Q u s:=⟨v,H,I,r,h⟩;rcases l with⟨hk,hm⟩|⟨hk,c,hc,hcell⟩
  · exact wpAny_Name (wpAny_loadName_local I.ok.kind hk hn hm fin) hd
  · rcases hk with hk|hk
    · exact wpAny_Name (wpAny_loadName_cell I.ok.kind hk hc hcell fin) hd
    · exact wpAny_Name (wpAny_loadName_free I.ok.kind hk hc hcell fin hcd) hd
theorem pe_int{i j pos}:PE X (.Constant (.int i) j pos) (tC (.int i)):=fun _ _ _ H _ I h=>wpAny_Constant_int ⟨.int i,H,I.tok _,⟨_,rfl⟩,h⟩
theorem pe_bl{b j pos}:PE X (.Constant (.bool b) j pos) (tC (.bl b)):=fun _ _ _ H _ I h=>Constant_bool ⟨.bl b,H,I,rfl,h⟩
theorem pe_non{j pos}:PE X (.Constant .none j pos) (tC .non):=fun _ _ _ H _ I h=>Constant_none ⟨.non,H,I,rfl,h⟩
theorem pe_str{x j pos}:PE X (.Constant (.str x) j pos) (tC (.str x)):=fun _ _ _ H _ I h=>Calls.Constant_str ⟨.str x,H,I.tok _,⟨_,rfl⟩,h⟩

def Gl(X:Cx)(x:Str):Prop:=X.env.kindOf x=some .globalImplicit
theorem ld_glob{E:Value→Shared→Prop}{pins:List (Addr×Obj)}{s:Shared}{σ:St}{H:Hp}{x:Str}{u:Value}{pos:Pos}{Q:Value→Shared→Prop}(I:Inv X pins σ H s)(hg:Gl X x)(hm:X.mg x=some u)(h:Q u s)(hd:(x==("__debug__":Str))=false:=by decide):wpAny (model X.prog X.w) X.A (eval (.Name x pos) X.env) Q E s:=
  Calls.Name_function_global I.ok.kind hg (Calls.loadGlobal_global (by rw[I.ok.glob];exact I.mod.glob.keeps I.bk) hm h) hd
theorem ld_blt{E:Value→Shared→Prop}{pins:List (Addr×Obj)}{s:Shared}{σ:St}{H:Hp}{x:Str}{u:Value}{pos:Pos}{Q:Value→Shared→Prop}(I:Inv X pins σ H s)(hg:Gl X x)(hm:X.mg x=none)(hv:bootBuiltins x=some u)(h:Q u s)(hn:x ≠ "__name__":=by decide)(hd:(x==("__debug__":Str))=false:=by decide):wpAny (model X.prog X.w) X.A (eval (.Name x pos) X.env) Q E s:=by
  obtain⟨mb,h1,h2⟩:=I.mod.blt;exact Calls.Name_function_global I.ok.kind hg (Calls.loadGlobal_builtin (by rw[I.ok.glob];exact I.mod.glob.keeps I.bk) hm (by rw[I.ok.blt];exact h1.keeps I.bk) ((h2 x hn).trans hv) h) hd
theorem pe_glob{x:Str}{v:V}{u:Value}{pos:Pos}(hg:Gl X x)(hm:X.mg x=some u)(r:RelV v u)(hd:(x==("__debug__":Str))=false:=by decide):PE X (.Name x pos) (tC v):=
  fun _ _ _ H _ I h=>ld_glob I hg hm ⟨v,H,I,r,h⟩ hd
theorem pe_bltn{x:Str}{v:V}{u:Value}{pos:Pos}(hg:Gl X x)(hm:X.mg x=none)(hv:bootBuiltins x=some u)(r:RelV v u)(hn:x ≠ "__name__":=by decide)(hd:(x==("__debug__":Str))=false:=by decide):PE X (.Name x pos) (tC v):=
  fun _ _ _ H _ I h=>ld_blt I hg hm hv ⟨v,H,I,r,h⟩ hn hd

variable {a b:Expr}{ta tb:TE}{pos:Pos}

def PC(X:Cx)(op:CmpOp)(a b:Expr)(t:TE):Prop:=
  ∀ (pins:List (Addr×Obj)) (s:Shared) (σ:St) (H:Hp) (Q:VK),Inv X pins σ H s→t σ H Q→
    wpAny (model X.prog X.w) X.A (eval a X.env) (fun v s₁=>wpAny (model X.prog X.w) X.A (eval b X.env) (fun u s₂=>wpAny (model X.prog X.w) X.A (compareOp op v u) (EP X pins σ Q) X.xe s₂) X.xe s₁) X.xe s
theorem nobehind(b:Expr){op:CmpOp}(h:op≠.In)(h2:op≠.NotIn):behindInMarks op b=false:=by
  have e1:(op==CmpOp.In)=false:=by cases op<;>first|rfl|exact absurd rfl h
  have e2:(op==CmpOp.NotIn)=false:=by cases op<;>first|rfl|exact absurd rfl h2
  cases b<;>simp[behindInMarks,e1,e2]
noncomputable def tB(t:TE):TT:=fun σ H Q=>t σ H fun x H1=>∃ c,x=.bl c∧Q c H1
theorem pt_val{e:Expr}{t:TE}(h:PE X e t)(he:∀ whole,isTrue e X.env whole=(do let v ←whole;standAt e.pos;holding [v] (truthy v)):=by intro _;rfl):PT X e (tB t):=by
  intro pins s σ H Q I hw;refine isTrue_plain (thn (h pins s σ H _ I hw) fun v s1 ⟨x,H1,I1,r1,q1⟩=>?_) (he _)
  obtain⟨d,rfl,q⟩:=q1;cases r1;exact wpAny_truthy_bool ⟨H1,I1,q⟩

variable {tA tB':TT}{rest:List Expr}
noncomputable def tAnd(t u:TT):TT:=fun σ H Q=>t σ H fun c H1=>if c=true then u σ H1 Q else Q false H1
noncomputable def tOr(t u:TT):TT:=fun σ H Q=>t σ H fun c H1=>if c=true then Q true H1 else u σ H1 Q
noncomputable def tNot(t:TT):TT:=fun σ H Q=>t σ H fun c H1=>Q (!c) H1
theorem pw_and1(ha:PT X a tA):PW X (.BoolOp .And [a] pos) tA:=by
  intro wh pins s σ H Q I h;refine isTrue_and (thn (ha pins s σ H Q I h) fun c s1 e=>?_)
  cases c with
  |true=>exact isTrue_and_nil e
  |false=>exact e
theorem pw_or1(ha:PT X a tA):PW X (.BoolOp .Or [a] pos) tA:=by
  intro wh pins s σ H Q I h;refine isTrue_or (thn (ha pins s σ H Q I h) fun c s1 e=>?_)
  cases c with
  |false=>exact isTrue_or_nil e
  |true=>exact e
theorem pw_and(ha:PT X a tA)(hb:PW X (.BoolOp .And (b :: rest) pos) tB'):PW X (.BoolOp .And (a :: b :: rest) pos) (tAnd tA tB'):=by
  intro wh pins s σ H Q I h;refine isTrue_and (thn (ha pins s σ H _ I h) fun c s1 ⟨H1,I1,q1⟩=>?_)
  cases c with
  |true=>exact hb wh pins s1 σ H1 Q I1 q1
  |false=>exact⟨H1,I1,q1⟩
theorem pw_or(ha:PT X a tA)(hb:PW X (.BoolOp .Or (b :: rest) pos) tB'):PW X (.BoolOp .Or (a :: b :: rest) pos) (tOr tA tB'):=by
  intro wh pins s σ H Q I h;refine isTrue_or (thn (ha pins s σ H _ I h) fun c s1 ⟨H1,I1,q1⟩=>?_)
  cases c with
  |true=>exact⟨H1,I1,q1⟩
  |false=>exact hb wh pins s1 σ H1 Q I1 q1
theorem pt_not(ha:PT X a tA):PT X (.UnaryOp .Not a pos) (tNot tA):=by
  intro pins s σ H Q I h;exact isTrue_not (ha pins s σ H (fun c H1=>Q (!c) H1) I h)
noncomputable def tAndV(ta tb:TE):TE:=fun σ H Q=>ta σ H fun x H1=>∃ c,x=.bl c∧if c=true then tb σ H1 Q else Q (.bl false) H1
noncomputable def tOrV(ta tb:TE):TE:=fun σ H Q=>ta σ H fun x H1=>∃ c,x=.bl c∧if c=true then Q (.bl true) H1 else tb σ H1 Q
noncomputable def tNotV(ta:TE):TE:=fun σ H Q=>ta σ H fun x H1=>∃ c,x=.bl c∧Q (.bl (!c)) H1
theorem pe_one{op}{t:TE}(h:PE X a t):PE X (.BoolOp op [a] pos) t:=fun pins s σ H Q I hw=>BoolOp_one (h pins s σ H Q I hw)
theorem pe_and(ha:PE X a ta)(hb:PE X (.BoolOp .And (b :: rest) pos) tb):PE X (.BoolOp .And (a :: b :: rest) pos) (tAndV ta tb):=by
  intro pins s σ H Q I h;refine BoolOp_and (thn (ha pins s σ H _ I h) fun v s1 ⟨x,H1,I1,r1,q1⟩=>?_)
  obtain⟨c,rfl,q1⟩:=q1;cases r1;refine wpAny_truthy_bool ?_;cases c with
  |true=>exact hb pins s1 σ H1 Q I1 q1
  |false=>exact⟨.bl false,H1,I1,rfl,q1⟩
theorem pe_or(ha:PE X a ta)(hb:PE X (.BoolOp .Or (b :: rest) pos) tb):PE X (.BoolOp .Or (a :: b :: rest) pos) (tOrV ta tb):=by
  intro pins s σ H Q I h;refine BoolOp_or (thn (ha pins s σ H _ I h) fun v s1 ⟨x,H1,I1,r1,q1⟩=>?_)
  obtain⟨c,rfl,q1⟩:=q1;cases r1;refine wpAny_truthy_bool ?_;cases c with
  |false=>exact hb pins s1 σ H1 Q I1 q1
  |true=>exact⟨.bl true,H1,I1,rfl,q1⟩
theorem pe_not(ha:PE X a ta):PE X (.UnaryOp .Not a pos) (tNotV ta):=by
  intro pins s σ H Q I h;refine UnaryOp_ (thn (ha pins s σ H _ I h) fun v s1 ⟨x,H1,I1,r1,q1⟩=>?_)
  obtain⟨c,rfl,q1⟩:=q1;cases r1;exact not_of (wpAny_truthy_bool ⟨.bl (!c),H1,I1,rfl,q1⟩)
noncomputable def tIf(t:TT)(ta tb:TE):TE:=fun σ H Q=>t σ H fun c H1=>if c=true then ta σ H1 Q else tb σ H1 Q
theorem pe_ifExp{c:Expr}(hc:PT X c tA)(ha:PE X a ta)(hb:PE X b tb):PE X (.IfExp c a b pos) (tIf tA ta tb):=by
  intro pins s σ H Q I h;refine wpAny_IfExp (thn (hc pins s σ H _ I h) fun d s1 ⟨H1,I1,q1⟩=>?_)
  cases d with
  |true=>exact ha pins s1 σ H1 Q I1 q1
  |false=>exact hb pins s1 σ H1 Q I1 q1
end
end L2

namespace L2
open PySem PySem.Spec PyProof.Rows

def SqL(K:PySem.W.Frag)(H:Hp)(a:Addr)(xs:List V):Prop:=
  Rd H a (.lst xs) ∨
    ∃ (o:Obj) (its:Array Value) (n:Nat),K.lookup a=some o∧o.cls=.type "list"∧o.dict=none∧o.data=.seq its n∧its.size≤sizeLine∧Vals xs its.toList
def SqT(K:PySem.W.Frag)(H:Hp)(a:Addr)(xs:List V):Prop:=
  Rd H a (.tup xs) ∨
    ∃ (o:Obj) (its:Array Value) (n:Nat),K.lookup a=some o∧o.cls=.type "tuple"∧o.data=.seq its n∧its.size≤sizeLine∧Vals xs its.toList
noncomputable def absV:Value→Option V
  |.none=>some .non
  |.bool b=>some (.bl b)
  |.int i _=>some (.int i)
  |.str x _=>some (.str x)
  |.bytes b _=>some (.byt b)
  |.float b _=>some (.flt b)
  |.ref a=>some (.ref a)
  |.type n=>some (.ty n)
  |_=>none
theorem RelV.abs{x:V}{u:Value}(r:RelV x u):absV u=some x:=by
  cases x with
  |non=>cases r;rfl
  |bl _=>cases r;rfl
  |int _=>obtain⟨t,rfl⟩:=r;rfl
  |str _=>obtain⟨t,rfl⟩:=r;rfl
  |byt _=>obtain⟨t,rfl⟩:=r;rfl
  |flt _=>obtain⟨t,rfl⟩:=r;rfl
  |ref _=>cases r;rfl
  |ty _=>cases r;rfl
theorem RelV.inj{x y:V}{u:Value}(r:RelV x u)(q:RelV y u):x=y:=Option.some.inj (r.abs.symm.trans q.abs)
theorem Vals.inj:∀ {xs ys:List V}{us:List Value},Vals xs us→Vals ys us→xs=ys
  |_,_,_,.nil,.nil=>rfl
  |_,_,_,.cons r t,.cons r' t'=>by rw[r.inj r',Vals.inj t t']
section
variable {X:Cx}{pins:List (Addr×Obj)}{σ:St}{H:Hp}{s:Shared}{a:Addr}{xs ys:List V}
theorem SqT.of{K:PySem.W.Frag}(h:H a=some (.tup xs)):SqT K H a xs:=.inl (.inl h)
theorem Inv.list(I:Inv X pins σ H s)(h:SqL X.K H a xs):∃ its:List Value,Vals xs its∧PlainL s.heap a its.toArray∧xs.length≤sizeLine:=by
  rcases h with h|⟨o,its,n,hk,hc,hd,hs,hz,r⟩
  · obtain⟨z,its,n,r,e⟩:=h.ok I.hok
    exact⟨its,r,⟨_,n,e,rfl,rfl,rfl⟩,z⟩
  · refine⟨its.toList,r,⟨o,n,I.kIn a o hk,hc,hd,by simpa using hs⟩,?_⟩
    have e:=r.length;simp only[Array.length_toList]at e;omega
theorem Inv.tuple(I:Inv X pins σ H s)(h:SqT X.K H a xs):∃ its:List Value,Vals xs its∧IsTup s.heap a its.toArray∧xs.length≤sizeLine:=by
  rcases h with h|⟨o,its,n,hk,hc,hs,hz,r⟩
  · obtain⟨z,its,r,p⟩:=h.ok I.hok
    exact⟨its,r,p,z⟩
  · refine⟨its.toList,r,⟨o,I.kIn a o hk,hc,n,by simpa using hs⟩,?_⟩
    have e:=r.length;simp only[Array.length_toList]at e;omega
theorem Inv.list_inj(I:Inv X pins σ H s)(h:SqL X.K H a xs)(h':SqL X.K H a ys):xs=ys:=by
  obtain⟨its,r,⟨o,n,e,_,_,d⟩,_⟩:=I.list h;obtain⟨its',r',⟨o',n',e',_,_,d'⟩,_⟩:=I.list h';rw[e]at e';cases e'
  rw[d]at d'
  injection d' with d1 _
  have:its=its':=by simpa using congrArg Array.toList d1
  subst this;exact r.inj r'
theorem Inv.tuple_inj(I:Inv X pins σ H s)(h:SqT X.K H a xs)(h':SqT X.K H a ys):xs=ys:=by
  obtain⟨its,r,⟨o,e,_,n,d⟩,_⟩:=I.tuple h;obtain⟨its',r',⟨o',e',_,n',d'⟩,_⟩:=I.tuple h';rw[e]at e';cases e'
  rw[d]at d'
  injection d' with d1 _
  have:its=its':=by simpa using congrArg Array.toList d1
  subst this;exact r.inj r'
end

noncomputable abbrev Cx.wish(X:Cx)(E:Value→Shared→Prop):Cx:={ X with xe:=E }
noncomputable abbrev Cx.nox(X:Cx):Cx:=X.wish fun _ _=>False
theorem Cx.Ok.wish{X:Cx}(ok:X.Ok)(E:Value→Shared→Prop):(X.wish E).Ok:=
  ⟨ok.mod,ok.kind,ok.glob,ok.blt,ok.above,ok.inj,ok.has,ok.cab,ok.hd,ok.frames,ok.stk,ok.exf,ok.bs,ok.bsz,ok.noex,ok.exfs,ok.funs,ok.frf⟩
theorem Cx.Ok.unwish{X:Cx}{E:Value→Shared→Prop}(ok:(X.wish E).Ok):X.Ok:=
  ⟨ok.mod,ok.kind,ok.glob,ok.blt,ok.above,ok.inj,ok.has,ok.cab,ok.hd,ok.frames,ok.stk,ok.exf,ok.bs,ok.bsz,ok.noex,ok.exfs,ok.funs,ok.frf⟩
section
variable {X:Cx}{pins:List (Addr×Obj)}{σ:St}{H:Hp}{s:Shared}{E:Value→Shared→Prop}
theorem Inv.wish(I:Inv X pins σ H s)(E:Value→Shared→Prop):Inv (X.wish E) pins σ H s:=⟨I.ok.wish E,I.os,I.bare,I.base,I.loc,I.cell,I.free,I.freeC,I.pin,I.hok,I.len⟩
theorem Inv.unwish(I:Inv (X.wish E) pins σ H s):Inv X pins σ H s:=⟨I.ok.unwish,I.os,I.bare,I.base,I.loc,I.cell,I.free,I.freeC,I.pin,I.hok,I.len⟩
theorem SP.unwish{D:Ends}{f:Flow}{s':Shared}(h:SP (X.wish E) pins D f s'):SP X pins D f s':=by
  cases f with
  |next=>obtain⟨σ',H',I,q⟩:=h;exact⟨σ',H',I.unwish,q⟩
  |brk=>obtain⟨σ',H',I,q⟩:=h;exact⟨σ',H',I.unwish,q⟩
  |cont=>obtain⟨σ',H',I,q⟩:=h;exact⟨σ',H',I.unwish,q⟩
  |ret u=>obtain⟨v,σ',H',I,r,q⟩:=h;exact⟨v,σ',H',I.unwish,r,q⟩
theorem PE.nox{e:Expr}{t:TE}(h:PE X.nox e t):PE X e t:=fun pins s σ H Q I hw=>
  wpAny_mono (h pins s σ H Q (I.wish _) hw) (fun _ _ ⟨v,H',I',r,q⟩=>⟨v,H',I'.unwish,r,q⟩) fun _ _ z=>False.elim z
theorem PT.nox{e:Expr}{t:TT}(h:PT X.nox e t):PT X e t:=fun pins s σ H Q I hw=>
  wpAny_mono (h pins s σ H Q (I.wish _) hw) (fun _ _ ⟨H',I',q⟩=>⟨H',I'.unwish,q⟩) fun _ _ z=>False.elim z
theorem PSs.nox{st:List Stmt}{t:TS}(h:PSs X.nox st t):PSs X st t:=fun pins s σ H D I hw=>
  wpAny_mono (h pins s σ H D (I.wish _) hw) (fun _ _ q=>q.unwish) fun _ _ z=>False.elim z
end

section
variable {X:Cx}{st:Stmt}{rest:List Stmt}{t u:TS}{e:Expr}{te:TE}{pos:Pos}
noncomputable def tNext:TS:=fun D σ H=>D.nx σ H
noncomputable def tSeq(t u:TS):TS:=fun D σ H=>t { D with nx:=u D } σ H
theorem pss_nil:PSs X [] tNext:=fun _ _ σ H _ I h=>wpAny_execs_nil ⟨σ,H,I,h⟩
theorem pss_cons(h1:PS X st t)(h2:PSs X rest u):PSs X (st :: rest) (tSeq t u):=by
  intro pins s σ H D I h;refine wpAny_execs_cons (thn (h1 pins s σ H { D with nx:=u D } I h) fun f s1 q=>?_)
  cases f with
  |next=>
    obtain⟨σ',H',I',q⟩:=q;exact h2 pins s1 σ' H' D I' q
  |ret v=>exact q
  |brk=>exact q
  |cont=>exact q
theorem pss_one(h1:PS X st t):PSs X [st] t:=by
  intro pins s σ H D I h;refine wpAny_execs_cons (thn (h1 pins s σ H D I h) fun f s1 q=>?_)
  cases f with
  |next=>exact wpAny_execs_nil q
  |ret v=>exact q
  |brk=>exact q
  |cont=>exact q
noncomputable def tBreak:TS:=fun D σ H=>D.bk σ H
noncomputable def tCont:TS:=fun D σ H=>D.ct σ H
theorem ps_pass:PS X (.Pass pos) tNext:=fun _ _ σ H _ I h=>wpAny_Pass ⟨σ,H,I,h⟩
theorem ps_break:PS X (.Break pos) tBreak:=fun _ _ σ H _ I h=>wpAny_Break ⟨σ,H,I,h⟩
theorem ps_continue:PS X (.Continue pos) tCont:=fun _ _ σ H _ I h=>wpAny_Continue ⟨σ,H,I,h⟩
theorem Inv.quiet{pins:List (Addr×Obj)}{σ:St}{H:Hp}{s:Shared}(I:Inv X pins σ H s):interactive X.env=false:=by simp[interactive,I.ok.kind]
noncomputable def tDrop(te:TE):TS:=fun D σ H=>te σ H fun _ H1=>D.nx σ H1
theorem ps_expr(he:PE X e te)(hs:swapsWith e none pos.line X.env=pure false:=by rfl):PS X (.Expr e pos) (tDrop te):=by
  intro pins s σ H D I h;exact wpAny_Expr_any (thn (he pins s σ H _ I h) fun v s1 ⟨x,H1,I1,r1,q1⟩=>⟨σ,H1,I1,q1⟩) I.quiet hs
noncomputable def tRet(te:TE):TS:=fun D σ H=>te σ H D.rt
theorem ps_ret(he:PE X e te):PS X (.Return (some e) pos) (tRet te):=by
  intro pins s σ H D I h;exact wpAny_Return_some (thn (he pins s σ H _ I h) fun v s1 ⟨x,H1,I1,r1,q1⟩=>⟨x,σ,H1,I1,r1,q1⟩)
noncomputable def tIfS(c:TT)(t u:TS):TS:=fun D σ H=>c σ H fun b H1=>if b=true then t D σ H1 else u D σ H1
theorem ps_if{c:Expr}{a b:List Stmt}{tc:TT}(hc:PT X c tc)(ha:PSs X a t)(hb:PSs X b u):PS X (.If c a b pos) (tIfS tc t u):=by
  intro pins s σ H D I h;refine wpAny_If (thn (hc pins s σ H _ I h) fun d s1 ⟨H1,I1,q1⟩=>?_)
  cases d with
  |true=>exact ha pins s1 σ H1 D I1 q1
  |false=>exact hb pins s1 σ H1 D I1 q1
noncomputable def tNever:TS:=fun _ _ _=>False
theorem pss_never{sts:List Stmt}:PSs X sts tNever:=fun _ _ _ _ _ _ h=>h.elim
end

abbrev TG:=V→St→Hp→(St→Hp→Prop)→Prop
abbrev TGs:=List V→St→Hp→(St→Hp→Prop)→Prop
def PG(X:Cx)(target:Expr)(t:TG):Prop:=
  ∀ (pins:List (Addr×Obj)) (s:Shared) (σ:St) (H:Hp) (v:V) (u:Value) (Q:St→Hp→Prop),Inv X pins σ H s→RelV v u→t v σ H Q→
    wpAny (model X.prog X.w) X.A (assign target X.env u) (fun _ s'=>∃ σ' H',Inv X pins σ' H' s'∧Q σ' H') X.xe s
def PGs(X:Cx)(ts:List Expr)(t:TGs):Prop:=
  ∀ (pins:List (Addr×Obj)) (s:Shared) (σ:St) (H:Hp) (vs:List V) (us:List Value) (Q:St→Hp→Prop),Inv X pins σ H s→Vals vs us→t vs σ H Q→
    wpAny (model X.prog X.w) X.A (assignInOrder ((assignEach ts X.env).map (·.2)) us) (fun _ s'=>∃ σ' H',Inv X pins σ' H' s'∧Q σ' H') X.xe s
abbrev TSet:=V→V→V→Hp→(Hp→Prop)→Prop
def PSet(X:Cx)(t:TSet):Prop:=
  ∀ (pins:List (Addr×Obj)) (s:Shared) (σ:St) (H:Hp) (o i v:V) (ov iv u:Value) (Q:Hp→Prop),Inv X pins σ H s→RelV o ov→RelV i iv→RelV v u→t o i v H Q→
    wpAny (model X.prog X.w) X.A (setItem ov iv u) (fun _ s'=>∃ H',Inv X pins σ H' s'∧Q H') X.xe s
section
variable {X:Cx}{pos:Pos}
noncomputable def gName(i:Nat):TG:=fun v σ H Q=>Q (σ.set i (some v)) H
theorem pg_name{i:Nat}{x:Str}(hN:X.N.Nodup)(hi:X.N[i]?=some x)(hx:Loc X.env.scope x)(hf:X.fn x=true∨X.env.scope.names.lookup x=some .local:=by first|exact .inl rfl|exact .inr rfl|assumption):PG X (.Name x pos) (gName i):=by
  intro pins s σ H v u Q I r h;exact wpAny_assign_Name (store_ok I hN hi hx r (fun s' I'=>⟨_,H,I',h⟩) hf)
noncomputable def gNil:TGs:=fun vs σ H Q=>vs=[]∧Q σ H
noncomputable def gCons(t:TG)(u:TGs):TGs:=fun vs σ H Q=>∃ v r,vs=v :: r∧t v σ H fun σ' H'=>u r σ' H' Q
theorem pgs_nil:PGs X [] gNil:=by
  intro pins s σ H vs us Q I r h;obtain⟨e,h⟩:=h;subst e;cases r;exact assignInOrder_nil ⟨σ,H,I,h⟩
theorem pgs_cons{e:Expr}{es:List Expr}{t:TG}{u:TGs}(h1:PG X e t)(h2:PGs X es u)(hs:(assignEach (e :: es) X.env).map (·.2)=assign e X.env :: (assignEach es X.env).map (·.2):=by rfl):PGs X (e :: es) (gCons t u):=by
  intro pins s σ H vs us Q I r h;obtain⟨v,vr,e1,h⟩:=h;subst e1;cases r with
  |cons r rr=>
    rw[hs];refine assignInOrder_cons (thn (h1 pins s σ H _ _ _ I r h) fun _ s1 ⟨σ1,H1,I1,q1⟩=>?_)
    exact h2 pins s1 σ1 H1 _ _ Q I1 rr q1
noncomputable def gTup(K:PySem.W.Frag)(n:Nat)(t:TGs):TG:=fun v σ H Q=>∃ a xs,v=.ref a∧SqT K H a xs∧xs.length=n∧t xs σ H Q
theorem pg_tup{es:List Expr}{k:Nat}{t:TGs}{n:Nat}(hc:X.calm=true)(h:PGs X es t)(hn:(assignEach es X.env).length=n:=by rfl)(hst:(assignEach es X.env).findIdx? (·.1)=none:=by rfl):PG X (.Tuple es k pos) (gTup X.K n t):=by
  intro pins s σ H v u Q I r hw;obtain⟨a,xs,e1,hq,hl,hw⟩:=hw;subst e1;cases r;obtain⟨its,rv,ht,hz⟩:=I.tuple hq;refine assign_Tuple_tuple (I.ok.hd hc) ht (by simp[hn,←hl,rv.length]) hst fun h' hx=>?_
  have I1:Inv X pins σ H { s with heap:=h' }:=I.kept (t':=s.toks) fun b o e=>hx b o (Nat.ne_of_lt (Heap.lt_size e)) e
  exact h pins _ σ H xs _ Q I1 (by simpa using rv) hw
noncomputable def gSub(to ti:TE)(t:TSet):TG:=fun v σ H Q=>to σ H fun o H1=>ti σ H1 fun i H2=>t o i v H2 fun H3=>Q σ H3
theorem pg_sub{o i:Expr}{to ti:TE}{t:TSet}(ho:PE X o to)(hi:PE X i ti)(hs:PSet X t)(ha:∀ v,assign (.Subscript o i pos) X.env v=(do
      let ov ←holding [v] (eval o X.env)
      let iv ←holding [v,ov] (eval i X.env)
      standAt pos
      holding [v,ov,iv] (setItem ov iv v)
      release [v,ov,iv] []):=by intro _;rfl):PG X (.Subscript o i pos) (gSub to ti t):=by
  intro pins s σ H v u Q I r h;rw[ha];refine wpAny_bind (wpAny_holding (thn (ho pins s σ H _ I h) fun ov s1 ⟨x,H1,I1,r1,q1⟩=>?_))
  refine wpAny_bind (wpAny_holding (thn (hi pins s1 σ H1 _ I1 q1) fun iv s2 ⟨y,H2,I2,r2,q2⟩=>?_))
  refine wpAny_bind (wpAny_standAt (wpAny_bind (wpAny_holding (thn (hs pins s2 σ H2 x y v ov iv u _ I2 r1 r2 r q2) fun _ s3 ⟨H3,I3,q3⟩=>?_))))
  exact wpAny_release ⟨σ,H3,I3,q3⟩
noncomputable def tAsg(te:TE)(g:TG):TS:=fun D σ H=>te σ H fun x H1=>g x σ H1 D.nx
theorem ps_asg{tg e:Expr}{te:TE}{g:TG}(he:PE X e te)(hg:PG X tg g)(hs:swapsWithSole [tg] e pos.line X.env=pure false:=by rfl)(hw:swappedStores [tg] e X.env=pure none:=by rfl)(h1:(assignEach [tg] X.env).map (·.2)=[assign tg X.env]:=by rfl):PS X (.Assign [tg] e pos) (tAsg te g):=by
  intro pins s σ H D I h;refine wpAny_Assign_stores (thn (he pins s σ H _ I h) fun v s1 ⟨x,H1,I1,r1,q1⟩=>?_) hs hw
  rw[h1];exact thn (hg pins s1 σ H1 x v _ I1 r1 q1) fun _ s2 q=>q
theorem ps_set{i:Nat}{x:Str}{e:Expr}{te:TE}{pos':Pos}(hN:X.N.Nodup)(hi:X.N[i]?=some x)(hx:Loc X.env.scope x)(he:PE X e te)(hs:swapsWith e (some (.Name x pos')) pos.line X.env=pure false:=by rfl)(hf:X.fn x=true∨X.env.scope.names.lookup x=some .local:=by first|exact .inl rfl|exact .inr rfl|assumption) :
    PS X (.Assign [.Name x pos'] e pos) (tAsg te (gName i)):=by
  intro pins s σ H D I h;refine wpAny_Assign_Name (thn (he pins s σ H _ I h) fun v s1 ⟨y,H1,I1,r1,q1⟩=>?_) hs
  exact store_ok I1 hN hi hx r1 (fun s2 I2=>⟨_,H1,I2,q1⟩) hf
end

section
variable {X:Cx}{pos:Pos}
end

structure It where
  go:Nat→Hp→Prop
  yld:Nat→Hp→V→Hp→Prop
  stop:Nat→Hp→Prop
def FpOk(X:Cx)(pins:List (Addr×Obj))(H:Hp)(b:Addr):Prop:=
  H b=none∧b≠X.env.locals∧b∉X.fs∧(b∈X.ex∨X.s₀.heap.objs.size≤b)∧(∀ x c,X.env.cells.lookup x=some c→c≠b)∧∀ p∈X.pn++pins,p.1≠b
theorem Inv.fpOk{X:Cx}{pins:List (Addr×Obj)}{σ:St}{H H':Hp}{s:Shared}{b:Addr}(I:Inv X pins σ H s)(hb:s.heap.objs.size≤b)(hn:H' b=none):FpOk X pins H' b:=by
  refine⟨hn,Nat.ne_of_gt (Nat.lt_of_lt_of_le I.lt hb),I.nofs hb,.inr (Nat.le_trans I.sz hb),fun x c e z=>?_,fun p hp z=>?_⟩
  · obtain⟨v,q⟩:=I.cell x c e
    exact absurd (Nat.lt_of_lt_of_le q.lt (by rw[z];exact hb)) (Nat.lt_irrefl _)
  · exact absurd (Nat.lt_of_lt_of_le (Heap.lt_size (I.pin p hp).1) (by rw[z];exact hb)) (Nat.lt_irrefl _)
structure Turn(P:Program)(w:World)(K:PySem.W.Frag)(tg:Expr)(J:It)(fp:List Addr)(it:Addr)(tn:Nat→Heap→Prop):Prop where
  mem:it∈fp
  obj:∀ i h,tn i h→∀ b∈fp,∃ o,h.get? b=some o∧∀ v,o.data≠.cell v
  keep:∀ i h h',tn i h→(∀ b∈fp,∀ o,h.get? b=some o→h'.get? b=some o)→tn i h'
  item:∀ (X:Cx),X.prog=P→X.w=w→X.K=K→X.calm=true→∀ (i:Nat) (pins:List (Addr×Obj)) (s:Shared) (σ:St) (H:Hp) (E:Value→Shared→Prop),Inv X pins σ H s→(∀ b∈fp,FpOk X pins H b)→tn i s.heap→J.go i H→
    wpAny (model P w) X.A (pyNext (.ref it)) (fun r s1=>∃ u,r=some u ∧
      wpAny (model P w) X.A (letOwnedTupleGo tg (.ref it) u) (fun _ s2=>∃ x H',Inv X pins σ H' s2∧RelV x u∧J.yld i H x H'∧tn (i+1) s2.heap∧∀ b∈fp,H' b=none) E s1) E s
  done:∀ (X:Cx),X.prog=P→X.w=w→X.K=K→X.calm=true→∀ (i:Nat) (pins:List (Addr×Obj)) (s:Shared) (σ:St) (H:Hp) (E:Value→Shared→Prop),Inv X pins σ H s→(∀ b∈fp,FpOk X pins H b)→tn i s.heap→J.stop i H→
    wpAny (model P w) X.A (pyNext (.ref it)) (fun r s1=>r=none∧Inv X pins σ H s1) E s
  self:∀ (A:Around) (i:Nat) (s:Shared) (Q:Value→Shared→Prop) (E:Value→Shared→Prop),tn i s.heap→Q (.ref it) s→wpAny (model P w) A (pyIter (.ref it)) Q E s
abbrev TI:=St→Hp→(It→Hp→Prop)→Prop
def PIE(X:Cx)(pins:List (Addr×Obj))(σ:St)(tg:Expr)(R:It→Hp→Prop)(itv:Value)(s2:Shared):Prop:=
  ∃ (it:Addr) (fp:List Addr) (tn:Nat→Heap→Prop) (J:It) (H':Hp),itv=.ref it∧Inv X pins σ H' s2∧Turn X.prog X.w X.K tg J fp it tn∧tn 0 s2.heap∧(∀ b∈fp,FpOk X pins H' b)∧R J H'
def PI(X:Cx)(tg iter:Expr)(wi:TI):Prop:=
  ∀ (pins:List (Addr×Obj)) (s:Shared) (σ:St) (H:Hp) (R:It→Hp→Prop),Inv X pins σ H s→wi σ H R→
    wpAny (model X.prog X.w) X.A (eval iter X.env) (fun v s1=>wpAny (model X.prog X.w) X.A (pyIter v) (PIE X pins σ tg R) X.xe s1) X.xe s

theorem go_of{M:Model}{A:Around}{E:Value→Shared→Prop}{s:Shared}{tg:Expr}{it:Addr}{u:Value}{o:Obj}{n:String}{vs:Array Value}{Q:Unit→Shared→Prop}(ho:s.heap.get? it=some o)(hc:o.cls=.type n)(hd:o.data=.fields vs)(hn:["enumerate", "zip", "dict_itemiterator", "dict_reverseitemiterator", "odict_iterator", "itertools.zip_longest", "itertools.pairwise"].contains n=false)(hQ:Q () s):wpAny M A (letOwnedTupleGo tg (.ref it) u) Q E s:=by
  unfold letOwnedTupleGo;cases tg<;>first
    |exact wpAny_pure hQ
    | (cases u<;>first
        |exact wpAny_pure hQ
        | (refine wpAny_bind (wpAny_load ho ?_)
           rw[hc,hd];show wpAny M A (if (["enumerate", "zip", "dict_itemiterator", "dict_reverseitemiterator", "odict_iterator", "itertools.zip_longest", "itertools.pairwise"].contains n&&vs[0]?==some (rawInt _))=true then _ else _) Q E s
           rw[if_neg (by intro h;rw[hn,Bool.false_and]at h;cases h)]
           exact wpAny_pure hQ))

noncomputable def Itl(K:PySem.W.Frag)(a:Addr):It:=
  ⟨fun i H=>∃ xs x,SqL K H a xs∧xs[i]?=some x,fun i H x H'=>H'=H∧∀ xs,SqL K H a xs→xs[i]?=some x,fun i H=>∃ xs,SqL K H a xs∧xs.length≤i⟩
noncomputable def Itt(K:PySem.W.Frag)(a:Addr):It:=
  ⟨fun i H=>∃ xs x,SqT K H a xs∧xs[i]?=some x,fun i H x H'=>H'=H∧∀ xs,SqT K H a xs→xs[i]?=some x,fun i H=>∃ xs,SqT K H a xs∧xs.length≤i⟩
noncomputable def Itr(lo:Int)(n:Nat):It:=⟨fun i _=>i < n,fun i H x H'=>H'=H∧x=.int (lo+i),fun i _=>n≤i⟩
theorem turn_list{P:Program}{w:World}{K:PySem.W.Frag}{tg:Expr}(a it:Addr):Turn P w K tg (Itl K a) [it] it (fun i h=>h.IsListIter it a i) where
  mem:=by simp
  obj:=fun i h st b hb=>by
    have e:b=it:=by simpa using hb
    subst e;obtain⟨o,e,c,d⟩:=st;exact⟨o,e,fun v z=>by rw[d]at z;cases z⟩
  keep:=fun i h h' st k=>st.at fun o e=>k it (by simp) o e
  item:=by
    intro X hP hw hK hc i pins s σ H E I hf st hg;subst hP hw hK;obtain⟨xs,x,hq,hx⟩:=hg;obtain⟨its,rv,p,hz⟩:=I.list hq;obtain⟨u,hu,ru⟩:=rv.get hx;obtain⟨f0,f1,f2,f3,f4,f5⟩:=hf it (by simp)
    refine wpAny_pyNext_list_item st p.isList (x:=u) (by simpa using hu) fun h' st' sb=>?_
    have I1:Inv X pins σ H { s with heap:=h' }:=I.turned (t':=s.toks) (fun b o hb e=>(sb.2 b hb).trans e) f0 f1 f3 f4 f5
    obtain⟨o,e,c,d⟩:=id st';exact⟨u,rfl,go_of (s:={ s with heap:=h' }) e c d (by decide) ⟨x,H,I1,ru,⟨rfl,fun ys hy=>by rw[I.list_inj hy hq];exact hx⟩,st',fun b hb=>(hf b hb).1⟩⟩
  done:=by
    intro X hP hw hK hc i pins s σ H E I hf st hg;subst hP hw hK;obtain⟨xs,hq,hx⟩:=hg;obtain⟨its,rv,p,hz⟩:=I.list hq;obtain⟨f0,f1,f2,f3,f4,f5⟩:=hf it (by simp)
    have hl:=rv.length;exact wpAny_pyNext_list_end (I.ok.hd hc) st p.isList (by simp;omega) fun h' eb=>⟨rfl,I.turned (t':=s.toks) (fun b o hb e=>eb b o hb e) f0 f1 f3 f4 f5⟩
  self:=fun _ _ _ _ _ st h=>wpAny_pyIter_listiter st h
theorem turn_tuple{P:Program}{w:World}{K:PySem.W.Frag}{tg:Expr}(a it:Addr):Turn P w K tg (Itt K a) [it] it (fun i h=>h.IsTupleIter it a i) where
  mem:=by simp
  obj:=fun i h st b hb=>by
    have e:b=it:=by simpa using hb
    subst e;obtain⟨o,e,c,d⟩:=st;exact⟨o,e,fun v z=>by rw[d]at z;cases z⟩
  keep:=fun i h h' st k=>st.at fun o e=>k it (by simp) o e
  item:=by
    intro X hP hw hK hc i pins s σ H E I hf st hg;subst hP hw hK;obtain⟨xs,x,hq,hx⟩:=hg;obtain⟨its,rv,p,hz⟩:=I.tuple hq;obtain⟨u,hu,ru⟩:=rv.get hx;obtain⟨f0,f1,f2,f3,f4,f5⟩:=hf it (by simp)
    refine wpAny_pyNext_tuple_item st (show s.heap.IsTuple a its.toArray from p) (x:=u) (by simpa using hu) fun h' st' sb=>?_
    have I1:Inv X pins σ H { s with heap:=h' }:=I.turned (t':=s.toks) (fun b o hb e=>(sb.2 b hb).trans e) f0 f1 f3 f4 f5
    obtain⟨o,e,c,d⟩:=id st';exact⟨u,rfl,go_of (s:={ s with heap:=h' }) e c d (by decide) ⟨x,H,I1,ru,⟨rfl,fun ys hy=>by rw[I.tuple_inj hy hq];exact hx⟩,st',fun b hb=>(hf b hb).1⟩⟩
  done:=by
    intro X hP hw hK hc i pins s σ H E I hf st hg;subst hP hw hK;obtain⟨xs,hq,hx⟩:=hg;obtain⟨its,rv,p,hz⟩:=I.tuple hq;obtain⟨f0,f1,f2,f3,f4,f5⟩:=hf it (by simp)
    have hl:=rv.length;exact wpAny_pyNext_tuple_end (I.ok.hd hc) st (show s.heap.IsTuple a its.toArray from p) (by simp;omega) fun h' eb=>⟨rfl,I.turned (t':=s.toks) (fun b o hb e=>eb b o hb e) f0 f1 f3 f4 f5⟩
  self:=fun _ _ _ _ _ st h=>wpAny_pyIter_tupleiter st h
theorem turn_range{P:Program}{w:World}{K:PySem.W.Frag}{tg:Expr}(it:Addr)(lo:Int)(n:Nat):Turn P w K tg (Itr lo n) [it] it (fun i h=>IsRangeIter h it (lo+(i:Nat) * 1) ((n:Int) - (i:Nat)) 1) where
  mem:=by simp
  obj:=fun i h st b hb=>by
    have e:b=it:=by simpa using hb
    subst e;exact⟨_,st,fun v z=>by
      have z':Data.fields _=Data.cell v:=z;cases z'⟩
  keep:=fun i h h' st k=>k it (by simp) _ st
  item:=by
    intro X hP hw hK hc i pins s σ H E I hf st hg;subst hP hw hK;obtain⟨f0,f1,f2,f3,f4,f5⟩:=hf it (by simp)
    have W:=Walks.range (prog:=X.prog) (w:=X.w) (I.ok.hd hc) it lo 1 n;refine W.item i s _ _ hg st fun v h' tk hv st' kk=>?_
    obtain⟨t,rfl⟩:=hv;have I1:Inv X pins σ H { s with heap:=h',toks:=tk }:=I.turned (fun b o hb e=>kk b o (by simpa using hb) e) f0 f1 f3 f4 f5
    refine⟨_,rfl,go_of (s:={ s with heap:=h',toks:=tk }) (n := "range_iterator") st' rfl rfl (by decide) ⟨.int (lo+i),H,I1,⟨t,?_⟩,⟨rfl,rfl⟩,st',fun b hb=>(hf b hb).1⟩⟩
    rw[Int.mul_one]
  done:=by
    intro X hP hw hK hc i pins s σ H E I hf st hg;subst hP hw hK;obtain⟨f0,f1,f2,f3,f4,f5⟩:=hf it (by simp)
    exact wpAny_pyNext_range_end (I.ok.hd hc) st (by have:n≤i:=hg;omega) fun h' eb=>⟨rfl,I.turned (t':=s.toks) (fun b o hb e=>eb b o hb e) f0 f1 f3 f4 f5⟩
  self:=fun _ _ _ _ _ st h=>wpAny_pyIter_rangeiter st h
end L2

namespace L2
open PySem PySem.Spec PyProof.Rows
section
variable {X:Cx}{tg:Expr}
noncomputable def iList(K:PySem.W.Frag)(tl:TE):TI:=fun σ H R=>tl σ H fun x H1=>∃ a,x=.ref a∧(∃ xs,SqL K H1 a xs)∧R (Itl K a) H1
noncomputable def iTup(K:PySem.W.Frag)(tl:TE):TI:=fun σ H R=>tl σ H fun x H1=>∃ a,x=.ref a∧(∃ xs,SqT K H1 a xs)∧R (Itt K a) H1
theorem pi_list{l:Expr}{tl:TE}(hl:PE X l tl):PI X tg l (iList X.K tl):=by
  intro pins s σ H R I h;refine thn (hl pins s σ H _ I h) fun v s1 ⟨x,H1,I1,r1,q1⟩=>?_
  obtain⟨a,e,⟨xs,hq⟩,q⟩:=q1;subst e;cases r1;obtain⟨its,rv,p,hz⟩:=I1.list hq;refine wpAny_pyIter_list p.isList ?_;refine⟨s1.heap.objs.size,[s1.heap.objs.size],_,_,H1,rfl,I1.kept (t':=s1.toks) fun b o e=>Heap.get?_push_of_some _ e,turn_list a _,⟨_,Heap.get?_push_size _ rfl,rfl,rfl⟩,fun b hb=>?_,q⟩
  have e:b=s1.heap.objs.size:=by simpa using hb
  subst e;exact I1.fpOk (Nat.le_refl _) (I1.hok.fresh (Nat.le_refl _))
theorem pi_tup{l:Expr}{tl:TE}(hl:PE X l tl):PI X tg l (iTup X.K tl):=by
  intro pins s σ H R I h;refine thn (hl pins s σ H _ I h) fun v s1 ⟨x,H1,I1,r1,q1⟩=>?_
  obtain⟨a,e,⟨xs,hq⟩,q⟩:=q1;subst e;cases r1;obtain⟨its,rv,p,hz⟩:=I1.tuple hq;refine wpAny_pyIter_tuple (show s1.heap.IsTuple a its.toArray from p) ?_;refine⟨s1.heap.objs.size,[s1.heap.objs.size],_,_,H1,rfl,I1.kept (t':=s1.toks) fun b o e=>Heap.get?_push_of_some _ e,turn_tuple a _,⟨_,Heap.get?_push_size _ rfl,rfl,rfl⟩,fun b hb=>?_,q⟩
  have e:b=s1.heap.objs.size:=by simpa using hb
  subst e;exact I1.fpOk (Nat.le_refl _) (I1.hok.fresh (Nat.le_refl _))
theorem range_it{pins:List (Addr×Obj)}{σ:St}{H:Hp}{s:Shared}{R:It→Hp→Prop}{E:Value→Shared→Prop}{lo hi:Int}{t u v:Tok}{tk:Nat}(I:Inv X pins σ H s)(h1:-(2 ^ 62)≤lo)(h2:lo < 2 ^ 62)(h3:-(2 ^ 62)≤hi)(h4:hi < 2 ^ 62)(q:R (Itr lo (hi - lo).toNat) H):wpAny (model X.prog X.w) X.A (pyIter (.ref s.heap.objs.size)) (PIE X pins σ tg R) E { s with heap:=s.heap.push { cls:=.type "range",data:=.fields #[.int lo t,.int hi u,.int 1 v] },toks:=tk }:=by
  refine wpAny_pyIter_range (IsRange.new ..) (small_one h1 h2 h3 h4) ?_;have I1:Inv X pins σ H { s with heap:=s.heap.push { cls:=.type "range",data:=.fields #[.int lo t,.int hi u,.int 1 v] },toks:=tk }:=I.kept fun b o e=>Heap.get?_push_of_some _ e
  refine⟨(s.heap.push { cls:=.type "range",data:=.fields #[.int lo t,.int hi u,.int 1 v] }).objs.size,[(s.heap.push { cls:=.type "range",data:=.fields #[.int lo t,.int hi u,.int 1 v] }).objs.size],_,_,H,rfl,
    I1.kept (t':=tk) fun b o e=>Heap.get?_push_of_some _ e,turn_range _ lo (hi - lo).toNat,?_,fun b hb=>?_,q⟩
  · have e1:lo+((0:Nat):Int) * 1=lo:=by simp
    have e2:(((hi - lo).toNat:Nat):Int) - ((0:Nat):Int)=Builtin.Range.rangeSize lo hi 1:=by rw[rangeSize_one];split<;>omega
    show IsRangeIter _ _ (lo+((0:Nat):Int) * 1) ((((hi - lo).toNat:Nat):Int) - ((0:Nat):Int)) 1;rw[e1,e2];exact Heap.get?_push_size _ rfl
  · have e:b=(s.heap.push { cls:=.type "range",data:=.fields #[.int lo t,.int hi u,.int 1 v] }).objs.size:=by simpa using hb
    subst e;exact I1.fpOk (Nat.le_refl _) (I1.hok.fresh (Nat.le_refl _))
noncomputable def iRng1(ta:TA):TI:=fun σ H R=>ta σ H fun vs H1=>∃ j:Int,vs=[.int j]∧-(2 ^ 62)≤j∧j < 2 ^ 62∧R (Itr 0 j.toNat) H1
noncomputable def iRng2(ta:TA):TI:=fun σ H R=>ta σ H fun vs H1=>∃ i j:Int,vs=[.int i,.int j]∧(-(2 ^ 62)≤i∧i < 2 ^ 62∧-(2 ^ 62)≤j∧j < 2 ^ 62)∧R (Itr i (j - i).toNat) H1
theorem pi_range1{a:Expr}{ta:TA}{p pos:Pos}(hg:Gl X "range")(hm:X.mg "range"=none)(ha:PA X [a] ta)(hs:starEach [a] X.env=[(false,eval a X.env)]:=by rfl):PI X tg (.Call (.Name "range" p) [a] [] pos) (iRng1 ta):=by
  intro pins s σ H R I h;refine Call_ (ld_blt I hg hm boot_range (PyProof.Rows.callWith_type1 (thn (ha pos pins s σ H _ I h) fun us s1 ⟨vs,H1,I1,r1,q1⟩=>?_) hs rfl))
  obtain⟨j,e,q1,q2,q⟩:=q1;subst e;cases r1 with
  |cons r rr=>
    cases rr;obtain⟨t,rfl⟩:=r;exact call_range_1 (range_it I1 (by omega) (by omega) q1 q2 (by simpa using q))
theorem pi_range2{a b:Expr}{ta:TA}{p pos:Pos}(hg:Gl X "range")(hm:X.mg "range"=none)(ha:PA X [a,b] ta)(hs:starEach [a,b] X.env=[(false,eval a X.env),(false,eval b X.env)]:=by rfl)(hs2:starEach [b] X.env=[(false,eval b X.env)]:=by rfl) :
    PI X tg (.Call (.Name "range" p) [a,b] [] pos) (iRng2 ta):=by
  intro pins s σ H R I h;refine Call_ (ld_blt I hg hm boot_range (PyProof.Rows.callWith_type1 (thn (ha pos pins s σ H _ I h) fun us s1 ⟨vs,H1,I1,r1,q1⟩=>?_) (by rw[hs,hs2]) (by rw[hs2];rfl)))
  obtain⟨i,j,e,⟨q1,q2,q3,q4⟩,q⟩:=q1;subst e;cases r1 with
  |cons r rr=>
    cases rr with
    |cons r' rr=>
      cases rr;obtain⟨t,rfl⟩:=r;obtain⟨t',rfl⟩:=r';exact call_range_2 (range_it I1 q1 q2 q3 q4 q)

noncomputable def tFor(wi:TI)(g:TG)(tb:TS):TS:=fun D σ H=>wi σ H fun J H1=>∃ W:Nat→Nat→St→Hp→Prop,(∃ m,W 0 m σ H1)∧∀ i m σ H,W i m σ H→
  (J.stop i H∧D.nx σ H)∨(J.go i H∧∃ N:St→Hp→Prop,(∀ σ' H',N σ' H'→∃ m',m' < m∧W (i+1) m' σ' H')∧∀ x H',J.yld i H x H'→g x σ H' fun σ2 H2=>tb { D with nx:=N,ct:=N,bk:=D.nx } σ2 H2)
noncomputable def pinsAt(fp:List Addr)(h:Heap):List (Addr×Obj):=fp.filterMap fun b=>(h.get? b).map fun o=>(b,o)
theorem mem_pinsAt{fp:List Addr}{h:Heap}{b:Addr}{o:Obj}(hb:b∈fp)(e:h.get? b=some o):(b,o)∈pinsAt fp h:=List.mem_filterMap.mpr ⟨b,hb,by rw[e];rfl⟩
theorem of_pinsAt{fp:List Addr}{h:Heap}{p:Addr×Obj}(hp:p∈pinsAt fp h):p.1∈fp∧h.get? p.1=some p.2:=by
  obtain⟨b,hb,e⟩:=List.mem_filterMap.mp hp;cases q:h.get? b with
  |none=>rw[q]at e;cases e
  |some o=>
    rw[q]at e;have e':(b,o)=p:=Option.some.inj e;subst e';exact⟨hb,q⟩
theorem Inv.pinned{pins:List (Addr×Obj)}{σ:St}{H:Hp}{s:Shared}{fp:List Addr}(I:Inv X pins σ H s)(hf:∀ b∈fp,FpOk X pins H b)(ho:∀ b∈fp,∃ o,s.heap.get? b=some o∧∀ v,o.data≠.cell v):Inv X (pins++pinsAt fp s.heap) σ H s:=
  I.pins_of fun p hp=>(List.mem_append.mp hp).elim (fun z=>I.pin p (List.mem_append_right _ z)) fun z=>by
    obtain⟨hb,e⟩:=of_pinsAt z;obtain⟨f0,f1,f2,_⟩:=hf p.1 hb;obtain⟨o,e',d⟩:=ho p.1 hb;rw[e]at e';cases e'
    exact⟨e,f0,f1,f2,d⟩
theorem Inv.unpinned{pins pl:List (Addr×Obj)}{σ:St}{H:Hp}{s:Shared}(I:Inv X (pins++pl) σ H s):Inv X pins σ H s:=I.pins_of fun p hp=>I.pin p (List.mem_append_right _ (List.mem_append_left _ hp))
theorem ps_for{iter:Expr}{body:List Stmt}{wi:TI}{g:TG}{tb:TS}{pos:Pos}(hp:PassesOwn (model X.prog X.w) X.A X.env X.xe)(hc:X.calm=true)(hi:PI X tg iter wi)(hg:PG X tg g)(hb:PSs X body tb)(hs:∀ x,foldedSetIterable iter X.env x=pure x:=by intro _;rfl):PS X (.For tg iter body [] pos) (tFor wi g tb):=by
  intro pins s σ H D I h;refine wpAny_For (thn (hi pins s σ H _ I h) fun v s1 h1=>thn h1 fun itv s2 h2=>?_) hs
  obtain⟨it,fp,tn,J,H2,e,I2,T,st2,f2,W,⟨m0,w0⟩,turn⟩:=h2;subst e
  -- what stays true of the iterator's objects through the loop
  have stat:∀ {H':Hp},(∀ b∈fp,H' b=none)→∀ b∈fp,FpOk X pins H' b:=fun hn b hb=>⟨hn b hb,(f2 b hb).2⟩
  refine codeAny_forLoop_any (fun n s'=>∃ i σ' H',Inv X pins σ' H' s'∧tn i s'.heap∧(∀ b∈fp,H' b=none)∧W i n σ' H') ?_ m0 ⟨0,σ,H2,I2,st2,fun b hb=>(f2 b hb).1,w0⟩
  rintro n s3 ⟨i,σ3,H3,I3,st3,fr3,w3⟩
  rcases turn i n σ3 H3 w3 with⟨stop,qn⟩|⟨go,N,hN,step⟩
  · refine wpAny_passesOwn hp (thn (T.done X rfl rfl rfl hc i pins s3 σ3 H3 X.xe I3 (stat fr3) st3 stop) fun r s4 ⟨hr,I4⟩=>?_)
    subst hr;exact wpAny_execs_nil ⟨σ3,H3,I4,qn⟩
  · refine wpAny_passesOwn hp (thn (T.item X rfl rfl rfl hc i pins s3 σ3 H3 X.xe I3 (stat fr3) st3 go) fun r s4 ⟨u,hr,h4⟩=>?_)
    subst hr;refine wpAny_passesOwn hp (thn h4 fun _ s5 ⟨x,H5,I5,r5,y5,st5,fr5⟩=>?_)
    have I5':=I5.pinned (stat fr5) (T.obj _ _ st5);refine wpAny_passesOwn hp (thn (hg _ s5 σ3 H5 x u _ I5' r5 (step x H5 y5)) fun _ s6 ⟨σ6,H6,I6,q6⟩=>?_)
    refine wpAny_passesOwn hp (thn (hb _ s6 σ6 H6 _ I6 q6) fun f s7 q7=>?_)
    have again:∀ {σ7:St}{H7:Hp},Inv X (pins++pinsAt fp s5.heap) σ7 H7 s7→N σ7 H7→∃ m,m < n∧∃ i σ' H',Inv X pins σ' H' s7∧tn i s7.heap∧(∀ b∈fp,H' b=none)∧W i m σ' H':=fun {σ7 H7} I7 n7=>by
      obtain⟨m',hm,w7⟩:=hN σ7 H7 n7;refine⟨m',hm,i+1,σ7,H7,I7.unpinned,T.keep _ _ _ st5 fun b hb o e=>(I7.pin (b,o) (List.mem_append_right _ (List.mem_append_right _ (mem_pinsAt hb e)))).1,fun b hb=>?_,w7⟩
      obtain⟨o,e,d⟩:=T.obj _ _ st5 b hb;exact(I7.pin (b,o) (List.mem_append_right _ (List.mem_append_right _ (mem_pinsAt hb e)))).2.1
    cases f with
    |next=>obtain⟨σ7,H7,I7,n7⟩:=q7;exact again I7 n7
    |cont=>obtain⟨σ7,H7,I7,n7⟩:=q7;exact again I7 n7
    |brk=>obtain⟨σ7,H7,I7,q7⟩:=q7;exact⟨σ7,H7,I7.unpinned,q7⟩
    |ret v=>obtain⟨x7,σ7,H7,I7,r7,q7⟩:=q7;exact⟨x7,σ7,H7,I7.unpinned,r7,q7⟩
end

theorem for_tup{K:PySem.W.Frag}{a:Addr}{xs:List V}{g:TG}{tb:TS}{D:Ends}{σ:St}{H:Hp}(Pv:Nat→St→Hp→Prop)(h0:Pv 0 σ H)(hl:∀ i σ H,i≤xs.length→Pv i σ H→SqT K H a xs)(hs:∀ i x σ H,xs[i]?=some x→Pv i σ H→g x σ H fun σ2 H2=>tb { D with nx:=Pv (i+1),ct:=Pv (i+1),bk:=D.nx } σ2 H2)(hd:∀ σ H,Pv xs.length σ H→D.nx σ H) :
    ∃ W:Nat→Nat→St→Hp→Prop,(∃ m,W 0 m σ H)∧∀ i m σ H,W i m σ H→
      ((Itt K a).stop i H∧D.nx σ H)∨((Itt K a).go i H∧∃ N:St→Hp→Prop,(∀ σ' H',N σ' H'→∃ m',m' < m∧W (i+1) m' σ' H')∧∀ x H',(Itt K a).yld i H x H'→g x σ H' fun σ2 H2=>tb { D with nx:=N,ct:=N,bk:=D.nx } σ2 H2):=by
  refine⟨fun i m σ H=>m=xs.length - i∧i≤xs.length∧Pv i σ H,⟨xs.length,by simp,Nat.zero_le _,h0⟩,?_⟩
  rintro i m σ H ⟨rfl,hi,p⟩
  have q:=hl i σ H hi p;by_cases hlt:i < xs.length
  · refine .inr ⟨⟨xs,xs[i],q,by simp[hlt]⟩,Pv (i+1),fun σ' H' p'=>⟨xs.length - (i+1),by omega,rfl,hlt,p'⟩,fun x H' y=>?_⟩
    obtain⟨e,y⟩:=y;subst e;exact hs i x σ _ (y xs q) p
  · have e:i=xs.length:=by omega
    subst e;exact .inl ⟨⟨xs,q,Nat.le_refl _⟩,hd σ H p⟩
theorem for_range{lo:Int}{n:Nat}{g:TG}{tb:TS}{D:Ends}{σ:St}{H:Hp}(Pv:Nat→St→Hp→Prop)(h0:Pv 0 σ H)(hs:∀ i σ H,i < n→Pv i σ H→g (.int (lo+i)) σ H fun σ2 H2=>tb { D with nx:=Pv (i+1),ct:=Pv (i+1),bk:=D.nx } σ2 H2)(hd:∀ σ H,Pv n σ H→D.nx σ H) :
    ∃ W:Nat→Nat→St→Hp→Prop,(∃ m,W 0 m σ H)∧∀ i m σ H,W i m σ H→
      ((Itr lo n).stop i H∧D.nx σ H)∨((Itr lo n).go i H∧∃ N:St→Hp→Prop,(∀ σ' H',N σ' H'→∃ m',m' < m∧W (i+1) m' σ' H')∧∀ x H',(Itr lo n).yld i H x H'→g x σ H' fun σ2 H2=>tb { D with nx:=N,ct:=N,bk:=D.nx } σ2 H2):=by
  refine⟨fun i m σ H=>m=n - i∧i≤n∧Pv i σ H,⟨n,by simp,Nat.zero_le _,h0⟩,?_⟩
  rintro i m σ H ⟨rfl,hi,p⟩
  by_cases hlt:i < n
  · refine .inr ⟨hlt,Pv (i+1),fun σ' H' p'=>⟨n - (i+1),by omega,rfl,hlt,p'⟩,fun x H' y=>?_⟩
    obtain⟨e,y⟩:=y;subst e y;exact hs i σ _ hlt p
  · have e:i=n:=by omega
    subst e;exact .inl ⟨Nat.le_refl _,hd σ H p⟩
end L2

namespace L2
open PySem PySem.Spec PyProof.Rows

abbrev R2:=V→V→Hp→VK→Prop
def OpR(X:Cx)(f:Value→Value→Sem Value)(r:R2):Prop:=
  ∀ (pins:List (Addr×Obj)) (s:Shared) (σ:St) (H:Hp) (x y:V) (v u:Value) (Q:VK),Inv X pins σ H s→RelV x v→RelV y u→r x y H Q→
    wpAny (model X.prog X.w) X.A (f v u) (EP X pins σ Q) X.xe s
def UnR(X:Cx)(f:Value→Sem Value)(r:V→Hp→VK→Prop):Prop:=
  ∀ (pins:List (Addr×Obj)) (s:Shared) (σ:St) (H:Hp) (x:V) (v:Value) (Q:VK),Inv X pins σ H s→RelV x v→r x H Q→
    wpAny (model X.prog X.w) X.A (f v) (EP X pins σ Q) X.xe s
def CallR(X:Cx)(f:Value)(r:List V→Hp→VK→Prop):Prop:=
  ∀ (pins:List (Addr×Obj)) (s:Shared) (σ:St) (H:Hp) (xs:List V) (us:List Value) (Q:VK),Inv X pins σ H s→Vals xs us→r xs H Q→
    wpAny (model X.prog X.w) X.A (call f us) (EP X pins σ Q) X.xe s

noncomputable def tOp(r:R2)(ta tb:TE):TE:=fun σ H Q=>ta σ H fun x H1=>tb σ H1 fun y H2=>r x y H2 Q
noncomputable def tUn(r:V→Hp→VK→Prop)(ta:TE):TE:=fun σ H Q=>ta σ H fun x H1=>r x H1 Q
noncomputable def rI(C:Int→Int→Prop)(g:Int→Int→V):R2:=fun x y H Q=>∃ i j,x=.int i∧y=.int j∧C i j∧Q (g i j) H
noncomputable def rI0(g:Int→Int→V):R2:=fun x y H Q=>∃ i j,x=.int i∧y=.int j∧Q (g i j) H
def rU(g:Int→V):V→Hp→VK→Prop:=fun x H Q=>∃ i,x=.int i∧Q (g i) H

section
variable {X:Cx}{a b c:Expr}{ta tb tc:TE}{pos:Pos}

theorem binT(ha:PE X a ta)(hb:PE X b tb){pins:List (Addr×Obj)}{s:Shared}{σ:St}{H:Hp}{R:V→V→Hp→Prop}(I:Inv X pins σ H s)(h:ta σ H fun x H1=>tb σ H1 fun y H2=>R x y H2){Q:Value→Shared→Prop}{f:Value→Value→Sem Value}(hf:∀ v u s2 x y H2,Inv X pins σ H2 s2→RelV x v→RelV y u→R x y H2→wpAny (model X.prog X.w) X.A (f v u) Q X.xe s2) :
    wpAny (model X.prog X.w) X.A (eval a X.env) (fun v s₁=>wpAny (model X.prog X.w) X.A (eval b X.env) (fun u s₂=>wpAny (model X.prog X.w) X.A (f v u) Q X.xe s₂) X.xe s₁) X.xe s:=by
  refine thn (ha pins s σ H _ I h) fun v s1 ⟨x,H1,I1,r1,q1⟩=>?_
  refine thn (hb pins s1 σ H1 _ I1 q1) fun u s2 ⟨y,H2,I2,r2,q2⟩=>?_
  exact hf v u s2 x y H2 I2 r1 r2 q2

theorem pe_op{op:Operator}{r:R2}(ho:OpR X (binaryOp op) r)(ha:PE X a ta)(hb:PE X b tb):PE X (.BinOp a op b pos) (tOp r ta tb):=by
  intro pins s σ H Q I h;exact wpAny_BinOp (binT ha hb I h fun v u s2 x y H2 I2 rx ry q=>ho pins s2 σ H2 x y v u Q I2 rx ry q)
theorem pe_un{op:UnaryOp}{r:V→Hp→VK→Prop}(ho:UnR X (unaryOp op) r)(ha:PE X a ta):PE X (.UnaryOp op a pos) (tUn r ta):=by
  intro pins s σ H Q I h;exact UnaryOp_ (thn (ha pins s σ H _ I h) fun v s1 ⟨x,H1,I1,r1,q1⟩=>ho pins s1 σ H1 x v Q I1 r1 q1)

theorem opI{f:Value→Value→Sem Value}{C:Int→Int→Prop}{g:Int→Int→Int}(rule:∀ (i j:Int) (t u:Tok) (s:Shared) (Q:Value→Shared→Prop) (E:Value→Shared→Prop),C i j→Q (.int (g i j) s.toks) { s with toks:=s.toks+1 }→wpAny (model X.prog X.w) X.A (f (.int i t) (.int j u)) Q E s) :
    OpR X f (rI C fun i j=>.int (g i j)):=by
  intro pins s σ H x y v u Q I rx ry h;obtain⟨i,j,rfl,rfl,hc,q⟩:=h;obtain⟨t,rfl⟩:=rx;obtain⟨t',rfl⟩:=ry;exact rule i j t t' s _ _ hc ⟨.int (g i j),H,I.tok _,⟨_,rfl⟩,q⟩
theorem opI0{f:Value→Value→Sem Value}{g:Int→Int→Int}(rule:∀ (i j:Int) (t u:Tok) (s:Shared) (Q:Value→Shared→Prop) (E:Value→Shared→Prop),Q (.int (g i j) s.toks) { s with toks:=s.toks+1 }→wpAny (model X.prog X.w) X.A (f (.int i t) (.int j u)) Q E s) :
    OpR X f (rI0 fun i j=>.int (g i j)):=by
  intro pins s σ H x y v u Q I rx ry h;obtain⟨i,j,rfl,rfl,q⟩:=h;obtain⟨t,rfl⟩:=rx;obtain⟨t',rfl⟩:=ry;exact rule i j t t' s _ _ ⟨.int (g i j),H,I.tok _,⟨_,rfl⟩,q⟩
theorem opB0{f:Value→Value→Sem Value}{g:Int→Int→Bool}(rule:∀ (i j:Int) (t u:Tok) (s:Shared) (Q:Value→Shared→Prop) (E:Value→Shared→Prop),Q (.bool (g i j)) s→wpAny (model X.prog X.w) X.A (f (.int i t) (.int j u)) Q E s) :
    OpR X f (rI0 fun i j=>.bl (g i j)):=by
  intro pins s σ H x y v u Q I rx ry h;obtain⟨i,j,rfl,rfl,q⟩:=h;obtain⟨t,rfl⟩:=rx;obtain⟨t',rfl⟩:=ry;exact rule i j t t' s _ _ ⟨.bl (g i j),H,I,rfl,q⟩

def CDiv(i j:Int):Prop:=0 < j∧j < 1073741824
def CDivN(i j:Int):Prop:=j≠0∧j.natAbs < 1073741824
def CPow(i j:Int):Prop:=0≤j∧j≤1000000∧i.natAbs < 2 ^ 64
def CMul(i j:Int):Prop:=(-(2 ^ 64) < i∧i < 2 ^ 64)∨(-(2 ^ 64) < j∧j < 2 ^ 64)
theorem CMul.ok{i j:Int}(h:CMul i j):IntMulOk i j:=by
  rcases h with⟨h1,h2⟩|⟨h1,h2⟩
  · exact .of_left (intBits_le_64 h1 h2)
  · exact .of_right (intBits_le_64 h1 h2)

theorem op_add:OpR X (binaryOp .Add) (rI0 fun i j=>.int (i+j)):=opI0 fun _ _ _ _ _ _ _ q=>add_int q
theorem op_sub:OpR X (binaryOp .Sub) (rI0 fun i j=>.int (i - j)):=opI0 fun _ _ _ _ _ _ _ q=>sub_int q
theorem op_mul:OpR X (binaryOp .Mult) (rI CMul fun i j=>.int (i * j)):=opI fun _ _ _ _ _ _ _ hc q=>mul_int q hc.ok
theorem op_fdiv:OpR X (binaryOp .FloorDiv) (rI CDiv fun i j=>.int (i / j)):=opI fun i j _ _ _ _ _ hc q=>by
  have h1:(0:Int) < j:=hc.1;have h2:j < 1073741824:=hc.2;exact floordiv_int (by omega) (by rw[Int.fdiv_eq_ediv_of_nonneg i (by omega)];exact q) (.inl (PyProof.noPylong_small (by omega)))
theorem op_fdivN:OpR X (binaryOp .FloorDiv) (rI CDivN fun i j=>.int (i.fdiv j)):=opI fun _ _ _ _ _ _ _ hc q=>floordiv_int hc.1 q (.inl (PyProof.noPylong_small hc.2))
theorem op_mod:OpR X (binaryOp .Mod) (rI (fun _ j=>0 < j) fun i j=>.int (i % j)):=opI fun i j _ _ _ _ _ hc q=>by
  have h1:(0:Int) < j:=hc;exact mod_int' (by omega) (by rw[Int.fmod_eq_emod_of_nonneg i (by omega)];exact q)
theorem op_modN:OpR X (binaryOp .Mod) (rI (fun _ j=>j≠0) fun i j=>.int (i.fmod j)):=opI fun _ _ _ _ _ _ _ hc q=>mod_int' hc q
theorem op_shl:OpR X (binaryOp .LShift) (rI CPow fun i j=>.int (i * 2 ^ j.toNat)):=opI fun _ _ _ _ _ _ _ hc q=>lshift_int_small hc.1 hc.2.1 hc.2.2 q


theorem unI{f:Value→Sem Value}{g:Int→Int}(rule:∀ (i:Int) (t:Tok) (s:Shared) (Q:Value→Shared→Prop) (E:Value→Shared→Prop),Q (.int (g i) s.toks) { s with toks:=s.toks+1 }→wpAny (model X.prog X.w) X.A (f (.int i t)) Q E s) :
    UnR X f (rU fun i=>.int (g i)):=by
  intro pins s σ H x v Q I rx h;obtain⟨i,rfl,q⟩:=h;obtain⟨t,rfl⟩:=rx;exact rule i t s _ _ ⟨.int (g i),H,I.tok _,⟨_,rfl⟩,q⟩
theorem un_neg:UnR X (unaryOp .USub) (rU fun i=>.int (-i)):=unI fun _ _ _ _ _ q=>neg_int q

end

noncomputable def scal:V→V→Bool
  |.non,.non=>true|.non,.int _=>true|.int _,.non=>true|.non,.bl _=>true|.bl _,.non=>true|.non,.str _=>true|.str _,.non=>true
  |.int _,.int _=>true|.bl _,.bl _=>true|.str _,.str _=>true|.byt _,.byt _=>true
  |.int _,.str _=>true|.str _,.int _=>true|.bl _,.str _=>true|.str _,.bl _=>true
  |_,_=>false
noncomputable def rEq:R2:=fun x y H Q=>scal x y=true∧Q (.bl (decide (x=y))) H
noncomputable def rNe:R2:=fun x y H Q=>scal x y=true∧Q (.bl (!decide (x=y))) H

theorem dec_int{i j:Int}:decide (V.int i=V.int j)=(i==j):=by
  rw[Bool.eq_iff_iff];simp
theorem dec_bl{i j:Bool}:decide (V.bl i=V.bl j)=(i==j):=by
  rw[Bool.eq_iff_iff];simp
theorem dec_str{i j:Str}:decide (V.str i=V.str j)=(i==j):=by
  rw[Bool.eq_iff_iff];simp
theorem dec_byt{i j:Array UInt8}:decide (V.byt i=V.byt j)=(i.toList==j.toList):=by
  rw[Bool.eq_iff_iff];cases i;cases j;simp

section
variable {X:Cx}{a b c:Expr}{ta tb tc:TE}{pos:Pos}
theorem fin_bl{pins:List (Addr×Obj)}{σ:St}{H:Hp}{s:Shared}{Q:VK}{k k':Bool}(I:Inv X pins σ H s)(q:Q (.bl k) H)(e:k=k'):EP X pins σ Q (.bool k') s:=by
  subst e;exact⟨.bl k,H,I,rfl,q⟩
theorem op_eq:OpR X (compareOp .Eq) rEq:=by
  intro pins s σ H x y v u Q I rx ry h;obtain⟨hs,q⟩:=h;cases x with
  |non=>
    cases rx;cases y with
    |non=>cases ry;exact PySem.EqNone.eq_none_none (fin_bl I q (by simp))
    |bl j=>cases ry;exact PySem.EqNone.eq_none_bool (fin_bl I q (by simp))
    |int j=>obtain⟨t',rfl⟩:=ry;exact PySem.EqNone.eq_none_int (fin_bl I q (by simp))
    |str j=>obtain⟨t',rfl⟩:=ry;exact PySem.EqNone.eq_none_str (fin_bl I q (by simp))
    |_=>exact absurd (show false=true from hs) Bool.false_ne_true
  |bl i=>
    cases rx;cases y with
    |non=>cases ry;exact PySem.EqNone.eq_bool_none (fin_bl I q (by simp))
    |bl j=>cases ry;exact eq_bool (fin_bl I q dec_bl)
    |str j=>obtain⟨t',rfl⟩:=ry;exact PySem.EqMixed.eq_bool_str (fin_bl I q (by simp))
    |_=>exact absurd (show false=true from hs) Bool.false_ne_true
  |int i=>
    obtain⟨t,rfl⟩:=rx;cases y with
    |non=>cases ry;exact PySem.EqNone.eq_int_none (fin_bl I q (by simp))
    |int j=>obtain⟨t',rfl⟩:=ry;exact eq_int (fin_bl I q dec_int)
    |str j=>obtain⟨t',rfl⟩:=ry;exact PySem.EqMixed.eq_int_str (fin_bl I q (by simp))
    |_=>exact absurd (show false=true from hs) Bool.false_ne_true
  |str i=>
    obtain⟨t,rfl⟩:=rx;cases y with
    |non=>cases ry;exact PySem.EqNone.eq_str_none (fin_bl I q (by simp))
    |bl j=>cases ry;exact PySem.EqMixed.eq_str_bool (fin_bl I q (by simp))
    |int j=>obtain⟨t',rfl⟩:=ry;exact PySem.EqMixed.eq_str_int (fin_bl I q (by simp))
    |str j=>obtain⟨t',rfl⟩:=ry;exact eq_str (fin_bl I q dec_str)
    |_=>exact absurd (show false=true from hs) Bool.false_ne_true
  |byt i=>
    obtain⟨t,rfl⟩:=rx;cases y with
    |byt j=>obtain⟨t',rfl⟩:=ry;exact PySem.W.eq_bytes (fin_bl I q dec_byt)
    |_=>exact absurd (show false=true from hs) Bool.false_ne_true
  |_=>cases y<;>exact absurd (show false=true from hs) Bool.false_ne_true
theorem op_ne:OpR X (compareOp .NotEq) rNe:=by
  intro pins s σ H x y v u Q I rx ry h;obtain⟨hs,q⟩:=h;cases x with
  |non=>
    cases rx;cases y with
    |non=>cases ry;exact PySem.EqNone.ne_none_none (fin_bl I q (by simp))
    |bl j=>cases ry;exact PySem.EqNone.ne_none_bool (fin_bl I q (by simp))
    |int j=>obtain⟨t',rfl⟩:=ry;exact PySem.EqNone.ne_none_int (fin_bl I q (by simp))
    |str j=>obtain⟨t',rfl⟩:=ry;exact PySem.EqNone.ne_none_str (fin_bl I q (by simp))
    |_=>exact absurd (show false=true from hs) Bool.false_ne_true
  |bl i=>
    cases rx;cases y with
    |non=>cases ry;exact PySem.EqNone.ne_bool_none (fin_bl I q (by simp))
    |bl j=>cases ry;exact ne_bool (fin_bl I q (congrArg not dec_bl))
    |str j=>obtain⟨t',rfl⟩:=ry;exact PySem.EqMixed.ne_bool_str (fin_bl I q (by simp))
    |_=>exact absurd (show false=true from hs) Bool.false_ne_true
  |int i=>
    obtain⟨t,rfl⟩:=rx;cases y with
    |non=>cases ry;exact PySem.EqNone.ne_int_none (fin_bl I q (by simp))
    |int j=>obtain⟨t',rfl⟩:=ry;exact ne_int (fin_bl I q (congrArg not dec_int))
    |str j=>obtain⟨t',rfl⟩:=ry;exact PySem.EqMixed.ne_int_str (fin_bl I q (by simp))
    |_=>exact absurd (show false=true from hs) Bool.false_ne_true
  |str i=>
    obtain⟨t,rfl⟩:=rx;cases y with
    |non=>cases ry;exact PySem.EqNone.ne_str_none (fin_bl I q (by simp))
    |bl j=>cases ry;exact PySem.EqMixed.ne_str_bool (fin_bl I q (by simp))
    |int j=>obtain⟨t',rfl⟩:=ry;exact PySem.EqMixed.ne_str_int (fin_bl I q (by simp))
    |str j=>obtain⟨t',rfl⟩:=ry;exact ne_str (fin_bl I q (congrArg not dec_str))
    |_=>exact absurd (show false=true from hs) Bool.false_ne_true
  |byt i=>
    obtain⟨t,rfl⟩:=rx;cases y with
    |byt j=>obtain⟨t',rfl⟩:=ry;exact PySem.W.ne_bytes (fin_bl I q (congrArg not dec_byt))
    |_=>exact absurd (show false=true from hs) Bool.false_ne_true
  |_=>cases y<;>exact absurd (show false=true from hs) Bool.false_ne_true

theorem op_lt:OpR X (compareOp .Lt) (rI0 fun i j=>.bl (decide (i < j))):=opB0 fun _ _ _ _ _ _ _ q=>lt_int q
theorem op_le:OpR X (compareOp .LtE) (rI0 fun i j=>.bl (decide (i≤j))):=opB0 fun _ _ _ _ _ _ _ q=>le_int q
theorem op_gt:OpR X (compareOp .Gt) (rI0 fun i j=>.bl (decide (j < i))):=opB0 fun _ _ _ _ _ _ _ q=>gt_int q
theorem op_ge:OpR X (compareOp .GtE) (rI0 fun i j=>.bl (decide (j≤i))):=opB0 fun _ _ _ _ _ _ _ q=>ge_int q
theorem op_in_str:OpR X (compareOp .In) (fun x y H Q=>∃ i j,x=.str i∧y=.str j∧Q (.bl (!(Builtin.Str.occurrences j i 0 j.length 1).isEmpty)) H):=by
  intro pins s σ H x y v u Q I rx ry h;obtain⟨i,j,rfl,rfl,q⟩:=h;obtain⟨t,rfl⟩:=rx;obtain⟨t',rfl⟩:=ry;exact in_str (fin_bl I q rfl)

theorem op_isN:OpR X (compareOp .Is) (fun x y H Q=>y=.non∧Q (.bl (decide (x=.non))) H):=by
  intro pins s σ H x y v u Q I rx ry h;obtain⟨rfl,q⟩:=h;cases ry;refine is_none_gen (fin_bl I q ?_);cases x<;>first
    | (cases rx;rfl)
    | (obtain⟨t,rfl⟩:=rx;rfl)
theorem op_notN:OpR X (compareOp .IsNot) (fun x y H Q=>y=.non∧Q (.bl (!decide (x=.non))) H):=by
  intro pins s σ H x y v u Q I rx ry h;obtain⟨rfl,q⟩:=h;cases ry;refine isnot_none_gen (fin_bl I q ?_);cases x<;>first
    | (cases rx;rfl)
    | (obtain⟨t,rfl⟩:=rx;rfl)



theorem pe_cmpR{op:CmpOp}{r:R2}(ho:OpR X (compareOp op) r)(ha:PE X a ta)(hb:PE X b tb)(hm:behindInMarks op b=false):PE X (.Compare a [op] [b] pos) (tOp r ta tb):=by
  intro pins s σ H Q I h;exact wpAny_Compare1 (binT ha hb I h fun v u s2 x y H2 I2 rx ry q=>ho pins s2 σ H2 x y v u Q I2 rx ry q) hm
noncomputable def tTest(t:TE):TT:=fun σ H Q=>t σ H fun x H'=>∃ k,x=.bl k∧Q k H'
theorem pt_cmpR{op:CmpOp}{r:R2}(ho:OpR X (compareOp op) r)(ha:PE X a ta)(hb:PE X b tb)(hm:behindInMarks op b=false):PT X (.Compare a [op] [b] pos) (tTest (tOp r ta tb)):=by
  intro pins s σ H Q I h;refine wpAny_isTrue_Compare1 (thn (ha pins s σ H _ I h) fun v s1 ⟨x,H1,I1,r1,q1⟩=>thn (hb pins s1 σ H1 _ I1 q1) fun u s2 ⟨y,H2,I2,r2,q2⟩=>
    thn (ho pins s2 σ H2 x y v u _ I2 r1 r2 q2) fun c s3 ⟨z,H3,I3,r3,k,e,q3⟩=>?_) hm
  subst e;cases r3;exact wpAny_truthy_bool ⟨H3,I3,q3⟩

theorem line63:(sizeLine:Nat) < 2 ^ 63:=by rw[sizeLine_eq];decide

theorem op_add_str:OpR X (binaryOp .Add) (fun x y H Q=>∃ i j,x=.str i∧y=.str j∧i.length+j.length≤sizeLine∧Q (.str (i++j)) H):=by
  intro pins s σ H x y v u Q I rx ry h;obtain⟨i,j,rfl,rfl,hz,q⟩:=h;obtain⟨t,rfl⟩:=rx;obtain⟨t',rfl⟩:=ry;exact add_str (fun t' tk=>⟨.str (i++j),H,I.tok _,⟨_,rfl⟩,q⟩) hz


theorem vals1{x:V}{us:List Value}(r:Vals [x] us):∃ u,us=[u]∧RelV x u:=by
  cases r with
  |cons r1 r2=>cases r2;exact⟨_,rfl,r1⟩
theorem vals2{x y:V}{us:List Value}(r:Vals [x,y] us):∃ u w',us=[u,w']∧RelV x u∧RelV y w':=by
  cases r with
  |cons r1 r2=>
    cases r2 with
    |cons r3 r4=>cases r4;exact⟨_,_,rfl,r1,r3⟩
theorem call_max2(hc:X.calm=true):CallR X (.builtin "max") (fun xs H Q=>∃ i j,xs=[.int i,.int j]∧Q (.int (if j > i then j else i)) H):=by
  intro pins s σ H xs us Q I r h;obtain⟨i,j,rfl,q⟩:=h;obtain⟨u,w',rfl,⟨t,rfl⟩,⟨t',rfl⟩⟩:=vals2 r;refine max_two_ints (I.ok.hd hc) fun h' tk k=>⟨_,H,I.kept k,?_,q⟩
  by_cases hj:j > i
  · rw[if_pos hj,if_pos hj];exact⟨_,rfl⟩
  · rw[if_neg hj,if_neg hj];exact⟨_,rfl⟩
theorem call_min2(hc:X.calm=true):CallR X (.builtin "min") (fun xs H Q=>∃ i j,xs=[.int i,.int j]∧Q (.int (if j < i then j else i)) H):=by
  intro pins s σ H xs us Q I r h;obtain⟨i,j,rfl,q⟩:=h;obtain⟨u,w',rfl,⟨t,rfl⟩,⟨t',rfl⟩⟩:=vals2 r;refine min_two_ints (I.ok.hd hc) fun h' tk k=>⟨_,H,I.kept k,?_,q⟩
  by_cases hj:j < i
  · rw[if_pos hj,if_pos hj];exact⟨_,rfl⟩
  · rw[if_neg hj,if_neg hj];exact⟨_,rfl⟩
def LenV(K:PySem.W.Frag)(x:V)(H:Hp)(n:Nat):Prop:=
  match x with
  |.str y=>y.length≤sizeLine∧n=y.length
  |.byt y=>y.size≤sizeLine∧n=y.size
  |.ref p=>(∃ xs,SqL K H p xs∧n=xs.length)∨∃ xs,SqT K H p xs∧n=xs.length
  |_=>False
theorem call_len:CallR X (.builtin "len") (fun xs H Q=>∃ x n,xs=[x]∧LenV X.K x H n∧Q (.int n) H):=by
  intro pins s σ H xs us Q I r h;obtain⟨x,n,rfl,e,q⟩:=h;obtain⟨u,rfl,rx⟩:=vals1 r;have hl:=line63;have hs:sizeLine=16777216:=sizeLine_eq;cases x with
  |str y=>
    obtain⟨t,rfl⟩:=rx;obtain⟨hy,e'⟩:y.length≤sizeLine∧n=y.length:=e;subst e';exact len_str (by omega) ⟨.int _,H,I.tok _,⟨_,rfl⟩,q⟩
  |byt y=>
    obtain⟨t,rfl⟩:=rx;obtain⟨hy,e'⟩:y.size≤sizeLine∧n=y.size:=e;subst e';exact PySem.W.len_bytes (by omega) ⟨.int _,H,I.tok _,⟨_,rfl⟩,q⟩
  |ref p=>
    cases rx;have e':(∃ xs,SqL X.K H p xs∧n=xs.length)∨∃ xs,SqT X.K H p xs∧n=xs.length:=e;rcases e' with⟨xs,hx,e'⟩|⟨xs,hx,e'⟩
    · subst e'
      obtain⟨its,r',pl,hz⟩:=I.list hx;have hlen:=r'.length;exact Calls.call_len_list pl.isList (by simp only[List.size_toArray];omega) ⟨.int xs.length,H,I.tok _,⟨_,by simp only[List.size_toArray];rw[hlen]⟩,q⟩
    · subst e'
      obtain⟨its,r',pl,hz⟩:=I.tuple hx;have hlen:=r'.length;exact len_tuple pl (by simp only[List.size_toArray];omega) ⟨.int xs.length,H,I.tok _,⟨_,by simp only[List.size_toArray];rw[hlen]⟩,q⟩
  |_=>exact(show False from e).elim
end
end L2

namespace L2
open PySem PySem.Spec PyProof.Rows

structure ObjM(h:Heap)(x dx C:Addr)(mA:Str→Option Value):Prop where
  obj:h.get? x=some (PySem.W.instObj C dx)
  ns:h.Ns1 dx mA
  ne:dx≠x

theorem lookIn_ns{h:Heap}{dx:Addr}{mA:Str→Option Value}(n:h.Ns1 dx mA):∃ od,h.get? dx=some od∧∀ name,PySem.W.lookIn name od=some (mA name):=by
  obtain⟨o,es,ep,ho,hd,hk,_,hm⟩:=n;refine⟨o,ho,fun name=>?_⟩
  have e:=hm name;unfold nsFind findBy at e;rw[←Array.find?_toList]at e;unfold PySem.W.lookIn;rw[hd];dsimp only;split
  · rename_i y q
    rw[q]at e;exact congrArg some e
  · rename_i q
    rw[q]at e;have a:es.toList.any (·.refKey)=false:=by
      rw[List.any_eq_false];intro y hy;obtain⟨z,t,hkey⟩:=hk y (Array.mem_toList_iff.mp hy);simp[DictEntry.refKey,hkey]
    have a':¬es.toList.any (·.refKey)=true:=by rw[a];exact Bool.false_ne_true
    rw[if_neg a'];exact congrArg some e

theorem ObjM.look{h:Heap}{x dx C:Addr}{mA:Str→Option Value}(I:ObjM h x dx C mA):∃ od,PySem.W.InstAt h x (PySem.W.instObj C dx) C (some od)∧∀ name,PySem.W.lookIn name od=some (mA name):=
  let ⟨od,ho,hl⟩:=lookIn_ns I.ns
  ⟨od,⟨I.obj,rfl,rfl,ho⟩,hl⟩

section
variable {prog:Program}{w:World}{A:Around}{E:Value→Shared→Prop}{s:Shared}{K:PySem.W.Frag}{x dx C f:Addr}{mA:Str→Option Value}{name:Str}{v:Value}



theorem get_meth{pl:Sem Bool}{Q:Value×List Value→Shared→Prop}(X:K.In s.heap)(I:ObjM s.heap x dx C mA)(hg:PySem.W.plainGet K C name=true)(hf:PySem.W.findIn K (.ref C) name=some (some (.ref f)))(ht:PySem.W.isFn K (.ref f)=true)(hv:mA name=none)(h:Q (.ref f,[.ref x]) s) :
    wpAny (model prog w) A (getMethod (.ref x) name pl) Q E s:=by
  obtain⟨od,J,hl⟩:=I.look;exact PySem.W.method_fn X J (PySem.W.plainGet_of hg).1 (PySem.W.plainGet_of hg).2 hf (beq_iff_eq.mp ht) (by show(PySem.W.lookIn name od).map (·.isSome)=some false;rw[hl,hv];rfl) h


end


theorem RelO.some_of{v:V}{o:Option Value}(r:RelO (some v) o):∃ u,o=some u∧RelV v u:=by
  cases o with
  |none=>exact(show False from r).elim
  |some u=>exact⟨u,rfl,r⟩
theorem RelO.none_of{o:Option Value}(r:RelO none o):o=none:=by
  cases o with
  |none=>rfl
  |some u=>exact(show False from r).elim
theorem handed_of{v:V}{u:Value}(r:RelV v u):PySem.W.handedIn u=true:=by
  cases v with
  |non=>cases (show u=Value.none from r);rfl
  |bl b=>cases (show u=Value.bool b from r);rfl
  |int i=>obtain⟨t,e⟩:=(show ∃ t,u=Value.int i t from r);cases e;rfl
  |str x=>obtain⟨t,e⟩:=(show ∃ t,u=Value.str x t from r);cases e;rfl
  |byt b=>obtain⟨t,e⟩:=(show ∃ t,u=Value.bytes b t from r);cases e;rfl
  |flt b=>obtain⟨t,e⟩:=(show ∃ t,u=Value.float b t from r);cases e;rfl
  |ref a=>cases (show u=Value.ref a from r);rfl
  |ty n=>cases (show u=Value.type n from r);rfl

section
variable {P:Program}{w:World}{H H':Hp}{h h':Heap}{a C dx:Addr}{fs fs':List (Str×V)}
theorem ins_get(hok:HOk P w H h)(e:H a=some (.ins C dx fs)):∃ mA,ObjM h a dx C mA∧(∀ f,RelO (fs.lookup f) (mA f))∧PySem.Within mA (fs.map (·.1))∧fs.length≤1000∧H dx=some (.own a):=by
  obtain⟨d,z,ne,ob,mA,n,r,q⟩:=(show ObjOk P w H h a (.ins C dx fs) from hok a _ e);exact⟨mA,⟨ob,n,ne⟩,r,q,z,d⟩
end

structure Cls(K:PySem.W.Frag)(C:Addr):Prop where
  pg:PySem.W.plainGet K C Str.empty=true
  hd:PySem.W.hasDictIn K C=true
  po:PySem.W.plainOver K C=true
  sa:PySem.W.findIn K (.ref C) "__setattr__"=some (some (.builtin "object.__setattr__"))
theorem Cls.get{K:PySem.W.Frag}{C:Addr}(c:Cls K C)(f:Str):PySem.W.plainGet K C f=true:=c.pg
structure Con(K:PySem.W.Frag)(C:Addr)(f:Str)(v:V)(u:Value):Prop where
  at_:PySem.W.findIn K (.ref C) f=some (some u)
  rel:RelV v u
  get:PySem.W.specialIn K u "__get__"=some none
  cp:PySem.W.copiedNames.contains f=false
structure Meth(K:PySem.W.Frag)(C:Addr)(m:Str)(f:Addr):Prop where
  at_:PySem.W.findIn K (.ref C) m=some (some (.ref f))
  fn:PySem.W.isFn K (.ref f)=true
  kp:PySem.W.keepIn K (.ref f)=true

section
variable {X:Cx}{pins:List (Addr×Obj)}{σ:St}{H:Hp}{s:Shared}{a C dx:Addr}{fs:List (Str×V)}{f:Str}{v:V}{A:Around}{E:Value→Shared→Prop}



theorem getmeth_ok{m:Str}{g:Addr}{pl:Sem Bool}{Q:Value×List Value→Shared→Prop}(I:Inv X pins σ H s)(e:H a=some (.ins C dx fs))(c:Cls X.K C)(k:Meth X.K C m g)(l:fs.lookup m=none)(h:Q (.ref g,[.ref a]) s):wpAny (model X.prog X.w) A (getMethod (.ref a) m pl) Q E s:=by
  obtain⟨mA,O,r,_,_,_⟩:=ins_get I.hok e;have hn:mA m=none:=RelO.none_of (by rw[←l];exact r m)
  exact get_meth I.kIn O (c.get m) k.at_ k.fn hn h


theorem Inv.made(I:Inv X pins σ H s):Inv X pins σ (upd (upd H s.heap.objs.size (.own (s.heap.objs.size+1))) (s.heap.objs.size+1) (.ins C s.heap.objs.size []))
    { s with heap:=(s.heap.push PySem.W.emptyDict).push (PySem.W.instObj C s.heap.objs.size) }:=by
  have e1:(s.heap.push PySem.W.emptyDict).get? s.heap.objs.size=some PySem.W.emptyDict:=Heap.get?_push_size s.heap rfl;have e2:((s.heap.push PySem.W.emptyDict).push (PySem.W.instObj C s.heap.objs.size)).get? (s.heap.objs.size+1)=some (PySem.W.instObj C s.heap.objs.size):=by
    have:=Heap.get?_push_size (s.heap.push PySem.W.emptyDict) (o:=PySem.W.instObj C s.heap.objs.size) rfl
    rwa [Heap.size_push]at this
  have e3:(s.heap.push PySem.W.emptyDict).Ns s.heap.objs.size (fun _=>none):=⟨PySem.W.emptyDict,#[],_,e1,rfl,(fun e he=>absurd he (by simp)),fun _=>rfl⟩
  have I1:=I.laid (a:=s.heap.objs.size) (o:=.own (s.heap.objs.size+1)) (h':=s.heap.push PySem.W.emptyDict) (t':=s.toks) (fun b u q=>Heap.get?_push_of_some _ q) (Nat.le_refl _) ⟨_,e1⟩
  refine I1.laid (a:=s.heap.objs.size+1) (o:=.ins C s.heap.objs.size []) (t':=s.toks) (fun b u q=>Heap.get?_push_of_some _ q) (Nat.le_of_eq (Heap.size_push _ _)) ?_
  have ne:s.heap.objs.size≠s.heap.objs.size+1:=Nat.ne_of_lt (Nat.lt_succ_self _);refine⟨by rw[upd_ne ne,upd_same],Nat.zero_le _,ne,e2,fun _=>none,(Heap.Ns1.of_empty e3).at fun o q=>Heap.get?_push_of_some _ q,fun _=>True.intro,fun y hy=>absurd rfl hy⟩

theorem attr_of{prog:Program}{w:World}{env:Env}{e:Expr}{f:Str}{pos:Pos}{s:Shared}{Q:Value→Shared→Prop}(hb:attributeBase e f env (eval e env)=eval e env)(h:wpAny (model prog w) A (eval e env) (fun o s₁=>wpAny (model prog w) A (getAttr o f true) Q E s₁) E s):wpAny (model prog w) A (eval (.Attribute e f pos) env) Q E s:=
  Attribute_any_ h (by rw[arm_eval_Attribute,hb])
end


section
variable {X:Cx}{o e value:Expr}{f:Str}{pos pos' tpos:Pos}{ta tv:TE}

end

section
variable {X:Cx}{pins:List (Addr×Obj)}{σ:St}{H:Hp}{s:Shared}{A:Around}{E:Value→Shared→Prop}{Q:Value→Shared→Prop}{c:Value}{b:Bool}
inductive TyOf(K:PySem.W.Frag)(H:Hp):V→Value→Prop where
  |non:TyOf K H .non (.type "NoneType")
  |bl (x:Bool):TyOf K H (.bl x) (.type "bool")
  |int (i:Int):TyOf K H (.int i) (.type "int")
  |str (x:Str):TyOf K H (.str x) (.type "str")
  |flt (x:UInt64):TyOf K H (.flt x) (.type "float")
  |lst {a:Addr}{xs:List V} (e:H a=some (.lst xs)):TyOf K H (.ref a) (.type "list")
  |frz {a:Addr}{o:Obj}{xs:List V} (e:H a=some (.frz o (.lst xs))):TyOf K H (.ref a) (.type "list")
  |tup {a:Addr}{xs:List V} (e:H a=some (.tup xs)):TyOf K H (.ref a) (.type "tuple")
  |dK {a:Addr}{kvs:List (Key×V)} (e:H a=some (.dK kvs)):TyOf K H (.ref a) (.type "dict")
  |dT {a:Addr}{kvs:List (List Key×V)} (e:H a=some (.dT kvs)):TyOf K H (.ref a) (.type "dict")
  |ins {a C dx:Addr}{fs:List (Str×V)} (e:H a=some (.ins C dx fs)) (cl:Cls K C) (ha:PySem.W.findIn K (.ref C) "__class__"=some (some (.builtin "object.__class__")))
      (hn:PySem.W.specialIn K (.builtin "object.__class__") "__get__"=some (some (.builtin "getset_descriptor.__get__"))) (htk:PySem.W.takesIn K (.builtin "object.__class__")=some true)
      (hm:PySem.W.mroIn K C (.type "object")=some true):TyOf K H (.ref a) (.ref C)
theorem isinst_ok{x:V}{u t:Value}(I:Inv X pins σ H s)(rx:RelV x u)(ty:TyOf X.K H x t)(e:PySem.W.kitOne X.K t c=some b)(h:∀ tk,Q (.bool b) { s with toks:=tk }) :
    wpAny (model X.prog X.w) A (call (.builtin "isinstance") [u,c]) Q E s:=by
  cases ty with
  |non=>cases (show u=Value.none from rx);exact PySem.W.kia_one PySem.W.kitx_none I.kIn True.intro e (fun z=>nomatch z) h
  |bl y=>cases (show u=Value.bool y from rx);exact PySem.W.kia_one PySem.W.kitx_bool I.kIn True.intro e (fun z=>nomatch z) h
  |int i=>obtain⟨t,q⟩:=(show ∃ t,u=Value.int i t from rx);cases q;exact PySem.W.kia_one PySem.W.kitx_int I.kIn True.intro e (fun z=>nomatch z) h
  |str y=>obtain⟨t,q⟩:=(show ∃ t,u=Value.str y t from rx);cases q;exact PySem.W.kia_one PySem.W.kitx_str I.kIn True.intro e (fun z=>nomatch z) h
  |flt y=>obtain⟨t,q⟩:=(show ∃ t,u=Value.float y t from rx);cases q;exact PySem.W.kia_one PySem.W.kitx_float I.kIn True.intro e (fun z=>nomatch z) h
  |@lst a xs ea=>
    cases (show u=Value.ref a from rx)
    obtain⟨_,_,n,_,h1⟩:=(show ObjOk X.prog X.w H s.heap a (.lst xs) from I.hok a _ ea);exact PySem.W.kia_one PySem.W.kitx_list I.kIn ⟨_,h1,rfl⟩ e (fun z=>nomatch z) h
  |@frz a ob xs ea=>
    cases (show u=Value.ref a from rx)
    obtain⟨_,_,_,n,_,h1⟩:=(show ObjOk X.prog X.w H s.heap a (.frz ob (.lst xs)) from I.hok a _ ea);exact PySem.W.kia_one PySem.W.kitx_list I.kIn ⟨_,h1,rfl⟩ e (fun z=>nomatch z) h
  |@tup a xs ea=>
    cases (show u=Value.ref a from rx)
    obtain⟨_,_,_,p⟩:=(show ObjOk X.prog X.w H s.heap a (.tup xs) from I.hok a _ ea);obtain⟨o,h1,h2,_⟩:=p;exact PySem.W.kia_one PySem.W.kitx_tuple I.kIn ⟨o,h1,h2⟩ e (fun z=>nomatch z) h
  |@dK a kvs ea=>
    cases (show u=Value.ref a from rx)
    obtain⟨_,_,vs,_,p⟩:=(show ObjOk X.prog X.w H s.heap a (.dK kvs) from I.hok a _ ea);obtain⟨o,es,ep,h1,h2,_⟩:=p;exact PySem.W.kia_one PySem.W.kitx_dict I.kIn ⟨o,h1,h2.1⟩ e (fun z=>nomatch z) h
  |@dT a kvs ea=>
    cases (show u=Value.ref a from rx)
    obtain⟨_,_,xs,_,o,es,ep,h1,h2,_⟩:=(show ObjOk X.prog X.w H s.heap a (.dT kvs) from I.hok a _ ea);exact PySem.W.kia_one PySem.W.kitx_dict I.kIn ⟨o,h1,h2.1⟩ e (fun z=>nomatch z) h
  |@ins a C dx fs ea cl ha hn htk hm=>
    cases (show u=Value.ref a from rx)
    obtain⟨mA,O,_⟩:=ins_get I.hok ea;obtain⟨od,J,_⟩:=O.look;exact PySem.W.kia_one (PySem.W.kitx_own (cl.get _) cl.hd ha hn htk hm) I.kIn J e (fun z=>nomatch z) h
end
end L2

namespace L2
open PySem PySem.Spec PyProof.Rows

structure Room(k:Nat)(A:Around):Prop where
  hd:A.handled=none
  dp:A.depth+3 * k+5 < recursionLimit
  un:A.units+16 * k+200 < cLine
theorem Room.mono{j k:Nat}{A:Around}(r:Room k A)(h:j≤k):Room j A:=⟨r.hd,by have:=r.dp;omega,by have:=r.un;omega⟩
theorem Room.deeper{k:Nat}{A:Around}(r:Room (k+1) A)(env:Env):Room k (A.deeper env):=
  ⟨r.hd,by have:=r.dp;show A.depth+1+3 * k+5 < _;omega,by have:=r.un;show A.units+3+16 * k+200 < _;omega⟩
theorem make_depth{A:Around}{C:Addr}{us:List Value}{kw:List (Str×Value)}:(A.under (.builtin "type.__call__" ⟨.ref C :: us,kw⟩)).depth=A.depth+1:=by
  first|rfl|simp[Around.under,Code.weight,Code.isCreation,Code.isGuard,Code.isCaller,Code.frames,Code.isFrame,guardIds]
theorem make_units{A:Around}{C:Addr}{us:List Value}{kw:List (Str×Value)}:(A.under (.builtin "type.__call__" ⟨.ref C :: us,kw⟩)).units=A.units+1:=by
  first|rfl|simp[Around.under,Code.cUnits,Code.frames,Code.isFrame]
theorem Room.make{k:Nat}{A:Around}(r:Room (k+1) A)(C:Addr)(us:List Value)(kw:List (Str×Value)):Room k (A.under (.builtin "type.__call__" ⟨.ref C :: us,kw⟩)):=
  ⟨r.hd,by have:=r.dp;rw[make_depth];omega,by have:=r.un;rw[make_units];omega⟩
theorem Room.depth{k:Nat}{A:Around}(r:Room k A):A.depth < recursionLimit:=by have:=r.dp;omega
theorem Room.units{k:Nat}{A:Around}(r:Room k A):A.units+64 < cLine:=by have:=r.un;omega
theorem Room.units0{k:Nat}{A:Around}(r:Room k A):A.units < cLine:=by have:=r.un;omega

noncomputable def tNil:TA:=fun _ H Q=>Q [] H
noncomputable def tCons(ta:TE)(tr:TA):TA:=fun σ H Q=>ta σ H fun x H1=>tr σ H1 fun xs H2=>Q (x :: xs) H2
section
variable {X:Cx}{e:Expr}{es:List Expr}{te:TE}{t:TA}{pos:Pos}
theorem pa_nil:PA X [] tNil:=fun _ _ _ _ H Q I h=>Calls.spliced_nil ⟨[],H,I,.nil,h⟩
theorem pa_cons(ha:PE X e te)(hr:PA X es t)(hs:starEach (e :: es) X.env=(false,eval e X.env) :: starEach es X.env:=by rfl):PA X (e :: es) (tCons te t):=by
  intro pos pins s σ H Q I h;rw[hs];show wpAny _ _ (spliced ((false,eval e X.env) :: backTo pos (starEach es X.env))) _ _ s;refine Calls.spliced_cons (thn (ha pins s σ H _ I h) fun u s1 ⟨x,H1,I1,r1,q1⟩=>?_)
  exact thn (hr pos pins s1 σ H1 _ I1 q1) fun us s2 ⟨xs,H2,I2,r2,q2⟩=>⟨x :: xs,H2,I2,.cons r1 r2,q2⟩

noncomputable def tTup(t:TA):TE:=fun σ H Q=>t σ H fun xs H1=>xs.length≤sizeLine∧∀ p,H1 p=none→Q (.ref p) (upd H1 p (.tup xs))
noncomputable def tLst(t:TA):TE:=fun σ H Q=>t σ H fun xs H1=>xs.length≤sizeLine∧∀ p,H1 p=none→Q (.ref p) (upd H1 p (.lst xs))
theorem pe_tup{x1}(h:PA X es t):PE X (.Tuple es x1 pos) (tTup t):=by
  intro pins s σ H Q I hq;refine wpAny_Tuple_spliced (thn (h pos pins s σ H _ I hq) fun us s1 ⟨xs,H1,I1,r,z,q⟩=>⟨by rw[←r.length];exact z,?_⟩)
  have hf:H1 s1.heap.objs.size=none:=I1.hok.fresh (Nat.le_refl _);refine⟨.ref s1.heap.objs.size,upd H1 s1.heap.objs.size (.tup xs),I1.laid (t':=s1.toks) (fun b u e=>Heap.get?_push_of_some _ e) (Nat.le_refl _) ?_,rfl,q _ hf⟩
  exact⟨z,us,r,⟨_,Heap.get?_push_size _ rfl,rfl,_,rfl⟩⟩
theorem pe_lst(h:PA X es t):PE X (.List es pos) (tLst t):=by
  intro pins s σ H Q I hq;refine wpAny_List_spliced (thn (h pos pins s σ H _ I hq) fun us s1 ⟨xs,H1,I1,r,z,q⟩=>⟨by rw[←r.length];exact z,?_⟩)
  have hf:H1 s1.heap.objs.size=none:=I1.hok.fresh (Nat.le_refl _);refine⟨.ref s1.heap.objs.size,upd H1 s1.heap.objs.size (.lst xs),I1.laid (t':=s1.toks) (fun b u e=>Heap.get?_push_of_some _ e) (Nat.le_refl _) ?_,rfl,q _ hf⟩
  exact⟨z,us,0,r,Heap.get?_push_size _ rfl⟩
end

abbrev Sp:=List V→Hp→VK→XK→Prop
abbrev CXT:=List Env→Hp→Shared→XK→Value→Shared→Prop

structure Env0(P:Program)(w:World)(K:PySem.W.Frag)(mg:Str→Option Value)(base:Heap)(A:Around)(outer:List Env)(s:Shared)(H:Hp):Prop where
  frames:A.frames=some outer
  mod:Mod K mg base
  bs:∀ b o,base.get? b=some o→s.heap.get? b=some o∧H b=none
  bsz:base.objs.size≤s.heap.objs.size
  funs:s.heap.FunFrames base outer
  frf:∀ b∈frs outer,H b=none
  hok:HOk P w H s.heap
  bare:AllBare s.gens
def CE(outer:List Env)(P:Program)(w:World)(H:Hp)(s:Shared)(Q:VK)(u:Value)(s':Shared):Prop:=
  ∃ v H',s'.os=s.os∧AllBare s'.gens∧Un (frs outer) [] H H' s.heap s'.heap∧HOk P w H' s'.heap∧RelV v u∧Q v H'
def CR(CX:CXT)(outer:List Env)(P:Program)(w:World)(H:Hp)(s:Shared)(Q:VK)(E:XK)(r:Result)(s':Shared):Prop:=
  match r with
  |.ok (.ret u)=>CE outer P w H s Q u s'
  |.ok _=>False
  |.error e=>CX outer H s E e s'
structure FnOk(P:Program)(w:World)(K:PySem.W.Frag)(mg:Str→Option Value)(base:Heap)(CX:CXT)(k:Nat)(f:Addr)(fd:FuncData)(ps:List Str)(sp:Sp):Prop where
  len:∀ vs H Q E,sp vs H Q E→vs.length=ps.length
  run:∀ (A:Around) (outer:List Env) (s:Shared) (H:Hp) (args:Args) (us:List Value) (vs:List V) (Q:VK) (E:XK),Room k A→Env0 P w K mg base A outer s H→BindsTo s fd args (ps.zip us)→Vals vs us→sp vs H Q E→
    codeAny (model P w) A (.call (.ref f) args) (CR CX outer P w H s Q E) s

theorem Env0.make{P:Program}{w:World}{K:PySem.W.Frag}{mg:Str→Option Value}{base:Heap}{A:Around}{outer:List Env}{s:Shared}{H:Hp}(e:Env0 P w K mg base A outer s H)(C:Addr)(us:List Value)(kw:List (Str×Value)) :
    Env0 P w K mg base (A.under (.builtin "type.__call__" ⟨.ref C :: us,kw⟩)) outer s H:=⟨by first|exact e.frames | (simpa[Around.under,Code.envs,Code.isFrame,pushEnvs] using e.frames),e.mod,e.bs,e.bsz,e.funs,e.frf,e.hok,e.bare⟩

section
variable {X:Cx}{pins:List (Addr×Obj)}{σ:St}{H:Hp}{s s':Shared}
theorem Inv.env0(I:Inv X pins σ H s):Env0 X.prog X.w X.K X.mg X.base X.A X.stack s H:=
  ⟨I.ok.frames,I.ok.mod,I.bs,Nat.le_trans I.ok.bsz I.sz,I.stack,I.stkFree,I.hok,I.bare⟩
theorem Inv.after{Q:VK}{u:Value}(I:Inv X pins σ H s)(h:CE X.stack X.prog X.w H s Q u s'):EP X pins σ Q u s':=by
  obtain⟨v,H',os,bare,un,hok,r,q⟩:=h;obtain⟨hh,g,d,t,os'⟩:=s';obtain rfl:os'=s.os:=os;exact⟨v,H',I.call (h':=hh) (g':=g) (d':=d) (t':=t) (ch:=[]) un hok bare (fun b z=>absurd z (by simp)),r,q⟩
end

noncomputable def tCall(sp:Sp)(dvs:List V)(E:XK)(t:TA):TE:=fun σ H Q=>t σ H fun vs H1=>sp (vs++dvs) H1 Q E

def Binds(K:PySem.W.Frag)(fd:FuncData)(ps:List Str)(ds:List Value):Prop:=
  ∀ (s:Shared) (us:List Value),K.In s.heap→(us++ds).length=ps.length→BindsTo s fd ⟨us,[]⟩ (ps.zip (us++ds))
theorem Binds.all{K:PySem.W.Frag}{fd:FuncData}{ps:List Str}(h:∀ us:List Value,us.length=ps.length→bindArgs fd ⟨us,[]⟩=pure (ps.zip us)):Binds K fd ps []:=fun s us _ hl=>by
  rw[List.append_nil]at hl ⊢;exact .of_eq (h us hl)

def Passes(CX:CXT)(X:Cx)(E:XK):Prop:=∀ (pins:List (Addr×Obj)) (σ:St) (H:Hp) (s:Shared) (e:Value) (s':Shared),Inv X pins σ H s→CX X.stack H s E e s'→X.xe e s'

section
variable {X:Cx}{CX:CXT}{k:Nat}{f C:Addr}{fd:FuncData}{ps:List Str}{sp:Sp}{dvs:List V}{ds:List Value}{E:XK}{x m:Str}{p pos apos:Pos}{e o:Expr}{es:List Expr}{ta:TE}{t:TA}

theorem run_fn{pins:List (Addr×Obj)}{σ:St}{H:Hp}{s:Shared}{Q:VK}{us:List Value}{vs:List V}(F:FnOk X.prog X.w X.K X.mg X.base CX k f fd ps sp)(hr:Room k X.A)(hb:Binds X.K fd ps ds)(hd:Vals dvs ds)(hx:Passes CX X E)(I:Inv X pins σ H s)(r:Vals vs us)(h:sp (vs++dvs) H Q E):wpAny (model X.prog X.w) X.A (call (.ref f) us) (EP X pins σ Q) X.xe s:=by
  have r2:Vals (vs++dvs) (us++ds):=r.append hd;have hl:(us++ds).length=ps.length:=by rw[←r2.length];exact F.len _ _ _ _ h
  refine wpAny_call (codeAny_mono (F.run X.A X.stack s H ⟨us,[]⟩ (us++ds) (vs++dvs) Q E hr I.env0 (hb s us I.kIn hl) r2 h) fun r s' hq=>?_)
  cases r with
  |error e=>exact hx pins σ H s e s' I hq
  |ok fl=>
    cases fl with
    |ret u=>exact I.after hq
    |next=>exact False.elim hq
    |brk=>exact False.elim hq
    |cont=>exact False.elim hq

theorem pe_call(F:FnOk X.prog X.w X.K X.mg X.base CX k f fd ps sp)(hr:Room k X.A)(hg:Gl X x)(hm:X.mg x=some (.ref f))(hk:PySem.W.keepIn X.K (.ref f)=true)(hb:Binds X.K fd ps ds)(hd:Vals dvs ds)(hx:Passes CX X E)(ha:PA X (e :: es) t)(hdb:(x==("__debug__":Str))=false:=by decide)(he:starEach (e :: es) X.env=(false,eval e X.env) :: starEach es X.env:=by rfl)(hpl:(backTo pos (starEach es X.env)).any (·.1)=false:=by rfl) :
    PE X (.Call (.Name x p) (e :: es) [] pos) (tCall sp dvs E t):=by
  intro pins s σ H Q I h;refine wpAny_Call_Name_kw (ld_glob I hg hm ?_ hdb);refine PySem.W.callWith_K (h₀:=X.base) I.ok.mod.kin hk (thn (ha pos pins s σ H _ I h) fun us s1 ⟨vs,H1,I1,r,q⟩=>⟨I1.kIn,?_⟩) he hpl
  exact run_fn F hr hb hd hx I1 r q
theorem pe_call0(F:FnOk X.prog X.w X.K X.mg X.base CX k f fd ps sp)(hr:Room k X.A)(hg:Gl X x)(hm:X.mg x=some (.ref f))(hk:PySem.W.keepIn X.K (.ref f)=true)(hb:Binds X.K fd ps ds)(hd:Vals dvs ds)(hx:Passes CX X E)(hdb:(x==("__debug__":Str))=false:=by decide):PE X (.Call (.Name x p) [] [] pos) (tCall sp dvs E tNil):=by
  intro pins s σ H Q I h;refine wpAny_Call_Name_kw (ld_glob I hg hm ?_ hdb);exact PySem.W.callWith_K0 I.kIn hk (run_fn (us:=[]) F hr hb hd hx I .nil h)


structure Mk(K:PySem.W.Frag)(C f:Addr):Prop where
  makes:PySem.W.makesIn K C=true
  init:PySem.W.findIn K (.ref C) "__init__"=some (some (.ref f))
  fn:PySem.W.isFn K (.ref f)=true
  kp:PySem.W.keepIn K (.ref C)=true

end

section
variable {X:Cx}{CX:CXT}{k:Nat}{f C:Addr}{fd:FuncData}{ps ks:List Str}{sp:Sp}{E:XK}{x m:Str}{p pos apos kpos:Pos}{e o:Expr}{es:List Expr}{kws:List Keyword}{te ta:TE}{t tk:TA}{nm:Option Str}

structure KBinds(K:PySem.W.Frag)(fd:FuncData)(ps ks:List Str)(g:List Value→List Value→List Value)(gV:List V→List V→List V):Prop where
  to:∀ (s:Shared) (us ws:List Value),K.In s.heap→(g us ws).length=ps.length→BindsTo s fd ⟨us,ks.zip ws⟩ (ps.zip (g us ws))
  rel:∀ {vs:List V}{us:List Value}{zs:List V}{ws:List Value},Vals vs us→Vals zs ws→Vals (gV vs zs) (g us ws)
variable {g:List Value→List Value→List Value}{gV:List V→List V→List V}
end

structure FnScope(N P:List Str)(sc:Scope):Prop where
  kind:sc.kind=.function
  co:sc.isCoroutine=false
  gen:sc.isGenerator=false
  nd:N.Nodup
  pre:N.take P.length=P
  par:∀ x∈P,sc.names.lookup x=some .local∨sc.names.lookup x=some .cell
  nofree:∀ y∈sc.names,y.2≠.free

theorem bindL_out{kindOf:Str→Option NameKind}{x:Str}:∀ {binds:List (Str×Value)}{m:Str→Option Value},(∀ v,(x,v)∉binds)→bindL kindOf binds m x=m x
  |[],_,_=>rfl
  | (n,v) :: r,m,h=>by
    unfold bindL;rw[bindL_out fun w hw=>h w (List.mem_cons_of_mem _ hw)]
    split
    · have:x≠n:=by rintro rfl;exact h v List.mem_cons_self
      simp[this]
    · rfl
theorem bindC_out{kindOf:Str→Option NameKind}{x:Str}:∀ {binds:List (Str×Value)}{m:Str→Option Value},(∀ v,(x,v)∉binds)→bindC kindOf binds m x=m x
  |[],_,_=>rfl
  | (n,v) :: r,m,h=>by
    unfold bindC;rw[bindC_out fun w hw=>h w (List.mem_cons_of_mem _ hw)]
    split
    · rfl
    · have:x≠n:=by rintro rfl;exact h v List.mem_cons_self
      simp[this]
theorem bindL_get{kindOf:Str→Option NameKind}{x:Str}{v:Value}:∀ {P:List Str}{vs:List Value}{i:Nat}{m:Str→Option Value},P.Nodup→P[i]?=some x→vs[i]?=some v→kindOf x=some .local→
    bindL kindOf (P.zip vs) m x=some v
  |[],_,_,_,_,h,_,_=>by simp at h
  |_ :: _,[],_,_,_,_,h,_=>by simp at h
  |p :: P,w :: vs,0,m,nd,h1,h2,hk=>by
    simp at h1 h2;subst h1;subst h2;show bindL kindOf ((p,w) :: P.zip vs) m p=_;unfold bindL;rw[bindL_out fun v hv=>(List.nodup_cons.mp nd).1 (List.of_mem_zip hv).1,if_pos hk]
    simp
  |p :: P,w :: vs,i+1,m,nd,h1,h2,hk=>by
    show bindL kindOf ((p,w) :: P.zip vs) m x=_;unfold bindL;exact bindL_get (i:=i) (List.nodup_cons.mp nd).2 (by simpa using h1) (by simpa using h2) hk
theorem bindC_get{kindOf:Str→Option NameKind}{x:Str}{v:Value}:∀ {P:List Str}{vs:List Value}{i:Nat}{m:Str→Option Value},P.Nodup→P[i]?=some x→vs[i]?=some v→kindOf x≠some .local→
    bindC kindOf (P.zip vs) m x=some v
  |[],_,_,_,_,h,_,_=>by simp at h
  |_ :: _,[],_,_,_,_,h,_=>by simp at h
  |p :: P,w :: vs,0,m,nd,h1,h2,hk=>by
    simp at h1 h2;subst h1;subst h2;show bindC kindOf ((p,w) :: P.zip vs) m p=_;unfold bindC;rw[bindC_out fun v hv=>(List.nodup_cons.mp nd).1 (List.of_mem_zip hv).1,if_neg hk]
    simp
  |p :: P,w :: vs,i+1,m,nd,h1,h2,hk=>by
    show bindC kindOf ((p,w) :: P.zip vs) m x=_;unfold bindC;exact bindC_get (i:=i) (List.nodup_cons.mp nd).2 (by simpa using h1) (by simpa using h2) hk

noncomputable def start(N:List Str)(vs:List V):St:=vs.map some++List.replicate (N.length - vs.length) none

noncomputable def cxOf(CX:CXT)(P:Program)(w:World)(K:PySem.W.Frag)(mg:Str→Option Value)(base:Heap)(N:List Str)(qual:Str)(scope:Scope)(f:Addr)(cd:Value)(A:Around)(outer:List Env)(s:Shared)(H:Hp)(E:XK):Cx where
  prog:=P
  w:=w
  K:=K
  mg:=mg
  base:=base
  A:=A.deeper (envOfC qual scope s.heap.objs.size f cd)
  N:=N
  s₀:=s
  H₀:=H
  env:=envOfC qual scope s.heap.objs.size f cd
  outer:=outer
  stack:=envOfC qual scope s.heap.objs.size f cd :: outer
  ex:=[]
  calm:=true
  fn:=fun _=>true
  pn:=[]
  xe:=fun e s'=>wpAny (model P w) (A.deeper (envOfC qual scope s.heap.objs.size f cd)) (leaving (envOfC qual scope s.heap.objs.size f cd) e) (fun _ s''=>CX outer H s E e s'') (fun e' s''=>CX outer H s E e' s'') s'

theorem cell_has{sc:Scope}{n:Nat}{x:Str}(h:sc.names.lookup x=some .cell):∃ c,(cellsFrom n sc.names []).lookup x=some c:=by
  have q:=PySem.W.cellsFrom_some sc.names n [] (.inl h);exact Option.isSome_iff_exists.mp q

theorem inv_start{CX:CXT}{P:Program}{w:World}{K:PySem.W.Frag}{mg:Str→Option Value}{base:Heap}{N ps:List Str}{qual:Str}{scope:Scope}{f:Addr}{cd:Value}{A:Around}{outer:List Env}{s s1:Shared}{H:Hp}{E:XK}{us:List Value}{vs:List V}(S:FnScope N ps scope)(hd:A.handled=none)(e0:Env0 P w K mg base A outer s H)(hl:vs.length=ps.length)(r:Vals vs us)(x:InCallC s s.heap.objs.size (bindL (envOfC qual scope s.heap.objs.size f cd).kindOf (ps.zip us) fun _=>none) (cellsFrom (s.heap.objs.size+1) scope.names []) (bindC (envOfC qual scope s.heap.objs.size f cd).kindOf (ps.zip us) fun _=>none) s1) :
    Inv (cxOf CX P w K mg base N qual scope f cd A outer s H E) [] (start N vs) H s1:=by
  have hpl:ps.length≤N.length:=by have:=congrArg List.length S.pre;rw[List.length_take]at this;omega
  obtain⟨h1,tk,rfl,hk⟩:=x.done;have noA:∀ b:Addr,b∉(cxOf CX P w K mg base N qual scope f cd A outer s H E).ex:=fun b z=>absurd (show b∈([]:List Addr) from z) (by simp)
  refine⟨⟨e0.mod,S.kind,rfl,rfl,Nat.le_refl _,fun y z c h1 h2=>?_,fun y hy=>?_,fun y c _ h=>?_,fun _=>hd,Around.frames_deeper e0.frames,.inr ⟨rfl,rfl⟩,fun b z=>absurd z (noA b),e0.bs,e0.bsz,fun b _ _=>noA b,fun b z=>absurd z (noA b),e0.funs,e0.frf⟩,
    rfl,e0.bare,Un.kept hk,⟨_,x.toInCall.ns,fun i y v h1 h2 h3=>?_⟩,fun y c h=>⟨_,x.cell y c h⟩,e0.hok.fresh (Nat.le_refl _),fun y c h=>?_,fun p hp=>absurd (show p∈([]:List (Addr×Obj)) from hp) (by simp),e0.hok.kept hk,?_⟩
  · exact name_of_addr x.apart (PySem.mem_of_lookup h1) (PySem.mem_of_lookup h2)
  · have hy:scope.names.lookup y=some .cell∨scope.names.lookup y=some .free:=hy
    rcases hy with hy|hy
    · exact cell_has hy
    · exact absurd rfl (S.nofree _ (PySem.mem_of_lookup hy))
  · exact Nat.le_of_lt (x.above y c (PySem.mem_of_lookup h))
  · have hi:i < vs.length:=by
      unfold start at h2;by_cases hi:i < vs.length
      · exact hi
      · rw[List.getElem?_append_right (by simpa using hi)]at h2
        rw[List.getElem?_replicate]at h2;split at h2<;>cases h2
    have ha:vs[i]?=some v:=by
      unfold start at h2;rw[List.getElem?_append_left (by simpa using hi),List.getElem?_map]at h2
      cases e:vs[i]? with
      |none=>rw[e]at h2;cases h2
      |some a=>rw[e]at h2;cases h2;rfl
    obtain⟨u,hu,rv⟩:=r.get ha;have hp:ps[i]?=some y:=by
      rw[←S.pre,List.getElem?_take_of_lt (by omega)];exact h1
    have ndP:ps.Nodup:=by rw[←S.pre];exact S.nd.sublist (List.take_sublist _ _)
    refine⟨u,rv,?_⟩;rcases S.par y (List.mem_of_getElem? hp) with k|k
    · exact .inl ⟨k,bindL_get ndP hp hu k⟩
    · obtain⟨c,e⟩:=cell_has (n:=s.heap.objs.size+1) k
      refine .inr ⟨.inl k,c,e,?_⟩;have q:=x.cell y c e;rw[bindC_get ndP hp hu (by show scope.names.lookup y≠_;rw[k];decide)]at q
      exact q
  · exact e0.hok.fresh (Nat.le_of_lt (x.above y c (PySem.mem_of_lookup h)))
  · unfold start
    show _=N.length;rw[List.length_append,List.length_map,List.length_replicate];omega

theorem fn_of{CX:CXT}{P:Program}{w:World}{K:PySem.W.Frag}{mg:Str→Option Value}{base:Heap}{k:Nat}{f:Addr}{name qual:Str}{params:Arguments}{body:List Stmt}{scope:Scope}{dV kV doc pm cdv ct oc:Value}{an od:Option Addr}{osl:Array (Option Value)}{N ps:List Str}{sp:Sp}(lk:K.lookup f=some ⟨oc,od,.func (PySem.W.fnOf name qual params body scope dV kV doc pm an cdv ct),osl⟩)(hcd:PySem.W.codeIn K cdv qual=true)(S:FnScope N ps scope)(len:∀ vs H Q E,sp vs H Q E→vs.length=ps.length)(hbody:∀ (A:Around) (outer:List Env) (s:Shared) (H:Hp) (vs:List V) (Q:VK) (E:XK),Room k (A.deeper (envOfC qual scope s.heap.objs.size f cdv))→sp vs H Q E→
      ∃ t,PSs (cxOf CX P w K mg base N qual scope f cdv A outer s H E) body t∧t { nx:=fun _ H'=>Q .non H',rt:=Q } (start N vs) H) :
    FnOk P w K mg base CX (k+1) f (PySem.W.fnOf name qual params body scope dV kV doc pm an cdv ct) ps sp:=by
  refine⟨len,fun A outer s H args us vs Q E hr e0 hb r hsp=>?_⟩
  have hl:=len _ _ _ _ hsp;have KX:K.In s.heap:=e0.mod.kin.keeps fun b o e=>(e0.bs b o e).1
  have lim:s.heap.NoLimit:=e0.mod.nolimit.keeps fun b o e=>(e0.bs b o e).1
  have hkind:∀ y∈ps.zip us,scope.names.lookup y.1=some .local∨(scope.names.lookup y.1=some .cell∧((cellsFrom (s.heap.objs.size+1) scope.names []).lookup y.1).isSome=true):=fun⟨n,v⟩ hy=>by
    rcases S.par n (List.of_mem_zip hy).1 with q|q
    · exact .inl q
    · exact .inr ⟨q,PySem.W.cellsFrom_some _ _ _ (.inl q)⟩
  refine codeAny_call_function hr.depth (KX _ _ lk) rfl S.co S.gen rfl (PySem.W.codeRec_of KX hcd) (hb _ _ _ _ ?_);refine wpAny_newFunctionEnv_cells S.kind hkind fun env he s1 x=>?_
  subst he;refine⟨lim.keeps x.toInCall.keep,codeAny_func ?_⟩;obtain⟨t,ht,hq⟩:=hbody A outer s H vs Q E (hr.deeper _) hsp;have I:Inv (cxOf CX P w K mg base N qual scope f cdv A outer s H E) [] (start N vs) H s1:=inv_start S hr.hd e0 hl r x;refine wpAny_mono (ht [] s1 (start N vs) H _ I hq) (fun fl s' hs=>?_) fun e s' hs=>hs
  have fin:∀ {σ':St}{H':Hp}{v:V}{u:Value},Inv (cxOf CX P w K mg base N qual scope f cdv A outer s H E) [] σ' H' s'→RelV v u→Q v H'→CE outer P w H s Q u s':=
    fun {σ' H' v u} J rv q=>⟨v,H',J.os,J.bare,J.base,J.hok,rv,q⟩
  cases fl with
  |ret u=>
    obtain⟨v,σ',H',J,rv,q⟩:=hs;exact fin J rv q
  |next=>
    obtain⟨σ',H',J,q⟩:=hs;exact fin (v:=V.non) (u:=Value.none) J rfl q
  |brk=>
    obtain⟨_,_,_,q⟩:=hs;exact False.elim q
  |cont=>
    obtain⟨_,_,_,q⟩:=hs;exact False.elim q
end L2

namespace L2
open PySem PySem.Spec PyProof.Rows
section
variable {X:Cx}{x:Str}{p pos:Pos}{e:Expr}{es:List Expr}{t:TA}{id T:String}{r:List V→Hp→VK→Prop}

noncomputable def tCB(r:List V→Hp→VK→Prop)(t:TA):TE:=fun σ H Q=>t σ H fun vs H1=>r vs H1 Q
theorem pe_callB(hc:CallR X (.builtin id) r)(hg:Gl X x)(hm:X.mg x=none)(hv:bootBuiltins x=some (.builtin id))(ha:PA X (e :: es) t)(hn:x ≠ "__name__":=by decide)(hdb:(x==("__debug__":Str))=false:=by decide)(he:starEach (e :: es) X.env=(false,eval e X.env) :: starEach es X.env:=by rfl)(hpl:(backTo pos (starEach es X.env)).any (·.1)=false:=by rfl):PE X (.Call (.Name x p) (e :: es) [] pos) (tCB r t):=by
  intro pins s σ H Q I h;refine wpAny_Call_Name_kw (ld_blt I hg hm hv ?_ hn hdb);exact PyProof.Rows.callWith_builtin1 (thn (ha pos pins s σ H _ I h) fun us s1 ⟨vs,H1,I1,r1,q1⟩=>hc pins s1 σ H1 vs us Q I1 r1 q1) he hpl
theorem pe_callTy(hc:CallR X (.type T) r)(hg:Gl X x)(hm:X.mg x=none)(hv:bootBuiltins x=some (.type T))(ha:PA X (e :: es) t)(hn:x ≠ "__name__":=by decide)(hdb:(x==("__debug__":Str))=false:=by decide)(he:starEach (e :: es) X.env=(false,eval e X.env) :: starEach es X.env:=by rfl)(hpl:(backTo pos (starEach es X.env)).any (·.1)=false:=by rfl):PE X (.Call (.Name x p) (e :: es) [] pos) (tCB r t):=by
  intro pins s σ H Q I h;refine wpAny_Call_Name_kw (ld_blt I hg hm hv ?_ hn hdb);exact PyProof.Rows.callWith_type1 (thn (ha pos pins s σ H _ I h) fun us s1 ⟨vs,H1,I1,r1,q1⟩=>hc pins s1 σ H1 vs us Q I1 r1 q1) he hpl
end
end L2

namespace HT
open PySem PyProof.Rows



section
open PySem.SeqAt
open PySem.AutoSeq1 (wpAny_loadPart')
open PySem.MeetsSeq PySem.MeetsSeq2 PySem.MeetsSeq3

end

section
variable {prog:Program}{w:World}{A:Around}{E:Value→Shared→Prop}{s:Shared}


theorem cat_tup{t b:Addr}{vs ws:List Value}{Q:Value→Shared→Prop}(ht:IsTup s.heap t vs.toArray)(hb:IsTup s.heap b ws.toArray)(hv:vs≠[])(h1:ws=[]→Q (.ref t) s)(h2:ws≠[]→Q (.ref s.heap.objs.size) { s with heap:=s.heap.push { cls:=.type "tuple",data:=.seq (vs++ws).toArray } })(hsz:vs.length+ws.length≤sizeLine):wpAny (model prog w) A (binaryOp .Add (.ref t) (.ref b)) Q E s:=by
  obtain⟨⟨cls,dd,data,sl⟩,ho,hc,n,hd⟩:=id ht;obtain⟨⟨cls2,dd2,data2,sl2⟩,ho2,hc2,n2,hd2⟩:=id hb;simp only at hc hd hc2 hd2;subst hc hd hc2 hd2;have e:vs.toArray++ws.toArray=(vs++ws).toArray:=by simp
  by_cases hw:ws=[]
  · exact concat_meets ⟨_,ho,rfl⟩ ⟨_,ho2,rfl⟩ noFill_tuple_add seq_tuple_add PySem.F.slot_tuple_add PySem.F.entry_tuple_add (PySem.F.args_tuple_add_2 _ _)
      (tuple_addW1 t b vs.toArray ws.toArray n n2 dd dd2 sl sl2 (by simpa using hv) (by simp[hw])) ⟨ho,ho2,h1 hw⟩
  · refine concat_meets ⟨_,ho,rfl⟩ ⟨_,ho2,rfl⟩ noFill_tuple_add seq_tuple_add PySem.F.slot_tuple_add PySem.F.entry_tuple_add (PySem.F.args_tuple_add_2 _ _)
      (tuple_addW2 t b vs.toArray ws.toArray n n2 dd dd2 sl sl2 (by simpa using hv) (by simpa using hw) (by rw[List.size_toArray,List.size_toArray];exact hsz)) ⟨ho,ho2,?_⟩
    rw[e];exact h2 hw

noncomputable def sIx(n d:Nat):Option Int→Nat
  |none=>d
  |some v=>if v < 0 then (v+(n:Int)).toNat else min v.toNat n
theorem sIx_le(n d:Nat)(hd:d≤n)(o:Option Int):sIx n d o≤n:=by
  cases o with
  |none=>exact hd
  |some v=>
    show(if v < 0 then (v+(n:Int)).toNat else min v.toNat n)≤n
    by_cases hv:v < 0
    · rw[if_pos hv];omega
    · rw[if_neg hv];exact Nat.min_le_right _ _
theorem clip_eq(v:Int)(n d:Nat):(if v < 0 then max (v+(n:Int)) 0 else min v (n:Int))=((sIx n d (some v):Nat):Int):=by
  show(if v < 0 then max (v+(n:Int)) 0 else min v (n:Int))=(((if v < 0 then (v+(n:Int)).toNat else min v.toNat n):Nat):Int)
  by_cases hv:v < 0
  · simp only[if_pos hv];omega
  · simp only[if_neg hv];omega
theorem adjust_gen(lo hi:Option Int)(n:Nat):Builtin.Slice.sliceAdjust lo hi 1 (n:Int)=(((sIx n 0 lo:Nat):Int),((sIx n n hi:Nat):Int)):=by
  have h1:¬((1:Int) < 0):=by omega
  unfold Builtin.Slice.sliceAdjust;simp only[h1,if_false];refine Prod.ext ?_ ?_
  · cases lo with
    |none=>rfl
    |some v=>exact clip_eq v n 0
  · cases hi with
    |none=>rfl
    |some v=>exact clip_eq v n n
theorem places_gen(i j:Nat):Builtin.Slice.slicePlaces (i:Int) (j:Int) 1=j - i:=by
  unfold Builtin.Slice.slicePlaces;have h1:(1:Int) > 0:=by omega
  simp only[h1,if_true,Int.ediv_one];split<;>omega
theorem slicePart_{v:Value}{o:Option Int}{Q:Option Int→Shared→Prop}(p:IsPart v o)(h:Q o s):wpAny (model prog w) A (Builtin.Slice.slicePartIndex v) Q E s:=by
  cases p with
  |none=>exact slicePart_none h
  |int i t=>exact slicePart_int h
theorem sliceApplied_gen{sl:Addr}{vl vu:Value}{lo hi:Option Int}{n:Nat}{Q:Int×Int×Nat→Shared→Prop}(hs:s.heap.IsSliceOf sl vl vu .none)(pl:IsPart vl lo)(pu:IsPart vu hi)(h:Q (((sIx n 0 lo:Nat):Int),1,sIx n n hi - sIx n 0 lo) s):wpAny (model prog w) A (Builtin.Slice.sliceApplied (.ref sl) (pure (n:Int))) Q E s:=by
  obtain⟨os,hos,hcs,hds⟩:=id hs;unfold Builtin.Slice.sliceApplied Builtin.Slice.sliceFields;refine wpAny_bind (wpAny_bind (wpAny_field hos hds (x:=vl) rfl (wpAny_bind (wpAny_field hos hds (x:=vu) rfl (wpAny_bind (wpAny_field hos hds (x:=.none) rfl (wpAny_pure ?_)))))));refine wpAny_bind (slicePart_none ?_);show wpAny _ _ (if ((1:Int)==0)=true then _ else _) _ _ s
  rw[if_neg (by decide)]
  refine wpAny_bind (slicePart_ pl (wpAny_bind (slicePart_ pu (wpAny_bind (wpAny_pure ?_)))));show wpAny _ _ (match Builtin.Slice.sliceAdjust lo hi 1 (n:Int) with | (lo,hi)=>pure (lo,(1:Int),Builtin.Slice.slicePlaces lo hi 1)) _ _ s
  rw[adjust_gen lo hi n];show wpAny _ _ (pure (((sIx n 0 lo:Nat):Int),(1:Int),Builtin.Slice.slicePlaces ((sIx n 0 lo:Nat):Int) ((sIx n n hi:Nat):Int) 1)) _ _ s;rw[places_gen];exact wpAny_pure h
theorem pick_gen(xs:Array Value)(i k:Nat):((List.range k).filterMap fun(m:Nat)=>xs[((i:Int)+(m:Int) * 1).toNat]?).toArray=((xs.toList.drop i).take k).toArray:=by
  have e:(fun(m:Nat)=>xs[((i:Int)+(m:Int) * 1).toNat]?)=fun m=>xs[i+m]?:=by
    funext m
    have:((i:Int)+(m:Int) * 1).toNat=i+m:=by omega
    rw[this]
  rw[e];have:=pick_run xs i k;rw[List.filterMap_map]at this;have e2:((fun x=>xs[x]?) ∘ fun x=>i+x)=fun m=>xs[i+m]?:=rfl
  rw[e2]at this;rw[this]

theorem getItem_tuple_cut{t sl:Addr}{items:Array Value}{vl vu:Value}{lo hi:Option Int}{Q:Value→Shared→Prop}(ht:IsTup s.heap t items)(hs:s.heap.IsSliceOf sl vl vu .none)(pl:IsPart vl lo)(pu:IsPart vu hi)(hw:¬(sIx items.size 0 lo=0∧sIx items.size items.size hi=items.size))(h:Q (.ref s.heap.objs.size) { s with heap:=s.heap.push { cls:=.type "tuple",data:=.seq ((items.toList.drop (sIx items.size 0 lo)).take (sIx items.size items.size hi - sIx items.size 0 lo)).toArray } })(hsz:items.size≤sizeLine):wpAny (model prog w) A (getItem (.ref t) (.ref sl)) Q E s:=by
  have htake:sizeOk (.seq ((items.toList.drop (sIx items.size 0 lo)).take (sIx items.size items.size hi - sIx items.size 0 lo)).toArray):=by
    show((items.toList.drop (sIx items.size 0 lo)).take (sIx items.size items.size hi - sIx items.size 0 lo)).toArray.size≤sizeLine;rw[List.size_toArray,List.length_take,List.length_drop,Array.length_toList];omega
  have hj:sIx items.size items.size hi≤items.size:=sIx_le _ _ (Nat.le_refl _) hi;obtain⟨os,hos,hcs,hds⟩:=id hs;have hTs:s.TypeIs (.ref sl) "slice":=⟨os,hos,hcs⟩;unfold getItem
  try with_reducible refine wpAny_holding ?_
  first|refine wpAny_bind (wpAny_pure ?_)|skip
  refine wpAny_bind (wpAny_sequenceKey ht.typeIs (by decide) ?_)
  refine wpAny_bind (wpAny_callSpecial?_slot (name:=Str.ofString "__getitem__") ht.typeIs PyProof.Rows.slot_tuple_getitem
    (wpAny_call_entry PyProof.Rows.slot_tuple_getitem ht.typeIs entry_tuple_getitem ?_ (args_tuple_getitem _ _)))
  show wpAny _ _ (Builtin.Tuple.tupleItemsOf (.ref t) >>= _) _ _ s;refine wpAny_bind (tupleItemsOf_ ht ?_);refine wpAny_bind (wpAny_typeOf hTs ?_);rw[if_pos (by decide)]
  refine wpAny_bind (sliceApplied_gen hs pl pu ?_);have hno:¬((((sIx items.size 0 lo:Nat):Int)==0&&(1:Int)==1&&(sIx items.size items.size hi - sIx items.size 0 lo)==items.size)=true):=by
    intro q;rw[Bool.and_eq_true,Bool.and_eq_true]at q;have q1:((sIx items.size 0 lo:Nat):Int)=0:=eq_of_beq q.1.1;have q2:sIx items.size items.size hi - sIx items.size 0 lo=items.size:=eq_of_beq q.2;exact hw ⟨by omega,by omega⟩
  show wpAny _ _ (if (((sIx items.size 0 lo:Nat):Int)==0&&(1:Int)==1&&(sIx items.size items.size hi - sIx items.size 0 lo)==items.size)=true then _ else _) _ _ s
  rw[if_neg hno,pick_gen]
  first
    |exact wpAny_bind (m:=Builtin.Tuple.tupleExact _) (wpAny_newObj_type (wpAny_pure ⟨_,rfl,wpAny_pure h⟩) htake)
    |exact wpAny_bind (m:=Builtin.Tuple.tupleExact _) (wpAny_newObj_type (wpAny_bind (wpAny_pure (wpAny_pure ⟨_,rfl,wpAny_pure h⟩))) htake)
    |exact wpAny_bind (wpAny_bind (m:=Builtin.Tuple.tupleExact _) (wpAny_newObj_type (wpAny_pure (wpAny_pure ⟨_,rfl,wpAny_pure h⟩)) htake))
    |exact wpAny_bind (wpAny_bind (m:=Builtin.Tuple.tupleExact _) (wpAny_newObj_type (wpAny_pure ⟨_,rfl,wpAny_pure h⟩) htake))
end
end HT

namespace L2
open PySem PySem.Spec PyProof.Rows

abbrev TO:=St→Hp→(Option Int→Hp→Prop)→Prop
def PO(X:Cx)(e:Option Expr)(t:TO):Prop:=
  ∀ (pins:List (Addr×Obj)) (s:Shared) (σ:St) (H:Hp) (Q:Option Int→Hp→Prop),Inv X pins σ H s→t σ H Q→
    wpAny (model X.prog X.w) X.A (evalPart e X.env) (fun u s'=>∃ o H',Inv X pins σ H' s'∧IsPart u o∧Q o H') X.xe s
noncomputable def tNoPart:TO:=fun _ H Q=>Q none H
noncomputable def tPart(t:TE):TO:=fun σ H Q=>t σ H fun x H1=>∃ i,x=.int i∧Q (some i) H1


section
variable {X:Cx}{e:Expr}{te:TE}{lo hi:Option Expr}{tl th:TO}{pos p2:Pos}

theorem po_none:PO X none tNoPart:=by
  intro pins s σ H Q I h;rw[evalPart_none];exact wpAny_pure ⟨none,H,I,.none,h⟩
theorem po_some(h:PE X e te):PO X (some e) (tPart te):=by
  intro pins s σ H Q I hw;rw[evalPart_some];refine thn (h pins s σ H _ I hw) fun u s1 ⟨x,H1,I1,r1,q1⟩=>?_
  obtain⟨i,rfl,q⟩:=q1;obtain⟨t,rfl⟩:=r1;exact⟨some i,H1,I1,.int i t,q⟩

def SlR(X:Cx)(r:V→Option Int→Option Int→Hp→VK→Prop):Prop:=
  ∀ (pins:List (Addr×Obj)) (s:Shared) (σ:St) (H:Hp) (x:V) (v vl vu:Value) (lo hi:Option Int) (sl:Addr) (Q:VK),Inv X pins σ H s→RelV x v→s.heap.IsSliceOf sl vl vu .none→IsPart vl lo→IsPart vu hi→r x lo hi H Q→
    ∃ T id,typeLookup (.type T) "__getitem__"=pure (some (.builtin id))∧s.TypeIs v T∧wpAny (model X.prog X.w) X.A (getItem v (.ref sl)) (EP X pins σ Q) X.xe s
noncomputable def tSl(r:V→Option Int→Option Int→Hp→VK→Prop)(te:TE)(tl th:TO):TE:=fun σ H Q=>te σ H fun x H1=>tl σ H1 fun l H2=>th σ H2 fun u H3=>r x l u H3 Q
theorem pe_slice{r:V→Option Int→Option Int→Hp→VK→Prop}(hr:SlR X r)(he:PE X e te)(hl:PO X lo tl)(hu:PO X hi th):PE X (.Subscript e (.Slice lo hi none p2) pos) (tSl r te tl th):=by
  intro pins s σ H Q I h;refine Subscript_ (thn (he pins s σ H _ I h) fun v s1 ⟨x,H1,I1,r1,q1⟩=>?_)
  refine wpAny_Slice (thn (hl pins s1 σ H1 _ I1 q1) fun vl s2 ⟨l,H2,I2,pl,q2⟩=>thn (hu pins s2 σ H2 _ I2 q2) fun vu s3 ⟨u,H3,I3,pu,q3⟩=>?_)
  rw[evalPart_none];refine wpAny_pure ?_;have I4:Inv X pins σ H3 { s3 with heap:=s3.heap.push { cls:=.type "slice",data:=.fields #[vl,vu,.none] } }:=I3.kept (t':=s3.toks) fun b ob q=>Heap.get?_push_of_some _ q
  obtain⟨T,id,hT,ht,hg⟩:=hr pins { s3 with heap:=s3.heap.push { cls:=.type "slice",data:=.fields #[vl,vu,.none] } } σ H3 x v vl vu l u s3.heap.objs.size Q I4 r1 (Heap.IsSliceOf.new ..) pl pu q3
  show wpAny (model X.prog X.w) X.A (subscriptTail e (.Slice lo hi none p2) v (.ref s3.heap.objs.size)) (EP X pins σ Q) X.xe { s3 with heap:=s3.heap.push { cls:=.type "slice",data:=.fields #[vl,vu,.none] } }
  exact tail_any (ops:=[.ref s3.heap.objs.size,v]) ht hT hg (by with_unfolding_all rfl)

noncomputable def cutV(xs:List V)(lo hi:Option Int):List V:=(xs.drop (HT.sIx xs.length 0 lo)).take (HT.sIx xs.length xs.length hi - HT.sIx xs.length 0 lo)
theorem cutV_length(xs:List V)(lo hi:Option Int):(cutV xs lo hi).length≤xs.length:=by
  unfold cutV;rw[List.length_take,List.length_drop];omega
def rSlT(K:PySem.W.Frag):V→Option Int→Option Int→Hp→VK→Prop:=fun x lo hi H Q=>∃ a xs,x=.ref a∧SqT K H a xs ∧
  ¬(HT.sIx xs.length 0 lo=0∧HT.sIx xs.length xs.length hi=xs.length)∧∀ p,H p=none→Q (.ref p) (upd H p (.tup (cutV xs lo hi)))
theorem sl_tup:SlR X (rSlT X.K):=by
  intro pins s σ H x v vl vu lo hi sl Q I rx hs pl pu h;obtain⟨a,xs,rfl,hx,hw,q⟩:=h;cases rx;obtain⟨its,r,ht,hz⟩:=I.tuple hx;have hlen:its.toArray.size=xs.length:=by rw[List.size_toArray];exact r.length.symm
  refine⟨"tuple",_,PyProof.Rows.slot_tuple_getitem.lookup,ht.typeIs,?_⟩;refine HT.getItem_tuple_cut ht hs pl pu (by rw[hlen];exact hw) ?_ (by rw[hlen];exact hz)
  rw[hlen];refine⟨.ref s.heap.objs.size,_,I.laid (t':=s.toks) (o:=.tup (cutV xs lo hi)) (fun b ob q=>Heap.get?_push_of_some _ q) (Nat.le_refl _) ?_,rfl,q _ (I.hok.fresh (Nat.le_refl _))⟩
  exact⟨Nat.le_trans (cutV_length xs lo hi) hz,_,(r.drop (HT.sIx xs.length 0 lo)).take (HT.sIx xs.length xs.length hi - HT.sIx xs.length 0 lo),IsTup.new _ _⟩

noncomputable def rCatT(K:PySem.W.Frag):R2:=fun x y H Q=>∃ a b xs ys,x=.ref a∧y=.ref b∧SqT K H a xs∧SqT K H b ys∧xs≠[]∧xs.length+ys.length≤sizeLine ∧
  (ys=[]→Q (.ref a) H)∧(ys≠[]→∀ p,H p=none→Q (.ref p) (upd H p (.tup (xs++ys))))
theorem Vals.nil_iff{xs:List V}{us:List Value}(r:Vals xs us):us=[]↔xs=[]:=by
  cases r with
  |nil=>simp
  |cons _ _=>simp
theorem op_catT:OpR X (binaryOp .Add) (rCatT X.K):=by
  intro pins s σ H x y v u Q I rx ry h;obtain⟨a,b,xs,ys,rfl,rfl,ha,hb,hx,hz,q1,q2⟩:=h;cases rx;cases ry;obtain⟨its,r1,p1,_⟩:=I.tuple ha;obtain⟨its2,r2,p2,_⟩:=I.tuple hb;refine HT.cat_tup p1 p2 (fun z=>hx (r1.nil_iff.mp z)) (fun z=>⟨.ref a,H,I,rfl,q1 (r2.nil_iff.mp z)⟩) (fun z=>?_) (by rw[←r1.length,←r2.length];exact hz)
  refine⟨.ref s.heap.objs.size,_,I.laid (t':=s.toks) (o:=.tup (xs++ys)) (fun b ob q=>Heap.get?_push_of_some _ q) (Nat.le_refl _) ?_,rfl,q2 (fun w=>z (r2.nil_iff.mpr w)) _ (I.hok.fresh (Nat.le_refl _))⟩
  exact⟨by rw[List.length_append];exact hz,_,r1.append r2,IsTup.new _ _⟩
end
end L2

namespace L2
open PySem PySem.Spec PyProof.Rows

noncomputable def ixN(n:Nat)(i:Int):Option Nat:=if 0≤i then (if i < n then some i.toNat else none) else if -(n:Int)≤i then some (i+n).toNat else none
noncomputable def atI{α:Type}(xs:List α)(i:Int):Option α:=(ixN xs.length i).bind fun j=>xs[j]?
theorem ixN_seq{n:Nat}{i:Int}{j:Nat}(h:ixN n i=some j):seqIndex? i n=some j∧j < n∧-(n:Int)≤i∧i < n:=by
  unfold ixN at h;by_cases h0:0≤i
  · rw[if_pos h0]at h
    by_cases h1:i < n
    · rw[if_pos h1]at h
      have e:i.toNat=j:=Option.some.inj h;exact⟨by rw[seqIndex_of h0 h1,e],by omega,by omega,h1⟩
    · rw[if_neg h1]at h;cases h
  · rw[if_neg h0]at h
    by_cases h1:-(n:Int)≤i
    · rw[if_pos h1]at h
      have e:(i+n).toNat=j:=Option.some.inj h;exact⟨by rw[seqIndex_neg (by omega) h1,e],by omega,h1,by omega⟩
    · rw[if_neg h1]at h;cases h
theorem atI_get{α:Type}{xs:List α}{i:Int}{v:α}(h:atI xs i=some v):∃ j,seqIndex? i xs.length=some j∧xs[j]?=some v∧j < xs.length∧-(xs.length:Int)≤i∧i < xs.length:=by
  unfold atI at h;cases e:ixN xs.length i with
  |none=>rw[e]at h;cases h
  |some j=>
    rw[e]at h;obtain⟨h1,h2,h3,h4⟩:=ixN_seq e;exact⟨j,h1,h,h2,h3,h4⟩

def PlainIx(b:Expr):Prop:=∀ o i,subscripted b false o i=operate [o,i] (getItem o i)
def IxR(X:Cx)(r:R2):Prop:=
  ∀ (value slice:Expr) (pins:List (Addr×Obj)) (s:Shared) (σ:St) (H:Hp) (x y:V) (v u:Value) (Q:VK),Inv X pins σ H s→RelV x v→RelV y u→r x y H Q→
    subscripted slice false v u=operate [v,u] (getItem v u)→wpAny (model X.prog X.w) X.A (subscriptTail value slice v u) (EP X pins σ Q) X.xe s
def MtR(X:Cx)(id:String)(r:V→List V→Hp→VK→Prop):Prop:=
  ∀ (pins:List (Addr×Obj)) (s:Shared) (σ:St) (H:Hp) (x:V) (xs:List V) (v:Value) (us:List Value) (Q:VK),Inv X pins σ H s→RelV x v→Vals xs us→r x xs H Q→
    wpAny (model X.prog X.w) X.A (call (.builtin id) (v :: us)) (EP X pins σ Q) X.xe s
section
variable {X:Cx}{a b:Expr}{ta tb:TE}{pos:Pos}
theorem pe_ix{r:R2}(hr:IxR X r)(ha:PE X a ta)(hb:PE X b tb)(hs:PlainIx b):PE X (.Subscript a b pos) (tOp r ta tb):=by
  intro pins s σ H Q I h;exact Subscript_ (binT ha hb I h fun v u s2 x y H2 I2 rx ry q=>hr a b pins s2 σ H2 x y v u Q I2 rx ry q (hs _ _))

noncomputable def rIxL(K:PySem.W.Frag):R2:=fun x y H Q=>∃ p xs i v,x=.ref p∧y=.int i∧SqL K H p xs∧atI xs i=some v∧Q v H
noncomputable def rIxT(K:PySem.W.Frag):R2:=fun x y H Q=>∃ p xs i v,x=.ref p∧y=.int i∧SqT K H p xs∧atI xs i=some v∧Q v H
noncomputable def rIxS:R2:=fun x y H Q=>∃ z i c,x=.str z∧y=.int i∧z.length≤sizeLine∧atI z.cps.toList i=some c∧Q (.str ⟨#[c]⟩) H
theorem ix_list:IxR X (rIxL X.K):=by
  intro value slice pins s σ H x y v u Q I rx ry h hs;obtain⟨p,xs,i,z,rfl,rfl,hq,he,q⟩:=h;cases rx;obtain⟨t,rfl⟩:=ry;obtain⟨its,r,pl,hz⟩:=I.list hq;obtain⟨j,h1,h2,h3,h4,h5⟩:=atI_get he;obtain⟨w,ew,rw'⟩:=r.get h2;have hl:=r.length;have hn:=line63;have fin:EP X pins σ Q w s:=⟨z,H,I,rw',q⟩;by_cases h0:0≤i
  · have hj:i.toNat=j:=by
      rw[seqIndex_of h0 h5]at h1;exact Option.some.inj h1
    exact item_listR pl.isList h0 (by omega) (by rw[hj];simpa using ew) fin hs
  · have hj:(i+(its.toArray.size:Int)).toNat=j:=by
      rw[seqIndex_neg (by omega) h4]at h1
      rw[List.size_toArray,←hl];exact Option.some.inj h1
    exact subscriptTail_builtinR (x:=w) pl.isList.typeIs slot_list_getitem.lookup
      (wpAny_getItem_list_neg (Q:=fun r s'=>r=w∧EP X pins σ Q r s') pl.isList (by omega) (by rw[List.size_toArray]<;>omega) (by omega) (by rw[hj];simpa using ew) ⟨rfl,fin⟩) hs
theorem ix_tup:IxR X (rIxT X.K):=by
  intro value slice pins s σ H x y v u Q I rx ry h hs;obtain⟨p,xs,i,z,rfl,rfl,hq,he,q⟩:=h;cases rx;obtain⟨t,rfl⟩:=ry;obtain⟨its,r,pl,hz⟩:=I.tuple hq;obtain⟨j,h1,h2,h3,h4,h5⟩:=atI_get he;obtain⟨w,ew,rw'⟩:=r.get h2;have hl:=r.length;have hn:=line63;have fin:EP X pins σ Q w s:=⟨z,H,I,rw',q⟩;exact subscriptTail_builtinR (x:=w) pl.typeIs slot_tuple_getitem.lookup
    (getItem_tuple (j:=j) (Q:=fun r s'=>r=w∧EP X pins σ Q r s') pl (by omega) (by omega) (by rw[List.size_toArray,←hl];exact h1) (by simpa using ew) ⟨rfl,fin⟩) hs
theorem ix_str:IxR X rIxS:=by
  intro value slice pins s σ H x y v u Q I rx ry h hs;obtain⟨z,i,c,rfl,rfl,hz,he,q⟩:=h;obtain⟨t,rfl⟩:=rx;obtain⟨t',rfl⟩:=ry;obtain⟨j,h1,h2,h3,h4,h5⟩:=atI_get he;have hl:z.cps.toList.length=z.length:=by simp[Str.length]
  rw[hl]at h1 h4 h5;have hn:=line63;exact tail_any (typeIs_str s z t) slot_str_getitem.lookup (getItem_str (c:=c) (by
    have e1:decide (i < -(2 ^ 63:Int))=false:=decide_eq_false (by omega)
    have e2:decide (i≥2 ^ 63)=false:=decide_eq_false (by omega)
    rw[e1,e2,Bool.or_false]) (by rw[h1];simpa using h2) ⟨.str ⟨#[c]⟩,H,I.tok _,⟨_,rfl⟩,q⟩) hs

theorem mapSeq_set(its:List Value)(n j:Nat)(u:Value):Obj.mapSeq (·.setIfInBounds j u) { cls:=.type "list",data:=.seq its.toArray n }={ cls:=.type "list",data:=.seq (its.set j u).toArray n }:=by
  simp[Obj.mapSeq]
theorem Inv.lst{pins:List (Addr×Obj)}{σ:St}{H:Hp}{s:Shared}{p:Addr}{xs:List V}(I:Inv X pins σ H s)(h:H p=some (.lst xs)) :
    ∃ (its:List Value) (n:Nat),Vals xs its∧s.heap.get? p=some { cls:=.type "list",data:=.seq its.toArray n }∧xs.length≤sizeLine:=by
  obtain⟨z,its,n,r,e⟩:=I.hok p _ h;exact⟨its,n,r,e,z⟩
theorem Inv.lstUpd{pins:List (Addr×Obj)}{σ:St}{H:Hp}{s:Shared}{p:Addr}{xs ys:List V}{its its':List Value}{n n':Nat}{f:Obj→Obj}(I:Inv X pins σ H s)(h:H p=some (.lst xs))(ho:s.heap.get? p=some { cls:=.type "list",data:=.seq its.toArray n })(hf:f { cls:=.type "list",data:=.seq its.toArray n }={ cls:=.type "list",data:=.seq its'.toArray n' })(r:Vals ys its')(hz:ys.length≤sizeLine)(t:Nat) :
    Inv X pins σ (upd H p (.lst ys)) { s with heap:=s.heap.update p f,toks:=t }:=by
  have e:(s.heap.update p f).get? p=some { cls:=.type "list",data:=.seq its'.toArray n' }:=by
    rw[Heap.get?_update_self f ho (by rw[hf]<;>rfl),hf]
  refine I.write (x:=p) (e:=p) (by rw[h];trivial) (.inl rfl) (fun b u hb q=>(Heap.get?_update_other _ _ (Ne.symm hb)).trans q) ⟨_,e⟩ ?_
  exact⟨hz,its',n',r,e⟩
def rSetL:V→V→V→Hp→(Hp→Prop)→Prop:=fun o i v H Q=>∃ p xs k j,o=.ref p∧i=.int k∧H p=some (.lst xs)∧ixN xs.length k=some j∧Q (upd H p (.lst (xs.set j v)))
theorem set_list:PSet X rSetL:=by
  intro pins s σ H o i v ov iv u Q I ro ri rv h;obtain⟨p,xs,k,j,rfl,rfl,hp,hj,q⟩:=h;cases ro;obtain⟨t,rfl⟩:=ri;obtain⟨its,n,r,ho,hz⟩:=I.lst hp;obtain⟨h1,h2,h3,h4⟩:=ixN_seq hj;have hl:=r.length;have hn:=line63;have I':Inv X pins σ (upd H p (.lst (xs.set j v))) { s with heap:=s.heap.update p (Obj.mapSeq (·.setIfInBounds j u)) }:=
    I.lstUpd hp ho (mapSeq_set its n j u) (r.set rv j) (by rw[List.length_set];exact hz) s.toks
  by_cases h0:0≤k
  · have hk:k.toNat=j:=by
      rw[seqIndex_of h0 h4]at h1;exact Option.some.inj h1
    exact PySem.W.ki_setAt ho h0 (by omega) (by rw[List.size_toArray,←hl];exact h4) (by rw[hk];exact⟨_,I',q⟩)
  · have hk:(k+(its.toArray.size:Int)).toNat=j:=by
      rw[seqIndex_neg (by omega) h3]at h1
      rw[List.size_toArray,←hl];exact Option.some.inj h1
    exact PySem.W.ki_setBack ho (by omega) (by rw[List.size_toArray,←hl];exact h3) (by omega) (by rw[hk];exact⟨_,I',q⟩)

theorem slice_bounds(lo hi:Option Int)(n:Nat):(sliceBounds lo hi none n).1=((HT.sIx n 0 lo:Nat):Int)∧(sliceBounds lo hi none n).2.1=((HT.sIx n n hi:Nat):Int)∧(sliceBounds lo hi none n).2.2=1:=by
  refine⟨?_,?_,rfl⟩
  · cases lo with
    |none=>simp[sliceBounds,HT.sIx]
    |some i=>
      simp only[sliceBounds,HT.sIx,Option.getD_none,show(1:Int) > 0 by decide,if_true]
      by_cases h:i < 0
      · simp only[h,if_true]<;>omega
      · simp only[h,if_false]<;>omega
  · cases hi with
    |none=>simp[sliceBounds,HT.sIx]
    |some i=>
      simp only[sliceBounds,HT.sIx,Option.getD_none,show(1:Int) > 0 by decide,if_true]
      by_cases h:i < 0
      · simp only[h,if_true]<;>omega
      · simp only[h,if_false]<;>omega
theorem slicePick_cut(its:List Value)(lo hi:Option Int):slicePick its.toArray lo hi none=((its.drop (HT.sIx its.length 0 lo)).take (HT.sIx its.length its.length hi - HT.sIx its.length 0 lo)).toArray:=by
  obtain⟨h1,h2,h3⟩:=slice_bounds lo hi its.toArray.size;unfold slicePick;rw[h1,h2,h3];simp only[sliceRange_one,pick_run,List.size_toArray]<;>rfl
def rSlL(K:PySem.W.Frag):V→Option Int→Option Int→Hp→VK→Prop:=fun x lo hi H Q=>∃ a xs,x=.ref a∧SqL K H a xs∧∀ p,H p=none→Q (.ref p) (upd H p (.lst (cutV xs lo hi)))
theorem sl_list:SlR X (rSlL X.K):=by
  intro pins s σ H x v vl vu lo hi sl Q I rx hs pl pu h;obtain⟨a,xs,rfl,hx,q⟩:=h;cases rx;obtain⟨its,r,ht,hz⟩:=I.list hx;have hlen:=r.length;refine⟨"list",_,slot_list_getitem.lookup,ht.isList.typeIs,?_⟩;refine wpAny_getItem_list_slice ht.isList hs pl pu .none (by simp) ?_ (by rw[List.size_toArray]<;>omega)
  rw[slicePick_cut,←hlen];refine⟨.ref s.heap.objs.size,_,I.laid (t':=s.toks) (o:=.lst (cutV xs lo hi)) (fun b ob q=>Heap.get?_push_of_some _ q) (Nat.le_refl _) ?_,rfl,q _ (I.hok.fresh (Nat.le_refl _))⟩
  exact⟨Nat.le_trans (cutV_length xs lo hi) hz,_,0,(r.drop (HT.sIx xs.length 0 lo)).take (HT.sIx xs.length xs.length hi - HT.sIx xs.length 0 lo),Heap.get?_push_size _ rfl⟩

noncomputable def flatV:V→Bool
  |.non=>true
  |.bl _=>true
  |.int _=>true
  |.str _=>true
  |_=>false
noncomputable def eqV:V→V→Bool
  |.non,.non=>true
  |.bl a,.bl b=>a==b
  |.bl a,.int b=>(if a then 1 else 0)==b
  |.int a,.bl b=>a==(if b then 1 else 0)
  |.int a,.int b=>a==b
  |.str a,.str b=>a==b
  |_,_=>false
theorem eqAt_V{A:Around}{s:Shared}{y x:V}{u v:Value}(ry:RelV y u)(rx:RelV x v)(fy:flatV y=true)(fx:flatV x=true):SeqAt.EqAt A s u v (eqV y x):=by
  cases y with
  |non=>
    cases ry;cases x with
    |non=>cases rx;exact SeqAt.EqAt.same _
    |bl b=>cases rx;exact SeqAt.EqAt.none_bool b
    |int b=>obtain⟨t,rfl⟩:=rx;exact SeqAt.EqAt.none_int b t
    |str b=>obtain⟨t,rfl⟩:=rx;exact SeqAt.EqAt.none_str b t
    |_=>exact absurd (show false=true from fx) Bool.false_ne_true
  |bl a=>
    cases ry;cases x with
    |non=>cases rx;exact SeqAt.EqAt.bool_none a
    |bl b=>cases rx;exact SeqAt.EqAt.bool_bool a b
    |int b=>obtain⟨t,rfl⟩:=rx;exact SeqAt.EqAt.bool_int a b t
    |str b=>obtain⟨t,rfl⟩:=rx;exact SeqAt.EqAt.bool_str a b t
    |_=>exact absurd (show false=true from fx) Bool.false_ne_true
  |int a=>
    obtain⟨t',rfl⟩:=ry;cases x with
    |non=>cases rx;exact SeqAt.EqAt.int_none a t'
    |bl b=>cases rx;exact SeqAt.EqAt.int_bool a t' b
    |int b=>obtain⟨t,rfl⟩:=rx;exact SeqAt.EqAt.int_int a t' b t
    |str b=>obtain⟨t,rfl⟩:=rx;exact SeqAt.EqAt.int_str a t' b t
    |_=>exact absurd (show false=true from fx) Bool.false_ne_true
  |str a=>
    obtain⟨t',rfl⟩:=ry;cases x with
    |non=>cases rx;exact SeqAt.EqAt.str_none a t'
    |bl b=>cases rx;exact SeqAt.EqAt.str_bool a t' b
    |int b=>obtain⟨t,rfl⟩:=rx;exact SeqAt.EqAt.str_int a t' b t
    |str b=>obtain⟨t,rfl⟩:=rx;exact SeqAt.EqAt.str_str a t' b t
    |_=>exact absurd (show false=true from fx) Bool.false_ne_true
  |_=>exact absurd (show false=true from fy) Bool.false_ne_true
noncomputable def eqU(x:V)(u:Value):Bool:=match u with
  |.none=>eqV .non x
  |.bool b=>eqV (.bl b) x
  |.int i _=>eqV (.int i) x
  |.str z _=>eqV (.str z) x
  |_=>false
theorem eqU_of{x y:V}{u:Value}(r:RelV y u)(f:flatV y=true):eqU x u=eqV y x:=by
  cases y with
  |non=>cases r;rfl
  |bl b=>cases r;rfl
  |int i=>obtain⟨t,rfl⟩:=r;rfl
  |str z=>obtain⟨t,rfl⟩:=r;rfl
  |_=>exact absurd (show false=true from f) Bool.false_ne_true
theorem any_eqU{x:V}:∀ {xs:List V}{us:List Value},Vals xs us→xs.all flatV=true→us.any (eqU x)=xs.any fun y=>eqV y x
  |_,_,.nil,_=>rfl
  |y :: xs,u :: us,.cons r t,f=>by
    rw[List.all_cons,Bool.and_eq_true]at f;rw[List.any_cons,List.any_cons,eqU_of r f.1,any_eqU t f.2]
theorem mem_eqAt{A:Around}{s:Shared}{x:V}{v:Value}(rx:RelV x v)(fx:flatV x=true):∀ {xs:List V}{us:List Value},Vals xs us→xs.all flatV=true→∀ u∈us,SeqAt.EqAt A s u v (eqU x u)
  |_,_,.nil,_=>fun u hu=>by cases hu
  |y :: xs,u :: us,.cons r t,f=>fun u' hu=>by
    rw[List.all_cons,Bool.and_eq_true]at f;rcases List.mem_cons.mp hu with rfl|hu
    · rw[eqU_of r f.1];exact eqAt_V r rx f.1 fx
    · exact mem_eqAt rx fx t f.2 u' hu
noncomputable def inV(x:V)(xs:List V):Bool:=xs.any fun y=>eqV y x
noncomputable def rIn(K:PySem.W.Frag)(neg:Bool):R2:=fun x y H Q=>∃ p xs,y=.ref p∧(SqL K H p xs∨SqT K H p xs)∧flatV x=true∧xs.all flatV=true∧Q (.bl (if neg then !inV x xs else inV x xs)) H
theorem op_in_seq:OpR X (compareOp .In) (rIn X.K false):=by
  intro pins s σ H x y v u Q I rx ry h;obtain⟨p,xs,rfl,hq,fx,fs,q⟩:=h;cases ry;rcases hq with hq|hq
  · obtain⟨its,r,pl,hz⟩:=I.list hq
    refine SeqAt.in_listAt (eqU x) pl.isList (fun w hw=>mem_eqAt rx fx r fs w (by simpa using hw)) ⟨.bl _,H,I,rfl,?_⟩
    rw[show its.toArray.any (eqU x)=its.any (eqU x) by simp,any_eqU r fs]
    exact q
  · obtain⟨its,r,pl,hz⟩:=I.tuple hq
    refine SeqAt.in_tupleAt (eqU x) pl (fun w hw=>mem_eqAt rx fx r fs w (by simpa using hw)) ⟨.bl _,H,I,rfl,?_⟩
    rw[show its.toArray.any (eqU x)=its.any (eqU x) by simp,any_eqU r fs]
    exact q
theorem op_notIn_seq:OpR X (compareOp .NotIn) (rIn X.K true):=by
  intro pins s σ H x y v u Q I rx ry h;obtain⟨p,xs,rfl,hq,fx,fs,q⟩:=h;cases ry;rcases hq with hq|hq
  · obtain⟨its,r,pl,hz⟩:=I.list hq
    refine SeqAt.notIn_listAt (eqU x) pl.isList (fun w hw=>mem_eqAt rx fx r fs w (by simpa using hw)) ⟨.bl _,H,I,rfl,?_⟩
    rw[show its.toArray.any (eqU x)=its.any (eqU x) by simp,any_eqU r fs]
    exact q
  · obtain⟨its,r,pl,hz⟩:=I.tuple hq
    refine SeqAt.notIn_tupleAt (eqU x) pl (fun w hw=>mem_eqAt rx fx r fs w (by simpa using hw)) ⟨.bl _,H,I,rfl,?_⟩
    rw[show its.toArray.any (eqU x)=its.any (eqU x) by simp,any_eqU r fs]
    exact q
theorem op_notIn_str:OpR X (compareOp .NotIn) (fun x y H Q=>∃ i j,x=.str i∧y=.str j∧Q (.bl (!(!(Builtin.Str.occurrences j i 0 j.length 1).isEmpty))) H):=by
  intro pins s σ H x y v u Q I rx ry h;obtain⟨i,j,rfl,rfl,q⟩:=h;obtain⟨t,rfl⟩:=rx;obtain⟨t',rfl⟩:=ry;exact notIn_str ⟨.bl _,H,I,rfl,q⟩

theorem call_len_seq:CallR X (.builtin "len") (fun xs H Q=>∃ p ys,xs=[.ref p]∧(SqL X.K H p ys∨SqT X.K H p ys)∧Q (.int ys.length) H):=by
  intro pins s σ H xs us Q I r h;obtain⟨p,ys,rfl,hq,q⟩:=h;obtain⟨u,rfl,rx⟩:=vals1 r;cases rx;have hn:=line63;rcases hq with hq|hq
  · obtain⟨its,r',pl,hz⟩:=I.list hq
    have hlen:=r'.length;exact Calls.call_len_list pl.isList (by simp only[List.size_toArray]<;>omega) ⟨.int ys.length,H,I.tok _,⟨s.toks+1,by rw[List.size_toArray,hlen]⟩,q⟩
  · obtain⟨its,r',pl,hz⟩:=I.tuple hq
    have hlen:=r'.length;exact len_tuple pl (by simp only[List.size_toArray]<;>omega) ⟨.int ys.length,H,I.tok _,⟨s.toks+1,by rw[List.size_toArray,hlen]⟩,q⟩
theorem call_list_of:CallR X (.type "list") (fun xs H Q=>∃ p ys,xs=[.ref p]∧(SqL X.K H p ys∨SqT X.K H p ys)∧∀ l,H l=none→Q (.ref l) (upd H l (.lst ys))):=by
  intro pins s σ H xs us Q I r h;obtain⟨p,ys,rfl,hq,q⟩:=h;obtain⟨u,rfl,rx⟩:=vals1 r;cases rx;have fin:∀ (its:List Value),Vals ys its→ys.length≤sizeLine→∀ (h':Heap) (c':Nat),(∀ b o',s.heap.get? b=some o'→h'.get? b=some o')→
      h'.get? s.heap.objs.size=some { cls:=.type "list",dict:=none,data:=.seq its.toArray c',slots:=#[] }→EP X pins σ Q (.ref s.heap.objs.size) { s with heap:=h' }:=fun its r' hz h' c' kp e=>
    ⟨.ref s.heap.objs.size,_,I.laid (t':=s.toks) kp (Nat.le_refl _) (show ObjOk X.prog X.w _ h' _ (.lst ys) from⟨hz,its,c',r',e⟩),rfl,q _ (I.hok.fresh (Nat.le_refl _))⟩
  rcases hq with hq|hq
  · obtain⟨its,r',pl,hz⟩:=I.list hq
    have hlen:=r'.length;obtain⟨o,ho,hc,n,hd⟩:=pl.isList;exact call_list_seq p (.inl rfl) ho hc hd (fun h' c' kp e=>fin its r' hz h' c' kp e) (by simp only[List.size_toArray]<;>omega)
  · obtain⟨its,r',pl,hz⟩:=I.tuple hq
    have hlen:=r'.length;obtain⟨o,ho,hc,n,hd⟩:=pl;exact call_list_seq p (.inr rfl) ho hc hd (fun h' c' kp e=>fin its r' hz h' c' kp e) (by simp only[List.size_toArray]<;>omega)
theorem call_tuple_of:CallR X (.type "tuple") (fun xs H Q=>∃ p ys,xs=[.ref p]∧((SqL X.K H p ys∧∀ l,H l=none→Q (.ref l) (upd H l (.tup ys)))∨(SqT X.K H p ys∧Q (.ref p) H))):=by
  intro pins s σ H xs us Q I r h;obtain⟨p,ys,rfl,h⟩:=h;obtain⟨u,rfl,rx⟩:=vals1 r;cases rx;rcases h with⟨hq,q⟩|⟨hq,q⟩
  · obtain⟨its,r',pl,hz⟩:=I.list hq
    have hlen:=r'.length;refine call_tuple_list pl.isList (fun h' kp=>?_) (by simp only[List.size_toArray]<;>omega)
    have I1:Inv X pins σ H { s with heap:=h' }:=I.kept (t':=s.toks) kp
    have I2:Inv X pins σ (upd H h'.objs.size (.tup ys)) { s with heap:=h'.push { cls:=.type "tuple",data:=.seq its.toArray } }:=
      I1.laid (t':=s.toks) (fun b o e=>Heap.get?_push_of_some _ e) (Nat.le_refl _) (show ObjOk X.prog X.w _ _ _ (.tup ys) from⟨hz,its,r',IsTup.new _ _⟩)
    exact⟨.ref h'.objs.size,_,I2,rfl,q _ (I1.hok.fresh (Nat.le_refl _))⟩
  · obtain⟨its,r',pl,hz⟩:=I.tuple hq
    exact call_tuple_same pl ⟨.ref p,H,I,rfl,q⟩

def tyV(K:PySem.W.Frag)(T:String)(x:V)(H:Hp):Prop:=match x with
  |.str _=>T = "str"
  |.int _=>T = "int"
  |.ref p=>(T = "list"∧∃ xs,SqL K H p xs)∨(T = "tuple"∧∃ o,K.lookup p=some o∧o.cls=.type "tuple"∧o.dict=none) ∨
      (T = "dict"∧((∃ kvs,H p=some (.dK kvs))∨∃ kvs,H p=some (.dT kvs)))∨(T = "set"∧∃ S n,H p=some (.set S n))
  |_=>False
theorem tyV_is{pins:List (Addr×Obj)}{σ:St}{H:Hp}{s:Shared}{T:String}{x:V}{v:Value}(I:Inv X pins σ H s)(r:RelV x v)(ty:tyV X.K T x H) :
    s.TypeIs v T∧∀ a,v=.ref a→∃ ob,s.heap.get? a=some ob∧ob.dict=none:=by
  cases x with
  |str z=>
    obtain⟨t,rfl⟩:=r;cases (show T = "str" from ty)
    exact⟨typeIs_str s z t,fun _ e=>nomatch e⟩
  |int i=>
    obtain⟨t,rfl⟩:=r;cases (show T = "int" from ty)
    exact⟨typeIs_int s i t,fun _ e=>nomatch e⟩
  |ref p=>
    cases r;rcases ty with⟨rfl,xs,hq⟩|⟨rfl,o,hk,hc,hd⟩|⟨rfl,hk⟩|⟨rfl,S,n,hk⟩
    · obtain⟨its,_,pl,_⟩:=I.list hq
      refine⟨pl.isList.typeIs,fun a e=>?_⟩
      cases e;obtain⟨o,n,e,c,hd,_⟩:=pl;exact⟨o,e,hd⟩
    · refine⟨⟨o,I.kIn p o hk,hc⟩,fun a e=>?_⟩
      cases e;exact⟨o,I.kIn _ o hk,hd⟩
    · have z:∃ o,s.heap.get? p=some o∧o.ExactDict:=by
        rcases hk with⟨kvs,hk⟩|⟨kvs,hk⟩
        · obtain⟨_,_,_,_,o,_,_,e,ex,_⟩:=I.hok p _ hk
          exact⟨o,e,ex⟩
        · obtain⟨_,_,_,_,o,_,_,e,ex,_⟩:=I.hok p _ hk
          exact⟨o,e,ex⟩
      obtain⟨o,e,ex⟩:=z;refine⟨⟨o,e,ex.1⟩,fun a e2=>?_⟩
      cases e2;exact⟨o,e,ex.2.1⟩
    · obtain⟨o,_,_,_,e,ex,_⟩:=I.hok p _ hk
      refine⟨⟨o,e,ex.1⟩,fun a e2=>?_⟩
      cases e2;exact⟨o,e,ex.2.1⟩
  |_=>exact False.elim ty
noncomputable def tBM(K:PySem.W.Frag)(T:String)(r:V→List V→Hp→VK→Prop)(to:TE)(t:TA):TE:=fun σ H Q=>to σ H fun x H1=>tyV K T x H1∧t σ H1 fun xs H2=>r x xs H2 Q
variable {o e:Expr}{es:List Expr}{to:TE}{t:TA}{name:Str}{apos cpos:Pos}{T id:String}{r:V→List V→Hp→VK→Prop}
theorem pe_bm(pa:PlainAttrs T)(slot:Slot T name id)(hty:typeOf (.builtin id)=pure (.type "method_descriptor"))(hm:MtR X id r)(ho:PE X o to)(ha:PA X (e :: es) t)(hbase:attributeBase o name X.env (eval o X.env)=eval o X.env:=by rfl)(hfew:((backTo cpos (starEach (e :: es) X.env)).all (fun x=>!x.1)&&(backToKw cpos (keywordEach [] X.env)).all (fun x=>x.1.isSome)
     &&decide ((e :: es).length+([]:List Keyword).length+(if ([]:List Keyword).isEmpty then 0 else 1) < 30))=true:=by rfl)(hline:(apos.endLine==cpos.line)=true:=by rfl)(hs:starEach (e :: es) X.env=(false,eval e X.env) :: starEach es X.env:=by rfl)(hplain:(backTo cpos (starEach es X.env)).any (·.1)=false:=by rfl) :
    PE X (.Call (.Attribute o name apos) (e :: es) [] cpos) (tBM X.K T r to t):=by
  intro pins s σ H Q I h;refine wpAny_Call_method_late hbase hfew hline rfl (thn (ho pins s σ H _ I h) fun v s1 ⟨x,H1,I1,r1,ty,q1⟩=>?_)
  obtain⟨h1,h2⟩:=tyV_is I1 r1 ty;refine⟨T,id,pa,slot,hty,h1,h2,?_⟩;have hA:=ha cpos pins s1 σ H1 _ I1 q1;rw[hs]at hA ⊢;refine Calls.callWith_builtin (by show(false||(backTo cpos (starEach es X.env)).any (·.1))=false;rw[hplain]<;>rfl) (Calls.evalArgs_plain ?_)
  exact thn hA fun us s2 ⟨vs,H2,I2,r2,q2⟩=>hm pins s2 σ H2 x vs v us Q I2 r1 r2 q2
end
end L2

namespace L2
open PySem PySem.Spec PyProof.Rows

def MtM(X:Cx)(id:String)(r:V→List V→Hp→VK→Prop):Prop:=
  ∀ (pins:List (Addr×Obj)) (s:Shared) (σ:St) (H:Hp) (x:V) (xs:List V) (v:Value) (us:List Value) (Q:VK),Inv X pins σ H s→RelV x v→Vals xs us→r x xs H Q→
    wpAny (model X.prog X.w) X.A (call (.builtin id) (v :: us)) (EP X pins σ Q) X.xe s

theorem Vals.one{x:V}{us:List Value}(h:Vals [x] us):∃ u,us=[u]∧RelV x u:=by
  cases h with
  |cons r h=>cases h;exact⟨_,rfl,r⟩
theorem Vals.two{x y:V}{us:List Value}(h:Vals [x,y] us):∃ u v,us=[u,v]∧RelV x u∧RelV y v:=by
  cases h with
  |cons r h=>cases h with
    |cons q h=>cases h;exact⟨_,_,rfl,r,q⟩
theorem Vals.rep{xs:List V}{us:List Value}(h:Vals xs us):∀ k:Nat,Vals (List.replicate k xs).flatten (List.replicate k us).flatten
  |0=>.nil
  |k+1=>by
    rw[List.replicate_succ,List.replicate_succ,List.flatten_cons,List.flatten_cons];exact Vals.append h (Vals.rep h k)
theorem foldl_rep(its:List Value):∀ (k:Nat) (acc:List Value),
    List.foldl (fun x1 x2=>x1++x2) acc.toArray (List.replicate k its.toArray)=(acc++(List.replicate k its).flatten).toArray
  |0,acc=>by simp
  |k+1,acc=>by
    have e:acc.toArray++its.toArray=(acc++its).toArray:=by simp
    have e2:(acc++its)++(List.replicate k its).flatten=acc++(List.replicate (k+1) its).flatten:=by
      rw[List.replicate_succ,List.flatten_cons,List.append_assoc]
    rw[←e2,←foldl_rep its k (acc++its),←e,List.replicate_succ,List.foldl_cons]

section
variable {X:Cx}{pins:List (Addr×Obj)}{σ:St}{H:Hp}{s:Shared}{l b:Addr}{xs ys zs:List V}

theorem Inv.lset{its its':List Value}{n:Nat}{f:Array Value→Array Value}{t':Nat}(I:Inv X pins σ H s)(hH:H l=some (.lst xs))(e:s.heap.get? l=some { cls:=.type "list",data:=.seq its.toArray n })(hf:f its.toArray=its'.toArray)(hv:Vals ys its')(hz:ys.length≤sizeLine) :
    Inv X pins σ (upd H l (.lst ys)) { s with heap:=s.heap.update l (Obj.mapSeq f),toks:=t' }:=by
  have q:=PySem.IsL.update e f;rw[hf]at q;refine I.write (x:=l) (e:=l) (by rw[hH];exact trivial) (.inl rfl) (fun b' u hb hu=>(Heap.get?_update_other s.heap (Obj.mapSeq f) (Ne.symm hb)).trans hu) ⟨_,q⟩ ?_
  exact⟨hz,its',_,hv,q⟩
theorem Inv.lnew{its:List Value}{t':Nat}(I:Inv X pins σ H s)(hv:Vals ys its)(hz:ys.length≤sizeLine) :
    Inv X pins σ (upd H s.heap.objs.size (.lst ys)) { s with heap:=s.heap.push { cls:=.type "list",data:=.seq its.toArray },toks:=t' }:=
  I.laid (fun _ _ q=>Heap.get?_push_of_some _ q) (Nat.le_refl _) ⟨hz,its,0,hv,Heap.get?_push_size _ rfl⟩
theorem Inv.fresh(I:Inv X pins σ H s):H s.heap.objs.size=none:=I.hok.fresh (Nat.le_refl _)
theorem Inv.lstM(I:Inv X pins σ H s)(hH:H l=some (.lst xs)):xs.length≤sizeLine∧∃ (its:List Value) (n:Nat),Vals xs its∧xs.length=its.length∧s.heap.get? l=some { cls:=.type "list",data:=.seq its.toArray n }:=by
  obtain⟨z,its,n,r,e⟩:=I.hok l _ hH;exact⟨z,its,n,r,r.length,e⟩

theorem notLongL{n:Nat}(h:n≤sizeLine):Builtin.List.listTooLong n=false:=by
  unfold Builtin.List.listTooLong;exact decide_eq_false (by omega)
end

section
variable {X:Cx}

def rAppend:V→List V→Hp→VK→Prop:=fun x vs H Q=>∃ l xs y,x=.ref l∧vs=[y]∧H l=some (.lst xs)∧xs.length < sizeLine∧Q .non (upd H l (.lst (xs++[y])))
theorem mt_append:MtM X "list.append" rAppend:=by
  intro pins s σ H x vs v us Q I rx rv h;obtain⟨l,xs,y,rfl,rfl,hH,hz,q⟩:=h;cases rx;obtain⟨u,rfl,ru⟩:=rv.one;obtain⟨z,its,n,r,hl,e⟩:=I.lstM hH;refine call_meets F.slot_list_append ⟨_,e,rfl⟩ F.entry_list_append (F.args_list_append_2 _ _) (PySem.list_append l its.toArray n u (by rw[List.size_toArray];omega)) ⟨e,?_⟩
  refine⟨.non,_,I.lset (its':=its++[u]) hH e (by simp) (r.append (.cons ru .nil)) ?_,rfl,q⟩
  rw[List.length_append,List.length_singleton];omega

def rExtend:V→List V→Hp→VK→Prop:=fun x vs H Q=>∃ l b xs zs,x=.ref l∧vs=[.ref b]∧H l=some (.lst xs)∧H b=some (.lst zs)∧xs.length+zs.length≤sizeLine∧Q .non (upd H l (.lst (xs++zs)))
theorem mt_extend:MtM X "list.extend" rExtend:=by
  intro pins s σ H x vs v us Q I rx rv h;obtain⟨l,b,xs,zs,rfl,rfl,hH,hB,hz,q⟩:=h;cases rx;obtain⟨u,rfl,ru⟩:=rv.one;cases ru;obtain⟨z,its,n,r,hl,e⟩:=I.lstM hH;obtain⟨z2,its2,n2,r2,hl2,e2⟩:=I.lstM hB;have hsz:its.toArray.size+its2.toArray.size≤sizeLine:=by rw[List.size_toArray,List.size_toArray];omega
  have hlong:¬(!its.toArray.isEmpty&&Builtin.List.listTooLong (its.toArray.size+its2.toArray.size))=true:=by
    rw[notLongL hsz,Bool.and_false];exact Bool.false_ne_true
  refine call_meets F.slot_list_extend ⟨_,e,rfl⟩ F.entry_list_extend (F.args_list_extend_2 _ _)
    (AutoSeq1.list_extend_list_list_0 l its.toArray n b its2.toArray n2 hlong (by rw[List.size_toArray];omega) (by omega)) ⟨e,e2,?_⟩
  refine⟨.non,_,I.lset (its':=its++its2) hH e (by simp) (r.append r2) ?_,rfl,q⟩
  rw[List.length_append];omega





noncomputable def rRep:R2:=fun x y H Q=>∃ l k xs,x=.ref l∧y=.int k∧H l=some (.lst xs)∧-(2 ^ 63)≤k∧k < 2 ^ 63∧xs.length * k.toNat≤sizeLine ∧
  ∀ p,H p=none→Q (.ref p) (upd H p (.lst (List.replicate k.toNat xs).flatten))
theorem len_rep{α:Type}(xs:List α)(k:Nat):(List.replicate k xs).flatten.length=k * xs.length:=by
  induction k with
  |zero=>simp
  |succ k ih=>rw[List.replicate_succ,List.flatten_cons,List.length_append,ih,Nat.succ_mul,Nat.add_comm]
theorem op_rep:OpR X (binaryOp .Mult) rRep:=by
  intro pins s σ H x y v u Q I rx ry h;obtain⟨l,k,xs,rfl,rfl,hH,h1,h2,hz,q⟩:=h;cases rx;obtain⟨t,rfl⟩:=ry;obtain⟨z,its,n,r,hl,e⟩:=I.lstM hH;have hlen:its.toArray.size * k.toNat≤sizeLine:=by rw[List.size_toArray,←hl];exact hz
  have hcap:¬its.toArray.size * k.toNat > (2 ^ 63 - 1) / 8:=by
    have:(sizeLine:Nat)≤(2 ^ 63 - 1) / 8:=by decide
    omega
  have hfit:¬(!Builtin.List.listFitsIndex k)=true:=by
    rw[fitsIndex_both h1 h2];exact Bool.false_ne_true
  have hlong:¬Builtin.List.listTooLong (its.toArray.size * k.toNat)=true:=by
    rw[notLongL hlen];exact Bool.false_ne_true
  have hnew:List.foldl (fun x1 x2=>x1++x2) #[] (List.replicate (if its.toArray.isEmpty=true then 0 else k.toNat) its.toArray)=(List.replicate k.toNat its).flatten.toArray:=by
    have f0:∀ m:Nat,List.foldl (fun x1 x2=>x1++x2) #[] (List.replicate m its.toArray)=(List.replicate m its).flatten.toArray:=fun m=>by
      have:=foldl_rep its m [];rw[List.nil_append]at this;exact this
    rw[f0];cases its with
    |nil=>simp
    |cons a r'=>rw[if_neg (by simp)]
  refine wpAny_binaryOp_repeat_ref (T := "list") (U := "int") (by decide) ⟨_,e,rfl⟩ (fun s'=>typeIs_int s' k t) noFill_list_mul F.fills_int_mul F.slot_int_rmul repeat_list F.slot_int_index.lookup
    (call_meets F.slot_int_rmul (typeIs_int s k t) F.entry_int_rmul (F.args_int_rmul_2 _ _) (int___rmul___int_list k t l its.toArray n)
      ⟨e,rfl,⟨_,e,rfl⟩,call_meets F.slot_list_mul ⟨_,e,rfl⟩ F.entry_list_mul (F.args_list_mul_2 _ _) (AutoListH.list___mul___list_int_3 l its.toArray n k t hfit hcap hlong) ⟨e,?_⟩⟩)
  rw[hnew];exact⟨.ref _,_,I.lnew (t':=s.toks) (r.rep k.toNat) (by rw[len_rep,Nat.mul_comm];exact hz),rfl,q _ I.fresh⟩

end

section
variable {prog:Program}{w:World}{A:Around}{E:Value→Shared→Prop}{s:Shared}
end

section
variable {X:Cx}
end
end L2

namespace Att
open PySem PySem.W PySem.Calls PyProof.Rows

theorem ints_of_wellAll{P:Params}{h:Heap}:∀ (ns:List Int) (vs:List Value),WellAll P h vs (ns.map WData.int)→IntsAre vs ns:=by
  intro ns
  induction ns with
  |nil=>
    intro vs w;rw[List.map_nil]at w;cases w;exact .nil
  |cons n ns ih=>
    intro vs w;rw[List.map_cons]at w;cases w with
    |cons a b=>
      cases a;exact .cons _ _ (ih _ b)

theorem script_of{l:OpenLaw}{n:Nat}(hn:l.most=some n){P:Params}{h:Heap}{args:List WData}{vals:List Value}(hpre:l.row.toRowW.claim.pre args=true)(hwl:WellAll P h vals args) :
    ∃ a vs ns,vals=[Value.ref a]∧args=[WData.list (ns.map WData.int)]∧h.get? a=some { cls:=.type "list",data:=.seq vs.toArray }∧IntsAre vs ns∧ns.length≤n:=by
  have hsh:WShape.hasAll [] args [.list .int]=true:=(pre_splitW hpre).1;have hc:l.pre.holds [] { args:=args }=true:=(pre_splitW hpre).2;obtain⟨d,r,rfl,h1,h2⟩:=hasAllW_cons hsh;obtain rfl:=hasAllW_nil h2;obtain⟨xs,rfl,h3⟩:=hasW_list h1;obtain⟨ns,rfl⟩:=items_int h3;have hlen:ns.length≤n:=by
    unfold OpenLaw.pre at hc;have h4:(WTm.not (.lt (.lit (.int (n:Int))) (.len (.arg 0)))).holds [] { args:=[.list (ns.map .int)] }=true:=by
      have h4:=(holds_andW hc).1;rw[hn]at h4;exact h4
    have h5:=condW_of h4 (w_not (w_lt w_lit (w_len_list (w_arg rfl))));rw[List.length_map]at h5;refine Nat.le_of_not_lt fun q=>?_
    have q':(n:Int) < ((ns.length:Nat):Int):=by omega
    first
      | (rw[decide_eq_true q']at h5;exact absurd h5 (by decide))
      | (simp at h5;omega)
  cases hwl with
  |cons w1 w2=>
    cases w2;cases w1 with
    |list ho hall=>exact⟨_,_,ns,rfl,rfl,ho,ints_of_wellAll ns _ hall,hlen⟩

theorem post_true(l:OpenLaw)(args:List WData):l.row.toRowW.claim.post args (.bool true) args=true:=
  postW_of (r:=l.row.toRowW) (X:=(true==true))
    (show WShape.has [] (.bool true) .bool=true by first|rfl|decide|simp[WShape.has,WShape.arms,WShape.armsAll])
    (show(WTm.eq .res (.lit (.bool true))).value [] { args:=args,res:=some (.bool true),after:=args }=some (.bool (true==true)) from w_eq_bool (w_res rfl) w_lit) rfl


theorem attach_call{l:OpenLaw}{n:Nat}{q:Program}{loose:List Str}{XP:(Str→Option Value)→Heap→Prop}{YP:World→Heap→Prop}{d:DefRec}(hn:l.most=some n)(hdf:d.params.defaults=[])(call:∀ (w:World) (s₀ s₁:Shared) (mg mb:Str→Option Value) (fa:Addr) (o:Obj) (pm cd doc:Value) (a:Addr) (vs:List Value) (ns:List Int),
      Ground q loose [] XP w s₀ mg mb s₁.heap→YP w s₁.heap→
      s₁.heap.get? fa=some o→o.data=.func (docDef d.name d.params d.body d.scope pm cd doc)→s₁.heap.CodeRec cd d.name→mg d.name=some (.ref fa)→
      s₁.heap.get? a=some { cls:=.type "list",data:=.seq vs.toArray }→IntsAre vs ns→ns.length≤n→s₁.gens=#[]→
      codeAny (model l.prog w) callerA (.call (.ref fa) ⟨[.ref a],[]⟩) (fun r s'=>r=.ok (.ret (.bool true))∧OldK s₁.heap s'.heap∧s'.os=s₁.os∧AllBare s'.gens) s₁) :
    WalkO q loose XP YP l.row.toRowW d [] (fun f vs=>PySem.call f vs):=by
  intro w s₀ s₁ mg mb G Y fa o pm cd doc dV kV ho hd hcd hD hmg hg args vals as hpre hlay hrd hwl hlo;obtain rfl:dV=.none:=Dflts.none hD hdf;obtain rfl:kV=.none:=Dflts.noKw hD;obtain⟨a,vs,ns,rfl,rfl,hobj,hints,hlen⟩:=script_of hn hpre hwl;refine enter_call (codeAny_mono (call w s₀ s₁ mg mb fa o pm cd doc a vs ns G Y ho (fd_plain hd) hcd hmg hobj hints hlen hg) fun r s' hq=>?_)
  obtain⟨rfl,h2,h3,h4⟩:=hq;exact⟨.inl ⟨.bool true,.bool true,[],rfl,fun _=>rfl,.bool true,post_true l _,fun _=>⟨List.Pairwise.nil,fun _ hm=>(nomatch hm)⟩⟩,h2,h3,h4⟩


section
variable {prog:Program}{w:World}{A:Around}{E:Value→Shared→Prop}{s:Shared}{K:Frag}






end
end Att

namespace L2
open PySem PySem.Spec PyProof.Rows

theorem vals_ints:∀ {vs:List Value}{ns:List Int},IntsAre vs ns→Vals (ns.map V.int) vs
  |_,_,.nil=>.nil
  |_,_,.cons n t h=>.cons ⟨t,rfl⟩ (vals_ints h)

def Only(H:Hp):Prop:=∀ b,H b=none∨∃ o xs,H b=some (.frz o (.lst xs))

theorem law_call{P:Program}{w:World}{K:PySem.W.Frag}{mg mb:Str→Option Value}{CX:CXT}{k:Nat}{fa a:Addr}{fd:FuncData}{x:Str}{sp:Sp}{s₁:Shared}{vs:List Value}{ns:List Int}(KX:K.In s₁.heap)(hns:s₁.heap.Ns mainGlobals mg)(hb:s₁.heap.Ns builtinsNs mb)(hbb:∀ x:Str,x ≠ "__name__"→mb x=bootBuiltins x)(hlim:s₁.heap.NoLimit)(hg:s₁.gens=#[])(ha:s₁.heap.get? a=some { cls:=.type "list",data:=.seq vs.toArray })(hi:IntsAre vs ns)(hl:ns.length≤sizeLine)(hr:Room k callerA)(F:∀ base:Heap,K.In base→base.Ns mainGlobals mg→FnOk P w K mg base CX k fa fd [x] sp)(hbind:∀ (s:Shared) (u:Value),BindsTo s fd ⟨[u],[]⟩ [(x,u)])(hsp:∀ H:Hp,Only H→SqL K H a (ns.map V.int)→sp [.ref a] H (fun v _=>v=.bl true) fun _ _ _=>False)(hCX:∀ H e s',CX [] H s₁ (fun _ _ _=>False) e s'→False) :
    codeAny (model P w) callerA (.call (.ref fa) ⟨[.ref a],[]⟩) (fun r s'=>r=.ok (.ret (.bool true))∧OldK s₁.heap s'.heap∧s'.os=s₁.os∧AllBare s'.gens) s₁:=by
  have rv:=vals_ints hi;have lenV:=hi.length
  -- from an abstract heap in which nothing but the script may be tracked
  have core:∀ H:Hp,Only H→SqL K H a (ns.map V.int)→HOk P w H s₁.heap→(∀ b,H b≠none→b=a)→(H a≠none→K.lookup a=none)→
      codeAny (model P w) callerA (.call (.ref fa) ⟨[.ref a],[]⟩) (fun r s'=>r=.ok (.ret (.bool true))∧OldK s₁.heap s'.heap∧s'.os=s₁.os∧AllBare s'.gens) s₁:=by
    intro H hO hS hok hA hK;have base_of:∀ {b:Addr}{o:Obj},s₁.heap.get? b=some o→H b=none→(hidT s₁.heap H).get? b=some o:=fun e n=>hidT_get e n
    have noA:∀ {b:Addr}{o:Obj}{es:Array DictEntry}{ep:Nat},s₁.heap.get? b=some o→o.data=.dict es ep→H b=none:=fun {b o es ep} e d=>by
      cases q:H b with
      |none=>rfl
      |some u=>
        have e':b=a:=hA b (by rw[q];simp)
        subst e';rw[ha]at e;cases e
        have d':Data.seq vs.toArray _=Data.dict es ep:=d;cases d'
    have nsK:∀ {b:Addr}{m:Str→Option Value},s₁.heap.Ns b m→(hidT s₁.heap H).Ns b m:=fun {b m} ⟨o,es,ep,e,d,r⟩=>⟨o,es,ep,base_of e (noA e d),d,r⟩
    have hKb:K.In (hidT s₁.heap H):=fun b o e=>base_of (KX b o e) (by
      cases q:H b with
      |none=>rfl
      |some u=>
        have e':b=a:=hA b (by rw[q];simp)
        subst e';rw[hK (by rw[q];simp)]at e;cases e)
    have hM:Mod K mg (hidT s₁.heap H):=⟨hKb,nsK hns,⟨mb,nsK hb,hbb⟩,let ⟨mc,h1,h2⟩:=hlim;⟨mc,nsK h1,h2⟩⟩
    have e0:Env0 P w K mg (hidT s₁.heap H) callerA [] s₁ H:=⟨rfl,hM,fun b o e=>of_hidT e,Nat.le_of_eq (hidT_size _ _),trivial,fun b hb=>absurd (show b∈([]:List Addr) from hb) (by simp),hok,.of_eq hg⟩
    refine codeAny_mono ((F _ hKb (nsK hns)).run callerA [] s₁ H ⟨[.ref a],[]⟩ [.ref a] [.ref a] _ _ hr e0 (hbind s₁ (.ref a)) (.cons rfl .nil) (hsp H hO hS)) fun r s' h=>?_
    cases r with
    |error e=>exact(hCX H e s' h).elim
    |ok fl=>
      cases fl with
      |next=>exact False.elim h
      |brk=>exact False.elim h
      |cont=>exact False.elim h
      |ret u=>
        obtain⟨v,H',os,bare,un,hok',r',q⟩:=h;have q':v=.bl true:=q;subst q';obtain rfl:u=Value.bool true:=r';refine⟨rfl,OldK.of_keep fun b o e=>?_,os,bare⟩
        cases q:H b with
        |none=>exact un.keep b o e q (by intro z;exact absurd (show b∈([]:List Addr) from z) (by simp)) (by simp)
        |some u=>
          rcases hO b with z|⟨ob,xs,z⟩
          · rw[q]at z;cases z
          · have z2:=un.frzs b ob _ z
            obtain⟨e1,_⟩:=hok b _ z;obtain⟨e2,_⟩:=hok' b _ z2;rw[e]at e1;cases e1
            exact e2
  cases hk:K.lookup a with
  |some o=>
    -- the script is one of the module's own objects
    have e:=KX a o hk;rw[ha]at e;cases e;refine core (fun _=>none) (fun _=>.inl rfl) (.inr ⟨_,vs.toArray,_,hk,rfl,rfl,rfl,by rw[List.size_toArray,lenV];exact hl,by simpa using rv⟩) (fun b u z=>by have z':(none:Option HO)=some u:=z;cases z') (fun b z=>absurd rfl z) fun z=>absurd rfl z
  |none=>
    refine core (fun b=>if b=a then some (.frz { cls:=.type "list",data:=.seq vs.toArray } (.lst (ns.map V.int))) else none) (fun b=>?_) (.inl (.inr ⟨{ cls:=.type "list",data:=.seq vs.toArray },if_pos rfl⟩)) (fun b u z=>?_) (fun b z=>?_) fun _=>hk
    · by_cases hb:b=a
      · exact .inr ⟨_,_,if_pos hb⟩
      · exact .inl (if_neg hb)
    · by_cases hb:b=a
      · have z':=(if_pos hb).symm.trans z
        cases z';subst hb;exact⟨ha,by rw[List.length_map];exact hl,vs,_,rv,ha⟩
      · have z':=(if_neg hb).symm.trans z
        cases z'
    · by_cases hb:b=a
      · exact hb
      · exact absurd (if_neg hb) z
end L2

namespace L2
open PySem PySem.Spec PyProof.Rows


theorem walk_of{l:PySem.W.OpenLaw}{n k:Nat}{q:Program}{loose:List Str}{XP:(Str→Option Value)→Heap→Prop}{YP:World→Heap→Prop}{d:DefRec}{K:Params→PySem.W.Frag}{CX:World→CXT}{sp:World→Sp}{x:Str}(hn:l.most=some n)(hn2:n≤sizeLine)(hdf:d.params.defaults=[])(hr:Room k callerA)(hY:∀ (w:World) (h:Heap),YP w h→(K w.params).In h)(F:∀ (w:World) (mg:Str→Option Value) (fa:Addr) (h:Heap),(K w.params).In h→h.Ns mainGlobals mg→mg d.name=some (.ref fa)→
      ∃ fd:FuncData,(∀ (s:Shared) (u:Value),BindsTo s fd ⟨[u],[]⟩ [(x,u)]) ∧
        ∀ base:Heap,(K w.params).In base→base.Ns mainGlobals mg→FnOk l.prog w (K w.params) mg base (CX w) k fa fd [x] (sp w))(hsp:∀ (w:World) (H:Hp) (a:Addr) (ns:List Int),ns.length≤n→Only H→SqL (K w.params) H a (ns.map V.int)→sp w [.ref a] H (fun v _=>v=.bl true) fun _ _ _=>False)(hCX:∀ (w:World) (H:Hp) (s:Shared) (e:Value) (s':Shared),CX w [] H s (fun _ _ _=>False) e s'→False) :
    PySem.W.WalkO q loose XP YP l.row.toRowW d [] (fun f vs=>PySem.call f vs):=by
  refine Att.attach_call hn hdf fun w s₀ s₁ mg mb fa o pm cd doc a vs ns G Y ho hd hcd hmg hobj hints hlen hg=>?_
  have KX:=hY w _ Y;obtain⟨fd,hb,hF⟩:=F w mg fa _ KX G.T.g hmg;exact law_call KX G.T.g G.T.b G.T.builtins G.T.nolimit hg hobj hints (Nat.le_trans hlen hn2) hr hF hb (fun H hO hS=>hsp w H a ns hlen hO hS) fun H e s'=>hCX w H s₁ e s'
end L2


namespace L2
open PySem PySem.Spec PyProof.Rows

noncomputable def defArgs(s:Stmt):Arguments:=match s with
  |.FunctionDef _ a _ _ _ _ _ _ _ _=>a
  |_=>{ posonlyargs:=[],args:=[],vararg:=none,kwonlyargs:=[],kw_defaults:=[],kwarg:=none,defaults:=[] }
noncomputable def defBody(s:Stmt):List Stmt:=match s with
  |.FunctionDef _ _ b _ _ _ _ _ _ _=>b
  |_=>[]
noncomputable def defScope(s:Stmt):Scope:=match s with
  |.FunctionDef _ _ _ _ _ _ sc _ _ _=>sc
  |_=>{ kind:=.function,names:=[],isGenerator:=false,isCoroutine:=false }

noncomputable abbrev CX0:CXT:=fun _ _ _ _ _ _=>False
noncomputable abbrev E0:XK:=fun _ _ _=>False
theorem pass0{X:Cx}:Passes CX0 X E0:=fun _ _ _ _ _ _ _ h=>h.elim

structure Fun(K:PySem.W.Frag)(x qual:Str)(st:Stmt)(f:Addr)(fd:FuncData):Prop where
  ex:∃ (oc:Value) (od:Option Addr) (kV doc pm:Value) (an:Option Addr) (cdv ct:Value) (osl:Array (Option Value)),
    fd=PySem.W.fnOf x qual (defArgs st) (defBody st) (defScope st) .none kV doc pm an cdv ct∧K.lookup f=some ⟨oc,od,.func fd,osl⟩∧PySem.W.codeIn K cdv qual=true
  kp:PySem.W.keepIn K (.ref f)=true
section
variable {P:Program}{w:World}{K:PySem.W.Frag}{mg:Str→Option Value}{base:Heap}
end

section
variable {X:Cx}
end



end L2



namespace L2
open PySem PySem.Spec PyProof.Rows
section
variable {κ:Type} [DecidableEq κ]
noncomputable def valV(kvs:List (κ×V))(k:κ):Option V:=(kvs.find? fun kv=>decide (kv.1=k)).map (·.2)
noncomputable def putK(kvs:List (κ×V))(k:κ)(v:V):List (κ×V):=
 if (kvs.any fun kv=>decide (kv.1=k))=true then kvs.map (fun kv=>if kv.1=k then (kv.1,v) else kv) else kvs++[(k,v)]
theorem valV_pos{p:κ×V}{r:List (κ×V)}{k:κ}(e:p.1=k):valV (p :: r) k=some p.2:=by simp[valV,List.find?_cons,e]
theorem valV_neg{p:κ×V}{r:List (κ×V)}{k:κ}(e:¬p.1=k):valV (p :: r) k=valV r k:=by simp[valV,List.find?_cons,e]
theorem RelO.isSome_eq{o:Option V}{u:Option Value}(r:RelO o u):o.isSome=u.isSome:=by
 cases o with
 |none=>cases u with
  |none=>rfl
  |some _=>exact(show False from r).elim
 |some _=>cases u with
  |none=>exact(show False from r).elim
  |some _=>rfl
theorem KV.val{kvs:List (κ×V)}{vs:List (κ×Value)}(r:KV kvs vs)(k:κ):RelO (valV kvs k) (valueAt vs k):=by
 unfold KV at r
 induction r with
 |nil=>exact True.intro
 |@cons p q ps qs h t ih=>
  obtain⟨h1,h2⟩:=h;by_cases e:p.1=k
  ·have e':q.1=k:=h1.symm.trans e
   have b:valueAt (q :: qs) k=some q.2:=by simp[valueAt,List.find?_cons,e']
   rw[valV_pos e,b];exact h2
  ·have e':¬q.1=k:=fun z=>e (h1.trans z)
   have b:valueAt (q :: qs) k=valueAt qs k:=by simp[valueAt,List.find?_cons,e']
   rw[valV_neg e,b];exact ih
theorem KV.any{kvs:List (κ×V)}{vs:List (κ×Value)}(r:KV kvs vs)(k:κ):(kvs.any fun kv=>decide (kv.1=k))=vs.any fun kv=>decide (kv.1=k):=by
 unfold KV at r
 induction r with
 |nil=>rfl
 |cons h t ih=>rw[List.any_cons,List.any_cons,ih,h.1]
theorem KV.repl{kvs:List (κ×V)}{vs:List (κ×Value)}(r:KV kvs vs)(k:κ){y:V}{u:Value}(ry:RelV y u) :
  KV (kvs.map fun kv=>if kv.1=k then (kv.1,y) else kv) (vs.map fun kv=>if kv.1=k then (kv.1,u) else kv):=by
 unfold KV at r ⊢
 induction r with
 |nil=>exact .nil
 |@cons p q ps qs h t ih=>
  rw[List.map_cons,List.map_cons];refine .cons ?_ ih;obtain⟨h1,h2⟩:=h;by_cases e:p.1=k
  ·rw[if_pos e,if_pos (h1.symm.trans e)];exact⟨h1,ry⟩
  ·rw[if_neg e,if_neg (fun z=>e (h1.trans z))];exact⟨h1,h2⟩
theorem KV.put{kvs:List (κ×V)}{vs:List (κ×Value)}(r:KV kvs vs)(k:κ){y:V}{u:Value}(ry:RelV y u):KV (putK kvs k y) (stored vs k u):=by
 unfold putK stored;rw[r.any k];by_cases e:(vs.any fun kv=>decide (kv.1=k))=true
 ·rw[if_pos e,if_pos e];exact r.repl k ry
 ·rw[if_neg e,if_neg e];exact Paired.snoc r ⟨rfl,ry⟩
end
theorem kV_is{P:Program}{w:World}{k:Key}{u:Value}(r:RelV (kV k) u):(mixKind P w).is k u=true:=by
 cases k with
 |inl i=>obtain⟨t,e⟩:=(show ∃ t,u=Value.int i t from r);subst e;exact mixKind_int P w i t
 |inr x=>obtain⟨t,e⟩:=(show ∃ t,u=Value.str x t from r);subst e;exact mixKind_str P w x t
section
variable {P:Program}{w:World}{H:Hp}{h:Heap}{a:Addr}
theorem rd_of{u:HO}(ok:HOk P w H h)(e:Rd H a u):ObjOk P w H h a u:=e.ok ok
theorem dk_rd{kvs:List (Key×V)}(ok:HOk P w H h)(e:Rd H a (.dK kvs)):kvs.length≤sizeLine∧(a==sysModules)=false∧∃ vs,KV kvs vs∧h.DictOf (mixKind P w) a vs:=
 show ObjOk P w H h a (.dK kvs) from rd_of ok e
theorem dk_of{kvs:List (Key×V)}(ok:HOk P w H h)(e:H a=some (.dK kvs)):kvs.length≤sizeLine∧(a==sysModules)=false∧∃ vs,KV kvs vs∧h.DictOf (mixKind P w) a vs:=dk_rd ok (.inl e)
end
section
variable {X:Cx}{pins:List (Addr×Obj)}{σ:St}{H:Hp}{s:Shared}{a:Addr}{y v:V}{u r:Value}{o:Option V}{A:Around}{E:Value→Shared→Prop}
end
section
variable {X:Cx}
noncomputable def rIxD:R2:=fun x y H Q=>∃ p kvs k v,x=.ref p∧y=kV k∧H p=some (.dK kvs)∧valV kvs k=some v∧Q v H
theorem ix_dct:IxR X rIxD:=by
 intro value slice pins s σ H x y v u Q I rx ry h hs;obtain⟨p,kvs,k,z,rfl,rfl,hq,he,q⟩:=h;cases rx;obtain⟨zz,hd,vs,rel,dd⟩:=dk_of I.hok hq;obtain⟨w',hw,rw'⟩:=RelO.some_of (v:=z) (o:=valueAt vs k) (by rw[←he];exact rel.val k)
 exact tail_any dd.typeIs PySem.F.slot_dict_getitem.lookup (wpAny_getItem_of (kV_is ry) dd.mapOf hw ⟨z,H,I.tok _,rw',q⟩) hs
noncomputable def rInD:R2:=fun x y H Q=>∃ p kvs k,y=.ref p∧x=kV k∧H p=some (.dK kvs)∧Q (.bl (valV kvs k).isSome) H
theorem op_in_dct:OpR X (compareOp .In) rInD:=by
 intro pins s σ H x y v u Q I rx ry h;obtain⟨p,kvs,k,rfl,rfl,hq,q⟩:=h;cases ry;obtain⟨zz,hd,vs,rel,dd⟩:=dk_of I.hok hq;refine wpAny_in_of (kV_is rx) hd dd.mapOf ?_;rw[←(rel.val k).isSome_eq];exact⟨.bl (valV kvs k).isSome,H,I.tok _,rfl,q⟩
end
section
variable {κ:Type} [DecidableEq κ]
theorem valV_any(k:κ):∀ kvs:List (κ×V),(kvs.any fun kv=>decide (kv.1=k))=(valV kvs k).isSome
 |[]=>rfl
 |p :: r=>by
  rw[List.any_cons];by_cases e:p.1=k
  ·simp only[valV_pos e,decide_eq_true e,Bool.true_or,Option.isSome_some]
  ·rw[valV_neg e,decide_eq_false e,Bool.false_or];exact valV_any k r
end
abbrev KTp(H:Hp):List (List Key×V)→List (List Key×Addr×Value)→Prop:=Paired fun p q=>p.1=q.1∧H q.2.1=some (.tup (p.1.map kV))∧RelV p.2 q.2.2
theorem KTp.val{H:Hp}{kvs:List (List Key×V)}{xs:List (List Key×Addr×Value)}(r:KTp H kvs xs)(k:List Key):RelO (valV kvs k) ((atKey xs k).map (·.2)):=by
 induction r with
 |nil=>exact True.intro
 |@cons p q ps qs h t ih=>
  obtain⟨h1,_,h2⟩:=h;by_cases e:p.1=k
  ·have e':q.1=k:=h1.symm.trans e
   have b:atKey (q :: qs) k=some q.2:=by simp[atKey,List.find?_cons,e']
   rw[valV_pos e,b];exact h2
  ·have e':¬q.1=k:=fun z=>e (h1.trans z)
   have b:atKey (q :: qs) k=atKey qs k:=by simp[atKey,List.find?_cons,e']
   rw[valV_neg e,b];exact ih
theorem KTp.repl{H:Hp}{kvs:List (List Key×V)}{xs:List (List Key×Addr×Value)}(r:KTp H kvs xs)(k:List Key){y:V}{u:Value}(ry:RelV y u) :
  KTp H (kvs.map fun kv=>if kv.1=k then (kv.1,y) else kv) (xs.map (putAt k u)):=by
 induction r with
 |nil=>exact .nil
 |@cons p q ps qs h t ih=>
  rw[List.map_cons,List.map_cons];refine .cons ?_ ih;obtain⟨h1,h2,h3⟩:=h;unfold putAt;by_cases e:p.1=k
  ·rw[if_pos e,if_pos (h1.symm.trans e)];exact⟨h1,h2,ry⟩
  ·rw[if_neg e,if_neg (fun z=>e (h1.trans z))];exact⟨h1,h2,h3⟩
theorem KTp.put{H:Hp}{kvs:List (List Key×V)}{xs:List (List Key×Addr×Value)}(r:KTp H kvs xs)(k:List Key){b:Addr}{y:V}{u:Value}(hb:H b=some (.tup (k.map kV)))(ry:RelV y u) :
  KTp H (putK kvs k y) (storedH xs k b u):=by
 have e:(kvs.any fun kv=>decide (kv.1=k))=(atKey xs k).isSome:=by
  rw[valV_any,(r.val k).isSome_eq,Option.isSome_map]
 unfold putK storedH;rw[e];by_cases q:(atKey xs k).isSome=true
 ·rw[if_pos q,if_pos q];exact r.repl k ry
 ·rw[if_neg q,if_neg q];exact Paired.snoc r ⟨rfl,hb,ry⟩
theorem KTp.keeps{H H':Hp}{kvs:List (List Key×V)}{xs:List (List Key×Addr×Value)}(r:KTp H kvs xs)(ht:∀ b ys,H b=some (.tup ys)→H' b=some (.tup ys)):KTp H' kvs xs:=
 Paired.mapP r fun _ _ z=>⟨z.1,ht _ _ z.2.1,z.2.2⟩
section
variable {P:Program}{w:World}{H:Hp}{h:Heap}{a:Addr}
end
section
variable {X:Cx}
end
end L2


namespace Dp
open PySem
noncomputable abbrev S(x:String):Str:=Str.ofString x

inductive D where
 |non|bl (b:Bool)|int (i:Int)|str (x:Str)|tup (xs:List D)|lst (id:Nat)|dct (ks:List Str) (vs:List D)|obj (i:Nat)|kt (ks:List Str)|dic (id:Nat)

noncomputable abbrev Env:=List (Option D)
noncomputable abbrev Ue:=Bool×List D
noncomputable abbrev Za:=List Ue
noncomputable abbrev Res:=Option (D×Za)
noncomputable abbrev Fn:=List D→Za→Res

noncomputable def o2{α β γ:Type}(f:α→β→γ):Option α→Option β→Option γ
 |some x,some y=>some (f x y)
 |_,_=>none
noncomputable def og{α:Type}(p:Prop)[Decidable p](o:Option α):Option α:=if p then o else none
mutual
noncomputable def ZK:D→D→Bool
 |.non,.non=>true
 |.bl a,.bl b=>a==b
 |.int a,.int b=>decide (a=b)
 |.str a,.str b=>decide (a=b)
 |.tup a,.tup b=>ZS a b
 |_,_=>false
noncomputable def ZS:List D→List D→Bool
 |[],[]=>true
 |x :: xs,y :: ys=>ZK x y&&ZS xs ys
 |_,_=>false
end
mutual
noncomputable def okD:Nat→D→Bool
 |_,.non=>true
 |_,.int _=>true
 |_,.str _=>true
 |n+1,.tup xs=>YM n xs
 |_,_=>false
noncomputable def YM:Nat→List D→Bool
 |_,[]=>true
 |n,x :: xs=>okD n x&&YM n xs
end
inductive Sc where
 |non|bl (b:Bool)|int (i:Int)|str (x:Str)
noncomputable def scD:D→Option Sc
 |.non=>some .non
 |.bl b=>some (.bl b)
 |.int i=>some (.int i)
 |.str x=>some (.str x)
 |_=>none
noncomputable def ZbK:Sc→Sc→Option Bool
 |.non,.non=>some true
 |.non,.bl _=>some false
 |.non,.int _=>some false
 |.non,.str _=>some false
 |.bl _,.non=>some false
 |.bl a,.bl b=>some (a==b)
 |.bl _,.int _=>none
 |.bl _,.str _=>some false
 |.int _,.non=>some false
 |.int _,.bl _=>none
 |.int a,.int b=>some (decide (a=b))
 |.int _,.str _=>some false
 |.str _,.non=>some false
 |.str _,.bl _=>some false
 |.str _,.int _=>some false
 |.str a,.str b=>some (decide (a=b))
noncomputable def eqT(xs:List D):D→Option Bool
 |.tup ys=>if okD 8 (.tup xs)&&okD 8 (.tup ys) then some (ZS xs ys) else none
 |_=>none
noncomputable def eqD(x y:D):Option Bool:=match x with
 |.tup xs=>eqT xs y
 |x=>(o2 ZbK (scD x) (scD y)).join

inductive Ty where
 |int|bool|str|tuple
 deriving DecidableEq

set_option genInjectivity false in
inductive CE where
 |var (i:Nat)|cst (d:D)
 |bin (op:Operator) (a b:CE)|neg (a:CE)
 |cmp (op:CmpOp) (a b:CE)
 |not (a:CE)|and (a b:CE)|or (a b:CE)|ife (c a b:CE)
 |tupE (a:CE)|lstE (a:CE)|anil|acons (a r:CE)
 |ix (a b:CE)|slice (a lo hi:CE)|nop|part (a:CE)
 |call (f:Nat) (args:CE) (ds:List D)
 |len (a:CE)|tupleOf (a:CE)|listOf (a:CE)|intOf (a:CE)|min (a b:CE)|max (a b:CE)|isi (T:Ty) (a:CE)
 |comp (rng:Bool) (fr:List Nat) (it elt YK:CE)|comp2 (fr:List Nat) (it elt YK:CE)|compT (fr:List Nat) (it elt YK:CE)|lstR (a b:CE)|new (i:Nat)|meth (tab:List (Nat×Nat)) (o a:CE)|isc (l:List Nat) (a:CE)|tix (o a:CE)
 |rs (k:Bool) (a:CE)
 |inv (a:CE)|tupR (a:CE)|look (ks:List Str) (ds:List D) (a:CE)|dget (a k d:CE)|all (a:CE)|any (a:CE)|inR (ng:Bool) (a b:CE)
 |dict (ks:List Str) (a:CE)|dnew|strOf (a:CE)|joinE (a b:CE)|starts (a b:CE)|rng2 (a b:CE)

set_option genInjectivity false in
inductive CS where
 |skip|seq (a b:CS)|ret (e:CE)|set (i:Nat) (e:CE)|app (i:Nat) (e:CE)|ext (i:Nat) (e:CE)|put (i:Nat) (k e:CE)
 |ite (c:CE) (a b:CS)|for1 (i:Nat) (rng:Bool) (it:CE) (b:CS)|for3 (i:Nat) (it:CE) (b:CS)|forP (i j:Nat) (it:CE) (b:CS)|forE (i j:Nat) (it:CE) (b:CS)|set2 (i j:Nat) (e:CE)|for4 (i j l:Nat) (it:CE) (b:CS)|for2 (i j:Nat) (it:CE) (b:CS)|whl (c:CE) (b:CS)|brk|cont|stop|set3 (i j l:Nat) (e:CE)|act (e:CE)|dput (i:Nat) (a b e:CE)|app2 (o e:CE)

noncomputable def ZJ(i:Int):Bool:=decide (-(2 ^ 64) < i)&&decide (i < 2 ^ 64)
noncomputable def Zj:Nat:=1000000

noncomputable def Q6(op:Operator)(i j:Int):Option Int:=
 match op with
 |.Add=>some (i+j)
 |.Sub=>some (i - j)
 |.Mult=>if ZJ i||ZJ j then some (i * j) else none
 |.FloorDiv=>if 0 < j∧j < 1073741824 then some (i / j) else if j < 0∧-1073741824 < j then some (i.fdiv j) else none
 |.Mod=>if 0 < j then some (i % j) else if j < 0 then some (i.fmod j) else none
 |.LShift=>if 0≤j∧j≤1000∧ZJ i=true then some (i * 2 ^ j.toNat) else none
 |_=>none
noncomputable def YW:Operator→Bool
 |.Add=>true
 |_=>false
noncomputable def Xc:Operator→Bool
 |.Mult=>true
 |_=>false
noncomputable def ZdH(a b:Nat)(st:Za):Res:=match st[a]?,st[b]? with
 |some (_,xs),some (_,ys)=>if xs.length+ys.length≤Zj then some (.lst st.length,st++[(true,xs++ys)]) else none
 |_,_=>none
noncomputable def ZeI(a:Nat)(j:Int)(st:Za):Res:=match st[a]? with
 |some (true,[x])=>if j≤1000∧-1000≤j then some (.lst st.length,st++[(true,List.replicate j.toNat x)]) else none
 |_=>none
noncomputable def Zkg(xs:List D)(j:Int)(st:Za):Res:=match xs with
 |[x]=>if j≤1000∧-1000≤j then some (.tup (List.replicate j.toNat x),st) else none
 |_=>none
noncomputable def Vw(op:Operator)(x y:D)(st:Za):Res:=
 match x,y with
 |.int i,.int j=>match Q6 op i j with
  |some k=>some (.int k,st)
  |none=>none
 |.tup xs,.tup ys=>if YW op=true∧xs.length+ys.length≤Zj then some (.tup (xs++ys),st) else none
 |.tup xs,.int j=>if Xc op=true then Zkg xs j st else none
 |.lst a,.lst b=>if YW op=true then ZdH a b st else none
 |.lst a,.int j=>if Xc op=true then ZeI a j st else none
 |.str x,.str y=>if YW op=true∧x.length+y.length≤Zj then some (.str (x++y),st) else none
 |_,_=>none

noncomputable def Zin(x k:Str):Bool:=!(PySem.Builtin.Str.occurrences x k 0 x.length 1).isEmpty
noncomputable def chS(x:Str):List Str:=x.cps.toList.map fun c=>⟨#[c]⟩
noncomputable def Zjo(c:Nat):Bool:=decide (48≤c)&&decide (c≤57)
noncomputable def dgV(l:List Nat):Nat:=l.foldl (fun a c=>a * 10+(c - 48)) 0
noncomputable def Zh3(l:List Nat):Bool:=!l.isEmpty&&l.all Zjo&&decide (l.length≤600)
noncomputable def Zjm(x:Str):Option Int:=match x.cps.toList with
 |45 :: r=>if Zh3 r=true then some (-(dgV r:Int)) else none
 |l=>if Zh3 l=true then some (dgV l:Int) else none
noncomputable def Zac(_:Za)(_ _:List D):Option Bool:=none
noncomputable def ZaQ(xs ys:List D):Option Bool:=if (xs.isEmpty||ys.isEmpty)=true then some (xs.isEmpty&&ys.isEmpty) else if YM 7 xs&&YM 7 ys then some (ZS xs ys) else none
noncomputable def ZhU(st:Za)(xs:List D):D→Option Bool
 |.tup ys=>(match eqT xs (.tup ys) with
  |some k=>some k
  |none=>Zac st xs ys)
 |_=>none
noncomputable def ZhT(st:Za)(a:Nat):D→Option Bool
 |.lst b=>(o2 (fun(c d:Ue)=>ZaQ c.2 d.2) st[a]? st[b]?).join
 |_=>none
noncomputable def eqS(st:Za)(x y:D):Option Bool:=match x with
 |.lst a=>ZhT st a y
 |.tup xs=>ZhU st xs y
 |x=>eqD x y

noncomputable def Y5:Int→List D→Option Bool
 |_,[]=>some false
 |k,.int i :: r=>(Y5 k r).map fun b=>decide (i=k)||b
 |_,_=>none
noncomputable def Y6:Str→List D→Option Bool
 |_,[]=>some false
 |k,.str i :: r=>(Y6 k r).map fun b=>decide (i=k)||b
 |_,_=>none

noncomputable def ZC:List Str→List D→Str→Option D
 |k :: ks,v :: vs,x=>if k=x then some v else ZC ks vs x
 |_,_,_=>none
noncomputable def Js(f:Int→Int→Bool):D→D→Option Bool
 |.int i,.int j=>some (f i j)
 |_,_=>none
noncomputable def ltD(x y:D):Option Bool:=Js (fun i j=>decide (i < j)) x y
noncomputable def ltS(_:Za)(x y:D):Option Bool:=ltD x y
noncomputable def inS(st:Za)(x y:D):Option Bool:=match x,y with
 |.int k,.lst a=>match st[a]? with
  |some (_,xs)=>Y5 k xs
  |none=>none
 |.str k,.lst a=>match st[a]? with
  |some (_,xs)=>Y6 k xs
  |none=>none
 |.int k,.tup xs=>Y5 k xs
 |.str k,.tup xs=>Y6 k xs
 |.str k,.dct ks vs=>some (ZC ks vs k).isSome
 |.str k,.str x=>some (Zin x k)
 |_,_=>none
noncomputable def niS(st:Za)(x y:D):Option Bool:=match y with
 |.dct _ _=>none
 |y=>(inS st x y).map not
noncomputable def isN:D→Option Bool
 |.non=>some true
 |.int _=>some false
 |.str _=>some false
 |.bl _=>some false
 |.tup _=>some false
 |.lst _=>some false
 |.dct _ _=>none
 |.obj _=>none
 |.kt _=>none
 |.dic _=>none
noncomputable def isB(b:Bool):D→Option Bool
 |.bl a=>some (a==b)
 |_=>none
noncomputable def isD(x:D):D→Option Bool
 |.non=>isN x
 |.bl b=>isB b x
 |_=>none
noncomputable def Zf1(op:CmpOp)(x y:D)(st:Za):Option Bool:=
 match op with
 |.Lt=>ltS st x y
 |.LtE=>Js (fun i j=>decide (i≤j)) x y
 |.Gt=>Js (fun i j=>decide (j < i)) x y
 |.GtE=>Js (fun i j=>decide (j≤i)) x y
 |.Eq=>eqS st x y
 |.NotEq=>(eqS st x y).map not
 |.In=>inS st x y
 |.NotIn=>niS st x y
 |.Is=>isD x y
 |.IsNot=>(isD x y).map not

noncomputable def ixN(n:Nat)(i:Int):Option Nat:=if 0≤i then (if i < n then some i.toNat else none) else if -(n:Int)≤i then some (i+n).toNat else none
noncomputable def atD(xs:List D)(i:Int):Option D:=(ixN xs.length i).bind fun j=>xs[j]?
noncomputable def ixD(x y:D)(st:Za):Option D:=
 match x,y with
 |.tup xs,.int i=>atD xs i
 |.lst a,.int i=>match st[a]? with
  |some (_,xs)=>atD xs i
  |none=>none
 |.dct ks vs,.str k=>ZC ks vs k
 |.kt ks,.int i=>atD (ks.map .str) i
 |.str x,.int i=>if x.length≤Zj then atD ((chS x).map .str) i else none
 |_,_=>none

noncomputable def sIx(n d:Nat):Option Int→Nat
 |none=>d
 |some i=>if i < 0 then (i+n).toNat else Nat.min i.toNat n
noncomputable def ZaO(xs:List D)(lo hi:Option Int):List D:=(xs.drop (sIx xs.length 0 lo)).take (sIx xs.length xs.length hi - sIx xs.length 0 lo)
noncomputable def Yi(x:D)(lo hi:Option Int)(st:Za):Res:=
 match x with
 |.tup xs=>if sIx xs.length 0 lo=0∧sIx xs.length xs.length hi=xs.length then some (.tup xs,st) else some (.tup (ZaO xs lo hi),st)
 |.lst a=>match st[a]? with
  |some (_,xs)=>some (.lst st.length,st++[(true,ZaO xs lo hi)])
  |none=>none
 |_=>none

noncomputable def Zeh(x:D)(st:Za):Option Int:=
 match x with
 |.tup xs=>some xs.length
 |.lst a=>match st[a]? with
  |some (_,xs)=>some xs.length
  |none=>none
 |.kt ks=>some ks.length
 |.str x=>if x.length≤Zj then some x.length else none
 |_=>none

noncomputable def Zed(T:Ty):D→Option Bool
 |.int _=>some (decide (T=.int))
 |.bl _=>some (decide (T=.int)||decide (T=.bool))
 |.str _=>some (decide (T=.str))
 |.tup _=>some (decide (T=.tuple))
 |.non=>some false
 |_=>none

noncomputable def Xq(rng:Bool)(x:D):Option (List D):=
 match rng,x with
 |true,.int n=>if n < 2 ^ 62∧-(2 ^ 62)≤n then some ((List.range n.toNat).map fun(k:Nat)=>D.int (k:Int)) else none
 |false,.tup xs=>some xs
 |_,_=>none

noncomputable def UL(a b c:Int):Nat:=if 0 < c then (if a < b then ((b - a - 1) / c+1).toNat else 0) else (if b < a then ((a - b - 1) / (-c)+1).toNat else 0)
noncomputable def WO(a b c:Int):Bool:=decide ((-(2 ^ 30) < a∧a < 2 ^ 30)∧(-(2 ^ 30) < b∧b < 2 ^ 30)∧(c=1∨c=-1∨c=2∨c=3∨c=4))
noncomputable def Vq(a b c:Int):List Int:=(List.range (UL a b c)).map fun(k:Nat)=>a+k * c
noncomputable def Ym(ok:Za→Prop)(f:D→Za→Res)(c:D→Za→Res):List D→Za→Option (List D×Za)
 |[],st=>open Classical in if ok st then some ([],st) else none
 |x :: xs,st=>open Classical in if ok st then (match c x st with
  |some (.bl true,st1)=>match f x st1 with
   |some (y,st2)=>match Ym ok f c xs st2 with
    |some (ys,st3)=>some (y :: ys,st3)
    |none=>none
   |none=>none
  |some (.bl false,st1)=>Ym ok f c xs st1
  |_=>none) else none
noncomputable def QX(rng:Bool)(x:D)(st:Za):Option (List D×(Za→Prop)):=match Xq rng x with
 |some xs=>some (xs,fun _=>True)
 |none=>match rng,x with
  |false,.lst a=>match st[a]? with
   |some c=>some (c.2,fun s=>s[a]?=some c)
   |none=>none
  |false,.dct [] [.int a,.int b]=>some ((Vq a b 1).map .int,fun _=>True)
  |_,_=>none



noncomputable abbrev Ev:=Env→Za→Res
noncomputable def ZL(fa:Ev)(g:D→Za→Res):Ev:=fun ρ st=>match fa ρ st with
 |some (x,st1)=>g x st1
 |none=>none
noncomputable def ZQ(fa fb:Ev)(g:D→D→Za→Res):Ev:=fun ρ st=>match fa ρ st with
 |some (x,st1)=>match fb ρ st1 with
  |some (y,st2)=>g x y st2
  |none=>none
 |none=>none
noncomputable def QK(fa fb fc:Ev)(g:D→D→D→Za→Res):Ev:=fun ρ st=>match fa ρ st with
 |some (x,st1)=>match fb ρ st1 with
  |some (y,st2)=>match fc ρ st2 with
   |some (z,st3)=>g x y z st3
   |none=>none
  |none=>none
 |none=>none
noncomputable def YK(fc ft ff:Ev):Ev:=fun ρ st=>match fc ρ st with
 |some (.bl true,st1)=>ft ρ st1
 |some (.bl false,st1)=>ff ρ st1
 |_=>none
noncomputable def ZT(i:Nat):Ev:=fun ρ st=>match ρ[i]? with
 |some (some d)=>some (d,st)
 |_=>none
noncomputable def evC(d:D):Ev:=fun _ st=>some (d,st)
noncomputable def Zeo:D→Za→Res
 |.int i,st=>some (.int (-i),st)
 |_,_=>none
noncomputable def Za4:D→Za→Res
 |.bl k,st=>some (.bl (!k),st)
 |_,_=>none
noncomputable def Jc(op:CmpOp)(x y:D)(st:Za):Res:=match Zf1 op x y st with
 |some k=>some (.bl k,st)
 |none=>none
noncomputable def Zcl:D→Za→Res
 |.tup xs,st=>some (.lst st.length,st++[(true,xs)])
 |_,_=>none
noncomputable def Xb:D→D→Za→Res
 |x,.tup xs,st=>if xs.length < 1000 then some (.tup (x :: xs),st) else none
 |_,_,_=>none
noncomputable def ixR(x y:D)(st:Za):Res:=match ixD x y st with
 |some d=>some (d,st)
 |none=>none
noncomputable def XX:D→D→D→Za→Res
 |x,.non,.non,st=>Yi x none none st
 |x,.int i,.non,st=>Yi x (some i) none st
 |x,.non,.int j,st=>Yi x none (some j) st
 |x,.int i,.int j,st=>Yi x (some i) (some j) st
 |_,_,_,_=>none
noncomputable def Zad:D→Za→Res
 |.int i,st=>some (.int i,st)
 |_,_=>none
noncomputable def W4(g:Fn)(ds:List D):D→Za→Res
 |.tup xs,st=>g (xs++ds) st
 |_,_=>none
noncomputable def J6(F:Nat→Fn)(tab:List (Nat×Nat)):D→D→Za→Res
 |.obj i,.tup xs,st=>match tab.lookup i with
  |some j=>F j (.obj i :: xs) st
  |none=>none
 |_,_,_=>none
noncomputable def Ur(k:Str):List Str→Option Nat
 |[]=>none
 |a :: r=>if a=k then some 0 else (Ur k r).map (·+1)
noncomputable def Zfb:D→D→Za→Res
 |.kt ks,.tup [.str k],st=>match Ur k ks with
  |some i=>some (.int (i:Int),st)
  |none=>none
 |_,_,_=>none
noncomputable def Qp(x:D)(st:Za):Res:=match Zeh x st with
 |some n=>some (.int n,st)
 |none=>none
noncomputable def Ww:D→Za→Res
 |.tup xs,st=>some (.tup xs,st)
 |.lst l,st=>match st[l]? with
  |some (_,xs)=>some (.tup xs,st)
  |none=>none
 |_,_=>none
noncomputable def VX:D→Za→Res
 |.tup xs,st=>some (.lst st.length,st++[(true,xs)])
 |.lst l,st=>match st[l]? with
  |some (_,xs)=>some (.lst st.length,st++[(true,xs)])
  |none=>none
 |_,_=>none
noncomputable def QI:D→D→Za→Res
 |.int a,.int b,st=>if WO a b 1=true then some (.dct [] [.int a,.int b],st) else none
 |_,_,_=>none
noncomputable def Zem:D→D→Za→Res
 |.int i,.int j,st=>some (.int (if j < i then j else i),st)
 |_,_,_=>none
noncomputable def Zek:D→D→Za→Res
 |.int i,.int j,st=>some (.int (if j > i then j else i),st)
 |_,_,_=>none
noncomputable def Ji(T:Ty)(x:D)(st:Za):Res:=match Zed T x with
 |some k=>some (.bl k,st)
 |none=>none
noncomputable def VY(ks:List Str)(ds:List D):D→Za→Res
 |.str k,st=>match ZC ks ds k with
  |some d=>some (d,st)
  |none=>none
 |_,_=>none
noncomputable def getD:D→D→D→Za→Res
 |.dct ks vs,.str k,d,st=>some ((ZC ks vs k).getD d,st)
 |_,_,_,_=>none
noncomputable def Zgj(ng:Bool):D→D→Za→Res
 |.int x,.int n,st=>if -(2 ^ 62)≤n∧n < 2 ^ 62 then some (.bl (ng != decide (0≤x∧x < n)),st) else none
 |_,_,_=>none
noncomputable def one(d:D):List (Option D):=[some d]
noncomputable def two:D→List (Option D)
 |.tup [a,b]=>[some a,some b]
 |_=>[]
noncomputable def YL(b:D→List (Option D))(ρ:Env)(fr:List Nat)(d:D):Env:=b d++fr.map fun i=>(ρ[i]?).join
noncomputable def W5(b:D→List (Option D))(w:D→Za→Option (List D×(Za→Prop)))(fr:List Nat)(fi fe fc:Ev):Ev:=fun ρ st=>match fi ρ st with
 |some (x,st1)=>match w x st1 with
  |some (xs,ok)=>if xs.length≤1000 then
    match Ym ok (fun d s=>fe (YL b ρ fr d) s) (fun d s=>fc (YL b ρ fr d) s) xs st1 with
    |some (ys,st2)=>some (.lst st2.length,st2++[(true,ys)])
    |none=>none
   else none
  |none=>none
 |none=>none

noncomputable def ev(F:Nat→Fn):CE→Ev
 |.var i=>ZT i
 |.cst d=>evC d
 |.bin op a b=>ZQ (ev F a) (ev F b) (Vw op)
 |.neg a=>ZL (ev F a) Zeo
 |.cmp op a b=>ZQ (ev F a) (ev F b) (Jc op)
 |.not a=>ZL (ev F a) Za4
 |.and a b=>YK (ev F a) (ev F b) (evC (.bl false))
 |.or a b=>YK (ev F a) (evC (.bl true)) (ev F b)
 |.ife c a b=>YK (ev F c) (ev F a) (ev F b)
 |.tupE a=>ev F a
 |.lstE a=>ZL (ev F a) Zcl
 |.anil=>evC (.tup [])
 |.acons a r=>ZQ (ev F a) (ev F r) Xb
 |.ix a b=>ZQ (ev F a) (ev F b) ixR
 |.slice a lo hi=>QK (ev F a) (ev F lo) (ev F hi) XX
 |.nop=>evC .non
 |.part a=>ZL (ev F a) Zad
 |.call f a ds=>ZL (ev F a) (W4 (F f) ds)
 |.len a=>ZL (ev F a) Qp
 |.tupleOf a=>ZL (ev F a) Ww
 |.listOf a=>ZL (ev F a) VX
 |.intOf _=>fun _ _=>none
 |.min a b=>ZQ (ev F a) (ev F b) Zem
 |.max a b=>ZQ (ev F a) (ev F b) Zek
 |.isi T a=>ZL (ev F a) (Ji T)
 |.rs _ _=>fun _ _=>none
 |.inv _=>fun _ _=>none
 |.tupR _=>fun _ _=>none
 |.look ks ds a=>ZL (ev F a) (VY ks ds)
 |.dget _ _ _=>fun _ _=>none
 |.inR ng a b=>ZQ (ev F a) (ev F b) (Zgj ng)
 |.all _=>fun _ _=>none
 |.any _=>fun _ _=>none
 |.comp rng fr it elt cnd=>W5 one (QX rng) fr (ev F it) (ev F elt) (ev F cnd)
 |.comp2 _ _ _ _=>fun _ _=>none
 |.compT _ _ _ _=>fun _ _=>none
 |.lstR _ _=>fun _ _=>none
 |.new i=>evC (.obj i)
 |.meth tab o a=>ZQ (ev F o) (ev F a) (J6 F tab)
 |.isc _ _=>fun _ _=>none
 |.tix o a=>ZQ (ev F o) (ev F a) Zfb
 |.dict _ _=>fun _ _=>none
 |.dnew=>fun _ _=>none
 |.strOf _=>fun _ _=>none
 |.joinE _ _=>fun _ _=>none
 |.starts _ _=>fun _ _=>none
 |.rng2 a b=>ZQ (ev F a) (ev F b) QI

inductive Fl where
 |nx (ρ:Env)|rt (d:D)|bk (ρ:Env)|ct (ρ:Env)

noncomputable def Zt(ρ:Env)(i:Nat)(d:D):Env:=ρ.set i (some d)

noncomputable def Ya(body:D→Env→Za→Option (Fl×Za)):List D→Env→Za→Option (Fl×Za)
 |[],ρ,st=>some (.nx ρ,st)
 |d :: ds,ρ,st=>match body d ρ st with
  |some (.nx ρ',st')=>Ya body ds ρ' st'
  |some (.ct ρ',st')=>Ya body ds ρ' st'
  |some (.bk ρ',st')=>some (.nx ρ',st')
  |some (.rt v,st')=>some (.rt v,st')
  |none=>none
noncomputable def ZO(body:D→Env→Za→Option (Fl×Za))(a:Nat):Nat→Nat→Env→Za→Option (Fl×Za)
 |0,i,ρ,st=>match st[a]? with
  |some (_,xs)=>if xs.length≤i then some (.nx ρ,st) else none
  |none=>none
 |n+1,i,ρ,st=>match st[a]? with
  |some (_,xs)=>match xs[i]? with
   |none=>some (.nx ρ,st)
   |some d=>match body d ρ st with
    |some (.nx ρ',st')=>ZO body a n (i+1) ρ' st'
    |some (.ct ρ',st')=>ZO body a n (i+1) ρ' st'
    |some (.bk ρ',st')=>some (.nx ρ',st')
    |some (.rt v,st')=>some (.rt v,st')
    |none=>none
  |none=>none

noncomputable abbrev Ex:=Env→Za→Option (Fl×Za)
noncomputable def QL(f g:Ex):Ex:=fun ρ st=>match f ρ st with
 |some (.nx ρ',st')=>g ρ' st'
 |r=>r
noncomputable def UP(f:Ev):Ex:=fun ρ st=>match f ρ st with
 |some (d,st')=>some (.rt d,st')
 |none=>none
noncomputable def VG(i:Nat)(f:Ev):Ex:=fun ρ st=>match f ρ st with
 |some (d,st')=>some (.nx (Zt ρ i d),st')
 |none=>none
noncomputable def QM(i j:Nat)(f:Ev):Ex:=fun ρ st=>match f ρ st with
 |some (.tup [x,y],st')=>some (.nx (Zt (Zt ρ i x) j y),st')
 |_=>none
noncomputable def QN(i j l:Nat)(f:Ev):Ex:=fun ρ st=>match f ρ st with
 |some (.tup [x,y,z],st')=>some (.nx (Zt (Zt (Zt ρ i x) j y) l z),st')
 |_=>none
noncomputable def Q0(f:Ev):Ex:=fun ρ st=>match f ρ st with
 |some (_,st')=>some (.nx ρ,st')
 |none=>none
noncomputable def Zbp(a:Nat)(d:D)(st:Za):Option Za:=match st[a]? with
 |some (true,xs)=>if xs.length < Zj then some (st.set a (true,xs++[d])) else none
 |_=>none
noncomputable def UU(a:Nat)(j:Int)(d:D)(st:Za):Option Za:=match st[a]? with
 |some (true,xs)=>match ixN xs.length j with
  |some p=>some (st.set a (true,xs.set p d))
  |none=>none
 |_=>none
noncomputable def Zbr(i:Nat)(f:Ev):Ex:=fun ρ st=>match ρ[i]? with
 |some (some (.lst a))=>match f ρ st with
  |some (d,st')=>match Zbp a d st' with
   |some st2=>some (.nx ρ,st2)
   |none=>none
  |none=>none
 |_=>none
noncomputable def Zbq(o f:Ev):Ex:=fun ρ st=>match o ρ st with
 |some (.lst a,st1)=>match f ρ st1 with
  |some (d,st2)=>match Zbp a d st2 with
   |some st3=>some (.nx ρ,st3)
   |none=>none
  |none=>none
 |_=>none
noncomputable def Zf9(a b:Nat)(st:Za):Option Za:=match st[a]?,st[b]? with
 |some (true,xs),some (true,ys)=>if xs.length+ys.length≤Zj then some (st.set a (true,xs++ys)) else none
 |_,_=>none
noncomputable def ZbN(i:Nat)(f:Ev):Ex:=fun ρ st=>match ρ[i]? with
 |some (some (.lst a))=>match f ρ st with
  |some (.lst b,st')=>match Zf9 a b st' with
   |some st2=>some (.nx ρ,st2)
   |none=>none
  |_=>none
 |_=>none
noncomputable def ZcU(i:Nat)(k f:Ev):Ex:=fun ρ st=>match f ρ st with
 |some (d,st1)=>match ρ[i]? with
  |some (some (.lst a))=>match k ρ st1 with
   |some (.int j,st2)=>match UU a j d st2 with
    |some st3=>some (.nx ρ,st3)
    |none=>none
   |_=>none
  |_=>none
 |none=>none
noncomputable def VE(c:Ev)(f g:Ex):Ex:=fun ρ st=>match c ρ st with
 |some (.bl true,st1)=>f ρ st1
 |some (.bl false,st1)=>g ρ st1
 |_=>none
noncomputable def Qf(i:Nat)(rng:Bool)(it:Ev)(b:Ex):Ex:=fun ρ st=>match it ρ st with
 |some (x,st1)=>match Xq rng x with
  |some xs=>Ya (fun d ρ s=>b (Zt ρ i d) s) xs ρ st1
  |none=>match rng,x with
   |false,.lst a=>match st1[a]? with
    |some (_,xs)=>ZO (fun d ρ s=>b (Zt ρ i d) s) a xs.length 0 ρ st1
    |none=>none
   |_,_=>none
 |none=>none
noncomputable def Yp(ok:Za→Prop)(body:D→D→Env→Za→Option (Fl×Za)):List (D×D)→Env→Za→Option (Fl×Za)
 |[],ρ,st=>open Classical in if ok st then some (.nx ρ,st) else none
 |p :: ps,ρ,st=>open Classical in if ok st then (match body p.1 p.2 ρ st with
  |some (.nx ρ',st')=>Yp ok body ps ρ' st'
  |some (.ct ρ',st')=>Yp ok body ps ρ' st'
  |some (.bk ρ',st')=>some (.nx ρ',st')
  |some (.rt v,st')=>some (.rt v,st')
  |none=>none) else none
noncomputable def Qe(i j:Nat)(it:Ev)(b:Ex):Ex:=fun ρ st=>match it ρ st with
 |some (.tup [.lst la,.lst lb],st1)=>match st1[la]?,st1[lb]? with
  |some ca,some cb=>Yp (fun s=>s[la]?=some ca∧s[lb]?=some cb) (fun x y ρ s=>b (Zt (Zt ρ i x) j y) s) (ca.2.zip cb.2) ρ st1
  |_,_=>none
 |_=>none
noncomputable def VO:Nat→List D→List (D×D)
 |_,[]=>[]
 |k,x :: xs=>(.int (k:Int),x) :: VO (k+1) xs
noncomputable def ZfD(x:D)(st:Za):Option (List D×(Za→Prop)):=match x with
 |.tup xs=>some (xs,fun _=>True)
 |.lst a=>match st[a]? with
  |some c=>some (c.2,fun s=>s[a]?=some c)
  |none=>none
 |_=>none
noncomputable def VU(i j:Nat)(it:Ev)(b:Ex):Ex:=fun ρ st=>match it ρ st with
 |some (x,st1)=>match ZfD x st1 with
  |some (xs,ok)=>Yp ok (fun x y ρ s=>b (Zt (Zt ρ i x) j y) s) (VO 0 xs) ρ st1
  |none=>none
 |none=>none
noncomputable def Zhn(i j l:Nat)(b:Ex)(d:D)(ρ:Env)(s:Za):Option (Fl×Za):=match d with
 |.tup [x,y,z]=>b (Zt (Zt (Zt ρ i x) j y) l z) s
 |_=>none
noncomputable def Qd(i j l:Nat)(it:Ev)(b:Ex):Ex:=fun ρ st=>match it ρ st with
 |some (.tup xs,st1)=>Ya (Zhn i j l b) xs ρ st1
 |_=>none


noncomputable def ex(F:Nat→Fn):CS→Ex
 |.skip=>fun ρ st=>some (.nx ρ,st)
 |.seq a b=>QL (ex F a) (ex F b)
 |.ret e=>UP (ev F e)
 |.set i e=>VG i (ev F e)
 |.app i e=>Zbr i (ev F e)
 |.ext i e=>ZbN i (ev F e)
 |.put i k e=>ZcU i (ev F k) (ev F e)
 |.ite c a b=>VE (ev F c) (ex F a) (ex F b)
 |.for1 i rng it b=>Qf i rng (ev F it) (ex F b)
 |.forP i j it b=>Qe i j (ev F it) (ex F b)
 |.forE i j it b=>VU i j (ev F it) (ex F b)
 |.for3 _ _ _=>fun _ _=>none
 |.set2 i j e=>QM i j (ev F e)
 |.for4 i j l it b=>Qd i j l (ev F it) (ex F b)
 |.for2 _ _ _ _=>fun _ _=>none
 |.whl _ _=>fun _ _=>none
 |.brk=>fun ρ st=>some (.bk ρ,st)
 |.cont=>fun ρ st=>some (.ct ρ,st)
 |.stop=>fun _ _=>none
 |.set3 i j l e=>QN i j l (ev F e)
 |.act e=>Q0 (ev F e)
 |.dput _ _ _ _=>fun _ _=>none
 |.app2 o e=>Zbq (ev F o) (ev F e)

structure FD where
 ps:Nat
 ns:Nat
 body:CS
noncomputable def fnD(F:Nat→Fn)(f:FD):Fn:=fun ds st=>
 if ds.length=f.ps then
  match ex F f.body (ds.map some++List.replicate (f.ns - ds.length) none) st with
  |some (.rt d,st')=>some (d,st')
  |some (.nx _,st')=>some (.non,st')
  |_=>none
 else none
noncomputable def run(T:Nat→Option FD):Nat→Nat→Fn
 |0,_=>fun _ _=>none
 |n+1,i=>match T i with
  |some f=>fnD (run T n) f
  |none=>fun _ _=>none

inductive GV where
 |fn (i:Nat) (ps:Nat) (ds:List D)|cst (d:D)|blt|dct (ks:List Str) (ds:List D)|cls (i:Nat) (ms:List (Str×Nat×Nat)) (subs:List Nat)
noncomputable abbrev Gs:=List (Str×GV)

noncomputable def CE.ofConst:Const→Option CE
 |.none=>some (.cst .non)
 |.bool b=>some (.cst (.bl b))
 |.int i=>some (.cst (.int i))
 |.str x=>some (.cst (.str x))
 |_=>none
noncomputable def X5(sc:Scope)(x:Str):Bool:=!(x==("__debug__":Str))&&!(x==("__classdict__":Str))&&match sc.names.lookup x with
 |some .local=>true
 |some .cell=>true
 |some .free=>true
 |_=>false
noncomputable def ZB(sc:Scope)(x:Str):Bool:=!(x==("__debug__":Str))&&match sc.names.lookup x with
 |some .globalImplicit=>true
 |_=>false
noncomputable def ZiH(x:Str):Option Ty:=
 if x = "int" then some .int else if x = "bool" then some .bool else if x = "str" then some .str else if x = "tuple" then some .tuple else none
noncomputable def ZN(sc:Scope):List Str:=(sc.names.filter fun p=>decide (p.2=.free)).map (·.1)

noncomputable def ZfR(f:Str)(x:CE):Option CE:=
 if f = "len" then some (.len x) else if f = "tuple" then some (.tupleOf x) else if f = "list" then some (.listOf x) else none
noncomputable def ZfS(f:Str)(x y:CE):Option CE:=if f = "min" then some (.min x y) else if f = "max" then some (.max x y) else none
noncomputable def J2(G:Gs)(x:Str):Bool:=match G.lookup x with
 |some .blt=>true
 |_=>false
noncomputable def Zho(G:Gs)(sc:Scope)(t:Str):Option Ty:=if ZB sc t&&J2 G t then ZiH t else none
noncomputable def Zap(G:Gs)(sc:Scope):Expr→Option Ty
 |.Name t _=>Zho G sc t
 |_=>none
noncomputable def Jb(_:Gs)(_:Scope)(_:Expr):Option (List Nat):=none
noncomputable def Zfv(m:Str)(k:Nat)(G:Gs)(x:Str):Option (Nat×Nat):=match G.lookup x with
 |some (.cls i ms _)=>(match ms.lookup m with
  |some (j,ps)=>if ps=k+1 then some (i,j) else none
  |none=>none)
 |_=>none
noncomputable def XC(m:Str)(k:Nat)(G:Gs):List (Nat×Nat):=(G.map Prod.fst).filterMap (Zfv m k G)
noncomputable def Zfn:Expr→Option (Str×List Expr)
 |.Call (.Name f _) as [] _=>some (f,as)
 |_=>none
noncomputable def fnA(G:Gs)(sc:Scope)(nm:Str)(e:Expr):Option (List Expr):=(Zfn e).bind fun p=>og (p.1=nm∧ZB sc p.1=true∧J2 G p.1=true) (some p.2)
noncomputable def ZgB:List Expr→Option Expr
 |[a]=>some a
 |_=>none
noncomputable def ZU(G:Gs)(sc:Scope)(e:Expr):Option Expr:=(fnA G sc "range" e).bind ZgB
noncomputable def JH(_:Gs)(_:Scope)(_:Str)(_:Expr):Option Expr:=none
noncomputable def ZiG:List Expr→Option (Expr×Expr)
 |[a,b]=>some (a,b)
 |_=>none
noncomputable def Jo(_:Gs)(_:Scope)(_:Str)(_:Expr):Option (Expr×Expr):=none
noncomputable def o3{α β γ δ:Type}(f:α→β→γ→δ):Option α→Option β→Option γ→Option δ
 |some x,b,c=>o2 (f x) b c
 |none,_,_=>none
theorem UF{α γ:Type}{P:γ→Prop}{f:α→γ}{a:Option α}{c:γ}(h:a.map f=some c)(k:∀ x,a=some x→P (f x)):P c:=by
 cases a with
 |none=>cases h
 |some x=>cases h;exact k x rfl
theorem Ye{α β γ:Type}{P:γ→Prop}{f:α→β→γ}{a:Option α}{b:Option β}{c:γ}(h:o2 f a b=some c)(k:∀ x y,a=some x→b=some y→P (f x y)):P c:=by
 cases a with
 |none=>cases h
 |some x=>cases b with
  |none=>cases h
  |some y=>cases h;exact k x y rfl rfl
theorem Vk{α β γ δ:Type}{P:δ→Prop}{f:α→β→γ→δ}{a:Option α}{b:Option β}{d:Option γ}{c:δ}(h:o3 f a b d=some c)(k:∀ x y z,a=some x→b=some y→d=some z→P (f x y z)):P c:=by
 cases a with
 |none=>cases h
 |some x=>exact Ye (P:=P) h fun y z e e'=>k x y z rfl e e'
theorem Ws{α:Type}{P:Prop}{p:Prop}[Decidable p]{o:Option α}{c:α}(h:og p o=some c)(k:p→o=some c→P):P:=by
 unfold og at h;by_cases hp:p
 ·rw[if_pos hp]at h;exact k hp h
 ·rw[if_neg hp]at h;cases h
theorem j_e{α:Type}{P:Prop}{o:Option (Option α)}{c:α}(h:o.join=some c)(k:o=some (some c)→P):P:=by
 cases o with
 |none=>cases h
 |some x=>cases h;exact k rfl
noncomputable def Zbt(G:Gs)(sc:Scope)(f:Str)(a:Expr)(r:Expr→Option CE):Option CE:=match JH G sc f a with
 |some e=>(r e).map .tupR
 |none=>match Jo G sc f a with
  |some (u,v)=>o2 .lstR (r u) (r v)
  |none=>((r a).map (ZfR f)).join
noncomputable def Zbu(G:Gs)(sc:Scope)(f:Str)(a b:Expr)(r:Expr→Option CE):Option CE:=if f = "isinstance" then (match Jb G sc b with
  |some l=>(r a).map (.isc l)
  |none=>o2 (fun x T=>.isi T x) (r a) (Zap G sc b)) else (o2 (ZfS f) (r a) (r b)).join
noncomputable def Zbx(G:Gs)(sc:Scope)(f:Str)(as:List Expr)(cs:Option CE)(r:Expr→Option CE):Option CE:=
 if ZB sc f then (match G.lookup f with
   |some (.fn i ps ds)=>og (as.length≤ps∧ps≤as.length+ds.length) (cs.map fun c=>.call i c (ds.drop (as.length+ds.length - ps)))
   |some .blt=>match as with
    |[a]=>Zbt G sc f a r
    |[a,b]=>Zbu G sc f a b r
    |_=>none
   |some (.cls i _ _)=>match as with
    |[]=>some (.new i)
    |_=>none
   |_=>none) else none
noncomputable def Zfk(G:Gs)(ob:Expr)(m:Str)(ap:Pos)(as:List Expr)(cp:Pos)(cs:Option CE)(r:Expr→Option CE):Option CE:=match ob with
 |.Name _ _=>og ((ap.endLine==cp.line)=true∧as.length < 20) (if m = "index" then og (as.length=1) (o2 .tix (r ob) cs) else o2 (.meth (XC m as.length G)) (r ob) cs)
 |_=>none
noncomputable def ZhP(G:Gs)(sc:Scope)(f:Expr)(as:List Expr)(cp:Pos)(cs:Option CE)(r:Expr→Option CE):Option CE:=match f with
 |.Name f _=>Zbx G sc f as cs r
 |.Attribute ob m ap=>Zfk G ob m ap as cp cs r
 |_=>none
noncomputable def Zjr:Expr→Bool
 |.Slice ..=>true
 |_=>false
noncomputable def Wv(_:Gs)(_:Scope)(_:Expr):Option (List Expr):=none
noncomputable def Wh(G:Gs)(sc:Scope)(e:Expr):Option (List Expr):=(fnA G sc "zip" e).bind fun as=>og (as.length=2) (some as)
noncomputable def Up(G:Gs)(sc:Scope)(e:Expr):Option Expr:=(fnA G sc "enumerate" e).bind ZgB
noncomputable def WI(G:Gs)(sc:Scope)(e:Expr):Option Expr:=Up G sc e
noncomputable def tgN:Expr→Option (List Str)
 |.Name x _=>some [x]
 |_=>none
noncomputable def mkC(r:Option (Option Bool))(fr:List Nat)(ci ce cc:CE):CE:=match r with
 |some (some b)=>.comp b fr ci ce cc
 |some none=>.comp2 fr ci ce cc
 |none=>.compT fr ci ce cc
noncomputable def Xt(N:List Str):List Str→Option (List Nat)
 |[]=>some []
 |x :: r=>match N.idxOf? x,Xt N r with
  |some i,some is=>some (i :: is)
  |_,_=>none

noncomputable def Zcp(G:Gs)(sc:Scope)(N:List Str)(x:Str):Option CE:=
 if X5 sc x then (N.idxOf? x).map .var else if ZB sc x then (match G.lookup x with
  |some (.cst d)=>some (.cst d)
  |_=>none) else none
noncomputable def J4(G:Gs)(sc:Scope):Expr→Option (List Str×List D)
 |.Name x _=>if ZB sc x then (match G.lookup x with
  |some (.dct ks ds)=>some (ks,ds)
  |_=>none) else none
 |_=>none
noncomputable def WP:Expr→Option (Option Expr×Option Expr)
 |.Slice lo hi none _=>some (lo,hi)
 |_=>none
noncomputable def Zfy(_:Expr):Option Expr:=none
noncomputable def Zjp:CE→Bool
 |.neg (.cst (.int 1))=>true
 |_=>false
noncomputable def W9(sc:Scope)(x:Str):Bool:=match sc.names.lookup x with
 |some .cell=>true
 |some .free=>true
 |_=>false
noncomputable def Xj(sc sc2:Scope)(xs:List Str):Bool:=
 decide (sc2.kind=.function)&&(sc2.names.all fun p=>decide (p.2≠.cell))&&(xs.all fun x=>decide (sc2.names.lookup x=some .local))&&(sc2.names.all fun p=>!decide (p.2=.local)||decide (sc2.names.lookup p.1=some .local)) &&
 decide (xs++ZN sc2).Nodup&&(ZN sc2).all (fun y=>W9 sc y&&decide (sc2.names.lookup y=some .free))
noncomputable def Zgi(_:CmpOp):Option Bool:=none
noncomputable def unC(op:UnaryOp)(a:Option CE):Option CE:=match op with
 |.Not=>a.map .not
 |.USub=>a.map .neg
 |_=>none
noncomputable def ZhR(G:Gs)(sc:Scope)(f:Expr→Option CE)(a:Option CE):List CmpOp→List Expr→Option CE
 |[op],[b]=>(match ZU G sc b with
  |some e=>o3 .inR (Zgi op) a (f e)
  |none=>o2 (.cmp op) a (f b))
 |_,_=>none
noncomputable def Zfl(f:Expr→Option CE)(op:BoolOp)(pos:Pos):List Expr→Option CE
 |[]=>none
 |[a]=>f a
 |a :: b :: r=>match op with
  |.And=>o2 .and (f a) (f (.BoolOp .And (b :: r) pos))
  |.Or=>o2 .or (f a) (f (.BoolOp .Or (b :: r) pos))
noncomputable def Zhg(G:Gs)(sc:Scope)(f:Expr→Option CE)(fo:Option Expr→Option CE)(a b:Expr):Option CE:=match WP b with
 |some (lo,hi)=>o3 .slice (f a) (fo lo) (fo hi)
 |none=>match Zfy b with
  |some s=>(o2 (fun x y=>og (Zjp y=true) (some (.rs false x))) (f a) (f s)).join
  |none=>match J4 G sc a with
   |some (ks,ds)=>(f b).map (.look ks ds)
   |none=>o2 .ix (f a) (f b)
noncomputable def itC(G:Gs)(sc:Scope)(it:Expr)(f:Expr→Option CE):List Str→Option (Option (Option Bool)×CE)
 |[_]=>(match ZU G sc it with
  |some a=>(f a).map fun c=>(some (some true),c)
  |none=>match (fnA G sc "range" it).bind ZiG with
   |some p=>o2 (fun x y=>(some (some false),.rng2 x y)) (f p.1) (f p.2)
   |none=>(f it).map fun c=>(some (some false),c))
 |_=>(match Up G sc it with
  |some a=>(f a).map fun c=>(some none,c)
  |none=>(f it).map fun c=>(none,c))
noncomputable def ifC(f:Expr→Option CE):List Expr→Option CE
 |[]=>some (CE.cst (.bl true))
 |[c]=>f c
 |_=>none
noncomputable def Zfo(G:Gs)(sc sc2:Scope)(N:List Str)(f:Expr→Option CE)(g:List Str→Expr→Option CE)(elt:Expr):List Comprehension→Option CE
 |[⟨tg,it,ifs,0⟩]=>(match tgN tg with
  |none=>none
  |some xs=>og (Xj sc sc2 xs=true) (o3 (fun fr p (q:CE×CE)=>mkC p.1 fr p.2 q.1 q.2) (Xt N (ZN sc2)) (itC G sc it f xs) (o2 Prod.mk (g (xs++ZN sc2) elt) (ifC (g (xs++ZN sc2)) ifs))))
 |_=>none
mutual
noncomputable def cE(G:Gs):Nat→Scope→List Str→Expr→Option CE
 |0,_,_,_=>none
 |n+1,sc,N,e=>match e with
  |.Constant c _ _=>CE.ofConst c
  |.Name x _=>Zcp G sc N x
  |.BinOp a op b _=>o2 (.bin op) (cE G n sc N a) (cE G n sc N b)
  |.UnaryOp op a _=>unC op (cE G n sc N a)
  |.Compare a ops bs _=>ZhR G sc (cE G n sc N) (cE G n sc N a) ops bs
  |.BoolOp op vs pos=>Zfl (cE G n sc N) op pos vs
  |.IfExp c a b _=>o3 .ife (cE G n sc N c) (cE G n sc N a) (cE G n sc N b)
  |.Tuple es _ _=>(cEs G n sc N es).map .tupE
  |.List es _=>(cEs G n sc N es).map .lstE
  |.Subscript a b _=>Zhg G sc (cE G n sc N) (cO G n sc N) a b
  |.Call f as [] cp=>ZhP G sc f as cp (cEs G n sc N as) (cE G n sc N)
  |.ListComp elt gens sc2 _=>Zfo G sc sc2 N (cE G n sc N) (cE G n sc2) elt gens
  |_=>none
noncomputable def cEs(G:Gs):Nat→Scope→List Str→List Expr→Option CE
 |0,_,_,_=>none
 |_+1,_,_,[]=>some .anil
 |n+1,sc,N,e :: es=>o2 .acons (cE G n sc N e) (cEs G n sc N es)
noncomputable def cO(G:Gs):Nat→Scope→List Str→Option Expr→Option CE
 |0,_,_,_=>none
 |_+1,_,_,none=>some .nop
 |n+1,sc,N,some e=>(cE G n sc N e).map .part
end

noncomputable def Xp:Expr→Bool
 |.ListComp ..=>true
 |.SetComp ..=>true
 |.DictComp ..=>true
 |_=>false
noncomputable def Qm:Expr→Bool
 |.Tuple ..=>true
 |_=>false
noncomputable def ZhI(N:List Str)(tg e:Expr)(c:Option CE):Option CS:=match tg with
 |.Name x _=>o2 .set (N.idxOf? x) c
 |.Tuple [.Name x _,.Name y _] _ _=>og ((Xp e||Qm e)=false) (o3 (fun i j c=>og (i≠j) (some (.set2 i j c))) (N.idxOf? x) (N.idxOf? y) c).join
 |.Tuple [.Name x _,.Name y _,.Name z _] _ _=>og ((Xp e||Qm e)=false) (o3 (fun i j (p:Nat×CE)=>.set3 i j p.1 p.2) (N.idxOf? x) (N.idxOf? y) (o2 Prod.mk (N.idxOf? z) c))
 |_=>none
noncomputable def Zfx(_:Expr):Option (Expr×Expr):=none
noncomputable def Zis(sc:Scope)(N:List Str)(x:Str)(k e:Expr)(f:Expr→Option CE):Option CS:=og (Xp e=false∧Zjr k=false∧X5 sc x=true) (match Zfx k with
 |some (a,b)=>o3 (fun i (p:CE×CE) c=>.dput i p.1 p.2 c) (N.idxOf? x) (o2 Prod.mk (f a) (f b)) (f e)
 |none=>o3 .put (N.idxOf? x) (f k) (f e))
noncomputable def Zge(G:Gs)(sc:Scope)(N:List Str)(f:Expr→Option CE)(fs:List Expr→Option CE)(tg it:Expr)(b:Option CS):Option CS:=match tg with
 |.Name x _=>(match Wv G sc it with
  |some as=>o3 .for3 (N.idxOf? x) (fs as) b
  |none=>match ZU G sc it with
   |some a=>o3 (fun i c b=>.for1 i true c b) (N.idxOf? x) (f a) b
   |none=>o3 (fun i c b=>.for1 i false c b) (N.idxOf? x) (f it) b)
 |.Tuple [.Name x _,.Name y _] _ _=>(o2 (fun i j=>og (i≠j) (some (i,j))) (N.idxOf? x) (N.idxOf? y)).join.bind fun p=>(match Wh G sc it with
  |some as=>o2 (.forP p.1 p.2) (fs as) b
  |none=>match WI G sc it with
   |some e=>o2 (.forE p.1 p.2) (f e) b
   |none=>o2 (.for2 p.1 p.2) (f it) b)
 |.Tuple [.Name x _,.Name y _,.Name z _] _ _=>o3 (fun(p:Nat×Nat) (q:Nat×CE) b=>.for4 p.1 p.2 q.1 q.2 b) (o2 Prod.mk (N.idxOf? x) (N.idxOf? y)) (o2 Prod.mk (N.idxOf? z) (f it)) b
 |_=>none
noncomputable def ZhH(sc:Scope)(N:List Str)(x m:Str)(ap cp:Pos)(c:Option CE):Option CS:=og (X5 sc x=true∧(ap.endLine==cp.line)=true) (if m = "append" then o2 .app (N.idxOf? x) c else if m = "extend" then o2 .ext (N.idxOf? x) c else none)
noncomputable def ZhG(sc:Scope)(N:List Str)(f:Expr→Option CE):Expr→Option CS
 |.Call (.Name g fp) as kw cp=>(f (.Call (.Name g fp) as kw cp)).map .act
 |.Call (.Attribute (.Name x _) m ap) [e] [] cp=>ZhH sc N x m ap cp (f e)
 |.Call (.Attribute (.Subscript o k p) m ap) [e] [] cp=>og (m = "append"∧(ap.endLine==cp.line)=true) (o2 .app2 (f (.Subscript o k p)) (f e))
 |_=>none
mutual
noncomputable def cS(G:Gs):Nat→Scope→List Str→Stmt→Option CS
 |0,_,_,_=>none
 |n+1,sc,N,s=>match s with
  |.Assign [.Subscript (.Name x _) k _] e _=>Zis sc N x k e (cE G n sc N)
  |.Assign [tg] e _=>ZhI N tg e (cE G n sc N e)
  |.Expr e _=>ZhG sc N (cE G n sc N) e
  |.Return (some e) _=>(cE G n sc N e).map .ret
  |.If c a b _=>o3 .ite (cE G n sc N c) (cSs G n sc N a) (cSs G n sc N b)
  |.For tg it b [] _=>Zge G sc N (cE G n sc N) (cEs G n sc N) tg it (cSs G n sc N b)
  |.Pass _=>some .skip
  |.Break _=>some .brk
  |.Continue _=>some .cont
  |.Raise _ _ _=>some .stop
  |_=>none
noncomputable def cSs(G:Gs):Nat→Scope→List Str→List Stmt→Option CS
 |0,_,_,_=>none
 |_+1,_,_,[]=>some .skip
 |n+1,sc,N,s :: r=>o2 .seq (cS G n sc N s) (cSs G n sc N r)
end
end Dp


namespace Dp
open PySem PySem.Spec PyProof.Rows L2
class ClsTab where
 ca:Nat→Addr
variable [ClsTab]

theorem Zy{X:Cx}{e:Expr}{t t':TE}(h:PE X e t)(i:∀ σ H Q,t' σ H Q→t σ H Q):PE X e t':=fun pins s σ H Q I q=>h pins s σ H Q I (i σ H Q q)
theorem Vp{X:Cx}{e:Expr}{t t':TT}(h:PT X e t)(i:∀ σ H Q,t' σ H Q→t σ H Q):PT X e t':=fun pins s σ H Q I q=>h pins s σ H Q I (i σ H Q q)
theorem ZcB{X:Cx}{e:List Expr}{t t':TA}(h:PA X e t)(i:∀ σ H Q,t' σ H Q→t σ H Q):PA X e t':=fun pos pins s σ H Q I q=>h pos pins s σ H Q I (i σ H Q q)
theorem ZcL{X:Cx}{e:Option Expr}{t t':TO}(h:PO X e t)(i:∀ σ H Q,t' σ H Q→t σ H Q):PO X e t':=fun pins s σ H Q I q=>h pins s σ H Q I (i σ H Q q)
theorem ZH{X:Cx}{e:Stmt}{t t':TS}(h:PS X e t)(i:∀ D σ H,t' D σ H→t D σ H):PS X e t':=fun pins s σ H D I q=>h pins s σ H D I (i D σ H q)
theorem Zag{X:Cx}{e:List Stmt}{t t':TS}(h:PSs X e t)(i:∀ D σ H,t' D σ H→t D σ H):PSs X e t':=fun pins s σ H D I q=>h pins s σ H D I (i D σ H q)

def KT(K:PySem.W.Frag)(a:Addr)(xs:List V):Prop:=
 ∃ (o:Obj) (its:Array Value) (n:Nat),K.lookup a=some o∧o.cls=.type "tuple"∧o.data=.seq its n∧its.size≤sizeLine∧Vals xs its.toList
def TupAt(K:PySem.W.Frag)(H:Hp)(a:Addr)(xs:List V):Prop:=H a=some (.tup xs)∨KT K a xs
theorem TupAt.sq{K:PySem.W.Frag}{H:Hp}{a:Addr}{xs:List V}(h:TupAt K H a xs):SqT K H a xs:=by
 rcases h with h|h
 ·exact .inl (.inl h)
 ·exact .inr h
def Yv(H:Hp)(a:Addr):Prop:=∃ kvs,H a=some (.dT kvs)
def LA(ad:List Addr)(H:Hp)(i:Nat)(a:Addr):Prop:=ad[i]?=some a∧¬Yv H a
theorem UD{H:Hp}{a:Addr}{o:HO}(h:H a=some o)(n:∀ kvs,o≠.dT kvs):¬Yv H a:=fun⟨kvs,z⟩=>n kvs (Option.some.inj (h.symm.trans z))
mutual
inductive Den(K:PySem.W.Frag)(ad:List Addr)(H:Hp):V→D→Prop where
 |non:Den K ad H .non .non
 |bl (b:Bool):Den K ad H (.bl b) (.bl b)
 |int (i:Int):Den K ad H (.int i) (.int i)
 |str (x:Str):Den K ad H (.str x) (.str x)
 |tup {a:Addr}{xs:List V}{ds:List D} (h:TupAt K H a xs) (r:Dens K ad H xs ds):Den K ad H (.ref a) (.tup ds)
 |lst {a:Addr}{i:Nat} (h:LA ad H i a):Den K ad H (.ref a) (.lst i)
 |dic {a:Addr}{i:Nat} (h:ad[i]?=some a) (n:Yv H a):Den K ad H (.ref a) (.dic i)
 |dct {a:Addr}{kvs:List (Key×V)}{ks:List Str}{vs:List V}{ds:List D} (h:H a=some (.dK kvs)) (hk:kvs=(ks.zip vs).map fun p=>(Sum.inr p.1,p.2)) (nd:ks.Nodup∧ks≠[]) (hl:ks.length=vs.length) (r:Dens K ad H vs ds):Den K ad H (.ref a) (.dct ks ds)
 |obj {a dx:Addr}{i:Nat} (h:H a=some (.ins (ClsTab.ca i) dx [])) (n:a∉ad):Den K ad H (.ref a) (.obj i)
 |kt {a:Addr}{ks:List Str}{o:Obj}{its:Array Value}{n:Nat} (l:K.lookup a=some o) (c:o.cls=.type "tuple") (g:o.dict=none) (e:o.data=.seq its n) (z:its.size≤sizeLine) (r:Vals (ks.map V.str) its.toList):Den K ad H (.ref a) (.kt ks)
inductive Dens(K:PySem.W.Frag)(ad:List Addr)(H:Hp):List V→List D→Prop where
 |nil:Dens K ad H [] []
 |cons {v:V}{d:D}{vs:List V}{ds:List D} (h:Den K ad H v d) (r:Dens K ad H vs ds):Dens K ad H (v :: vs) (d :: ds)
end

structure Ext(ad:List Addr)(H:Hp)(ad':List Addr)(H':Hp):Prop where
 pre:∀ (i:Nat) (a:Addr),ad[i]?=some a→ad'[i]?=some a
 tup:∀ b xs,H b=some (.tup xs)→H' b=some (.tup xs)
 dk:∀ b kvs,H b=some (.dK kvs)→H' b=some (.dK kvs)
 keep:∀ b o,H b=some o→b∉ad→H' b=some o
 new:∀ b,b∈ad'→b∈ad∨H b=none
 kd:∀ (i:Nat) (a:Addr),ad[i]?=some a→(Yv H a↔Yv H' a)
theorem Ext.refl(ad:List Addr)(H:Hp):Ext ad H ad H:=⟨fun _ _ h=>h,fun _ _ h=>h,fun _ _ h=>h,fun _ _ h _=>h,fun _ h=>.inl h,fun _ _ _=>Iff.rfl⟩
theorem Ext.trans{a1 a2 a3:List Addr}{H1 H2 H3:Hp}(x:Ext a1 H1 a2 H2)(y:Ext a2 H2 a3 H3):Ext a1 H1 a3 H3:=by
 refine⟨fun i a h=>y.pre i a (x.pre i a h),fun b xs h=>y.tup b xs (x.tup b xs h),fun b xs h=>y.dk b xs (x.dk b xs h),fun b o h n=>?_,fun b h=>?_,fun i a h=>(x.kd i a h).trans (y.kd i a (x.pre i a h))⟩
 ·refine y.keep b o (x.keep b o h n) fun z=>?_
  rcases x.new b z with z|z
  ·exact n z
  ·rw[h]at z;cases z
 ·rcases y.new b h with z|z
  ·exact x.new b z
  ·cases e:H1 b with
   |none=>exact .inr rfl
   |some o=>
    by_cases q:b∈a1
    ·exact .inl q
    ·rw[x.keep b o e q]at z;cases z

theorem TupAt.mono{K:PySem.W.Frag}{ad ad':List Addr}{H H':Hp}{a:Addr}{xs:List V}(x:Ext ad H ad' H')(h:TupAt K H a xs):TupAt K H' a xs:=h.imp (x.tup _ _) id
theorem TupAt.upd{K:PySem.W.Frag}{H:Hp}{a p:Addr}{xs:List V}{o o':HO}(hp:H p=some o)(ho:∀ xs,o≠.tup xs)(h:TupAt K H a xs):TupAt K (upd H p o') a xs:=by
 rcases h with h|h
 ·refine .inl ?_
  have n:a≠p:=fun z=>by subst z;rw[h]at hp;cases hp;exact ho _ rfl
  rw[upd_ne n];exact h
 ·exact .inr h
section
variable {K:PySem.W.Frag}{ad ad':List Addr}{H H':Hp}
theorem Zhu{ks:List Str}{vs:List V}(h:ks≠[])(hl:ks.length=vs.length):(ks.zip vs).map (fun p=>((Sum.inr p.1:Key),p.2))≠[]:=by
 cases ks with
 |nil=>exact absurd rfl h
 |cons k ks=>cases vs with
  |nil=>cases hl
  |cons v vs=>exact List.cons_ne_nil _ _
structure Keeps(K:PySem.W.Frag)(ad ad':List Addr)(H H':Hp):Prop where
 t:∀ {a xs},TupAt K H a xs→TupAt K H' a xs
 l:∀ {i:Nat}{a:Addr},ad[i]?=some a→ad'[i]?=some a∧(Yv H a↔Yv H' a)
 k:∀ {a kvs},kvs≠[]→H a=some (.dK kvs)→H' a=some (.dK kvs)
 o:∀ {a C dx},H a=some (.ins C dx [])→a∉ad→H' a=some (.ins C dx [])∧a∉ad'
theorem Den.map(x:Keeps K ad ad' H H'){v:V}{d:D}(h:Den K ad H v d):Den K ad' H' v d:=
 Den.rec (motive_1:=fun v d _=>Den K ad' H' v d) (motive_2:=fun vs ds _=>Dens K ad' H' vs ds) .non .bl .int .str (fun h _ r=>.tup (x.t h) r) (fun h=>.lst ⟨(x.l h.1).1,fun z=>h.2 ((x.l h.1).2.mpr z)⟩) (fun h n=>.dic (x.l h).1 ((x.l h).2.mp n)) (fun h hk nd hl _ r=>.dct (x.k (fun z=>Zhu nd.2 hl (hk.symm.trans z)) h) hk nd hl r) (fun h n=>.obj (x.o h n).1 (x.o h n).2) .kt .nil (fun _ _ a b=>.cons a b) h
theorem Dens.map(x:Keeps K ad ad' H H'){vs:List V}{ds:List D}(h:Dens K ad H vs ds):Dens K ad' H' vs ds:=
 Dens.rec (motive_1:=fun _ _ _=>True) (motive_2:=fun vs ds _=>Dens K ad' H' vs ds) trivial (fun _=>trivial) (fun _=>trivial) (fun _=>trivial) (fun _ _ _=>trivial) (fun _=>trivial) (fun _ _=>trivial) (fun _ _ _ _ _ _=>trivial) (fun _ _=>trivial) (fun _ _ _ _ _ _=>trivial) .nil (fun a _ _ b=>.cons (a.map x) b) h
theorem Ext.keeps(x:Ext ad H ad' H'):Keeps K ad ad' H H':=⟨fun h=>h.mono x,fun h=>⟨x.pre _ _ h,x.kd _ _ h⟩,fun _ h=>x.dk _ _ h,fun h n=>⟨x.keep _ _ h n,fun z=>(x.new _ z).elim n fun q=>by rw[h]at q;cases q⟩⟩
theorem Den.mono(x:Ext ad H ad' H'){v:V}{d:D}(h:Den K ad H v d):Den K ad' H' v d:=h.map x.keeps
theorem Dens.mono(x:Ext ad H ad' H'){vs:List V}{ds:List D}(h:Dens K ad H vs ds):Dens K ad' H' vs ds:=h.map x.keeps
theorem Zgo(x:∀ (i:Nat) (a:Addr),ad[i]?=some a→ad'[i]?=some a)(y:∀ b,b∈ad'→b∈ad∨∃ xs,H b=some (.lst xs)):Keeps K ad ad' H H:=⟨id,fun h=>⟨x _ _ h,Iff.rfl⟩,fun _ h=>h,fun h n=>⟨h,fun z=>(y _ z).elim n fun⟨xs,q⟩=>by rw[h]at q;cases q⟩⟩
theorem Dens.length:∀ {vs:List V}{ds:List D},Dens K ad H vs ds→vs.length=ds.length
 |_,_,.nil=>rfl
 |_,_,.cons _ r=>congrArg (·+1) (Dens.length r)
theorem Dens.get:∀ {vs:List V}{ds:List D}{i:Nat}{d:D},Dens K ad H vs ds→ds[i]?=some d→∃ v,vs[i]?=some v∧Den K ad H v d
 |_,_,_,_,.nil,e=>by simp at e
 |_,_,0,_,.cons h _,e=>by simp at e;subst e;exact⟨_,rfl,h⟩
 |_,_,i+1,d,.cons _ r,e=>by
  obtain⟨v,h1,h2⟩:=Dens.get (i:=i) (d:=d) r (by simpa using e)
  exact⟨v,by simpa using h1,h2⟩
theorem Dens.append:∀ {vs ws:List V}{ds es:List D},Dens K ad H vs ds→Dens K ad H ws es→Dens K ad H (vs++ws) (ds++es)
 |_,_,_,_,.nil,s=>s
 |_,_,_,_,.cons h r,s=>.cons h (Dens.append r s)
theorem Dens.take:∀ {vs:List V}{ds:List D} (n:Nat),Dens K ad H vs ds→Dens K ad H (vs.take n) (ds.take n)
 |_,_,0,_=>.nil
 |_,_,_+1,.nil=>.nil
 |_,_,n+1,.cons h r=>.cons h (Dens.take n r)
theorem Dens.drop:∀ {vs:List V}{ds:List D} (n:Nat),Dens K ad H vs ds→Dens K ad H (vs.drop n) (ds.drop n)
 |_,_,0,r=>r
 |_,_,_+1,.nil=>.nil
 |_,_,n+1,.cons _ r=>Dens.drop n r
theorem Dens.set{v:V}{d:D}(h:Den K ad H v d):∀ {vs:List V}{ds:List D} (n:Nat),Dens K ad H vs ds→Dens K ad H (vs.set n v) (ds.set n d)
 |_,_,_,.nil=>.nil
 |_,_,0,.cons _ r=>.cons h r
 |_,_,n+1,.cons q r=>.cons q (Dens.set h n r)
theorem Dens.rep{v:V}{d:D}(h:Den K ad H v d):∀ n:Nat,Dens K ad H (List.replicate n v) (List.replicate n d)
 |0=>.nil
 |n+1=>.cons h (Dens.rep h n)
theorem Den.ofInt{v:V}{i:Int}(h:Den K ad H v (.int i)):v=.int i:=by cases h;rfl
theorem Den.ofStr{v:V}{x:Str}(h:Den K ad H v (.str x)):v=.str x:=by cases h;rfl
theorem Den.ofBl{v:V}{b:Bool}(h:Den K ad H v (.bl b)):v=.bl b:=by cases h;rfl
theorem Den.ofDct{v:V}{ks:List Str}{ds:List D}(h:Den K ad H v (.dct ks ds)):∃ a vs,v=.ref a∧H a=some (.dK ((ks.zip vs).map fun p=>(Sum.inr p.1,p.2)))∧ks.length=vs.length∧Dens K ad H vs ds:=by
 cases h with
 |dct h hk nd hl r=>subst hk;exact⟨_,_,rfl,h,hl,r⟩
theorem Den.ofTup{v:V}{ds:List D}(h:Den K ad H v (.tup ds)):∃ a xs,v=.ref a∧TupAt K H a xs∧Dens K ad H xs ds:=by
 cases h with
 |tup h r=>exact⟨_,_,rfl,h,r⟩
theorem Den.ofLst{v:V}{i:Nat}(h:Den K ad H v (.lst i)):∃ a,v=.ref a∧LA ad H i a:=by
 cases h with
 |lst h=>exact⟨_,rfl,h⟩
theorem Den.newL{a:Addr}{i:Nat}{xs:List V}(h:ad[i]?=some a):Den K ad (upd H a (.lst xs)) (.ref a) (.lst i):=.lst ⟨h,UD upd_same fun _ z=>nomatch z⟩
theorem LA.mono{i:Nat}{a:Addr}(x:Ext ad H ad' H')(h:LA ad H i a):LA ad' H' i a:=⟨x.pre _ _ h.1,fun z=>h.2 ((x.kd _ _ h.1).mpr z)⟩

theorem Den.ofKt{v:V}{ks:List Str}(h:Den K ad H v (.kt ks)):∃ a o its n,v=.ref a∧K.lookup a=some o∧(o.cls=.type "tuple"∧o.dict=none)∧o.data=.seq its n∧its.size≤sizeLine∧Vals (ks.map V.str) its.toList:=by
 cases h with
 |kt l c g e z r=>exact⟨_,_,_,_,rfl,l,⟨c,g⟩,e,z,r⟩
theorem V6:∀ ks:List Str,Dens K ad H (ks.map V.str) (ks.map D.str)
 |[]=>.nil
 |k :: ks=>.cons (.str k) (V6 ks)
theorem Den.ofObj{v:V}{i:Nat}(h:Den K ad H v (.obj i)):∃ a dx,v=.ref a∧H a=some (.ins (ClsTab.ca i) dx []):=by
 cases h with
 |obj h n=>exact⟨_,_,rfl,h⟩

def KL(K:PySem.W.Frag)(a:Addr)(xs:List V):Prop:=
 ∃ (o:Obj) (its:Array Value) (n:Nat),(K.lookup a=some o∧o.cls=.type "list")∧(o.dict=none∧o.data=.seq its n)∧its.size≤sizeLine∧Vals xs its.toList
inductive Ents(K:PySem.W.Frag)(ad:List Addr)(H:Hp):List (List Key×V)→List D→Prop where
 |nil:Ents K ad H [] []
 |cons {i j:Int}{v:V}{d:D}{kvs:List (List Key×V)}{ds:List D} (h:Den K ad H v d) (r:Ents K ad H kvs ds):Ents K ad H (([.inl i,.inl j],v) :: kvs) (.tup [.int i,.int j,d] :: ds)
theorem Ents.map(x:Keeps K ad ad' H H'){kvs:List (List Key×V)}{ds:List D}(h:Ents K ad H kvs ds):Ents K ad' H' kvs ds:=by
 induction h with
 |nil=>exact .nil
 |cons h _ ih=>exact .cons (h.map x) ih
theorem Ents.mono(x:Ext ad H ad' H'){kvs:List (List Key×V)}{ds:List D}(h:Ents K ad H kvs ds):Ents K ad' H' kvs ds:=h.map x.keeps
inductive CellOk(K:PySem.W.Frag)(ad:List Addr)(H:Hp)(a:Addr)(c:Ue):Prop where
 |l {xs:List V} (n:¬Yv H a) (r:Dens K ad H xs c.2) (h:(c.1=true∧H a=some (.lst xs))∨(c.1=false∧((∃ o,H a=some (.frz o (.lst xs)))∨KL K a xs)))
 |d {kvs:List (List Key×V)} (r:Ents K ad H kvs c.2) (e:c.1=true) (h:H a=some (.dT kvs))
structure StOk(K:PySem.W.Frag)(ad:List Addr)(H:Hp)(st:Za):Prop where
 len:ad.length=st.length
 nd:∀ (i j:Nat) (a:Addr) (c d:List D),ad[i]?=some a→ad[j]?=some a→st[i]?=some (true,c)→st[j]?=some (true,d)→i=j
 cell:∀ (i:Nat) (c:Ue),st[i]?=some c→∃ a,ad[i]?=some a∧CellOk K ad H a c

theorem CellOk.sq{a:Addr}{c:Ue}(h:CellOk K ad H a c)(n:¬Yv H a):∃ xs,Dens K ad H xs c.2∧SqL K H a xs:=by
 cases h with
 |l _ r h=>
  obtain⟨_,e⟩|⟨_,⟨o,e⟩|⟨o,its,n,⟨h1,h2⟩,⟨h3,h4⟩,h5,h6⟩⟩:=h
  ·exact⟨_,r,.inl (.inl e)⟩
  ·exact⟨_,r,.inl (.inr ⟨o,e⟩)⟩
  ·exact⟨_,r,.inr ⟨o,its,n,h1,h2,h3,h4,h5,h6⟩⟩
 |d r e h=>exact absurd ⟨_,h⟩ n
theorem StOk.list{st:Za}{a:Addr}{i:Nat}{b:Bool}{ds:List D}(S:StOk K ad H st)(h:LA ad H i a)(e:st[i]?=some (b,ds)):∃ xs,Dens K ad H xs ds∧SqL K H a xs:=by
 obtain⟨a',e',c⟩:=S.cell i _ e;rw[h.1]at e';cases e'
 exact c.sq h.2
theorem StOk.listM{st:Za}{a:Addr}{i:Nat}{ds:List D}(S:StOk K ad H st)(h:LA ad H i a)(e:st[i]?=some (true,ds)):∃ xs,Dens K ad H xs ds∧H a=some (.lst xs):=by
 obtain⟨a',e',c⟩:=S.cell i _ e;rw[h.1]at e';cases e'
 cases c with
 |l _ r q=>
  obtain⟨_,q⟩|⟨q,_⟩:=q
  ·exact⟨_,r,q⟩
  ·cases q
 |d r _ q=>exact absurd ⟨_,q⟩ h.2
theorem StOk.dict{st:Za}{a:Addr}{i:Nat}{b:Bool}{ds:List D}(S:StOk K ad H st)(h:ad[i]?=some a)(n:Yv H a)(e:st[i]?=some (b,ds)):∃ kvs,Ents K ad H kvs ds∧H a=some (.dT kvs)∧b=true:=by
 obtain⟨a',e',c⟩:=S.cell i _ e;rw[h]at e';cases e'
 cases c with
 |l z=>exact absurd n z
 |d r e q=>exact⟨_,r,q,e⟩
theorem JJ{p a:Addr}{o:HO}(hp:¬Yv H p)(ho:∀ kvs,o≠.dT kvs):Yv H a↔Yv (upd H p o) a:=by
 by_cases z:a=p
 ·subst z
  exact⟨fun q=>absurd q hp,fun q=>absurd q (UD upd_same ho)⟩
 ·unfold Yv
  rw[upd_ne z]
theorem J8{p:Addr}(hp:H p=none):¬Yv H p:=fun⟨_,z⟩=>by rw[hp]at z;cases z
theorem Ext.laid{p:Addr}{o:HO}(hp:H p=none)(ho:∀ kvs,o≠.dT kvs:=by intro _ z;cases z):Ext ad H ad (upd H p o):=
 ⟨fun _ _ h=>h,fun b xs h=>by rw[upd_ne (ne_of_none h hp)];exact h,fun b xs h=>by rw[upd_ne (ne_of_none h hp)];exact h,fun b o h _=>by rw[upd_ne (ne_of_none h hp)];exact h,fun _ h=>.inl h,fun _ _ _=>JJ (J8 hp) ho⟩
theorem CellOk.laid{i:Nat}{p a:Addr}{o:HO}{c:Ue}{ad':List Addr}(ha:ad[i]?=some a)(hp:H p=none)(x:Ext ad H ad' (upd H p o))(h:CellOk K ad H a c):CellOk K ad' (upd H p o) a c:=by
 cases h with
 |l n r h=>
  refine .l (fun z=>n ((x.kd i a ha).mpr z)) (r.mono x) ?_
  rcases h with⟨b,e⟩|⟨b,⟨o,e⟩|e⟩
  ·exact .inl ⟨b,by rw[upd_ne (ne_of_none e hp)];exact e⟩
  ·exact .inr ⟨b,.inl ⟨o,by rw[upd_ne (ne_of_none e hp)];exact e⟩⟩
  ·exact .inr ⟨b,.inr e⟩
 |d r e h=>exact .d (r.mono x) e (by rw[upd_ne (ne_of_none h hp)];exact h)
theorem StOk.laid{st:Za}{p:Addr}{o:HO}(S:StOk K ad H st)(hp:H p=none)(ho:∀ kvs,o≠.dT kvs:=by intro _ z;cases z):StOk K ad (upd H p o) st:=
 ⟨S.len,S.nd,fun i c e=>let ⟨a,h,q⟩:=S.cell i c e;⟨a,h,q.laid h hp (Ext.laid hp ho)⟩⟩
theorem X4{α:Type}{l:List α}{x y:α}{i:Nat}(h:(l++[x])[i]?=some y):l[i]?=some y∨(i=l.length∧y=x):=by
 by_cases hi:i < l.length
 ·rw[List.getElem?_append_left hi]at h
  exact .inl h
 ·rw[List.getElem?_append_right (by omega)]at h
  have:i - l.length=0:=by
   cases e:i - l.length with
   |zero=>rfl
   |succ k=>rw[e]at h;simp at h
  rw[this]at h;simp at h;exact .inr ⟨by omega,h.symm⟩
theorem Xx{α:Type}{l:List α}{x y:α}{i:Nat}(h:l[i]?=some y):(l++[x])[i]?=some y:=by
 rw[List.getElem?_append_left (List.getElem?_eq_some_iff.mp h).1];exact h
theorem ZP{α:Type}{l:List α}{x:α}:(l++[x])[l.length]?=some x:=by simp
theorem Ext.pushG{p:Addr}{o:HO}(hp:H p=none)(hk:∀ (i:Nat) (a:Addr),ad[i]?=some a→(Yv H a↔Yv (upd H p o) a)):Ext ad H (ad++[p]) (upd H p o):=
 ⟨fun _ _ h=>Xx h,fun b xs h=>by rw[upd_ne (ne_of_none h hp)];exact h,fun b xs h=>by rw[upd_ne (ne_of_none h hp)];exact h,fun b o h _=>by rw[upd_ne (ne_of_none h hp)];exact h,fun b h=>(List.mem_append.mp h).elim .inl fun z=>.inr (by rw[List.mem_singleton.mp z];exact hp),hk⟩
theorem Ext.push{p:Addr}{xs:List V}(hp:H p=none):Ext ad H (ad++[p]) (upd H p (.lst xs)):=Ext.pushG hp fun _ _ _=>JJ (J8 hp) fun _ z=>nomatch z
theorem StOk.more{st:Za}{p:Addr}{H':Hp}{ds:List D}(S:StOk K ad H st)(hn:∀ (i:Nat) (c:List D),ad[i]?=some p→st[i]?=some (true,c)→False)(hc:∀ (i:Nat) (c:Ue) (a:Addr),ad[i]?=some a→CellOk K ad H a c→CellOk K (ad++[p]) H' a c)(hp:CellOk K (ad++[p]) H' p (true,ds)):StOk K (ad++[p]) H' (st++[(true,ds)]):=by
 have old:∀ (i:Nat) (c:List D) (a:Addr),(ad++[p])[i]?=some a→st[i]?=some (true,c)→ad[i]?=some a:=fun i c a h e=>by
  obtain⟨a1,q1,_⟩:=S.cell i _ e;have z1:=Xx (x:=p) q1;rw[h]at z1;cases z1;exact q1
 refine⟨by rw[List.length_append,List.length_append,S.len];rfl,fun i j a c d h1 h2 h3 h4=>?_,fun i c e=>?_⟩
 ·rcases X4 h3 with h3|⟨e3,_⟩
  ·rcases X4 h4 with h4|⟨e4,_⟩
   ·exact S.nd i j a c d (old i c a h1 h3) (old j d a h2 h4) h3 h4
   ·have q1:=old i c a h1 h3
    rw[e4,←S.len,ZP]at h2;cases h2;exact(hn i c q1 h3).elim
  ·rcases X4 h4 with h4|⟨e4,_⟩
   ·have q2:=old j d a h2 h4
    rw[e3,←S.len,ZP]at h1;cases h1;exact(hn j d q2 h4).elim
   ·omega
 ·rcases X4 e with e|⟨e1,e2⟩
  ·obtain⟨a,h,q⟩:=S.cell i c e
   exact⟨a,Xx h,hc i c a h q⟩
  ·subst e2
   exact⟨p,by rw[e1,←S.len];exact ZP,hp⟩
theorem StOk.noNew{st:Za}{p:Addr}(S:StOk K ad H st)(hp:H p=none)(i:Nat)(c:List D)(h:ad[i]?=some p)(e:st[i]?=some (true,c)):False:=by
 obtain⟨a',e',q⟩:=S.cell i _ e;rw[h]at e';cases e'
 cases q with
 |l _ _ q=>
  obtain⟨_,q⟩|⟨q,_⟩:=q
  ·rw[hp]at q;cases q
  ·cases q
 |d _ _ q=>rw[hp]at q;cases q
theorem StOk.push{st:Za}{p:Addr}{xs:List V}{ds:List D}(S:StOk K ad H st)(hp:H p=none)(r:Dens K ad H xs ds):StOk K (ad++[p]) (upd H p (.lst xs)) (st++[(true,ds)]):=
 S.more (S.noNew hp) (fun _ _ _ h q=>q.laid h hp (Ext.push hp)) (.l (UD upd_same fun _ z=>nomatch z) (r.mono (Ext.push hp)) (.inl ⟨rfl,upd_same⟩))
theorem StOk.wrG{st:Za}{p:Addr}{o:HO}(S:StOk K ad H st)(kp:Keeps K ad ad H (upd H p o))(hn:p∉ad):StOk K ad (upd H p o) st:=
 ⟨S.len,S.nd,fun i c e=>by
  obtain⟨a,h,q⟩:=S.cell i c e;have ne:a≠p:=fun z=>hn (by rw[←z];exact List.mem_of_getElem? h)
  refine⟨a,h,?_⟩;cases q with
  |l n r q=>
   refine .l (fun z=>n ((kp.l h).2.mpr z)) (r.map kp) ?_
   rcases q with⟨b,q⟩|⟨b,⟨o,q⟩|q⟩
   ·exact .inl ⟨b,by rw[upd_ne ne];exact q⟩
   ·exact .inr ⟨b,.inl ⟨o,by rw[upd_ne ne];exact q⟩⟩
   ·exact .inr ⟨b,.inr q⟩
  |d r t q=>exact .d (r.map kp) t (by rw[upd_ne ne];exact q)⟩
theorem StOk.has{st:Za}{i:Nat}{a:Addr}(S:StOk K ad H st)(hi:ad[i]?=some a):(∃ o,H a=some o)∨∃ o,K.lookup a=some o:=by
 obtain⟨a',e',q⟩:=S.cell i _ (List.getElem?_eq_getElem (show i < st.length by rw[←S.len];exact(List.getElem?_eq_some_iff.mp hi).1))
 rw[hi]at e';cases e'
 cases q with
 |l _ _ q=>
  obtain⟨_,q⟩|⟨_,⟨o,q⟩|⟨o,its,m,⟨h1,h2⟩,_⟩⟩:=q
  ·exact .inl ⟨_,q⟩
  ·exact .inl ⟨_,q⟩
  ·exact .inr ⟨_,h1⟩
 |d _ _ q=>exact .inl ⟨_,q⟩
theorem StOk.adopt{st:Za}{p:Addr}{xs:List V}{ds:List D}(S:StOk K ad H st)(hp:H p=some (.lst xs))(hn:p∉ad)(r:Dens K ad H xs ds):StOk K (ad++[p]) H (st++[(true,ds)]):=by
 have kp:Keeps K ad (ad++[p]) H H:=Zgo (fun _ _ h=>Xx h) (fun b hb=>(List.mem_append.mp hb).imp id fun z=>⟨xs,by rw[List.mem_singleton.mp z];exact hp⟩)
 exact S.more (fun i _ h _=>hn (List.mem_of_getElem? h)) (fun _ _ _ _ q=>by
  cases q with
  |l n r h=>exact .l n (r.map kp) h
  |d r e h=>exact .d (r.map kp) e h) (.l (UD hp fun _ z=>nomatch z) (r.map kp) (.inl ⟨rfl,hp⟩))
theorem Ext.writeG{a:Addr}{o o':HO}(h:H a=some o)(ha:a∈ad)(h1:∀ xs,o≠.tup xs)(h2:∀ xs,o≠.dK xs)(hk:Yv H a↔Yv (upd H a o') a):Ext ad H ad (upd H a o'):=
 ⟨fun _ _ h=>h,fun b zs e=>by rw[upd_ne (ne_of e h (fun z=>h1 _ z.symm))];exact e,fun b zs e=>by rw[upd_ne (ne_of e h (fun z=>h2 _ z.symm))];exact e,fun b o e n=>by rw[upd_ne (show b≠a from fun z=>n (by rw[z];exact ha))];exact e,fun _ h=>.inl h,fun _ b _=>by
  by_cases z:b=a
  ·rw[z];exact hk
  ·unfold Yv;rw[upd_ne z]⟩
theorem Ext.write{a:Addr}{xs ys:List V}(h:H a=some (.lst xs))(ha:a∈ad):Ext ad H ad (upd H a (.lst ys)):=
 Ext.writeG h ha (fun _ z=>nomatch z) (fun _ z=>nomatch z) ⟨fun z=>absurd z (UD h fun _ z=>nomatch z),fun z=>absurd z (UD upd_same fun _ z=>nomatch z)⟩
theorem StOk.writeG{st:Za}{a:Addr}{i:Nat}{ds es:List D}{o o':HO}(S:StOk K ad H st)(h:ad[i]?=some a)(e:st[i]?=some (true,ds))(hx:H a=some o)(hf:∀ q u,o≠.frz q u)(x:Ext ad H ad (upd H a o'))(r:CellOk K ad (upd H a o') a (true,es)) :
  StOk K ad (upd H a o') (st.set i (true,es)):=by
 have hi:i < st.length:=(List.getElem?_eq_some_iff.mp e).1;refine⟨by rw[List.length_set];exact S.len,fun j k b c d h1 h2 h3 h4=>?_,fun j c q=>?_⟩
 ·have up:∀ (j:Nat) (c:List D),(st.set i (true,es))[j]?=some (true,c)→∃ c',st[j]?=some (true,c'):=fun j c q=>by
   by_cases z:i=j
   ·subst z;exact⟨_,e⟩
   ·rw[List.getElem?_set_ne z]at q;exact⟨_,q⟩
  obtain⟨c',h3⟩:=up j c h3;obtain⟨d',h4⟩:=up k d h4;exact S.nd j k b c' d' h1 h2 h3 h4
 ·by_cases z:i=j
  ·subst z
   rw[List.getElem?_set_self hi]at q;cases q;exact⟨a,h,r⟩
  ·rw[List.getElem?_set_ne z]at q
   obtain⟨b,hb,hz⟩:=S.cell j c q;refine⟨b,hb,?_⟩;have ne:c.1=true→b≠a:=fun t w=>by
    obtain⟨cb,cl⟩:=c;cases (show cb=true from t)
    exact z (S.nd i j a ds cl h (w ▸ hb) e q)
   cases hz with
   |l n rz hz=>
    refine .l (fun z=>n ((x.kd j b hb).mpr z)) (rz.mono x) ?_
    rcases hz with⟨t,hz⟩|⟨t,⟨o,hz⟩|hz⟩
    ·exact .inl ⟨t,by rw[upd_ne (ne t)];exact hz⟩
    ·exact .inr ⟨t,.inl ⟨o,by rw[upd_ne (ne_of hz hx (fun z=>hf _ _ z.symm))];exact hz⟩⟩
    ·exact .inr ⟨t,.inr hz⟩
   |d rz t hz=>exact .d (rz.mono x) t (by rw[upd_ne (ne t)];exact hz)
theorem StOk.write{st:Za}{a:Addr}{i:Nat}{ds es:List D}{xs ys:List V}(S:StOk K ad H st)(h:LA ad H i a)(e:st[i]?=some (true,ds))(hx:H a=some (.lst xs))(r:Dens K ad H ys es) :
  StOk K ad (upd H a (.lst ys)) (st.set i (true,es)):=
 S.writeG h.1 e hx (fun _ _ z=>nomatch z) (Ext.write hx (List.mem_of_getElem? h.1)) (.l (UD upd_same fun _ z=>nomatch z) (r.mono (Ext.write hx (List.mem_of_getElem? h.1))) (.inl ⟨rfl,upd_same⟩))

structure EnvOk(K:PySem.W.Frag)(ad:List Addr)(H:Hp)(σ:L2.St)(ρ:Env):Prop where
 len:σ.length=ρ.length
 at_:∀ (i:Nat) (d:D),ρ[i]?=some (some d)→∃ v,σ[i]?=some (some v)∧Den K ad H v d
theorem EnvOk.mono{σ:L2.St}{ρ:Env}(x:Ext ad H ad' H')(h:EnvOk K ad H σ ρ):EnvOk K ad' H' σ ρ:=⟨h.len,fun i d e=>let ⟨v,e1,e2⟩:=h.at_ i d e;⟨v,e1,e2.mono x⟩⟩
theorem EnvOk.set{σ:L2.St}{ρ:Env}{v:V}{d:D}(h:EnvOk K ad H σ ρ)(i:Nat)(r:Den K ad H v d):EnvOk K ad H (σ.set i (some v)) (Zt ρ i d):=by
 refine⟨by unfold Zt;rw[List.length_set,List.length_set];exact h.len,fun j e q=>?_⟩
 unfold Zt at q;by_cases z:i=j
 ·subst z
  by_cases hi:i < ρ.length
  ·rw[List.getElem?_set_self hi]at q
   cases q;exact⟨v,by rw[List.getElem?_set_self (by rw[h.len];exact hi)],r⟩
  ·rw[List.getElem?_eq_none (by rw[List.length_set];omega)]at q
   cases q
 ·rw[List.getElem?_set_ne z]at q
  obtain⟨w,e1,e2⟩:=h.at_ j e q;exact⟨w,by rw[List.getElem?_set_ne z];exact e1,e2⟩
end

def Post(K:PySem.W.Frag)(ad:List Addr)(H:Hp)(d:D)(st':Za)(Q:VK):Prop:=∀ v ad' H',Ext ad H ad' H'→StOk K ad' H' st'→Den K ad' H' v d→Q v H'
noncomputable def tE(K:PySem.W.Frag)(f:Env→Za→Res):TE:=fun σ H Q=>∃ ad ρ st d st',EnvOk K ad H σ ρ∧StOk K ad H st∧f ρ st=some (d,st')∧Post K ad H d st' Q
noncomputable def tT(K:PySem.W.Frag)(f:Env→Za→Res):TT:=fun σ H Q=>∃ ad ρ st k st',EnvOk K ad H σ ρ∧StOk K ad H st∧f ρ st=some (.bl k,st')∧∀ ad' H',Ext ad H ad' H'→StOk K ad' H' st'→Q k H'
noncomputable def tA(K:PySem.W.Frag)(f:Env→Za→Res):TA:=fun σ H Q=>∃ ad ρ st ds st',EnvOk K ad H σ ρ∧StOk K ad H st∧f ρ st=some (.tup ds,st')∧∀ vs ad' H',Ext ad H ad' H'→StOk K ad' H' st'→Dens K ad' H' vs ds→Q vs H'
noncomputable def rD(K:PySem.W.Frag)(f:D→D→Za→Res):R2:=fun x y H Q=>∃ ad st dx dy d st',StOk K ad H st∧Den K ad H x dx∧Den K ad H y dy∧f dx dy st=some (d,st')∧Post K ad H d st' Q
noncomputable def spD(K:PySem.W.Frag)(g:Fn):Sp:=fun vs H Q _=>∃ ad ds st d st',StOk K ad H st∧Dens K ad H vs ds∧g ds st=some (d,st')∧Post K ad H d st' Q
noncomputable def tS(K:PySem.W.Frag)(f:Env→Za→Option (Fl×Za)):TS:=fun D σ H=>∃ ad ρ st r st',EnvOk K ad H σ ρ∧StOk K ad H st∧f ρ st=some (r,st') ∧
 match r with
 |.nx ρ'=>∀ σ' ad' H',Ext ad H ad' H'→StOk K ad' H' st'→EnvOk K ad' H' σ' ρ'→D.nx σ' H'
 |.bk ρ'=>∀ σ' ad' H',Ext ad H ad' H'→StOk K ad' H' st'→EnvOk K ad' H' σ' ρ'→D.bk σ' H'
 |.ct ρ'=>∀ σ' ad' H',Ext ad H ad' H'→StOk K ad' H' st'→EnvOk K ad' H' σ' ρ'→D.ct σ' H'
 |.rt d=>Post K ad H d st' D.rt
theorem Post.at{K:PySem.W.Frag}{ad:List Addr}{H:Hp}{d:D}{st:Za}{Q:VK}(p:Post K ad H d st Q)(S:StOk K ad H st){v:V}(h:Den K ad H v d):Q v H:=p v ad H (Ext.refl _ _) S h
theorem Post.later{K:PySem.W.Frag}{ad ad':List Addr}{H H':Hp}{d:D}{st:Za}{Q:VK}(p:Post K ad H d st Q)(x:Ext ad H ad' H'):Post K ad' H' d st Q:=fun v a2 H2 y S h=>p v a2 H2 (x.trans y) S h
end Dp



namespace Dp
open PySem PySem.Spec PyProof.Rows L2
variable [ClsTab]
section
variable {X:Cx}{a b c:Expr}{fa fb fc:Ev}{pos:Pos}

theorem Zea{K:PySem.W.Frag}{i:Nat}(σ:L2.St)(H:Hp)(Q:VK)(h:tE K (ZT i) σ H Q):tVar i σ H Q:=by
 obtain⟨ad,ρ,st,d,st',E,S,e,p⟩:=h;unfold ZT at e;split at e
 ·rename_i q
  obtain⟨v,e1,e2⟩:=E.at_ i _ q;cases e;exact⟨v,e1,p.at S e2⟩
 ·cases e
theorem Qj{K:PySem.W.Frag}{v:V}{d:D}(hd:∀ ad H,Den K ad H v d)(σ:L2.St)(H:Hp)(Q:VK)(h:tE K (evC d) σ H Q):tC v σ H Q:=by
 obtain⟨ad,ρ,st,d',st',E,S,e,p⟩:=h;cases e;exact p.at S (hd _ _)
theorem Ut{K:PySem.W.Frag}{g:D→D→Za→Res}(σ:L2.St)(H:Hp)(Q:VK)(h:tE K (ZQ fa fb g) σ H Q):tOp (rD K g) (tE K fa) (tE K fb) σ H Q:=by
 obtain⟨ad,ρ,st,d,st',E,S,e,p⟩:=h;unfold ZQ at e;split at e
 ·rename_i x st1 q1
  split at e
  ·rename_i y st2 q2
   refine⟨ad,ρ,st,x,st1,E,S,q1,fun v1 ad1 H1 x1 S1 d1=>⟨ad1,ρ,st1,y,st2,E.mono x1,S1,q2,fun v2 ad2 H2 x2 S2 d2=>?_⟩⟩
   exact⟨ad2,st2,x,y,d,st',S2,d1.mono x2,d2,e,p.later (x1.trans x2)⟩
  ·cases e
 ·cases e
def rU1(K:PySem.W.Frag)(g:D→Za→Res):V→Hp→VK→Prop:=fun x H Q=>∃ ad st dx d st',StOk K ad H st∧Den K ad H x dx∧g dx st=some (d,st')∧Post K ad H d st' Q
theorem Zgh{K:PySem.W.Frag}{g:D→Za→Res}(σ:L2.St)(H:Hp)(Q:VK)(h:tE K (ZL fa g) σ H Q):tUn (rU1 K g) (tE K fa) σ H Q:=by
 obtain⟨ad,ρ,st,d,st',E,S,e,p⟩:=h;unfold ZL at e;split at e
 ·rename_i x st1 q1
  exact⟨ad,ρ,st,x,st1,E,S,q1,fun v1 ad1 H1 x1 S1 d1=>⟨ad1,st1,x,d,st',S1,d1,e,p.later x1⟩⟩
 ·cases e
theorem Zca{K:PySem.W.Frag}(σ:L2.St)(H:Hp)(Q:Bool→Hp→Prop)(h:tT K fa σ H Q):tE K fa σ H fun x H1=>∃ c,x=.bl c∧Q c H1:=by
 obtain⟨ad,ρ,st,k,st',E,S,e,p⟩:=h;exact⟨ad,ρ,st,.bl k,st',E,S,e,fun v ad' H' x S' d'=>⟨k,d'.ofBl,p ad' H' x S'⟩⟩
theorem Yh{fc ft ff:Ev}{ρ:Env}{st:Za}{r:D×Za}(h:YK fc ft ff ρ st=some r):∃ k st1,fc ρ st=some (.bl k,st1)∧(if k=true then ft ρ st1 else ff ρ st1)=some r:=by
 unfold YK at h;split at h
 ·rename_i st1 q
  exact⟨true,st1,q,by rw[if_pos rfl];exact h⟩
 ·rename_i st1 q
  exact⟨false,st1,q,by rw[if_neg Bool.false_ne_true];exact h⟩
 ·cases h
theorem Zgg{K:PySem.W.Frag}(σ:L2.St)(H:Hp)(Q:VK)(h:tE K (YK fc fa fb) σ H Q):tIf (tT K fc) (tE K fa) (tE K fb) σ H Q:=by
 obtain⟨ad,ρ,st,d,st',E,S,e,p⟩:=h;obtain⟨k,st1,q,e⟩:=Yh e;refine⟨ad,ρ,st,k,st1,E,S,q,fun ad1 H1 x1 S1=>?_⟩
 cases k with
 |true=>
  rw[if_pos rfl]at e ⊢;exact⟨ad1,ρ,st1,d,st',E.mono x1,S1,e,p.later x1⟩
 |false=>
  rw[if_neg Bool.false_ne_true]at e ⊢;exact⟨ad1,ρ,st1,d,st',E.mono x1,S1,e,p.later x1⟩
theorem ZbV{K:PySem.W.Frag}(σ:L2.St)(H:Hp)(Q:VK)(h:tE K (YK fa fb (evC (.bl false))) σ H Q):tAndV (tE K fa) (tE K fb) σ H Q:=by
 obtain⟨ad,ρ,st,d,st',E,S,e,p⟩:=h;obtain⟨k,st1,q,e⟩:=Yh e;refine⟨ad,ρ,st,.bl k,st1,E,S,q,fun v1 ad1 H1 x1 S1 d1=>⟨k,d1.ofBl,?_⟩⟩
 cases k with
 |true=>
  rw[if_pos rfl]at e ⊢;exact⟨ad1,ρ,st1,d,st',E.mono x1,S1,e,p.later x1⟩
 |false=>
  rw[if_neg Bool.false_ne_true]at e ⊢;cases e;exact(p.later x1).at S1 (.bl false)
theorem Zd5{K:PySem.W.Frag}(σ:L2.St)(H:Hp)(Q:VK)(h:tE K (YK fa (evC (.bl true)) fb) σ H Q):tOrV (tE K fa) (tE K fb) σ H Q:=by
 obtain⟨ad,ρ,st,d,st',E,S,e,p⟩:=h;obtain⟨k,st1,q,e⟩:=Yh e;refine⟨ad,ρ,st,.bl k,st1,E,S,q,fun v1 ad1 H1 x1 S1 d1=>⟨k,d1.ofBl,?_⟩⟩
 cases k with
 |true=>
  rw[if_pos rfl]at e ⊢;cases e;exact(p.later x1).at S1 (.bl true)
 |false=>
  rw[if_neg Bool.false_ne_true]at e ⊢;exact⟨ad1,ρ,st1,d,st',E.mono x1,S1,e,p.later x1⟩
theorem ZbU{K:PySem.W.Frag}(σ:L2.St)(H:Hp)(Q:Bool→Hp→Prop)(h:tT K (YK fa fb (evC (.bl false))) σ H Q):tAnd (tT K fa) (tT K fb) σ H Q:=by
 obtain⟨ad,ρ,st,d,st',E,S,e,p⟩:=h;obtain⟨k,st1,q,e⟩:=Yh e;refine⟨ad,ρ,st,k,st1,E,S,q,fun ad1 H1 x1 S1=>?_⟩
 cases k with
 |true=>
  rw[if_pos rfl]at e ⊢;exact⟨ad1,ρ,st1,d,st',E.mono x1,S1,e,fun ad2 H2 x2 S2=>p ad2 H2 (x1.trans x2) S2⟩
 |false=>
  rw[if_neg Bool.false_ne_true]at e ⊢;cases e;exact p ad1 H1 x1 S1
theorem Zd4{K:PySem.W.Frag}(σ:L2.St)(H:Hp)(Q:Bool→Hp→Prop)(h:tT K (YK fa (evC (.bl true)) fb) σ H Q):tOr (tT K fa) (tT K fb) σ H Q:=by
 obtain⟨ad,ρ,st,d,st',E,S,e,p⟩:=h;obtain⟨k,st1,q,e⟩:=Yh e;refine⟨ad,ρ,st,k,st1,E,S,q,fun ad1 H1 x1 S1=>?_⟩
 cases k with
 |true=>
  rw[if_pos rfl]at e ⊢;cases e;exact p ad1 H1 x1 S1
 |false=>
  rw[if_neg Bool.false_ne_true]at e ⊢;exact⟨ad1,ρ,st1,d,st',E.mono x1,S1,e,fun ad2 H2 x2 S2=>p ad2 H2 (x1.trans x2) S2⟩
theorem Zb6{K:PySem.W.Frag}(σ:L2.St)(H:Hp)(Q:Bool→Hp→Prop)(h:tT K (ZL fa Za4) σ H Q):tNot (tT K fa) σ H Q:=by
 obtain⟨ad,ρ,st,d,st',E,S,e,p⟩:=h;unfold ZL at e;split at e
 ·rename_i x st1 q1
  cases x with
  |bl k=>
   cases (show some (D.bl (!k),st1)=_ from e)
   exact⟨ad,ρ,st,k,_,E,S,q1,fun ad1 H1 x1 S1=>p ad1 H1 x1 S1⟩
  |_=>simp[Za4]at e
 ·cases e
theorem Zb7{K:PySem.W.Frag}(σ:L2.St)(H:Hp)(Q:VK)(h:tE K (ZL fa Za4) σ H Q):tNotV (tE K fa) σ H Q:=by
 obtain⟨ad,ρ,st,d,st',E,S,e,p⟩:=h;unfold ZL at e;split at e
 ·rename_i x st1 q1
  cases x with
  |bl k=>
   cases (show some (D.bl (!k),st1)=_ from e)
   exact⟨ad,ρ,st,.bl k,_,E,S,q1,fun v1 ad1 H1 x1 S1 d1=>⟨k,d1.ofBl,(p.later x1).at S1 (.bl _)⟩⟩
  |_=>simp[Za4]at e
 ·cases e
theorem Qh{K:PySem.W.Frag}(σ:L2.St)(H:Hp)(Q:List V→Hp→Prop)(h:tA K (evC (.tup [])) σ H Q):tNil σ H Q:=by
 obtain⟨ad,ρ,st,d,st',E,S,e,p⟩:=h;cases e;exact p [] ad H (Ext.refl _ _) S .nil
theorem ZaS{K:PySem.W.Frag}(σ:L2.St)(H:Hp)(Q:List V→Hp→Prop)(h:tA K (ZQ fa fb Xb) σ H Q):tCons (tE K fa) (tA K fb) σ H Q:=by
 obtain⟨ad,ρ,st,d,st',E,S,e,p⟩:=h;unfold ZQ at e;split at e
 ·rename_i x st1 q1
  split at e
  ·rename_i y st2 q2
   cases y with
   |tup zs=>
    have e:(if zs.length < 1000 then some (D.tup (x :: zs),st2) else none)=some (D.tup d,st'):=e
    split at e
    ·cases e
     refine⟨ad,ρ,st,_,st1,E,S,q1,fun v1 ad1 H1 x1 S1 d1=>⟨ad1,ρ,st1,zs,_,E.mono x1,S1,q2,fun v2 ad2 H2 x2 S2 d2=>?_⟩⟩
     exact p _ ad2 H2 (x1.trans x2) S2 (.cons (d1.mono x2) d2)
    ·cases e
   |_=>simp[Xb]at e
  ·cases e
 ·cases e
theorem Zd9{K:PySem.W.Frag}(hb:∀ ρ st ds st',fa ρ st=some (.tup ds,st')→ds.length≤1000)(ht:∀ ρ st d st',fa ρ st=some (d,st')→∃ ds,d=.tup ds)(σ:L2.St)(H:Hp)(Q:VK)(h:tE K fa σ H Q):tTup (tA K fa) σ H Q:=by
 obtain⟨ad,ρ,st,d,st',E,S,e,p⟩:=h;obtain⟨ds,rfl⟩:=ht _ _ _ _ e;refine⟨ad,ρ,st,ds,st',E,S,e,fun vs ad1 H1 x1 S1 d1=>⟨?_,fun q hq=>?_⟩⟩
 ·rw[d1.length]
  exact Nat.le_trans (hb _ _ _ _ e) (by decide)
 ·exact p _ ad1 _ (x1.trans (Ext.laid hq)) (S1.laid hq) (.tup (.inl upd_same) (d1.mono (Ext.laid hq)))
theorem Zd2{K:PySem.W.Frag}(hb:∀ ρ st ds st',fa ρ st=some (.tup ds,st')→ds.length≤1000)(σ:L2.St)(H:Hp)(Q:VK)(h:tE K (ZL fa Zcl) σ H Q):tLst (tA K fa) σ H Q:=by
 obtain⟨ad,ρ,st,d,st',E,S,e,p⟩:=h;unfold ZL at e;split at e
 ·rename_i x st1 q1
  cases x with
  |tup ds=>
   cases (show some (D.lst st1.length,st1++[(true,ds)])=_ from e)
   refine⟨ad,ρ,st,ds,_,E,S,q1,fun vs ad1 H1 x1 S1 d1=>⟨?_,fun q hq=>?_⟩⟩
   ·rw[d1.length]
    exact Nat.le_trans (hb _ _ _ _ q1) (by decide)
   ·refine p _ (ad1++[q]) _ (x1.trans (Ext.push hq)) (S1.push hq d1) (.newL ?_)
    rw[←S1.len];exact ZP
  |_=>simp[Zcl]at e
 ·cases e
theorem Qk{K:PySem.W.Frag}{g:Fn}{ds:List D}{dvs:List V}{E:XK}(hd:∀ ad H,Dens K ad H dvs ds)(σ:L2.St)(H:Hp)(Q:VK)(h:tE K (ZL fa (W4 g ds)) σ H Q):tCall (spD K g) dvs E (tA K fa) σ H Q:=by
 obtain⟨ad,ρ,st,d,st',E,S,e,p⟩:=h;unfold ZL at e;split at e
 ·rename_i x st1 q1
  cases x with
  |tup xs=>exact⟨ad,ρ,st,xs,_,E,S,q1,fun vs ad1 H1 x1 S1 d1=>⟨ad1,xs++ds,_,d,st',S1,d1.append (hd _ _),e,p.later x1⟩⟩
  |_=>simp[W4]at e
 ·cases e
def rC(K:PySem.W.Frag)(g:List D→Za→Res):List V→Hp→VK→Prop:=fun vs H Q=>∃ ad st ds d st',StOk K ad H st∧Dens K ad H vs ds∧g ds st=some (d,st')∧Post K ad H d st' Q
noncomputable def on1(g:D→Za→Res):List D→Za→Res
 |[x],st=>g x st
 |_,_=>none
noncomputable def on2(g:D→D→Za→Res):List D→Za→Res
 |[x,y],st=>g x y st
 |_,_=>none
theorem W8{K:PySem.W.Frag}{g:D→Za→Res}(σ:L2.St)(H:Hp)(Q:VK)(h:tE K (ZL fa g) σ H Q):tCB (rC K (on1 g)) (tCons (tE K fa) tNil) σ H Q:=by
 obtain⟨ad,ρ,st,d,st',E,S,e,p⟩:=h;unfold ZL at e;split at e
 ·rename_i x st1 q1
  exact⟨ad,ρ,st,x,st1,E,S,q1,fun v1 ad1 H1 x1 S1 d1=>⟨ad1,st1,[x],d,st',S1,.cons d1 .nil,e,p.later x1⟩⟩
 ·cases e
theorem Qi{K:PySem.W.Frag}{g:D→D→Za→Res}(σ:L2.St)(H:Hp)(Q:VK)(h:tE K (ZQ fa fb g) σ H Q):tCB (rC K (on2 g)) (tCons (tE K fa) (tCons (tE K fb) tNil)) σ H Q:=by
 obtain⟨ad,ρ,st,d,st',E,S,e,p⟩:=h;unfold ZQ at e;split at e
 ·rename_i x st1 q1
  split at e
  ·rename_i y st2 q2
   refine⟨ad,ρ,st,x,st1,E,S,q1,fun v1 ad1 H1 x1 S1 d1=>⟨ad1,ρ,st1,y,st2,E.mono x1,S1,q2,fun v2 ad2 H2 x2 S2 d2=>?_⟩⟩
   exact⟨ad2,st2,[x,y],d,st',S2,.cons (d1.mono x2) (.cons d2 .nil),e,p.later (x1.trans x2)⟩
  ·cases e
 ·cases e
noncomputable def tO(K:PySem.W.Frag)(f:Ev):TO:=fun σ H Q=>∃ ad ρ st d st',EnvOk K ad H σ ρ∧StOk K ad H st∧f ρ st=some (d,st') ∧
 ((d=.non∧∀ ad' H',Ext ad H ad' H'→StOk K ad' H' st'→Q none H')∨∃ i,d=.int i∧∀ ad' H',Ext ad H ad' H'→StOk K ad' H' st'→Q (some i) H')
def rSl(K:PySem.W.Frag):V→Option Int→Option Int→Hp→VK→Prop:=fun x lo hi H Q=>∃ ad st dx d st',StOk K ad H st∧Den K ad H x dx∧Yi dx lo hi st=some (d,st')∧Post K ad H d st' Q
noncomputable def part:D→Option (Option Int)
 |.non=>some none
 |.int i=>some (some i)
 |_=>none
theorem UQ{x l h:D}{st:Za}{r:D×Za}(e:XX x l h st=some r):∃ lo hi,part l=some lo∧part h=some hi∧Yi x lo hi st=some r:=by
 unfold XX at e;split at e
 ·exact⟨_,_,rfl,rfl,e⟩
 ·exact⟨_,_,rfl,rfl,e⟩
 ·exact⟨_,_,rfl,rfl,e⟩
 ·exact⟨_,_,rfl,rfl,e⟩
 ·cases e
theorem ZfA{K:PySem.W.Frag}{f:Ev}{σ:L2.St}{H:Hp}{Q:Option Int→Hp→Prop}{ad:List Addr}{ρ:Env}{st st':Za}{d:D}{o:Option Int}(E:EnvOk K ad H σ ρ)(S:StOk K ad H st)(e:f ρ st=some (d,st'))(po:part d=some o)(q:∀ ad' H',Ext ad H ad' H'→StOk K ad' H' st'→Q o H'):tO K f σ H Q:=by
 refine⟨ad,ρ,st,d,st',E,S,e,?_⟩;cases d with
 |non=>cases po;exact .inl ⟨rfl,q⟩
 |int i=>cases po;exact .inr ⟨i,rfl,q⟩
 |_=>cases po
theorem ZaU{K:PySem.W.Frag}(σ:L2.St)(H:Hp)(Q:VK)(h:tE K (QK fa fb fc XX) σ H Q):tSl (rSl K) (tE K fa) (tO K fb) (tO K fc) σ H Q:=by
 obtain⟨ad,ρ,st,d,st',E,S,e,p⟩:=h;unfold QK at e;split at e
 ·rename_i x st1 q1
  split at e
  ·rename_i y st2 q2
   split at e
   ·rename_i z st3 q3
    obtain⟨lo,hi,pl,ph,e⟩:=UQ e;refine⟨ad,ρ,st,x,st1,E,S,q1,fun v1 ad1 H1 x1 S1 d1=>ZfA (E.mono x1) S1 q2 pl fun ad2 H2 x2 S2=>ZfA (E.mono (x1.trans x2)) S2 q3 ph fun ad3 H3 x3 S3=>?_⟩
    exact⟨ad3,st3,x,d,st',S3,d1.mono (x2.trans x3),e,p.later (x1.trans (x2.trans x3))⟩
   ·cases e
  ·cases e
 ·cases e
theorem Zd3{K:PySem.W.Frag}(σ:L2.St)(H:Hp)(Q:Option Int→Hp→Prop)(h:tO K (evC .non) σ H Q):tNoPart σ H Q:=by
 obtain⟨ad,ρ,st,d,st',E,S,e,p⟩:=h;cases e;rcases p with⟨_,p⟩|⟨i,z,_⟩
 ·exact p ad H (Ext.refl _ _) S
 ·cases z
end
end Dp



namespace Dp
open PySem PySem.Spec PyProof.Rows L2
variable [ClsTab]
def PostS(K:PySem.W.Frag)(ad:List Addr)(H:Hp)(r:Fl)(st':Za)(D:Ends):Prop:=match r with
 |.nx ρ'=>∀ σ' ad' H',Ext ad H ad' H'→StOk K ad' H' st'→EnvOk K ad' H' σ' ρ'→D.nx σ' H'
 |.bk ρ'=>∀ σ' ad' H',Ext ad H ad' H'→StOk K ad' H' st'→EnvOk K ad' H' σ' ρ'→D.bk σ' H'
 |.ct ρ'=>∀ σ' ad' H',Ext ad H ad' H'→StOk K ad' H' st'→EnvOk K ad' H' σ' ρ'→D.ct σ' H'
 |.rt d=>Post K ad H d st' D.rt
theorem PostS.later{K:PySem.W.Frag}{ad ad':List Addr}{H H':Hp}{r:Fl}{st:Za}{D:Ends}(x:Ext ad H ad' H')(p:PostS K ad H r st D):PostS K ad' H' r st D:=by
 cases r with
 |nx ρ=>exact fun σ2 a2 H2 y S E=>p σ2 a2 H2 (x.trans y) S E
 |bk ρ=>exact fun σ2 a2 H2 y S E=>p σ2 a2 H2 (x.trans y) S E
 |ct ρ=>exact fun σ2 a2 H2 y S E=>p σ2 a2 H2 (x.trans y) S E
 |rt d=>exact Post.later p x
theorem Z7{K:PySem.W.Frag}{f:Ex}{D:Ends}{σ:L2.St}{H:Hp}{ad:List Addr}{ρ:Env}{st st':Za}{r:Fl}(E:EnvOk K ad H σ ρ)(S:StOk K ad H st)(e:f ρ st=some (r,st'))(p:PostS K ad H r st' D):tS K f D σ H:=by
 refine⟨ad,ρ,st,r,st',E,S,e,?_⟩;cases r<;>exact p
theorem Z0{K:PySem.W.Frag}{f:Ex}{D:Ends}{σ:L2.St}{H:Hp}(h:tS K f D σ H):∃ ad ρ st r st',EnvOk K ad H σ ρ∧StOk K ad H st∧f ρ st=some (r,st')∧PostS K ad H r st' D:=by
 obtain⟨ad,ρ,st,r,st',E,S,e,p⟩:=h;refine⟨ad,ρ,st,r,st',E,S,e,?_⟩;cases r<;>exact p
section
variable {K:PySem.W.Frag}{f g:Ex}{fe fi fk:Ev}
theorem Ql(D:Ends)(σ:L2.St)(H:Hp)(h:tS K (fun ρ st=>some (.nx ρ,st)) D σ H):tNext D σ H:=by
 obtain⟨ad,ρ,st,r,st',E,S,e,p⟩:=Z0 h;cases e;exact p σ ad H (Ext.refl _ _) S E
theorem ZdY(D:Ends)(σ:L2.St)(H:Hp)(h:tS K (fun ρ st=>some (.bk ρ,st)) D σ H):tBreak D σ H:=by
 obtain⟨ad,ρ,st,r,st',E,S,e,p⟩:=Z0 h;cases e;exact p σ ad H (Ext.refl _ _) S E
theorem ZbX(D:Ends)(σ:L2.St)(H:Hp)(h:tS K (fun ρ st=>some (.ct ρ,st)) D σ H):tCont D σ H:=by
 obtain⟨ad,ρ,st,r,st',E,S,e,p⟩:=Z0 h;cases e;exact p σ ad H (Ext.refl _ _) S E
theorem Zd8(D:Ends)(σ:L2.St)(H:Hp)(h:tS K (QL f g) D σ H):tSeq (tS K f) (tS K g) D σ H:=by
 obtain⟨ad,ρ,st,r,st',E,S,e,p⟩:=Z0 h;unfold QL at e;split at e
 ·rename_i ρ1 st1 q
  exact Z7 E S q fun σ1 ad1 H1 x1 S1 E1=>Z7 E1 S1 e (p.later x1)
 ·rename_i q
  refine Z7 E S e ?_;cases r with
  |nx ρ1=>exact absurd e (q ρ1 st')
  |bk ρ1=>exact p
  |ct ρ1=>exact p
  |rt d=>exact p
theorem Zd7(D:Ends)(σ:L2.St)(H:Hp)(h:tS K (UP fe) D σ H):tRet (tE K fe) D σ H:=by
 obtain⟨ad,ρ,st,r,st',E,S,e,p⟩:=Z0 h;unfold UP at e;split at e
 ·rename_i d st1 q
  cases e;exact⟨ad,ρ,st,d,_,E,S,q,p⟩
 ·cases e
theorem Uu{i:Nat}(D:Ends)(σ:L2.St)(H:Hp)(h:tS K (VG i fe) D σ H):tAsg (tE K fe) (gName i) D σ H:=by
 obtain⟨ad,ρ,st,r,st',E,S,e,p⟩:=Z0 h;unfold VG at e;split at e
 ·rename_i d st1 q
  cases e;exact⟨ad,ρ,st,d,_,E,S,q,fun v ad1 H1 x1 S1 d1=>p _ ad1 H1 x1 S1 ((E.mono x1).set i d1)⟩
 ·cases e
theorem Zb8{i j:Nat}(D:Ends)(σ:L2.St)(H:Hp)(h:tS K (QM i j fe) D σ H):tAsg (tE K fe) (gTup K 2 (gCons (gName i) (gCons (gName j) gNil))) D σ H:=by
 obtain⟨ad,ρ,st,r,st',E,S,e,p⟩:=Z0 h;unfold QM at e;split at e
 ·rename_i x y st1 q
  cases e;refine⟨ad,ρ,st,_,_,E,S,q,fun v ad1 H1 x1 S1 d1=>?_⟩
  obtain⟨a,vs,rfl,ha,rv⟩:=d1.ofTup;cases rv with
  |cons d1 rv=>
   cases rv with
   |cons d2 rv=>
    cases rv;exact⟨a,_,rfl,(ha).sq,rfl,_,_,rfl,_,_,rfl,rfl,p _ ad1 H1 x1 S1 (((E.mono x1).set i d1).set j d2)⟩
 ·cases e
theorem Zb9{i j l:Nat}(D:Ends)(σ:L2.St)(H:Hp)(h:tS K (QN i j l fe) D σ H):tAsg (tE K fe) (gTup K 3 (gCons (gName i) (gCons (gName j) (gCons (gName l) gNil)))) D σ H:=by
 obtain⟨ad,ρ,st,r,st',E,S,e,p⟩:=Z0 h;unfold QN at e;split at e
 ·rename_i x y z st1 q
  cases e;refine⟨ad,ρ,st,_,_,E,S,q,fun v ad1 H1 x1 S1 d1=>?_⟩
  obtain⟨a,vs,rfl,ha,rv⟩:=d1.ofTup;cases rv with
  |cons d1 rv=>
   cases rv with
   |cons d2 rv=>
    cases rv with
    |cons d3 rv=>
     cases rv;exact⟨a,_,rfl,(ha).sq,rfl,_,_,rfl,_,_,rfl,_,_,rfl,rfl,p _ ad1 H1 x1 S1 ((((E.mono x1).set i d1).set j d2).set l d3)⟩
 ·cases e
theorem ZdW(D:Ends)(σ:L2.St)(H:Hp)(h:tS K (Q0 fe) D σ H):tDrop (tE K fe) D σ H:=by
 obtain⟨ad,ρ,st,r,st',E,S,e,p⟩:=Z0 h;unfold Q0 at e;split at e
 ·rename_i d st1 q
  cases e;exact⟨ad,ρ,st,d,_,E,S,q,fun v ad1 H1 x1 S1 d1=>p _ ad1 H1 x1 S1 (E.mono x1)⟩
 ·cases e
theorem Zd1(D:Ends)(σ:L2.St)(H:Hp)(h:tS K (VE fe f g) D σ H):tIfS (tT K fe) (tS K f) (tS K g) D σ H:=by
 obtain⟨ad,ρ,st,r,st',E,S,e,p⟩:=Z0 h;unfold VE at e;split at e
 ·rename_i st1 q
  refine⟨ad,ρ,st,true,st1,E,S,q,fun ad1 H1 x1 S1=>?_⟩
  dsimp only;rw[if_pos rfl];exact Z7 (E.mono x1) S1 e (p.later x1)
 ·rename_i st1 q
  refine⟨ad,ρ,st,false,st1,E,S,q,fun ad1 H1 x1 S1=>?_⟩
  dsimp only;rw[if_neg Bool.false_ne_true];exact Z7 (E.mono x1) S1 e (p.later x1)
 ·cases e
theorem UT{ad:List Addr}{H:Hp}{st:Za}{i:Nat}{a:Addr}(S:StOk K ad H st)(h:LA ad H i a):∃ b ds,st[i]?=some (b,ds):=by
 have hi:i < st.length:=by rw[←S.len];exact(List.getElem?_eq_some_iff.mp h.1).1
 exact⟨st[i].1,st[i].2,by rw[List.getElem?_eq_getElem hi]⟩
theorem JN{ad:List Addr}{H:Hp}{st st2:Za}{i:Nat}{a:Addr}{v:V}{d:D}(S:StOk K ad H st)(h:LA ad H i a)(hd:Den K ad H v d)(e:Zbp i d st=some st2) :
  ∃ xs,H a=some (.lst xs)∧xs.length < sizeLine∧Ext ad H ad (upd H a (.lst (xs++[v])))∧StOk K ad (upd H a (.lst (xs++[v]))) st2:=by
 unfold Zbp at e;split at e
 ·rename_i ds q
  split at e
  ·rename_i hz
   cases e;obtain⟨xs,r,hx⟩:=S.listM h q;refine⟨xs,hx,?_,Ext.write hx (List.mem_of_getElem? h.1),S.write h q hx (r.append (.cons hd .nil))⟩;rw[r.length];exact Nat.lt_of_lt_of_le hz (by decide)
  ·cases e
 ·cases e
theorem ZdX{i:Nat}(D:Ends)(σ:L2.St)(H:Hp)(h:tS K (Zbr i fe) D σ H):tDrop (tBM K "list" rAppend (tVar i) (tCons (tE K fe) tNil)) D σ H:=by
 obtain⟨ad,ρ,st,r,st',E,S,e,p⟩:=Z0 h;unfold Zbr at e;split at e
 ·rename_i a q0
  split at e
  ·rename_i d st1 q1
   split at e
   ·rename_i st2 q2
    cases e;obtain⟨v,e1,e2⟩:=E.at_ i _ q0;obtain⟨l,rfl,hl⟩:=e2.ofLst;obtain⟨b,ds,hc⟩:=UT S hl;obtain⟨xs,_,sq⟩:=S.list hl hc;refine⟨_,e1,.inl ⟨rfl,xs,sq⟩,ad,ρ,st,d,st1,E,S,q1,fun w ad1 H1 x1 S1 d1=>?_⟩
    obtain⟨ys,hy,hz,x2,S2⟩:=JN S1 (hl.mono x1) d1 q2;exact⟨l,ys,w,rfl,rfl,hy,hz,p _ ad1 _ (x1.trans x2) S2 (E.mono (x1.trans x2))⟩
   ·cases e
  ·cases e
 ·cases e
theorem ZbW{fo:Ev}(D:Ends)(σ:L2.St)(H:Hp)(h:tS K (Zbq fo fe) D σ H):tDrop (tBM K "list" rAppend (tE K fo) (tCons (tE K fe) tNil)) D σ H:=by
 obtain⟨ad,ρ,st,r,st',E,S,e,p⟩:=Z0 h;unfold Zbq at e;split at e
 ·rename_i a st0 q0
  split at e
  ·rename_i d st1 q1
   split at e
   ·rename_i st2 q2
    cases e;refine⟨ad,ρ,st,.lst a,st0,E,S,q0,fun v ad0 H0 x0 S0 d0=>?_⟩
    obtain⟨l,rfl,hl⟩:=d0.ofLst;obtain⟨b,ds,hc⟩:=UT S0 hl;obtain⟨xs,_,sq⟩:=S0.list hl hc;refine⟨.inl ⟨rfl,xs,sq⟩,ad0,ρ,st0,d,st1,E.mono x0,S0,q1,fun w ad1 H1 x1 S1 d1=>?_⟩
    obtain⟨ys,hy,hz,x2,S2⟩:=JN S1 (hl.mono x1) d1 q2;exact⟨l,ys,w,rfl,rfl,hy,hz,p _ ad1 _ ((x0.trans x1).trans x2) S2 (E.mono ((x0.trans x1).trans x2))⟩
   ·cases e
  ·cases e
 ·cases e
theorem ZdZ{i:Nat}(D:Ends)(σ:L2.St)(H:Hp)(h:tS K (ZbN i fe) D σ H):tDrop (tBM K "list" rExtend (tVar i) (tCons (tE K fe) tNil)) D σ H:=by
 obtain⟨ad,ρ,st,r,st',E,S,e,p⟩:=Z0 h;unfold ZbN at e;split at e
 ·rename_i a q0
  split at e
  ·rename_i b st1 q1
   split at e
   ·rename_i st2 q2
    cases e;obtain⟨v,e1,e2⟩:=E.at_ i _ q0;obtain⟨l,rfl,hl⟩:=e2.ofLst;obtain⟨bb,ds,hc⟩:=UT S hl;obtain⟨xs,_,sq⟩:=S.list hl hc;refine⟨_,e1,.inl ⟨rfl,xs,sq⟩,ad,ρ,st,.lst b,st1,E,S,q1,fun w ad1 H1 x1 S1 d1=>?_⟩
    obtain⟨m,rfl,hm⟩:=d1.ofLst;unfold Zf9 at q2;split at q2
    ·rename_i cs es f1 f2
     split at q2
     ·rename_i hz
      cases q2;have hl1:=hl.mono x1;obtain⟨ys,ry,hy⟩:=S1.listM hl1 f1;obtain⟨zs,rz,hzz⟩:=S1.listM hm f2;have x2:=Ext.write (ys:=ys++zs) hy (List.mem_of_getElem? hl1.1);refine⟨l,m,ys,zs,rfl,rfl,hy,hzz,?_,p _ ad1 _ (x1.trans x2) (S1.write hl1 f1 hy (ry.append rz)) (E.mono (x1.trans x2))⟩;rw[ry.length,rz.length];exact Nat.le_trans hz (by decide)
     ·cases q2
    ·cases q2
   ·cases e
  ·cases e
 ·cases e
theorem Zd6{i:Nat}(D:Ends)(σ:L2.St)(H:Hp)(h:tS K (ZcU i fk fe) D σ H):tAsg (tE K fe) (gSub (tVar i) (tE K fk) rSetL) D σ H:=by
 obtain⟨ad,ρ,st,r,st',E,S,e,p⟩:=Z0 h;unfold ZcU at e;split at e
 ·rename_i d st1 q1
  split at e
  ·rename_i a q0
   split at e
   ·rename_i j st2 q2
    split at e
    ·rename_i st3 q3
     cases e;obtain⟨v,e1,e2⟩:=E.at_ i _ q0;obtain⟨l,rfl,hl⟩:=e2.ofLst;refine⟨ad,ρ,st,d,st1,E,S,q1,fun w ad1 H1 x1 S1 d1=>⟨_,e1,ad1,ρ,st1,.int j,st2,E.mono x1,S1,q2,fun w2 ad2 H2 x2 S2 d2=>?_⟩⟩
     cases d2.ofInt;unfold UU at q3;split at q3
     ·rename_i ds q4
      split at q3
      ·rename_i k q5
       cases q3;have hl2:=hl.mono (x1.trans x2);obtain⟨xs,r,hx⟩:=S2.listM hl2 q4;have x3:Ext ad2 H2 ad2 (upd H2 l (.lst (xs.set k w))):=Ext.write hx (List.mem_of_getElem? hl2.1);refine⟨l,xs,j,k,rfl,rfl,hx,?_,p _ ad2 _ (x1.trans (x2.trans x3)) (S2.write hl2 q4 hx (r.set (d1.mono x2) k)) (E.mono (x1.trans (x2.trans x3)))⟩;rw[r.length];exact q5
      ·cases q3
     ·cases q3
    ·cases e
   ·cases e
  ·cases e
 ·cases e
def Left(K:PySem.W.Frag)(b:D→Env→Za→Option (Fl×Za))(E:Ends)(xs:List D)(σ:L2.St)(H:Hp):Prop:=∃ ad ρ st r st',EnvOk K ad H σ ρ∧StOk K ad H st∧Ya b xs ρ st=some (r,st')∧PostS K ad H r st' E
theorem Left.turn{i:Nat}{b:Ex}{E:Ends}{x:D}{xs:List D}{σ:L2.St}{H:Hp}{v:V}(hv:∀ ad H,Den K ad H v x)(h:Left K (fun d ρ s=>b (Zt ρ i d) s) E (x :: xs) σ H) :
  tS K b { E with nx:=Left K (fun d ρ s=>b (Zt ρ i d) s) E xs,ct:=Left K (fun d ρ s=>b (Zt ρ i d) s) E xs,bk:=E.nx } (σ.set i (some v)) H:=by
 obtain⟨ad,ρ,st,r,st',En,S,e,p⟩:=h;unfold Ya at e;have En2:=En.set i (hv ad H);split at e
 ·rename_i ρ1 st1 q
  exact Z7 En2 S q fun σ1 ad1 H1 x1 S1 E1=>⟨ad1,ρ1,st1,r,st',E1,S1,e,p.later x1⟩
 ·rename_i ρ1 st1 q
  exact Z7 En2 S q fun σ1 ad1 H1 x1 S1 E1=>⟨ad1,ρ1,st1,r,st',E1,S1,e,p.later x1⟩
 ·rename_i ρ1 st1 q
  cases e;exact Z7 En2 S q fun σ1 ad1 H1 x1 S1 E1=>p σ1 ad1 H1 x1 S1 E1
 ·rename_i d st1 q
  cases e;exact Z7 En2 S q p
 ·cases e
theorem Left.turnD{i:Nat}{b:Ex}{E:Ends}{x:D}{xs:List D}{σ:L2.St}{H:Hp}{ad:List Addr}{ρ:Env}{st st':Za}{r:Fl}{v:V}(En:EnvOk K ad H σ ρ)(S:StOk K ad H st)(hv:Den K ad H v x)(e:Ya (fun d ρ s=>b (Zt ρ i d) s) (x :: xs) ρ st=some (r,st'))(p:PostS K ad H r st' E)(L:L2.St→Hp→Prop)(hL:∀ σ1 ad1 H1 ρ1 st1,Ext ad H ad1 H1→StOk K ad1 H1 st1→EnvOk K ad1 H1 σ1 ρ1→Ya (fun d ρ s=>b (Zt ρ i d) s) xs ρ1 st1=some (r,st')→L σ1 H1) :
  tS K b { E with nx:=L,ct:=L,bk:=E.nx } (σ.set i (some v)) H:=by
 unfold Ya at e;have En2:=En.set i hv;split at e
 ·rename_i ρ1 st1 q
  exact Z7 En2 S q fun σ1 ad1 H1 x1 S1 E1=>hL σ1 ad1 H1 ρ1 st1 x1 S1 E1 e
 ·rename_i ρ1 st1 q
  exact Z7 En2 S q fun σ1 ad1 H1 x1 S1 E1=>hL σ1 ad1 H1 ρ1 st1 x1 S1 E1 e
 ·rename_i ρ1 st1 q
  cases e;exact Z7 En2 S q fun σ1 ad1 H1 x1 S1 E1=>p σ1 ad1 H1 x1 S1 E1
 ·rename_i d st1 q
  cases e;exact Z7 En2 S q p
 ·cases e
theorem Left.done{b:D→Env→Za→Option (Fl×Za)}{E:Ends}{σ:L2.St}{H:Hp}(h:Left K b E [] σ H):E.nx σ H:=by
 obtain⟨ad,ρ,st,r,st',En,S,e,p⟩:=h;cases e;exact p σ ad H (Ext.refl _ _) S En
theorem Jz(n k:Nat)(h:k < n):((List.range n).map fun(j:Nat)=>D.int (j:Int)).drop k=D.int (k:Int) :: ((List.range n).map fun(j:Nat)=>D.int (j:Int)).drop (k+1):=by
 rw[List.drop_eq_getElem_cons (by simpa using h)]
 simp
theorem Zb3{i:Nat}(E:Ends)(σ:L2.St)(H:Hp)(h:tS K (Qf i true fi f) E σ H):tFor (iRng1 (tCons (tE K fi) tNil)) (gName i) (tS K f) E σ H:=by
 obtain⟨ad,ρ,st,r,st',En,S,e,p⟩:=Z0 h;unfold Qf at e;split at e
 ·rename_i x st1 q1
  cases x with
  |int n=>
   have e:(match (if n < 2 ^ 62∧-(2 ^ 62)≤n then some ((List.range n.toNat).map fun(k:Nat)=>D.int (k:Int)) else none) with
    |some xs=>Ya (fun d ρ s=>f (Zt ρ i d) s) xs ρ st1
    |none=>none)=some (r,st'):=e
   by_cases hn:n < 2 ^ 62∧-(2 ^ 62)≤n
   ·rw[if_pos hn]at e
    refine⟨ad,ρ,st,.int n,st1,En,S,q1,fun v ad1 H1 x1 S1 d1=>⟨n,by rw[d1.ofInt],hn.2,hn.1,?_⟩⟩
    refine for_range (fun k σ' H'=>Left K (fun d ρ s=>f (Zt ρ i d) s) E (((List.range n.toNat).map fun(k:Nat)=>D.int (k:Int)).drop k) σ' H') ⟨ad1,ρ,st1,r,st',En.mono x1,S1,e,p.later x1⟩ (fun k σ' H' hk L=>?_) fun σ' H' L=>?_
    ·rw[Jz _ _ hk]at L
     have z:(0:Int)+(k:Int)=(k:Int):=Int.zero_add _;rw[z];exact L.turn fun _ _=>.int _
    ·rw[List.drop_eq_nil_of_le (by simp)]at L
     exact L.done
   ·rw[if_neg hn]at e
    cases e
  |_=>simp[Xq]at e
 ·cases e
def Zfh(K:PySem.W.Frag)(b:D→Env→Za→Option (Fl×Za))(E:Ends)(a:Addr)(vs:List V)(xs:List D)(k:Nat)(σ:L2.St)(H:Hp):Prop:=
 ∃ ad ρ st r st',EnvOk K ad H σ ρ∧StOk K ad H st∧(TupAt K H a vs∧Dens K ad H vs xs)∧Ya b (xs.drop k) ρ st=some (r,st')∧PostS K ad H r st' E
theorem Zb4{i:Nat}(E:Ends)(σ:L2.St)(H:Hp){ad:List Addr}{ρ:Env}{st st1 st':Za}{r:Fl}{xs:List D}(En:EnvOk K ad H σ ρ)(S:StOk K ad H st)(q1:fi ρ st=some (.tup xs,st1))(e:Ya (fun d ρ s=>f (Zt ρ i d) s) xs ρ st1=some (r,st'))(p:PostS K ad H r st' E):tFor (iTup K (tE K fi)) (gName i) (tS K f) E σ H:=by
 refine⟨ad,ρ,st,.tup xs,st1,En,S,q1,fun v ad1 H1 x1 S1 d1=>?_⟩
 obtain⟨a,vs,rfl,ha,rv⟩:=d1.ofTup;refine⟨a,rfl,⟨vs,(ha).sq⟩,?_⟩;refine for_tup (xs:=vs) (fun k σ' H'=>Zfh K (fun d ρ s=>f (Zt ρ i d) s) E a vs xs k σ' H') ⟨ad1,ρ,st1,r,st',En.mono x1,S1,⟨ha,rv⟩,by rw[List.drop_zero];exact e,p.later x1⟩ (fun k σ' H' _ L=>?_) (fun k y σ' H' hk L=>?_) fun σ' H' L=>?_
 ·obtain⟨_,_,_,_,_,_,_,⟨h,_⟩,_⟩:=L
  exact(h).sq
 ·obtain⟨ad2,ρ2,st2,r2,st2',En2,S2,⟨h2,rv2⟩,e2,p2⟩:=L
  have hk':k < xs.length:=by rw[←rv2.length];exact(List.getElem?_eq_some_iff.mp hk).1
  have hx:xs[k]?=some xs[k]:=List.getElem?_eq_getElem hk';obtain⟨w,ew,dw⟩:=rv2.get hx;rw[hk]at ew;cases ew
  rw[List.drop_eq_getElem_cons hk']at e2;exact Left.turnD En2 S2 dw e2 p2 _ fun σ3 ad3 H3 ρ3 st3 x3 S3 E3 e3=>⟨ad3,ρ3,st3,r2,st2',E3,S3,⟨h2.mono x3,rv2.mono x3⟩,e3,p2.later x3⟩
 ·obtain⟨ad2,ρ2,st2,r2,st2',En2,S2,⟨h2,rv2⟩,e2,p2⟩:=L
  rw[rv2.length,List.drop_length]at e2;exact Left.done ⟨ad2,ρ2,st2,r2,st2',En2,S2,e2,p2⟩
theorem Zb0{G:TG}{B:D→Env→Za→Option (Fl×Za)}(E:Ends)(σ:L2.St)(H:Hp){ad:List Addr}{ρ:Env}{st st1 st':Za}{r:Fl}{l:Nat}{bb:Bool}{xs:List D}(En:EnvOk K ad H σ ρ)(S:StOk K ad H st)(q1:fi ρ st=some (.lst l,st1))(q2:st1[l]?=some (bb,xs))(e:ZO B l xs.length 0 ρ st1=some (r,st'))(p:PostS K ad H r st' E)(hG:∀ (x:D) (v:V) (σ:L2.St) (H:Hp) (ad:List Addr) (ρ:Env) (st st1:Za) (r1:Fl) (E':Ends),EnvOk K ad H σ ρ→StOk K ad H st→Den K ad H v x→B x ρ st=some (r1,st1)→PostS K ad H r1 st1 E'→G v σ H fun σ2 H2=>tS K f E' σ2 H2) :
  tFor (iList K (tE K fi)) G (tS K f) E σ H:=by
 refine⟨ad,ρ,st,.lst l,st1,En,S,q1,fun v ad1 H1 x1 S1 d1=>?_⟩
 obtain⟨a,rfl,ha⟩:=d1.ofLst;obtain⟨vs,rv,sq⟩:=S1.list ha q2;refine⟨a,rfl,⟨vs,sq⟩,?_⟩;refine⟨fun k m σ' H'=>∃ ad2 ρ2 st2,(EnvOk K ad2 H' σ' ρ2∧StOk K ad2 H' st2∧LA ad2 H' l a)∧ZO B l m k ρ2 st2=some (r,st')∧PostS K ad2 H' r st' E,⟨xs.length,ad1,ρ,st1,⟨En.mono x1,S1,ha⟩,e,p.later x1⟩,?_⟩
 rintro k m σ' H' ⟨ad2,ρ2,st2,⟨En2,S2,ha2⟩,e2,p2⟩
 obtain⟨b2,ys,hc⟩:=UT S2 ha2;obtain⟨ws,rw',sq2⟩:=S2.list ha2 hc;have stop:ys.length≤k→ZO B l m k ρ2 st2=some (.nx ρ2,st2):=fun hk=>by
  cases m with
  |zero=>unfold ZO;simp only[hc];rw[if_pos hk]
  |succ m=>unfold ZO;simp only[hc,List.getElem?_eq_none hk]
 by_cases hk:ys.length≤k
 ·refine .inl ⟨⟨ws,sq2,by rw[rw'.length];exact hk⟩,?_⟩
  rw[stop hk]at e2;cases e2;exact p2 σ' ad2 H' (Ext.refl _ _) S2 En2
 ·have hk':k < ys.length:=by omega
  have hy:ys[k]?=some ys[k]:=List.getElem?_eq_getElem hk';obtain⟨w,ew,dw⟩:=rw'.get hy;cases m with
  |zero=>
   unfold ZO at e2;simp only[hc]at e2;rw[if_neg hk]at e2;cases e2
  |succ m=>
   unfold ZO at e2;simp only[hc,hy]at e2;refine .inr ⟨⟨ws,w,sq2,ew⟩,fun σ3 H3=>∃ ad3 ρ3 st3,(EnvOk K ad3 H3 σ3 ρ3∧StOk K ad3 H3 st3∧LA ad3 H3 l a)∧ZO B l m (k+1) ρ3 st3=some (r,st')∧PostS K ad3 H3 r st' E,fun σ3 H3 h3=>⟨m,Nat.lt_succ_self m,h3⟩,fun x H3 hx=>?_⟩
   obtain⟨rfl,hx⟩:=hx;have ex:=hx ws sq2;rw[ew]at ex;cases ex
   split at e2
   ·rename_i ρ3 st3 q
    exact hG _ _ _ _ ad2 ρ2 st2 _ _ _ En2 S2 dw q fun σ4 ad4 H4 x4 S4 E4=>⟨ad4,ρ3,st3,⟨E4,S4,ha2.mono x4⟩,e2,p2.later x4⟩
   ·rename_i ρ3 st3 q
    exact hG _ _ _ _ ad2 ρ2 st2 _ _ _ En2 S2 dw q fun σ4 ad4 H4 x4 S4 E4=>⟨ad4,ρ3,st3,⟨E4,S4,ha2.mono x4⟩,e2,p2.later x4⟩
   ·rename_i ρ3 st3 q
    cases e2;exact hG _ _ _ _ ad2 ρ2 st2 _ _ _ En2 S2 dw q fun σ4 ad4 H4 x4 S4 E4=>p2 σ4 ad4 H4 x4 S4 E4
   ·rename_i d st3 q
    cases e2;exact hG _ _ _ _ ad2 ρ2 st2 _ _ _ En2 S2 dw q p2
   ·cases e2
theorem Zb1{i:Nat}(E:Ends)(σ:L2.St)(H:Hp)(h:tS K (Qf i false fi f) E σ H):tFor (iTup K (tE K fi)) (gName i) (tS K f) E σ H∨tFor (iList K (tE K fi)) (gName i) (tS K f) E σ H:=by
 obtain⟨ad,ρ,st,r,st',En,S,e,p⟩:=Z0 h;unfold Qf at e;split at e
 ·rename_i x st1 q1
  cases x with
  |tup xs=>exact .inl (Zb4 E σ H En S q1 e p)
  |lst l=>
   have e:(match st1[l]? with
    |some (_,xs)=>ZO (fun d ρ s=>f (Zt ρ i d) s) l xs.length 0 ρ st1
    |none=>none)=some (r,st'):=e
   split at e
   ·rename_i bb xs q2
    refine .inr (Zb0 E σ H En S q1 q2 e p fun x v σ H ad ρ st st1 r1 E' En S dv e1 p1=>?_)
    exact Z7 (En.set i dv) S e1 p1
   ·cases e
  |_=>simp[Xq]at e
 ·cases e
theorem ZaT{G:TG}{B:D→Env→Za→Option (Fl×Za)}(E:Ends)(σ:L2.St)(H:Hp){ad:List Addr}{ρ:Env}{st st1 st':Za}{r:Fl}{xs:List D}(En:EnvOk K ad H σ ρ)(S:StOk K ad H st)(q1:fi ρ st=some (.tup xs,st1))(e:Ya B xs ρ st1=some (r,st'))(p:PostS K ad H r st' E)(hG:∀ (x:D) (v:V) (σ:L2.St) (H:Hp) (ad:List Addr) (ρ:Env) (st st1:Za) (r1:Fl) (E':Ends),EnvOk K ad H σ ρ→StOk K ad H st→Den K ad H v x→B x ρ st=some (r1,st1)→PostS K ad H r1 st1 E'→G v σ H fun σ2 H2=>tS K f E' σ2 H2) :
  tFor (iTup K (tE K fi)) G (tS K f) E σ H:=by
 refine⟨ad,ρ,st,.tup xs,st1,En,S,q1,fun v ad1 H1 x1 S1 d1=>?_⟩
 obtain⟨a,vs,rfl,ha,rv⟩:=d1.ofTup;refine⟨a,rfl,⟨vs,(ha).sq⟩,?_⟩;refine for_tup (xs:=vs) (fun k σ' H'=>Zfh K B E a vs xs k σ' H') ⟨ad1,ρ,st1,r,st',En.mono x1,S1,⟨ha,rv⟩,by rw[List.drop_zero];exact e,p.later x1⟩ (fun k σ' H' _ L=>?_) (fun k y σ' H' hk L=>?_) fun σ' H' L=>?_
 ·obtain⟨_,_,_,_,_,_,_,⟨h,_⟩,_⟩:=L
  exact(h).sq
 ·obtain⟨ad2,ρ2,st2,r2,st2',En2,S2,⟨h2,rv2⟩,e2,p2⟩:=L
  have hk':k < xs.length:=by rw[←rv2.length];exact(List.getElem?_eq_some_iff.mp hk).1
  have hx:xs[k]?=some xs[k]:=List.getElem?_eq_getElem hk';obtain⟨w,ew,dw⟩:=rv2.get hx;rw[hk]at ew;cases ew
  rw[List.drop_eq_getElem_cons hk']at e2;unfold Ya at e2;split at e2
  ·rename_i ρ3 st3 q
   exact hG _ _ _ _ ad2 ρ2 st2 _ _ _ En2 S2 dw q fun σ4 ad4 H4 x4 S4 E4=>⟨ad4,ρ3,st3,r2,st2',E4,S4,⟨h2.mono x4,rv2.mono x4⟩,e2,p2.later x4⟩
  ·rename_i ρ3 st3 q
   exact hG _ _ _ _ ad2 ρ2 st2 _ _ _ En2 S2 dw q fun σ4 ad4 H4 x4 S4 E4=>⟨ad4,ρ3,st3,r2,st2',E4,S4,⟨h2.mono x4,rv2.mono x4⟩,e2,p2.later x4⟩
  ·rename_i ρ3 st3 q
   cases e2;exact hG _ _ _ _ ad2 ρ2 st2 _ _ _ En2 S2 dw q fun σ4 ad4 H4 x4 S4 E4=>p2 σ4 ad4 H4 x4 S4 E4
  ·rename_i d st3 q
   cases e2;exact hG _ _ _ _ ad2 ρ2 st2 _ _ _ En2 S2 dw q p2
  ·cases e2
 ·obtain⟨ad2,ρ2,st2,r2,st2',En2,S2,⟨h2,rv2⟩,e2,p2⟩:=L
  rw[rv2.length,List.drop_length]at e2;exact Left.done ⟨ad2,ρ2,st2,r2,st2',En2,S2,e2,p2⟩
theorem ZbY{i j l:Nat}(E:Ends)(σ:L2.St)(H:Hp)(h:tS K (Qd i j l fi f) E σ H):tFor (iTup K (tE K fi)) (gTup K 3 (gCons (gName i) (gCons (gName j) (gCons (gName l) gNil)))) (tS K f) E σ H:=by
 obtain⟨ad,ρ,st,r,st',En,S,e,p⟩:=Z0 h;unfold Qd at e;split at e
 ·rename_i xs st1 q1
  refine ZaT E σ H En S q1 e p fun x v σ H ad ρ st st1 r1 E' En S dv e1 p1=>?_
  unfold Zhn at e1;split at e1
  ·rename_i y z u
   obtain⟨a,vs,rfl,ha,rv⟩:=dv.ofTup;cases rv with
   |cons d1 rv=>
    cases rv with
    |cons d2 rv=>
     cases rv with
     |cons d3 rv=>
      cases rv;exact⟨a,_,rfl,(ha).sq,rfl,_,_,rfl,_,_,rfl,_,_,rfl,rfl,Z7 (((En.set i d1).set j d2).set l d3) S e1 p1⟩
  ·cases e1
 ·cases e
noncomputable def Itz(K:PySem.W.Frag)(a b:Addr):It:=
 ⟨fun i H=>∃ xs ys x y,SqL K H a xs∧SqL K H b ys∧xs[i]?=some x∧ys[i]?=some y,
  fun i H v H'=>∃ p x y,v=.ref p∧H p=none∧H'=upd H p (.tup [x,y])∧(∀ xs,SqL K H a xs→xs[i]?=some x)∧∀ ys,SqL K H b ys→ys[i]?=some y,
  fun i H=>∃ xs ys,SqL K H a xs∧SqL K H b ys∧min xs.length ys.length≤i⟩
noncomputable def Zh0(K:PySem.W.Frag)(ta:TA):TI:=fun σ H R=>ta σ H fun vs H1=>∃ a b,vs=[.ref a,.ref b]∧(∃ xs,SqL K H1 a xs)∧(∃ ys,SqL K H1 b ys)∧R (Itz K a b) H1
theorem Zck{ok:Za→Prop}{B:D→D→Env→Za→Option (Fl×Za)}{l:List (D×D)}{ρ:Env}{st:Za}{z:Fl×Za}(e:Yp ok B l ρ st=some z):ok st:=by
 cases l with
 |nil=>
  unfold Yp at e;by_cases h:ok st
  ·exact h
  ·rw[if_neg h]at e;cases e
 |cons _ _=>
  unfold Yp at e;by_cases h:ok st
  ·exact h
  ·rw[if_neg h]at e;cases e
inductive LK(K:PySem.W.Frag)(ok:Za→Prop)(B:D→D→Env→Za→Option (Fl×Za))(qs:List (D×D))(Good:List Addr→Hp→Prop)(r:Fl)(st':Za)(E:Ends)(k m:Nat)(σ:L2.St)(H:Hp):Prop
 |mk {ad:List Addr}{ρ:Env}{st:Za} (hk:k+m=qs.length) (En:EnvOk K ad H σ ρ) (S:StOk K ad H st) (g:Good ad H) (e:Yp ok B (qs.drop k) ρ st=some (r,st')) (p:PostS K ad H r st' E):LK K ok B qs Good r st' E k m σ H
def Zhy(K:PySem.W.Frag)(f:Ex)(i j:Nat)(J:It)(E:Ends)(σ:L2.St)(H1:Hp):Prop:=∃ W:Nat→Nat→L2.St→Hp→Prop,(∃ m,W 0 m σ H1)∧∀ i' m σ H,W i' m σ H→(J.stop i' H∧E.nx σ H)∨(J.go i' H∧∃ N:L2.St→Hp→Prop,(∀ σ' H',N σ' H'→∃ m',m' < m∧W (i'+1) m' σ' H')∧∀ x H',J.yld i' H x H'→gTup K 2 (gCons (gName i) (gCons (gName j) gNil)) x σ H' fun σ2 H2=>tS K f { E with nx:=N,ct:=N,bk:=E.nx } σ2 H2)
theorem Ve{i j:Nat}{ok:Za→Prop}{qs:List (D×D)}{Good:List Addr→Hp→Prop}{r:Fl}{st':Za}{E:Ends}{J:It}(gm:∀ ad H ad' H',Ext ad H ad' H'→Good ad H→Good ad' H')(stop:∀ ad H st,Good ad H→StOk K ad H st→ok st→J.stop qs.length H)(go:∀ k ad H st q,Good ad H→StOk K ad H st→ok st→qs[k]?=some q→∃ w1 w2,J.go k H∧Den K ad H w1 q.1∧Den K ad H w2 q.2∧∀ x H',J.yld k H x H'→∃ pt,x=.ref pt∧H pt=none∧H'=upd H pt (.tup [w1,w2]))(k m:Nat)(σ:L2.St)(H:Hp)(h:LK K ok (fun x y ρ s=>f (Zt (Zt ρ i x) j y) s) qs Good r st' E k m σ H) :
  (J.stop k H∧E.nx σ H)∨(J.go k H∧∃ N:L2.St→Hp→Prop,(∀ σ' H',N σ' H'→∃ m',m' < m∧LK K ok (fun x y ρ s=>f (Zt (Zt ρ i x) j y) s) qs Good r st' E (k+1) m' σ' H')∧∀ x H',J.yld k H x H'→gTup K 2 (gCons (gName i) (gCons (gName j) gNil)) x σ H' fun σ2 H2=>tS K f { E with nx:=N,ct:=N,bk:=E.nx } σ2 H2):=by
 cases h with
 |@mk ad ρ st hkm En S g e p=>
  have ok2:=Zck e;by_cases hk:qs.length≤k
  ·have hk':k=qs.length:=by omega
   subst hk';rw[List.drop_length]at e;unfold Yp at e;rw[if_pos ok2]at e;cases e;exact .inl ⟨stop _ _ _ g S ok2,p σ _ H (Ext.refl _ _) S En⟩
  ·have hk':k < qs.length:=Nat.lt_of_not_le hk
   obtain⟨w1,w2,hgo,dw1,dw2,hy⟩:=go k _ _ _ qs[k] g S ok2 (List.getElem?_eq_getElem hk');rw[List.drop_eq_getElem_cons hk']at e;unfold Yp at e;rw[if_pos ok2]at e;generalize qs[k]=q at e dw1 dw2;refine .inr ⟨hgo,LK K ok (fun x y ρ s=>f (Zt (Zt ρ i x) j y) s) qs Good r st' E (k+1) (m - 1),fun σ3 H3 h3=>⟨m - 1,by omega,h3⟩,fun x H3 hx=>?_⟩
   obtain⟨pt,rfl,hpt,rfl⟩:=hy x H3 hx;have xt:Ext ad H ad (upd H pt (.tup [w1,w2])):=Ext.laid hpt;have fin:∀ {rr:Fl}{s3:Za}{E':Ends},f (Zt (Zt ρ i q.1) j q.2) st=some (rr,s3)→PostS K ad (upd H pt (.tup [w1,w2])) rr s3 E'→gTup K 2 (gCons (gName i) (gCons (gName j) gNil)) (.ref pt) σ (upd H pt (.tup [w1,w2])) fun σ2 H2=>tS K f E' σ2 H2:=fun q pp=>
    ⟨pt,_,rfl,SqT.of upd_same,rfl,_,_,rfl,_,_,rfl,rfl,Z7 (((En.mono xt).set i (dw1.mono xt)).set j (dw2.mono xt)) (S.laid hpt) q pp⟩
   have nxt:∀ {ρ3:Env}{st3:Za},Yp ok (fun x y ρ s=>f (Zt (Zt ρ i x) j y) s) (qs.drop (k+1)) ρ3 st3=some (r,st')→∀ (σ4:L2.St) (ad4:List Addr) (H4:Hp),Ext ad (upd H pt (.tup [w1,w2])) ad4 H4→StOk K ad4 H4 st3→EnvOk K ad4 H4 σ4 ρ3→LK K ok (fun x y ρ s=>f (Zt (Zt ρ i x) j y) s) qs Good r st' E (k+1) (m - 1) σ4 H4:=fun e3 σ4 ad4 H4 x4 S4 E4=>
    .mk (by omega) E4 S4 (gm _ _ _ _ (xt.trans x4) g) e3 (p.later (xt.trans x4))
   clear hy go stop hkm hk hk' hgo;split at e
   ·rename_i q0
    exact fin q0 (nxt e)
   ·rename_i q0
    exact fin q0 (nxt e)
   ·rename_i q0
    cases e;exact fin q0 fun σ4 ad4 H4 x4 S4 E4=>p σ4 ad4 H4 (xt.trans x4) S4 E4
   ·rename_i q0
    cases e;exact fin q0 (p.later xt)
   ·cases e
theorem Zb2{i j:Nat}(E:Ends)(σ:L2.St)(H:Hp)(h:tS K (Qe i j fi f) E σ H):tFor (Zh0 K (tA K fi)) (gTup K 2 (gCons (gName i) (gCons (gName j) gNil))) (tS K f) E σ H:=by
 obtain⟨ad,ρ,st,r,st',En,S,e,p⟩:=Z0 h;unfold Qe at e;split at e
 ·rename_i la lb st1 q1
  split at e
  ·rename_i ca cb hca hcb
   refine⟨ad,ρ,st,_,st1,En,S,q1,fun vs ad1 H1 x1 S1 d1=>?_⟩
   obtain⟨v1,v2,rfl,dv1,dv2⟩:∃ v1 v2,vs=[v1,v2]∧Den K ad1 H1 v1 (.lst la)∧Den K ad1 H1 v2 (.lst lb):=by
    cases d1 with
    |cons h1 d1=>
     cases d1 with
     |cons h2 d1=>cases d1;exact⟨_,_,rfl,h1,h2⟩
   obtain⟨a,rfl,ha⟩:=dv1.ofLst;obtain⟨b,rfl,hb⟩:=dv2.ofLst;obtain⟨us,ru,squ⟩:=S1.list ha (show st1[la]?=some (ca.1,ca.2) from hca);obtain⟨ws,rw',sqw⟩:=S1.list hb (show st1[lb]?=some (cb.1,cb.2) from hcb);refine⟨a,b,rfl,⟨us,squ⟩,⟨ws,sqw⟩,_,⟨_,.mk (Good:=fun ad H=>LA ad H la a∧LA ad H lb b) (Nat.zero_add _) (En.mono x1) S1 ⟨ha,hb⟩ e (p.later x1)⟩,Ve (fun _ _ _ _ x g=>⟨g.1.mono x,g.2.mono x⟩) (fun ad H st g S o=>?_) fun k ad H st q g S o hq=>?_⟩
   ·obtain⟨us,ru,squ⟩:=S.list g.1 (show st[la]?=some (ca.1,ca.2) from o.1)
    obtain⟨ws,rw',sqw⟩:=S.list g.2 (show st[lb]?=some (cb.1,cb.2) from o.2);exact⟨us,ws,squ,sqw,by rw[ru.length,rw'.length];exact Nat.le_of_eq (List.length_zip ..).symm⟩
   ·obtain⟨us,ru,squ⟩:=S.list g.1 (show st[la]?=some (ca.1,ca.2) from o.1)
    obtain⟨ws,rw',sqw⟩:=S.list g.2 (show st[lb]?=some (cb.1,cb.2) from o.2);obtain⟨h1,h2⟩:=List.getElem?_zip_eq_some.mp hq;obtain⟨w1,e1,d1⟩:=ru.get h1;obtain⟨w2,e2,d2⟩:=rw'.get h2;exact⟨w1,w2,⟨us,ws,w1,w2,squ,sqw,e1,e2⟩,d1,d2,fun x H' ⟨pt,y1,y2,z1,z2,z3,hy1,hy2⟩=>⟨pt,z1,z2,by have z:=hy1 us squ;rw[e1]at z;cases z;have z:=hy2 ws sqw;rw[e2]at z;cases z;exact z3⟩⟩
  ·cases e
 ·cases e
end
end Dp



namespace Dp
open PySem PySem.Spec PyProof.Rows L2
variable [ClsTab]
mutual
theorem Zdy:∀ {x y:D},ZK x y=true→x=y
 |.non,y,h=>by cases y<;>simp[ZK]at h ⊢
 |.bl a,y,h=>by cases y<;>simp[ZK]at h ⊢;exact h
 |.int a,y,h=>by cases y<;>simp[ZK]at h ⊢;exact h
 |.str a,y,h=>by cases y<;>simp[ZK]at h ⊢;exact h
 |.tup a,y,h=>by
  cases y with
  |tup b=>rw[U3 (x:=a) (y:=b) (by simpa[ZK] using h)]
  |_=>simp[ZK]at h
 |.lst a,y,h=>by cases y<;>simp[ZK]at h
 |.dct a b,y,h=>by cases y<;>simp[ZK]at h
 |.obj a,y,h=>by cases y<;>simp[ZK]at h
 |.kt a,y,h=>by cases y<;>simp[ZK]at h
 |.dic a,y,h=>by cases y<;>simp[ZK]at h
theorem U3:∀ {x y:List D},ZS x y=true→x=y
 |[],y,h=>by cases y<;>simp[ZS]at h ⊢
 |a :: x,y,h=>by
  cases y with
  |nil=>simp[ZS]at h
  |cons b y=>
   have h:(ZK a b&&ZS x y)=true:=h;rw[Bool.and_eq_true]at h;rw[Zdy h.1,U3 h.2]
end
mutual
theorem VJ:∀ {n:Nat}{x:D},okD n x=true→ZK x x=true
 |_,.non,_=>rfl
 |_,.bl a,_=>by simp[ZK]
 |_,.int a,_=>by simp[ZK]
 |_,.str a,_=>by simp[ZK]
 |0,.tup a,h=>by simp[okD]at h
 |n+1,.tup a,h=>WV (n:=n) (x:=a) h
 |_,.lst a,h=>by simp[okD]at h
 |_,.dct a b,h=>by simp[okD]at h
 |_,.obj a,h=>by simp[okD]at h
 |_,.kt a,h=>by simp[okD]at h
 |_,.dic a,h=>by simp[okD]at h
theorem WV:∀ {n:Nat}{x:List D},YM n x=true→ZS x x=true
 |_,[],_=>rfl
 |n,a :: x,h=>by
  have h:(okD n a&&YM n x)=true:=h;rw[Bool.and_eq_true]at h;show(ZK a a&&ZS x x)=true;rw[VJ h.1,WV h.2];rfl
end
theorem Xs:∀ {n:Nat}{xs:List D}{i:Nat}{d:D},YM n xs=true→xs[i]?=some d→okD n d=true
 |_,[],_,_,_,e=>by simp at e
 |n,x :: xs,i,d,h,e=>by
  have h:(okD n x&&YM n xs)=true:=h;rw[Bool.and_eq_true]at h;cases i with
  |zero=>simp at e;subst e;exact h.1
  |succ i=>exact Xs (i:=i) h.2 (by simpa using e)
theorem YT:∀ {xs ys:List D},ZS xs ys=((List.range (min xs.length ys.length)).all (fun i=>ZK ((xs[i]?).getD .non) ((ys[i]?).getD .non))&&xs.length==ys.length)
 |[],[]=>rfl
 |[],_ :: _=>by simp[ZS]
 |_ :: _,[]=>by simp[ZS]
 |x :: xs,y :: ys=>by
  have ih:=@YT xs ys;show(ZK x y&&ZS xs ys)=_;rw[ih];have e:min (x :: xs).length (y :: ys).length=min xs.length ys.length+1:=by simp only[List.length_cons];omega
  rw[e,List.range_succ_eq_map,List.all_cons,List.all_map];simp only[List.length_cons];have z:(xs.length+1==ys.length+1)=(xs.length==ys.length):=by
   rw[Bool.eq_iff_iff];simp
  rw[z,Bool.and_assoc];rfl
section
variable {X:Cx}{ad:List Addr}{H:Hp}
def Zhx(X:Cx)(ad:List Addr)(H:Hp)(v:V)(x:D):Prop:=∀ n m y,okD n x=true→okD m y=true→Den X.K ad H v y→x=y
theorem XL{n:Nat}{x:D}{P:Prop}(h:okD n x=true)(h0:∀ n,okD n x=false):P:=by rw[h0]at h;cases h
theorem Zcw(i n:Nat):okD n (.lst i)=false:=by cases n<;>rfl
theorem Zcu(ks:List Str)(vs:List D)(n:Nat):okD n (.dct ks vs)=false:=by cases n<;>rfl
theorem Zcv(i n:Nat):okD n (.dic i)=false:=by cases n<;>rfl
theorem Zcx(i n:Nat):okD n (.obj i)=false:=by cases n<;>rfl
theorem Zfw(ks:List Str)(n:Nat):okD n (.kt ks)=false:=by cases n<;>rfl
theorem Zcy{n:Nat}{xs:List D}(h:okD n (.tup xs)=true):∃ m,YM m xs=true:=by
 cases n with
 |zero=>cases h
 |succ n=>exact⟨n,h⟩
theorem Den.injP(J:∀ (a:Addr) (xs ys:List V),TupAt X.K H a xs→TupAt X.K H a ys→xs=ys){v:V}{x:D}(h:Den X.K ad H v x):Zhx X ad H v x:=
 Den.rec (motive_1:=fun v x _=>Zhx X ad H v x) (motive_2:=fun vs xs _=>∀ n m ys,YM n xs=true→YM m ys=true→Dens X.K ad H vs ys→xs=ys)
  (fun _ _ _ _ _ h=>by cases h;rfl) (fun _ _ _ _ _ _ h=>by cases h;rfl) (fun _ _ _ _ _ _ h=>by cases h;rfl) (fun _ _ _ _ _ _ h=>by cases h;rfl)
  (fun e _ ih n m y hx hy h=>by
   obtain⟨n',hx⟩:=Zcy hx;cases h with
   |tup e' r'=>
    cases J _ _ _ e e'
    obtain⟨m',hy⟩:=Zcy hy;rw[ih n' m' _ hx hy r']
   |lst _=>exact XL hy (Zcw _)
   |dic _ _=>exact XL hy (Zcv _)
   |dct _ _ _ _ _=>exact XL hy (Zcu _ _)
   |obj _ _=>exact XL hy (Zcx _)
   |kt _ _ _ _ _ _=>exact XL hy (Zfw _))
  (fun _ _ _ _ hx _ _=>XL hx (Zcw _)) (fun _ _ _ _ _ hx _ _=>XL hx (Zcv _)) (fun _ _ _ _ _ _ _ _ _ hx _ _=>XL hx (Zcu _ _)) (fun _ _ _ _ _ hx _ _=>XL hx (Zcx _)) (fun _ _ _ _ _ _ _ _ _ hx _ _=>XL hx (Zfw _))
  (fun _ _ _ _ _ h=>by cases h;rfl)
  (fun _ _ i1 i2 n m ys hx hy h=>by
   cases h with
   |cons a' r'=>
    have hx:=Bool.and_eq_true_iff.mp hx;have hy:=Bool.and_eq_true_iff.mp hy;rw[i1 n m _ hx.1 hy.1 a',i2 n m _ hx.2 hy.2 r']) h
theorem Den.inj(J:∀ (a:Addr) (xs ys:List V),TupAt X.K H a xs→TupAt X.K H a ys→xs=ys){n m:Nat}{v:V}{x y:D}(hx:okD n x=true)(hy:okD m y=true)(h:Den X.K ad H v x)(h':Den X.K ad H v y):x=y:=h.injP J n m y hx hy h'
theorem Dens.inj(J:∀ (a:Addr) (xs ys:List V),TupAt X.K H a xs→TupAt X.K H a ys→xs=ys){n m:Nat}{vs:List V}{xs ys:List D}(hx:YM n xs=true)(hy:YM m ys=true)(h:Dens X.K ad H vs xs)(h':Dens X.K ad H vs ys):xs=ys:=by
 induction vs generalizing xs ys with
 |nil=>cases h;cases h';rfl
 |cons v vs ih=>
  cases h with
  |cons a r=>cases h' with
   |cons a' r'=>
    have hx:=Bool.and_eq_true_iff.mp hx;have hy:=Bool.and_eq_true_iff.mp hy;rw[a.inj J hx.1 hy.1 a',ih hx.2 hy.2 r r']
open PySem.SeqAt in
theorem Zf7{pins:List (Addr×Obj)}{σ:L2.St}{s:Shared}(I:Inv X pins σ H s):∀ (n:Nat) (x y:D) (A:Around) (vx vy:V) (ux uy:Value),okD n x=true→okD n y=true→A.units+n < cLine→Den X.K ad H vx x→Den X.K ad H vy y→RelV vx ux→RelV vy uy→EqAt A s ux uy (ZK x y):=by
 intro n
 induction n with
 |zero=>
  intro x y A vx vy ux uy hx hy hu dx dy rx ry;cases dx with
  |non=>
   cases rx;cases dy with
   |non=>cases ry;exact EqAt.same _
   |int j=>obtain⟨t',rfl⟩:=ry;exact EqAt.none_int j t'
   |str j=>obtain⟨t',rfl⟩:=ry;exact EqAt.none_str j t'
   |_=>simp[okD]at hy
  |int i=>
   obtain⟨t,rfl⟩:=rx;cases dy with
   |non=>cases ry;exact EqAt.int_none i t
   |int j=>obtain⟨t',rfl⟩:=ry;exact(show ZK (.int i) (.int j)=(i==j) from by rw[Bool.eq_iff_iff];simp[ZK]) ▸ EqAt.int_int i t j t'
   |str j=>obtain⟨t',rfl⟩:=ry;exact EqAt.int_str i t j t'
   |_=>simp[okD]at hy
  |str i=>
   obtain⟨t,rfl⟩:=rx;cases dy with
   |non=>cases ry;exact EqAt.str_none i t
   |int j=>obtain⟨t',rfl⟩:=ry;exact EqAt.str_int i t j t'
   |str j=>obtain⟨t',rfl⟩:=ry;exact(show ZK (.str i) (.str j)=(i==j) from by rw[Bool.eq_iff_iff];simp[ZK]) ▸ EqAt.str_str i t j t'
   |_=>simp[okD]at hy
  |_=>simp[okD]at hx
 |succ n ih=>
  intro x y A vx vy ux uy hx hy hu dx dy rx ry;cases dx with
  |non=>
   cases rx;cases dy with
   |non=>cases ry;exact EqAt.same _
   |int j=>obtain⟨t',rfl⟩:=ry;exact EqAt.none_int j t'
   |str j=>obtain⟨t',rfl⟩:=ry;exact EqAt.none_str j t'
   |tup e r=>
    cases ry;obtain⟨its,_,p,_⟩:=I.tuple ((e).sq);exact EqAt.none_tuple p (by omega)
   |_=>simp[okD]at hy
  |int i=>
   obtain⟨t,rfl⟩:=rx;cases dy with
   |non=>cases ry;exact EqAt.int_none i t
   |int j=>obtain⟨t',rfl⟩:=ry;exact(show ZK (.int i) (.int j)=(i==j) from by rw[Bool.eq_iff_iff];simp[ZK]) ▸ EqAt.int_int i t j t'
   |str j=>obtain⟨t',rfl⟩:=ry;exact EqAt.int_str i t j t'
   |tup e r=>
    cases ry;obtain⟨its,_,p,_⟩:=I.tuple ((e).sq);exact EqAt.int_tuple i t p (by omega)
   |_=>simp[okD]at hy
  |str i=>
   obtain⟨t,rfl⟩:=rx;cases dy with
   |non=>cases ry;exact EqAt.str_none i t
   |int j=>obtain⟨t',rfl⟩:=ry;exact EqAt.str_int i t j t'
   |str j=>obtain⟨t',rfl⟩:=ry;exact(show ZK (.str i) (.str j)=(i==j) from by rw[Bool.eq_iff_iff];simp[ZK]) ▸ EqAt.str_str i t j t'
   |tup e r=>
    cases ry;obtain⟨its,_,p,_⟩:=I.tuple ((e).sq);exact EqAt.str_tuple i t p (by omega)
   |_=>simp[okD]at hy
  |@tup a xs ds e r=>
   cases rx;obtain⟨its,rv,p,_⟩:=I.tuple ((e).sq);cases dy with
   |non=>cases ry;exact EqAt.tuple_none p (by omega)
   |int j=>obtain⟨t',rfl⟩:=ry;exact EqAt.tuple_int j t' p (by omega)
   |str j=>obtain⟨t',rfl⟩:=ry;exact EqAt.tuple_str j t' p (by omega)
   |@tup b ys es e' r'=>
    cases ry;by_cases hab:a=b
    ·subst hab
     have z:=Den.inj (fun _ _ _ e e2=>I.tuple_inj e.sq e2.sq) (n:=n+1) (m:=n+1) hx hy (Den.tup e r) (Den.tup e' r')
     cases z;rw[VJ hx];exact EqAt.same _
    ·obtain⟨its',rv',p',_⟩:=I.tuple ((e').sq)
     refine EqAt.of_refs hab ?_;have q:=RcAt.tuples (A:=A) (s:=s) (e:=fun i=>ZK ((ds[i]?).getD .non) ((es[i]?).getD .non)) p p' (by omega) fun j h1 h2=>?_
     ·have e1:its.toArray.size=ds.length:=by rw[List.size_toArray,←rv.length,r.length]
      have e2:its'.toArray.size=es.length:=by rw[List.size_toArray,←rv'.length,r'.length]
      rw[e1,e2]at q;show RcAt A s (.ref a) (.ref b) (ZS ds es);rw[YT];exact q
     ·have l1:j < ds.length:=by rw[←r.length,rv.length];simpa using h1
      have l2:j < es.length:=by rw[←r'.length,rv'.length];simpa using h2
      have g1:ds[j]?=some ds[j]:=List.getElem?_eq_getElem l1;have g2:es[j]?=some es[j]:=List.getElem?_eq_getElem l2;obtain⟨v1,q1,d1⟩:=r.get g1;obtain⟨v2,q2,d2⟩:=r'.get g2;obtain⟨u1,w1,r1⟩:=rv.get q1;obtain⟨u2,w2,r2⟩:=rv'.get q2;have f1:its.toArray[j]=u1:=by
       have:its[j]?=some (its[j]'(by simpa using h1)):=List.getElem?_eq_getElem _
       rw[w1]at this;simpa using(Option.some.inj this).symm
      have f2:its'.toArray[j]=u2:=by
       have:its'[j]?=some (its'[j]'(by simpa using h2)):=List.getElem?_eq_getElem _
       rw[w2]at this;simpa using(Option.some.inj this).symm
      rw[f1,f2,g1,g2];exact ih ds[j] es[j] A.in1 v1 v2 u1 u2 (Xs hx g1) (Xs hy g2) (by show A.units+1+n < cLine;omega) d1 d2 r1 r2
   |_=>simp[okD]at hy
  |_=>simp[okD]at hx
open PySem.SeqAt in
theorem Jj{pins:List (Addr×Obj)}{σ:L2.St}{s:Shared}(I:Inv X pins σ H s){n:Nat}{A:Around}{a b:Addr}{xs ys:List V}{ds es:List D}{its its':List Value}(hx:YM n ds=true)(hy:YM n es=true)(hu:A.units+n+1 < cLine)(r:Dens X.K ad H xs ds)(r':Dens X.K ad H ys es)(rv:Vals xs its)(rv':Vals ys its')(j:Nat)(h1:j < its.toArray.size)(h2:j < its'.toArray.size):EqAt A.in1 s its.toArray[j] its'.toArray[j] (ZK ((ds[j]?).getD .non) ((es[j]?).getD .non)):=by
 have l1:j < ds.length:=by rw[←r.length,rv.length];simpa using h1
 have l2:j < es.length:=by rw[←r'.length,rv'.length];simpa using h2
 have g1:ds[j]?=some ds[j]:=List.getElem?_eq_getElem l1;have g2:es[j]?=some es[j]:=List.getElem?_eq_getElem l2;obtain⟨v1,q1,d1⟩:=r.get g1;obtain⟨v2,q2,d2⟩:=r'.get g2;obtain⟨u1,w1,r1⟩:=rv.get q1;obtain⟨u2,w2,r2⟩:=rv'.get q2;have f1:its.toArray[j]=u1:=by
  have:its[j]?=some (its[j]'(by simpa using h1)):=List.getElem?_eq_getElem _
  rw[w1]at this;simpa using(Option.some.inj this).symm
 have f2:its'.toArray[j]=u2:=by
  have:its'[j]?=some (its'[j]'(by simpa using h2)):=List.getElem?_eq_getElem _
  rw[w2]at this;simpa using(Option.some.inj this).symm
 rw[f1,f2,g1,g2];exact Zf7 I n ds[j] es[j] A.in1 v1 v2 u1 u2 (Xs hx g1) (Xs hy g2) (by show A.units+1+n < cLine;omega) d1 d2 r1 r2
open PySem.SeqAt in
theorem ZeH{pins:List (Addr×Obj)}{σ:L2.St}{s:Shared}(I:Inv X pins σ H s){n:Nat}{A:Around}{a b:Addr}{xs ys:List V}{ds es:List D}(hx:YM n ds=true)(hy:YM n es=true)(hu:A.units+n+1 < cLine)(e:TupAt X.K H a xs)(r:Dens X.K ad H xs ds)(e':TupAt X.K H b ys)(r':Dens X.K ad H ys es):RcAt A s (.ref a) (.ref b) (ZS ds es)∧RcNeAt A s (.ref a) (.ref b) (!ZS ds es):=by
 obtain⟨its,rv,p,_⟩:=I.tuple (e.sq);obtain⟨its',rv',p',_⟩:=I.tuple (e'.sq);have e1:its.toArray.size=ds.length:=by rw[List.size_toArray,←rv.length,r.length]
 have e2:its'.toArray.size=es.length:=by rw[List.size_toArray,←rv'.length,r'.length]
 have q:=RcAt.tuples (A:=A) (s:=s) (e:=fun i=>ZK ((ds[i]?).getD .non) ((es[i]?).getD .non)) p p' (by omega) fun j h1 h2=>Jj (a:=a) (b:=b) I hx hy hu r r' rv rv' j h1 h2
 have q':=RcNeAt.tuples (A:=A) (s:=s) (e:=fun i=>ZK ((ds[i]?).getD .non) ((es[i]?).getD .non)) p p' (by omega) fun j h1 h2=>Jj (a:=a) (b:=b) I hx hy hu r r' rv rv' j h1 h2
 rw[e1,e2]at q q';rw[YT];exact⟨q,q'⟩
end
end Dp



namespace Dp
open PySem PySem.Spec PyProof.Rows L2 Builtin Builtin.Str
variable [ClsTab]
section
variable {X:Cx}{tg:Expr}
end
end Dp



namespace Dp
open PySem PySem.Spec PyProof.Rows L2
variable [ClsTab]
section
open Builtin
open AutoSeq1 (wpAny_loadPart')
theorem Wp:fillsNumberSlot (.type "tuple") "mul"=pure false:=
 PySem.fillsNumberSlot_seq (id := "tuple.__mul__") (r:=some (.builtin "tuple.__rmul__")) F.slot_tuple_mul.lookup (by decide +kernel) F.slot_tuple_rmul.lookup (by decide +kernel)
theorem UO:seqRepeat? (.type "tuple")=pure (some (.builtin "tuple.__mul__")):=by
 unfold seqRepeat?
 rw[PySem.seqSlot_of (T := "tuple") (name := "__mul__") (id := "tuple.__mul__") F.slot_tuple_mul.lookup (by decide +kernel),PySem.seqSlot_of (T := "tuple") (name := "__rmul__") (id := "tuple.__rmul__") F.slot_tuple_rmul.lookup (by decide +kernel)]
 rfl
theorem JB(a:Int)(t:Tok)(l:Addr)(items:Array Value)(n:Nat)(dd:Option Addr)(sl:Array (Option Value)):Meets (Builtin.«int.__rmul__» ⟨[.int a t,.ref l],[]⟩) (fun _ R s=>s.heap.get? l=some { cls:=.type "tuple",dict:=dd,data:=.seq items n,slots:=sl }∧R (.ok (.ret Value.notImplemented)) s):=
 .of_wp fun prog w A R s h=>by obtain⟨hp,g,d,tk,os⟩:=s;obtain⟨hl,h⟩:=h;wp_walk;exact⟨_,rfl,h⟩
theorem Zdi(l:Addr)(items:Array Value)(n:Nat)(dd:Option Addr)(sl:Array (Option Value))(u:Tok) :
  Meets (Builtin.«tuple.__mul__» ⟨[.ref l,.int 1 u],[]⟩) (fun _ R s=>s.heap.get? l=some { cls:=.type "tuple",dict:=dd,data:=.seq items n,slots:=sl }∧R (.ok (.ret (Value.ref l))) s):=
 .of_wp fun prog w A R s h=>by
  obtain⟨hp,g,d,tk,os⟩:=s;obtain⟨hl,h⟩:=h;have f1:=AutoSeq1.idx_int;wp_walk using wpAny_loadPart' hl;exact⟨_,rfl,h⟩
theorem Zdh(l:Addr)(items:Array Value)(n:Nat)(dd:Option Addr)(sl:Array (Option Value))(k:Int)(u:Tok)(h0:¬items.isEmpty=true)(h1:k≤0)(h2:-1000≤k) :
  Meets (Builtin.«tuple.__mul__» ⟨[.ref l,.int k u],[]⟩) (fun _ R s=>s.heap.get? l=some { cls:=.type "tuple",dict:=dd,data:=.seq items n,slots:=sl }∧R (.ok (.ret (Value.ref s.heap.objs.size))) { s with heap:=s.heap.push { cls:=.type "tuple",data:=.seq #[] } }):=
 .of_wp fun prog w A R s h=>by
  obtain⟨hp,g,d,tk,os⟩:=s;obtain⟨hl,h⟩:=h;have f1:=AutoSeq1.idx_int;have a1:(decide (k < -(2 ^ 63))||decide (k≥2 ^ 63))=false:=by rw[decide_eq_false (by omega),decide_eq_false (by omega)];rfl
  have a2:(items.isEmpty||k==1)=false:=by
   have:(k==1)=false:=by rw[beq_eq_false_iff_ne];omega
   rw[this,Bool.or_false];simpa using h0
  have a3:(decide (k≤0)||items.isEmpty)=true:=by rw[decide_eq_true h1];rfl
  wp_walk using wpAny_loadPart' hl
  refine wpAny_ite_false (by rw[a1];rfl) ?_
  wp_walk using wpAny_loadPart' hl
  refine wpAny_ite_false (by rw[a2];rfl) ?_
  wp_walk using wpAny_loadPart' hl
  exact⟨_,rfl,h⟩
theorem Zdj(l:Addr)(items:Array Value)(n:Nat)(dd:Option Addr)(sl:Array (Option Value))(k:Int)(u:Tok)(h0:items.size=1)(h1:2≤k)(h2:k≤1000) :
  Meets (Builtin.«tuple.__mul__» ⟨[.ref l,.int k u],[]⟩) (fun _ R s=>s.heap.get? l=some { cls:=.type "tuple",dict:=dd,data:=.seq items n,slots:=sl }∧R (.ok (.ret (Value.ref s.heap.objs.size))) { s with heap:=s.heap.push { cls:=.type "tuple",data:=.seq ((List.replicate k.toNat items).foldl (fun x1 x2=>x1++x2) #[]) } }):=
 .of_wp fun prog w A R s h=>by
  obtain⟨hp,g,d,tk,os⟩:=s;obtain⟨hl,h⟩:=h;have f1:=AutoSeq1.idx_int;have a1:(decide (k < -(2 ^ 63))||decide (k≥2 ^ 63))=false:=by rw[decide_eq_false (by omega),decide_eq_false (by omega)];rfl
  have ae:items.isEmpty=false:=by
   rw[Array.isEmpty_eq_false_iff];intro z;rw[z]at h0;simp at h0
  have a2:(items.isEmpty||k==1)=false:=by
   have:(k==1)=false:=by rw[beq_eq_false_iff_ne];omega
   rw[this,Bool.or_false];exact ae
  have a3:(decide (k≤0)||items.isEmpty)=false:=by rw[decide_eq_false (by omega),ae];rfl
  have a4:decide ((items.size:Int) * k > (2 ^ 63 - 1) / 8)=false:=by rw[h0];exact decide_eq_false (by omega)
  have a5:Tuple.tupleTooMany ((items.size:Int) * k)=false:=by
   unfold Tuple.tupleTooMany;rw[h0];exact decide_eq_false (by have:(sizeLine:Int)≥1000:=(by decide);omega)
  have a6:decide (((List.replicate k.toNat items).foldl (fun x1 x2=>x1++x2) #[]).size > sizeLine)=false:=by
   rw[AutoListH.size_joined];refine decide_eq_false ?_;have:sizeLine≥1000:=by decide
   simp only[h0,Array.size_empty];omega
  wp_walk using wpAny_loadPart' hl
  refine wpAny_ite_false (by rw[a1];rfl) ?_
  wp_walk using wpAny_loadPart' hl
  refine wpAny_ite_false (by rw[a2];rfl) ?_
  wp_walk using wpAny_loadPart' hl
  refine wpAny_ite_false (by rw[a3];rfl) ?_
  wp_walk using wpAny_loadPart' hl
  refine wpAny_ite_false a4 ?_
  wp_walk using wpAny_loadPart' hl
  refine wpAny_ite_false (by rw[a5];rfl) ?_
  wp_walk using wpAny_loadPart' hl
  exact⟨_,rfl,h⟩
theorem ZeJ{X:Cx}{pins:List (Addr×Obj)}{s:Shared}{σ:L2.St}{H:Hp}{a:Addr}{v:V}{k:Int}{t:Tok}{Q:VK}(I:L2.Inv X pins σ H s)(ha:TupAt X.K H a [v])(h1:k≤1000)(h2:-1000≤k)(q1:k=1→Q (.ref a) H)(q2:∀ p,H p=none→Q (.ref p) (upd H p (.tup (List.replicate k.toNat v)))):wpAny (model X.prog X.w) X.A (binaryOp .Mult (.ref a) (.int k t)) (EP X pins σ Q) X.xe s:=by
 obtain⟨its,r,p1,_⟩:=I.tuple (ha.sq);obtain⟨u,rfl,ru⟩:=r.one;obtain⟨⟨c1,dd,dt,sl⟩,ho,hc,n,hd⟩:=id p1;simp only at hc hd;subst hc hd;have fin:∀ its':List Value,Vals (List.replicate k.toNat v) its'→EP X pins σ Q (.ref s.heap.objs.size) { s with heap:=s.heap.push { cls:=.type "tuple",data:=.seq its'.toArray } }:=fun its' r'=>
  ⟨.ref s.heap.objs.size,_,I.laid (t':=s.toks) (o:=.tup (List.replicate k.toNat v)) (fun b ob q=>Heap.get?_push_of_some _ q) (Nat.le_refl _) ⟨by rw[List.length_replicate];exact Nat.le_trans (show k.toNat≤1000 by omega) (by decide),its',r',IsTup.new _ _⟩,rfl,q2 _ (I.hok.fresh (Nat.le_refl _))⟩
 refine wpAny_binaryOp_repeat_ref (T := "tuple") (U := "int") (by decide) ⟨_,ho,rfl⟩ (fun s'=>typeIs_int s' k t) Wp F.fills_int_mul F.slot_int_rmul UO F.slot_int_index.lookup
  (call_meets F.slot_int_rmul (typeIs_int s k t) F.entry_int_rmul (F.args_int_rmul_2 _ _) (JB k t a _ n dd sl) ⟨ho,rfl,⟨_,ho,rfl⟩,?_⟩)
 by_cases e1:k=1
 ·subst e1
  exact call_meets F.slot_tuple_mul ⟨_,ho,rfl⟩ F.entry_tuple_mul (F.args_tuple_mul_2 _ _) (Zdi a _ n dd sl t) ⟨ho,⟨.ref a,H,I,rfl,q1 rfl⟩⟩
 ·by_cases e0:k≤0
  ·refine call_meets F.slot_tuple_mul ⟨_,ho,rfl⟩ F.entry_tuple_mul (F.args_tuple_mul_2 _ _) (Zdh a _ n dd sl k t (by simp) e0 h2) ⟨ho,?_⟩
   have z:k.toNat=0:=by omega
   exact fin [] (by rw[z];exact .nil)
  ·refine call_meets F.slot_tuple_mul ⟨_,ho,rfl⟩ F.entry_tuple_mul (F.args_tuple_mul_2 _ _) (Zdj a _ n dd sl k t (by simp) (by omega) h1) ⟨ho,?_⟩
   have e:List.foldl (fun x1 x2=>x1++x2) #[] (List.replicate k.toNat [u].toArray)=(List.replicate k.toNat u).toArray:=by
    have e2:=foldl_rep [u] k.toNat [];rw[List.nil_append]at e2;rw[show([]:List Value).toArray=#[] from rfl]at e2;rw[e2]
    congr 1
    generalize k.toNat=j
    induction j with
    |zero=>rfl
    |succ j ih=>rw[List.replicate_succ,List.flatten_cons,ih,List.replicate_succ];rfl
   rw[e];refine fin _ ?_;generalize k.toNat=j
   induction j with
   |zero=>exact .nil
   |succ j ih=>exact .cons ru ih
end
theorem YE:Zj≤sizeLine:=by decide
section
variable {X:Cx}
theorem Jm{i:Int}(h:ZJ i=true):-(2 ^ 64) < i∧i < 2 ^ 64:=by
 unfold ZJ at h;rw[Bool.and_eq_true]at h;exact⟨of_decide_eq_true h.1,of_decide_eq_true h.2⟩
theorem ZdI{pins:List (Addr×Obj)}{s:Shared}{σ:L2.St}{H:Hp}{a b:Addr}{xs ys:List V}{Q:VK}(I:Inv X pins σ H s)(ha:TupAt X.K H a xs)(hb:TupAt X.K H b ys)(hz:xs.length+ys.length≤sizeLine)(q0:xs=[]→Q (.ref b) H)(q1:ys=[]→Q (.ref a) H)(q2:∀ p,H p=none→Q (.ref p) (upd H p (.tup (xs++ys)))):wpAny (model X.prog X.w) X.A (binaryOp .Add (.ref a) (.ref b)) (EP X pins σ Q) X.xe s:=by
 by_cases hx:xs=[]
 ·obtain⟨its,r1,p1,_⟩:=I.tuple (ha.sq)
  obtain⟨its2,r2,p2,_⟩:=I.tuple (hb.sq);have e1:its=[]:=r1.nil_iff.mpr hx;subst e1;obtain⟨⟨c1,dd,dt,sl⟩,ho,hc,n,hd⟩:=id p1;obtain⟨⟨c2,dd2,dt2,sl2⟩,ho2,hc2,n2,hd2⟩:=id p2;simp only at hc hd hc2 hd2;subst hc hd hc2 hd2;exact concat_meets ⟨_,ho,rfl⟩ ⟨_,ho2,rfl⟩ noFill_tuple_add seq_tuple_add PySem.F.slot_tuple_add PySem.F.entry_tuple_add (PySem.F.args_tuple_add_2 _ _)
   (tuple_addW0 a b #[] its2.toArray n n2 dd dd2 sl sl2 rfl) ⟨ho,ho2,⟨.ref b,H,I,rfl,q0 hx⟩⟩
 ·exact op_catT pins s σ H (.ref a) (.ref b) _ _ Q I rfl rfl ⟨a,b,xs,ys,rfl,rfl,(ha).sq,(hb).sq,hx,hz,q1,fun _=>q2⟩
theorem Zet{op:Operator}{i j k:Int}{pins:List (Addr×Obj)}{s:Shared}{σ:L2.St}{H:Hp}{v u:Value}{Q:VK}(I:L2.Inv X pins σ H s)(rx:RelV (.int i) v)(ry:RelV (.int j) u)(e:Q6 op i j=some k)(p:Q (.int k) H) :
  wpAny (model X.prog X.w) X.A (binaryOp op v u) (EP X pins σ Q) X.xe s:=by
 unfold Q6 at e;split at e
 ·cases e
  exact op_add pins s σ H _ _ v u Q I rx ry ⟨_,_,rfl,rfl,p⟩
 ·cases e
  exact op_sub pins s σ H _ _ v u Q I rx ry ⟨_,_,rfl,rfl,p⟩
 ·split at e
  ·rename_i hl
   cases e;refine op_mul pins s σ H _ _ v u Q I rx ry ⟨_,_,rfl,rfl,?_,p⟩;rw[Bool.or_eq_true]at hl;exact hl.elim (fun z=>.inl (Jm z)) fun z=>.inr (Jm z)
  ·cases e
 ·split at e
  ·rename_i hl
   cases e;exact op_fdiv pins s σ H _ _ v u Q I rx ry ⟨_,_,rfl,rfl,hl,p⟩
  ·split at e
   ·rename_i hl
    cases e;exact op_fdivN pins s σ H _ _ v u Q I rx ry ⟨_,_,rfl,rfl,⟨by omega,by omega⟩,p⟩
   ·cases e
 ·split at e
  ·rename_i hl
   cases e;exact op_mod pins s σ H _ _ v u Q I rx ry ⟨_,_,rfl,rfl,hl,p⟩
  ·split at e
   ·rename_i hl
    cases e;exact op_modN pins s σ H _ _ v u Q I rx ry ⟨_,_,rfl,rfl,(by omega),p⟩
   ·cases e
 ·split at e
  ·rename_i hl
   cases e;have:=Jm hl.2.2;exact op_shl pins s σ H _ _ v u Q I rx ry ⟨_,_,rfl,rfl,⟨hl.1,by omega,by omega⟩,p⟩
  ·cases e
 ·cases e
theorem ZaJ{pins:List (Addr×Obj)}{s:Shared}{σ:L2.St}{H:Hp}{a b:Addr}{xs ys:List V}{Q:VK}(I:L2.Inv X pins σ H s)(ha:SqL X.K H a xs)(hb:SqL X.K H b ys)(hz:xs.length+ys.length≤sizeLine)(q:∀ p,H p=none→Q (.ref p) (upd H p (.lst (xs++ys)))):wpAny (model X.prog X.w) X.A (binaryOp .Add (.ref a) (.ref b)) (EP X pins σ Q) X.xe s:=by
 obtain⟨its,r,p1,_⟩:=I.list ha;obtain⟨its2,r2,p2,_⟩:=I.list hb;obtain⟨⟨cls,dd,data,sl⟩,ho,hc,n,hd⟩:=id p1.isList;obtain⟨⟨cls2,dd2,data2,sl2⟩,ho2,hc2,n2,hd2⟩:=id p2.isList;simp only at hc hd hc2 hd2;subst hc hd hc2 hd2;have e:its.toArray++its2.toArray=(its++its2).toArray:=by simp
 have l1:=r.length;have l2:=r2.length;refine concat_meets ⟨_,ho,rfl⟩ ⟨_,ho2,rfl⟩ noFill_list_add seq_list_add PySem.F.slot_list_add PySem.F.entry_list_add (PySem.F.args_list_add_2 _ _) (list_addW a b its.toArray its2.toArray n n2 dd dd2 sl sl2 (by simp;omega)) ⟨ho,ho2,?_⟩
 rw[e];exact⟨.ref _,_,I.lnew (t':=s.toks) (r.append r2) (by rw[List.length_append];omega),rfl,q _ I.fresh⟩
theorem Q1{op:Operator}(h:YW op=true):op=.Add:=by cases op<;>first|rfl|cases h
theorem Zco{op:Operator}(h:Xc op=true):op=.Mult:=by cases op<;>first|rfl|cases h
theorem Zes{op:Operator}:OpR X (binaryOp op) (rD X.K (Vw op)):=by
 intro pins s σ H x y v u Q I rx ry h;obtain⟨ad,st,dx,dy,d,st',S,hx,hy,e,p⟩:=h;unfold Vw at e;split at e
 ·split at e
  ·rename_i k q
   cases e;cases hx;cases hy
   exact Zet I rx ry q (p.at S (.int _))
  ·cases e
 ·split at e
  ·rename_i hz0
   cases Q1 hz0.1
   have hz:=hz0.2;cases e;obtain⟨a,xs,rfl,ha,r1⟩:=hx.ofTup;obtain⟨b,ys,rfl,hb,r2⟩:=hy.ofTup;cases rx;cases ry
   refine ZdI I ha hb (by rw[r1.length,r2.length];exact Nat.le_trans hz YE) (fun z=>?_) (fun z=>?_) fun q hq=>?_
   ·subst z;cases r1
    exact p.at S hy
   ·subst z;cases r2
    rw[List.append_nil]at p;exact p.at S hx
   ·exact p _ ad _ (Ext.laid hq) (S.laid hq) (.tup (.inl upd_same) ((r1.append r2).mono (Ext.laid hq)))
  ·cases e
 ·split at e
  ·rename_i hz0
   cases Zco hz0
   obtain⟨a,xs,rfl,ha,r1⟩:=hx.ofTup;cases hy;cases rx;obtain⟨t,rfl⟩:=ry;cases r1 with
   |nil=>cases e
   |cons d1 r1=>cases r1 with
    |cons _ _=>cases e
    |nil=>
     have e:(if _∧_ then some (D.tup (List.replicate _ _),st) else none)=some (d,st'):=e
     split at e
     ·rename_i hz
      cases e;refine ZeJ I ha hz.1 hz.2 (fun z=>?_) fun q hq=>p _ ad _ (Ext.laid hq) (S.laid hq) (.tup (.inl upd_same) ((Dens.rep d1 _).mono (Ext.laid hq)))
      subst z;exact p.at S (.tup ha (.cons d1 .nil))
     ·cases e
  ·cases e
 ·split at e
  ·rename_i hop
   cases Q1 hop
   unfold ZdH at e;split at e
   ·rename_i xs ys q1 q2
    split at e
    ·rename_i hz
     cases e;obtain⟨a,rfl,ha⟩:=hx.ofLst;obtain⟨b,rfl,hb⟩:=hy.ofLst;obtain⟨vs,r1,h1⟩:=S.list ha q1;obtain⟨ws,r2,h2⟩:=S.list hb q2;cases rx;cases ry
     refine ZaJ I h1 h2 (by rw[r1.length,r2.length];exact Nat.le_trans hz YE) fun q hq=>?_
     refine p _ (ad++[q]) _ (Ext.push hq) (S.push hq (r1.append r2)) (.newL ?_);rw[←S.len];exact ZP
    ·cases e
   ·cases e
  ·cases e
 ·split at e
  ·rename_i hop
   cases Zco hop
   unfold ZeI at e;split at e
   ·rename_i z q1
    split at e
    ·rename_i hz
     cases e;obtain⟨a,rfl,ha⟩:=hx.ofLst;obtain⟨vs,r1,h1⟩:=S.listM ha q1;cases hy;cases r1 with
     |cons d1 r1=>
      cases r1;rename_i w;refine op_rep pins s σ H _ _ v u Q I rx ry ⟨a,_,[w],rfl,rfl,h1,by omega,by omega,?_,fun q hq=>?_⟩
      ·rw[List.length_singleton,Nat.one_mul]
       exact Nat.le_trans (show _≤1000 by omega) (by decide)
      ·have e1:∀ k:Nat,(List.replicate k [w]).flatten=List.replicate k w:=fun k=>by
        induction k with
        |zero=>rfl
        |succ k ih=>rw[List.replicate_succ,List.flatten_cons,ih,List.replicate_succ];rfl
       rw[e1];refine p _ (ad++[q]) _ (Ext.push hq) (S.push hq (Dens.rep d1 _)) (.newL ?_);rw[←S.len];exact ZP
    ·cases e
   ·cases e
  ·cases e
 ·split at e
  ·rename_i hz
   cases Q1 hz.1
   cases e;cases hx;cases hy
   exact op_add_str pins s σ H _ _ v u Q I rx ry ⟨_,_,rfl,rfl,Nat.le_trans hz.2 YE,p.at S (.str _)⟩
  ·cases e
 ·cases e
theorem Zfe:UnR X (unaryOp .USub) (rU1 X.K Zeo):=by
 intro pins s σ H x v Q I rx h;obtain⟨ad,st,dx,d,st',S,hx,e,p⟩:=h;unfold Zeo at e;split at e
 ·cases e;cases hx
  exact un_neg pins s σ H _ v Q I rx ⟨_,rfl,p.at S (.int _)⟩
 ·cases e
theorem Q4{xs:List V}{ds:List D}{ad:List Addr}{H:Hp}{i:Int}{d:D}(r:Dens X.K ad H xs ds)(e:atD ds i=some d):∃ v,atI xs i=some v∧Den X.K ad H v d:=by
 unfold atD at e;have hl:L2.ixN xs.length i=Dp.ixN ds.length i:=by rw[r.length];rfl
 cases q:Dp.ixN ds.length i with
 |none=>rw[q]at e;cases e
 |some j=>
  rw[q]at e;obtain⟨v,e1,e2⟩:=r.get (i:=j) e;refine⟨v,?_,e2⟩;unfold atI;rw[hl,q];exact e1
theorem Vc{ad:List Addr}{H:Hp}{k:Str}:∀ {ks:List Str}{vs:List V}{ds:List D},Dens X.K ad H vs ds→ks.length=vs.length→
  (∃ v d,valV ((ks.zip vs).map fun p=>((Sum.inr p.1:Key),p.2)) (Sum.inr k)=some v∧ZC ks ds k=some d∧Den X.K ad H v d)∨(valV ((ks.zip vs).map fun p=>((Sum.inr p.1:Key),p.2)) (Sum.inr k)=none∧ZC ks ds k=none)
 |[],_,_,.nil,_=>.inr ⟨rfl,rfl⟩
 |[],_,_,.cons _ _,h=>by simp at h
 |_ :: _,_,_,.nil,h=>by simp at h
 |x :: ks,v :: vs,d :: ds,.cons hd r,h=>by
  by_cases e:x=k
  ·subst e
   exact .inl ⟨v,d,valV_pos rfl,by simp[ZC],hd⟩
  ·have ih:=Vc (k:=k) r (by simpa using h)
   have e1:valV (((x :: ks).zip (v :: vs)).map fun p=>((Sum.inr p.1:Key),p.2)) (Sum.inr k)=valV ((ks.zip vs).map fun p=>((Sum.inr p.1:Key),p.2)) (Sum.inr k):=valV_neg (p:=(Sum.inr x,v)) (by intro z;exact e (Sum.inr.inj z))
   have e2:ZC (x :: ks) (d :: ds) k=ZC ks ds k:=by simp[ZC,e]
   rw[e1,e2];exact ih
theorem ZhQ{x:Str}{i:Int}{d:D}(q:atD ((chS x).map D.str) i=some d):∃ c,atI x.cps.toList i=some c∧d=.str ⟨#[c]⟩:=by
 unfold atD at q;unfold atI;have hl:((chS x).map D.str).length=x.cps.toList.length:=by simp[chS]
 rw[hl]at q;show ∃ c,(Dp.ixN x.cps.toList.length i).bind (fun j=>x.cps.toList[j]?)=some c∧_
 cases e:Dp.ixN x.cps.toList.length i with
 |none=>rw[e]at q;cases q
 |some j=>
  rw[e]at q;have q:((chS x).map D.str)[j]?=some d:=q;unfold chS at q;rw[List.getElem?_map,List.getElem?_map]at q;show ∃ c,x.cps.toList[j]?=some c∧_;cases e2:x.cps.toList[j]? with
  |none=>rw[e2]at q;cases q
  |some c=>rw[e2]at q;cases q;exact⟨c,rfl,rfl⟩
theorem Zjx(hu:X.A.units+64 < cLine):IxR X (rD X.K ixR):=by
 intro value slice pins s σ H x y v u Q I rx ry h hs;obtain⟨ad,st,dx,dy,d,st',S,hx,hy,e,p⟩:=h;unfold ixR at e;split at e
 ·rename_i d' q
  cases e;unfold ixD at q;split at q
  ·obtain⟨a,xs,rfl,ha,r⟩:=hx.ofTup
   cases hy;obtain⟨w,e1,e2⟩:=Q4 r q;exact ix_tup value slice pins s σ H _ _ v u Q I rx ry ⟨a,xs,_,w,rfl,rfl,(ha).sq,e1,p.at S e2⟩ hs
  ·split at q
   ·rename_i q0
    obtain⟨a,rfl,ha⟩:=hx.ofLst;cases hy;obtain⟨xs,r,sq⟩:=S.list ha q0;obtain⟨w,e1,e2⟩:=Q4 r q;exact ix_list value slice pins s σ H _ _ v u Q I rx ry ⟨a,xs,_,w,rfl,rfl,sq,e1,p.at S e2⟩ hs
   ·cases q
  ·obtain⟨a,vs,rfl,ha,hl,r⟩:=hx.ofDct
   cases hy;rcases Vc r hl with⟨w,d0,e1,e2,e3⟩|⟨_,e2⟩
   ·rw[e2]at q
    cases q;exact ix_dct value slice pins s σ H _ _ v u Q I rx ry ⟨a,_,Sum.inr _,w,rfl,rfl,ha,e1,p.at S e3⟩ hs
   ·rw[e2]at q;cases q
  ·obtain⟨a,o,its,n,rfl,h1,h2,h3,h4,h5⟩:=hx.ofKt
   cases hy;obtain⟨w,e1,e2⟩:=Q4 (V6 _) q;exact ix_tup value slice pins s σ H _ _ v u Q I rx ry ⟨a,_,_,w,rfl,rfl,.inr ⟨o,its,n,h1,h2.1,h3,h4,h5⟩,e1,p.at S e2⟩ hs
  ·split at q
   ·rename_i hz
    cases hx;cases hy
    obtain⟨c,e1,rfl⟩:=ZhQ q;exact ix_str value slice pins s σ H _ _ v u Q I rx ry ⟨_,_,c,rfl,rfl,Nat.le_trans hz YE,e1,p.at S (.str _)⟩ hs
   ·cases q
  ·cases q
 ·cases e
theorem YZ(n d:Nat)(o:Option Int):Dp.sIx n d o=HT.sIx n d o:=by cases o<;>rfl
theorem ZbF{xs:List V}{ds:List D}{ad:List Addr}{H:Hp}{lo hi:Option Int}(r:Dens X.K ad H xs ds):Dens X.K ad H (cutV xs lo hi) (ZaO ds lo hi):=by
 unfold cutV ZaO;rw[←r.length,YZ,YZ];exact(r.drop _).take _
theorem VD{prog:Program}{w:World}{A:Around}{E:Value→Shared→Prop}{s:Shared}{t sl:Addr}{items:Array Value}{vl vu:Value}{lo hi:Option Int}{Q:Value→Shared→Prop}(ht:IsTup s.heap t items)(hs:s.heap.IsSliceOf sl vl vu .none)(pl:IsPart vl lo)(pu:IsPart vu hi)(hw:HT.sIx items.size 0 lo=0∧HT.sIx items.size items.size hi=items.size)(h:Q (.ref t) s):wpAny (model prog w) A (getItem (.ref t) (.ref sl)) Q E s:=by
 obtain⟨os,hos,hcs,hds⟩:=id hs;have hTs:s.TypeIs (.ref sl) "slice":=⟨os,hos,hcs⟩;unfold getItem
 try with_reducible refine wpAny_holding ?_
 first|refine wpAny_bind (wpAny_pure ?_)|skip
 refine wpAny_bind (wpAny_sequenceKey ht.typeIs (by decide) ?_)
 refine wpAny_bind (wpAny_callSpecial?_slot (name:=Str.ofString "__getitem__") ht.typeIs PyProof.Rows.slot_tuple_getitem
  (wpAny_call_entry PyProof.Rows.slot_tuple_getitem ht.typeIs PyProof.Rows.entry_tuple_getitem ?_ (PyProof.Rows.args_tuple_getitem _ _)))
 show wpAny _ _ (Builtin.Tuple.tupleItemsOf (.ref t) >>= _) _ _ s;refine wpAny_bind (tupleItemsOf_ ht ?_);refine wpAny_bind (wpAny_typeOf hTs ?_);rw[if_pos (by decide)]
 refine wpAny_bind (HT.sliceApplied_gen hs pl pu ?_);rw[hw.1,hw.2];have hyes:(((0:Nat):Int)==0&&(1:Int)==1&&(items.size - 0)==items.size)=true:=by simp
 show wpAny _ _ (if (((0:Nat):Int)==0&&(1:Int)==1&&(items.size - 0)==items.size)=true then _ else _) _ _ s
 rw[if_pos hyes];unfold Builtin.Tuple.tupleIsExact
 wp_walk using wpAny_typeOf ht.typeIs

 exact⟨_,rfl,wpAny_pure h⟩
theorem Zdc:SlR X (fun x lo hi H Q=>∃ a xs,x=.ref a∧SqT X.K H a xs∧(HT.sIx xs.length 0 lo=0∧HT.sIx xs.length xs.length hi=xs.length)∧Q (.ref a) H):=by
 intro pins s σ H x v vl vu lo hi sl Q I rx hs pl pu h;obtain⟨a,xs,rfl,hx,hw,q⟩:=h;cases rx;obtain⟨its,r,ht,hz⟩:=I.tuple hx;have hlen:its.toArray.size=xs.length:=by rw[List.size_toArray];exact r.length.symm
 refine⟨"tuple",_,PyProof.Rows.slot_tuple_getitem.lookup,ht.typeIs,?_⟩;exact VD ht hs pl pu (by rw[hlen];exact hw) ⟨.ref a,H,I,rfl,q⟩
theorem Zkk:SlR X (rSl X.K):=by
 intro pins s σ H x v vl vu lo hi sl Q I rx hs pl pu h;obtain⟨ad,st,dx,d,st',S,hx,e,p⟩:=h;unfold Yi at e;split at e
 ·rename_i ds
  split at e
  ·rename_i hw
   cases e;obtain⟨a,xs,rfl,ha,r⟩:=hx.ofTup;refine Zdc pins s σ H _ v vl vu lo hi sl Q I rx hs pl pu ⟨a,xs,rfl,ha.sq,?_,p.at S hx⟩;rw[r.length,←YZ,←YZ];exact hw
  ·rename_i hw
   cases e;obtain⟨a,xs,rfl,ha,r⟩:=hx.ofTup;refine sl_tup pins s σ H _ v vl vu lo hi sl Q I rx hs pl pu ⟨a,xs,rfl,(ha).sq,?_,fun q hq=>p _ ad _ (Ext.laid hq) (S.laid hq) (.tup (.inl upd_same) ((ZbF r).mono (Ext.laid hq)))⟩
   rw[r.length,←YZ,←YZ];exact hw
 ·split at e
  ·rename_i q0
   cases e;obtain⟨a,rfl,ha⟩:=hx.ofLst;obtain⟨xs,r,sq⟩:=S.list ha q0;refine sl_list pins s σ H _ v vl vu lo hi sl Q I rx hs pl pu ⟨a,xs,rfl,sq,fun q hq=>p _ (ad++[q]) _ (Ext.push hq) (S.push hq (ZbF r)) (.newL ?_)⟩
   rw[←S.len];exact ZP
  ·cases e
 ·cases e
theorem Qa{ad:List Addr}{H:Hp}{vs:List V}{d:D}(h:Dens X.K ad H vs [d]):∃ v,vs=[v]∧Den X.K ad H v d:=by
 cases h with
 |cons h r=>cases r;exact⟨_,rfl,h⟩
theorem Zfp{ad:List Addr}{H:Hp}{vs:List V}{d e:D}(h:Dens X.K ad H vs [d,e]):∃ v w,vs=[v,w]∧Den X.K ad H v d∧Den X.K ad H w e:=by
 cases h with
 |cons h r=>
  cases r with
  |cons h' r=>cases r;exact⟨_,_,rfl,h,h'⟩
theorem XD{g:D→Za→Res}{ds:List D}{st:Za}{r:D×Za}(h:on1 g ds st=some r):∃ d,ds=[d]∧g d st=some r:=by
 unfold on1 at h;split at h
 ·exact⟨_,rfl,h⟩
 ·cases h
theorem V1{g:D→D→Za→Res}{ds:List D}{st:Za}{r:D×Za}(h:on2 g ds st=some r):∃ d e,ds=[d,e]∧g d e st=some r:=by
 unfold on2 at h;split at h
 ·exact⟨_,_,rfl,h⟩
 ·cases h
theorem ZaF:CallR X (.builtin "len") (rC X.K (on1 Qp)):=by
 intro pins s σ H xs us Q I r h;obtain⟨ad,st,ds,d,st',S,hd,e,p⟩:=h;obtain⟨x,rfl,e1⟩:=XD e;have e:=e1;obtain⟨v,rfl,hv⟩:=Qa hd;unfold Qp at e;split at e
 ·rename_i n q
  cases e;unfold Zeh at q;split at q
  ·cases q
   obtain⟨a,ys,rfl,ha,rr⟩:=hv.ofTup;refine call_len_seq pins s σ H _ us Q I r ⟨a,ys,rfl,.inr ((ha).sq),?_⟩;rw[rr.length];exact p.at S (.int _)
  ·split at q
   ·rename_i q0
    cases q;obtain⟨a,rfl,ha⟩:=hv.ofLst;obtain⟨ys,rr,sq⟩:=S.list ha q0;refine call_len_seq pins s σ H _ us Q I r ⟨a,ys,rfl,.inl sq,?_⟩;rw[rr.length];exact p.at S (.int _)
   ·cases q
  ·cases q
   obtain⟨a,o,its,n,rfl,h1,h2,h3,h4,h5⟩:=hv.ofKt;refine call_len_seq pins s σ H _ us Q I r ⟨a,_,rfl,.inr (.inr ⟨o,its,n,h1,h2.1,h3,h4,h5⟩),?_⟩;rw[List.length_map];exact p.at S (.int _)
  ·split at q
   ·rename_i hz
    cases q;cases hv
    exact call_len pins s σ H _ us Q I r ⟨_,_,rfl,⟨Nat.le_trans hz YE,rfl⟩,p.at S (.int _)⟩
   ·cases q
  ·cases q
 ·cases e
theorem U6:CallR X (.type "tuple") (rC X.K (on1 Ww)):=by
 intro pins s σ H xs us Q I r h;obtain⟨ad,st,ds,d,st',S,hd,e,p⟩:=h;obtain⟨x,rfl,e1⟩:=XD e;have e:=e1;obtain⟨v,rfl,hv⟩:=Qa hd;unfold Ww at e;split at e
 ·cases e
  obtain⟨a,ys,rfl,ha,rr⟩:=hv.ofTup;exact call_tuple_of pins s σ H _ us Q I r ⟨a,ys,rfl,.inr ⟨(ha).sq,p.at S hv⟩⟩
 ·split at e
  ·rename_i q0
   cases e;obtain⟨a,rfl,ha⟩:=hv.ofLst;obtain⟨ys,rr,sq⟩:=S.list ha q0;exact call_tuple_of pins s σ H _ us Q I r ⟨a,ys,rfl,.inl ⟨sq,fun l hl=>p _ ad _ (Ext.laid hl) (S.laid hl) (.tup (.inl upd_same) (rr.mono (Ext.laid hl)))⟩⟩
  ·cases e
 ·cases e
theorem Ja:CallR X (.type "list") (rC X.K (on1 VX)):=by
 intro pins s σ H xs us Q I r h;obtain⟨ad,st,ds,d,st',S,hd,e,p⟩:=h;obtain⟨x,rfl,e1⟩:=XD e;have e:=e1;obtain⟨v,rfl,hv⟩:=Qa hd;unfold VX at e;split at e
 ·cases e
  obtain⟨a,ys,rfl,ha,rr⟩:=hv.ofTup;refine call_list_of pins s σ H _ us Q I r ⟨a,ys,rfl,.inr ((ha).sq),fun l hl=>p _ (ad++[l]) _ (Ext.push hl) (S.push hl rr) (.newL ?_)⟩
  rw[←S.len];exact ZP
 ·split at e
  ·rename_i q0
   cases e;obtain⟨a,rfl,ha⟩:=hv.ofLst;obtain⟨ys,rr,sq⟩:=S.list ha q0;refine call_list_of pins s σ H _ us Q I r ⟨a,ys,rfl,.inl sq,fun l hl=>p _ (ad++[l]) _ (Ext.push hl) (S.push hl rr) (.newL ?_)⟩
   rw[←S.len];exact ZP
  ·cases e
 ·cases e
theorem ZaH(hc:X.calm=true):CallR X (.builtin "min") (rC X.K (on2 Zem)):=by
 intro pins s σ H xs us Q I r h;obtain⟨ad,st,ds,d,st',S,hd,e,p⟩:=h;obtain⟨x,y,rfl,e1⟩:=V1 e;have e:=e1;obtain⟨v,w,rfl,hv,hw⟩:=Zfp hd;unfold Zem at e;split at e
 ·cases e;cases hv;cases hw
  exact call_min2 hc pins s σ H _ us Q I r ⟨_,_,rfl,p.at S (.int _)⟩
 ·cases e
theorem ZaG(hc:X.calm=true):CallR X (.builtin "max") (rC X.K (on2 Zek)):=by
 intro pins s σ H xs us Q I r h;obtain⟨ad,st,ds,d,st',S,hd,e,p⟩:=h;obtain⟨x,y,rfl,e1⟩:=V1 e;have e:=e1;obtain⟨v,w,rfl,hv,hw⟩:=Zfp hd;unfold Zek at e;split at e
 ·cases e;cases hv;cases hw
  exact call_max2 hc pins s σ H _ us Q I r ⟨_,_,rfl,p.at S (.int _)⟩
 ·cases e
noncomputable def tyN:Ty→String
 |.int => "int"
 |.bool => "bool"
 |.str => "str"
 |.tuple => "tuple"
noncomputable def Zcg:D→String
 |.int _ => "int"
 |.bl _ => "bool"
 |.str _ => "str"
 |.tup _ => "tuple"
 |.non => "NoneType"
 |_ => "list"
theorem Zch(K:PySem.W.Frag){T:Ty}{d:D}{k:Bool}(h:Zed T d=some k):PySem.W.kitOne K (.type (Zcg d)) (.type (tyN T))=some k:=by
 cases d<;>first | (cases h;done) | (cases T<;>(cases h;rfl))
theorem ZiI{K:PySem.W.Frag}{ad:List Addr}{H:Hp}{v:V}{d:D}{T:Ty}{k:Bool}(h:Zed T d=some k)(hv:Den K ad H v d):TyOf K H v (.type (Zcg d))∨∃ a xs,v=.ref a∧SqT K H a xs∧Zcg d = "tuple":=by
 cases hv with
 |non=>exact .inl .non
 |bl b=>exact .inl (.bl b)
 |int i=>exact .inl (.int i)
 |str x=>exact .inl (.str x)
 |tup e r=>exact .inr ⟨_,_,rfl,e.sq,rfl⟩
 |lst e=>cases h
 |dic _ _=>cases h
 |dct _ _ _ _ _=>cases h
 |obj _ _=>cases h
 |kt _ _ _ _ _ _=>cases h
theorem Zby{T:Ty}:CallR X (.builtin "isinstance") (fun vs H Q=>∃ v,vs=[v,.ty (tyN T)]∧rC X.K (on1 (Ji T)) [v] H Q):=by
 intro pins s σ H xs us Q I r h;obtain⟨v,rfl,ad,st,ds,d,st',S,hd,e,p⟩:=h;obtain⟨x,rfl,e1⟩:=XD e;have e:=e1;obtain⟨w,hw,hv⟩:=Qa hd;cases hw;unfold Ji at e;split at e
 ·rename_i k q
  cases e;cases r with
  |cons r1 r2=>
   cases r2 with
   |cons r3 r4=>
    cases r4;cases r3;rcases ZiI q hv with ty|⟨a,zs,rfl,sq,kd⟩
    ·exact isinst_ok I r1 ty (Zch X.K q) fun tk=>⟨.bl k,H,I.tok _,rfl,p.at S (.bl k)⟩
    ·have kt:=Zch X.K q
     rw[kd]at kt;cases r1;obtain⟨its,_,pp,_⟩:=I.tuple sq;obtain⟨o,h1,h2,_⟩:=pp;exact PySem.W.kia_one PySem.W.kitx_tuple I.kIn ⟨o,h1,h2⟩ kt (fun z=>nomatch z) fun tk=>⟨.bl k,H,I.tok _,rfl,p.at S (.bl k)⟩
 ·cases e
end
section
variable {X:Cx}
end
end Dp



namespace Dp
open PySem PySem.Spec PyProof.Rows L2
variable [ClsTab]
section
open PySem.SeqAt PySem.MeetsSeq PySem.MeetsSeq2 PySem.MeetsSeq3 PySem.SeqRoads2
open AutoSeq1 (wpAny_loadPart')
def LtAt(A:Around)(s:Shared)(y x:Value)(b:Bool):Prop:=
 ∀ (prog:Program) (w:World) (E:Value→Shared→Prop) (Q:Value→Shared→Prop),Q (.bool b) s→wpAny (model prog w) A (richCompare .Lt y x) Q E s
noncomputable def ltR(e lt:Nat→Bool)(f:Bool):List Nat→Bool
 |[]=>f
 |j :: r=>if e j=true then ltR e lt f r else lt j
theorem JI(l b:Addr)(items items2:Array Value)(n n2:Nat)(dd dd2:Option Addr)(sl sl2:Array (Option Value))(e lt:Nat→Bool) :
  Meets (Builtin.«tuple.__lt__» ⟨[.ref l,.ref b],[]⟩)
   (fun A R s=>s.heap.get? l=some { cls:=.type "tuple",dict:=dd,data:=.seq items n,slots:=sl }∧s.heap.get? b=some { cls:=.type "tuple",dict:=dd2,data:=.seq items2 n2,slots:=sl2 } ∧
    (∀ j (h1:j < items.size) (h2:j < items2.size),EqAt A.in1 s items[j] items2[j] (e j))∧(∀ j (h1:j < items.size) (h2:j < items2.size),(∀ i,i < j→e i=true)→e j=false→LtAt A.in1 s items[j] items2[j] (lt j)) ∧
    R (.ok (.ret (.bool (ltR e lt (decide (items.size < items2.size)) (List.range (min items.size items2.size)))))) s):=
 .of_wp fun prog w A R s h=>by
  obtain⟨hp,g,d,tk,os⟩:=s;obtain⟨hl,hb,he,hq,h⟩:=h;have f2:=AutoSeq1.sub_tuple_tuple;have hZ:(items.toList.zip items2.toList).length=min items.size items2.size:=by simp
  wp_walk using wpAny_loadPart' hl,wpAny_loadPart' hb,wpAny_forIn_list _ (fun rest b s'=>b.1=none∧s'=⟨hp,g,d,tk,os⟩∧∃ i,rest=(items.toList.zip items2.toList).drop i∧(∀ k,k < i→e k=true) ∧
   R (.ok (.ret (.bool (ltR e lt (decide (items.size < items2.size)) ((List.range (min items.size items2.size)).drop i))))) ⟨hp,g,d,tk,os⟩) _
  case turn=>
   rintro⟨y,x⟩ rest b s' ⟨hb',rfl,i,hz,hk,hR⟩
   have hlt:i < (items.toList.zip items2.toList).length:=by
    rcases Nat.lt_or_ge i (items.toList.zip items2.toList).length with h'|h'
    ·exact h'
    ·rw[List.drop_of_length_le h']at hz;cases hz
   have hm:i < min items.size items2.size:=hZ ▸ hlt;have h1:i < items.size:=Nat.lt_of_lt_of_le hm (Nat.min_le_left _ _);have h2:i < items2.size:=Nat.lt_of_lt_of_le hm (Nat.min_le_right _ _);rw[List.drop_eq_getElem_cons hlt]at hz
   injection hz with hyx hrest
   have hy:y=items[i]:=by have:=congrArg Prod.fst hyx;simpa using this
   have hx:x=items2[i]:=by have:=congrArg Prod.snd hyx;simpa using this
   subst hy hx;have hd:(List.range (min items.size items2.size)).drop i=i :: (List.range (min items.size items2.size)).drop (i+1):=by simp[List.drop_eq_getElem_cons,hm]
   rw[hd]at hR;have hR:R (.ok (.ret (.bool (if e i=true then ltR e lt (decide (items.size < items2.size)) ((List.range (min items.size items2.size)).drop (i+1)) else lt i)))) ⟨hp,g,d,tk,os⟩:=hR
   refine wpAny_bind (he i h1 h2 prog w _ _ ?_);cases hy:e i with
   |true=>
    rw[hy]at hR
    wp_walk
    refine⟨rfl,rfl,i+1,hrest,fun k hk'=>?_,by simpa using hR⟩
    rcases Nat.lt_or_ge k i with h|h
    ·exact hk k h
    ·rw[show k=i by omega];exact hy
   |false=>
    rw[hy]at hR;have hz:∀ (E:Value→Shared→Prop) (Q:Value→Shared→Prop),Q (.bool (lt i)) ⟨hp,g,d,tk,os⟩→wpAny (model prog w) A.in1 (richCompare .Lt items[i] items2[i]) Q E ⟨hp,g,d,tk,os⟩:=fun E Q=>hq i h1 h2 hk hy prog w E Q
    generalize richCompare .Lt items[i] items2[i]=rc at hz ⊢
    wp_walk using hz _ _
    exact⟨_,rfl,by simpa using hR⟩
  case fin=>
   rintro⟨b1,b2⟩ s' ⟨hb',rfl,i,hz,_,hR⟩
   simp only at hb';subst hb';have hge:min items.size items2.size≤i:=by
    rcases Nat.lt_or_ge i (items.toList.zip items2.toList).length with h'|h'
    ·rw[List.drop_eq_getElem_cons h']at hz;cases hz
    ·exact hZ ▸ h'
   rw[List.drop_of_length_le (by simpa using hge)]at hR
   wp_walk
   exact⟨_,rfl,by simpa[Builtin.Tuple.tupleCompareSizes,ltR] using hR⟩
  case h=>
   exact⟨rfl,rfl,0,rfl,fun k hk=>absurd hk (by omega),by simpa using h⟩
theorem LtAt.tuples{A:Around}{s:Shared}{l b:Addr}{items items2:Array Value}{e lt:Nat→Bool}(hl:s.heap.IsTuple l items)(hb:s.heap.IsTuple b items2)(hu:A.units < cLine)(he:∀ j (h1:j < items.size) (h2:j < items2.size),EqAt A.in1 s items[j] items2[j] (e j))(hq:∀ j (h1:j < items.size) (h2:j < items2.size),(∀ i,i < j→e i=true)→e j=false→LtAt A.in1 s items[j] items2[j] (lt j)):LtAt A s (.ref l) (.ref b) (ltR e lt (decide (items.size < items2.size)) (List.range (min items.size items2.size))):=fun prog w E Q h=>by
 obtain⟨⟨cls,dd,data,sl⟩,ho,hc,n,hd⟩:=id hl;obtain⟨⟨cls2,dd2,data2,sl2⟩,ho2,hc2,n2,hd2⟩:=id hb;simp only at hc hd hc2 hd2;subst hc hd hc2 hd2;exact richCompare_meets_room (op:=.Lt) ⟨_,ho,rfl⟩ ⟨_,ho2,rfl⟩ F.slot_tuple_lt F.entry_tuple_lt (F.args_tuple_lt_2 _ _) (JI l b items items2 n n2 dd dd2 sl sl2 e lt)
  ⟨ho,ho2,he,hq,show Value.bool (ltR e lt (decide (items.size < items2.size)) (List.range (min items.size items2.size)))≠Value.notImplemented∧Q (.bool (ltR e lt (decide (items.size < items2.size)) (List.range (min items.size items2.size)))) s from⟨(fun x=>nomatch x),h⟩⟩ hu
theorem Za0(l b:Addr)(items items2:Array Value)(n n2:Nat)(dd dd2:Option Addr)(sl sl2:Array (Option Value))(e lt:Nat→Bool)(k:Nat) :
  ∀ i:Nat,min items.size items2.size - i=k→Meets (Builtin.«list.__eq__.loop» ⟨[.ref l,.ref b,rawInt i,rawInt 0],[]⟩)
   (fun A R s=>s.heap.get? l=some { cls:=.type "list",dict:=dd,data:=.seq items n,slots:=sl }∧s.heap.get? b=some { cls:=.type "list",dict:=dd2,data:=.seq items2 n2,slots:=sl2 } ∧
    (∀ j (h1:j < items.size) (h2:j < items2.size),EqAt A.in1 s items[j] items2[j] (e j))∧(∀ j (h1:j < items.size) (h2:j < items2.size),(∀ i,i < j→e i=true)→e j=false→LtAt A.in1 s items[j] items2[j] (lt j))∧(∀ j,j < i→e j=true) ∧
    R (.ok (.ret (.bool (ltR e lt (decide (items.size < items2.size)) ((List.range (min items.size items2.size)).drop i))))) s):=by
 induction k with
 |zero=>
  intro i hk prog w A R s h;obtain⟨hp,g,d,tk,os⟩:=s;obtain⟨hl,hb,he,hq,hi,h⟩:=h
  wp_walk using wpAny_loadPart' hl,wpAny_loadPart' hb
  have hd:(List.range (min items.size items2.size)).drop i=[]:=by simp;omega
  rw[hd]at h;have hz:items[((i:Nat):Int).toNat]?=none∨items2[((i:Nat):Int).toNat]?=none:=by
   by_cases c:items.size≤i
   ·left;simp;omega
   ·right;simp;omega
  rcases hz with hz|hz
  ·rw[hz]
   wp_walk using wpAny_loadPart' hl,wpAny_loadPart' hb
   exact h
  ·rw[hz]
   cases items[((i:Nat):Int).toNat]? with
   |none=>
    wp_walk using wpAny_loadPart' hl,wpAny_loadPart' hb
    exact h
   |some x=>
    wp_walk using wpAny_loadPart' hl,wpAny_loadPart' hb
    exact h
 |succ k ih=>
  intro i hk prog w A R s h;obtain⟨hp,g,d,tk,os⟩:=s;obtain⟨hl,hb,he,hq,hi,h⟩:=h
  wp_walk using wpAny_loadPart' hl,wpAny_loadPart' hb
  have hlt:i < items.size:=by omega
  have hlt2:i < items2.size:=by omega
  have hm:i < min items.size items2.size:=by omega
  have hi1:items[((i:Nat):Int).toNat]?=some items[i]:=by simp[hlt]
  have hi2:items2[((i:Nat):Int).toNat]?=some items2[i]:=by simp[hlt2]
  have hd:(List.range (min items.size items2.size)).drop i=i :: (List.range (min items.size items2.size)).drop (i+1):=by simp[List.drop_eq_getElem_cons,hm]
  have hc:((i:Int)+1)=((i+1:Nat):Int):=by push_cast;rfl
  rw[hd]at h;have h:R (.ok (.ret (.bool (if e i=true then ltR e lt (decide (items.size < items2.size)) ((List.range (min items.size items2.size)).drop (i+1)) else lt i)))) ⟨hp,g,d,tk,os⟩:=h
  rw[hi1,hi2];refine wpAny_bind (he i hlt hlt2 prog w _ _ ?_);cases hb':e i with
  |true=>
   rw[hb']at h
   wp_walk
   rw[hc];exact⟨plainId_quiet plain_eq_loop _,codeAny_builtin entry_eq_loop (by
    rw[Around.under_plainId plain_eq_loop _];refine ih (i+1) (by omega) prog w A R _ ⟨hl,hb,he,hq,fun j hj=>?_,by simpa using h⟩
    rcases Nat.lt_or_ge j i with z|z
    ·exact hi j z
    ·rw[show j=i by omega];exact hb')⟩
  |false=>
   rw[hb']at h;have hz:∀ (E:Value→Shared→Prop) (Q:Value→Shared→Prop),Q (.bool (lt i)) ⟨hp,g,d,tk,os⟩→wpAny (model prog w) A.in1 (richCompare .Lt items[i] items2[i]) Q E ⟨hp,g,d,tk,os⟩:=fun E Q=>hq i hlt hlt2 hi hb' prog w E Q
   wp_walk using wpAny_loadPart' hl,wpAny_loadPart' hb
   rw[hi1,hi2];refine wpAny_bind (hz _ _ ?_)
   wp_walk
   simpa using h
theorem ZaZ(l b:Addr)(items items2:Array Value)(n n2:Nat)(dd dd2:Option Addr)(sl sl2:Array (Option Value))(e lt:Nat→Bool) :
  Meets (Builtin.«list.__lt__» ⟨[.ref l,.ref b],[]⟩)
   (fun A R s=>s.heap.get? l=some { cls:=.type "list",dict:=dd,data:=.seq items n,slots:=sl }∧s.heap.get? b=some { cls:=.type "list",dict:=dd2,data:=.seq items2 n2,slots:=sl2 } ∧
    (∀ j (h1:j < items.size) (h2:j < items2.size),EqAt A.in1 s items[j] items2[j] (e j))∧(∀ j (h1:j < items.size) (h2:j < items2.size),(∀ i,i < j→e i=true)→e j=false→LtAt A.in1 s items[j] items2[j] (lt j)) ∧
    R (.ok (.ret (.bool (ltR e lt (decide (items.size < items2.size)) (List.range (min items.size items2.size)))))) s):=by
 intro prog w A R s h;obtain⟨hp,g,d,tk,os⟩:=s;obtain⟨hl,hb,he,hq,h⟩:=h;have f3:=AutoSeq1.sub_list_list
 wp_walk using wpAny_loadPart' hl,wpAny_loadPart' hb
 exact⟨plainId_quiet plain_eq_loop _,codeAny_builtin entry_eq_loop (by
  rw[Around.under_plainId plain_eq_loop _];exact Za0 l b items items2 n n2 dd dd2 sl sl2 e lt _ 0 rfl prog w A R _ ⟨hl,hb,he,hq,fun j hj=>absurd hj (by omega),by simpa using h⟩)⟩
theorem LtAt.lists{A:Around}{s:Shared}{l b:Addr}{items items2:Array Value}{e lt:Nat→Bool}(hl:s.heap.IsList l items)(hb:s.heap.IsList b items2)(hu:A.units < cLine)(he:∀ j (h1:j < items.size) (h2:j < items2.size),EqAt A.in1 s items[j] items2[j] (e j))(hq:∀ j (h1:j < items.size) (h2:j < items2.size),(∀ i,i < j→e i=true)→e j=false→LtAt A.in1 s items[j] items2[j] (lt j)):LtAt A s (.ref l) (.ref b) (ltR e lt (decide (items.size < items2.size)) (List.range (min items.size items2.size))):=fun prog w E Q h=>by
 obtain⟨⟨cls,dd,data,sl⟩,ho,hc,n,hd⟩:=id hl;obtain⟨⟨cls2,dd2,data2,sl2⟩,ho2,hc2,n2,hd2⟩:=id hb;simp only at hc hd hc2 hd2;subst hc hd hc2 hd2;exact richCompare_meets_room (op:=.Lt) ⟨_,ho,rfl⟩ ⟨_,ho2,rfl⟩ F.slot_list_lt F.entry_list_lt (F.args_list_lt_2 _ _) (ZaZ l b items items2 n n2 dd dd2 sl sl2 e lt)
  ⟨ho,ho2,he,hq,show Value.bool (ltR e lt (decide (items.size < items2.size)) (List.range (min items.size items2.size)))≠Value.notImplemented∧Q (.bool (ltR e lt (decide (items.size < items2.size)) (List.range (min items.size items2.size)))) s from⟨(fun x=>nomatch x),h⟩⟩ hu
end
section
variable {X:Cx}
theorem Zcb{ad:List Addr}{H:Hp}{k:Int}:∀ {xs:List V}{ds:List D}{b:Bool},Dens X.K ad H xs ds→Y5 k ds=some b→xs.all flatV=true∧inV (.int k) xs=b
 |_,_,_,.nil,e=>by cases e;exact⟨rfl,rfl⟩
 |_,_,b,.cons (d:=d) h r,e=>by
  cases d with
  |int i=>
   cases h;unfold Y5 at e;cases q:Y5 k _ with
   |none=>rw[q]at e;cases e
   |some b'=>
    rw[q]at e;cases e;obtain⟨h1,h2⟩:=Zcb r q;refine⟨by rw[List.all_cons,h1];rfl,?_⟩
    show((i==k)||inV (.int k) _)=(decide (i=k)||b');rw[h2];rfl
  |_=>simp[Y5]at e
theorem Jg{ad:List Addr}{H:Hp}{k:Str}:∀ {xs:List V}{ds:List D}{b:Bool},Dens X.K ad H xs ds→Y6 k ds=some b→xs.all flatV=true∧inV (.str k) xs=b
 |_,_,_,.nil,e=>by cases e;exact⟨rfl,rfl⟩
 |_,_,b,.cons (d:=d) h r,e=>by
  cases d with
  |str i=>
   cases h;unfold Y6 at e;cases q:Y6 k _ with
   |none=>rw[q]at e;cases e
   |some b'=>
    rw[q]at e;cases e;obtain⟨h1,h2⟩:=Jg r q;refine⟨by rw[List.all_cons,h1];rfl,?_⟩
    show((i==k)||inV (.str k) _)=(decide (i=k)||b');rw[h2]
    congr 1
  |_=>simp[Y6]at e
def CW(X:Cx)(pins:List (Addr×Obj))(σ:L2.St)(Q:VK)(s:Shared)(op:CmpOp)(v u:Value):Prop:=wpAny (model X.prog X.w) X.A (compareOp op v u) (EP X pins σ Q) X.xe s
def CW2(X:Cx)(pins:List (Addr×Obj))(σ:L2.St)(Q:VK)(s:Shared)(H:Hp)(op op':CmpOp)(v u:Value)(k:Bool):Prop:=(Q (.bl k) H→CW X pins σ Q s op v u)∧(Q (.bl (!k)) H→CW X pins σ Q s op' v u)
noncomputable def vSc:Sc→V
 |.non=>.non
 |.bl b=>.bl b
 |.int i=>.int i
 |.str x=>.str x
theorem Den.vSc{K:PySem.W.Frag}{ad:List Addr}{H:Hp}{x:V}{d:D}{a:Sc}(h:Den K ad H x d)(e:scD d=some a):x=vSc a:=by
 cases h<;>cases e<;>rfl
theorem ZdR{a b:Sc}{k:Bool}(h:ZbK a b=some k):scal (vSc a) (vSc b)=true∧decide (vSc a=vSc b)=k:=by
 cases a<;>cases b<;>first
  | (cases h;done)
  | (cases h;exact⟨rfl,rfl⟩)
  | (cases h;exact⟨rfl,dec_bl⟩)
  | (cases h;exact⟨rfl,by simp[vSc]⟩)
inductive EqD(x y:V):D→D→Bool→Prop
 |sc {dx dy:D}{k:Bool} (h3:scal x y=true) (h4:decide (x=y)=k):EqD x y dx dy k
 |tup {xs ys:List D} (h:(okD 8 (.tup xs)&&okD 8 (.tup ys))=true):EqD x y (.tup xs) (.tup ys) (ZS xs ys)
theorem ZdP{K:PySem.W.Frag}{ad:List Addr}{H:Hp}{x y:V}{dx dy:D}{k:Bool}(hx:Den K ad H x dx)(hy:Den K ad H y dy)(e:eqD dx dy=some k):EqD x y dx dy k:=by
 unfold eqD at e;split at e
 ·unfold eqT at e
  split at e
  ·split at e
   ·rename_i hok
    cases e;exact .tup hok
   ·cases e
  ·cases e
 ·refine j_e e fun e=>Ye (P:=fun o=>o=some k→EqD x y dx dy k) e (fun a b h1 h2 h=>?_) rfl
  obtain⟨h3,h4⟩:=ZdR h;rw[←hx.vSc h1,←hy.vSc h2]at h3 h4;exact .sc h3 h4
theorem ZhV(hu:X.A.units+64 < cLine){pins:List (Addr×Obj)}{s:Shared}{σ:L2.St}{H:Hp}{x y:V}{v u:Value}{Q:VK}{ad:List Addr}{st:Za}{dx dy:D}{k:Bool}(I:Inv X pins σ H s)(rx:RelV x v)(ry:RelV y u)(S:StOk X.K ad H st)(hx:Den X.K ad H x dx)(hy:Den X.K ad H y dy)(e:eqD dx dy=some k):CW2 X pins σ Q s H .Eq .NotEq v u k:=by
 cases ZdP hx hy e with
 |sc h3 h4=>
  subst h4;exact⟨fun q=>op_eq pins s σ H x y v u Q I rx ry ⟨h3,q⟩,fun q=>op_ne pins s σ H x y v u Q I rx ry ⟨h3,q⟩⟩
 |tup hok=>
  rw[Bool.and_eq_true]at hok;obtain⟨a,xs,rfl,ha,r1⟩:=hx.ofTup;obtain⟨b,ys,rfl,hb,r2⟩:=hy.ofTup;cases rx;cases ry
  obtain⟨g1,g2⟩:=ZeH (ad:=ad) (A:=X.A) I (n:=7) hok.1 hok.2 (by omega) ha r1 hb r2
  exact⟨fun q=>g1 X.prog X.w X.xe _ ⟨.bl _,H,I,rfl,q⟩,fun q=>g2 X.prog X.w X.xe _ ⟨.bl _,H,I,rfl,q⟩⟩
open PySem.SeqAt in
theorem ZeG{X:Cx}{H:Hp}{ad:List Addr}{pins:List (Addr×Obj)}{σ:L2.St}{s:Shared}(I:Inv X pins σ H s){n:Nat}{A:Around}{a b:Addr}{xs ys:List V}{ds es:List D}{its its':List Value}(hx:YM n ds=true)(hy:YM n es=true)(hu:A.units+n+1 < cLine)(r:Dens X.K ad H xs ds)(r':Dens X.K ad H ys es)(rv:Vals xs its)(rv':Vals ys its')(p:s.heap.IsList a its.toArray)(p':s.heap.IsList b its'.toArray):RcAt A s (.ref a) (.ref b) (ZS ds es)∧RcNeAt A s (.ref a) (.ref b) (!ZS ds es):=by
 have e1:its.toArray.size=ds.length:=by rw[List.size_toArray,←rv.length,r.length]
 have e2:its'.toArray.size=es.length:=by rw[List.size_toArray,←rv'.length,r'.length]
 by_cases hl:ds.length=es.length
 ·have it:=fun j h1 h2=>Jj (a:=a) (b:=b) I hx hy hu r r' rv rv' j h1 h2
  have q:=RcAt.lists (A:=A) (s:=s) (e:=fun i=>ZK ((ds[i]?).getD .non) ((es[i]?).getD .non)) p p' (by omega) (by omega) it
  have q':=RcNeAt.lists (A:=A) (s:=s) (e:=fun i=>ZK ((ds[i]?).getD .non) ((es[i]?).getD .non)) p p' (by omega) (by omega) it
  rw[e1]at q q';rw[YT,show min ds.length es.length=ds.length by omega,show(ds.length==es.length)=true by simpa using hl,Bool.and_true]
  exact⟨q,q'⟩
 ·have q:=RcAt.lists_lengths (A:=A) (s:=s) p p' (by rw[e1,e2];simpa using hl) (by omega)
  have q':=RcNeAt.lists_lengths (A:=A) (s:=s) p p' (by rw[e1,e2];simpa using hl) (by omega)
  rw[YT,show(ds.length==es.length)=false by simpa using hl,Bool.and_false]
  exact⟨q,q'⟩
open PySem.SeqAt in
theorem Zjj(hu:X.A.units+64 < cLine){pins:List (Addr×Obj)}{s:Shared}{σ:L2.St}{H:Hp}{x y:V}{v u:Value}{Q:VK}{ad:List Addr}{st:Za}{ds es:List D}{k:Bool}(I:Inv X pins σ H s)(rx:RelV x v)(ry:RelV y u)(S:StOk X.K ad H st)(hx:Den X.K ad H x (.tup ds))(hy:Den X.K ad H y (.tup es))(e:Zac st ds es=some k):CW2 X pins σ Q s H .Eq .NotEq v u k:=by cases e
theorem ZhW(hu:X.A.units+64 < cLine){pins:List (Addr×Obj)}{s:Shared}{σ:L2.St}{H:Hp}{x y:V}{v u:Value}{Q:VK}{ad:List Addr}{st:Za}{dx dy:D}{k:Bool}(I:Inv X pins σ H s)(rx:RelV x v)(ry:RelV y u)(S:StOk X.K ad H st)(hx:Den X.K ad H x dx)(hy:Den X.K ad H y dy)(e:eqS st dx dy=some k):CW2 X pins σ Q s H .Eq .NotEq v u k:=by
 have sc:scal x y=true→(decide (x=y))=k→CW2 X pins σ Q s H .Eq .NotEq v u k:=fun h1 h2=>by
  subst h2;exact⟨fun q=>op_eq pins s σ H x y v u Q I rx ry ⟨h1,q⟩,fun q=>op_ne pins s σ H x y v u Q I rx ry ⟨h1,q⟩⟩
 unfold eqS at e;split at e
 ·unfold ZhT at e
  split at e
  case h_2=>cases e
  obtain⟨a,rfl,ha⟩:=hx.ofLst;obtain⟨b,rfl,hb⟩:=hy.ofLst;cases rx;cases ry
  have two:∀ {ba bb:Bool}{xs ys:List D},st[_]?=some (ba,xs)→st[_]?=some (bb,ys)→(xs=[]∨ys=[])→(xs.isEmpty&&ys.isEmpty)=k→CW2 X pins σ Q s H .Eq .NotEq (.ref a) (.ref b) k:=fun {ba bb xs ys} q1 q2 hz hk=>by
   obtain⟨vs,r1,s1⟩:=S.list ha q1;obtain⟨ws,r2,s2⟩:=S.list hb q2;obtain⟨its,rv,p1,_⟩:=I.list s1;obtain⟨its',rv',p2,_⟩:=I.list s2;have l1:its.toArray.size=xs.length:=by rw[List.size_toArray,←rv.length,r1.length]
   have l2:its'.toArray.size=ys.length:=by rw[List.size_toArray,←rv'.length,r2.length]
   by_cases hl:xs.length=ys.length
   ·have z1:xs=[]:=by
     rcases hz with z|z
     ·exact z
     ·rw[z]at hl;exact List.length_eq_zero_iff.mp hl
    have z2:ys=[]:=by rw[z1]at hl;exact List.length_eq_zero_iff.mp hl.symm
    subst z1 z2;cases hk;have f:its=[]:=List.length_eq_zero_iff.mp (by simpa using l1)
    have f':its'=[]:=List.length_eq_zero_iff.mp (by simpa using l2)
    subst f f';refine⟨fun q=>SeqAt.RcAt.lists (e:=fun _=>true) p1.isList p2.isList rfl (by omega) (fun j h1 _=>absurd h1 (by simp)) X.prog X.w X.xe _ ⟨.bl true,H,I,rfl,q⟩,fun q=>SeqAt.RcNeAt.lists (e:=fun _=>true) p1.isList p2.isList rfl (by omega) (fun j h1 _=>absurd h1 (by simp)) X.prog X.w X.xe _ ⟨.bl false,H,I,rfl,q⟩⟩
   ·have hk':k=false:=by
     rw[←hk];rcases hz with z|z
     ·subst z
      cases ys with
      |nil=>exact absurd rfl hl
      |cons _ _=>rfl
     ·subst z
      cases xs with
      |nil=>exact absurd rfl hl
      |cons _ _=>rfl
    subst hk';have hne:(its.toArray.size != its'.toArray.size)=true:=by rw[l1,l2];simpa using hl
    exact⟨fun q=>SeqAt.RcAt.lists_lengths p1.isList p2.isList hne (by omega) X.prog X.w X.xe _ ⟨.bl false,H,I,rfl,q⟩,fun q=>SeqAt.RcNeAt.lists_lengths p1.isList p2.isList hne (by omega) X.prog X.w X.xe _ ⟨.bl true,H,I,rfl,q⟩⟩
  refine j_e e fun e=>Ye (P:=fun o=>o=some k→CW2 X pins σ Q s H .Eq .NotEq (.ref a) (.ref b) k) e (fun c d q1 q2 e=>?_) rfl
  obtain⟨c1,c2⟩:=c;obtain⟨d1,d2⟩:=d;unfold ZaQ at e;split at e
  ·rename_i hz
   cases e;rw[Bool.or_eq_true]at hz;exact two q1 q2 (hz.imp List.isEmpty_iff.mp List.isEmpty_iff.mp) rfl
  ·split at e
   ·rename_i hok
    cases e;rw[Bool.and_eq_true]at hok;obtain⟨vs,r1,s1⟩:=S.list ha q1;obtain⟨ws,r2,s2⟩:=S.list hb q2;obtain⟨its,rv,p1,_⟩:=I.list s1;obtain⟨its',rv',p2,_⟩:=I.list s2;obtain⟨g1,g2⟩:=ZeG (ad:=ad) (A:=X.A) I hok.1 hok.2 (by omega) r1 r2 rv rv' p1.isList p2.isList
    exact⟨fun q=>g1 X.prog X.w X.xe _ ⟨.bl _,H,I,rfl,q⟩,fun q=>g2 X.prog X.w X.xe _ ⟨.bl _,H,I,rfl,q⟩⟩
   ·cases e
 ·unfold ZhU at e
  split at e
  ·split at e
   ·rename_i k' q
    cases e;exact ZhV hu I rx ry S hx hy (show eqD (.tup _) (.tup _)=some _ from q)
   ·exact Zjj hu I rx ry S hx hy e
  ·cases e
 ·exact ZhV hu I rx ry S hx hy e
open Classical in
noncomputable def Zkn(K:PySem.W.Frag)(ad:List Addr)(H:Hp)(d:D)(u:Value):Bool:=decide (∃ y e,RelV y u∧Den K ad H y e∧okD 8 e=true∧ZK e d=true)
section
variable {pins:List (Addr×Obj)}{s:Shared}{σ:L2.St}{H:Hp}{x y:V}{v u:Value}{Q:VK}{ad:List Addr}{st:Za}{dx dy:D}{k:Bool}
theorem Uw{a:Addr}{xs:List V}(I:Inv X pins σ H s)(rx:RelV x v)(ry:RelV y u)(ey:y=.ref a)(sq:SqL X.K H a xs∨SqT X.K H a xs)(fx:flatV x=true)(h:xs.all flatV=true∧inV x xs=k):CW2 X pins σ Q s H .In .NotIn v u k:=by
 obtain⟨h1,h2⟩:=h;subst h2;exact⟨fun pk=>op_in_seq pins s σ H _ _ v u Q I rx ry ⟨a,xs,ey,sq,fx,h1,pk⟩,fun pk=>op_notIn_seq pins s σ H _ _ v u Q I rx ry ⟨a,xs,ey,sq,fx,h1,pk⟩⟩
def InW(X:Cx)(pins:List (Addr×Obj))(σ:L2.St)(Q:VK)(s:Shared)(H:Hp)(v u:Value)(dy:D)(k:Bool):Prop:=(Q (.bl k) H→CW X pins σ Q s .In v u)∧((∀ ks vs,dy≠.dct ks vs)→Q (.bl (!k)) H→CW X pins σ Q s .NotIn v u)
theorem CW2.inW(h:CW2 X pins σ Q s H .In .NotIn v u k):InW X pins σ Q s H v u dy k:=⟨h.1,fun _=>h.2⟩
theorem Zh2(hu:X.A.units+64 < cLine)(I:Inv X pins σ H s)(rx:RelV x v)(ry:RelV y u)(S:StOk X.K ad H st)(hx:Den X.K ad H x dx)(hy:Den X.K ad H y dy)(q:inS st dx dy=some k):InW X pins σ Q s H v u dy k:=by
 unfold inS at q;split at q
 ·split at q
  ·rename_i q0
   obtain⟨a,e,ha⟩:=hy.ofLst;obtain⟨xs,r,sq⟩:=S.list ha q0;cases hx;exact(Uw I rx ry e (.inl sq) rfl (Zcb r q)).inW
  ·cases q
 ·split at q
  ·rename_i q0
   obtain⟨a,e,ha⟩:=hy.ofLst;obtain⟨xs,r,sq⟩:=S.list ha q0;cases hx;exact(Uw I rx ry e (.inl sq) rfl (Jg r q)).inW
  ·cases q
 ·obtain⟨a,xs,e,ha,r⟩:=hy.ofTup
  cases hx;exact(Uw I rx ry e (.inr ha.sq) rfl (Zcb r q)).inW
 ·obtain⟨a,xs,e,ha,r⟩:=hy.ofTup
  cases hx;exact(Uw I rx ry e (.inr ha.sq) rfl (Jg r q)).inW
 ·obtain⟨a,vs,rfl,ha,hl,r⟩:=hy.ofDct
  cases hx;cases q;refine⟨fun pk=>op_in_dct pins s σ H _ _ v u Q I rx ry ⟨a,_,Sum.inr _,rfl,rfl,ha,?_⟩,fun z=>absurd rfl (z _ _)⟩
  rcases Vc r hl with⟨w,d0,e1,e2,e3⟩|⟨e1,e2⟩
  ·rw[e1];rw[e2]at pk;exact pk
  ·rw[e1];rw[e2]at pk;exact pk
 ·cases hx;cases hy;cases q
  exact⟨fun pk=>op_in_str pins s σ H _ _ v u Q I rx ry ⟨_,_,rfl,rfl,pk⟩,fun _ pk=>op_notIn_str pins s σ H _ _ v u Q I rx ry ⟨_,_,rfl,rfl,pk⟩⟩
 ·cases q
theorem Zec(hx:Den X.K ad H x dx)(q:isN dx=some k):decide (x=V.non)=k:=by
 cases hx<;>cases q<;>rfl
theorem Zh4(I:Inv X pins σ H s)(rx:RelV x v)(ry:RelV y u)(hx:Den X.K ad H x dx)(hy:Den X.K ad H y dy)(q:isD dx dy=some k):CW2 X pins σ Q s H .Is .IsNot v u k:=by
 unfold isD at q;split at q
 ·cases hy
  have z:=Zec hx q;subst z;exact⟨fun pk=>op_isN pins s σ H _ _ v u Q I rx ry ⟨rfl,pk⟩,fun pk=>op_notN pins s σ H _ _ v u Q I rx ry ⟨rfl,pk⟩⟩
 ·unfold isB at q
  split at q
  ·cases q
   cases hx;cases hy
   cases rx;cases ry
   have e:∀ a b:Bool,(Value.bool a==Value.bool b)=(a==b):=fun a b=>by cases a<;>cases b<;>rfl
   exact⟨fun pk=>wpAny_is_plain rfl (by rw[e];exact⟨.bl _,H,I,rfl,pk⟩),fun pk=>wpAny_isNot_plain rfl (by rw[e];exact⟨.bl _,H,I,rfl,pk⟩)⟩
  ·cases q
 ·cases q
theorem WM{f:Int→Int→Bool}(hx:Den X.K ad H x dx)(hy:Den X.K ad H y dy)(q:Js f dx dy=some k):∃ i j,x=.int i∧y=.int j∧f i j=k:=by
 unfold Js at q;split at q
 ·cases q;cases hx;cases hy;exact⟨_,_,rfl,rfl,rfl⟩
 ·cases q
theorem ZjD(hu:X.A.units+64 < cLine)(I:Inv X pins σ H s)(rx:RelV x v)(ry:RelV y u)(S:StOk X.K ad H st)(hx:Den X.K ad H x dx)(hy:Den X.K ad H y dy)(q:ltS st dx dy=some k)(pk:Q (.bl k) H):CW X pins σ Q s .Lt v u:=by
   have q:ltD dx dy=some k:=q;obtain⟨i,j,rfl,rfl,z⟩:=WM hx hy q;exact op_lt pins s σ H _ _ v u Q I rx ry ⟨_,_,rfl,rfl,by cases z;exact pk⟩
theorem UB{o:Option Bool}(q:o.map not=some k):o=some (!k):=by
 cases o with
 |none=>cases q
 |some k'=>cases q;rw[Bool.not_not]
theorem Zcr{op op':CmpOp}(h:CW2 X pins σ Q s H op op' v u (!k))(pk:Q (.bl k) H):CW X pins σ Q s op' v u:=h.2 (by rw[Bool.not_not];exact pk)
end
theorem Zab(hu:X.A.units+64 < cLine){op:CmpOp}:OpR X (compareOp op) (rD X.K (Jc op)):=by
 intro pins s σ H x y v u Q I rx ry h;obtain⟨ad,st,dx,dy,d,st',S,hx,hy,e,p⟩:=h
 change CW X pins σ Q s op v u;unfold Jc at e;cases q:Zf1 op dx dy st with
 |none=>rw[q]at e;cases e
 |some k=>
  rw[q]at e;cases e;have pk:=p.at S (.bl k);clear p;cases op with
  |Lt=>exact ZjD hu I rx ry S hx hy q pk
  |LtE=>
   obtain⟨i,j,rfl,rfl,z⟩:=WM hx hy q;exact op_le pins s σ H _ _ v u Q I rx ry ⟨_,_,rfl,rfl,by cases z;exact pk⟩
  |Gt=>
   obtain⟨i,j,rfl,rfl,z⟩:=WM hx hy q;exact op_gt pins s σ H _ _ v u Q I rx ry ⟨_,_,rfl,rfl,by cases z;exact pk⟩
  |GtE=>
   obtain⟨i,j,rfl,rfl,z⟩:=WM hx hy q;exact op_ge pins s σ H _ _ v u Q I rx ry ⟨_,_,rfl,rfl,by cases z;exact pk⟩
  |Eq=>exact(ZhW hu I rx ry S hx hy q).1 pk
  |NotEq=>exact Zcr (ZhW hu I rx ry S hx hy (UB q)) pk
  |In=>exact(Zh2 hu I rx ry S hx hy q).1 pk
  |NotIn=>
   have q:niS st dx dy=some k:=q;unfold niS at q;split at q
   ·cases q
   ·rename_i hn
    exact(Zh2 hu I rx ry S hx hy (UB q)).2 hn (by rw[Bool.not_not];exact pk)
  |Is=>exact(Zh4 I rx ry hx hy q).1 pk
  |IsNot=>exact Zcr (Zh4 I rx ry hx hy (UB q)) pk
end
end Dp



namespace Dp
open PySem PySem.Spec PyProof.Rows L2
variable [ClsTab]
noncomputable def Zm:Expr→Bool
 |.Starred ..=>false
 |.Set ..=>false
 |.Slice ..=>false
 |_=>true
theorem Zf{G:Gs}{n:Nat}{sc:Scope}{N:List Str}{e:Expr}{c:CE}(h:cE G n sc N e=some c):Zm e=true:=by
 cases n with
 |zero=>exact nomatch (show(none:Option CE)=some c from h)
 |succ n=>cases e<;>first|rfl|exact nomatch (show(none:Option CE)=some c from h)
theorem Ze{e:Expr}{es:List Expr}{env:PySem.Env}(h:Zm e=true):starEach (e :: es) env=(false,eval e env) :: starEach es env:=by
 cases e<;>first|rfl|cases h
theorem WA{op:CmpOp}{b:Expr}(h:Zm b=true):behindInMarks op b=false:=by
 cases b<;>first|rfl|cases h
theorem Qo{b:Expr}(h:Zm b=true):PlainIx b:=by
 cases b<;>first | (intro o i;rfl)|cases h
theorem YR{pos:Pos}{env:PySem.Env}:∀ {es:List Expr},es.all Zm=true→(backTo pos (starEach es env)).any (·.1)=false
 |[],_=>rfl
 |e :: es,h=>by
  rw[List.all_cons,Bool.and_eq_true]at h;rw[Ze h.1];show(false||(backTo pos (starEach es env)).any (·.1))=false;rw[YR h.2];rfl
inductive EsOk(Pm:Params)(K:PySem.W.Frag):List DictEntry→List Str→List D→Prop where
 |nil:EsOk Pm K [] [] []
 |cons {e:DictEntry}{es:List DictEntry}{k:Str}{ks:List Str}{d:D}{ds:List D}{v:V}{t:Tok} (h1:e.hash=PyData.keyHash Pm k) (h2:e.key=.str k t) (h3:RelV v e.val) (h4:∀ ad H,Den K ad H v d) (r:EsOk Pm K es ks ds):EsOk Pm K (e :: es) (k :: ks) (d :: ds)
def JK(Pm:Params)(K:PySem.W.Frag)(mg:Str→Option Value)(x:Str)(ks:List Str)(ds:List D):Prop:=
 ∃ A o es ep,mg x=some (.ref A)∧K.lookup A=some o∧o.ExactDict∧o.data=.dict es ep∧(A==sysModules)=false∧ks.Nodup∧EsOk Pm K es.toList ks ds
theorem EsOk.open{w:World}{P:Program}{K:PySem.W.Frag}:∀ {es:List DictEntry}{ks:List Str}{ds:List D},EsOk w.params K es ks ds→∃ kvs:List (Key×Value),Pairs (mixKind P w) es kvs∧kvs.map (·.1)=ks.map Sum.inr∧(∀ e∈es,∃ k,(mixKind P w).is k e.key=true∧e.hash=(mixKind P w).hash k) ∧
  ∀ k d,ZC ks ds k=some d→∃ u v,valueAt kvs (Sum.inr k)=some u∧RelV v u∧∀ ad H,Den K ad H v d
 |_,_,_,.nil=>⟨[],.nil,rfl,(fun _ h=>nomatch h),fun k d h=>by simp[ZC]at h⟩
 |e :: es,k0 :: ks,d0 :: ds,.cons (v:=v) (t:=t) h1 h2 h3 h4 r=>by
  obtain⟨kvs,a1,a2,a3,a4⟩:=EsOk.open (P:=P) r;have hk:(mixKind P w).is (Sum.inr k0) e.key=true:=by rw[h2];exact mixKind_str P w k0 t
  refine⟨(Sum.inr k0,e.val) :: kvs,.cons hk rfl a1,by rw[List.map_cons,List.map_cons,a2],fun x hx=>?_,fun k d h=>?_⟩
  ·rcases List.mem_cons.mp hx with rfl|hx
   ·exact⟨Sum.inr k0,hk,h1⟩
   ·exact a3 x hx
  ·unfold valueAt
   by_cases c:k0=k
   ·subst c
    have h:ZC (k0 :: ks) (d0 :: ds) k0=some d:=h;simp only[ZC,if_pos]at h;cases h;exact⟨e.val,v,by simp,h3,h4⟩
   ·have h:ZC ks ds k=some d:=by
     simp only[ZC,if_neg c]at h;exact h
    obtain⟨u,v',b1,b2,b3⟩:=a4 k d h;refine⟨u,v',?_,b2,b3⟩;have nk:¬(Sum.inr k0:Key)=Sum.inr k:=fun z=>c (Sum.inr.inj z)
    rw[List.find?_cons_of_neg (by simpa using nk)]
    exact b1
structure SubOk(K:PySem.W.Frag)(C B:Addr):Prop where
 cl:Cls K C
 ha:PySem.W.findIn K (.ref C) "__class__"=some (some (.builtin "object.__class__"))
 hn:PySem.W.specialIn K (.builtin "object.__class__") "__get__"=some (some (.builtin "getset_descriptor.__get__"))
 ht:PySem.W.takesIn K (.builtin "object.__class__")=some true
 hm:PySem.W.mroIn K C (.type "object")=some true
 kit:PySem.W.kitOne K (.ref C) (.ref B)=some true
structure NewOk(K:PySem.W.Frag)(C:Addr):Prop where
 makes:PySem.W.makesIn K C=true
 init:PySem.W.findIn K (.ref C) "__init__"=some (some (.builtin "object.__init__"))
 kp:PySem.W.keepIn K (.ref C)=true
 cl:Cls K C
def GOk(P:Program)(w:World)(K:PySem.W.Frag)(mg:Str→Option Value)(base:Heap)(A:Around)(F:Nat→Fn)(x:Str):GV→Prop
 |.cst d=>∃ v u,mg x=some u∧RelV v u∧∀ ad H,Den K ad H v d
 |.blt=>mg x=none
 |.dct ks ds=>JK w.params K mg x ks ds
 |.cls i ms subs=>mg x=some (.ref (ClsTab.ca i))∧NewOk K (ClsTab.ca i)∧(∀ i',subs.contains i'=true→SubOk K (ClsTab.ca i') (ClsTab.ca i)) ∧
   ∀ m j ps,ms.lookup m=some (j,ps)→∃ (k:Nat) (f:Addr) (fd:FuncData) (pn:List Str),FnOk P w K mg base CX0 k f fd pn (spD K (F j))∧Room k A∧Meth K (ClsTab.ca i) m f∧Binds K fd pn []
 |.fn i ps ds=>∃ (k:Nat) (f:Addr) (fd:FuncData) (pn:List Str),FnOk P w K mg base CX0 k f fd pn (spD K (F i))∧Room k A∧mg x=some (.ref f)∧PySem.W.keepIn K (.ref f)=true ∧
   ∀ m,m≤ds.length→∃ dvs us,(∀ ad H,Dens K ad H dvs (ds.drop m))∧Vals dvs us∧Binds K fd pn us
structure Cxt(X:Cx)(G:Gs)(F:Nat→Fn)(sc:Scope)(N:List Str):Prop where
 hN:X.N=N
 vis:∀ x,X5 sc x=true→Vis X.env.scope x
 glb:∀ x,ZB sc x=true→Gl X x
 calm:X.calm=true
 hu:X.A.units+64 < cLine
 gl:∀ x g,G.lookup x=some g→GOk X.prog X.w X.K X.mg X.base X.A F x g
 cel:∀ x,W9 sc x=true→X.env.scope.names.lookup x=some .cell∨X.env.scope.names.lookup x=some .free
 nx:X.xe=fun _ _=>False
theorem XW{N:List Str}{x:Str}{i:Nat}(h:N.idxOf? x=some i):N[i]?=some x:=by
 unfold List.idxOf? at h
 rw[List.findIdx?_eq_some_iff_getElem]at h;obtain⟨hi,h1,_⟩:=h;rw[List.getElem?_eq_getElem hi];rw[beq_iff_eq.mp h1]
theorem Uz{sc:Scope}{x:Str}(h:X5 sc x=true):(x==("__debug__":Str))=false∧(x==("__classdict__":Str))=false:=by
 unfold X5 at h;rw[Bool.and_eq_true,Bool.and_eq_true,Bool.not_eq_true',Bool.not_eq_true']at h;exact h.1
theorem Xn{sc:Scope}{x:Str}(h:ZB sc x=true):(x==("__debug__":Str))=false:=by
 unfold ZB at h;rw[Bool.and_eq_true,Bool.not_eq_true']at h;exact h.1
section
variable {X:Cx}{F:Nat→Fn}
theorem Zir{e:Expr}{f:Ev}(h:PE X e (tE X.K f))(he:∀ whole,isTrue e X.env whole=(do let v ←whole;standAt e.pos;holding [v] (truthy v)):=by intro _;rfl):PT X e (tT X.K f):=Vp (pt_val h he) Zca
theorem ZgI{c a b:Expr}{fc fa fb:Ev}{pos:Pos}(hc:PT X c (tT X.K fc))(ha:PT X a (tT X.K fa))(hb:PT X b (tT X.K fb)):PT X (.IfExp c a b pos) (tT X.K (YK fc fa fb)):=by
 intro pins s σ H Q I h;obtain⟨ad,ρ,st,d,st',E,S,e,p⟩:=h;obtain⟨k,st1,q,e⟩:=Yh e;show wpAny _ _ (isTrue c X.env (eval c X.env) >>= fun t=>if t then isTrue a X.env (eval a X.env) else isTrue b X.env (eval b X.env)) _ _ s
 refine wpAny_bind (thn (hc pins s σ H (fun k' H1=>k'=k∧∃ ad1,Ext ad H ad1 H1∧StOk X.K ad1 H1 st1) I ⟨ad,ρ,st,k,st1,E,S,q,fun ad1 H1 x1 S1=>⟨rfl,ad1,x1,S1⟩⟩) fun t s1 ⟨H1,I1,et,ad1,x1,S1⟩=>?_)
 subst et;cases t with
 |true=>
  rw[if_pos rfl]at e ⊢;exact ha pins s1 σ H1 Q I1 ⟨ad1,ρ,st1,d,st',E.mono x1,S1,e,fun ad2 H2 x2 S2=>p ad2 H2 (x1.trans x2) S2⟩
 |false=>
  rw[if_neg Bool.false_ne_true]at e ⊢;exact hb pins s1 σ H1 Q I1 ⟨ad1,ρ,st1,d,st',E.mono x1,S1,e,fun ad2 H2 x2 S2=>p ad2 H2 (x1.trans x2) S2⟩
def Zas:CE→Prop
 |.anil=>True
 |.acons _ _=>True
 |_=>False
theorem Ui{c:CE}(h:Zas c){ρ:Env}{st st':Za}{d:D}(e:ev F c ρ st=some (d,st')):∃ ds,d=.tup ds∧ds.length≤1000:=by
 cases c with
 |anil=>cases e;exact⟨[],rfl,by decide⟩
 |acons a r=>
  have e:ZQ (ev F a) (ev F r) Xb ρ st=some (d,st'):=e;unfold ZQ at e;split at e
  ·split at e
   ·rename_i y st2 _
    cases y with
    |tup zs=>
     have e:(if zs.length < 1000 then some (D.tup (_ :: zs),st2) else none)=some (d,st'):=e
     split at e
     ·rename_i hz
      cases e;exact⟨_,rfl,hz⟩
     ·cases e
    |_=>simp[Xb]at e
   ·cases e
  ·cases e
 |_=>exact False.elim h
structure SE(X:Cx)(F:Nat→Fn)(e:Expr)(c:CE):Prop where
 pe:PE X e (tE X.K (ev F c))
 pt:PT X e (tT X.K (ev F c))
theorem SE.of{e:Expr}{c:CE}(h:PE X e (tE X.K (ev F c)))(he:∀ whole,isTrue e X.env whole=(do let v ←whole;standAt e.pos;holding [v] (truthy v)):=by intro _;rfl):SE X F e c:=⟨h,Zir h he⟩
theorem QE{op:BoolOp}{es:List Expr}{pos:Pos}{t:TT}(h:PT X (.BoolOp op es pos) t):PW X (.BoolOp op es pos) t:=fun _ pins s σ H Q I q=>h pins s σ H Q I q
end
section
variable {ad:List Addr}{H:Hp}{p:Addr}{o:HO}
variable (ho:∀ kvs,o≠.dT kvs)
include ho
end
section
variable {X:Cx}{F:Nat→Fn}{pos:Pos}{f:Expr→Option CE}
end
end Dp



namespace Dp
open PySem PySem.Spec PyProof.Rows L2
variable [ClsTab]
theorem U4:bootBuiltins "tuple"=some (.type "tuple"):=by decide +kernel
theorem ZdE:bootBuiltins "list"=some (.type "list"):=by decide +kernel
theorem ZfT:bootBuiltins "int"=some (.type "int"):=by decide +kernel
theorem ZdC:bootBuiltins "bool"=some (.type "bool"):=by decide +kernel
theorem ZfX:bootBuiltins "str"=some (.type "str"):=by decide +kernel
theorem ZfW:bootBuiltins "min"=some (.builtin "min"):=by decide +kernel
theorem ZfV:bootBuiltins "max"=some (.builtin "max"):=by decide +kernel
theorem Vx:bootBuiltins "isinstance"=some (.builtin "isinstance"):=by decide +kernel
theorem ZfU:bootBuiltins "len"=some (.builtin "len"):=by decide +kernel
section
variable {G:Gs}{F:Nat→Fn}
def Zx(G:Gs)(F:Nat→Fn)(n:Nat):Prop:=∀ X sc N,Cxt X G F sc N→∀ e c,cE G n sc N e=some c→SE X F e c
def YJ(G:Gs)(F:Nat→Fn)(n:Nat):Prop:=∀ X sc N,Cxt X G F sc N→∀ es c,cEs G n sc N es=some c→PA X es (tA X.K (ev F c))∧Zas c∧es.all Zm=true∧(es=[]→c=.anil)
def Uh(G:Gs)(F:Nat→Fn)(n:Nat):Prop:=∀ X sc N,Cxt X G F sc N→∀ e c,cO G n sc N e=some c→PO X e (tO X.K (ev F c))

theorem Zc9{X:Cx}{v:Const}{k:Nat}{pos:Pos}{c:CE}(h:CE.ofConst v=some c):SE X F (.Constant v k pos) c:=by
 cases v with
 |none=>cases h;exact .of (Zy pe_non (Qj fun _ _=>.non))
 |bool b=>cases h;exact .of (Zy pe_bl (Qj fun _ _=>.bl b))
 |int i=>cases h;exact .of (Zy pe_int (Qj fun _ _=>.int i))
 |str x=>cases h;exact .of (Zy pe_str (Qj fun _ _=>.str x))
 |_=>cases h
theorem ZeS{X:Cx}{sc:Scope}{N:List Str}{x:Str}{pos:Pos}{c:CE}(K:Cxt X G F sc N)(h:Zcp G sc N x=some c):SE X F (.Name x pos) c:=by
 unfold Zcp at h;split at h
 ·rename_i hl
  cases q:N.idxOf? x with
  |none=>rw[q]at h;cases h
  |some i=>
   rw[q]at h;cases h;obtain⟨h1,h2⟩:=Uz hl;exact .of (Zy (pe_var (i:=i) (by rw[K.hN];exact XW q) (K.vis x hl) h1 h2) Zea)
 ·split at h
  ·rename_i hg
   split at h
   ·rename_i d q
    cases h;obtain⟨v,u,hm,r,hd⟩:=K.gl x _ q;exact .of (Zy (pe_glob (K.glb x hg) hm r (Xn hg)) (Qj hd))
   ·cases h
  ·cases h
theorem pa1{X:Cx}{a:Expr}{t:TE}(hp:Zm a=true)(ha:PE X a t):PA X [a] (tCons t tNil):=pa_cons ha pa_nil (Ze hp)
theorem pa2{X:Cx}{a b:Expr}{t u:TE}(hp:Zm a=true)(hq:Zm b=true)(ha:PE X a t)(hb:PE X b u):PA X [a,b] (tCons t (tCons u tNil)):=pa_cons ha (pa1 hq hb) (Ze hp)
theorem ZeL{X:Cx}{sc:Scope}{N:List Str}{f:Str}{a:Expr}{x c:CE}{p pos:Pos}(K:Cxt X G F sc N)(hg:ZB sc f=true)(hm:X.mg f=none)(hp:Zm a=true)(A:PE X a (tE X.K (ev F x)))(h:ZfR f x=some c) :
  PE X (.Call (.Name f p) [a] [] pos) (tE X.K (ev F c)):=by 
 have hG:=K.glb f hg;unfold ZfR at h;split at h
 ·rename_i e;subst e;cases h
  exact Zy (pe_callB ZaF hG hm ZfU (pa1 hp A) (by decide) (by decide) (Ze hp) rfl) W8
 ·split at h
  ·rename_i e;subst e;cases h
   exact Zy (pe_callTy U6 hG hm U4 (pa1 hp A) (by decide) (by decide) (Ze hp) rfl) W8
  ·split at h
   ·rename_i e;subst e;cases h
    exact Zy (pe_callTy Ja hG hm ZdE (pa1 hp A) (by decide) (by decide) (Ze hp) rfl) W8
   ·cases h
theorem ZfQ{X:Cx}{b:Expr}{pos:Pos}(hq:Zm b=true):(backTo pos (starEach [b] X.env)).any (·.1)=false:=YR (by rw[List.all_cons,hq];rfl)
theorem ZeM{X:Cx}{sc:Scope}{N:List Str}{f:Str}{a b:Expr}{x y c:CE}{p pos:Pos}(K:Cxt X G F sc N)(hg:ZB sc f=true)(hm:X.mg f=none)(hp:Zm a=true)(hq:Zm b=true)(A:PE X a (tE X.K (ev F x)))(B:PE X b (tE X.K (ev F y)))(h:ZfS f x y=some c):PE X (.Call (.Name f p) [a,b] [] pos) (tE X.K (ev F c)):=by
 have hG:=K.glb f hg;unfold ZfS at h;split at h
 ·rename_i e;subst e;cases h
  exact Zy (pe_callB (ZaH K.calm) hG hm ZfW (pa2 hp hq A B) (by decide) (by decide) (Ze hp) (ZfQ hq)) Qi
 ·split at h
  ·rename_i e;subst e;cases h
   exact Zy (pe_callB (ZaG K.calm) hG hm ZfV (pa2 hp hq A B) (by decide) (by decide) (Ze hp) (ZfQ hq)) Qi
  ·cases h
theorem Zd0{K:PySem.W.Frag}{T:Ty}{fa:Ev}(σ:L2.St)(H:Hp)(Q:VK)(h:tE K (ZL fa (Ji T)) σ H Q) :
  tCB (fun vs H Q=>∃ v,vs=[v,.ty (tyN T)]∧rC K (on1 (Ji T)) [v] H Q) (tCons (tE K fa) (tCons (tC (.ty (tyN T))) tNil)) σ H Q:=by
 obtain⟨ad,ρ,st,d,st',E,S,e,p⟩:=h;unfold ZL at e;split at e
 ·rename_i x st1 q1
  exact⟨ad,ρ,st,x,st1,E,S,q1,fun v1 ad1 H1 x1 S1 d1=>⟨v1,rfl,ad1,st1,[x],d,st',S1,.cons d1 .nil,e,p.later x1⟩⟩
 ·cases e
theorem Zdl{X:Cx}{sc:Scope}{N:List Str}{b:Expr}{T:Ty}(K:Cxt X G F sc N)(h:Zap G sc b=some T):Zm b=true∧PE X b (tC (.ty (tyN T))):=by
 cases b with
 |Name t p=>
  have h2:Zho G sc t=some T:=h;clear h;unfold Zho at h2;split at h2
  ·rename_i hg
   rw[Bool.and_eq_true]at hg;have hm:X.mg t=none:=by
    have z:=hg.2;unfold J2 at z;split at z
    ·rename_i q;exact K.gl t _ q
    ·cases z
   have hG:=K.glb t hg.1;refine⟨rfl,?_⟩;unfold ZiH at h2;split at h2
   ·rename_i e;subst e;cases h2
    exact pe_bltn hG hm ZfT rfl
   ·split at h2
    ·rename_i e;subst e;cases h2
     exact pe_bltn hG hm ZdC rfl
    ·split at h2
     ·rename_i e;subst e;cases h2
      exact pe_bltn hG hm ZfX rfl
     ·split at h2
      ·rename_i e;subst e;cases h2
       exact pe_bltn hG hm U4 rfl
      ·cases h2
  ·cases h2
 |_=>simp[Zap]at h
theorem Zg3{X:Cx}{sc:Scope}{N:List Str}{a b:Expr}{x:CE}{T:Ty}{p pos:Pos}(K:Cxt X G F sc N)(hg:ZB sc "isinstance"=true)(hm:X.mg "isinstance"=none)(hp:Zm a=true)(A:PE X a (tE X.K (ev F x)))(hT:Zap G sc b=some T) :
  PE X (.Call (.Name "isinstance" p) [a,b] [] pos) (tE X.K (ev F (.isi T x))):=by
 obtain⟨hq,B⟩:=Zdl K hT;exact Zy (pe_callB (Zby (T:=T)) (K.glb _ hg) hm Vx (pa2 hp hq A B) (by decide) (by decide) (Ze hp) (ZfQ hq)) Zd0
theorem ZeO{X:Cx}{sc:Scope}{N:List Str}{f:Str}{as:List Expr}{cs:CE}{i ps:Nat}{ds:List D}{p pos:Pos}(K:Cxt X G F sc N)(hg:ZB sc f=true)(hG:G.lookup f=some (.fn i ps ds))(hl:as.length≤ps∧ps≤as.length+ds.length)(A:PA X as (tA X.K (ev F cs))∧Zas cs∧as.all Zm=true∧(as=[]→cs=.anil)):PE X (.Call (.Name f p) as [] pos) (tE X.K (ev F (.call i cs (ds.drop (as.length+ds.length - ps))))):=by
 obtain⟨k,fa,fd,pn,Fk,hr,hm,hk,hb⟩:=K.gl f _ hG;obtain⟨dvs,us,hd,hv,hbn⟩:=hb (as.length+ds.length - ps) (by omega)
 obtain⟨PAs,_,hp,hn⟩:=A;cases as with
 |nil=>
  refine Zy (pe_call0 (E:=E0) Fk hr (K.glb f hg) hm hk hbn hv pass0 (Xn hg)) fun σ H Q h=>?_
  rw[hn rfl]at h;exact Qh σ H _ (Qk (E:=E0) hd σ H Q h)
 |cons e es=>
  rw[List.all_cons,Bool.and_eq_true]at hp;exact Zy (pe_call (E:=E0) Fk hr (K.glb f hg) hm hk hbn hv pass0 PAs (Xn hg) (Ze hp.1) (YR hp.2)) (Qk hd)
theorem Uq{X:Cx}{sc:Scope}{N:List Str}{nm:Str}{b:Expr}{as:List Expr}(K:Cxt X G F sc N)(h:fnA G sc nm b=some as):∃ p pos,b=.Call (.Name nm p) as [] pos∧Gl X nm∧X.mg nm=none:=by
 obtain⟨q,h1,h2⟩:=Option.bind_eq_some_iff.mp h;refine Ws h2 fun hc h3=>?_
 obtain⟨rfl,hg,hb⟩:=hc;cases h3;unfold Zfn at h1;split at h1
 ·cases h1
  refine⟨_,_,rfl,K.glb _ hg,?_⟩;unfold J2 at hb;split at hb
  ·rename_i q;exact K.gl _ _ q
  ·cases hb
 ·cases h1
theorem J9{as:List Expr}{a:Expr}(h:ZgB as=some a):as=[a]:=by
 cases as with
 |nil=>cases h
 |cons x as=>cases as with
  |nil=>cases h;rfl
  |cons _ _=>cases h
theorem VF{X:Cx}{sc:Scope}{N:List Str}{b e:Expr}(K:Cxt X G F sc N)(h:ZU G sc b=some e):∃ p pos,b=.Call (.Name "range" p) [e] [] pos∧Gl X "range"∧X.mg "range"=none:=by
 obtain⟨as,h1,h2⟩:=Option.bind_eq_some_iff.mp h;rw[J9 h2]at h1;exact Uq K h1
theorem Zg1{X:Cx}{sc:Scope}{N:List Str}{a b e:Expr}{x y:CE}{op:CmpOp}{ng:Bool}{pos:Pos}(K:Cxt X G F sc N)(hb:ZU G sc b=some e)(hg:Zgi op=some ng)(hp:Zm e=true)(A:PE X a (tE X.K (ev F x)))(B:PE X e (tE X.K (ev F y))):SE X F (.Compare a [op] [b] pos) (.inR ng x y):=by cases hg
theorem Zg7{X:Cx}{sc:Scope}{N:List Str}{f:Str}{a e:Expr}{o:Option CE}{c:CE}{p pos:Pos}(K:Cxt X G F sc N)(hg:ZB sc f=true)(hm:X.mg f=none)(hb:JH G sc f a=some e)(B:∀ c,o=some c→Zm e=true∧PE X e (tE X.K (ev F c)))(h:o.map CE.tupR=some c):SE X F (.Call (.Name f p) [a] [] pos) c:=by cases hb
noncomputable def rLk(K:PySem.W.Frag)(A:Addr)(ks:List Str)(ds:List D):R2:=fun x y H Q=>x=.ref A∧∃ k d,y=.str k∧ZC ks ds k=some d∧∀ v,(∀ ad H,Den K ad H v d)→Q v H
theorem Zh5{X:Cx}{A:Addr}{o:Obj}{es:Array DictEntry}{ep:Nat}{ks:List Str}{ds:List D}(lk:X.K.lookup A=some o)(ex:o.ExactDict)(hd:o.data=.dict es ep)(hm:(A==sysModules)=false)(nd:ks.Nodup)(eo:EsOk X.w.params X.K es.toList ks ds):IxR X (rLk X.K A ks ds):=by
 intro value slice pins s σ H x y v u Q I rx ry h hs;obtain⟨rfl,k,d,rfl,he,q⟩:=h;cases rx;obtain⟨kvs,pr,kn,kk,val⟩:=eo.open (P:=X.prog);have dd:s.heap.DictOf (mixKind X.prog X.w) A kvs:=by
  refine⟨o,es,ep,I.kIn A o lk,ex,hd,fun e he=>kk e (by simpa using he),pr,?_⟩
  rw[kn];exact List.pairwise_map.mpr (nd.imp fun h z=>h (Sum.inr.inj z))
 obtain⟨w,z,hw,rw',dn⟩:=val k d he;exact tail_any dd.typeIs PySem.F.slot_dict_getitem.lookup (wpAny_getItem_of (kV_is (k:=Sum.inr k) ry) dd.mapOf hw ⟨z,H,I.tok _,rw',q z dn⟩) hs
theorem Zb5{K:PySem.W.Frag}{A:Addr}{ks:List Str}{ds:List D}{fa:Ev}(σ:L2.St)(H:Hp)(Q:VK)(h:tE K (ZL fa (VY ks ds)) σ H Q):tOp (rLk K A ks ds) (tC (.ref A)) (tE K fa) σ H Q:=by
 obtain⟨ad,ρ,st,d,st',E,S,e,p⟩:=h;unfold ZL at e;split at e
 ·rename_i x st1 q1
  unfold VY at e;split at e
  ·rename_i k
   split at e
   ·rename_i d' hl
    cases e;exact⟨ad,ρ,st,.str k,_,E,S,q1,fun v ad1 H1 x1 S1 d1=>⟨rfl,k,d,d1.ofStr,hl,fun w dn=>p w ad1 H1 x1 S1 (dn ad1 H1)⟩⟩
   ·cases e
  ·cases e
 ·cases e
theorem ZeQ{X:Cx}{sc:Scope}{N:List Str}{f:Str}{a u v:Expr}{x y:CE}{p pos:Pos}(K:Cxt X G F sc N)(hg:ZB sc f=true)(hm:X.mg f=none)(hb:Jo G sc f a=some (u,v))(hu:Zm u=true)(hv:Zm v=true)(A:PE X u (tE X.K (ev F x)))(B:PE X v (tE X.K (ev F y))):PE X (.Call (.Name f p) [a] [] pos) (tE X.K (ev F (.lstR x y))):=by cases hb
theorem ZeP{X:Cx}{sc:Scope}{N:List Str}{a b:Expr}{y:CE}{ks:List Str}{ds:List D}{pos:Pos}(K:Cxt X G F sc N)(hn:J4 G sc a=some (ks,ds))(hp:Zm b=true)(B:PE X b (tE X.K (ev F y))):PE X (.Subscript a b pos) (tE X.K (ev F (.look ks ds y))):=by
 unfold J4 at hn;split at hn
 ·split at hn
  ·rename_i hg
   split at hn
   ·rename_i q
    cases hn;obtain⟨A,o,es,ep,hm,lk,ex,hd,hs,nd,eo⟩:=K.gl _ _ q;exact Zy (pe_ix (Zh5 lk ex hd hs nd eo) (pe_glob (K.glb _ hg) hm (show RelV (.ref A) (.ref A) from rfl) (Xn hg)) B (Qo hp)) Zb5
   ·cases hn
  ·cases hn
 ·cases hn
theorem Zcm{prog:Program}{w:World}{A:Around}{K:PySem.W.Frag}{C:Addr}{s:Shared}{R:Result→Shared→Prop}(X:K.In s.heap)(hm:PySem.W.makesIn K C=true)(hi:PySem.W.findIn K (.ref C) "__init__"=some (some (.builtin "object.__init__")))(h:R (.ok (.ret (.ref (s.heap.objs.size+1)))) { s with heap:=(s.heap.push PySem.W.emptyDict).push (PySem.W.instObj C s.heap.objs.size) }):codeAny (model prog w) A (.call (.ref C) ⟨[],[]⟩) R s:=by
 obtain⟨hh,g,d,t,os⟩:=s;have Y:=PySem.W.makes_of (M:=model prog w) X hm;have hx:((hh.push PySem.W.emptyDict).push (PySem.W.instObj C hh.objs.size)).get? (hh.objs.size+1)=some (PySem.W.instObj C hh.objs.size):=by
  have:=Heap.get?_push_size (hh.push PySem.W.emptyDict) (o:=PySem.W.instObj C hh.objs.size) rfl
  rwa [Heap.size_push]at this
 refine PySem.W.make_core Y (PySem.W.looks_findIn X hi) (fun self=>PySem.W.Looks.of_pure (PySem.W.oi_bind self)) (.inr ⟨rfl,rfl⟩) ?_
 have t1:PySem.W.Looks (model prog w) ((hh.push PySem.W.emptyDict).push (PySem.W.instObj C hh.objs.size)) (typeOf (.ref (hh.objs.size+1))) (.ref C):=(PySem.W.Looks.ld hx).andThen .now;have t2:PySem.W.Looks (model prog w) ((hh.push PySem.W.emptyDict).push (PySem.W.instObj C hh.objs.size)) (isInstance (.ref (hh.objs.size+1)) (.type "object")) true:=t1.andThen (Y.top.keeps fun b o e=>Heap.get?_push_of_some _ (Heap.get?_push_of_some _ e))
 refine codeAny_call_builtin PySem.W.oi_plain PySem.W.entry_oi (@PySem.W.check_slot (model prog w) _ _ _ "object.__init__" "object" "__init__" (.ref (hh.objs.size+1)) [] [] _ PySem.W.oi_kind PySem.W.oi_split t2 (PySem.W.oi_args (.ref (hh.objs.size+1))) ?_);rw[PySem.W.oi_run];exact wpAny_pure (And.intro rfl h)
theorem ZbQ{X:Cx}{pins:List (Addr×Obj)}{σ:L2.St}{H:Hp}{s:Shared}{ad:List Addr}{st:Za}(I:L2.Inv X pins σ H s)(S:StOk X.K ad H st){a:Addr}(h:s.heap.objs.size≤a):a∉ad:=fun hm=>by
 obtain⟨i,hi⟩:=List.getElem?_of_mem hm;rcases S.has hi with⟨o,q⟩|⟨o,q⟩
 ·rw[I.hok.fresh h]at q;cases q
 ·exact absurd (Heap.lt_size (I.kIn a o q)) (Nat.not_lt.mpr h)
theorem Zg4{X:Cx}{sc:Scope}{N:List Str}{f:Str}{i:Nat}{ms:List (Str×Nat×Nat)}{subs:List Nat}{p pos:Pos}(K:Cxt X G F sc N)(hg:ZB sc f=true)(hG:G.lookup f=some (.cls i ms subs)):PE X (.Call (.Name f p) [] [] pos) (tE X.K (ev F (.new i))):=by
 obtain⟨hm,nw,_,_⟩:=K.gl f _ hG;intro pins s σ H Q I h;obtain⟨ad,ρ,st,d,st',E,S,e,q⟩:=h;have e:some (D.obj i,st)=some (d,st'):=e;cases e;refine wpAny_Call_Name_kw (ld_glob I (K.glb f hg) hm ?_ (Xn hg));refine PySem.W.callWith_K0 I.kIn nw.kp (wpAny_call (Zcm I.kIn nw.makes nw.init ?_));have h1:H s.heap.objs.size=none:=I.hok.fresh (Nat.le_refl _);have h2:upd H s.heap.objs.size (.own (s.heap.objs.size+1)) (s.heap.objs.size+1)=none:=by
  rw[upd_ne (Nat.ne_of_gt (Nat.lt_succ_self _))];exact I.hok.fresh (Nat.le_succ _)
 exact⟨.ref (s.heap.objs.size+1),_,I.made,rfl,q _ ad _ ((Ext.laid h1).trans (Ext.laid h2)) ((S.laid h1).laid h2) (.obj upd_same (ZbQ I S (Nat.le_succ _)))⟩
theorem Zg2{X:Cx}{sc:Scope}{N:List Str}{a b:Expr}{x:CE}{l:List Nat}{p pos:Pos}(K:Cxt X G F sc N)(hg:ZB sc "isinstance"=true)(hm:X.mg "isinstance"=none)(hp:Zm a=true)(A:PE X a (tE X.K (ev F x)))(hT:Jb G sc b=some l) :
  PE X (.Call (.Name "isinstance" p) [a,b] [] pos) (tE X.K (ev F (.isc l x))):=by cases hT
theorem Zh8{α:Type}:∀ {us:List α},us.length=1→∃ a,us=[a]
 |[a],_=>⟨a,rfl⟩
theorem VS{pos:Pos}{env:PySem.Env}{as:List Expr}(h:as.all Zm=true)(hl:as.length < 20):((backTo pos (starEach as env)).all (fun x=>!x.1)&&(backToKw pos (keywordEach [] env)).all (fun x=>x.1.isSome)
  &&decide (as.length+([]:List Keyword).length+(if ([]:List Keyword).isEmpty then 0 else 1) < 30))=true:=by
 have a:=YR (pos:=pos) (env:=env) h;have b:(backTo pos (starEach as env)).all (fun x=>!x.1)=true:=by
  rw[List.all_eq_true];intro x hx;have:=List.any_eq_false.mp a x hx;simpa using this
 rw[b,decide_eq_true (show as.length+([]:List Keyword).length+(if ([]:List Keyword).isEmpty then 0 else 1) < 30 by simp;omega)]
 rfl
theorem Zel{X:Cx}{o:Expr}{name:Str}{apos pos:Pos}{args:List Expr}{Q:Value→Shared→Prop}{s:Shared}(hbase:attributeBase o name X.env (eval o X.env)=eval o X.env)(hfew:((backTo pos (starEach args X.env)).all (fun x=>!x.1)&&(backToKw pos (keywordEach [] X.env)).all (fun x=>x.1.isSome)&&decide (args.length+([]:List Keyword).length+(if ([]:List Keyword).isEmpty then 0 else 1) < 30))=true)(hline:(apos.endLine==pos.line)=true)(h:wpAny (model X.prog X.w) X.A (eval o X.env) (fun ov s₁=>∀ pl,wpAny (model X.prog X.w) X.A (getMethod ov name pl) (fun fx s₂=>wpAny (model X.prog X.w) X.A (callWith pos fx.1 fx.2 (backTo pos (starEach args X.env)) (backToKw pos (keywordEach [] X.env))) Q X.xe s₂) X.xe s₁) X.xe s) :
  wpAny (model X.prog X.w) X.A (eval (.Call (.Attribute o name apos) args [] pos) X.env) Q X.xe s:=by
 rw[arm_eval_Call,hbase];refine wpAny_bind (wpAny_mono h (fun ov s₁ h₁=>?_) fun _ _ e=>e)
 refine wpAny_bind (wpAny_standAt ?_);have hform:methodCallForm (args.length+([]:List Keyword).length) (backTo pos (starEach args X.env)) (backToKw pos (keywordEach [] X.env))=true:=hfew;have hpos:methodCallPos true o X.env apos pos=pure pos:=by unfold methodCallPos;simp[hline]
 unfold methodCall;rw[hform];refine wpAny_bind (wpAny_holding ?_);exact wpAny_mono (h₁ _) (fun fx s₂ h₂=>wpAny_bind (wpAny_of_eq hpos h₂)) fun _ _ e=>e
theorem Zhl{m:Str}{k i j:Nat}(h:(XC m k G).lookup i=some j):∃ x ms subs,G.lookup x=some (.cls i ms subs)∧ms.lookup m=some (j,k+1):=by
 have hm:(i,j)∈XC m k G:=by
  generalize XC m k G=l at h
  induction l with
  |nil=>cases h
  |cons p l ih=>
   obtain⟨a,b⟩:=p;rw[List.lookup_cons]at h;split at h
   ·rename_i z
    cases h;rw[beq_iff_eq.mp z];exact List.mem_cons_self
   ·exact List.mem_cons_of_mem _ (ih h)
 obtain⟨x,_,hx⟩:=List.mem_filterMap.mp hm;unfold Zfv at hx;split at hx
 ·rename_i i' ms subs q
  split at hx
  ·rename_i j' ps q2
   split at hx
   ·rename_i e
    subst e;cases hx;exact⟨x,ms,subs,q,q2⟩
   ·cases hx
  ·cases hx
 ·cases hx
section
open PySem.SeqAt PySem.MeetsSeq PySem.MeetsSeq2 PySem.MeetsSeq3 PySem.SeqRoads2
theorem Qg{prog:Program}{w:World}{A:Around}{E:Value→Shared→Prop}{s:Shared}{items:Array Value}{x:Value}{e:Value→Bool}{j:Nat}(hj:j < items.size)(hit:e items[j]=true)(hno:∀ m (hm:m < items.size),m < j→e items[m]=false)(he:∀ y,y∈items→EqAt A s y x (e y)):∀ (k i:Nat) (Q:Option Fin×Unit→Shared→Prop),i≤j→i+k=items.size→Q (some (.done (.ret (.int j s.toks))),()) { s with toks:=s.toks+1 }→
  wpAny (model prog w) A (forIn (List.range' i k) ((none,()):Option Fin×Unit) fun(i:Nat) __s=>
      match items[i]? with
      |some y=>do
       let __do_lift ←eqBool y x
       if __do_lift=true then do
         let __do_lift ←retInt (i:Int)
         pure (ForInStep.done (some __do_lift,()))
        else pure (ForInStep.yield (none,()))
      |x=>pure (ForInStep.yield (none,()))) Q E s
 |0,i,Q,h1,h2,_=>by omega
 |k+1,i,Q,h1,h2,hQ=>by
  have hlt:i < items.size:=by omega
  rw[List.range'_succ,List.forIn_cons];refine wpAny_bind ?_;rw[Array.getElem?_eq_getElem hlt];refine wpAny_bind (he _ (Array.getElem_mem hlt) prog w _ _ ?_);by_cases hij:i=j
  ·subst hij
   rw[hit]
   wp_walk
   exact hQ
  ·rw[hno i hlt (by omega)]
   wp_walk
   exact Qg hj hit hno he k (i+1) Q (by omega) (by omega) hQ
theorem VH(l:Addr)(items:Array Value)(n:Nat)(o:Obj)(x:Value)(e:Value→Bool)(j:Nat)(hj:j < items.size)(hit:e items[j]=true)(hno:∀ m (hm:m < items.size),m < j→e items[m]=false)(hd:o.data=.seq items n) :
  Meets (Builtin.«tuple.index» ⟨[.ref l,x],[]⟩)
   (fun A R s=>s.heap.get? l=some o∧(∀ y,y∈items→EqAt A.in1 s y x (e y))∧R (.ok (.ret (.int j s.toks))) { s with toks:=s.toks+1 }):=by
 refine .of_wp fun prog w A R s h=>?_
 obtain⟨hp,g,d,tk,os⟩:=s;obtain⟨hl,he,h⟩:=h;obtain⟨oc,od,dt,osl⟩:=o;cases hd;unfold Builtin.«tuple.index»
 simp only[Std.Legacy.Range.forIn_eq_forIn_range',Std.Legacy.Range.size,Nat.sub_zero,Nat.add_sub_cancel,Nat.div_one]
 wp_walk using wpAny_loadPart' hl
 refine Qg hj hit hno he (min items.size items.size - 0) 0 _ (Nat.zero_le _) (by simp) ?_
 exact wpAny_pure ⟨_,rfl,h⟩
end
theorem ZbT{k:Str}{tk:Tok}{i:Nat}:∀ {ks:List Str}{us:List Value},Vals (ks.map V.str) us→Ur k ks=some i→∃ h:i < us.length,(fun y:Value=>match y with
   |.str a _=>a==k
   |_=>false) us[i]=true∧∀ m (hm:m < us.length),m < i→(fun y:Value=>match y with
   |.str a _=>a==k
   |_=>false) us[m]=false:=by
 intro ks
 induction ks generalizing i with
 |nil=>intro us _ h;cases h
 |cons a ks ih=>
  intro us r h;cases r with
  |@cons v u vs us' r1 r2=>
   obtain⟨t,rfl⟩:=r1;have h:(if a=k then some 0 else (Ur k ks).map (·+1))=some i:=h
   split at h
   ·rename_i e
    cases h;refine⟨by simp,by simpa using e,fun m _ hm=>absurd hm (Nat.not_lt_zero m)⟩
   ·rename_i e
    cases q:Ur k ks with
    |none=>rw[q]at h;cases h
    |some i'=>
     rw[q]at h;cases h;obtain⟨h1,h2,h3⟩:=ih r2 q;refine⟨by simpa using h1,by simpa using h2,fun m hm hl=>?_⟩
     cases m with
     |zero=>simpa using e
     |succ m=>
      have hl:m+1 < i'+1:=hl;simpa using h3 m (by simpa using hm) (by omega)
theorem Zbo{ks:List Str}{us:List Value}(r:Vals (ks.map V.str) us):∀ y∈us,∃ a t,y=.str a t:=by
 induction ks generalizing us with
 |nil=>cases r;intro y hy;exact nomatch hy
 |cons a ks ih=>
  cases r with
  |@cons v u vs us' r1 r2=>
   intro y hy;rcases List.mem_cons.mp hy with rfl|hy
   ·obtain⟨t,rfl⟩:=r1;exact⟨a,t,rfl⟩
   ·exact ih r2 y hy
theorem Zg6{X:Cx}{sc:Scope}{N:List Str}{y:Str}{yp ap cp:Pos}{as:List Expr}{x cs:CE}(K:Cxt X G F sc N)(hline:(ap.endLine==cp.line)=true)(hlen:as.length=1)(B:PE X (.Name y yp) (tE X.K (ev F x)))(A:PA X as (tA X.K (ev F cs))∧Zas cs∧as.all Zm=true∧(as=[]→cs=.anil)):PE X (.Call (.Attribute (.Name y yp) "index" ap) as [] cp) (tE X.K (ev F (.tix x cs))):=by
 obtain⟨PAs,_,hp,_⟩:=A;obtain⟨e0,rfl⟩:=Zh8 hlen;intro pins s σ H Q I h;obtain⟨ad,ρ,st,d,st',E,S,e,p⟩:=h;replace e:ZQ (ev F x) (ev F cs) Zfb ρ st=some (d,st'):=e;unfold ZQ at e;split at e
 ·rename_i dx st1 q1
  split at e
  ·rename_i dy st2 q2
   unfold Zfb at e;split at e
   ·rename_i ks k
    split at e
    ·rename_i i hi
     cases e;rw[List.all_cons,Bool.and_eq_true]at hp;refine wpAny_Call_method_late rfl (VS (by rw[List.all_cons,hp.1];rfl) (by simp)) hline rfl (thn (B pins s σ H (fun v H1=>∃ ad1,Ext ad H ad1 H1∧StOk X.K ad1 H1 st1∧Den X.K ad1 H1 v (.kt ks)) I ⟨ad,ρ,st,.kt ks,st1,E,S,q1,fun v ad1 H1 x1 S1 d1=>⟨ad1,x1,S1,d1⟩⟩) fun u s1 ⟨v,H1,I1,rv,ad1,x1,S1,d1⟩=>?_)
     obtain⟨a,o,its,n,rfl,h1,h2,h3,h4,h5⟩:=d1.ofKt;cases (show u=Value.ref a from rv)
     have ga:s1.heap.get? a=some o:=I1.kIn a o h1;refine⟨"tuple", "tuple.index",PySem.F.plainAttrs_tuple,PySem.F.slot_tuple_index,PySem.F.type_tuple_index,⟨o,ga,h2.1⟩,fun b eb=>by cases eb;exact⟨o,ga,h2.2⟩,?_⟩
     have hA:=PAs cp pins s1 σ H1 (fun vs H2=>∃ ad2,Ext ad1 H1 ad2 H2∧StOk X.K ad2 H2 st'∧Dens X.K ad2 H2 vs [.str k]) I1 ⟨ad1,ρ,st1,[.str k],st',E.mono x1,S1,q2,fun vs ad2 H2 x2 S2 d2=>⟨ad2,x2,S2,d2⟩⟩
     rw[Ze hp.1]at hA ⊢;refine Calls.callWith_builtin rfl (Calls.evalArgs_plain (thn hA fun us s2 ⟨vs,H2,I2,r2,ad2,x2,S2,d2⟩=>?_))
     obtain⟨w,rfl,dw⟩:=Qa d2;cases dw;obtain⟨u1,rfl,tu,rfl⟩:=r2.one;have ga2:s2.heap.get? a=some o:=I2.kIn a o h1;obtain⟨hj,hit,hno⟩:=ZbT (k:=k) (tk:=tu) h5 hi;have sz:its.toList.length=its.size:=Array.length_toList;refine call_meets PySem.F.slot_tuple_index ⟨o,ga2,h2.1⟩ PySem.F.entry_tuple_index (PySem.F.args_tuple_index_2 _ _) (VH a its n o (.str k tu) (fun y:Value=>match y with
      |.str a _=>a==k
      |_=>false) i (by rw[←sz];exact hj) (by simpa using hit) (fun m hm hl=>by
      have z:=hno m (by rw[sz];exact hm) hl
      simp only[Array.getElem_toList]at z;exact z) h3) ⟨ga2,fun y hy=>?_,?_⟩
     ·obtain⟨b,t,rfl⟩:=Zbo h5 y (by simpa using hy)
      exact PySem.SeqAt.EqAt.str_str b t k tu
     ·exact⟨.int (i:Int),H2,I2.tok _,⟨_,rfl⟩,p.later (x1.trans x2) _ ad2 H2 (Ext.refl _ _) S2 (.int _)⟩
    ·cases e
   ·cases e
  ·cases e
 ·cases e
theorem ZeR{X:Cx}{sc:Scope}{N:List Str}{y m:Str}{yp ap cp:Pos}{as:List Expr}{x cs:CE}(K:Cxt X G F sc N)(hline:(ap.endLine==cp.line)=true)(hlen:as.length < 20)(B:PE X (.Name y yp) (tE X.K (ev F x)))(A:PA X as (tA X.K (ev F cs))∧Zas cs∧as.all Zm=true∧(as=[]→cs=.anil)):PE X (.Call (.Attribute (.Name y yp) m ap) as [] cp) (tE X.K (ev F (.meth (XC m as.length G) x cs))):=by
 obtain⟨PAs,_,hp,hn⟩:=A;intro pins s σ H Q I h;obtain⟨ad,ρ,st,d,st',E,S,e,p⟩:=h;replace e:ZQ (ev F x) (ev F cs) (J6 F (XC m as.length G)) ρ st=some (d,st'):=e;unfold ZQ at e;split at e
 ·rename_i dx st1 q1
  split at e
  ·rename_i dy st2 q2
   unfold J6 at e;split at e
   ·rename_i i xs
    split at e
    ·rename_i j hj
     obtain⟨cx,ms,subs,hG,hl⟩:=Zhl hj;obtain⟨_,nw,_,hms⟩:=K.gl cx _ hG;obtain⟨k,f,fd,pn,Fk,hr,hme,hb⟩:=hms m j _ hl;refine Zel rfl (VS hp hlen) hline (thn (B pins s σ H (fun v H1=>∃ ad1,Ext ad H ad1 H1∧StOk X.K ad1 H1 st1∧Den X.K ad1 H1 v (.obj i)) I ⟨ad,ρ,st,.obj i,st1,E,S,q1,fun v ad1 H1 x1 S1 d1=>⟨ad1,x1,S1,d1⟩⟩) fun u s1 ⟨v,H1,I1,rv,ad1,x1,S1,d1⟩ pl=>?_)
     obtain⟨a,dx,rfl,ha⟩:=d1.ofObj;cases (show u=Value.ref a from rv)
     refine getmeth_ok I1 ha nw.cl hme rfl ?_;cases as with
     |nil=>
      have hc:=hn rfl;subst hc;have q2:some (D.tup [],st1)=some (.tup xs,st2):=q2;cases q2;exact PySem.W.callWith_K0 (first:=[.ref a]) I1.kIn hme.kp (run_fn (us:=[.ref a]) (vs:=[.ref a]) (E:=E0) Fk hr hb .nil pass0 I1 (.cons rfl .nil) ⟨ad1,[.obj i],st1,d,st',S1,.cons d1 .nil,e,p.later x1⟩)
     |cons e0 es=>
      rw[List.all_cons,Bool.and_eq_true]at hp;refine PySem.W.callWith_K (first:=[.ref a]) (h₀:=X.base) I.ok.mod.kin hme.kp (thn (PAs cp pins s1 σ H1 _ I1 ⟨ad1,ρ,st1,xs,st2,E.mono x1,S1,q2,fun vs ad2 H2 x2 S2 d2=>(show(fun vs H2=>∃ ad2,Ext ad1 H1 ad2 H2∧StOk X.K ad2 H2 st2∧Dens X.K ad2 H2 vs xs) vs H2 from⟨ad2,x2,S2,d2⟩)⟩) fun us s2 ⟨vs,H2,I2,r,ad2,x2,S2,d2⟩=>⟨I2.kIn,?_⟩) (Ze hp.1) (YR hp.2)
      refine run_fn (us:=.ref a :: us) (vs:=.ref a :: vs) (E:=E0) Fk hr hb .nil pass0 I2 (.cons rfl r) ?_;rw[List.append_nil];exact⟨ad2,.obj i :: xs,st2,d,st',S2,.cons (d1.mono x2) d2,e,p.later (x1.trans x2)⟩
    ·cases e
   ·cases e
  ·cases e
 ·cases e
theorem JC{b:Expr}{p:Option Expr×Option Expr}(q:WP b=some p):∃ p2,b=.Slice p.1 p.2 none p2:=by
 unfold WP at q;split at q
 ·cases q;exact⟨_,rfl⟩
 ·cases q
theorem Zix{X:Cx}{op:UnaryOp}{a:Expr}{o:Option CE}{c:CE}{pos:Pos}(A:∀ x,o=some x→SE X F a x)(h:unC op o=some c):SE X F (.UnaryOp op a pos) c:=by
 cases op with
 |Not=>exact UF (P:=SE X F _) (show o.map CE.not=some c from h) fun x hx=>⟨Zy (pe_not (A x hx).pe) Zb7,Vp (pt_not (A x hx).pt) Zb6⟩
 |USub=>exact UF (P:=SE X F _) (show o.map CE.neg=some c from h) fun x hx=>.of (Zy (pe_un Zfe (A x hx).pe) Zgh)
 |_=>cases h
section
variable {X:Cx}{sc:Scope}{N:List Str}{n:Nat}{c:CE} (K:Cxt X G F sc N) (hf:∀ e c,cE G n sc N e=some c→SE X F e c)
include K hf
theorem Zg0{a:Expr}{ops:List CmpOp}{bs:List Expr}{pos:Pos}(h:ZhR G sc (cE G n sc N) (cE G n sc N a) ops bs=some c):SE X F (.Compare a ops bs pos) c:=by
 cases ops with
 |nil=>cases h
 |cons op ops=>cases bs with
  |nil=>cases ops with
   |nil=>cases h
   |cons _ r=>cases r<;>cases h
  |cons b bs=>cases ops with
   |nil=>cases bs with
    |cons _ _=>cases h
    |nil=>
     replace h:(match ZU G sc b with
      |some e=>o3 CE.inR (Zgi op) (cE G n sc N a) (cE G n sc N e)
      |none=>o2 (CE.cmp op) (cE G n sc N a) (cE G n sc N b))=some c:=h
     cases he:ZU G sc b with
     |some e=>
      rw[he]at h;exact Vk (P:=SE X F _) h fun ng x y hg hx hy=>Zg1 K he hg (Zf hy) (hf a x hx).pe (hf e y hy).pe
     |none=>
      rw[he]at h;exact Ye (P:=SE X F _) h fun x y hx hy=>⟨Zy (pe_cmpR (Zab K.hu) (hf a x hx).pe (hf b y hy).pe (WA (Zf hy))) Ut,Vp (pt_cmpR (Zab K.hu) (hf a x hx).pe (hf b y hy).pe (WA (Zf hy))) fun σ H Q q=>Ut σ H _ (Zca σ H Q q)⟩
   |cons op2 ops=>cases h
omit K in
theorem ZeN{op:BoolOp}{vs:List Expr}{pos:Pos}(h:Zfl (cE G n sc N) op pos vs=some c):SE X F (.BoolOp op vs pos) c:=by
 cases vs with
 |nil=>cases h
 |cons a r=>cases r with
  |nil=>
   have A:=hf a c h;refine⟨pe_one A.pe,?_⟩;cases op with
   |And=>exact(pw_and1 A.pt).pt
   |Or=>exact(pw_or1 A.pt).pt
  |cons b r=>cases op with
   |And=>exact Ye (P:=SE X F _) (show o2 CE.and (cE G n sc N a) (cE G n sc N (.BoolOp .And (b :: r) pos))=some c from h) fun x y hx hy=>⟨Zy (pe_and (hf a x hx).pe (hf _ y hy).pe) ZbV,Vp (pw_and (hf a x hx).pt (QE (hf _ y hy).pt)).pt ZbU⟩
   |Or=>exact Ye (P:=SE X F _) (show o2 CE.or (cE G n sc N a) (cE G n sc N (.BoolOp .Or (b :: r) pos))=some c from h) fun x y hx hy=>⟨Zy (pe_or (hf a x hx).pe (hf _ y hy).pe) Zd5,Vp (pw_or (hf a x hx).pt (QE (hf _ y hy).pt)).pt Zd4⟩
theorem Zg5(ihO:Uh G F n){a b:Expr}{pos:Pos}(h:Zhg G sc (cE G n sc N) (cO G n sc N) a b=some c):SE X F (.Subscript a b pos) c:=by
 unfold Zhg at h;cases q:WP b with
 |some p=>
  obtain⟨lo,hi⟩:=p;rw[q]at h;obtain⟨p2,rfl⟩:=JC q;exact Vk (P:=SE X F _) h fun x l u hx hl hu=>.of (Zy (pe_slice Zkk (hf a x hx).pe (ihO X sc N K lo l hl) (ihO X sc N K hi u hu)) ZaU)
 |none=>
  rw[q]at h;dsimp only at h;cases q':Zfy b with
  |some s=>
   cases q'
  |none=>
   rw[q']at h;dsimp only at h;cases hn:J4 G sc a with
   |some p=>
    obtain⟨ks,ds⟩:=p;rw[hn]at h;exact UF (P:=SE X F _) h fun y hy=>.of (ZeP K hn (Zf hy) (hf b y hy).pe)
   |none=>
    rw[hn]at h;exact Ye (P:=SE X F _) h fun x y hx hy=>.of (Zy (pe_ix (Zjx K.hu) (hf a x hx).pe (hf b y hy).pe (Qo (Zf hy))) Ut)
theorem Zc6{f:Str}{a:Expr}{p pos:Pos}(hg:ZB sc f=true)(hm:X.mg f=none)(h:Zbt G sc f a (cE G n sc N)=some c):SE X F (.Call (.Name f p) [a] [] pos) c:=by
 unfold Zbt at h;cases he:JH G sc f a with
 |some e=>
  rw[he]at h;exact Zg7 K hg hm he (fun c hc=>⟨Zf hc,(hf e c hc).pe⟩) h
 |none=>
  rw[he]at h;dsimp only at h;cases hl:Jo G sc f a with
  |some q=>
   obtain⟨u,v⟩:=q;rw[hl]at h;exact Ye (P:=SE X F _) h fun x y hx hy=>.of (ZeQ K hg hm hl (Zf hx) (Zf hy) (hf u x hx).pe (hf v y hy).pe)
  |none=>
   rw[hl]at h;exact j_e h fun h=>UF (P:=fun o=>o=some c→SE X F _ c) h (fun x hx h=>.of (ZeL K hg hm (Zf hx) (hf a x hx).pe h)) rfl
theorem Zc7{f:Str}{a b:Expr}{p pos:Pos}(hg:ZB sc f=true)(hm:X.mg f=none)(h:Zbu G sc f a b (cE G n sc N)=some c):SE X F (.Call (.Name f p) [a,b] [] pos) c:=by
 unfold Zbu at h;by_cases ei:f = "isinstance"
 ·subst ei
  rw[if_pos rfl]at h;cases hl:Jb G sc b with
  |some l=>
   rw[hl]at h;exact UF (P:=SE X F _) h fun x q=>.of (Zg2 K hg hm (Zf q) (hf a x q).pe hl)
  |none=>
   rw[hl]at h;exact Ye (P:=SE X F _) h fun x T hx hT=>.of (Zg3 K hg hm (Zf hx) (hf a x hx).pe hT)
 ·rw[if_neg ei]at h
  exact j_e h fun h=>Ye (P:=fun o=>o=some c→SE X F _ c) h (fun x y hx hy h=>.of (ZeM K hg hm (Zf hx) (Zf hy) (hf a x hx).pe (hf b y hy).pe h)) rfl
theorem Zc8(ihA:YJ G F n){f:Str}{as:List Expr}{p pos:Pos}(h:Zbx G sc f as (cEs G n sc N as) (cE G n sc N)=some c):SE X F (.Call (.Name f p) as [] pos) c:=by
 unfold Zbx at h;cases hg:ZB sc f with
 |false=>rw[hg]at h;cases h
 |true=>
 rw[hg,if_pos rfl]at h;cases hG:G.lookup f with
 |none=>rw[hG]at h;cases h
 |some g=>
  rw[hG]at h;cases g with
  |fn i ps ds=>exact Ws h fun hl h=>UF (P:=SE X F _) h fun cs hcs=>.of (ZeO K hg hG hl (ihA X sc N K as cs hcs))
  |blt=>
   have hm:X.mg f=none:=K.gl f _ hG;cases as with
   |nil=>cases h
   |cons a as=>cases as with
    |nil=>exact Zc6 K hf hg hm h
    |cons b as=>cases as with
     |nil=>exact Zc7 K hf hg hm h
     |cons _ _=>cases h
  |cls i ms subs=>cases as with
   |cons _ _=>cases h
   |nil=>cases h;exact .of (Zg4 K hg hG)
  |_=>cases h
theorem ZeK(ihA:YJ G F n){ob:Expr}{m:Str}{ap pos:Pos}{as:List Expr}(h:Zfk G ob m ap as pos (cEs G n sc N as) (cE G n sc N)=some c):SE X F (.Call (.Attribute ob m ap) as [] pos) c:=by
 cases ob with
 |Name y yp=>
  refine Ws h fun hc h=>?_
  by_cases hm:m = "index"
  ·subst hm
   rw[if_pos rfl]at h;exact Ws h fun h1 h=>Ye (P:=SE X F _) h fun x cs hx hcs=>.of (Zg6 K hc.1 h1 (hf _ x hx).pe (ihA X sc N K as cs hcs))
  ·rw[if_neg hm]at h
   exact Ye (P:=SE X F _) h fun x cs hx hcs=>.of (ZeR K hc.1 hc.2 (hf _ x hx).pe (ihA X sc N K as cs hcs))
 |_=>cases h
end
theorem JD{n:Nat}(ihE:Zx G F n)(ihA:YJ G F n)(ihO:Uh G F n)(hcomp:∀ X sc N,Cxt X G F sc N→∀ elt gens sc2 pos c,cE G (n+1) sc N (.ListComp elt gens sc2 pos)=some c→SE X F (.ListComp elt gens sc2 pos) c):Zx G F (n+1):=by
 intro X sc N K e c h;have hf:=ihE X sc N K;have no:∀ {P:Prop},(none:Option CE)=some c→P:=fun z=>nomatch z
 cases e with
 |Constant v k pos=>exact Zc9 h
 |Name x pos=>exact ZeS K h
 |BinOp a op b pos=>exact Ye (P:=SE X F _) (show o2 (CE.bin op) (cE G n sc N a) (cE G n sc N b)=some c from h) fun x y hx hy=>.of (Zy (pe_op Zes (hf a x hx).pe (hf b y hy).pe) Ut)
 |UnaryOp op a pos=>exact Zix (hf a) h
 |Compare a ops bs pos=>exact Zg0 K hf h
 |BoolOp op vs pos=>exact ZeN hf h
 |IfExp t a b pos=>exact Vk (P:=SE X F _) (show o3 CE.ife (cE G n sc N t) (cE G n sc N a) (cE G n sc N b)=some c from h) fun z x y hz hx hy=>⟨Zy (pe_ifExp (hf t z hz).pt (hf a x hx).pe (hf b y hy).pe) Zgg,ZgI (hf t z hz).pt (hf a x hx).pt (hf b y hy).pt⟩
 |Tuple es k pos=>
  refine UF (P:=SE X F _) (show(cEs G n sc N es).map CE.tupE=some c from h) fun x q=>?_
  obtain⟨A,hA,_,_⟩:=ihA X sc N K es x q;exact .of (Zy (pe_tup A) (Zd9 (fun ρ st ds st' e=>by obtain⟨ds',z,hz⟩:=Ui hA e;cases z;exact hz) fun ρ st d st' e=>by obtain⟨ds',z,hz⟩:=Ui hA e;exact⟨ds',z⟩))
 |List es pos=>
  refine UF (P:=SE X F _) (show(cEs G n sc N es).map CE.lstE=some c from h) fun x q=>?_
  obtain⟨A,hA,_,_⟩:=ihA X sc N K es x q;exact .of (Zy (pe_lst A) (Zd2 fun ρ st ds st' e=>by obtain⟨ds',z,hz⟩:=Ui hA e;cases z;exact hz))
 |Subscript a b pos=>exact Zg5 K hf ihO h
 |Call f as kws pos=>cases kws with
  |cons _ _=>exact no h
  |nil=>cases f with
   |Attribute ob m ap=>exact ZeK K hf ihA h
   |Name f p=>exact Zc8 K hf ihA h
   |_=>exact no h
 |ListComp elt gens sc2 pos=>exact hcomp X sc N K elt gens sc2 pos c h
 |_=>exact no h
theorem QQ{n:Nat}(ihE:Zx G F n)(ihA:YJ G F n):YJ G F (n+1):=by
 intro X sc N K es c h;cases es with
 |nil=>
  simp only[cEs]at h;cases h;exact⟨ZcB pa_nil Qh,trivial,rfl,fun _=>rfl⟩
 |cons e es=>
  refine Ye (P:=fun c=>PA X _ (tA X.K (ev F c))∧Zas c∧_∧(_→c=.anil)) (show o2 CE.acons (cE G n sc N e) (cEs G n sc N es)=some c from h) fun x r hx hr=>?_
  obtain⟨A,hA,hp,_⟩:=ihA X sc N K es r hr;exact⟨ZcB (pa_cons (ihE X sc N K e x hx).pe A (Ze (Zf hx))) ZaS,trivial,by rw[List.all_cons,hp,Zf hx];rfl,fun z=>nomatch z⟩
theorem QR{n:Nat}(ihE:Zx G F n):Uh G F (n+1):=by
 intro X sc N K e c h;cases e with
 |none=>
  simp only[cO]at h;cases h;exact ZcL po_none Zd3
 |some e=>
  simp only[cO]at h;cases q:cE G n sc N e with
  |none=>rw[q]at h;cases h
  |some x=>
   rw[q]at h;cases h;refine ZcL (po_some (ihE X sc N K e x q).pe) fun σ H Q hq=>?_
   obtain⟨ad,ρ,st,d,st',E,S,e1,p⟩:=hq;have e1:ZL (ev F x) Zad ρ st=some (d,st'):=e1;unfold ZL at e1;split at e1
   ·rename_i y st1 q1
    cases y with
    |int i=>
     cases e1;rcases p with⟨z,_⟩|⟨j,z,p⟩
     ·cases z
     ·cases z
      exact⟨ad,ρ,st,.int i,_,E,S,q1,fun v ad' H' x S' d'=>⟨i,d'.ofInt,p ad' H' x S'⟩⟩
    |_=>simp[Zad]at e1
   ·cases e1
end
end Dp



namespace Dp
open PySem PySem.Spec PyProof.Rows L2
variable [ClsTab]
theorem b_e{α β:Type}{P:Prop}{o:Option α}{f:α→Option β}{c:β}(h:o.bind f=some c)(k:∀ x,o=some x→f x=some c→P):P:=by
 cases o with
 |none=>cases h
 |some x=>exact k x rfl h
theorem Ziq{X:Cx}{s:Stmt}{t u:TS}(h1:PS X s t)(h2:PS X s u):PS X s (fun D σ H=>t D σ H∨u D σ H):=fun pins s σ H D I q=>q.elim (h1 pins s σ H D I) (h2 pins s σ H D I)
theorem WD{e:Expr}{tg:Option Expr}{l:Nat}{env:PySem.Env}(h:Xp e=false):swapsWith e tg l env=pure false:=by
 cases e<;>first|rfl|cases h
theorem XY{e tg:Expr}{l:Nat}{env:PySem.Env}(h:Xp e=false):swapsWithSole [tg] e l env=pure false:=WD h
theorem Q3{o k:Expr}{p:Pos}{env:PySem.Env}(h:Zm k=true):∀ v,assign (.Subscript o k p) env v=(do
   let ov ←holding [v] (eval o env)
   let iv ←holding [v,ov] (eval k env)
   standAt p
   holding [v,ov,iv] (setItem ov iv v)
   release [v,ov,iv] []):=by
 cases k<;>first | (intro _;rfl)|cases h
theorem JE{o k e:Expr}{p:Pos}{env:PySem.Env}:swappedStores [.Subscript o k p] e env=pure none:=by
 cases e<;>rfl
theorem ZW{e:Expr}{env:PySem.Env}(h:Zm e=true):∀ x,foldedSetIterable e env x=pure x:=by
 cases e<;>first | (intro _;rfl)|cases h
structure CxtS(X:Cx)(G:Gs)(F:Nat→Fn)(sc:Scope)(N:List Str):Prop extends Cxt X G F sc N where
 nd:N.Nodup
 loc:∀ x∈N,Loc X.env.scope x
 fn:∀ x,X.fn x=true
section
variable {G:Gs}{F:Nat→Fn}
def QZ(G:Gs)(F:Nat→Fn)(n:Nat):Prop:=∀ X sc N,CxtS X G F sc N→∀ s c,cS G n sc N s=some c→PS X s (tS X.K (ex F c))
def Z2(G:Gs)(F:Nat→Fn)(n:Nat):Prop:=∀ X sc N,CxtS X G F sc N→∀ s c,cSs G n sc N s=some c→PSs X s (tS X.K (ex F c))
theorem Us{N:List Str}{x:Str}{i:Nat}(h:N.idxOf? x=some i):x∈N:=List.mem_of_getElem? (XW h)
theorem YB{X:Cx}{sc:Scope}{N:List Str}{x:Str}{i:Nat}{p:Pos}(K:CxtS X G F sc N)(h:N.idxOf? x=some i):PG X (.Name x p) (gName i):=
 pg_name (by rw[K.hN];exact K.nd) (by rw[K.hN];exact XW h) (K.loc x (Us h)) (.inl (K.fn x))
theorem passes{X:Cx}{sc:Scope}{N:List Str}(K:CxtS X G F sc N):PassesOwn (model X.prog X.w) X.A X.env X.xe:=by
 rw[K.nx];exact PassesOwn.never
theorem ZcG{X:Cx}{sc:Scope}{N:List Str}{x:Str}{i:Nat}{p:Pos}(K:Cxt X G F sc N)(hl:X5 sc x=true)(hi:N.idxOf? x=some i):PE X (.Name x p) (tVar i):=
 pe_var (by rw[K.hN];exact XW hi) (K.vis _ hl) (Uz hl).1 (Uz hl).2
theorem WC{X:Cx}{sc:Scope}{N:List Str}{it a tg:Expr}{x:CE}(K:Cxt X G F sc N)(h:ZU G sc it=some a)(hp:Zm a=true)(A:PE X a (tE X.K (ev F x))):Zm it=true∧PI X tg it (iRng1 (tCons (tE X.K (ev F x)) tNil)):=by
 obtain⟨_,_,rfl,hg,hm⟩:=VF K h;exact⟨rfl,pi_range1 hg hm (pa1 hp A) (Ze hp)⟩
def WS(G:Gs)(F:Nat→Fn)(n:Nat):Prop:=∀ X sc N,CxtS X G F sc N→∀ (x:Str) (i:Nat) (p:Pos) elt gens sc2 epos (pos:Pos) c,N.idxOf? x=some i→cE G n sc N (.ListComp elt gens sc2 epos)=some c→
 swapsWith (.ListComp elt gens sc2 epos) (some (.Name x p)) pos.line X.env=pure true→PS X (.Assign [.Name x p] (.ListComp elt gens sc2 epos) pos) (tAsg (tE X.K (ev F c)) (gName i))
theorem JF{elt:Expr}{gens:List Comprehension}{sc2:Scope}{epos p:Pos}{x:Str}{l:Nat}{env:PySem.Env}:∃ b:Bool,swapsWith (.ListComp elt gens sc2 epos) (some (.Name x p)) l env=pure b:=⟨_,rfl⟩
theorem Zcs{n:Nat}{sc:Scope}{N:List Str}{e:Expr}{c:CE}(h:cE G n sc N e=some c):Xp e=false∨∃ elt gens sc2 epos,e=.ListComp elt gens sc2 epos:=by
 cases n with
 |zero=>exact nomatch (show(none:Option CE)=some c from h)
 |succ n=>cases e<;>first|exact .inl rfl|exact .inr ⟨_,_,_,_,rfl⟩|exact nomatch (show(none:Option CE)=some c from h)
theorem Zha{n:Nat}(ihE:Zx G F n)(hA:WS G F n){X:Cx}{sc:Scope}{N:List Str}(K:CxtS X G F sc N){c:CS}{x:Str}{e:Expr}{p pos:Pos}(h:o2 CS.set (N.idxOf? x) (cE G n sc N e)=some c):PS X (.Assign [.Name x p] e pos) (tS X.K (ex F c)):=by
 refine Ye (P:=fun c=>PS X _ (tS X.K (ex F c))) h fun i y hi hx=>?_
 have pl:∀ hs,PS X (.Assign [.Name x p] e pos) (tAsg (tE X.K (ev F y)) (gName i)):=fun hs=>ps_set (by rw[K.hN];exact K.nd) (by rw[K.hN];exact XW hi) (K.loc _ (Us hi)) (ihE X sc N K.toCxt _ y hx).pe hs (.inl (K.fn _))
 rcases Zcs hx with hc|⟨elt,gens,sc2,epos,rfl⟩
 ·exact ZH (pl (WD hc)) Uu
 ·obtain⟨b,hb⟩:=JF (elt:=elt) (gens:=gens) (sc2:=sc2) (epos:=epos) (p:=p) (x:=x) (l:=pos.line) (env:=X.env)
  cases b with
  |false=>exact ZH (pl hb) Uu
  |true=>exact ZH (hA X sc N K _ i p elt gens sc2 epos pos y hi hx hb) Uu
theorem Vs{ts:List Expr}{k:Nat}{tp:Pos}{e:Expr}{env:PySem.Env}(h:Qm e=false):swappedStores [.Tuple ts k tp] e env=pure none:=by
 cases e with
 |Tuple=>cases h
 |_=>rfl
theorem Ze3{n:Nat}(ihE:Zx G F n){X:Cx}{sc:Scope}{N:List Str}(K:CxtS X G F sc N){c:CS}{x y:Str}{e:Expr}{p p2 tp pos:Pos}{ctx:Nat}(h:og ((Xp e||Qm e)=false) (o3 (fun i j c=>og (i≠j) (some (CS.set2 i j c))) (N.idxOf? x) (N.idxOf? y) (cE G n sc N e)).join=some c):PS X (.Assign [.Tuple [.Name x p,.Name y p2] ctx tp] e pos) (tS X.K (ex F c)):=by
 refine Ws h fun hc h=>j_e h fun h=>Vk (P:=fun o=>o=some c→PS X _ (tS X.K (ex F c))) h (fun i j ce hi hj hx h=>Ws h fun _ h=>?_) rfl
 cases h;rw[Bool.or_eq_false_iff]at hc;exact ZH (ps_asg (ihE X sc N K.toCxt _ ce hx).pe (pg_tup K.calm (pgs_cons (YB K hi) (pgs_cons (YB K hj) pgs_nil))) (XY hc.1) (Vs hc.2)) Zb8
theorem Ze4{n:Nat}(ihE:Zx G F n){X:Cx}{sc:Scope}{N:List Str}(K:CxtS X G F sc N){c:CS}{x y z:Str}{e:Expr}{p p2 p3 tp pos:Pos}{ctx:Nat}(h:og ((Xp e||Qm e)=false) (o3 (fun i j (p:Nat×CE)=>CS.set3 i j p.1 p.2) (N.idxOf? x) (N.idxOf? y) (o2 Prod.mk (N.idxOf? z) (cE G n sc N e)))=some c):PS X (.Assign [.Tuple [.Name x p,.Name y p2,.Name z p3] ctx tp] e pos) (tS X.K (ex F c)):=by
 refine Ws h fun hc h=>Vk (P:=fun c=>PS X _ (tS X.K (ex F c))) h fun i j q hi hj hq=>Ye (P:=fun q=>PS X _ (tS X.K (ex F (.set3 i j q.1 q.2)))) hq fun l ce hl hx=>?_
 rw[Bool.or_eq_false_iff]at hc;exact ZH (ps_asg (ihE X sc N K.toCxt _ ce hx).pe (pg_tup K.calm (pgs_cons (YB K hi) (pgs_cons (YB K hj) (pgs_cons (YB K hl) pgs_nil)))) (XY hc.1) (Vs hc.2)) Zb9
theorem Zg8{n:Nat}(ihE:Zx G F n){X:Cx}{sc:Scope}{N:List Str}(K:CxtS X G F sc N){c:CS}{f:Str}{fp cp pos:Pos}{as:List Expr}{kw:List Keyword}(h:(cE G n sc N (.Call (.Name f fp) as kw cp)).map CS.act=some c):PS X (.Expr (.Call (.Name f fp) as kw cp) pos) (tS X.K (ex F c)):=by
 obtain⟨ce,hx,rfl⟩:=Option.map_eq_some_iff.mp h;exact ZH (ps_expr (ihE X sc N K.toCxt _ ce hx).pe rfl) ZdW
theorem Zhb{n:Nat}(ihE:Zx G F n){X:Cx}{sc:Scope}{N:List Str}(K:CxtS X G F sc N){c:CS}{x:Str}{k e:Expr}{p q pos:Pos}(h:Zis sc N x k e (cE G n sc N)=some c):PS X (.Assign [.Subscript (.Name x p) k q] e pos) (tS X.K (ex F c)):=
 Ws h fun hc h=>by
 cases hp:Zfx k with
 |some ab=>
  cases hp
 |none=>
 rw[hp]at h;exact Vk (P:=fun c=>PS X _ (tS X.K (ex F c))) h fun _ ck y hi hck hx=>ZH (ps_asg (ihE X sc N K.toCxt _ y hx).pe (pg_sub (ZcG K.toCxt hc.2.2 hi) (ihE X sc N K.toCxt _ ck hck).pe set_list (Q3 (Zf hck))) (XY hc.1) JE) Zd6
theorem Zhc{n:Nat}(ihE:Zx G F n){X:Cx}{sc:Scope}{N:List Str}(K:CxtS X G F sc N){c:CS}{e:Expr}{pos:Pos}(h:(cE G n sc N e).map CS.ret=some c):PS X (.Return (some e) pos) (tS X.K (ex F c)):=
 UF (P:=fun c=>PS X _ (tS X.K (ex F c))) h fun x q=>ZH (ps_ret (ihE X sc N K.toCxt _ x q).pe) Zd7
theorem Ziz{n:Nat}(ihE:Zx G F n)(ihS:Z2 G F n){X:Cx}{sc:Scope}{N:List Str}(K:CxtS X G F sc N){c:CS}{e:Expr}{a b:List Stmt}{pos:Pos}(h:o3 CS.ite (cE G n sc N e) (cSs G n sc N a) (cSs G n sc N b)=some c):PS X (.If e a b pos) (tS X.K (ex F c)):=
 Vk (P:=fun c=>PS X _ (tS X.K (ex F c))) h fun cc ca cb hc ha hb=>ZH (ps_if (ihE X sc N K.toCxt _ cc hc).pt (ihS X sc N K _ ca ha) (ihS X sc N K _ cb hb)) Zd1
theorem ZeY{n:Nat}(ihA:YJ G F n)(ihS:Z2 G F n){X:Cx}{sc:Scope}{N:List Str}(K:CxtS X G F sc N){c:CS}{x:Str}{it:Expr}{as:List Expr}{b:List Stmt}{p pos:Pos}(hr:Wv G sc it=some as)(h:o3 CS.for3 (N.idxOf? x) (cEs G n sc N as) (cSs G n sc N b)=some c):PS X (.For (.Name x p) it b [] pos) (tS X.K (ex F c)):=by cases hr
theorem ZeW{n:Nat}(ihE:Zx G F n)(ihS:Z2 G F n){X:Cx}{sc:Scope}{N:List Str}(K:CxtS X G F sc N){c:CS}{x:Str}{it:Expr}{b:List Stmt}{p pos:Pos}(h:(match ZU G sc it with
   |some a=>o3 (fun i c b=>CS.for1 i true c b) (N.idxOf? x) (cE G n sc N a) (cSs G n sc N b)
   |none=>o3 (fun i c b=>CS.for1 i false c b) (N.idxOf? x) (cE G n sc N it) (cSs G n sc N b))=some c):PS X (.For (.Name x p) it b [] pos) (tS X.K (ex F c)):=by
 cases ha:ZU G sc it with
 |some a=>
  rw[ha]at h;refine Vk (P:=fun c=>PS X _ (tS X.K (ex F c))) h fun i ci cb hi q hb=>?_
  obtain⟨hp,pi⟩:=WC K.toCxt ha (Zf q) (ihE X sc N K.toCxt a _ q).pe;exact ZH (ps_for (passes K) K.calm pi (YB K hi) (ihS X sc N K _ cb hb) (ZW hp)) Zb3
 |none=>
  rw[ha]at h;refine Vk (P:=fun c=>PS X _ (tS X.K (ex F c))) h fun i ci cb hi q hb=>?_
  have A:=(ihE X sc N K.toCxt _ _ q).pe;have hf:=ZW (env:=X.env) (Zf q);exact ZH (Ziq (ps_for (passes K) K.calm (pi_tup A) (YB K hi) (ihS X sc N K _ cb hb) hf) (ps_for (passes K) K.calm (pi_list A) (YB K hi) (ihS X sc N K _ cb hb) hf)) Zb1
theorem Wy{X:Cx}{pins:List (Addr×Obj)}{σ:L2.St}{H:Hp}{s:Shared}{h':Heap}{t':Nat}{wr:List Addr}(I:L2.Inv X pins σ H s)(hf:∀ b∈wr,FpOk X pins H b)(k:∀ b o,b∉wr→s.heap.get? b=some o→h'.get? b=some o):L2.Inv X pins σ H { s with heap:=h',toks:=t' }:=by
 have nw:∀ b u,H b=some u→b∉wr:=fun b u e hb=>by have:=(hf b hb).1;rw[e]at this;cases this
 refine I.step (g':=s.gens) (d':=s.drawn) (ch:=wr) (fun b hb=>⟨(hf b hb).2.2.2.1,(hf b hb).2.1,(hf b hb).2.2.2.2.1,(hf b hb).2.2.2.2.2⟩) (fun b o _ _ hc e _=>k b o hc e) (fun b o _ _ hc e _=>⟨o.slots,k b o hc e⟩)
  (fun b o _ e n=>n) (fun b o hc e=>⟨o,k b o hc e⟩) (fun b ys e=>e) (fun b o u e=>e) (fun b ps e=>⟨#[],by rw[e];simp⟩) (fun m hm=>?_) (fun b u e=>?_) I.bare
 ·obtain⟨o,es,ep,ho,r⟩:=hm
  exact⟨o,es,ep,k _ o (fun z=>(hf _ z).2.1 rfl) ho,r⟩
 ·refine(I.hok b u e).stay (fun c v hc q=>k c v ?_ q) (fun c q=>q) fun c ys q=>q
  rcases hc with z|z
  ·rw[z];exact nw b u e
  ·exact nw c _ z
theorem XJ{X:Cx}{pins:List (Addr×Obj)}{σ:L2.St}{H:Hp}{s:Shared}{h':Heap}{t':Nat}{wr:List Addr}{T:Addr}{xs:List V}(I:L2.Inv X pins σ H s)(hf:∀ b∈wr,FpOk X pins H b)(k:∀ b o,b∉wr→s.heap.get? b=some o→h'.get? b=some o)(hT:s.heap.objs.size≤T)(new:ObjOk X.prog X.w (upd H T (.tup xs)) h' T (.tup xs)):L2.Inv X pins σ (upd H T (.tup xs)) { s with heap:=h',toks:=t' }:=by
 have hn:H T=none:=I.hok.fresh hT;have nT:∀ b u,s.heap.get? b=some u→b≠T:=fun b u e=>Nat.ne_of_lt (Nat.lt_of_lt_of_le (Heap.lt_size e) hT)
 have nw:∀ b u,H b=some u→b∉wr:=fun b u e hb=>by have:=(hf b hb).1;rw[e]at this;cases this
 refine I.step (g':=s.gens) (d':=s.drawn) (ch:=wr) (fun b hb=>⟨(hf b hb).2.2.2.1,(hf b hb).2.1,(hf b hb).2.2.2.2.1,(hf b hb).2.2.2.2.2⟩) (fun b o _ _ hc e _=>k b o hc e) (fun b o _ _ hc e _=>⟨o.slots,k b o hc e⟩)
  (fun b o _ e n=>by rw[upd_ne (nT b o e)];exact n) (fun b o hc e=>⟨o,k b o hc e⟩) (fun b ys e=>by rw[upd_ne (ne_of_none e hn)];exact e) (fun b o u e=>by rw[upd_ne (ne_of_none e hn)];exact e) (fun b ps e=>⟨#[],by rw[upd_ne (ne_of_none e hn),e];simp⟩) (fun m hm=>?_) (fun b u e=>?_) I.bare
 ·obtain⟨o,es,ep,ho,r⟩:=hm
  exact⟨o,es,ep,k _ o (fun z=>(hf _ z).2.1 rfl) ho,r⟩
 ·by_cases hb:b=T
  ·subst hb;rw[upd_same]at e;cases e;exact new
  ·rw[upd_ne hb]at e
   refine(I.hok b u e).stay (fun c v hc q=>k c v ?_ q) (fun c q=>by rw[upd_ne (ne_of_none q hn)];exact q) fun c ys q=>by rw[upd_ne (ne_of_none q hn)];exact q
   rcases hc with z|z
   ·rw[z];exact nw b u e
   ·exact nw c _ z
theorem US{X:Cx}{pins:List (Addr×Obj)}{σ:L2.St}{H:Hp}{s:Shared}{a:Addr}{xs ys:List V}(I:L2.Inv X pins σ H s)(h1:SqL X.K H a xs)(h2:SqL X.K H a ys):ys=xs:=by
 obtain⟨i1,r1,⟨o1,n1,g1,_,_,d1⟩,_⟩:=I.list h1;obtain⟨i2,r2,⟨o2,n2,g2,_,_,d2⟩,_⟩:=I.list h2;rw[g1]at g2;cases g2;rw[d1]at d2;have e:i1.toArray=i2.toArray:=by injection d2
 have e:i1=i2:=by simpa using e
 subst e;exact Vals.inj r2 r1
theorem Wq{a b:String}{p:Prop}(h:Value.type a=Value.type b)(n:¬a=b):p:=by
 injection h with h
 exact absurd h n
structure ZD(z TI TO i1 i2:Addr):Prop where
 a:TI≠z
 b:TO≠z
 c:i1≠z
 d:i2≠z
 e:TI≠TO
 f:TI≠i1
 g:TI≠i2
 h:TO≠i1
 i:TO≠i2
 j:i1≠i2
structure ZSt(z TI TO i1 i2 a b:Addr)(i:Nat)(h:Heap):Prop where
 hz:IsZip h z TI TO .none
 hI:IsPair h TI (.ref i1) (.ref i2)
 hO:∃ u v,IsPair h TO u v
 h1:h.IsListIter i1 a i
 h2:h.IsListIter i2 b i
theorem YI{z TI TO i1 i2 a b l c:Addr}{i:Nat}{h:Heap}{its:Array Value}(st:ZSt z TI TO i1 i2 a b i h)(hl:h.IsList l its)(hc:c∈[z,TO,i1,i2]):l≠c:=by
 rintro rfl
 obtain⟨o,g,cl,_⟩:=hl;simp only[List.mem_cons,List.not_mem_nil,or_false]at hc;rcases hc with rfl|rfl|rfl|rfl
 ·have hz:h.get? l=some _:=st.hz
  rw[g]at hz;cases hz;exact Wq cl (by decide)
 ·obtain⟨u,v,hO⟩:=st.hO
  have hO:h.get? l=some _:=hO;rw[g]at hO;cases hO;exact Wq cl (by decide)
 ·obtain⟨o1,g1,c1,_⟩:=st.h1
  rw[g]at g1;cases g1;rw[cl]at c1;exact Wq c1 (by decide)
 ·obtain⟨o1,g1,c1,_⟩:=st.h2
  rw[g]at g1;cases g1;rw[cl]at c1;exact Wq c1 (by decide)
theorem Ud{z TI TO i1 i2 a b:Addr}{i:Nat}{h:Heap}{its its':Array Value}(d:ZD z TI TO i1 i2)(st:ZSt z TI TO i1 i2 a b i h)(p1:h.IsList a its)(p2:h.IsList b its'):ZipApart z TI TO i1 i2 a b:=
 have m:z∈[z,TO,i1,i2]∧TO∈[z,TO,i1,i2]∧i1∈[z,TO,i1,i2]∧i2∈[z,TO,i1,i2]:=⟨.head _,.tail _ (.head _),.tail _ (.tail _ (.head _)),.tail _ (.tail _ (.tail _ (.head _)))⟩
 ⟨d.a,d.b,d.c,d.d,d.e,d.f,d.g,d.h,d.i,d.j,YI st p1 m.1,YI st p1 m.2.1,YI st p1 m.2.2.1,YI st p1 m.2.2.2,YI st p2 m.1,YI st p2 m.2.1,YI st p2 m.2.2.1,YI st p2 m.2.2.2⟩
theorem Zaq{z TI TO i1 i2 c:Addr}(h:c∈[z,TO,i1,i2]):c∈[z,TI,TO,i1,i2]:=by
 rcases List.mem_cons.mp h with rfl|h
 ·exact .head _
 ·exact .tail _ (.tail _ h)
theorem Zar{z TI TO i1 i2 a b c:Addr}{i:Nat}{h:Heap}(st:ZSt z TI TO i1 i2 a b i h)(hc:c∈[z,TI,TO,i1,i2]):∃ o,h.get? c=some o∧∀ v,o.data≠.cell v:=by
 obtain⟨hz,hI,⟨u,v,hO⟩,⟨o1,g1,_,f1⟩,⟨o2,g2,_,f2⟩⟩:=st;simp only[List.mem_cons,List.not_mem_nil,or_false]at hc;rcases hc with rfl|rfl|rfl|rfl|rfl
 ·exact⟨_,hz,fun v q=>by cases (show Data.fields _=Data.cell v from q)⟩
 ·exact⟨_,hI,fun v q=>by cases (show Data.seq _ _=Data.cell v from q)⟩
 ·exact⟨_,hO,fun v q=>by cases (show Data.seq _ _=Data.cell v from q)⟩
 ·exact⟨_,g1,fun v q=>by rw[f1]at q;cases q⟩
 ·exact⟨_,g2,fun v q=>by rw[f2]at q;cases q⟩
theorem ZcY{xs:List V}{its:List Value}{i:Nat}{x:V}{u:Value}(r:Vals xs its)(ex:xs[i]?=some x)(eu:its.toArray[i]?=some u):RelV x u:=by
 obtain⟨u',e1,e2⟩:=r.get ex;rw[List.getElem?_toArray,e1]at eu;cases eu;exact e2
theorem Zdp{X:Cx}{elts:List Expr}{kk:Nat}{pos:Pos}{z TI TO i1 i2 a b:Addr}(d:ZD z TI TO i1 i2)(hc:X.calm=true){i:Nat}{pins:List (Addr×Obj)}{s:Shared}{σ:L2.St}{H:Hp}{E:Value→Shared→Prop}(I:L2.Inv X pins σ H s)(hf:∀ c∈[z,TI,TO,i1,i2],FpOk X pins H c)(st:ZSt z TI TO i1 i2 a b i s.heap)(hg:(Itz X.K a b).go i H) :
  wpAny (model X.prog X.w) X.A (pyNext (.ref z)) (fun r s1=>∃ u,r=some u∧wpAny (model X.prog X.w) X.A (letOwnedTupleGo (.Tuple elts kk pos) (.ref z) u) (fun _ s2=>∃ x H',L2.Inv X pins σ H' s2∧RelV x u∧(Itz X.K a b).yld i H x H'∧ZSt z TI TO i1 i2 a b (i+1) s2.heap∧∀ c∈[z,TI,TO,i1,i2],H' c=none) E s1) E s:=by
 obtain⟨xs,ys,x,y,sq1,sq2,ex,ey⟩:=hg;obtain⟨its1,r1,p1,_⟩:=I.list sq1;obtain⟨its2,r2,p2,_⟩:=I.list sq2;have W:=WalksT.zip2 (prog:=X.prog) (w:=X.w) (A:=X.A) (I.ok.hd hc) z TI TO i1 i2 a b (Ud d st p1.isList p2.isList) its1.toArray its2.toArray;have l1:=r1.length;have l2:=r2.length;have ix:i < xs.length:=(List.getElem?_eq_some_iff.mp ex).1;have iy:i < ys.length:=(List.getElem?_eq_some_iff.mp ey).1
 refine W.item i s _ _ (by rw[List.size_toArray,List.size_toArray];omega) ⟨st.hz,st.hI,st.hO,st.h1,st.h2,p1.isList,p2.isList⟩ fun T vals h' tk hv hT tup mid k1=>?_
 obtain⟨u,v,eu,ev,rfl⟩:=hv;refine⟨.ref T,rfl,W.go elts kk pos i T _ _ _ mid fun h2' st2 k2=>?_⟩
 have I2:L2.Inv X pins σ (upd H T (.tup [x,y])) { s with heap:=h2',toks:=tk }:=XJ (wr:=[z,TO,i1,i2]) I (fun c hcm=>hf c (Zaq hcm)) (fun c o hcn e=>k2 c o hcn (k1 c o hcn e)) hT ⟨show 2≤sizeLine by decide,[u,v],.cons (ZcY r1 ex eu) (.cons (ZcY r2 ey ev) .nil),tup.at fun o e=>k2 T o (W.apart i T h' mid) e⟩
 refine⟨.ref T,upd H T (.tup [x,y]),I2,rfl,⟨T,x,y,rfl,I.hok.fresh hT,rfl,fun xs' q=>by rw[US I sq1 q];exact ex,fun ys' q=>by rw[US I sq2 q];exact ey⟩,⟨st2.1,st2.2.1,st2.2.2.1,st2.2.2.2.1,st2.2.2.2.2.1⟩,fun c hcm=>?_⟩
 obtain⟨o,e,_⟩:=Zar st hcm;rw[upd_ne fun q=>absurd (Heap.lt_size e) (Nat.not_lt.mpr (by rw[q];exact hT))]
 exact(hf c hcm).1
theorem Zdo{X:Cx}{z TI TO i1 i2 a b:Addr}(d:ZD z TI TO i1 i2)(hc:X.calm=true){i:Nat}{pins:List (Addr×Obj)}{s:Shared}{σ:L2.St}{H:Hp}{E:Value→Shared→Prop}(I:L2.Inv X pins σ H s)(hf:∀ c∈[z,TI,TO,i1,i2],FpOk X pins H c)(st:ZSt z TI TO i1 i2 a b i s.heap)(hg:(Itz X.K a b).stop i H) :
  wpAny (model X.prog X.w) X.A (pyNext (.ref z)) (fun r s1=>r=none∧L2.Inv X pins σ H s1) E s:=by
 obtain⟨xs,ys,sq1,sq2,hle⟩:=hg;obtain⟨its1,r1,p1,_⟩:=I.list sq1;obtain⟨its2,r2,p2,_⟩:=I.list sq2;obtain⟨u,v,hO⟩:=st.hO;have l1:=r1.length;have l2:=r2.length;have hend:its1.toArray[i]?=none∨its2.toArray[i]?=none:=by
  rw[List.getElem?_toArray,List.getElem?_toArray,List.getElem?_eq_none_iff,List.getElem?_eq_none_iff];omega
 refine wpAny_pyNext_zip_end (I.ok.hd hc) (Ud d st p1.isList p2.isList) st.hz st.hI hO st.h1 st.h2 p1.isList p2.isList hend fun h' k=>⟨rfl,Wy (wr:=[z,TO,i1,i2]) I (fun c hcm=>hf c (Zaq hcm)) fun c o hcn e=>?_⟩
 exact k c o (fun q=>hcn (by rw[q];exact .head _)) (fun q=>hcn (by rw[q];exact .tail _ (.head _))) (fun q=>hcn (by rw[q];exact .tail _ (.tail _ (.head _)))) (fun q=>hcn (by rw[q];exact .tail _ (.tail _ (.tail _ (.head _))))) e
theorem Zdk{P:Program}{w:World}{K:PySem.W.Frag}{elts:List Expr}{kk:Nat}{pos:Pos}(z TI TO i1 i2 a b:Addr)(d:ZD z TI TO i1 i2):Turn P w K (.Tuple elts kk pos) (Itz K a b) [z,TI,TO,i1,i2] z (ZSt z TI TO i1 i2 a b) where
 mem:=.head _
 obj:=fun i h st c hc=>Zar st hc
 keep:=fun i h h' st k=>by
  obtain⟨hz,hI,⟨u,v,hO⟩,h1,h2⟩:=st;exact⟨k z (.head _) _ hz,k TI (.tail _ (.head _)) _ hI,⟨u,v,k TO (.tail _ (.tail _ (.head _))) _ hO⟩,h1.at fun o e=>k i1 (.tail _ (.tail _ (.tail _ (.head _)))) o e,h2.at fun o e=>k i2 (.tail _ (.tail _ (.tail _ (.tail _ (.head _))))) o e⟩
 item:=fun X hP hw hK hc i pins s σ H E I hf st hg=>by
  subst hP hw hK;exact Zdp d hc I hf st hg
 done:=fun X hP hw hK hc i pins s σ H E I hf st hg=>by
  subst hP hw hK;exact Zdo d hc I hf st hg
 self:=fun _ _ _ _ _ st h=>wpAny_pyIter_zip st.hz h
theorem ZfY:bootBuiltins "zip"=some (.type "zip"):=by decide +kernel
theorem ZgF{X:Cx}{elts:List Expr}{kk:Nat}{tp:Pos}{x y:Expr}{ta:TA}{p pos:Pos}(hg:Gl X "zip")(hm:X.mg "zip"=none)(ha:PA X [x,y] ta)(hp:[x,y].all Zm=true):PI X (.Tuple elts kk tp) (.Call (.Name "zip" p) [x,y] [] pos) (Zh0 X.K ta):=by
 intro pins s σ H R I h;rw[List.all_cons,List.all_cons,Bool.and_eq_true,Bool.and_eq_true]at hp;have hs2:starEach [y] X.env=[(false,eval y X.env)]:=Ze hp.2.1;have hs:starEach [x,y] X.env=[(false,eval x X.env),(false,eval y X.env)]:=by rw[Ze hp.1,hs2]
 refine Call_ (ld_blt I hg hm ZfY (PyProof.Rows.callWith_type1 (thn (ha pos pins s σ H _ I h) fun us s1 ⟨vs,H1,I1,r1,q1⟩=>?_) (by rw[hs,hs2]) (by rw[hs2];rfl)))
 obtain⟨a,b,rfl,⟨xs,sq1⟩,⟨ys,sq2⟩,q⟩:=q1;cases r1 with
 |cons r rr=>
  cases rr with
  |cons r' rr=>
   cases rr;cases r;cases r';obtain⟨its1,_,p1,_⟩:=I1.list sq1;obtain⟨its2,_,p2,_⟩:=I1.list sq2;have ne:∀ {i j:Nat},i≠j→(s1.heap.objs.size+i:Nat)≠s1.heap.objs.size+j:=fun h z=>h (Nat.add_left_cancel z)
   refine call_zip_2 p1.isList p2.isList fun h' hz hI hO h1 h2 hsz k=>wpAny_pyIter_zip hz ?_
   refine⟨s1.heap.objs.size+4,[s1.heap.objs.size+4,s1.heap.objs.size+2,s1.heap.objs.size+3,s1.heap.objs.size,s1.heap.objs.size+1],_,_,H1,rfl,I1.kept (t':=s1.toks) k,Zdk _ _ _ _ _ a b ⟨ne (i:=2) (j:=4) (by decide),ne (i:=3) (j:=4) (by decide),ne (i:=0) (j:=4) (by decide),ne (i:=1) (j:=4) (by decide),ne (i:=2) (j:=3) (by decide),ne (i:=2) (j:=0) (by decide),ne (i:=2) (j:=1) (by decide),ne (i:=3) (j:=0) (by decide),ne (i:=3) (j:=1) (by decide),ne (i:=0) (j:=1) (by decide)⟩,⟨hz,hI,⟨_,_,hO⟩,h1,h2⟩,fun c hcm=>?_,q⟩
   have hc:s1.heap.objs.size≤c:=by
    simp only[List.mem_cons,List.not_mem_nil,or_false]at hcm;rcases hcm with rfl|rfl|rfl|rfl|rfl
    ·exact Nat.le_add_right _ _
    ·exact Nat.le_add_right _ _
    ·exact Nat.le_add_right _ _
    ·exact Nat.le_refl _
    ·exact Nat.le_add_right _ _
   exact I1.fpOk hc (I1.hok.fresh hc)
section
variable {prog:Program}{w:World}{A:Around}{E:Value→Shared→Prop}{s:Shared}
open Sem (wp)
open AutoSeq1 (wpAny_loadPart')
theorem Qu{it l:Addr}{i:Nat}{items:Array Value}{Q:Value→Shared→Prop}(hh:A.handled=none)(hit:s.heap.IsTupleIter it l i)(hl:s.heap.IsTuple l items)(hQ:∀ x h',items[i]?=some x→h'.IsTupleIter it l (i+1)→Heap.SameBut it s.heap h'→Q x { s with heap:=h' })(hE:items[i]?=none→∀ h' e,Heap.ExtBut it s.heap h'→(∃ o,h'.get? e=some o∧o.cls=.type "StopIteration")→E (.ref e) { s with heap:=h' }) :
  wpAny (model prog w) A (Builtin.SmallTypes.nextOf (.ref it)) Q E s:=by
 obtain⟨o,ho,hc,hd⟩:=id hit;obtain⟨ol,hol,_,nl,hdl⟩:=hl;unfold Builtin.SmallTypes.nextOf;refine wpAny_bind (wpAny_callSpecial?_slot (name:=Str.ofString "__next__") hit.typeIs PySem.F.slot_tuple_iterator_next
  (wpAny_call_entry PySem.F.slot_tuple_iterator_next hit.typeIs PySem.F.entry_tuple_iterator_next ?_ (PySem.F.args_tuple_iterator_next_1 _)))
 show wpAny _ _ (field (.ref it) 0 >>= _) _ _ s;refine wpAny_bind (wpAny_field ho hd (x:=.ref l) rfl ?_);show wpAny _ _ (if (Value.ref l==Value.none)=true then _ else _) _ _ s
 rw[if_neg (show ¬((Value.ref l==Value.none)=true) from Bool.false_ne_true)];show wpAny _ _ (field (.ref it) 1 >>= _) _ _ s;refine wpAny_bind (wpAny_field ho hd (x:=.int i 0) rfl ?_);show wpAny _ _ (seqItems? (.ref l) >>= _) _ _ s;refine wpAny_bind (wpAny_seqItems hol hdl ?_);cases hx:items[i]? with
 |some x=>
  simp only[Int.toNat_natCast,hx];refine wpAny_bind (wpAny_setField ho hd (by simp) (wpAny_pure ⟨x,rfl,wpAny_pure (hQ _ _ hx ?_ (Heap.SameBut.update ..))⟩))
  exact⟨_,Heap.get?_update_self _ ho (Obj.isFreed_of_fields (Obj.data_mapFields hd _)),(Obj.cls_mapFields ..).trans hc,by
   rw[Obj.data_mapFields hd];simp[rawInt]⟩
 |none=>
  simp only[Int.toNat_natCast,hx];refine wpAny_bind (wpAny_rule (wpAny_bind (wpAny_setField ho hd (by simp) ?_)))
  show wpAny _ _ (newExc (.type "StopIteration") [] >>= _) _ _ _;refine wpAny_bind ?_;simp only[newExc,newTuple];refine wpAny_bind (wpAny_newObj_type ?_ (by size_fits))
  refine wpAny_bind (m:=firstArgMember _ _) (wpAny_of_eq (a:=Value.none) (by first|rfl | (simp only[firstArgMember];rfl)) ?_)
  refine wpAny_newObj_type ?_ (by size_fits)
  simp only[raiseNew];refine wpAny_bind (wpAny_handled ?_)
  first|rw[show A.in1.handled=none from hh]|rw[hh]
  refine wpAny_bind (wpAny_pure (wpAny_throw ?_));exact hE hx _ _ (((Heap.SameBut.update ..).extBut.push _).push _) ⟨_,Heap.get?_push_size _ rfl,rfl⟩
theorem ZaP(hh:A.handled=none)(it l:Addr)(hne:l≠it)(items:Array Value) :
  Draws prog w A it [it,l] items.size (fun i v=>items[i]?=some v) (fun i h=>h.IsTupleIter it l i∧h.IsTuple l items) where
 live:=fun _ _ st=>let ⟨o,ho,_⟩:=st.1;⟨o,ho⟩
 frame:=fun _ _ _ st hk=>⟨st.1.at fun o e=>hk it (by simp) o e,st.2.at fun o e=>hk l (by simp) o e⟩
 item:=fun i s Q E hi st hQ=>Qu hh st.1 st.2 (fun x h' e hit' hs'=>hQ x h' s.toks e ⟨hit',st.2.extBut hs'.extBut hne⟩ hs') fun e=>absurd e (by simp[hi])
 done:=fun s Q E st hE=>Qu hh st.1 st.2 (fun x h' e=>absurd e (by simp)) fun _=>hE
theorem Vh(l:Addr)(items:Array Value)(n:Nat)(dct:Option Addr)(sl:Array (Option Value)) :
  Meets (Builtin.«enumerate.__new__» ⟨[.type "enumerate",.ref l],[]⟩) (fun _ R s=>s.heap.get? l=some { cls:=.type "tuple",dict:=dct,data:=.seq items n,slots:=sl } ∧
   R (.ok (.ret (.ref (s.heap.push { cls:=.type "tuple_iterator",data:=.fields #[.ref l,.int 0 0] }).objs.size)))
    { s with heap:=(s.heap.push { cls:=.type "tuple_iterator",data:=.fields #[.ref l,.int 0 0] }).push { cls:=.type "enumerate",data:=.fields #[.none,.bool false,.ref s.heap.objs.size,rawInt 0,.none,.none] } }):=
 .of_wp fun prog w A R s h=>by
  obtain⟨hp,g,d,tk,os⟩:=s;obtain⟨hl,h⟩:=h;have hsub:=sub_enumerate;have hL:Heap.IsTuple (Shared.heap ⟨hp,g,d,tk,os⟩) l items:=⟨_,hl,rfl,n,rfl⟩
  wp_walk using wpAny_loadPart' hl
  refine wpAny_stack_any fun st=>wpAny_pure ?_
  split
  ·rename_i c _ _ _ _ _
   cases (c==Value.type "enumerate")
   ·wp_walk using wpAny_loadPart' hl,wpAny_pyIter_tuple hL
    exact⟨_,rfl,h⟩
   ·wp_walk using wpAny_loadPart' hl,wpAny_pyIter_tuple hL
    exact⟨_,rfl,h⟩
  ·wp_walk using wpAny_loadPart' hl,wpAny_pyIter_tuple hL
   exact⟨_,rfl,h⟩
theorem VC{l:Addr}{items:Array Value}{Q:Value→Shared→Prop}(hL:s.heap.IsTuple l items)(h:∀ h',IsEnum h' (s.heap.objs.size+1) s.heap.objs.size 0 .none→h'.IsTupleIter s.heap.objs.size l 0→h'.objs.size=s.heap.objs.size+2→
   (∀ b o,s.heap.get? b=some o→h'.get? b=some o)→Q (.ref (s.heap.objs.size+1)) { s with heap:=h' }) :
  wpAny (model prog w) A (call (.type "enumerate") [.ref l]) Q E s:=by
 obtain⟨⟨c,dct,dt,sl⟩,hl,hc,n,hd⟩:=hL;replace hc:c=.type "tuple":=hc;replace hd:dt=.seq items n:=hd;subst hc hd;refine callType_new PySem.F.called_enumerate (by decide) (PySem.F.typeCall_enumerate_1 _) (PySem.F.newCall_enumerate_1 _) (fun obj=>PySem.F.args_object_init_2 obj _) PySem.F.entry_enumerate_new
  (Vh l items n dct sl) ⟨hl,?_⟩
 have hz:(s.heap.push { cls:=.type "tuple_iterator",data:=.fields #[.ref l,.int 0 0] }).objs.size=s.heap.objs.size+1:=Heap.size_push ..;show _∧_;rw[hz];have he:IsEnum ((s.heap.push { cls:=.type "tuple_iterator",data:=.fields #[.ref l,.int 0 0] }).push
   { cls:=.type "enumerate",data:=.fields #[.none,.bool false,.ref s.heap.objs.size,rawInt 0,.none,.none] }) (s.heap.objs.size+1) s.heap.objs.size 0 .none:=by
  have:=Heap.get?_push_size (s.heap.push { cls:=.type "tuple_iterator",data:=.fields #[.ref l,.int 0 0] })
   (o:={ cls:=.type "enumerate",data:=.fields #[.none,.bool false,.ref s.heap.objs.size,rawInt 0,.none,.none] }) rfl
  rw[hz]at this;exact this
 refine⟨⟨_,he,rfl⟩,h _ he ⟨_,Heap.get?_push_of_some _ (Heap.get?_push_size _ rfl),rfl,rfl⟩ (by rw[Heap.size_push,hz]) fun b o x=>Heap.get?_push_of_some _ (Heap.get?_push_of_some _ x)⟩
end
noncomputable def Ite(sq:Hp→List V→Prop):It:=
 ⟨fun i H=>∃ xs x,sq H xs∧xs[i]?=some x,fun i H v H'=>∃ T x,v=.ref T∧H T=none∧H'=upd H T (.tup [.int (i:Int),x])∧∀ xs,sq H xs→xs[i]?=some x,fun i H=>∃ xs,sq H xs∧xs.length=i⟩
noncomputable def ZbS(K:PySem.W.Frag)(ta:TA):TI:=fun σ H R=>ta σ H fun vs H1=>∃ a,vs=[.ref a]∧(((∃ xs,SqL K H1 a xs)∧R (Ite fun H=>SqL K H a) H1)∨((∃ xs,SqT K H1 a xs)∧R (Ite fun H=>SqT K H a) H1))
theorem V9{P:Program}{w:World}{K:PySem.W.Frag}{elts:List Expr}{kk:Nat}{pos:Pos}{sq:Hp→List V→Prop}{it1:Nat→Heap→Prop}(e it a:Addr)(d:e≠it)(hi:∀ i h,it1 i h→∃ o,h.get? it=some o∧∀ v,o.data≠.cell v)(hk:∀ i h h',it1 i h→(∀ o,h.get? it=some o→h'.get? it=some o)→it1 i h')(hD:∀ (X:Cx),X.prog=P→X.w=w→X.K=K→X.calm=true→∀ (pins:List (Addr×Obj)) (s:Shared) (σ:L2.St) (H:Hp) (i:Nat) (xs:List V),L2.Inv X pins σ H s→(∃ old,IsEnum s.heap e it i old)→it1 i s.heap→sq H xs→
   (∀ ys,sq H ys→ys=xs)∧∃ (its:List Value) (ob:Heap→Prop),Vals xs its∧a≠e∧ob s.heap∧Draws P w X.A.in1 it [it,a] its.toArray.size (fun i v=>its.toArray[i]?=some v) (fun i h=>it1 i h∧ob h)) :
  Turn P w K (.Tuple elts kk pos) (Ite sq) [e,it] e (fun i h=>(∃ old,IsEnum h e it i old)∧it1 i h) where
 mem:=by simp
 obj:=fun i h st c hc=>by
  obtain⟨⟨old,he⟩,h1⟩:=st;simp only[List.mem_cons,List.not_mem_nil,or_false]at hc;rcases hc with rfl|rfl
  ·exact⟨_,he,fun v q=>by cases (show Data.fields _=Data.cell v from q)⟩
  ·exact hi i h h1
 keep:=fun i h h' st k=>by
  obtain⟨⟨old,he⟩,h1⟩:=st;exact⟨⟨old,k e (by simp) _ he⟩,hk i h h' h1 fun o g=>k it (by simp) o g⟩
 item:=by
  intro X hP hw hK hc i pins s σ H E I hf st hg;obtain⟨xs,x,hs,ex⟩:=hg;obtain⟨hone,its,ob,r,ne,o0,D⟩:=hD X hP hw hK hc pins s σ H i xs I st.1 st.2 hs;subst hP hw hK;have W:=WalksT.enumerateD D e d (by simp only[List.mem_cons,List.not_mem_nil,or_false];exact fun q=>q.elim d fun q=>ne q.symm) (by simp)
  have l1:=r.length;have ix:i < xs.length:=(List.getElem?_eq_some_iff.mp ex).1;refine W.item i s _ _ (by simp;omega) ⟨st.1,st.2,o0⟩ fun T vals h' tk hv hT tup mid k1=>?_
  obtain⟨t,u,eu,rfl⟩:=hv;refine⟨.ref T,rfl,W.go elts kk pos i T _ _ _ mid fun h2' st2 k2=>?_⟩
  have nT:=W.apart i T h' mid;have ru:RelV x u:=by
   obtain⟨u',e1,e2⟩:=r.get ex;have:its[i]?=some u:=by simpa using eu
   rw[this]at e1;cases e1;exact e2
  have tup2:h2'.IsTuple T #[.int i t,u]:=tup.at fun o g=>k2 T o nT g
  have I2:L2.Inv X pins σ (upd H T (.tup [.int (i:Int),x])) { s with heap:=h2',toks:=tk }:=XJ (wr:=[e,it]) I hf (fun c o hcn g=>k2 c o hcn (k1 c o hcn g)) hT ⟨show 2≤sizeLine by decide,[.int i t,u],.cons ⟨t,rfl⟩ (.cons ru .nil),tup2⟩
  refine⟨.ref T,_,I2,rfl,⟨T,x,rfl,I.hok.fresh hT,rfl,fun xs' q=>by rw[hone _ q];exact ex⟩,⟨st2.1,st2.2.1⟩,fun c hcm=>?_⟩
  have:c≠T:=fun q=>by
   have lt:∀ {o},s.heap.get? c=some o→False:=fun g=>absurd (Heap.lt_size g) (Nat.not_lt.mpr (by rw[q];exact hT))
   obtain⟨⟨_,he⟩,h1⟩:=st;obtain⟨_,g,_⟩:=hi _ _ h1;simp only[List.mem_cons,List.not_mem_nil,or_false]at hcm;rcases hcm with rfl|rfl
   ·exact lt he
   ·exact lt g
  rw[upd_ne this];exact(hf c hcm).1
 done:=by
  intro X hP hw hK hc i pins s σ H E I hf st hg;obtain⟨xs,hs,hle⟩:=hg;obtain⟨hone,its,ob,r,ne,o0,D⟩:=hD X hP hw hK hc pins s σ H i xs I st.1 st.2 hs;subst hP hw hK;have W:=WalksT.enumerateD D e d (by simp only[List.mem_cons,List.not_mem_nil,or_false];exact fun q=>q.elim d fun q=>ne q.symm) (by simp)
  have l1:=r.length;have e1:i=its.toArray.size:=by simp;omega
  subst e1;exact W.done s _ _ ⟨st.1,st.2,o0⟩ fun h' tk k=>⟨rfl,Wy (wr:=[e,it]) I hf k⟩
 self:=fun _ _ _ _ _ st h=>let ⟨⟨_,he⟩,_⟩:=st;wpAny_pyIter_enum he h
theorem Qv{h:Heap}{e it:Addr}{i:Int}{old:Value}{a:Addr}{o:Obj}{n:String}(he:IsEnum h e it i old)(g:h.get? a=some o)(c:o.cls=.type n)(hn:¬n = "enumerate"):a≠e:=fun q=>by
 subst q;have he:h.get? a=some _:=he;rw[g]at he;cases he;exact Wq c fun z=>hn z.symm
theorem Qw{h:Heap}{a b:Addr}{o u:Obj}{n m:String}(g:h.get? a=some o)(c:o.cls=.type n)(g2:h.get? b=some u)(c2:u.cls=.type m)(hn:¬n=m):a≠b:=fun q=>by
 subst q;rw[g]at g2;cases g2;rw[c]at c2;exact Wq c2 hn
theorem ZdD:bootBuiltins "enumerate"=some (.type "enumerate"):=by decide +kernel
theorem Zex{X:Cx}{elts:List Expr}{kk:Nat}{tp:Pos}{x:Expr}{ta:TA}{p pos:Pos}(hg:Gl X "enumerate")(hm:X.mg "enumerate"=none)(ha:PA X [x] ta)(hs:starEach [x] X.env=[(false,eval x X.env)]):PI X (.Tuple elts kk tp) (.Call (.Name "enumerate" p) [x] [] pos) (ZbS X.K ta):=by
 intro pins s σ H R I h;refine Call_ (ld_blt I hg hm ZdD (PyProof.Rows.callWith_type1 (thn (ha pos pins s σ H _ I h) fun us s1 ⟨vs,H1,I1,r1,q1⟩=>?_) hs rfl))
 obtain⟨a,rfl,q⟩:=q1;have fo:∀ c∈[s1.heap.objs.size+1,s1.heap.objs.size],FpOk X pins H1 c:=fun c hcm=>by
  have hc:s1.heap.objs.size≤c:=by
   simp only[List.mem_cons,List.not_mem_nil,or_false]at hcm;rcases hcm with rfl|rfl
   ·exact Nat.le_add_right _ _
   ·exact Nat.le_refl _
  exact I1.fpOk hc (I1.hok.fresh hc)
 cases r1 with
 |cons r rr=>
  cases rr;cases r;rcases q with⟨⟨xs,sq⟩,q⟩|⟨⟨xs,sq⟩,q⟩
  ·obtain⟨its,_,p1,_⟩:=I1.list sq
   refine call_enumerate_list p1.isList fun h' he h1 hsz k=>wpAny_pyIter_enum he ?_
   refine⟨s1.heap.objs.size+1,[s1.heap.objs.size+1,s1.heap.objs.size],_,_,H1,rfl,I1.kept (t':=s1.toks) k,V9 (it1:=fun i h=>h.IsListIter _ a i) _ _ a (Nat.succ_ne_self _) (fun i h st=>?_) (fun i h h' st k=>st.at k) (fun X hP hw hK hc pins s σ H i xs I he h1 sq=>?_),⟨⟨_,he⟩,h1⟩,fo,q⟩
   ·obtain⟨o,g,_,f⟩:=st
    exact⟨o,g,fun v q=>by rw[f]at q;cases q⟩
   ·rw[←hP,←hw]
    rw[←hK]at sq ⊢;obtain⟨its,r,p,_⟩:=I.list sq;obtain⟨⟨_,he⟩,⟨o2,g2,c2,_⟩⟩:=And.intro he h1;obtain⟨o,g,c,_⟩:=p.isList;exact⟨fun ys hy=>US I sq hy,its,fun h=>h.IsList a its.toArray,r,Qv he g c (by decide),p.isList,Draws.list (show X.A.in1.handled=none from I.ok.hd hc) _ a (Qw g c g2 c2 (by decide)) its.toArray⟩
  ·obtain⟨its,_,p1,_⟩:=I1.tuple sq
   refine VC (show s1.heap.IsTuple a its.toArray from p1) fun h' he h1 hsz k=>wpAny_pyIter_enum he ?_
   refine⟨s1.heap.objs.size+1,[s1.heap.objs.size+1,s1.heap.objs.size],_,_,H1,rfl,I1.kept (t':=s1.toks) k,V9 (it1:=fun i h=>h.IsTupleIter _ a i) _ _ a (Nat.succ_ne_self _) (fun i h st=>?_) (fun i h h' st k=>st.at k) (fun X hP hw hK hc pins s σ H i xs I he h1 sq=>?_),⟨⟨_,he⟩,h1⟩,fo,q⟩
   ·obtain⟨o,g,_,f⟩:=st
    exact⟨o,g,fun v q=>by rw[f]at q;cases q⟩
   ·rw[←hP,←hw]
    rw[←hK]at sq ⊢;obtain⟨its,r,p,_⟩:=I.tuple sq;have p:s.heap.IsTuple a its.toArray:=p;obtain⟨⟨_,he⟩,⟨o2,g2,c2,_⟩⟩:=And.intro he h1;obtain⟨o,g,c,_⟩:=id p;exact⟨fun ys hy=>I.tuple_inj hy sq,its,fun h=>h.IsTuple a its.toArray,r,Qv he g c (by decide),p,ZaP (show X.A.in1.handled=none from I.ok.hd hc) _ a (Qw g c g2 c2 (by decide)) its.toArray⟩
theorem VP:∀ {xs:List D}{k i:Nat}{x:D},xs[i]?=some x→(VO k xs)[i]?=some (.int ((k+i:Nat):Int),x)
 |[],_,_,_,h=>nomatch h
 |x :: xs,k,0,_,h=>by cases h;rfl
 |x :: xs,k,i+1,y,h=>by
  show(VO (k+1) xs)[i]?=_;rw[VP (show xs[i]?=some y from h),show k+1+i=k+(i+1) by omega]
theorem Wm:∀ {xs:List D}{k:Nat},(VO k xs).length=xs.length
 |[],_=>rfl
 |x :: xs,k=>congrArg (·+1) Wm
theorem ZbZ{K:PySem.W.Frag}{fi:Ev}{f:Ex}{i j:Nat}(E:Ends)(σ:L2.St)(H:Hp)(h:tS K (VU i j fi f) E σ H):tFor (ZbS K (tCons (tE K fi) tNil)) (gTup K 2 (gCons (gName i) (gCons (gName j) gNil))) (tS K f) E σ H:=by
 obtain⟨ad,ρ,st,r,st',En,S,e,p⟩:=Z0 h;unfold VU at e;split at e
 ·rename_i x st1 q1
  split at e
  ·rename_i xs ok hw
   have core:∀ {sq:Hp→List V→Prop}{ad1:List Addr}{H1:Hp} (Good:List Addr→Hp→Prop),(∀ ad H ad' H',Ext ad H ad' H'→Good ad H→Good ad' H')→Good ad1 H1→
     (∀ ad H st,Good ad H→StOk K ad H st→ok st→∃ vs,Dens K ad H vs xs∧sq H vs)→Ext ad H ad1 H1→StOk K ad1 H1 st1→Zhy K f i j (Ite sq) E σ H1:=fun Good gm g1 hv x1 S1=>
    ⟨_,⟨_,.mk (Nat.zero_add _) (En.mono x1) S1 g1 e (p.later x1)⟩,Ve gm (fun ad H st g S o=>by
      obtain⟨vs,rv,sv⟩:=hv ad H st g S o;exact⟨vs,sv,by rw[rv.length,Wm]⟩) fun k ad H st q g S o hq=>by
      obtain⟨vs,rv,sv⟩:=hv ad H st g S o;have hk:k < xs.length:=by rw[←Wm (k:=0)];exact(List.getElem?_eq_some_iff.mp hq).1
      have hg:=List.getElem?_eq_getElem hk;rw[VP (k:=0) hg,Nat.zero_add]at hq;cases hq;obtain⟨w,ew,dw⟩:=rv.get hg;exact⟨_,w,⟨vs,w,sv,ew⟩,.int _,dw,fun x H' ⟨pt,y1,e1,e2,e3,hy⟩=>⟨pt,e1,e2,by have z:=hy vs sv;rw[ew]at z;cases z;exact e3⟩⟩⟩
   refine⟨ad,ρ,st,x,st1,En,S,q1,fun v ad1 H1 x1 S1 d1=>?_⟩
   cases x with
   |tup ys=>
    cases hw;obtain⟨a,vs,rfl,ha,rv⟩:=d1.ofTup;exact⟨a,rfl,.inr ⟨⟨vs,ha.sq⟩,core (fun ad H=>TupAt K H a vs∧Dens K ad H vs xs) (fun _ _ _ _ x g=>⟨g.1.mono x,g.2.mono x⟩) ⟨ha,rv⟩ (fun ad H st g _ _=>⟨vs,g.2,g.1.sq⟩) x1 S1⟩⟩
   |lst l=>
    have hw:(match st1[l]? with
     |some c=>some (c.2,fun s=>s[l]?=some c)
     |none=>none)=some (xs,ok):=hw
    cases hc:st1[l]? with
    |none=>rw[hc]at hw;cases hw
    |some c=>
     rw[hc]at hw;cases hw;obtain⟨a,rfl,ha⟩:=d1.ofLst;obtain⟨vs,rv,sq⟩:=S1.list ha (show st1[l]?=some (c.1,c.2) from hc);exact⟨a,rfl,.inl ⟨⟨vs,sq⟩,core (fun ad H=>LA ad H l a) (fun _ _ _ _ x g=>g.mono x) ha (fun ad H st g S e=>S.list g (show st[l]?=some (c.1,c.2) from e)) x1 S1⟩⟩
   |_=>cases hw
  ·cases e
 ·cases e
theorem Je{X:Cx}{sc:Scope}{N:List Str}{it a:Expr}{elts:List Expr}{kk:Nat}{tp:Pos}{x:CE}(K:Cxt X G F sc N)(h:Up G sc it=some a)(hp:Zm a=true)(A:PE X a (tE X.K (ev F x))):Zm it=true∧PI X (.Tuple elts kk tp) it (ZbS X.K (tCons (tE X.K (ev F x)) tNil)):=by
 obtain⟨as,h1,h2⟩:=Option.bind_eq_some_iff.mp h;rw[J9 h2]at h1;obtain⟨_,_,rfl,hg,hm⟩:=Uq K h1;exact⟨rfl,Zex hg hm (pa1 hp A) (Ze hp)⟩
theorem VI{X:Cx}{sc:Scope}{N:List Str}{it:Expr}{as:List Expr}(K:Cxt X G F sc N)(h:Wh G sc it=some as):∃ p pos a b,it=.Call (.Name "zip" p) [a,b] [] pos∧as=[a,b]∧Gl X "zip"∧X.mg "zip"=none:=by
 obtain⟨bs,h1,h2⟩:=Option.bind_eq_some_iff.mp h;obtain⟨p,pos,rfl,hg,hm⟩:=Uq K h1;refine Ws h2 fun hl h3=>?_
 cases h3;cases as with
 |nil=>cases hl
 |cons a as=>cases as with
  |nil=>cases hl
  |cons b as=>cases as with
   |nil=>exact⟨p,pos,_,_,rfl,rfl,hg,hm⟩
   |cons _ _=>cases hl
theorem Ze2{n i j:Nat}(ihA:YJ G F n)(ihS:Z2 G F n){X:Cx}{sc:Scope}{N:List Str}(K:CxtS X G F sc N){c:CS}{x y:Str}{it:Expr}{as:List Expr}{b:List Stmt}{p p2 pos tp:Pos}{ctx:Nat}(hi:N.idxOf? x=some i)(hj:N.idxOf? y=some j)(hz:Wh G sc it=some as)(h:o2 (CS.forP i j) (cEs G n sc N as) (cSs G n sc N b)=some c):PS X (.For (.Tuple [.Name x p,.Name y p2] ctx tp) it b [] pos) (tS X.K (ex F c)):=by
 refine Ye (P:=fun c=>PS X _ (tS X.K (ex F c))) h fun ci cb hc hb=>?_
 obtain⟨p1,p3,a,b',rfl,rfl,hg,hm⟩:=VI K.toCxt hz;obtain⟨A,_,pl,_⟩:=ihA X sc N K.toCxt _ ci hc;exact ZH (ps_for (passes K) K.calm (ZgF hg hm A pl) (pg_tup K.calm (pgs_cons (YB K hi) (pgs_cons (YB K hj) pgs_nil))) (ihS X sc N K _ cb hb) (ZW rfl)) Zb2
theorem Ze1{n i j:Nat}(ihE:Zx G F n)(ihS:Z2 G F n){X:Cx}{sc:Scope}{N:List Str}(K:CxtS X G F sc N){c:CS}{x y:Str}{it e:Expr}{b:List Stmt}{p p2 pos tp:Pos}{ctx:Nat}(hi:N.idxOf? x=some i)(hj:N.idxOf? y=some j)(hz:WI G sc it=some e)(h:o2 (CS.forE i j) (cE G n sc N e) (cSs G n sc N b)=some c):PS X (.For (.Tuple [.Name x p,.Name y p2] ctx tp) it b [] pos) (tS X.K (ex F c)):=by
 refine Ye (P:=fun c=>PS X _ (tS X.K (ex F c))) h fun ci cb hc hb=>?_
 obtain⟨pl,A⟩:=Je (elts:=[.Name x p,.Name y p2]) (kk:=ctx) (tp:=tp) K.toCxt hz (Zf hc) (ihE X sc N K.toCxt _ ci hc).pe;exact ZH (ps_for (passes K) K.calm A (pg_tup K.calm (pgs_cons (YB K hi) (pgs_cons (YB K hj) pgs_nil))) (ihS X sc N K _ cb hb) (ZW pl)) ZbZ
theorem ZeZ{n:Nat}(ihE:Zx G F n)(ihS:Z2 G F n){X:Cx}{sc:Scope}{N:List Str}(K:CxtS X G F sc N){c:CS}{x y z:Str}{it:Expr}{b:List Stmt}{p p2 p3 pos tp:Pos}{ctx:Nat}(h:o3 (fun(p:Nat×Nat) (q:Nat×CE) b=>CS.for4 p.1 p.2 q.1 q.2 b) (o2 Prod.mk (N.idxOf? x) (N.idxOf? y)) (o2 Prod.mk (N.idxOf? z) (cE G n sc N it)) (cSs G n sc N b)=some c):PS X (.For (.Tuple [.Name x p,.Name y p2,.Name z p3] ctx tp) it b [] pos) (tS X.K (ex F c)):=
 Vk (P:=fun c=>PS X _ (tS X.K (ex F c))) h fun u v cb hu hv hb=>Ye (P:=fun u:Nat×Nat=>PS X _ (tS X.K (ex F (.for4 u.1 u.2 v.1 v.2 cb)))) hu fun i j hi hj=>Ye (P:=fun v:Nat×CE=>PS X _ (tS X.K (ex F (.for4 i j v.1 v.2 cb)))) hv fun l ci hl hc=>
  ZH (ps_for (passes K) K.calm (pi_tup (ihE X sc N K.toCxt _ ci hc).pe) (pg_tup K.calm (pgs_cons (YB K hi) (pgs_cons (YB K hj) (pgs_cons (YB K hl) pgs_nil)))) (ihS X sc N K _ cb hb) (ZW (Zf hc))) ZbY
theorem ZeX{n i j:Nat}(ihE:Zx G F n)(ihS:Z2 G F n){X:Cx}{sc:Scope}{N:List Str}(K:CxtS X G F sc N){c:CS}{x y:Str}{it:Expr}{b:List Stmt}{p p2 pos tp:Pos}{ctx:Nat}(hi:N.idxOf? x=some i)(hj:N.idxOf? y=some j)(h:o2 (CS.for2 i j) (cE G n sc N it) (cSs G n sc N b)=some c):PS X (.For (.Tuple [.Name x p,.Name y p2] ctx tp) it b [] pos) (tS X.K (ex F c)):=by
 refine Ye (P:=fun c=>PS X _ (tS X.K (ex F c))) h fun ci cb hc hb=>?_
 exact fun pins s σ H D I q=>by
  obtain⟨_,_,_,_,_,_,_,e,_⟩:=Z0 q;cases e
theorem Zg9{n:Nat}(ihE:Zx G F n){X:Cx}{sc:Scope}{N:List Str}(K:CxtS X G F sc N){c:CS}{x m:Str}{e:Expr}{p ap cp pos:Pos}(h:ZhH sc N x m ap cp (cE G n sc N e)=some c):PS X (.Expr (.Call (.Attribute (.Name x p) m ap) [e] [] cp) pos) (tS X.K (ex F c)):=by
 refine Ws h fun hc h=>?_
 by_cases e1:m = "append"
 ·subst e1
  rw[if_pos rfl]at h;exact Ye (P:=fun c=>PS X _ (tS X.K (ex F c))) h fun i y hi hx=>ZH (ps_expr (pe_bm PySem.F.plainAttrs_list PySem.F.slot_list_append PySem.F.type_list_append mt_append (ZcG K.toCxt hc.1 hi) (pa1 (Zf hx) (ihE X sc N K.toCxt _ y hx).pe) rfl (by rw[Ze (Zf hx)];rfl) hc.2 (Ze (Zf hx)) rfl) rfl) ZdX
 ·rw[if_neg e1]at h
  by_cases e2:m = "extend"
  ·subst e2
   rw[if_pos rfl]at h;exact Ye (P:=fun c=>PS X _ (tS X.K (ex F c))) h fun i y hi hx=>ZH (ps_expr (pe_bm PySem.F.plainAttrs_list PySem.F.slot_list_extend PySem.F.type_list_extend mt_extend (ZcG K.toCxt hc.1 hi) (pa1 (Zf hx) (ihE X sc N K.toCxt _ y hx).pe) rfl (by rw[Ze (Zf hx)];rfl) hc.2 (Ze (Zf hx)) rfl) rfl) ZdZ
  ·rw[if_neg e2]at h;cases h
theorem ZeV{n:Nat}(ihE:Zx G F n)(hA:WS G F n){X:Cx}{sc:Scope}{N:List Str}(K:CxtS X G F sc N){c:CS}{tg e:Expr}{pos:Pos}(h:ZhI N tg e (cE G n sc N e)=some c):PS X (.Assign [tg] e pos) (tS X.K (ex F c)):=by
 have no:∀ {P:Prop},(none:Option CS)=some c→P:=fun z=>nomatch z
 cases tg with
 |Name x p=>exact Zha ihE hA K h
 |Tuple es ctx tp=>cases es with
  |nil=>exact no h
  |cons a es=>cases a with
   |Name _ _=>cases es with
    |nil=>exact no h
    |cons b es=>cases b with
     |Name _ _=>cases es with
      |nil=>exact Ze3 ihE K h
      |cons c2 es=>cases c2 with
       |Name _ _=>cases es with
        |nil=>exact Ze4 ihE K h
        |cons _ _=>exact no h
       |_=>exact no h
     |_=>exact no h
   |_=>exact no h
 |_=>exact no h
theorem Ze0{n:Nat}(ihE:Zx G F n)(ihA:YJ G F n)(ihS:Z2 G F n){X:Cx}{sc:Scope}{N:List Str}(K:CxtS X G F sc N){c:CS}{tg it:Expr}{b:List Stmt}{pos:Pos}(h:Zge G sc N (cE G n sc N) (cEs G n sc N) tg it (cSs G n sc N b)=some c):PS X (.For tg it b [] pos) (tS X.K (ex F c)):=by
 have no:∀ {P:Prop},(none:Option CS)=some c→P:=fun z=>nomatch z
 cases tg with
 |Name x p=>
  unfold Zge at h;cases hr:Wv G sc it with
  |some as=>
   rw[hr]at h;exact ZeY ihA ihS K hr h
  |none=>
   rw[hr]at h;exact ZeW ihE ihS K h
 |Tuple es ctx tp=>cases es with
  |nil=>exact no h
  |cons a es=>cases a with
   |Name x p=>cases es with
    |nil=>exact no h
    |cons b2 es=>cases b2 with
     |Name y p2=>cases es with
      |nil=>
       replace h:((o2 (fun i j=>og (i≠j) (some (i,j))) (N.idxOf? x) (N.idxOf? y)).join.bind fun p=>(match Wh G sc it with
        |some as=>o2 (CS.forP p.1 p.2) (cEs G n sc N as) (cSs G n sc N b)
        |none=>match WI G sc it with
         |some e=>o2 (CS.forE p.1 p.2) (cE G n sc N e) (cSs G n sc N b)
         |none=>o2 (CS.for2 p.1 p.2) (cE G n sc N it) (cSs G n sc N b)))=some c:=h
       refine b_e h fun q hq h=>j_e hq fun hq=>Ye (P:=fun o=>o=some q→PS X _ (tS X.K (ex F c))) hq (fun i j hi hj e=>Ws e fun _ e=>?_) rfl
       cases e;cases hz:Wh G sc it with
       |some as=>
        rw[hz]at h;exact Ze2 ihA ihS K hi hj hz h
       |none=>
        rw[hz]at h;dsimp only at h;cases he:WI G sc it with
        |some e=>
         rw[he]at h;exact Ze1 ihE ihS K hi hj he h
        |none=>
         rw[he]at h;exact ZeX ihE ihS K hi hj h
      |cons c2 es=>cases c2 with
       |Name _ _=>cases es with
        |nil=>exact ZeZ ihE ihS K h
        |cons _ _=>exact no h
       |_=>exact no h
     |_=>exact no h
   |_=>exact no h
 |_=>exact no h
theorem ZeU{n:Nat}(ihE:Zx G F n){X:Cx}{sc:Scope}{N:List Str}(K:CxtS X G F sc N){c:CS}{m:Str}{o k e:Expr}{p ap cp pos:Pos}(h:og (m = "append"∧(ap.endLine==cp.line)=true) (o2 CS.app2 (cE G n sc N (.Subscript o k p)) (cE G n sc N e))=some c):PS X (.Expr (.Call (.Attribute (.Subscript o k p) m ap) [e] [] cp) pos) (tS X.K (ex F c)):=by
 refine Ws h fun hc h'=>?_
 obtain⟨e1,hl⟩:=hc;subst e1;exact Ye (P:=fun c=>PS X _ (tS X.K (ex F c))) h' fun z y hz hx=>ZH (ps_expr (pe_bm PySem.F.plainAttrs_list PySem.F.slot_list_append PySem.F.type_list_append mt_append (ihE X sc N K.toCxt _ z hz).pe (pa1 (Zf hx) (ihE X sc N K.toCxt _ y hx).pe) rfl (by rw[Ze (Zf hx)];rfl) hl (Ze (Zf hx)) rfl) rfl) ZbW
theorem ZeT{n:Nat}(ihE:Zx G F n){X:Cx}{sc:Scope}{N:List Str}(K:CxtS X G F sc N){c:CS}{v:Expr}{pos:Pos}(h:ZhG sc N (cE G n sc N) v=some c):PS X (.Expr v pos) (tS X.K (ex F c)):=by
 have no:∀ {P:Prop},(none:Option CS)=some c→P:=fun z=>nomatch z
 cases v with
 |Call f as kw cp=>cases f with
  |Attribute o m ap=>cases o with
   |Name x p=>cases as with
    |nil=>exact no h
    |cons e es=>cases es with
     |nil=>cases kw with
      |nil=>exact Zg9 ihE K h
      |cons _ _=>exact no h
     |cons _ _=>exact no h
   |Subscript o k p=>cases as with
    |nil=>exact no h
    |cons e es=>cases es with
     |nil=>cases kw with
      |nil=>exact ZeU ihE K h
      |cons _ _=>exact no h
     |cons _ _=>exact no h
   |_=>exact no h
  |Name f fp=>exact Zg8 ihE K h
  |_=>exact no h
 |_=>exact no h
theorem QS{n:Nat}(ihE:Zx G F n)(ihA:YJ G F n)(ihS:Z2 G F n)(hA:WS G F n):QZ G F (n+1):=by
 intro X sc N K s c h;have no:∀ {P:Prop},(none:Option CS)=some c→P:=fun z=>nomatch z
 cases s with
 |Assign tgs e pos=>cases tgs with
  |nil=>exact no h
  |cons t ts=>cases ts with
   |cons _ _=>cases t with
    |Subscript o k p=>cases o<;>exact no h
    |_=>exact no h
   |nil=>cases t with
    |Subscript o k p=>cases o with
     |Name x q=>exact Zhb ihE K h
     |_=>exact no h
    |_=>exact ZeV ihE hA K h
 |Return e pos=>cases e with
  |none=>exact no h
  |some e=>exact Zhc ihE K h
 |If e a b pos=>exact Ziz ihE ihS K h
 |For t it b oe pos=>cases oe with
  |cons _ _=>exact no h
  |nil=>exact Ze0 ihE ihA ihS K h
 |Expr v pos=>exact ZeT ihE K h
 |Pass pos=>
  cases (show some CS.skip=some c from h)
  exact ZH ps_pass Ql
 |Break pos=>
  cases (show some CS.brk=some c from h)
  exact ZH ps_break ZdY
 |Raise a b pos=>
  cases (show some CS.stop=some c from h)
  exact fun pins s σ H D I q=>by
   obtain⟨_,_,_,_,_,_,_,e,_⟩:=Z0 q;cases e
 |Continue pos=>
  cases (show some CS.cont=some c from h)
  exact ZH ps_continue ZbX
 |_=>exact no h
theorem UR{n:Nat}(ihS:QZ G F n)(ihSs:Z2 G F n):Z2 G F (n+1):=by
 intro X sc N K s c h;cases s with
 |nil=>
  simp only[cSs]at h;cases h;exact Zag pss_nil Ql
 |cons s r=>
  exact Ye (P:=fun c=>PSs X _ (tS X.K (ex F c))) (show o2 CS.seq (cS G n sc N s) (cSs G n sc N r)=some c from h) fun a b ha hb=>Zag (pss_cons (ihS X sc N K s a ha) (ihSs X sc N K r b hb)) Zd8
end
end Dp



namespace Dp
open PySem PySem.Spec PyProof.Rows L2
variable [ClsTab]
def Yu(G:Gs)(F:Nat→Fn):Prop:=∀ n,Zx G F n→(∀ X sc N,Cxt X G F sc N→∀ elt gens sc2 pos c,cE G (n+1) sc N (.ListComp elt gens sc2 pos)=some c→SE X F (.ListComp elt gens sc2 pos) c)∧WS G F (n+1)
theorem Y2{G:Gs}{F:Nat→Fn}(hc:Yu G F):∀ n,(Zx G F n∧YJ G F n∧Uh G F n)∧QZ G F n∧Z2 G F n∧WS G F n
 |0=>⟨⟨fun X sc N K e c h=>(nomatch (show(none:Option CE)=some c from h)),fun X sc N K e c h=>(nomatch (show(none:Option CE)=some c from h)),fun X sc N K e c h=>(nomatch (show(none:Option CE)=some c from h))⟩,fun X sc N K e c h=>(nomatch (show(none:Option CS)=some c from h)),fun X sc N K e c h=>(nomatch (show(none:Option CS)=some c from h)),fun X sc N K x i p elt gens sc2 epos pos c _ h=>(nomatch (show(none:Option CE)=some c from h))⟩
 |n+1=>by
  obtain⟨⟨hE,hA,hO⟩,hS,hSs,hCA⟩:=Y2 hc n;exact⟨⟨JD hE hA hO (hc n hE).1,QQ hE hA,QR hE⟩,QS hE hA hSs hCA,UR hS hSs,(hc n hE).2⟩
def Zav(K:PySem.W.Frag)(G:Gs)(T:Nat→Option FD)(x y:Str)(i:Nat)(f:Addr)(fd:FuncData)(pn N:List Str):Prop:=∃ (st:Stmt) (oc:Value) (od:Option Addr) (dV kV doc pm:Value) (an:Option Addr) (cdv ct:Value) (osl:Array (Option Value)) (code:CS),
  fd=PySem.W.fnOf x y (defArgs st) (defBody st) (defScope st) dV kV doc pm an cdv ct∧K.lookup f=some ⟨oc,od,.func fd,osl⟩∧PySem.W.codeIn K cdv y=true∧FnScope N pn (defScope st)∧(∀ y∈N,Loc (defScope st) y) ∧
  cSs G 60 (defScope st) N (defBody st)=some code∧T i=some ⟨pn.length,N.length,code⟩
def Zat(K:PySem.W.Frag)(mg:Str→Option Value)(G:Gs)(T:Nat→Option FD)(i:Nat)(f:Addr)(fd:FuncData)(pn:List Str):Prop:=∀ (P:Program) (w:World) (base:Heap) (n:Nat),(∀ m,m≤n→∀ A,Room m A→∀ y g,G.lookup y=some g→GOk P w K mg base A (run T m) y g)→FnOk P w K mg base CX0 (n+1) f fd pn (spD K (run T (n+1) i))
structure DefOk(K:PySem.W.Frag)(mg:Str→Option Value)(G:Gs)(T:Nat→Option FD)(x:Str)(i:Nat)(ds:List D)(f:Addr)(fd:FuncData)(pn N:List Str):Prop where
 ob:Zav K G T x x i f fd pn N∨Zat K mg G T i f fd pn
 kp:PySem.W.keepIn K (.ref f)=true
 at_:mg x=some (.ref f)
 bn:∀ m,m≤ds.length→∃ dvs us,(∀ ad H,Dens K ad H dvs (ds.drop m))∧Vals dvs us∧Binds K fd pn us
structure MethOk(K:PySem.W.Frag)(G:Gs)(T:Nat→Option FD)(C:Addr)(x y:Str)(i:Nat)(f:Addr)(fd:FuncData)(pn N:List Str):Prop where
 ob:Zav K G T x y i f fd pn N
 mt:Meth K C x f
 bn:Binds K fd pn []
structure Text(Pm:Params)(K:PySem.W.Frag)(mg:Str→Option Value)(G:Gs)(T:Nat→Option FD):Prop where
 cst:∀ x d,G.lookup x=some (.cst d)→∃ v u,mg x=some u∧RelV v u∧∀ ad H,Den K ad H v d
 blt:∀ x,G.lookup x=some .blt→mg x=none
 dct:∀ x ks ds,G.lookup x=some (.dct ks ds)→JK Pm K mg x ks ds
 fn:∀ x i ps ds,G.lookup x=some (.fn i ps ds)→∃ f fd pn N,DefOk K mg G T x i ds f fd pn N
 cls:∀ x i ms subs,G.lookup x=some (.cls i ms subs)→(mg x=some (.ref (ClsTab.ca i))∧NewOk K (ClsTab.ca i)∧∀ i',subs.contains i'=true→SubOk K (ClsTab.ca i') (ClsTab.ca i)) ∧
  ∀ m j ps,ms.lookup m=some (j,ps)→∃ y f fd pn N,MethOk K G T (ClsTab.ca i) m y j f fd pn N
section
variable {P:Program}{w:World}{K:PySem.W.Frag}{mg:Str→Option Value}{base:Heap}{G:Gs}{T:Nat→Option FD}
theorem UX{sc:Scope}{x:Str}(h:X5 sc x=true):Vis sc x:=by
 unfold X5 at h;rw[Bool.and_eq_true]at h;have h:=h.2;split at h
 ·rename_i q;exact .inl q
 ·rename_i q;exact .inr (.inl q)
 ·rename_i q;exact .inr (.inr q)
 ·cases h
theorem WJ{sc:Scope}{x:Str}(h:ZB sc x=true):sc.names.lookup x=some .globalImplicit:=by
 unfold ZB at h;rw[Bool.and_eq_true]at h;have h:=h.2;split at h
 ·rename_i q;exact q
 ·cases h
theorem WH{sc:Scope}{x:Str}(h:W9 sc x=true):sc.names.lookup x=some .cell∨sc.names.lookup x=some .free:=by
 unfold W9 at h;split at h
 ·rename_i q;exact .inl q
 ·rename_i q;exact .inr q
 ·cases h
theorem Wn{K:PySem.W.Frag}{ad:List Addr}{H:Hp}{N:List Str}{vs:List V}{ds:List D}(h:Dens K ad H vs ds)(hl:ds.length≤N.length):EnvOk K ad H (L2.start N vs) (ds.map some++List.replicate (N.length - ds.length) none):=by
 have e:=h.length;refine⟨by unfold L2.start;simp[e],fun i d q=>?_⟩
 by_cases hi:i < ds.length
 ·rw[List.getElem?_append_left (by simpa using hi),List.getElem?_map,List.getElem?_eq_getElem hi]at q
  have q':ds[i]=d:=by simpa using q
  have g:ds[i]?=some d:=by rw[List.getElem?_eq_getElem hi,q']
  obtain⟨v,e1,e2⟩:=h.get g;refine⟨v,?_,e2⟩;unfold L2.start;rw[List.getElem?_append_left (by simpa[e] using hi),List.getElem?_map,e1]
  rfl
 ·rw[List.getElem?_append_right (by simpa using hi),List.getElem?_replicate]at q
  split at q<;>cases q
theorem ZgC{n:Nat}(hc:∀ n,Yu G (run T n))(gl:∀ A,Room n A→∀ y g,G.lookup y=some g→GOk P w K mg base A (run T n) y g){x y:Str}{i:Nat}{f:Addr}{fd:FuncData}{pn N:List Str}(ob:Zav K G T x y i f fd pn N):FnOk P w K mg base CX0 (n+1) f fd pn (spD K (run T (n+1) i)):=by
 obtain⟨st,oc,od,dV,kV,doc,pm,an,cdv,ct,osl,code,rfl,lk,hcd,S,hloc,hcode,hT⟩:=ob;have hrun:run T (n+1) i=fnD (run T n) ⟨pn.length,N.length,code⟩:=by
  show(match T i with|some f=>fnD (run T n) f|none=>fun _ _=>none)=_
  rw[hT]
 refine fn_of lk hcd S (fun vs H Q E h=>?_) (fun A outer s H vs Q E hr h=>?_)
 ·obtain⟨ad,es,st,d,st',_,hd,e,_⟩:=h
  rw[hrun]at e;unfold fnD at e;split at e
  ·rename_i hl
   rw[hd.length];exact hl
  ·cases e
 ·obtain⟨ad,es,s0,d,st',S0,hd,e,p⟩:=h
  rw[hrun]at e;unfold fnD at e;split at e
  ·rename_i hl
   have C:CxtS (cxOf CX0 P w K mg base N y (defScope st) f cdv A outer s H E).nox G (run T n) (defScope st) N:={
    hN:=rfl
    vis:=fun y hy=>UX hy
    glb:=fun y hy=>WJ hy
    calm:=rfl
    hu:=hr.units
    gl:=gl _ hr
    cel:=fun y hy=>WH hy
    nx:=rfl
    nd:=S.nd
    loc:=hloc
    fn:=fun _=>rfl }
   have B:=(Y2 (hc n) 60).2.2.1 _ _ _ C _ _ hcode;have hpl:pn.length≤N.length:=by have:=congrArg List.length S.pre;rw[List.length_take]at this;omega
   have E0':=Wn (N:=N) hd (by rw[show es.length=pn.length from hl];exact hpl)
   refine⟨_,B.nox,?_⟩;split at e
   ·rename_i d' st1 q
    cases e;exact Z7 E0' S0 q p
   ·rename_i ρ st1 q
    cases e;exact Z7 E0' S0 q fun σ1 ad1 H1 x1 S1 E1=>(p.later x1).at S1 .non
   ·cases e
  ·cases e
theorem Zff{i:Nat}{f:Addr}{fd:FuncData}{pn:List Str}:FnOk P w K mg base CX0 0 f fd pn (spD K (run T 0 i)):=by
 refine⟨fun vs H Q E h=>?_,fun A outer s H args us vs Q E _ _ _ _ h=>?_⟩
 ·obtain⟨_,_,_,_,_,_,_,e,_⟩:=h;cases e
 ·obtain⟨_,_,_,_,_,_,_,e,_⟩:=h;cases e
theorem Zft{n:Nat}(X:Text w.params K mg G T)(F1:∀ {x y:Str}{i:Nat}{f:Addr}{fd:FuncData}{pn N:List Str},Zav K G T x y i f fd pn N∨Zat K mg G T i f fd pn→FnOk P w K mg base CX0 n f fd pn (spD K (run T n i)))(A:Around)(hr:Room n A):∀ y g,G.lookup y=some g→GOk P w K mg base A (run T n) y g:=fun y g hg=>by
 cases g with
 |cst d=>exact X.cst y d hg
 |blt=>exact X.blt y hg
 |dct ks ds=>exact X.dct y ks ds hg
 |fn j qs es=>
  obtain⟨f,fd,pn,N,Dk⟩:=X.fn y j qs es hg;exact⟨n,f,fd,pn,F1 Dk.ob,hr,Dk.at_,Dk.kp,Dk.bn⟩
 |cls i ms subs=>
  obtain⟨⟨h1,h2,h3⟩,h4⟩:=X.cls y i ms subs hg;refine⟨h1,h2,h3,fun m j ps hm=>?_⟩
  obtain⟨z,f,fd,pn,N,Mk⟩:=h4 m j ps hm;exact⟨n,f,fd,pn,F1 (.inl Mk.ob),hr,Mk.mt,Mk.bn⟩
theorem Q2(hc:∀ n,Yu G (run T n))(X:Text w.params K mg G T):∀ (n m:Nat),m≤n→∀ {x y:Str}{i:Nat}{f:Addr}{fd:FuncData}{pn N:List Str},Zav K G T x y i f fd pn N∨Zat K mg G T i f fd pn→FnOk P w K mg base CX0 m f fd pn (spD K (run T m i))
 |n,0,_,_,_,_,_,_,_,_,_=>Zff
 |n+1,m+1,h,_,_,_,_,_,_,_,.inl ob=>ZgC hc (fun A hr=>Zft X (fun ob=>Q2 hc X n m (Nat.le_of_succ_le_succ h) ob) A hr) ob
 |n+1,m+1,h,_,_,_,_,_,_,_,.inr hd=>hd P w base m fun l hl A hr=>Zft X (fun ob=>Q2 hc X n l (Nat.le_trans hl (Nat.le_of_succ_le_succ h)) ob) A hr
theorem ZfP(hc:∀ n,Yu G (run T n))(X:Text w.params K mg G T)(n:Nat){x y:Str}{i:Nat}{f:Addr}{fd:FuncData}{pn N:List Str}(h:Zav K G T x y i f fd pn N∨Zat K mg G T i f fd pn):FnOk P w K mg base CX0 n f fd pn (spD K (run T n i)):=Q2 hc X n n (Nat.le_refl _) h
end
end Dp



namespace Dp
open PySem PySem.Spec PyProof.Rows L2
variable [ClsTab]
section
variable {ad:List Addr}{H:Hp}{p:Addr}{xs ys:List V}
theorem Jq(hp:H p=some (.lst xs)){a:Addr}:Yv H a↔Yv (upd H p (.lst ys)) a:=JJ (UD hp fun _ z=>nomatch z) fun _ z=>nomatch z
theorem Jk{K:PySem.W.Frag}(hp:H p=some (.lst xs)):Keeps K ad ad H (upd H p (.lst ys)):=⟨fun h=>h.upd hp (by intro xs z;cases z),fun h=>⟨h,Jq hp⟩,fun _ h=>by rw[upd_ne (ne_of h hp (by intro z;cases z))];exact h,fun h n=>⟨by rw[upd_ne (ne_of h hp (by intro z;cases z))];exact h,n⟩⟩
theorem Den.wr{K:PySem.W.Frag}(hp:H p=some (.lst xs)){v:V}{d:D}(h:Den K ad H v d):Den K ad (upd H p (.lst ys)) v d:=h.map (Jk hp)
theorem Dens.wr{K:PySem.W.Frag}(hp:H p=some (.lst xs)){vs:List V}{ds:List D}(h:Dens K ad H vs ds):Dens K ad (upd H p (.lst ys)) vs ds:=h.map (Jk hp)
theorem EnvOk.wr{K:PySem.W.Frag}{σ:L2.St}{ρ:Env}(hp:H p=some (.lst xs))(h:EnvOk K ad H σ ρ):EnvOk K ad (upd H p (.lst ys)) σ ρ:=⟨h.len,fun i d e=>let ⟨v,e1,e2⟩:=h.at_ i d e;⟨v,e1,e2.wr hp⟩⟩
theorem StOk.wr{K:PySem.W.Frag}{st:Za}(S:StOk K ad H st)(hp:H p=some (.lst xs))(hn:p∉ad):StOk K ad (upd H p (.lst ys)) st:=
 S.wrG (Jk hp) hn
theorem Ext.wr{ad0:List Addr}{H0:Hp}(x:Ext ad0 H0 ad H)(hp:H p=some (.lst xs))(h0:H0 p=none):Ext ad0 H0 ad (upd H p (.lst ys)):=by
 refine⟨x.pre,fun b zs h=>?_,fun b zs h=>?_,fun b o h n=>?_,x.new,fun i a h=>(x.kd i a h).trans (Jq hp)⟩
 ·rw[upd_ne (ne_of_none h h0)];exact x.tup b zs h
 ·rw[upd_ne (ne_of_none h h0)];exact x.dk b zs h
 ·rw[upd_ne (ne_of_none h h0)];exact x.keep b o h n
end
theorem Vd{c:Str→NameKind→Bool}:∀ {l:List (Str×NameKind)}{y:Str},(l.map fun(n,k)=>if c n k=true then (n,NameKind.cell) else (n,k)).lookup y=(l.lookup y).map fun k=>if c y k=true then NameKind.cell else k
 |[],_=>rfl
 | (n,k) :: r,y=>by
  have ih:=@Vd c r y;rw[List.map_cons];have e:(if c n k=true then (n,NameKind.cell) else (n,k))=(n,if c n k=true then NameKind.cell else k):=by split<;>rfl
  show List.lookup y ((if c n k=true then (n,NameKind.cell) else (n,k)) :: _)=_
  rw[e,List.lookup_cons,List.lookup_cons];cases q:y==n with
  |true=>rw[beq_iff_eq.mp q];rfl
  |false=>exact ih
theorem YC{sc:Scope}{env:PySem.Env}{y:Str}:(relabel sc env).names.lookup y=(sc.names.lookup y).map fun k=>if (k==NameKind.free&&env.scope.kind==.function&&env.kindOf y==some .cell)=true then NameKind.cell else k:=
 Vd (c:=fun n k=>k==NameKind.free&&env.scope.kind==.function&&env.kindOf n==some .cell)
theorem YO{sc:Scope}{env:PySem.Env}{y:Str}{k:NameKind}(h:sc.names.lookup y=some k)(hk:k≠.free):(relabel sc env).names.lookup y=some k:=by
 rw[YC,h];have:(k==NameKind.free)=false:=by simpa using hk
 show some (if (k==NameKind.free&&_&&_)=true then NameKind.cell else k)=some k
 rw[this,Bool.false_and,Bool.false_and,if_neg Bool.false_ne_true]
theorem Y8{sc:Scope}{env:PySem.Env}{y:Str}(h:sc.names.lookup y=some .free):(relabel sc env).names.lookup y=some .cell∨(relabel sc env).names.lookup y=some .free:=by
 rw[YC,h];show(some (if _ then NameKind.cell else NameKind.free))=_∨(some (if _ then NameKind.cell else NameKind.free))=_
 split
 ·exact .inl rfl
 ·exact .inr rfl
theorem UN{sc:Scope}{env:PySem.Env}{y:Str}(hc:∀ p∈sc.names,p.2≠.cell)(h:(relabel sc env).names.lookup y=some .cell∨(relabel sc env).names.lookup y=some .free):sc.names.lookup y=some .free:=by
 rw[YC]at h;cases q:sc.names.lookup y with
 |none=>rw[q]at h;rcases h with h|h<;>cases h
 |some k=>
  rw[q]at h;cases k with
  |free=>rfl
  |cell=>
   have:∀ {l:List (Str×NameKind)},l.lookup y=some .cell→∃ p∈l,p.2=.cell:=fun {l} e=>by
    induction l with
    |nil=>cases e
    |cons a l ih=>
     obtain⟨n,k⟩:=a;rw[List.lookup_cons]at e;split at e
     ·cases e;exact⟨_,List.mem_cons_self,rfl⟩
     ·obtain⟨p,hp,e'⟩:=ih e;exact⟨p,List.mem_cons_of_mem _ hp,e'⟩
   obtain⟨p,hp,e⟩:=this q;exact absurd e (hc p hp)
  |_=>rcases h with h|h<;>simp at h
theorem XT{env:PySem.Env}:∀ (l:List (Str×NameKind)) (acc:List (Str×Addr)),(∀ p∈l,p.2=.free→∃ c,env.cells.lookup p.1=some c)→
  ∃ cl,(forIn l acc fun(x:Str×NameKind) (r:List (Str×Addr))=>(do
   if (x.2==NameKind.free)=true then
    let a ←cellOf env x.1
    pure (ForInStep.yield ((x.1,a) :: r))
   else pure (ForInStep.yield r):Sem (ForInStep (List (Str×Addr)))))=pure cl ∧
   (∀ y c,cl.lookup y=some c→acc.lookup y=some c∨((y,NameKind.free)∈l∧env.cells.lookup y=some c))∧(∀ y,(y,NameKind.free)∈l∨(acc.lookup y).isSome→(cl.lookup y).isSome)
 |[],acc,_=>⟨acc,by simp only[List.forIn_nil],fun y c h=>.inl h,fun y h=>by simpa using h⟩
 | (n,k) :: l,acc,h=>by
  by_cases hk:k=.free
  ·subst hk
   obtain⟨c0,hc0⟩:=h (n,.free) List.mem_cons_self rfl;obtain⟨cl,e,h1,h2⟩:=XT (env:=env) l ((n,c0) :: acc) fun p hp=>h p (List.mem_cons_of_mem _ hp)
   refine⟨cl,?_,fun y c q=>?_,fun y q=>?_⟩
   ·rw[List.forIn_cons]
    simp only[beq_self_eq_true,if_true];have:cellOf env n=pure c0:=by unfold cellOf;rw[hc0]
    simp only[this,pure_bind];exact e
   ·rcases h1 y c q with z|⟨z1,z2⟩
    ·rw[List.lookup_cons]at z
     split at z
     ·rename_i hy
      cases z;rw[beq_iff_eq.mp hy];exact .inr ⟨List.mem_cons_self,hc0⟩
     ·exact .inl z
    ·exact .inr ⟨List.mem_cons_of_mem _ z1,z2⟩
   ·refine h2 y ?_
    rcases q with q|q
    ·rcases List.mem_cons.mp q with z|z
     ·cases z
      exact .inr (by rw[List.lookup_cons];simp)
     ·exact .inl z
    ·refine .inr ?_
     rw[List.lookup_cons];split
     ·rfl
     ·exact q
  ·obtain⟨cl,e,h1,h2⟩:=XT (env:=env) l acc fun p hp=>h p (List.mem_cons_of_mem _ hp)
   refine⟨cl,?_,fun y c q=>?_,fun y q=>?_⟩
   ·rw[List.forIn_cons]
    have:(k==NameKind.free)=false:=by simpa using hk
    simp only[this,Bool.false_eq_true,if_false,pure_bind];exact e
   ·rcases h1 y c q with z|⟨z1,z2⟩
    ·exact .inl z
    ·exact .inr ⟨List.mem_cons_of_mem _ z1,z2⟩
   ·refine h2 y ?_
    rcases q with q|q
    ·rcases List.mem_cons.mp q with z|z
     ·cases z;exact absurd rfl hk
     ·exact .inl z
    ·exact .inr q
theorem U7{env:PySem.Env}{sc:Scope}(h:∀ p∈sc.names,p.2=.free→∃ c,env.cells.lookup p.1=some c):∃ cl,closureFor sc env=pure cl∧(∀ y c,cl.lookup y=some c→env.cells.lookup y=some c)∧∀ y,(y,NameKind.free)∈sc.names→(cl.lookup y).isSome:=by
 obtain⟨cl,e,h1,h2⟩:=XT (env:=env) sc.names [] h;refine⟨cl,?_,fun y c q=>?_,fun y q=>h2 y (.inl q)⟩
 ·unfold closureFor
  rw[show(fun(x:Str×NameKind) (r:List (Str×Addr))=>_)=_ from rfl]at e
  first|exact(by simp only[e,pure_bind]) | (simp only[bind_pure]at *;exact e)|exact e
 ·rcases h1 y c q with z|⟨_,z⟩
  ·cases z
  ·exact z
end Dp



namespace Dp
open PySem PySem.Spec PyProof.Rows L2
variable [ClsTab]
theorem U8{prog:Program}{w:World}{A:Around}{R:Result→Shared→Prop}{s:Shared}{elt target iter:Expr}{ifs:List Expr}{scope:Scope}{pos:Pos}{it acc:Value}{env:PySem.Env}(I:Nat→Shared→Prop)(turn:∀ n s,I n s→wpAny (model prog w) A (pyNext it) (fun r s₁=>match r with
   |none=>R (.ok .next) s₁
   |some v=>wpAny (model prog w) A (letOwnedTupleGo target it v) (fun _ s₁'=>wpAny (model prog w) A (assign target env v) (fun _ s₂=>
     wpAny (model prog w) A (forIn ifs true fun c r=>if r=true then do let ok ←isTrue c env (eval c env);pure (ForInStep.yield ok) else pure (ForInStep.yield r)) (fun ok s₃=>
      if ok=true then wpAny (model prog w) A (eval elt env) (fun x s₄=>
       wpAny (model prog w) A (call (.builtin "list.append") [acc,x]) (fun _ s₅=>∃ m,m < n∧I m s₅) (notedBy (model prog w) A env fun e s'=>R (.error e) s') s₄) (notedBy (model prog w) A env fun e s'=>R (.error e) s') s₃
      else ∃ m,m < n∧I m s₃) (notedBy (model prog w) A env fun e s'=>R (.error e) s') s₂) (notedBy (model prog w) A env fun e s'=>R (.error e) s') s₁') (notedBy (model prog w) A env fun e s'=>R (.error e) s') s₁) (notedBy (model prog w) A env fun e s'=>R (.error e) s') s)(n:Nat)(h:I n s):codeAny (model prog w) A (.compLoop (.ListComp elt [⟨target,iter,ifs,0⟩] scope pos) 0 it acc env) R s:=by
 refine codeAny_loop rfl I (fun n s hI=>?_) n h
 show wpAny _ A ((compTurn (.ListComp elt [⟨target,iter,ifs,0⟩] scope pos) 0 it acc env).onRaise (fun x=>do noteFrame x env;theTreesLotGoes x)) _ _ s
 refine wpAny_noted ?_;rw[compTurn_list];refine wpAny_bind (wpAny_standAt (wpAny_bind (wpAny_mono (turn n s hI) (fun r s₁ h₁=>?_) fun _ _ h'=>h')))
 cases r with
 |none=>exact wpAny_pure h₁
 |some v=>
  refine wpAny_bind (wpAny_mono h₁ (fun _ s₁' h₁=>?_) fun _ _ h'=>h')
  refine wpAny_bind (wpAny_mono h₁ (fun _ s₂ h₂=>wpAny_bind (wpAny_mono h₂ (fun ok s₃ h₃=>?_) fun _ _ h'=>h')) fun _ _ h'=>h')
  cases ok with
  |false=>exact wpAny_pure ⟨rfl,h₃⟩
  |true=>
   exact wpAny_bind (wpAny_bind (wpAny_mono h₃ (fun x s₄ h₄=>wpAny_bind (wpAny_mono h₄ (fun _ s₅ h₅=>wpAny_pure (wpAny_pure ⟨rfl,h₅⟩)) fun _ _ h'=>h')) fun _ _ h'=>h'))
noncomputable def cxC(X:Cx)(N:List Str)(env:PySem.Env)(s3:Shared)(H3:Hp)(fp:List Addr)(pins:List (Addr×Obj)):Cx:=
 { X with N:=N,s₀:=s3,H₀:=H3,env:=env,outer:=X.stack,ex:=fp,fn:=fun _=>false,pn:=X.pn++pins,xe:=fun _ _=>False }
section
variable {X:Cx}{pins:List (Addr×Obj)}{σ:L2.St}{H H3:Hp}{s3:Shared}{sc2:Scope}{cl:List (Str×Addr)}{fp:List Addr}{N:List Str}
theorem Zcd(I3:L2.Inv X pins σ H3 s3){m0:Str→Option Value}{h4:Heap}{tk:Nat}{σ':L2.St}(hk:sc2.kind=.function)(hcell:∀ p∈sc2.names,p.2≠.cell)(hns:h4.Ns s3.heap.objs.size m0)(up:∀ b u,s3.heap.get? b=some u→h4.get? b=some u)(c1:∀ y c,cl.lookup y=some c→X.env.cells.lookup y=some c)(c2:∀ y,sc2.names.lookup y=some .free→(cl.lookup y).isSome)(f3:∀ b∈fp,FpOk X pins H3 b)(fb:∀ b∈fp,b < s3.heap.objs.size)(hσ:∀ (i:Nat) (y:Str) (v:V),N[i]?=some y→σ'[i]?=some (some v)→∃ j:Nat,X.N[j]?=some y∧σ[j]?=some (some v)∧sc2.names.lookup y=some .free∧(X.env.scope.names.lookup y=some .cell∨X.env.scope.names.lookup y=some .free))(hl:σ'.length=N.length) :
  L2.Inv (cxC X N (compEnvC sc2 cl s3.heap.objs.size X.env) s3 H3 fp pins) [] σ' H3 { s3 with heap:=h4,toks:=tk } where
 ok:={
  mod:=I3.ok.mod
  kind:=hk
  glob:=I3.ok.glob
  blt:=I3.ok.blt
  above:=Nat.le_refl _
  inj:=fun x y c e e'=>I3.ok.inj x y c (c1 _ _ e) (c1 _ _ e')
  has:=fun x h=>by
   have e:=UN (env:=X.env) hcell h;have:=c2 x e;cases q:cl.lookup x with
   |none=>rw[q]at this;cases this
   |some c=>exact⟨c,q⟩
  cab:=fun x c h=>nomatch h
  hd:=I3.ok.hd
  frames:=I3.ok.frames
  stk:=.inl rfl
  exf:=fun b hb=>⟨Nat.ne_of_lt (fb b hb),fun x c e=>(f3 b hb).2.2.2.2.1 x c (c1 _ _ e)⟩
  bs:=I3.bs
  bsz:=Nat.le_trans I3.ok.bsz I3.sz
  noex:=fun b o e hb=>by
   rcases (f3 b hb).2.2.2.1 with z|z
   ·exact I3.ok.noex b o e z
   ·exact absurd (Nat.lt_of_lt_of_le (Heap.lt_size e) (Nat.le_trans I3.ok.bsz z)) (Nat.lt_irrefl _)
  exfs:=fun b hb hs=>by
   rcases List.mem_cons.mp (I3.stkSub b hs) with z|z
   ·exact(f3 b hb).2.1 z
   ·exact(f3 b hb).2.2.1 z
  funs:=I3.stack
  frf:=I3.stkFree }
 os:=rfl
 bare:=I3.bare
 base:=Un.kept up
 loc:=⟨m0,hns,fun i y v e1 e2 e3=>by
  obtain⟨j,g1,g2,g3,g4⟩:=hσ i y v e1 e2;obtain⟨m,hn,hl'⟩:=I3.loc;obtain⟨u,r,l⟩:=hl' j y v g1 g2 (.inr g4);refine⟨u,r,.inr ⟨Y8 g3,?_⟩⟩;rcases l with⟨z,_⟩|⟨_,c,e,z⟩
  ·have z':X.env.scope.names.lookup y=some .local:=z
   rcases g4 with w|w<;>(rw[z']at w;cases w)
  ·have q:=c2 y g3
   cases q':cl.lookup y with
   |none=>rw[q']at q;cases q
   |some c'=>
    have:=c1 _ _ q';rw[e]at this;cases this
    obtain⟨o,ho,hd⟩:=z;exact⟨c,q',o,up c o ho,hd⟩⟩
 cell:=fun y c e=>by
  obtain⟨v,o,ho,hd⟩:=I3.cell y c (c1 _ _ e);exact⟨v,o,up c o ho,hd⟩
 free:=I3.hok.fresh (Nat.le_refl _)
 freeC:=fun y c e=>I3.freeC y c (c1 _ _ e)
 pin:=fun p hp=>by
  have hp':p∈X.pn++pins:=by simpa[cxC] using hp
  obtain⟨e,n,ne,nf,d⟩:=I3.pin p hp';refine⟨up _ _ e,n,Nat.ne_of_lt (Heap.lt_size e),fun hs=>?_,d⟩
  rcases List.mem_cons.mp (I3.stkSub _ hs) with z|z
  ·exact ne z
  ·exact nf z
 hok:=I3.hok.kept up
 len:=hl
theorem Zcc(I3:L2.Inv X pins σ H3 s3){env:PySem.Env}{pins':List (Addr×Obj)}{σ':L2.St}{H':Hp}{s':Shared}{h':Heap}(hC:env.locals=s3.heap.objs.size)(I':L2.Inv (cxC X N env s3 H3 fp pins) pins' σ' H' s')(sb:Heap.SameBut s3.heap.objs.size s'.heap h')(f3:∀ b∈fp,FpOk X pins H3 b):L2.Inv X pins σ H' { s' with heap:=h' }:=by
 have u:Un (frs X.stack) fp H3 H' s3.heap s'.heap:=I'.base;have ne:∀ b o,s3.heap.get? b=some o→b≠s3.heap.objs.size:=fun b o e=>Nat.ne_of_lt (Heap.lt_size e)
 have fr:H' s3.heap.objs.size=none:=by have:=I'.free;rw[show(cxC X N env s3 H3 fp pins).env.locals=s3.heap.objs.size from hC]at this;exact this
 refine I3.call' (s':={ s' with heap:=h' }) (ch:=fp) I'.os ⟨fun b o e n hb hx=>?_,fun b o e n hb hx=>?_,u.free,fun b o e hx=>?_,u.tups,u.frzs,u.tbls⟩ (fun b ob e=>?_) I'.bare (fun b hb=>?_)
 ·exact(sb.2 b (ne b o e)).trans (u.keep b o e n hb hx)
 ·obtain⟨sl,e1⟩:=u.slot b o e n hb hx
  exact⟨sl,(sb.2 b (ne b o e)).trans e1⟩
 ·obtain⟨o',e1⟩:=u.there b o e hx
  exact⟨o',(sb.2 b (ne b o e)).trans e1⟩
 ·refine(I'.hok b ob e).stay (fun c w' hc q=>(sb.2 c ?_).trans q) (fun _ q=>q) fun _ _ q=>q
  rintro rfl
  rcases hc with rfl|hc
  ·rw[fr]at e;cases e
  ·rw[fr]at hc;cases hc
 ·exact⟨(f3 b hb).2.2.2.1,(f3 b hb).2.1,(f3 b hb).2.2.2.2.1,(f3 b hb).2.2.2.2.2⟩
end
end Dp



namespace Dp
open PySem PySem.Spec PyProof.Rows L2
variable [ClsTab]
theorem Vl{N:List Str}:∀ {l:List Str}{fr:List Nat},Xt N l=some fr→fr.length=l.length∧∀ (i:Nat) (k:Nat),fr[i]?=some k→∃ y,l[i]?=some y∧N[k]?=some y
 |[],fr,h=>by cases h;exact⟨rfl,fun i k e=>by simp at e⟩
 |x :: r,fr,h=>by
  unfold Xt at h;split at h
  ·rename_i a as e1 e2
   cases h;obtain⟨h1,h2⟩:=Vl e2;refine⟨by simp[h1],fun i k e=>?_⟩
   cases i with
   |zero=>simp at e;subst e;exact⟨x,rfl,XW e1⟩
   |succ i=>exact h2 i k (by simpa using e)
  ·cases h
theorem StOk.lt{X:Cx}{pins:List (Addr×Obj)}{σ:L2.St}{H:Hp}{s:Shared}{ad:List Addr}{st:Za}{a:Addr}(I:L2.Inv X pins σ H s)(S:StOk X.K ad H st)(h:a∈ad):a < s.heap.objs.size:=by
 obtain⟨i,hi,e⟩:=List.getElem_of_mem h;rcases S.has (show ad[i]?=some a by rw[List.getElem?_eq_getElem hi,e]) with⟨o,q⟩|⟨o,q⟩
 ·exact I.hok.lt q
 ·exact Heap.lt_size (I.kIn a o q)
theorem ZbJ{K:PySem.W.Frag}{ad:List Addr}{H:Hp}{σ bs:L2.St}{ρ:Env}{fr:List Nat}{b:D→List (Option D)}{d:D}(E:EnvOk K ad H σ ρ)(hd:EnvOk K ad H bs (b d)):EnvOk K ad H (bs++fr.map fun i=>(σ[i]?).join) (YL b ρ fr d):=by
 refine⟨by simp[YL,hd.len],fun i e h=>?_⟩
 unfold YL at h;by_cases hi:i < (b d).length
 ·rw[List.getElem?_append_left hi]at h
  rw[List.getElem?_append_left (by rw[hd.len];exact hi)]
  exact hd.at_ i e h
 ·have hi:(b d).length≤i:=Nat.le_of_not_lt hi
  rw[List.getElem?_append_right hi,List.getElem?_map]at h;rw[List.getElem?_append_right (by rw[hd.len];exact hi),List.getElem?_map,hd.len]
  cases q:fr[i - (b d).length]? with
  |none=>rw[q]at h;cases h
  |some k=>
   rw[q]at h;have h:(ρ[k]?).join=some e:=by simpa using h
   have h2:ρ[k]?=some (some e):=by
    cases z:ρ[k]? with
    |none=>rw[z]at h;cases h
    |some o=>rw[z]at h;rw[show o=some e from h]
   obtain⟨w,e1,e2⟩:=E.at_ k e h2;exact⟨w,by simp[e1],e2⟩
def WR(K:PySem.W.Frag)(tg:Expr)(xs:List Str)(b:D→List (Option D))(ds:List D):Prop:=
 ∀ X:Cx,X.K=K→X.calm=true→X.N.Nodup→(∀ (i:Nat) x,xs[i]?=some x→X.N[i]?=some x)→(∀ y∈xs,X.env.scope.names.lookup y=some .local)→∀ (pins:List (Addr×Obj)) (s:Shared) (os fv:L2.St) (H:Hp) (ad:List Addr) (v:V) (u:Value) (d:D),os.length=xs.length→L2.Inv X pins (os++fv) H s→RelV v u→Den K ad H v d→d∈ds→
  wpAny (model X.prog X.w) X.A (assign tg X.env u) (fun _ s'=>∃ bs,bs.length=xs.length∧EnvOk K ad H bs (b d)∧L2.Inv X pins (bs++fv) H s') X.xe s
theorem WY{K:PySem.W.Frag}{x:Str}{px:Pos}{ds:List D}:WR K (.Name x px) [x] one ds:=by
 intro X hK hc hN hx hl pins s os fv H ad v u d ho I r dv _;obtain⟨o,rfl⟩:∃ o,os=[o]:=by match os,ho with|[o],_=>exact⟨o,rfl⟩
 have lx:=hl x List.mem_cons_self;have pg:PG X (.Name x px) (gName 0):=pg_name hN (hx 0 x rfl) (.inl lx) (.inr lx);refine thn (pg pins s _ H v u (fun σ' H'=>σ'=[some v]++fv∧H'=H) I r ⟨rfl,rfl⟩) fun _ s' ⟨σ',H',I',e,e'⟩=>?_
 subst e;subst e'
 exact⟨[some v],rfl,⟨rfl,fun i e h=>by
  cases i with
  |zero=>cases h;exact⟨v,rfl,dv⟩
  |succ i=>exact nomatch (show(none:Option (Option D))=some (some e) from h)⟩,I'⟩
section
variable {X:Cx}{G:Gs}{F:Nat→Fn}{sc sc2:Scope}{N xs:List Str}
theorem Yr(h:Xj sc sc2 xs=true):sc2.kind=.function∧(∀ p∈sc2.names,p.2≠.cell)∧(∀ x∈xs,sc2.names.lookup x=some .local)∧(∀ p∈sc2.names,p.2=.local→sc2.names.lookup p.1=some .local)∧(xs++ZN sc2).Nodup∧∀ y∈ZN sc2,W9 sc y=true∧sc2.names.lookup y=some .free:=by
 unfold Xj at h;simp only[Bool.and_eq_true,decide_eq_true_eq,List.all_eq_true,Bool.or_eq_true,Bool.not_eq_true',decide_eq_false_iff_not]at h;obtain⟨⟨⟨⟨⟨h1,h2⟩,h3⟩,h4⟩,h5⟩,h6⟩:=h;exact⟨h1,h2,h3,fun p hp e=>(h4 p hp).elim (fun z=>absurd e z) id,h5,h6⟩
theorem mem_frees{y:Str}:y∈ZN sc2↔(y,NameKind.free)∈sc2.names:=by
 unfold ZN;rw[List.mem_map];constructor
 ·rintro⟨⟨n,k⟩,h,rfl⟩
  rw[List.mem_filter]at h;have:k=.free:=of_decide_eq_true h.2;rw[←this];exact h.1
 ·intro h
  exact⟨(y,.free),List.mem_filter.mpr ⟨h,by simp⟩,rfl⟩
theorem mem_of_lookup{y:Str}{k:NameKind}:∀ {l:List (Str×NameKind)},l.lookup y=some k→(y,k)∈l
 |[],h=>by cases h
 | (n,q) :: l,h=>by
  rw[List.lookup_cons]at h;split at h
  ·rename_i e
   cases h;rw[beq_iff_eq.mp e];exact List.mem_cons_self
  ·exact List.mem_cons_of_mem _ (mem_of_lookup h)
theorem ZbG(Kx:Cxt X G F sc N)(hsc:Xj sc sc2 xs=true){cl:List (Str×Addr)}{C:Addr}{s3:Shared}{H3:Hp}{fp:List Addr}{pins:List (Addr×Obj)}:Cxt (cxC X (xs++ZN sc2) (compEnvC sc2 cl C X.env) s3 H3 fp pins) G F sc2 (xs++ZN sc2):=by
 obtain⟨h1,h2,h3,h4,h5,h6⟩:=Yr hsc;exact {
  hN:=rfl
  vis:=fun y hy=>by
   rcases UX hy with z|z|z
   ·exact .inl (YO z (by intro q;cases q))
   ·exact absurd rfl (h2 _ (mem_of_lookup z))
   ·rcases Y8 (env:=X.env) z with w|w
    ·exact .inr (.inl w)
    ·exact .inr (.inr w)
  glb:=fun y hy=>YO (WJ hy) (by intro q;cases q)
  calm:=Kx.calm
  hu:=Kx.hu
  gl:=Kx.gl
  cel:=fun y hy=>by
   rcases WH hy with z|z
   ·exact absurd rfl (h2 _ (mem_of_lookup z))
   ·exact Y8 z
  nx:=rfl }
theorem ZbC{ok:Za→Prop}{f c:D→Za→Res}{xs:List D}{st:Za}{r:List D×Za}(h:Ym ok f c xs st=some r):ok st:=by
 unfold Ym at h;split at h
 ·split at h
  ·assumption
  ·cases h
 ·split at h
  ·assumption
  ·cases h
noncomputable def evB(F:Nat→Fn)(c:CE)(b:D→List (Option D))(ρ:Env)(fr:List Nat):D→Za→Res:=fun d s=>ev F c (YL b ρ fr d) s
inductive CI(X:Cx)(tn:Nat→Heap→Prop)(fp:List Addr)(fv σ:L2.St)(ρ:Env)(w:Nat)(ds:List D)(go:List D→Za→Option (List D×Za))(Good:List Addr→Hp→Prop)(dd:Addr)(ad2:List Addr)(H2:Hp)(st':Za)(ys:List D)(m:Nat)(s:Shared):Prop
 |mk (i:Nat) (o0:L2.St) (H:Hp) (ad:List Addr) (st:Za) (vs:List V) (es zs:List D) (him:i+m=ds.length) (hol:o0.length=w) (I:L2.Inv X [] (o0++fv) H s) (ti:tn i s.heap) (fi:∀ b∈fp,H b=none) (En:EnvOk X.K ad H σ ρ) (S:StOk X.K ad H st) (Gd:Good ad H) (nd:dd∉ad) (hv:H dd=some (.lst vs)) (rv:Dens X.K ad H vs es) (hel:es.length≤i)
  (hcp:go (ds.drop i) st=some (zs,st')) (hys:es++zs=ys) (ex:Ext ad2 H2 ad H):CI X tn fp fv σ ρ w ds go Good dd ad2 H2 st' ys m s
theorem ZaM(Kx:Cxt X G F sc2 N){n:Nat}(ihE:Zx G F n){elt iter tg:Expr}{pos:Pos}{ifs:List Expr}{fr:List Nat}{ce cc:CE}{bd:D→List (Option D)}(hce:cE G n sc2 N elt=some ce)(hcc:(ifs=[]∧cc=.cst (.bl true))∨∃ e,ifs=[e]∧cE G n sc2 N e=some cc){J:It}{fp:List Addr}{it:Addr}{tn:Nat→Heap→Prop}{ds:List D}{ok:Za→Prop}{Good:List Addr→Hp→Prop}(gm:∀ ad H ad' H',Ext ad H ad' H'→Good ad H→Good ad' H')(gw:∀ ad H p xs ys,H p=some (.lst xs)→Good ad H→Good ad (upd H p (.lst ys)))(go:∀ i ad H st,Good ad H→StOk X.K ad H st→ok st→i < ds.length→J.go i H)(stop:∀ i ad H st,Good ad H→StOk X.K ad H st→ok st→ds.length=i→J.stop i H)(yl:∀ i ad H st v H',Good ad H→StOk X.K ad H st→ok st→J.yld i H v H'→i < ds.length→Ext ad H ad H'∧StOk X.K ad H' st∧∃ d,ds[i]?=some d∧Den X.K ad H' v d)(T:Turn X.prog X.w X.K tg J fp it tn)(B:WR X.K tg xs bd ds)(hN:X.N.Nodup)(hx:∀ (i:Nat) x,xs[i]?=some x→X.N[i]?=some x)(hl:∀ y∈xs,X.env.scope.names.lookup y=some .local)(exx:X.xe=fun _ _=>False)(fpk:∀ {H:Hp},(∀ b∈fp,H b=none)→∀ b∈fp,FpOk X [] H b){fv σ:L2.St}{ρ:Env}(ec:∀ {ad H bs d},EnvOk X.K ad H σ ρ→EnvOk X.K ad H bs (bd d)→EnvOk X.K ad H (bs++fv) (YL bd ρ fr d)){dd:Addr}{ad2:List Addr}{H2:Hp}{st':Za}{ys:List D}(D0:H2 dd=none)(hz:ds.length≤1000){R:Result→Shared→Prop}(done:∀ s5 σ5 H ad vs,L2.Inv X [] σ5 H s5→StOk X.K ad H st'→dd∉ad→H dd=some (.lst vs)→Dens X.K ad H vs ys→Ext ad2 H2 ad H→R (.ok .next) s5){s:Shared}{m:Nat}(h0:CI X tn fp fv σ ρ xs.length ds (Ym ok (evB F ce bd ρ fr) (evB F cc bd ρ fr)) Good dd ad2 H2 st' ys m s) :
  codeAny (model X.prog X.w) X.A (.compLoop (.ListComp elt [⟨tg,iter,ifs,0⟩] sc2 pos) 0 (.ref it) (.ref dd) X.env) R s:=by
 refine U8 _ (fun m s h=>?_) m h0
 cases h with
 |mk i o0 H ad st vs es zs him hol I ti fi En S Gd nd hv rv hel hcp hys ex=>
 have oks:=ZbC hcp;have none_of:∀ {E:Value→Shared→Prop}{α:Type}{t:Sem α}{R:α→Shared→Prop}{s0:Shared},wpAny (model X.prog X.w) X.A t R X.xe s0→wpAny (model X.prog X.w) X.A t R E s0:=fun h=>by
  rw[exx]at h;exact wpAny_mono h (fun _ _ q=>q) fun _ _ q=>q.elim
 by_cases hi:i < ds.length
 ·refine thn (T.item X rfl rfl rfl Kx.calm i [] s _ H _ I (fpk fi) ti (go i ad H st Gd S oks hi)) fun r s5 ⟨u,hr,h5'⟩=>?_
  subst hr;refine thn h5' fun _ s6 ⟨v,H',I6,r6,y6,t6,f6⟩=>?_
  obtain⟨x6,S6,d,ed,dv⟩:=yl i ad H st v H' Gd S oks y6 hi;have hd:ds.drop i=d :: ds.drop (i+1):=by
   rw[List.drop_eq_getElem_cons hi];rw[List.getElem?_eq_getElem hi]at ed;cases ed;rfl
  refine thn (none_of (B X rfl Kx.calm hN hx hl _ s6 o0 _ H' ad v u _ hol (I6.pinned (fpk f6) (T.obj _ _ t6)) r6 dv (List.mem_of_getElem? ed))) fun _ s7 ⟨bs,lb,Eb,I7⟩=>?_
  have En6:=En.mono x6;have En7:=ec En6 Eb
  -- behind the item's turn
  have again:∀ {H9:Hp}{s9:Shared}{ad9:List Addr}{st9:Za}{vs9:List V}{es9 zs9:List D},L2.Inv X ([]++pinsAt fp s6.heap) (bs++fv) H9 s9→StOk X.K ad9 H9 st9→Good ad9 H9→dd∉ad9→H9 dd=some (.lst vs9)→Dens X.K ad9 H9 vs9 es9→es9.length≤i+1→
    Ym ok (evB F ce bd ρ fr) (evB F cc bd ρ fr) (ds.drop (i+1)) st9=some (zs9,st')→es9++zs9=ys→Ext ad2 H2 ad9 H9→EnvOk X.K ad9 H9 σ ρ→
    ∃ m',m' < m∧CI X tn fp fv σ ρ xs.length ds (Ym ok (evB F ce bd ρ fr) (evB F cc bd ρ fr)) Good dd ad2 H2 st' ys m' s9:=
   fun I9 S9 G9 n9 v9 r9 l9 c9 y9 x9 e9=>
    have pk:=fun b hb o e=>I9.pin (b,o) (List.mem_append_right _ (List.mem_append_right _ (mem_pinsAt hb e)))
    ⟨m - 1,by omega,.mk (i+1) bs _ _ _ _ _ _ (by omega) lb I9.unpinned (T.keep _ _ _ t6 fun b hb o e=>(pk b hb o e).1) (fun b hb=>let ⟨o,e,_⟩:=T.obj _ _ t6 b hb;(pk b hb o e).2.1) e9 S9 G9 n9 v9 r9 l9 c9 y9 x9⟩
  -- the tests
  have tests:∀ {k:Bool}{st2:Za},evB F cc bd ρ fr d st=some (.bl k,st2)→∀ {R:Bool→Shared→Prop}{E:Value→Shared→Prop},(∀ s8 H8 ad8,L2.Inv X ([]++pinsAt fp s6.heap) (bs++fv) H8 s8→Ext ad H' ad8 H8→StOk X.K ad8 H8 st2→R k s8)→
    wpAny (model X.prog X.w) X.A (forIn ifs true fun c r=>if r=true then do let ok ←isTrue c X.env (eval c X.env);pure (ForInStep.yield ok) else pure (ForInStep.yield r)) R E s7:=fun {k st2} q {R E} hR=>by
   rcases hcc with⟨rfl,rfl⟩|⟨e,rfl,he⟩
   ·cases q
    exact wpAny_tests_nil (hR s7 H' ad I7 (Ext.refl _ _) S6)
   ·refine wpAny_tests_one (thn (none_of ((ihE X sc2 _ Kx e cc he).pt _ s7 _ H' (fun k' H8=>k'=k∧∃ ad8,Ext ad H' ad8 H8∧StOk X.K ad8 H8 st2) I7 ⟨ad,YL bd ρ fr d,st,k,st2,En7,S6,q,fun ad' H' x S'=>⟨rfl,ad',x,S'⟩⟩)) fun k' s8 ⟨H8,I8,e8,ad8,x8,S8⟩=>?_)
    subst e8;exact hR s8 H8 ad8 I8 x8 S8
  have n8:∀ {ad8 H8},Ext ad H' ad8 H8→dd∉ad8:=fun x8 z=>((x6.trans x8).new dd z).elim nd fun w=>by rw[hv]at w;cases w
  have v8:∀ {ad8 H8},Ext ad H' ad8 H8→H8 dd=some (.lst vs):=fun x8=>(x6.trans x8).keep dd _ hv nd
  have rv6:=rv.mono x6;have ex6:=ex.trans x6;have G6:=gm _ _ _ _ x6 Gd;clear x6 En Eb ex Gd S I hv rv;rw[hd]at hcp;unfold Ym at hcp;rw[if_pos oks]at hcp;split at hcp
  ·rename_i st2 q1
   split at hcp
   ·rename_i y st3 q2
    split at hcp
    ·rename_i zs' st4 q3
     cases hcp;refine tests q1 fun s8 H8 ad8 I8 x8 S8=>?_
     rw[if_pos rfl];refine thn (none_of ((ihE X sc2 _ Kx elt ce hce).pe _ s8 _ H8 (fun v8 H9=>∃ ad9,Ext ad8 H8 ad9 H9∧StOk X.K ad9 H9 st3∧Den X.K ad9 H9 v8 y) I8 ⟨ad8,YL bd ρ fr d,st2,y,st3,En7.mono x8,S8,q2,fun v8 ad' H' x S' dn=>⟨ad',x,S',dn⟩⟩)) fun u9 s9 ⟨v9,H9,I9,r9,ad9,x9,S9,d9⟩=>?_
     have x89:=x8.trans x9;have hv9:=v8 x89;have hlen:vs.length=es.length:=rv6.length;refine thn (none_of (mt_append (X:=X) _ s9 _ H9 (.ref dd) [v9] (.ref dd) [u9] (fun _ H10=>H10=upd H9 dd (.lst (vs++[v9]))) I9 rfl (.cons r9 .nil) ⟨dd,vs,v9,rfl,rfl,hv9,Nat.lt_of_le_of_lt (show vs.length≤1000 by omega) (by decide),rfl⟩)) fun u10 s10 ⟨v10,H10,I10,r10,e10⟩=>?_
     subst e10;have nd9:=n8 x89;exact again (vs9:=vs++[v9]) (es9:=es++[y]) (zs9:=zs') I10 (S9.wr hv9 nd9) (gw _ _ _ _ _ hv9 (gm _ _ _ _ x89 G6)) nd9 upd_same (((rv6.mono x89).append (.cons d9 .nil)).wr hv9) (by rw[List.length_append,List.length_singleton];omega) q3 (by rw[←hys,List.append_assoc];rfl) ((ex6.trans x89).wr hv9 D0) ((En6.mono x89).wr hv9)
    ·cases hcp
   ·cases hcp
  ·rename_i st2 q1
   refine tests q1 fun s8 H8 ad8 I8 x8 S8=>?_
   rw[if_neg Bool.false_ne_true];exact again I8 S8 (gm _ _ _ _ x8 G6) (n8 x8) (v8 x8) (rv6.mono x8) (by omega) hcp hys (ex6.trans x8) (En6.mono x8)
  ·cases hcp
 ·refine thn (T.done X rfl rfl rfl Kx.calm i [] s _ H _ I (fpk fi) ti (stop i ad H st Gd S oks (by omega))) fun r s5 ⟨hr,I5⟩=>?_
  subst hr;rw[List.drop_eq_nil_of_le (Nat.le_of_not_lt hi)]at hcp;unfold Ym at hcp;rw[if_pos oks]at hcp;cases hcp;rw[List.append_nil]at hys;subst hys;exact done s5 _ H ad vs I5 S nd hv rv ex
theorem Jd(Kx:Cxt X G F sc N){n:Nat}(ihE:Zx G F n){elt iter tg:Expr}{pos:Pos}{ifs:List Expr}{fr:List Nat}{ce cc:CE}(hsc:Xj sc sc2 xs=true)(hfr:Xt N (ZN sc2)=some fr){bd:D→List (Option D)}(hce:cE G n sc2 (xs++ZN sc2) elt=some ce)(hcc:(ifs=[]∧cc=.cst (.bl true))∨∃ e,ifs=[e]∧cE G n sc2 (xs++ZN sc2) e=some cc){cl:List (Str×Addr)}(c1:∀ y c,cl.lookup y=some c→X.env.cells.lookup y=some c)(c2:∀ y,(y,NameKind.free)∈sc2.names→(cl.lookup y).isSome){J:It}{fp:List Addr}{it:Addr}{tn:Nat→Heap→Prop}{ds:List D}{ok:Za→Prop}{use:Option (Value→Sem Unit)}{R0:Value→Shared→Prop}{Good:List Addr→Hp→Prop}(gm:∀ ad H ad' H',Ext ad H ad' H'→Good ad H→Good ad' H')(gw:∀ ad H p xs ys,H p=some (.lst xs)→Good ad H→Good ad (upd H p (.lst ys)))(go:∀ i ad H st,Good ad H→StOk X.K ad H st→ok st→i < ds.length→J.go i H)(stop:∀ i ad H st,Good ad H→StOk X.K ad H st→ok st→ds.length=i→J.stop i H)(yl:∀ i ad H st v H',Good ad H→StOk X.K ad H st→ok st→J.yld i H v H'→i < ds.length→Ext ad H ad H'∧StOk X.K ad H' st∧∃ d,ds[i]?=some d∧Den X.K ad H' v d){pins:List (Addr×Obj)}{σ:L2.St}{H2:Hp}{s2 s3:Shared}{dd:Addr}{h₁:Heap}{m0:Str→Option Value}{tk:Nat}{Q:VK}{ad2:List Addr}{ρ:Env}{st1 st':Za}{ys:List D}(B:WR X.K tg xs bd ds)(T:Turn X.prog X.w X.K tg J fp it tn)(t2:tn 0 s2.heap)(f2:∀ b∈fp,FpOk X pins H2 b)(fb:∀ b∈fp,b < dd)(E2:EnvOk X.K ad2 H2 σ ρ)(S2:StOk X.K ad2 H2 st1)(g2:Good ad2 H2)(hcomp:Ym ok (fun d s=>ev F ce (YL bd ρ fr d) s) (fun d s=>ev F cc (YL bd ρ fr d) s) ds st1=some (ys,st'))(hz:ds.length≤1000)(hp:Post X.K ad2 H2 (.lst st'.length) (st'++[(true,ys)]) Q)(hend:∀ C dd s5 H5 m',s5.heap.Ns C m'→(∀ h',Heap.SameBut C s5.heap h'→L2.Inv X pins σ H5 { s5 with heap:=h' })→FpOk X pins H5 C→Q (.ref dd) H5→compPost (model X.prog X.w) X.A X.xe use R0 (.ref dd) C (.ok .next) s5)  (D0:H2 dd=none) (I3:L2.Inv X pins σ (upd H2 dd (.lst [])) s3) (z3:s3.heap.objs.size=dd+1) (nad:dd∉ad2) (hns₁:h₁.Ns s3.heap.objs.size m0) (up:∀ b u,s3.heap.get? b=some u→h₁.get? b=some u) (up0:∀ b u,s2.heap.get? b=some u→s3.heap.get? b=some u) :
  codeAny (model X.prog X.w) X.A (.compStart (.ListComp elt [⟨tg,iter,ifs,0⟩] sc2 pos) 0 (.ref it) (.ref dd) (compEnvC sc2 cl s3.heap.objs.size X.env)) (compPost (model X.prog X.w) X.A X.xe use R0 (.ref dd) s3.heap.objs.size) { s3 with heap:=h₁,toks:=tk }:=by
 obtain⟨h1,h2,h3,h4,h5,h6⟩:=Yr hsc;have f3:∀ b∈fp,FpOk X pins (upd H2 dd (.lst [])) b:=fun b hb=>⟨by rw[upd_ne (Nat.ne_of_lt (fb b hb))];exact(f2 b hb).1,(f2 b hb).2⟩
 obtain⟨fl,fg⟩:=Vl hfr;have I4:=Zcd (N:=xs++ZN sc2) (cl:=cl) (fp:=fp) (tk:=tk) (σ':=List.replicate xs.length none++fr.map fun i=>(σ[i]?).join) I3 h1 h2 hns₁ up c1 (fun y e=>c2 y (mem_of_lookup e)) f3 (fun b hb=>by rw[z3];exact Nat.lt_succ_of_lt (fb b hb)) (fun i y v e1 e2=>by
  by_cases hi:i < xs.length
  ·rw[List.getElem?_append_left (by simpa using hi),List.getElem?_replicate,if_pos hi]at e2;cases e2
  ·have hi:xs.length≤i:=Nat.le_of_not_lt hi
   rw[List.getElem?_append_right (by simpa using hi),List.getElem?_map,List.length_replicate]at e2
   rw[List.getElem?_append_right hi]at e1;cases q:fr[i - xs.length]? with
   |none=>rw[q]at e2;cases e2
   |some k=>
    rw[q]at e2;have e2:(σ[k]?).join=some v:=by simpa using e2
    have e3:σ[k]?=some (some v):=by
     cases w:σ[k]? with
     |none=>rw[w]at e2;cases e2
     |some o=>rw[w]at e2;rw[show o=some v from e2]
    obtain⟨y',g1,g2⟩:=fg _ k q;rw[e1]at g1;cases g1
    obtain⟨k1,k2⟩:=h6 y (List.mem_of_getElem? e1);exact⟨k,by rw[Kx.hN];exact g2,e3,k2,Kx.cel y k1⟩) (by simp[fl])
 have K':=ZbG (cl:=cl) (C:=s3.heap.objs.size) (s3:=s3) (H3:=upd H2 dd (.lst [])) (fp:=fp) (pins:=pins) Kx hsc;have loop:=ZaM (R:=compPost (model X.prog X.w) X.A X.xe use R0 (.ref dd) s3.heap.objs.size) (pos:=pos) (iter:=iter) K' ihE hce hcc gm gw go stop yl T B h5 (fun i x e=>by show(xs++ZN sc2)[i]?=some x;rw[List.getElem?_append_left (List.getElem?_eq_some_iff.mp e).1];exact e) (fun y hy=>YO (h3 y hy) (by intro q;cases q)) rfl (fun {H} hn b hb=>⟨hn b hb,by
  show b≠s3.heap.objs.size;rw[z3];exact Nat.ne_of_lt (Nat.lt_succ_of_lt (fb b hb)),fun hs=>(List.mem_cons.mp (I3.stkSub b hs)).elim (f2 b hb).2.1 (f2 b hb).2.2.1,.inl hb,fun y c e=>(f2 b hb).2.2.2.2.1 y c (c1 _ _ e),fun p hp=>(f2 b hb).2.2.2.2.2 p (by simpa[cxC] using hp)⟩) (σ:=σ) (ρ:=ρ) (fr:=fr) (fun a b=>ZbJ a b) (dd:=dd) (ad2:=ad2) (H2:=H2) (st':=st') (ys:=ys) D0 hz (fun s5 σ5 H ad vs I5 S nd hv rv ex=>by
   obtain⟨m',hn,_⟩:=I5.loc;refine hend s3.heap.objs.size dd s5 H m' hn (fun h' sb=>Zcc I3 rfl I5 sb f3) (I3.fpOk (Nat.le_refl _) I5.free) (hp (.ref dd) (ad++[dd]) H ⟨fun j a e=>Xx (ex.pre j a e),ex.tup,ex.dk,ex.keep,fun b hb=>?_,ex.kd⟩ (S.adopt hv nd rv) (.lst ⟨by rw[←S.len];exact ZP,UD hv fun _ z=>nomatch z⟩))
   rcases List.mem_append.mp hb with z|z
   ·exact ex.new b z
   ·rw[List.mem_singleton.mp z];exact .inr D0)
  (.mk 0 (List.replicate xs.length none) (upd H2 dd (.lst [])) ad2 st1 [] [] ys (Nat.zero_add _) (List.length_replicate ..) I4 (T.keep _ _ _ t2 fun b _ o e=>up b o (up0 b o e)) (fun b hb=>(f3 b hb).1) (E2.mono (Ext.laid D0)) (S2.laid D0) (gm _ _ _ _ (Ext.laid D0) g2) nad upd_same .nil (Nat.le_refl _) hcomp rfl (Ext.laid D0))
 exact codeAny_compStart_list loop (T.self X.A 0 _ _ _ (T.keep _ _ _ t2 fun b _ o e=>up b o (up0 b o e)) loop)
theorem ZaL(Kx:Cxt X G F sc N){n:Nat}(ihE:Zx G F n){elt iter tg:Expr}{pos:Pos}{ifs:List Expr}{fr:List Nat}{ce cc:CE}(hsc:Xj sc sc2 xs=true)(hfr:Xt N (ZN sc2)=some fr){bd:D→List (Option D)}(hce:cE G n sc2 (xs++ZN sc2) elt=some ce)(hcc:(ifs=[]∧cc=.cst (.bl true))∨∃ e,ifs=[e]∧cE G n sc2 (xs++ZN sc2) e=some cc){cl:List (Str×Addr)}(c1:∀ y c,cl.lookup y=some c→X.env.cells.lookup y=some c)(c2:∀ y,(y,NameKind.free)∈sc2.names→(cl.lookup y).isSome){J:It}{fp:List Addr}{it:Addr}{tn:Nat→Heap→Prop}{ds:List D}{ok:Za→Prop}{use:Option (Value→Sem Unit)}{R0:Value→Shared→Prop}(Good:List Addr→Hp→Prop)(gm:∀ ad H ad' H',Ext ad H ad' H'→Good ad H→Good ad' H')(gw:∀ ad H p xs ys,H p=some (.lst xs)→Good ad H→Good ad (upd H p (.lst ys)))(go:∀ i ad H st,Good ad H→StOk X.K ad H st→ok st→i < ds.length→J.go i H)(stop:∀ i ad H st,Good ad H→StOk X.K ad H st→ok st→ds.length=i→J.stop i H)(yl:∀ i ad H st v H',Good ad H→StOk X.K ad H st→ok st→J.yld i H v H'→i < ds.length→Ext ad H ad H'∧StOk X.K ad H' st∧∃ d,ds[i]?=some d∧Den X.K ad H' v d){pins:List (Addr×Obj)}{σ:L2.St}{H2:Hp}{s2:Shared}{Q:VK}{ad2:List Addr}{ρ:Env}{st1 st':Za}{ys:List D}(I2:L2.Inv X pins σ H2 s2)(B:WR X.K tg xs bd ds)(T:Turn X.prog X.w X.K tg J fp it tn)(t2:tn 0 s2.heap)(f2:∀ b∈fp,FpOk X pins H2 b)(E2:EnvOk X.K ad2 H2 σ ρ)(S2:StOk X.K ad2 H2 st1)(g2:Good ad2 H2)(hcomp:Ym ok (fun d s=>ev F ce (YL bd ρ fr d) s) (fun d s=>ev F cc (YL bd ρ fr d) s) ds st1=some (ys,st'))(hz:ds.length≤1000)(hp:Post X.K ad2 H2 (.lst st'.length) (st'++[(true,ys)]) Q)(hend:∀ C dd s5 H5 m',s5.heap.Ns C m'→(∀ h',Heap.SameBut C s5.heap h'→L2.Inv X pins σ H5 { s5 with heap:=h' })→FpOk X pins H5 C→Q (.ref dd) H5→compPost (model X.prog X.w) X.A X.xe use R0 (.ref dd) C (.ok .next) s5) :
  wpAny (model X.prog X.w) X.A (newList []) (fun acc s₃=>wpAny (model X.prog X.w) X.A (newFunctionEnv sc2 X.env.globals cl [] X.env.qual none .none (some X.env)) (fun cenv s₄=>
   codeAny (model X.prog X.w) X.A (.compStart (.ListComp elt [⟨tg,iter,ifs,0⟩] sc2 pos) 0 (.ref it) acc { cenv with scope:=relabel sc2 X.env }) (compPost (model X.prog X.w) X.A X.xe use R0 acc cenv.locals) s₄) X.xe s₃) X.xe s2:=by
 obtain⟨h1,h2,h3,h4,h5,h6⟩:=Yr hsc;have fb:∀ b∈fp,b < s2.heap.objs.size:=fun b hb=>let ⟨o,e,_⟩:=T.obj 0 _ t2 b hb;Heap.lt_size e
 refine wpAny_newObj_type (wpAny_newFunctionEnv h2 (by intro y hy;simp at hy) (fun h₁ hns₁ hsb₁=>?_) h1)
 dsimp only at hns₁ hsb₁ ⊢;have I3:L2.Inv X pins σ (upd H2 s2.heap.objs.size (.lst [])) { s2 with heap:=s2.heap.push { cls:=.type "list",dict:=none,data:=.seq ([]:List Value).toArray } }:=I2.lnew (its:=[]) (t':=s2.toks) .nil (Nat.zero_le _)
 have e3:s2.heap.push { cls:=.type "list",dict:=none,data:=.seq ([]:List Value).toArray }=({ s2 with heap:=s2.heap.push { cls:=.type "list",dict:=none,data:=.seq ([]:List Value).toArray } }:Shared).heap:=rfl
 exact Jd Kx ihE hsc hfr hce hcc c1 c2 gm gw go stop yl B T t2 f2 fb E2 S2 g2 hcomp hz hp hend (I2.hok.fresh (Nat.le_refl _)) I3 (Heap.size_push ..) (fun z=>absurd (S2.lt I2 z) (Nat.lt_irrefl _)) hns₁ (fun b u e=>hsb₁.extBut b u (Nat.ne_of_lt (Heap.lt_size e)) (Heap.get?_push_of_some _ e)) (fun b u e=>Heap.get?_push_of_some _ e)
end
end Dp



namespace Dp
open PySem PySem.Spec PyProof.Rows L2
variable [ClsTab]
def Zbh(X:Cx)(σ:L2.St)(ρ:Env)(ds:List D)(ok:Za→Prop)(st1 st2:Za)(ys:List D)(Q:VK)(J:It)(H1:Hp):Prop:=
 ∃ (ad1:List Addr) (Good:List Addr→Hp→Prop),(∀ ad H ad' H',Ext ad H ad' H'→Good ad H→Good ad' H')∧(∀ ad H p xs ys,H p=some (.lst xs)→Good ad H→Good ad (upd H p (.lst ys))) ∧
  (∀ i ad H st,Good ad H→StOk X.K ad H st→ok st→i < ds.length→J.go i H)∧(∀ i ad H st,Good ad H→StOk X.K ad H st→ok st→ds.length=i→J.stop i H)∧(∀ i ad H st v H',Good ad H→StOk X.K ad H st→ok st→J.yld i H v H'→i < ds.length→Ext ad H ad H'∧StOk X.K ad H' st∧∃ d,ds[i]?=some d∧Den X.K ad H' v d) ∧
  EnvOk X.K ad1 H1 σ ρ∧StOk X.K ad1 H1 st1∧Good ad1 H1∧Post X.K ad1 H1 (.lst st2.length) (st2++[(true,ys)]) Q
theorem ZbB{X:Cx}{σ:L2.St}{ρ:Env}{ds:List D}{st st1 st2:Za}{ys:List D}{Q:VK}{H:Hp}{ad:List Addr}{f:Ev}(E:EnvOk X.K ad H σ ρ)(S:StOk X.K ad H st)(q:f ρ st=some (.tup ds,st1))(p:Post X.K ad H (.lst st2.length) (st2++[(true,ys)]) Q) :
  iTup X.K (tE X.K f) σ H (Zbh X σ ρ ds (fun _=>True) st1 st2 ys Q):=by
 refine⟨ad,ρ,st,.tup ds,st1,E,S,q,fun v ad1 H1 x1 S1 d1=>?_⟩
 obtain⟨a,vs,rfl,ha,rv⟩:=d1.ofTup;refine⟨a,rfl,⟨vs,(ha).sq⟩,ad1,fun ad H=>TupAt X.K H a vs∧Dens X.K ad H vs ds,fun _ _ _ _ x g=>⟨g.1.mono x,g.2.mono x⟩,fun _ H p xs ys hp g=>⟨g.1.upd hp (by intro xs z;cases z),g.2.wr hp⟩,fun i ad H st g _ _ hi=>?_,fun i ad H st g _ _ hi=>⟨vs,(g.1).sq,by rw[g.2.length];exact Nat.le_of_eq hi⟩,
  fun i ad H st v H' g S _ y hi=>?_,E.mono x1,S1,⟨ha,rv⟩,p.later x1⟩
 ·obtain⟨v,e,_⟩:=g.2.get (List.getElem?_eq_getElem hi)
  exact⟨vs,v,(g.1).sq,e⟩
 ·obtain⟨w,e,dw⟩:=g.2.get (List.getElem?_eq_getElem hi)
  have:=y.2 vs ((g.1).sq);rw[e]at this;cases this
  cases y.1;exact⟨Ext.refl _ _,S,_,List.getElem?_eq_getElem hi,dw⟩
theorem ZbA{X:Cx}{σ:L2.St}{ρ:Env}{n:Int}{st st1 st2:Za}{ys:List D}{Q:VK}{H:Hp}{ad:List Addr}{f:Ev}(hn:n < 2 ^ 62∧-(2 ^ 62)≤n)(E:EnvOk X.K ad H σ ρ)(S:StOk X.K ad H st)(q:f ρ st=some (.int n,st1))(p:Post X.K ad H (.lst st2.length) (st2++[(true,ys)]) Q) :
  iRng1 (tCons (tE X.K f) tNil) σ H (Zbh X σ ρ ((List.range n.toNat).map fun(k:Nat)=>D.int (k:Int)) (fun _=>True) st1 st2 ys Q):=by
 refine⟨ad,ρ,st,.int n,st1,E,S,q,fun v ad1 H1 x1 S1 d1=>?_⟩
 cases d1.ofInt;refine⟨n,rfl,hn.2,hn.1,ad1,fun _ _=>True,fun _ _ _ _ _ _=>trivial,fun _ _ _ _ _ _ _=>trivial,fun i ad H st _ _ _ hi=>(show i < n.toNat by simpa using hi),fun i ad H st _ _ _ hi=>(show n.toNat≤i by simpa using Nat.le_of_eq hi),fun i ad H st v H' _ S _ y hi=>?_,E.mono x1,S1,trivial,p.later x1⟩
 cases y.1;have hi':i < n.toNat:=by simpa using hi
 refine⟨Ext.refl _ _,S,.int (i:Int),?_,?_⟩
 ·rw[List.getElem?_map,List.getElem?_range hi'];rfl
 ·rw[y.2,Int.zero_add];exact .int _
theorem Zbz{X:Cx}{σ:L2.St}{ρ:Env}{l:Nat}{c:Ue}{st st1 st2:Za}{ys:List D}{Q:VK}{H:Hp}{ad:List Addr}{f:Ev}(E:EnvOk X.K ad H σ ρ)(S:StOk X.K ad H st)(q:f ρ st=some (.lst l,st1))(hc:st1[l]?=some c)(p:Post X.K ad H (.lst st2.length) (st2++[(true,ys)]) Q) :
  iList X.K (tE X.K f) σ H (Zbh X σ ρ c.2 (fun s=>s[l]?=some c) st1 st2 ys Q):=by
 refine⟨ad,ρ,st,.lst l,st1,E,S,q,fun v ad1 H1 x1 S1 d1=>?_⟩
 obtain⟨a,rfl,ha⟩:=d1.ofLst;obtain⟨vs,rv,sq⟩:=S1.list ha (show st1[l]?=some (c.1,c.2) from hc);refine⟨a,rfl,⟨vs,sq⟩,ad1,fun ad H=>LA ad H l a,fun _ _ _ _ x g=>g.mono x,fun _ _ _ _ _ e g=>⟨g.1,fun z=>g.2 ((Jq e).mpr z)⟩,fun i ad H st g S e hi=>?_,fun i ad H st g S e hi=>?_,fun i ad H st v H' g S e y hi=>?_,E.mono x1,S1,ha,p.later x1⟩
 ·obtain⟨vs,rv,sq⟩:=S.list g (show st[l]?=some (c.1,c.2) from e)
  obtain⟨v,e,_⟩:=rv.get (List.getElem?_eq_getElem hi);exact⟨vs,v,sq,e⟩
 ·obtain⟨vs,rv,sq⟩:=S.list g (show st[l]?=some (c.1,c.2) from e)
  exact⟨vs,sq,by rw[rv.length];exact Nat.le_of_eq hi⟩
 ·obtain⟨vs,rv,sq⟩:=S.list g (show st[l]?=some (c.1,c.2) from e)
  obtain⟨w,e,dw⟩:=rv.get (List.getElem?_eq_getElem hi);have:=y.2 vs sq;rw[e]at this;cases this
  cases y.1;exact⟨Ext.refl _ _,S,_,List.getElem?_eq_getElem hi,dw⟩
theorem ZaI{X:Cx}{σ:L2.St}{ρ:Env}{x0:D}{ds:List D}{ok:Za→Prop}{st st1 st2:Za}{ys:List D}{Q:VK}{H:Hp}{ad:List Addr}{fa fb:Ev}(E:EnvOk X.K ad H σ ρ)(S:StOk X.K ad H st)(q:ZQ fa fb QI ρ st=some (x0,st1))(hw:QX false x0 st1=some (ds,ok))(p:Post X.K ad H (.lst st2.length) (st2++[(true,ys)]) Q) :
  iRng2 (tCons (tE X.K fa) (tCons (tE X.K fb) tNil)) σ H (Zbh X σ ρ ds ok st1 st2 ys Q):=by
 unfold ZQ at q;split at q
 ·rename_i da s1 qa
  split at q
  ·rename_i db s2 qb
   unfold QI at q;split at q
   ·rename_i a b
    split at q
    ·rename_i hr
     cases q;cases hw;unfold WO at hr;simp only[decide_eq_true_eq]at hr;have hN:UL a b 1=(b - a).toNat:=by
      unfold UL;rw[if_pos (by decide)]
      split
      ·rw[Int.ediv_one];omega
      ·omega
     have hl:((Vq a b 1).map D.int).length=(b - a).toNat:=by unfold Vq;rw[List.length_map,List.length_map,List.length_range,hN]
     refine⟨ad,ρ,st,.int a,s1,E,S,qa,fun v ad1 H1 x1 S1 d1=>?_⟩
     cases d1.ofInt;refine⟨ad1,ρ,s1,.int b,_,E.mono x1,S1,qb,fun w ad2 H2 x2 S2 d2=>?_⟩
     cases d2.ofInt;refine⟨a,b,rfl,⟨by omega,by omega,by omega,by omega⟩,ad2,fun _ _=>True,fun _ _ _ _ _ _=>trivial,fun _ _ _ _ _ _ _=>trivial,fun i ad H st _ _ _ hi=>(show i < (b - a).toNat by omega),fun i ad H st _ _ _ hi=>(show(b - a).toNat≤i by omega),fun i ad H st v H' _ S _ y hi=>?_,E.mono (x1.trans x2),S2,trivial,p.later (x1.trans x2)⟩
     cases y.1;have hi':i < UL a b 1:=by omega
     refine⟨Ext.refl _ _,S,.int (a+(i:Int)),?_,?_⟩
     ·unfold Vq
      rw[List.getElem?_map,List.getElem?_map,List.getElem?_range hi'];show some (D.int (a+(i:Int) * 1))=_;rw[Int.mul_one]
     ·rw[y.2];exact .int _
    ·cases q
   ·cases q
  ·cases q
 ·cases q
theorem Zbd{tg:Expr}{xs:List Str}(h:tgN tg=some xs):∃ x px,tg=.Name x px∧xs=[x]:=by
 unfold tgN at h;split at h
 ·cases h;exact⟨_,_,rfl,rfl⟩
 ·cases h
inductive CSh(G:Gs)(n:Nat)(sc:Scope)(N:List Str)(elt:Expr)(sc2:Scope):List Comprehension→CE→Prop
 |mk {tg it:Expr}{ifs:List Expr}{xs:List Str}{fr:List Nat}{r:Option (Option Bool)}{ci ce cc:CE} (htg:tgN tg=some xs) (hsc:Xj sc sc2 xs=true) (hfr:Xt N (ZN sc2)=some fr) (hi:itC G sc it (cE G n sc N) xs=some (r,ci)) (hce:cE G n sc2 (xs++ZN sc2) elt=some ce) (hcc:(ifs=[]∧cc=.cst (.bl true))∨∃ e,ifs=[e]∧cE G n sc2 (xs++ZN sc2) e=some cc):CSh G n sc N elt sc2 [⟨tg,it,ifs,0⟩] (mkC r fr ci ce cc)
theorem ZdN{G:Gs}{n:Nat}{sc:Scope}{N:List Str}{elt:Expr}{gens:List Comprehension}{sc2:Scope}{pos:Pos}{c:CE}(h:cE G (n+1) sc N (.ListComp elt gens sc2 pos)=some c):CSh G n sc N elt sc2 gens c:=by
 replace h:Zfo G sc sc2 N (cE G n sc N) (cE G n sc2) elt gens=some c:=h;have no:∀ {P:Prop},(none:Option CE)=some c→P:=fun z=>nomatch z
 cases gens with
 |nil=>exact no h
 |cons g gs=>
  obtain⟨tg,it,ifs,k⟩:=g;cases k with
  |negSucc _=>cases gs<;>exact no h
  |ofNat m=>cases m with
   |succ _=>cases gs<;>exact no h
   |zero=>cases gs with
    |cons _ _=>exact no h
    |nil=>
     replace h:(match tgN tg with
      |none=>none
      |some xs=>og (Xj sc sc2 xs=true) (o3 (fun fr p (q:CE×CE)=>mkC p.1 fr p.2 q.1 q.2) (Xt N (ZN sc2)) (itC G sc it (cE G n sc N) xs) (o2 Prod.mk (cE G n sc2 (xs++ZN sc2) elt) (ifC (cE G n sc2 (xs++ZN sc2)) ifs))))=some c:=h
     cases htg:tgN tg with
     |none=>rw[htg]at h;cases h
     |some xs=>
      rw[htg]at h;refine Ws h fun hsc h=>Vk (P:=CSh G n sc N elt sc2 _) h fun fr p q hfr hi hq=>Ye (P:=fun q:CE×CE=>CSh G n sc N elt sc2 _ (mkC p.1 fr p.2 q.1 q.2)) hq fun ce cc hce hcc=>.mk htg hsc hfr hi hce ?_
      cases ifs with
      |nil=>cases hcc;exact .inl ⟨rfl,rfl⟩
      |cons a l=>cases l with
       |nil=>exact .inr ⟨a,rfl,hcc⟩
       |cons _ _=>cases hcc
inductive CR(b:D→List (Option D))(w:D→Za→Option (List D×(Za→Prop)))(fr:List Nat)(fi fe fc:Ev)(ρ:Env)(st:Za):D→Za→Prop
 |mk {x:D}{st1 st2:Za}{ds ys:List D}{ok:Za→Prop} (q1:fi ρ st=some (x,st1)) (q2:w x st1=some (ds,ok)) (hz:ds.length≤1000) (q3:Ym ok (fun d s=>fe (YL b ρ fr d) s) (fun d s=>fc (YL b ρ fr d) s) ds st1=some (ys,st2)):CR b w fr fi fe fc ρ st (.lst st2.length) (st2++[(true,ys)])
theorem Wj{b:D→List (Option D)}{w:D→Za→Option (List D×(Za→Prop))}{fr:List Nat}{fi fe fc:Ev}{ρ:Env}{st:Za}{d:D}{st':Za}(e:W5 b w fr fi fe fc ρ st=some (d,st')):CR b w fr fi fe fc ρ st d st':=by
 unfold W5 at e;split at e
 ·split at e
  ·split at e
   ·split at e
    ·cases e;exact .mk ‹_› ‹_› ‹_› ‹_›
    ·cases e
   ·cases e
  ·cases e
 ·cases e
inductive CIt(X:Cx)(pins:List (Addr×Obj))(s:Shared)(σ:L2.St)(ρ:Env)(tg it:Expr)(xs:List Str)(F:Nat→Fn)(fr:List Nat)(ce cc:CE)(Q:VK):Prop
 |mk {bd:D→List (Option D)}{ds:List D}{ok:Za→Prop}{st1 st2:Za}{ys:List D} (B:WR X.K tg xs bd ds) (hz:ds.length≤1000) (q3:Ym ok (fun d s=>ev F ce (YL bd ρ fr d) s) (fun d s=>ev F cc (YL bd ρ fr d) s) ds st1=some (ys,st2)) (hp:Zm it=true) (pi:wpAny (model X.prog X.w) X.A (eval it X.env) (fun v s1=>wpAny (model X.prog X.w) X.A (pyIter v) (PIE X pins σ tg (Zbh X σ ρ ds ok st1 st2 ys Q)) X.xe s1) X.xe s):CIt X pins s σ ρ tg it xs F fr ce cc Q
theorem J5{α β:Type}{f:α→β}{o:Option α}{b:β}(h:o.map f=some b):∃ a,o=some a∧f a=b:=by
 cases o with
 |none=>cases h
 |some a=>exact⟨a,rfl,by cases h;rfl⟩
theorem ZdL{G:Gs}{F:Nat→Fn}{n:Nat}(ihE:Zx G F n){X:Cx}{sc:Scope}{N:List Str}(Kx:Cxt X G F sc N){tg it:Expr}{xs:List Str}{fr:List Nat}{r:Option (Option Bool)}{ci ce cc:CE}(htg:tgN tg=some xs)(hi:itC G sc it (cE G n sc N) xs=some (r,ci)){pins:List (Addr×Obj)}{s:Shared}{σ:L2.St}{H:Hp}{Q:VK}(I:L2.Inv X pins σ H s){ad:List Addr}{ρ:Env}{st:Za}{d:D}{st':Za}(E:EnvOk X.K ad H σ ρ)(S:StOk X.K ad H st)(e:ev F (mkC r fr ci ce cc) ρ st=some (d,st'))(p:Post X.K ad H d st' Q):CIt X pins s σ ρ tg it xs F fr ce cc Q:=by
 obtain⟨x,px,rfl,rfl⟩:=Zbd htg
 ·replace hi:(match ZU G sc it with
   |some a=>(cE G n sc N a).map fun c=>(some (some true),c)
   |none=>match (fnA G sc "range" it).bind ZiG with
    |some p=>o2 (fun x y=>(some (some false),.rng2 x y)) (cE G n sc N p.1) (cE G n sc N p.2)
    |none=>(cE G n sc N it).map fun c=>(some (some false),c))=some (r,ci):=hi
  split at hi
  ·rename_i a ha
   obtain⟨ca,q,hi⟩:=J5 hi;cases hi;obtain⟨hp,pi⟩:=WC (tg:=.Name x px) Kx ha (Zf q) (ihE X sc N Kx a _ q).pe;cases Wj e with
   |@mk x0 st1 st2 ds ys ok q1 q2 hz q3=>
    refine .mk WY hz q3 hp (pi pins s σ H _ I ?_);cases x0 with
    |int k=>
     have q2:(match (if k < 2 ^ 62∧-(2 ^ 62)≤k then some ((List.range k.toNat).map fun(k:Nat)=>D.int (k:Int)) else none) with
      |some xs=>some (xs,fun _=>True)
      |none=>none)=some (ds,ok):=q2
     by_cases hk:k < 2 ^ 62∧-(2 ^ 62)≤k
     ·rw[if_pos hk]at q2
      cases q2;exact ZbA hk E S q1 p
     ·rw[if_neg hk]at q2
      cases q2
    |_=>cases q2
  ·split at hi
   ·rename_i p hp2
    refine Ye (P:=fun u:Option (Option Bool)×CE=>u=(r,ci)→CIt X pins s σ ρ (.Name x px) it [x] F fr ce cc Q) hi (fun ca cb qa qb hu=>?_) rfl
    cases hu;obtain⟨as,h1,h2⟩:=Option.bind_eq_some_iff.mp hp2;obtain⟨pp,pos,rfl,hg,hm⟩:=Uq Kx h1;obtain⟨a,b⟩:=p;obtain rfl:as=[a,b]:=by
     cases as with
     |nil=>cases h2
     |cons a0 as=>cases as with
      |nil=>cases h2
      |cons b0 as=>cases as with
       |nil=>cases h2;rfl
       |cons _ _=>cases h2
    cases Wj e with
    |@mk x0 st1 st2 ds ys ok q1 q2 hz q3=>
     refine .mk WY hz q3 rfl (pi_range2 hg hm (pa2 (Zf qa) (Zf qb) (ihE X sc N Kx a _ qa).pe (ihE X sc N Kx b _ qb).pe) (by rw[Ze (Zf qa),Ze (Zf qb)];rfl) (Ze (Zf qb)) pins s σ H _ I (ZaI E S q1 q2 p))
   ·obtain⟨ca,q,hi⟩:=J5 hi
    cases hi;cases Wj e with
    |@mk x0 st1 st2 ds ys ok q1 q2 hz q3=>
     refine .mk WY hz q3 (Zf q) ?_;cases x0 with
     |tup xs=>cases q2;exact pi_tup (ihE X sc N Kx it _ q).pe pins s σ H _ I (ZbB E S q1 p)
     |lst l=>
      have q2:(match st1[l]? with
       |some c=>some (c.2,fun s=>s[l]?=some c)
       |none=>none)=some (ds,ok):=q2
      cases q4:st1[l]? with
      |none=>rw[q4]at q2;cases q2
      |some c0=>
       rw[q4]at q2;cases q2;exact pi_list (ihE X sc N Kx it _ q).pe pins s σ H _ I (Zbz E S q1 q4 p)
     |str z=>cases q2
     |dct ks vs=>
      have no:∀ {v:V}{ad1:List Addr}{H1:Hp},Den X.K ad1 H1 v (.dct ks vs)→False:=fun {v ad1 H1} d1=>by
       obtain⟨a,ws,_,_,hl,r⟩:=d1.ofDct;cases ks with
       |cons _ _=>cases q2
       |nil=>
        cases ws with
        |cons _ _=>cases hl
        |nil=>cases r;cases q2
      exact thn ((ihE X sc N Kx it _ q).pe pins s σ H (fun _ _=>False) I ⟨ad,ρ,st,_,st1,E,S,q1,fun v ad1 H1 x1 S1 d1=>no d1⟩) fun v s1 ⟨x,H1,I1,r1,z⟩=>z.elim
     |_=>cases q2
theorem JS{G:Gs}{F:Nat→Fn}{n:Nat}(ihE:Zx G F n){X:Cx}{sc:Scope}{N:List Str}(Kx:Cxt X G F sc N){elt:Expr}{gens:List Comprehension}{sc2:Scope}{pos:Pos}{c:CE}(h:cE G (n+1) sc N (.ListComp elt gens sc2 pos)=some c){pins:List (Addr×Obj)}{s:Shared}{σ:L2.St}{H:Hp}{Q:VK}(I:L2.Inv X pins σ H s)(hq:tE X.K (ev F c) σ H Q){use:Option (Value→Sem Unit)}{R0:Value→Shared→Prop}(hend:∀ C dd s5 H5 m',s5.heap.Ns C m'→(∀ h',Heap.SameBut C s5.heap h'→L2.Inv X pins σ H5 { s5 with heap:=h' })→FpOk X pins H5 C→Q (.ref dd) H5→compPost (model X.prog X.w) X.A X.xe use R0 (.ref dd) C (.ok .next) s5) :
  ∃ tg it ifs,gens=[⟨tg,it,ifs,0⟩]∧∀ pos',wpAny (model X.prog X.w) X.A (comprehension (.ListComp elt [⟨tg,it,ifs,0⟩] sc2 pos) sc2 X.env pos' (newList []) false (eval it X.env) use) R0 X.xe s:=by
 cases ZdN h with
 |@mk tg it ifs xs fr r ci ce cc htg hsc hfr hi hce hcc=>
  obtain⟨h1,h2,h3,h4,h5,h6⟩:=Yr hsc;obtain⟨ad,ρ,st,d,st',E,S,e,p⟩:=hq;obtain⟨cl,ec,c1,c2⟩:=U7 (env:=X.env) (sc:=sc2) (fun y hy hf=>by
   have hm:(y.1,NameKind.free)∈sc2.names:=by rw[←hf];exact hy
   exact I.ok.has y.1 (Kx.cel y.1 (h6 y.1 (mem_frees.mpr hm)).1))
  refine⟨tg,it,ifs,rfl,fun pos'=>?_⟩
  cases ZdL ihE Kx htg hi I E S e p with
  |mk B hz q3 hp pi=>
   refine wpAny_comprehension_free (use:=use) rfl (ZW hp) ec h1 h4 (thn pi fun v s1 h1'=>thn h1' fun itv s2 h2'=>?_)
   obtain⟨ita,fp,tn,J,H2,rfl,I2,T,t2,f2,ad1,Good,gm,gw,go,stop,yl,E2,S2,g2,p2⟩:=h2';exact ZaL Kx ihE hsc hfr hce hcc c1 c2 Good gm gw go stop yl I2 B T t2 f2 E2 S2 g2 q3 hz p2 hend
theorem ZdM{G:Gs}{F:Nat→Fn}:Yu G F:=by
 intro n ihE;refine⟨fun X sc N Kx elt gens sc2 pos c h=>SE.of ?_,fun X sc N K y i p elt gens sc2 epos pos c hi h hsw=>?_⟩
 ·intro pins s σ H Q I hq
  obtain⟨tg,it,ifs,rfl,go⟩:=JS ihE Kx h I hq (use:=none) (R0:=EP X pins σ Q) fun C dd s5 H5 m' hn hI _ q=>⟨m',hn,fun h' sb=>⟨.ref dd,H5,hI h' sb,rfl,q⟩⟩
  rw[eval_ListComp];exact go _
 ·intro pins s σ H D I hq
  obtain⟨tg,it,ifs,rfl,go⟩:=JS ihE K.toCxt h I hq (use:=some (assign (.Name y p) X.env)) (R0:=fun _ s'=>SP X pins D .next s') fun C dd s5 H5 m' hn hI fo q=>by
   have I5:=hI s5.heap (Heap.SameBut.refl _ _);show wpAny _ X.A (assign (.Name y p) X.env (.ref dd)) _ _ s5;refine wpAny_assign_Name (store_ok2 (v:=.ref dd) I5 (by rw[K.hN];exact K.nd) (by rw[K.hN];exact XW hi) (K.loc _ (Us hi)) rfl (fun s6 I6 ⟨a,sb,ha⟩=>?_) (.inl (K.fn _)))
   have ne:C≠a:=by
    rcases ha with z|z
    ·rw[z];exact fo.2.1
    ·exact fun w=>fo.2.2.2.2.1 _ _ z w.symm
   exact⟨m',hn.sameBut sb ne,fun h3 sb3=>⟨_,H5,I6.turned (t':=s6.toks) (fun b o hb e=>sb3.extBut b o hb e) fo.1 fo.2.1 fo.2.2.2.1 fo.2.2.2.2.1 fo.2.2.2.2.2,q⟩⟩
  rw[exec_Assign_Name_used _ _ _ _ hsw];refine wpAny_bind (wpAny_standAt (wpAny_bind ?_));show wpAny _ X.A (do let _ ←comprehension (.ListComp elt [⟨tg,it,ifs,0⟩] sc2 epos) sc2 X.env _ (newList []) false (eval it X.env) (some (assign (.Name y p) X.env))) _ _ s
  exact wpAny_bind (wpAny_mono (go _) (fun _ s' hq=>wpAny_pure (wpAny_pure hq)) fun _ _ e=>e)
end Dp


namespace Dp
open PySem

inductive P where
 |non|bl (b:Bool)|int (i:Int)|str (x:Str)|tup (xs:List P)|lst (m:Bool) (xs:List P)|dct (ks:List Str) (vs:List P)|obj (i:Nat)|kt (ks:List Str)|dic (m:Bool) (xs:List P)

mutual
noncomputable def noL:P→Bool
 |.tup xs=>WG xs
 |.lst _ _=>false
 |.dic _ _=>false
 |.dct _ vs=>WG vs
 |_=>true
noncomputable def WG:List P→Bool
 |[]=>true
 |x :: xs=>noL x&&WG xs
end
mutual
noncomputable def ofD:D→Option P
 |.non=>some .non
 |.bl b=>some (.bl b)
 |.int i=>some (.int i)
 |.str x=>some (.str x)
 |.tup xs=>(Wr xs).map .tup
 |.kt ks=>some (.kt ks)
 |_=>none
noncomputable def Wr:List D→Option (List P)
 |[]=>some []
 |x :: xs=>match ofD x,Wr xs with
  |some y,some ys=>some (y :: ys)
  |_,_=>none
end
mutual
noncomputable def WW:P→P→Bool
 |.non,.non=>true
 |.bl a,.bl b=>a==b
 |.int a,.int b=>decide (a=b)
 |.str a,.str b=>decide (a=b)
 |.tup a,.tup b=>XH a b
 |_,_=>false
noncomputable def XH:List P→List P→Bool
 |[],[]=>true
 |x :: xs,y :: ys=>WW x y&&XH xs ys
 |_,_=>false
end
mutual
noncomputable def okP:Nat→P→Bool
 |_,.non=>true
 |_,.int _=>true
 |_,.str _=>true
 |n+1,.tup xs=>Qy n xs
 |_,_=>false
noncomputable def Qy:Nat→List P→Bool
 |_,[]=>true
 |n,x :: xs=>okP n x&&Qy n xs
end
noncomputable def ZcD(_ _:List P):Option Bool:=none
noncomputable def scP:P→Option Sc
 |.non=>some .non
 |.bl b=>some (.bl b)
 |.int i=>some (.int i)
 |.str x=>some (.str x)
 |_=>none
noncomputable def Zf8(xs ys:List P):Option Bool:=if (xs.isEmpty||ys.isEmpty)=true then some (xs.isEmpty&&ys.isEmpty) else if Qy 7 xs&&Qy 7 ys then some (XH xs ys) else none
noncomputable def Zji(xs:List P):P→Option Bool
 |.tup ys=>if okP 8 (.tup xs)&&okP 8 (.tup ys) then some (XH xs ys) else ZcD xs ys
 |_=>none
noncomputable def Zjh(xs:List P):P→Option Bool
 |.lst _ ys=>Zf8 xs ys
 |_=>none
noncomputable def eqP(x y:P):Option Bool:=match x with
 |.tup xs=>Zji xs y
 |.lst _ xs=>Zjh xs y
 |x=>(o2 ZbK (scP x) (scP y)).join
noncomputable def Zc0(xs:List P)(j:Int):Option P:=match xs with
 |[x]=>if j≤1000∧-1000≤j then some (.tup (List.replicate j.toNat x)) else none
 |_=>none
noncomputable def ZcZ(m:Bool)(xs:List P)(j:Int):Option P:=match m,xs with
 |true,[x]=>if j≤1000∧-1000≤j then some (.lst true (List.replicate j.toNat x)) else none
 |_,_=>none
noncomputable def Y4(op:Operator)(x y:P):Option P:=
 match x,y with
 |.int i,.int j=>match Q6 op i j with
  |some k=>some (.int k)
  |none=>none
 |.tup xs,.tup ys=>if YW op=true∧xs.length+ys.length≤Zj then some (.tup (xs++ys)) else none
 |.tup xs,.int j=>if Xc op=true then Zc0 xs j else none
 |.lst _ xs,.lst _ ys=>if YW op=true∧xs.length+ys.length≤Zj then some (.lst true (xs++ys)) else none
 |.lst m xs,.int j=>if Xc op=true then ZcZ m xs j else none
 |.str x,.str y=>if YW op=true∧x.length+y.length≤Zj then some (.str (x++y)) else none
 |_,_=>none
noncomputable def inP:Int→List P→Option Bool
 |_,[]=>some false
 |k,.int i :: r=>(inP k r).map fun b=>decide (i=k)||b
 |_,_=>none
noncomputable def ZaV:Str→List P→Option Bool
 |_,[]=>some false
 |k,.str i :: r=>(ZaV k r).map fun b=>decide (i=k)||b
 |_,_=>none
noncomputable def Xd:List Str→List P→Str→Option P
 |k :: ks,v :: vs,x=>if k=x then some v else Xd ks vs x
 |_,_,_=>none
noncomputable def Zcz(f:Int→Int→Bool):P→P→Option Bool
 |.int i,.int j=>some (f i j)
 |_,_=>none
noncomputable def ltP(x y:P):Option Bool:=Zcz (fun i j=>decide (i < j)) x y
noncomputable def Zh9(x y:P):Option Bool:=ltP x y
noncomputable def Zgk(x y:P):Option Bool:=match x,y with
 |.int k,.lst _ xs=>inP k xs
 |.str k,.lst _ xs=>ZaV k xs
 |.int k,.tup xs=>inP k xs
 |.str k,.tup xs=>ZaV k xs
 |.str k,.dct ks vs=>some (Xd ks vs k).isSome
 |.str k,.str x=>some (Zin x k)
 |_,_=>none
noncomputable def niP(x y:P):Option Bool:=match y with
 |.dct _ _=>none
 |y=>(Zgk x y).map not
noncomputable def Zjq:P→Option Bool
 |.non=>some true
 |.int _=>some false
 |.str _=>some false
 |.bl _=>some false
 |.tup _=>some false
 |.lst _ _=>some false
 |.dct _ _=>none
 |.obj _=>none
 |.kt _=>none
 |.dic _ _=>none
noncomputable def Zjn(b:Bool):P→Option Bool
 |.bl a=>some (a==b)
 |_=>none
noncomputable def Zgm(x:P):P→Option Bool
 |.non=>Zjq x
 |.bl b=>Zjn b x
 |_=>none
noncomputable def Zf2(op:CmpOp)(x y:P):Option Bool:=
 match op with
 |.Lt=>Zh9 x y
 |.LtE=>Zcz (fun i j=>decide (i≤j)) x y
 |.Gt=>Zcz (fun i j=>decide (j < i)) x y
 |.GtE=>Zcz (fun i j=>decide (j≤i)) x y
 |.Eq=>eqP x y
 |.NotEq=>(eqP x y).map not
 |.In=>Zgk x y
 |.NotIn=>niP x y
 |.Is=>Zgm x y
 |.IsNot=>(Zgm x y).map not
noncomputable def atP(xs:List P)(i:Int):Option P:=(ixN xs.length i).bind fun j=>xs[j]?
noncomputable def ixP:P→P→Option P
 |.tup xs,.int i=>atP xs i
 |.lst _ xs,.int i=>atP xs i
 |.dct ks vs,.str k=>Xd ks vs k
 |.kt ks,.int i=>atP (ks.map .str) i
 |.str x,.int i=>if x.length≤Zj then atP ((chS x).map .str) i else none
 |_,_=>none
noncomputable def Wk(xs:List P)(lo hi:Option Int):List P:=(xs.drop (sIx xs.length 0 lo)).take (sIx xs.length xs.length hi - sIx xs.length 0 lo)
noncomputable def Z5(x:P)(lo hi:Option Int):Option P:=
 match x with
 |.tup xs=>if sIx xs.length 0 lo=0∧sIx xs.length xs.length hi=xs.length then some (.tup xs) else some (.tup (Wk xs lo hi))
 |.lst _ xs=>some (.lst true (Wk xs lo hi))
 |_=>none
noncomputable def Xw:P→P→P→Option P
 |x,.non,.non=>Z5 x none none
 |x,.int i,.non=>Z5 x (some i) none
 |x,.non,.int j=>Z5 x none (some j)
 |x,.int i,.int j=>Z5 x (some i) (some j)
 |_,_,_=>none
noncomputable def Jl:P→Option P
 |.tup xs=>some (.int xs.length)
 |.lst _ xs=>some (.int xs.length)
 |.kt ks=>some (.int ks.length)
 |.str x=>if x.length≤Zj then some (.int x.length) else none
 |_=>none
noncomputable def Zgn(T:Ty):P→Option Bool
 |.int _=>some (decide (T=.int))
 |.bl _=>some (decide (T=.int)||decide (T=.bool))
 |.str _=>some (decide (T=.str))
 |.tup _=>some (decide (T=.tuple))
 |.non=>some false
 |_=>none
noncomputable def Qn(T:Ty)(p:P):Option P:=(Zgn T p).map .bl
noncomputable def Za2:P→Option P
 |.int i=>some (.int (-i))
 |_=>none
noncomputable def Za5:P→Option P
 |.bl k=>some (.bl (!k))
 |_=>none
noncomputable def Yg(op:CmpOp)(x y:P):Option P:=(Zf2 op x y).map .bl
noncomputable def Jp:P→Option P
 |.tup xs=>some (.lst true xs)
 |_=>none
noncomputable def VM:P→P→Option P
 |x,.tup xs=>if xs.length < 1000 then some (.tup (x :: xs)) else none
 |_,_=>none
noncomputable def V2:P→Option P
 |.int i=>some (.int i)
 |_=>none
noncomputable def X7(F:Nat→List P→Option P)(tab:List (Nat×Nat)):P→P→Option P
 |.obj i,.tup xs=>match tab.lookup i with
  |some j=>F j (.obj i :: xs)
  |none=>none
 |_,_=>none
noncomputable def Zfc:P→P→Option P
 |.kt ks,.tup [.str k]=>match Ur k ks with
  |some i=>some (.int (i:Int))
  |none=>none
 |_,_=>none
noncomputable def W3(g:List P→Option P)(ds:List D):P→Option P
 |.tup xs=>match Wr ds with
  |some es=>g (xs++es)
  |none=>none
 |_=>none
noncomputable def Wx:P→Option P
 |.tup xs=>some (.tup xs)
 |.lst _ xs=>some (.tup xs)
 |_=>none
noncomputable def Qq:P→Option P
 |.tup xs=>some (.lst true xs)
 |.lst _ xs=>some (.lst true xs)
 |_=>none
noncomputable def Zjl:P→Option P
 |.int i=>some (.int i)
 |.bl true=>some (.int 1)
 |.bl false=>some (.int 0)
 |.str x=>(match Zjm x with
  |some i=>some (.int i)
  |none=>none)
 |_=>none
noncomputable def Zaj:P→P→Option P
 |.int a,.int b=>if WO a b 1=true then some (.dct [] [.int a,.int b]) else none
 |_,_=>none
noncomputable def Zen:P→P→Option P
 |.int i,.int j=>some (.int (if j < i then j else i))
 |_,_=>none
noncomputable def Za1:P→P→Option P
 |.int i,.int j=>some (.int (if j > i then j else i))
 |_,_=>none
noncomputable def Zeb(ng:Bool):P→P→Option P
 |.int x,.int n=>if -(2 ^ 62)≤n∧n < 2 ^ 62 then some (.bl (ng != decide (0≤x∧x < n))) else none
 |_,_=>none
noncomputable def UA(ks:List Str)(ds:List D):P→Option P
 |.str k=>(ZC ks ds k).bind ofD
 |_=>none
noncomputable def Yb(n:Int):List P:=(List.range n.toNat).map fun(k:Nat)=>P.int (k:Int)
noncomputable def Ux(rng:Bool)(x:P):Option (List P):=
 match rng,x with
 |true,.int n=>if n < 2 ^ 62∧-(2 ^ 62)≤n then some (Yb n) else none
 |false,.tup xs=>some xs
 |_,_=>none
noncomputable def YU(f c:P→Option P):List P→Option (List P)
 |[]=>some []
 |x :: xs=>match c x with
  |some (.bl true)=>match f x with
   |some y=>match YU f c xs with
    |some ys=>some (y :: ys)
    |none=>none
   |none=>none
  |some (.bl false)=>YU f c xs
  |_=>none
noncomputable def Xf(rng:Bool)(x:P):Option (List P):=match Ux rng x with
 |some xs=>some xs
 |none=>match rng,x with
  |false,.lst _ xs=>some xs
  |false,.dct [] [.int a,.int b]=>some ((Vq a b 1).map .int)
  |_,_=>none
noncomputable abbrev Zs:=List (Option P)
noncomputable abbrev PEv:=Zs→Option P
noncomputable def pq1(fa:PEv)(g:P→Option P):PEv:=fun π=>match fa π with
 |some x=>g x
 |none=>none
noncomputable def pq2(fa fb:PEv)(g:P→P→Option P):PEv:=fun π=>match fa π with
 |some x=>match fb π with
  |some y=>g x y
  |none=>none
 |none=>none
noncomputable def pq3(fa fb fc:PEv)(g:P→P→P→Option P):PEv:=fun π=>match fa π with
 |some x=>match fb π with
  |some y=>match fc π with
   |some z=>g x y z
   |none=>none
  |none=>none
 |none=>none
noncomputable def Yq(fc ft ff:PEv):PEv:=fun π=>match fc π with
 |some (.bl true)=>ft π
 |some (.bl false)=>ff π
 |_=>none
noncomputable def Wb(i:Nat):PEv:=fun π=>match π[i]? with
 |some (some p)=>some p
 |_=>none
noncomputable def YA(π:Zs)(fr:List Nat)(p:P):Zs:=some p :: fr.map fun i=>(π[i]?).join
noncomputable def ZcM(p:P):List (Option P):=[some p]
noncomputable def Wa(b:P→List (Option P))(π:Zs)(fr:List Nat)(p:P):Zs:=b p++fr.map fun i=>(π[i]?).join
noncomputable def YN(b:P→List (Option P))(w:P→Option (List P))(fr:List Nat)(fi fe fc:PEv):PEv:=fun π=>match fi π with
 |some x=>match w x with
  |some xs=>if xs.length≤1000 then
    match YU (fun p=>fe (Wa b π fr p)) (fun p=>fc (Wa b π fr p)) xs with
    |some ys=>some (.lst true ys)
    |none=>none
   else none
  |none=>none
 |none=>none
noncomputable def pe(F:Nat→List P→Option P):CE→PEv
 |.var i=>Wb i
 |.cst d=>fun _=>ofD d
 |.bin op a b=>pq2 (pe F a) (pe F b) (Y4 op)
 |.neg a=>pq1 (pe F a) Za2
 |.cmp op a b=>pq2 (pe F a) (pe F b) (Yg op)
 |.not a=>pq1 (pe F a) Za5
 |.and a b=>Yq (pe F a) (pe F b) (fun _=>some (.bl false))
 |.or a b=>Yq (pe F a) (fun _=>some (.bl true)) (pe F b)
 |.ife c a b=>Yq (pe F c) (pe F a) (pe F b)
 |.tupE a=>pe F a
 |.lstE a=>pq1 (pe F a) Jp
 |.anil=>fun _=>some (.tup [])
 |.acons a r=>pq2 (pe F a) (pe F r) VM
 |.ix a b=>pq2 (pe F a) (pe F b) ixP
 |.slice a lo hi=>pq3 (pe F a) (pe F lo) (pe F hi) Xw
 |.nop=>fun _=>some .non
 |.part a=>pq1 (pe F a) V2
 |.call f a ds=>pq1 (pe F a) (W3 (F f) ds)
 |.len a=>pq1 (pe F a) Jl
 |.tupleOf a=>pq1 (pe F a) Wx
 |.listOf a=>pq1 (pe F a) Qq
 |.intOf _=>fun _=>none
 |.min a b=>pq2 (pe F a) (pe F b) Zen
 |.max a b=>pq2 (pe F a) (pe F b) Za1
 |.isi T a=>pq1 (pe F a) (Qn T)
 |.rs _ _=>fun _=>none
 |.inv _=>fun _=>none
 |.tupR _=>fun _=>none
 |.look ks ds a=>pq1 (pe F a) (UA ks ds)
 |.dget _ _ _=>fun _=>none
 |.inR ng a b=>pq2 (pe F a) (pe F b) (Zeb ng)
 |.all _=>fun _=>none
 |.any _=>fun _=>none
 |.comp rng fr it elt cnd=>YN ZcM (Xf rng) fr (pe F it) (pe F elt) (pe F cnd)
 |.comp2 _ _ _ _=>fun _=>none
 |.compT _ _ _ _=>fun _=>none
 |.lstR _ _=>fun _=>none
 |.new i=>fun _=>some (.obj i)
 |.meth tab o a=>pq2 (pe F o) (pe F a) (X7 F tab)
 |.isc _ _=>fun _=>none
 |.tix o a=>pq2 (pe F o) (pe F a) Zfc
 |.dict _ _=>fun _=>none
 |.dnew=>fun _=>none
 |.strOf _=>fun _=>none
 |.joinE _ _=>fun _=>none
 |.starts _ _=>fun _=>none
 |.rng2 a b=>pq2 (pe F a) (pe F b) Zaj

noncomputable def noM(M:List Nat):CE→Bool
 |.var i=>!M.contains i
 |.cst _=>true
 |.bin _ a b=>noM M a&&noM M b
 |.neg a=>noM M a
 |.cmp _ a b=>noM M a&&noM M b
 |.not a=>noM M a
 |.and a b=>noM M a&&noM M b
 |.or a b=>noM M a&&noM M b
 |.ife c a b=>noM M c&&(noM M a&&noM M b)
 |.tupE a=>noM M a
 |.lstE a=>noM M a
 |.anil=>true
 |.acons a r=>noM M a&&noM M r
 |.ix a b=>noM M a&&noM M b
 |.slice a lo hi=>noM M a&&(noM M lo&&noM M hi)
 |.nop=>true
 |.part a=>noM M a
 |.call _ a _=>noM M a
 |.len a=>noM M a
 |.tupleOf a=>noM M a
 |.listOf a=>noM M a
 |.intOf a=>noM M a
 |.min a b=>noM M a&&noM M b
 |.max a b=>noM M a&&noM M b
 |.isi _ a=>noM M a
 |.rs _ a=>noM M a
 |.inv a=>noM M a
 |.tupR a=>noM M a
 |.look _ _ a=>noM M a
 |.dget a k d=>noM M a&&(noM M k&&noM M d)
 |.inR _ a b=>noM M a&&noM M b
 |.all a=>noM M a
 |.any a=>noM M a
 |.comp _ fr it _ _=>noM M it&&fr.all fun i=>!M.contains i
 |.comp2 fr it _ _=>noM M it&&fr.all fun i=>!M.contains i
 |.compT fr it _ _=>noM M it&&fr.all fun i=>!M.contains i
 |.lstR a b=>noM M a&&noM M b
 |.new _=>true
 |.meth _ o a=>noM M o&&noM M a
 |.isc _ a=>noM M a
 |.tix o a=>noM M o&&noM M a
 |.dict _ a=>noM M a
 |.dnew=>true
 |.strOf a=>noM M a
 |.joinE a b=>noM M a&&noM M b
 |.starts a b=>noM M a&&noM M b
 |.rng2 a b=>noM M a&&noM M b
noncomputable def Va(_:Nat):Bool:=false
noncomputable def WK:CE→Bool
 |.call f _ _=>Va f
 |.bin _ _ _=>true
 |.lstE _=>true
 |.slice _ _ _=>true
 |.listOf _=>true
 |.comp ..=>true
 |_=>false
noncomputable def Zz:CS→List Nat
 |.seq a b=>Zz a++Zz b
 |.app i _=>[i]
 |.ext i _=>[i]
 |.put i _ _=>[i]
 |.dput i _ _ _=>[i]
 |.ite _ a b=>Zz a++Zz b
 |.for1 _ _ _ b=>Zz b
 |.for3 _ _ b=>Zz b
 |.forP _ _ _ b=>Zz b
 |.forE _ _ _ b=>Zz b
 |.for4 _ _ _ _ b=>Zz b
 |.for2 _ _ _ b=>Zz b
 |.whl _ b=>Zz b
 |_=>[]
noncomputable def mvT:CE→List Nat
 |.var j=>[j]
 |_=>[]
noncomputable def ZM:CS→List Nat
 |.seq a b=>ZM a++ZM b
 |.app i _=>[i]
 |.ext i _=>[i]
 |.put i _ _=>[i]
 |.dput i _ _ _=>[i]
 |.set i e=>i :: mvT e
 |.set2 i j _=>[i,j]
 |.set3 i j l _=>[i,j,l]
 |.ite _ a b=>ZM a++ZM b
 |.for1 i _ _ b=>i :: ZM b
 |.for3 i _ b=>i :: ZM b
 |.forP i j _ b=>i :: j :: ZM b
 |.forE i j _ b=>i :: j :: ZM b
 |.for4 i j l _ b=>i :: j :: l :: ZM b
 |.for2 i j _ b=>i :: j :: ZM b
 |.whl _ b=>ZM b
 |_=>[]
inductive PFl where
 |nx (π:Zs)|rt (p:P)|bk (π:Zs)|ct (π:Zs)
noncomputable abbrev PEx:=Zs→Option PFl
noncomputable def Zp(π:Zs)(i:Nat)(p:P):Zs:=π.set i (some p)
noncomputable def ZA(body:P→Zs→Option PFl):List P→Zs→Option PFl
 |[],π=>some (.nx π)
 |d :: ds,π=>match body d π with
  |some (.nx π')=>ZA body ds π'
  |some (.ct π')=>ZA body ds π'
  |some (.bk π')=>some (.nx π')
  |some (.rt v)=>some (.rt v)
  |none=>none
noncomputable def ZcQ(f g:PEx):PEx:=fun π=>match f π with
 |some (.nx π')=>g π'
 |r=>r
noncomputable def ZcN(f:PEv):PEx:=fun π=>match f π with
 |some d=>some (.rt d)
 |none=>none
noncomputable def Zq(M:List Nat)(e:CE)(p:P):Bool:=noM M e||noL p
noncomputable def YG(M:List Nat)(e:CE)(p:P):Bool:=match p with
 |.lst true xs=>WK e&&(noM M e||WG xs)
 |_=>false
noncomputable def mvP(M:List Nat)(i:Nat)(e:CE)(p:P)(π:Zs):Option PFl:=match e with
 |.var j=>if M.contains j&&!M.contains i then some (.nx (Zp (π.set j none) i p)) else none
 |_=>none
noncomputable def Jt(M:List Nat)(i:Nat)(e:CE)(f:PEv):PEx:=fun π=>match f π with
 |some p=>if (if M.contains i then YG M e p else Zq M e p||YG M e p) then some (.nx (Zp π i p)) else mvP M i e p π
 |none=>none
noncomputable def ZcR(M:List Nat)(i j:Nat)(e:CE)(f:PEv):PEx:=fun π=>match f π with
 |some (.tup [x,y])=>if !M.contains i&&!M.contains j&&Zq M e (.tup [x,y]) then some (.nx (Zp (Zp π i x) j y)) else none
 |_=>none
noncomputable def ZcS(M:List Nat)(i j l:Nat)(e:CE)(f:PEv):PEx:=fun π=>match f π with
 |some (.tup [x,y,z])=>if !M.contains i&&!M.contains j&&!M.contains l&&Zq M e (.tup [x,y,z]) then some (.nx (Zp (Zp (Zp π i x) j y) l z)) else none
 |_=>none
noncomputable def ZcC(M:List Nat)(e:CE)(f:PEv):PEx:=fun π=>match f π with
 |some p=>if Zq M e p then some (.nx π) else none
 |none=>none
noncomputable def ZcF(M:List Nat)(i:Nat)(e:CE)(f:PEv):PEx:=fun π=>match π[i]? with
 |some (some (.lst true xs))=>match f π with
  |some p=>if M.contains i&&Zq M e p&&decide (xs.length < Zj) then some (.nx (Zp π i (.lst true (xs++[p])))) else none
  |none=>none
 |_=>none
noncomputable def ZcJ(M:List Nat)(i:Nat)(e:CE)(f:PEv):PEx:=fun π=>match π[i]? with
 |some (some (.lst true xs))=>match f π with
  |some (.lst true ys)=>if M.contains i&&noM M e&&decide (xs.length+ys.length≤Zj) then some (.nx (Zp π i (.lst true (xs++ys)))) else none
  |_=>none
 |_=>none
noncomputable def ZgG(M:List Nat)(i:Nat)(e:CE)(k f:PEv):PEx:=fun π=>match f π with
 |some p=>match π[i]? with
  |some (some (.lst true xs))=>match k π with
   |some (.int j)=>match ixN xs.length j with
    |some q=>if M.contains i&&Zq M e p then some (.nx (Zp π i (.lst true (xs.set q p)))) else none
    |none=>none
   |_=>none
  |_=>none
 |none=>none
noncomputable def ZcK(c:PEv)(f g:PEx):PEx:=fun π=>match c π with
 |some (.bl true)=>f π
 |some (.bl false)=>g π
 |_=>none
noncomputable def Vv(M T:List Nat)(e:CE)(xs:List P):Bool:=noM M e||(WK e&&WG xs)||(match e with
 |.var j=>!T.contains j
 |_=>false)
noncomputable def UI(M T:List Nat)(i:Nat)(rng:Bool)(e:CE)(it:PEv)(b:PEx):PEx:=fun π=>match it π with
 |some x=>match Ux rng x with
  |some xs=>if !M.contains i&&(rng||Zq M e x) then ZA (fun d π=>b (Zp π i d)) xs π else none
  |none=>match rng,x with
   |false,.lst _ xs=>if !M.contains i&&Vv M T e xs then ZA (fun d π=>b (Zp π i d)) xs π else none
   |_,_=>none
 |none=>none
noncomputable def Ju(i j l:Nat)(b:PEx)(d:P)(π:Zs):Option PFl:=match d with
 |.tup [x,y,z]=>b (Zp (Zp (Zp π i x) j y) l z)
 |_=>none
noncomputable def QA(M:List Nat)(i j l:Nat)(e:CE)(it:PEv)(b:PEx):PEx:=fun π=>match it π with
 |some (.tup xs)=>if !M.contains i&&!M.contains j&&!M.contains l&&Zq M e (.tup xs) then ZA (Ju i j l b) xs π else none
 |_=>none
noncomputable def Yy(body:P→P→Zs→Option PFl):List (P×P)→Zs→Option PFl
 |[],π=>some (.nx π)
 |p :: ps,π=>match body p.1 p.2 π with
  |some (.nx π')=>Yy body ps π'
  |some (.ct π')=>Yy body ps π'
  |some (.bk π')=>some (.nx π')
  |some (.rt v)=>some (.rt v)
  |none=>none
noncomputable def QC(M:List Nat)(i j:Nat)(e:CE)(it:PEv)(b:PEx):PEx:=fun π=>match it π with
 |some (.tup [.lst _ xs,.lst _ ys])=>if !M.contains i&&!M.contains j&&noM M e then Yy (fun x y π=>b (Zp (Zp π i x) j y)) (xs.zip ys) π else none
 |_=>none
noncomputable def Wt:Nat→List P→List (P×P)
 |_,[]=>[]
 |k,x :: xs=>(.int (k:Int),x) :: Wt (k+1) xs
noncomputable def Zdm:P→Option (List P)
 |.tup xs=>some xs
 |.lst _ xs=>some xs
 |_=>none
noncomputable def QB(M:List Nat)(i j:Nat)(e:CE)(it:PEv)(b:PEx):PEx:=fun π=>match it π with
 |some x=>match Zdm x with
  |some xs=>if !M.contains i&&!M.contains j&&noM M e then Yy (fun x y π=>b (Zp (Zp π i x) j y)) (Wt 0 xs) π else none
  |none=>none
 |none=>none
noncomputable def px(F:Nat→List P→Option P)(M:List Nat):CS→PEx
 |.skip=>fun π=>some (.nx π)
 |.seq a b=>ZcQ (px F M a) (px F M b)
 |.ret e=>ZcN (pe F e)
 |.set i e=>Jt M i e (pe F e)
 |.set2 i j e=>ZcR M i j e (pe F e)
 |.app i e=>ZcF M i e (pe F e)
 |.ext i e=>ZcJ M i e (pe F e)
 |.put i k e=>ZgG M i e (pe F k) (pe F e)
 |.ite c a b=>ZcK (pe F c) (px F M a) (px F M b)
 |.for1 i rng it b=>UI M (ZM b) i rng it (pe F it) (px F M b)
 |.forP i j it b=>QC M i j it (pe F it) (px F M b)
 |.forE i j it b=>QB M i j it (pe F it) (px F M b)
 |.for3 _ _ _=>fun _=>none
 |.for4 i j l it b=>QA M i j l it (pe F it) (px F M b)
 |.for2 _ _ _ _=>fun _=>none
 |.whl _ _=>fun _=>none
 |.brk=>fun π=>some (.bk π)
 |.cont=>fun π=>some (.ct π)
 |.stop=>fun _=>none
 |.app2 _ _=>fun _=>none
 |.set3 i j l e=>ZcS M i j l e (pe F e)
 |.act e=>ZcC M e (pe F e)
 |.dput _ _ _ _=>fun _=>none
noncomputable def fnP(F:Nat→List P→Option P)(f:FD):List P→Option P:=fun ds=>
 if ds.length=f.ps∧(Zz f.body).all (fun i=>decide (f.ps≤i))=true then
  match px F (Zz f.body) f.body (ds.map some++List.replicate (f.ns - ds.length) none) with
  |some (.rt d)=>some d
  |some (.nx _)=>some .non
  |_=>none
 else none
noncomputable def Xe:CS→Bool
 |.seq a b=>Xe a&&Xe b
 |.ret _=>false
 |.ite _ a b=>Xe a&&Xe b
 |.for1 _ _ _ b=>Xe b
 |.for3 _ _ b=>Xe b
 |.forP _ _ _ b=>Xe b
 |.forE _ _ _ b=>Xe b
 |.for4 _ _ _ _ b=>Xe b
 |.for2 _ _ _ b=>Xe b
 |.whl _ b=>Xe b
 |_=>true
noncomputable def Zao(M:List Nat):CS→Bool
 |.seq (.ret (.var j)) .skip=>M.contains j
 |.seq a b=>Xe a&&Zao M b
 |_=>false
noncomputable def Vi(f:FD):Bool:=Zao (Zz f.body) f.body
noncomputable def Zg(T:Nat→Option FD):Nat→Nat→List P→Option P
 |0,_=>fun _=>none
 |n+1,i=>match T i with
  |some f=>if (Va i&&!Vi f)=true then fun _=>none else fnP (Zg T n) f
  |none=>fun _=>none
end Dp


namespace Dp
open PySem
abbrev Fz:=Nat→Prop
mutual
inductive Rel(fz:Fz)(st:Za):P→D→Prop where
 |non:Rel fz st .non .non
 |bl (b:Bool):Rel fz st (.bl b) (.bl b)
 |int (i:Int):Rel fz st (.int i) (.int i)
 |str (x:Str):Rel fz st (.str x) (.str x)
 |tup {ps:List P}{ds:List D} (r:Rels fz st ps ds):Rel fz st (.tup ps) (.tup ds)
 |lst {j:Nat}{m:Bool}{ps:List P}{ds:List D} (hz:fz j) (h:st[j]?=some (m,ds)) (r:Rels fz st ps ds):Rel fz st (.lst m ps) (.lst j)
 |dct {ks:List Str}{ps:List P}{ds:List D} (r:Rels fz st ps ds):Rel fz st (.dct ks ps) (.dct ks ds)
 |obj (i:Nat):Rel fz st (.obj i) (.obj i)
 |kt (ks:List Str):Rel fz st (.kt ks) (.kt ks)
 |dic {j:Nat}{m:Bool}{ps:List P}{ds:List D} (hz:fz j) (h:st[j]?=some (m,ds)) (r:Rels fz st ps ds):Rel fz st (.dic m ps) (.dic j)
inductive Rels(fz:Fz)(st:Za):List P→List D→Prop where
 |nil:Rels fz st [] []
 |cons {p:P}{d:D}{ps:List P}{ds:List D} (h:Rel fz st p d) (r:Rels fz st ps ds):Rels fz st (p :: ps) (d :: ds)
end
section
variable {fz fz':Fz}{st st':Za}
theorem Rel.mono(h1:∀ i,fz i→fz' i)(h2:∀ i,fz i→st'[i]?=st[i]?){p:P}{d:D}(h:Rel fz st p d):Rel fz' st' p d:=
 Rel.rec (motive_1:=fun p d _=>Rel fz' st' p d) (motive_2:=fun ps ds _=>Rels fz' st' ps ds) .non .bl .int .str (fun _ r=>.tup r) (fun hz h _ r=>.lst (h1 _ hz) (by rw[h2 _ hz];exact h) r) (fun _ r=>.dct r) .obj .kt (fun hz h _ r=>.dic (h1 _ hz) (by rw[h2 _ hz];exact h) r) .nil (fun _ _ a b=>.cons a b) h
theorem Rels.mono(h1:∀ i,fz i→fz' i)(h2:∀ i,fz i→st'[i]?=st[i]?){ps:List P}{ds:List D}(h:Rels fz st ps ds):Rels fz' st' ps ds:=
 Rels.rec (motive_1:=fun _ _ _=>True) (motive_2:=fun ps ds _=>Rels fz' st' ps ds) trivial (fun _=>trivial) (fun _=>trivial) (fun _=>trivial) (fun _ _=>trivial) (fun _ _ _ _=>trivial) (fun _ _=>trivial) (fun _=>trivial) (fun _=>trivial) (fun _ _ _ _=>trivial) .nil (fun a _ _ b=>.cons (a.mono h1 h2) b) h
theorem Rel.ofNoL{p:P}{d:D}(hn:noL p=true)(h:Rel fz st p d):Rel fz' st' p d:=
 Rel.rec (motive_1:=fun p d _=>noL p=true→Rel fz' st' p d) (motive_2:=fun ps ds _=>WG ps=true→Rels fz' st' ps ds) (fun _=>.non) (fun _ _=>.bl _) (fun _ _=>.int _) (fun _ _=>.str _) (fun _ r h=>.tup (r h)) (fun _ _ _ _ h=>by cases h) (fun _ r h=>.dct (r h)) (fun _ _=>.obj _) (fun _ _=>.kt _) (fun _ _ _ _ h=>by cases h) (fun _=>.nil) (fun _ _ a b h=>.cons (a (Bool.and_eq_true_iff.mp h).1) (b (Bool.and_eq_true_iff.mp h).2)) h hn
theorem Rels.ofNoL{ps:List P}{ds:List D}(hn:WG ps=true)(h:Rels fz st ps ds):Rels fz' st' ps ds:=by
 induction ps generalizing ds with
 |nil=>cases h;exact .nil
 |cons p ps ih=>cases h with
  |cons a r=>exact .cons (a.ofNoL (Bool.and_eq_true_iff.mp hn).1) (ih (Bool.and_eq_true_iff.mp hn).2 r)
theorem Rels.length:∀ {ps:List P}{ds:List D},Rels fz st ps ds→ps.length=ds.length
 |_,_,.nil=>rfl
 |_,_,.cons _ r=>congrArg (·+1) (Rels.length r)
theorem Rels.get:∀ {ps:List P}{ds:List D}{i:Nat}{p:P},Rels fz st ps ds→ps[i]?=some p→∃ d,ds[i]?=some d∧Rel fz st p d
 |_,_,_,_,.nil,e=>by simp at e
 |_,_,0,_,.cons h _,e=>by simp at e;subst e;exact⟨_,rfl,h⟩
 |_,_,i+1,p,.cons _ r,e=>by
  obtain⟨v,h1,h2⟩:=Rels.get (i:=i) (p:=p) r (by simpa using e)
  exact⟨v,by simpa using h1,h2⟩
theorem Rels.append:∀ {ps qs:List P}{ds es:List D},Rels fz st ps ds→Rels fz st qs es→Rels fz st (ps++qs) (ds++es)
 |_,_,_,_,.nil,s=>s
 |_,_,_,_,.cons h r,s=>.cons h (Rels.append r s)
theorem Rels.take:∀ {ps:List P}{ds:List D} (n:Nat),Rels fz st ps ds→Rels fz st (ps.take n) (ds.take n)
 |_,_,0,_=>.nil
 |_,_,_+1,.nil=>.nil
 |_,_,n+1,.cons h r=>.cons h (Rels.take n r)
theorem Rels.drop:∀ {ps:List P}{ds:List D} (n:Nat),Rels fz st ps ds→Rels fz st (ps.drop n) (ds.drop n)
 |_,_,0,r=>r
 |_,_,_+1,.nil=>.nil
 |_,_,n+1,.cons _ r=>Rels.drop n r
theorem Rels.set{p:P}{d:D}(h:Rel fz st p d):∀ {ps:List P}{ds:List D} (n:Nat),Rels fz st ps ds→Rels fz st (ps.set n p) (ds.set n d)
 |_,_,_,.nil=>.nil
 |_,_,0,.cons _ r=>.cons h r
 |_,_,n+1,.cons q r=>.cons q (Rels.set h n r)
theorem Rels.rep{p:P}{d:D}(h:Rel fz st p d):∀ n:Nat,Rels fz st (List.replicate n p) (List.replicate n d)
 |0=>.nil
 |n+1=>.cons h (Rels.rep h n)
mutual
theorem Rel.ofConst:∀ {d:D}{p:P},ofD d=some p→Rel fz st p d
 |.non,p,h=>by cases h;exact .non
 |.bl b,p,h=>by cases h;exact .bl b
 |.int i,p,h=>by cases h;exact .int i
 |.str x,p,h=>by cases h;exact .str x
 |.tup xs,p,h=>by
  have h:(Wr xs).map P.tup=some p:=h;cases q:Wr xs with
  |none=>rw[q]at h;cases h
  |some ys=>rw[q]at h;cases h;exact .tup (Rels.ofConst q)
 |.lst _,p,h=>by cases h
 |.dct _ _,p,h=>by cases h
 |.obj _,p,h=>by cases h
 |.kt ks,p,h=>by cases h;exact .kt ks
theorem Rels.ofConst:∀ {ds:List D}{ps:List P},Wr ds=some ps→Rels fz st ps ds
 |[],ps,h=>by cases h;exact .nil
 |d :: ds,ps,h=>by
  have h:(match ofD d,Wr ds with
   |some y,some ys=>some (y :: ys)
   |_,_=>none)=some ps:=h
  split at h
  ·rename_i y ys h1 h2
   cases h;exact .cons (Rel.ofConst h1) (Rels.ofConst h2)
  ·cases h
end
end
def Bd(fz:Fz)(st:Za):Prop:=∀ i,fz i→i < st.length
structure Next(fz:Fz)(st:Za)(fz':Fz)(st':Za):Prop where
 old:∀ i,i < st.length→st'[i]?=st[i]?
 len:st.length≤st'.length
 sub:∀ i,fz i→fz' i
 new:∀ i,fz' i→fz i∨st.length≤i
 bd:Bd fz' st'
section
variable {fz fz' fz1 fz2:Fz}{st st' st1 st2:Za}
theorem Next.refl(b:Bd fz st):Next fz st fz st:=⟨fun _ _=>rfl,Nat.le_refl _,fun _ h=>h,fun _ h=>.inl h,b⟩
theorem Next.trans(x:Next fz st fz1 st1)(y:Next fz1 st1 fz2 st2):Next fz st fz2 st2:=
 ⟨fun i h=>(y.old i (Nat.lt_of_lt_of_le h x.len)).trans (x.old i h),Nat.le_trans x.len y.len,fun i h=>y.sub i (x.sub i h),fun i h=>(y.new i h).elim (x.new i) fun z=>.inr (Nat.le_trans x.len z),y.bd⟩
theorem Next.small(b:Bd fz st)(x:Next fz1 st fz' st'):Next fz st fz st':=⟨x.old,x.len,fun _ h=>h,fun _ h=>.inl h,fun i h=>Nat.lt_of_lt_of_le (b i h) x.len⟩
theorem Rel.next{p:P}{d:D}(b:Bd fz st)(x:Next fz st fz' st')(r:Rel fz st p d):Rel fz' st' p d:=r.mono x.sub fun i h=>x.old i (b i h)
theorem Rels.next{p:List P}{d:List D}(b:Bd fz st)(x:Next fz st fz' st')(r:Rels fz st p d):Rels fz' st' p d:=r.mono x.sub fun i h=>x.old i (b i h)
theorem Zfz{α:Type}{l:List α}{x:α}:(l++[x])[l.length]?=some x:=by simp
theorem ZcT{m:Bool}{ds:List D}(b:Bd fz st):Next fz st fz (st++[(m,ds)]):=
 ⟨fun i h=>by rw[List.getElem?_append_left h],by simp,fun _ h=>h,fun _ h=>.inl h,fun i h=>by have:=b i h;simp;omega⟩
theorem Jv{m:Bool}{ds:List D}(b:Bd fz st):Next fz st (fun i=>fz i∨i=st.length) (st++[(m,ds)]):=
 ⟨fun i h=>by rw[List.getElem?_append_left h],by simp,fun _ h=>.inl h,fun i h=>h.elim .inl fun z=>.inr (by omega),fun i h=>by
  rcases h with h|h
  ·have:=b i h;simp;omega
  ·simp;omega⟩
theorem QD{m:Bool}{ps:List P}{ds:List D}(b:Bd fz st)(r:Rels fz st ps ds):Rel (fun i=>fz i∨i=st.length) (st++[(m,ds)]) (.lst m ps) (.lst st.length):=
 .lst (.inr rfl) Zfz (r.next b (Jv b))
end
abbrev Gives(fz:Fz)(st:Za)(r:Res)(p:P):Prop:=∃ d st' fz',r=some (d,st')∧Next fz st fz' st'∧Rel fz' st' p d
def Op1(o:D→Za→Res)(O:P→Option P):Prop:=∀ fz st x dx p,Bd fz st→Rel fz st x dx→O x=some p→Gives fz st (o dx st) p
def Op2(o:D→D→Za→Res)(O:P→P→Option P):Prop:=∀ fz st x y dx dy p,Bd fz st→Rel fz st x dx→Rel fz st y dy→O x y=some p→Gives fz st (o dx dy st) p
def Op3(o:D→D→D→Za→Res)(O:P→P→P→Option P):Prop:=∀ fz st x y z dx dy dz p,Bd fz st→Rel fz st x dx→Rel fz st y dy→Rel fz st z dz→O x y z=some p→Gives fz st (o dx dy dz st) p
abbrev Makes(fz:Fz)(st:Za)(r:Res)(m:Bool)(ps:List P):Prop:=∃ ds,r=some (.lst st.length,st++[(m,ds)])∧Rels fz st ps ds
def ZfK(o:D→Za→Res)(O:P→Option P):Prop:=∀ fz st x dx m ps,Bd fz st→Rel fz st x dx→O x=some (.lst m ps)→Makes fz st (o dx st) m ps
def ZhB(o:D→D→Za→Res)(O:P→P→Option P):Prop:=∀ fz st x y dx dy m ps,Bd fz st→Rel fz st x dx→Rel fz st y dy→O x y=some (.lst m ps)→Makes fz st (o dx dy st) m ps
def ZhC(o:D→D→D→Za→Res)(O:P→P→P→Option P):Prop:=∀ fz st x y z dx dy dz m ps,Bd fz st→Rel fz st x dx→Rel fz st y dy→Rel fz st z dz→O x y z=some (.lst m ps)→Makes fz st (o dx dy dz st) m ps
theorem Gives.same{fz:Fz}{st:Za}{p:P}{d:D}(b:Bd fz st)(r:Rel fz st p d):Gives fz st (some (d,st)) p:=⟨d,st,fz,rfl,Next.refl b,r⟩
theorem Makes.gives{fz:Fz}{st:Za}{r:Res}{m:Bool}{ps:List P}(b:Bd fz st)(h:Makes fz st r m ps):Gives fz st r (.lst m ps):=by
 obtain⟨ds,e,rr⟩:=h;exact⟨_,_,_,e,Jv b,QD b rr⟩
section
mutual
theorem Jr{fz:Fz}{st:Za}:∀ {n:Nat}{p:P}{d:D},Rel fz st p d→okP n p=okD n d
 |n,_,_,.non=>by cases n<;>rfl
 |n,_,_,.bl b=>by cases n<;>rfl
 |n,_,_,.int i=>by cases n<;>rfl
 |n,_,_,.str x=>by cases n<;>rfl
 |0,_,_,.tup r=>rfl
 |n+1,_,_,.tup r=>WL r
 |n,_,_,.lst _ _ _=>by cases n<;>rfl
 |n,_,_,.dct _=>by cases n<;>rfl
 |n,_,_,.obj _=>by cases n<;>rfl
 |n,_,_,.kt _=>by cases n<;>rfl
 |n,_,_,.dic _ _ _=>by cases n<;>rfl
theorem WL{fz:Fz}{st:Za}:∀ {n:Nat}{p:List P}{d:List D},Rels fz st p d→Qy n p=YM n d
 |_,_,_,.nil=>rfl
 |n,p :: ps,d :: ds,.cons h r=>by
  show(okP n p&&Qy n ps)=(okD n d&&YM n ds);rw[Jr h,WL r]
end
mutual
theorem Zdz{fz:Fz}{st:Za}:∀ {p q:P}{d e:D},Rel fz st p d→Rel fz st q e→WW p q=ZK d e
 |_,_,_,_,.non,h=>by cases h<;>rfl
 |_,_,_,_,.bl b,h=>by cases h<;>rfl
 |_,_,_,_,.int i,h=>by cases h<;>rfl
 |_,_,_,_,.str x,h=>by cases h<;>rfl
 |_,_,_,_,.tup r,h=>by
  cases h with
  |tup r'=>exact X0 r r'
  |_=>rfl
 |_,_,_,_,.lst _ _ _,h=>by cases h<;>rfl
 |_,_,_,_,.dct _,h=>by cases h<;>rfl
 |_,_,_,_,.obj _,h=>by cases h<;>rfl
 |_,_,_,_,.kt _,h=>by cases h<;>rfl
 |_,_,_,_,.dic _ _ _,h=>by cases h<;>rfl
theorem X0{fz:Fz}{st:Za}:∀ {p q:List P}{d e:List D},Rels fz st p d→Rels fz st q e→XH p q=ZS d e
 |_,_,_,_,.nil,h=>by cases h<;>rfl
 |p :: ps,_,d :: ds,_,.cons a r,h=>by
  cases h with
  |nil=>rfl
  |@cons q e qs es a' r'=>
   show(WW p q&&XH ps qs)=(ZK d e&&ZS ds es);rw[Zdz a a',X0 r r']
end
theorem J7{fz:Fz}{st:Za}{ps:List P}{ds:List D}(r:Rels fz st ps ds):ps.isEmpty=ds.isEmpty:=by cases r<;>rfl
theorem ZcE{fz:Fz}{st:Za}{ps qs:List P}{ds es:List D}{k:Bool}(r:Rels fz st ps ds)(s:Rels fz st qs es)(h:ZcD ps qs=some k):Zac st ds es=some k:=by cases h
theorem Zda{fz:Fz}{st:Za}{p:P}{d:D}(r:Rel fz st p d):scP p=scD d:=by cases r<;>rfl
theorem ZdQ{fz:Fz}{st:Za}{ps qs:List P}{ds es:List D}(r:Rels fz st ps ds)(s:Rels fz st qs es):Zf8 ps qs=ZaQ ds es:=by
 unfold Zf8 ZaQ;rw[J7 r,J7 s,WL r,WL s,X0 r s]
theorem ZbL{fz:Fz}{st:Za}{p q:P}{d e:D}{k:Bool}(r:Rel fz st p d)(s:Rel fz st q e)(h:eqP p q=some k):eqS st d e=some k:=by
 have tail:(o2 ZbK (scP p) (scP q)).join=some k→(o2 ZbK (scD d) (scD e)).join=some k:=by
  rw[Zda r,Zda s];exact id
 cases r with
 |@tup ps ds r=>
  cases s with
  |@tup qs es r'=>
   have h:(if okP 8 (.tup ps)&&okP 8 (.tup qs) then some (XH ps qs) else ZcD ps qs)=some k:=h
   show(match (if okD 8 (.tup ds)&&okD 8 (.tup es) then some (ZS ds es) else none) with
    |some k=>some k
    |none=>Zac st ds es)=some k
   rw[Jr (.tup r),Jr (.tup r'),X0 r r']at h;by_cases c:(okD 8 (.tup ds)&&okD 8 (.tup es))=true
   ·rw[if_pos c]at h ⊢
    exact h
   ·rw[if_neg c]at h ⊢
    exact ZcE r r' h
  |_=>cases h
 |@lst j m ps ds hz hs r=>
  cases s with
  |@lst j' m' qs es hz' hs' r'=>
   show(o2 (fun(c d:Ue)=>ZaQ c.2 d.2) st[j]? st[j']?).join=some k
   rw[hs,hs'];show ZaQ ds es=some k;rw[←ZdQ r r'];exact h
  |_=>cases h
 |_=>exact tail h
theorem Jh{fz:Fz}{st:Za}{i:Int}:∀ {ps:List P}{ds:List D}{k:Bool},Rels fz st ps ds→inP i ps=some k→Y5 i ds=some k
 |_,_,_,.nil,h=>h
 |p :: ps,d :: ds,k,.cons a r,h=>by
  cases a with
  |int j=>
   have h:(inP i ps).map (fun b=>decide (j=i)||b)=some k:=h
   show(Y5 i ds).map (fun b=>decide (j=i)||b)=some k
   cases q:inP i ps with
   |none=>rw[q]at h;cases h
   |some k'=>rw[q]at h;rw[Jh r q];exact h
  |_=>cases h
theorem Uv{fz:Fz}{st:Za}{i:Str}:∀ {ps:List P}{ds:List D}{k:Bool},Rels fz st ps ds→ZaV i ps=some k→Y6 i ds=some k
 |_,_,_,.nil,h=>h
 |p :: ps,d :: ds,k,.cons a r,h=>by
  cases a with
  |str j=>
   have h:(ZaV i ps).map (fun b=>decide (j=i)||b)=some k:=h
   show(Y6 i ds).map (fun b=>decide (j=i)||b)=some k
   cases q:ZaV i ps with
   |none=>rw[q]at h;cases h
   |some k'=>rw[q]at h;rw[Uv r q];exact h
  |_=>cases h
theorem Uj{fz:Fz}{st:Za}{i:Int}{ps:List P}{ds:List D}{p:P}(r:Rels fz st ps ds)(h:atP ps i=some p):∃ d,atD ds i=some d∧Rel fz st p d:=by
 unfold atP at h;unfold atD;rw[←r.length];cases q:ixN ps.length i with
 |none=>rw[q]at h;cases h
 |some j=>
  rw[q]at h;exact r.get h
theorem JU{fz:Fz}{st:Za}{lo hi:Option Int}{ps:List P}{ds:List D}(r:Rels fz st ps ds):Rels fz st (Wk ps lo hi) (ZaO ds lo hi):=by
 unfold Wk ZaO;rw[←r.length];exact(r.drop _).take _
end
section
theorem Zik:Op1 Zeo Za2:=by
 intro fz st x dx p b r h;cases r<;>first | (cases h;exact .same b (.int _))|cases h
theorem Zil:Op1 Za4 Za5:=by
 intro fz st x dx p b r h;cases r<;>first | (cases h;exact .same b (.bl _))|cases h
theorem Zgz:Op1 Zad V2:=by
 intro fz st x dx p b r h;cases r<;>first | (cases h;exact .same b (.int _))|cases h
theorem ZgA:Op2 QI Zaj:=by
 intro fz st x y dx dy p b r s h;cases r with
 |int i=>
  cases s with
  |int j=>
   have h:(if WO i j 1=true then some (P.dct [] [.int i,.int j]) else none)=some p:=h
   split at h
   ·rename_i c
    cases h;rw[show QI (.int i) (.int j) st=some (.dct [] [.int i,.int j],st) from if_pos c];exact .same b (.dct (.cons (.int _) (.cons (.int _) .nil)))
   ·cases h
  |_=>cases h
 |_=>cases h
theorem Zgw:Op1 Qp Jl:=by
 intro fz st x dx p b r h;cases r with
 |@tup ps ds r=>
  cases h;rw[r.length];exact .same b (.int _)
 |@lst j m ps ds hz hs r=>
  cases h;have e:Qp (.lst j) st=some (.int ds.length,st):=by unfold Qp Zeh;simp only[hs]
  rw[e,r.length];exact .same b (.int _)
 |kt ks=>
  cases h;exact .same b (.int _)
 |str x=>
  have h:(if x.length≤Zj then some (P.int x.length) else none)=some p:=h
  split at h
  ·rename_i c
   cases h;have e:Qp (.str x) st=some (.int x.length,st):=by
    unfold Qp Zeh;simp only;rw[if_pos c]
   rw[e];exact .same b (.int _)
  ·cases h
 |_=>cases h
theorem Zig(T:Ty):Op1 (Ji T) (Qn T):=by
 intro fz st x dx p b r h;obtain⟨k,e,rfl⟩:=Option.map_eq_some_iff.mp (show(Zgn T x).map P.bl=some p from h);have z:Zgn T x=Zed T dx:=by cases r<;>rfl
 rw[z]at e;unfold Ji;rw[e];exact .same b (.bl k)
theorem Zfr:ZfK Zcl Jp:=by
 intro fz st x dx m ps b r h;cases r with
 |@tup ps ds r=>cases h;exact⟨ds,rfl,r⟩
 |_=>cases h
theorem Zih:Op1 Zcl Jp:=by
 intro fz st x dx p b r h;cases r with
 |@tup ps ds r=>cases h;exact(Zfr fz st _ _ true ps b (.tup r) rfl).gives b
 |_=>cases h
theorem Jf:ZfK VX Qq:=by
 intro fz st x dx m ps b r h;cases r with
 |@tup ps ds r=>cases h;exact⟨ds,rfl,r⟩
 |@lst j m ps ds hz hs r=>
  cases h;exact⟨ds,by unfold VX;simp only[hs],r⟩
 |_=>cases h
theorem Zgx:Op1 VX Qq:=by
 intro fz st x dx p b r h;cases r with
 |@tup ps ds r=>cases h;exact(Jf fz st _ _ true ps b (.tup r) rfl).gives b
 |@lst j m ps ds hz hs r=>cases h;exact(Jf fz st _ _ true ps b (.lst hz hs r) rfl).gives b
 |_=>cases h
theorem Zer:Op1 Ww Wx:=by
 intro fz st x dx p b r h;cases r with
 |@tup ps ds r=>cases h;exact .same b (.tup r)
 |@lst j m ps ds hz hs r=>
  cases h;have e:Ww (.lst j) st=some (.tup ds,st):=by unfold Ww;simp only[hs]
  rw[e];exact .same b (.tup r)
 |_=>cases h
theorem Zgv:Op2 Xb VM:=by
 intro fz st x y dx dy p b r s h;cases s with
 |@tup ps ds s=>
  have h:(if ps.length < 1000 then some (P.tup (x :: ps)) else none)=some p:=h
  split at h
  ·rename_i c
   cases h;have e:Xb dx (.tup ds) st=some (.tup (dx :: ds),st):=by unfold Xb;simp only;rw[s.length]at c;rw[if_pos c]
   rw[e];exact .same b (.tup (.cons r s))
  ·cases h
 |_=>cases h
theorem Zij:Op2 Zem Zen:=by
 intro fz st x y dx dy p b r s h;cases r with
 |int i=>
  cases s with
  |int j=>cases h;exact .same b (.int _)
  |_=>cases h
 |_=>cases h
theorem Zii:Op2 Zek Za1:=by
 intro fz st x y dx dy p b r s h;cases r with
 |int i=>
  cases s with
  |int j=>cases h;exact .same b (.int _)
  |_=>cases h
 |_=>cases h
theorem Wo{fz:Fz}{st:Za}{k:Str}:∀ {ks:List Str}{ps:List P}{ds:List D},Rels fz st ps ds→(∃ p d,Xd ks ps k=some p∧ZC ks ds k=some d∧Rel fz st p d)∨(Xd ks ps k=none∧ZC ks ds k=none)
 |[],_,_,_=>.inr ⟨by simp[Xd],by simp[ZC]⟩
 |_ :: _,_,_,.nil=>.inr ⟨by simp[Xd],by simp[ZC]⟩
 |x :: ks,_,_,.cons h r=>by
  by_cases e:x=k
  ·exact .inl ⟨_,_,by simp[Xd,e],by simp[ZC,e],h⟩
  ·have ih:=Wo (k:=k) (ks:=ks) r
   simp only[Xd,ZC,if_neg e];exact ih
theorem Vt{fz:Fz}{st:Za}:∀ l:List Str,Rels fz st (l.map P.str) (l.map D.str)
 |[]=>.nil
 |k :: l=>.cons (.str _) (Vt l)
theorem ZjE:Op2 ixR ixP:=by
 intro fz st x y dx dy p b r s h;cases r with
 |@tup ps ds r=>
  cases s with
  |int j=>
   obtain⟨d,e,q⟩:=Uj r h;have e:ixR (.tup ds) (.int j) st=some (d,st):=by unfold ixR ixD;simp only[e]
   rw[e];exact .same b q
  |_=>cases h
 |@lst k m ps ds hz hs r=>
  cases s with
  |int j=>
   obtain⟨d,e,q⟩:=Uj r h;have e:ixR (.lst k) (.int j) st=some (d,st):=by unfold ixR ixD;simp only[hs,e]
   rw[e];exact .same b q
  |_=>cases h
 |@dct ks ps ds r=>
  cases s with
  |str z=>
   rcases Wo (k:=z) (ks:=ks) r with⟨p',d,e1,e2,q⟩|⟨e1,_⟩
   ·have h:Xd ks ps z=some p:=h
    rw[e1]at h;cases h
    have e:ixR (.dct ks ds) (.str z) st=some (d,st):=by unfold ixR ixD;simp only[e2]
    rw[e];exact .same b q
   ·have h:Xd ks ps z=some p:=h
    rw[e1]at h;cases h
  |_=>cases h
 |kt ks=>
  cases s with
  |int j=>
   obtain⟨d,e,q⟩:=Uj (Vt (fz:=fz) (st:=st) ks) h;have e:ixR (.kt ks) (.int j) st=some (d,st):=by unfold ixR ixD;simp only[e]
   rw[e];exact .same b q
  |_=>cases h
 |str x=>
  cases s with
  |int j=>
   have h:(if x.length≤Zj then atP ((chS x).map .str) j else none)=some p:=h
   split at h
   ·rename_i c
    obtain⟨d,e,q⟩:=Uj (Vt (fz:=fz) (st:=st) (chS x)) h;have e:ixR (.str x) (.int j) st=some (d,st):=by
     unfold ixR ixD;simp only;rw[if_pos c,e]
    rw[e];exact .same b q
   ·cases h
  |_=>cases h
 |_=>cases h
theorem WN{f:Int→Int→Bool}{fz:Fz}{st:Za}{x y:P}{dx dy:D}{k:Bool}(r:Rel fz st x dx)(s:Rel fz st y dy)(h:Zcz f x y=some k):Js f dx dy=some k:=by
 cases r with
 |int i=>
  cases s with
  |int j=>exact h
  |_=>cases h
 |_=>cases h
theorem Zgp{fz:Fz}{st:Za}{x y:P}{dx dy:D}{k:Bool}(r:Rel fz st x dx)(s:Rel fz st y dy)(h:ltP x y=some k):ltD dx dy=some k:=by exact WN r s h
theorem Zej{fz:Fz}{st:Za}{x y:P}{dx dy:D}{k:Bool}(r:Rel fz st x dx)(s:Rel fz st y dy)(h:Zh9 x y=some k):ltS st dx dy=some k:=by exact Zgp r s h
theorem UC{a b:Option Bool}{f:Bool→Bool}{k:Bool}(h:∀ k,a=some k→b=some k)(e:a.map f=some k):b.map f=some k:=by
 cases q:a with
 |none=>rw[q]at e;cases e
 |some k'=>rw[h k' q];rw[q]at e;exact e
theorem J1{fz:Fz}{st:Za}{x y:P}{dx dy:D}{k:Bool}(r:Rel fz st x dx)(s:Rel fz st y dy)(h:Zgk x y=some k):inS st dx dy=some k:=by
 cases r with
 |int i=>
  cases s with
  |tup rr=>exact Jh rr h
  |lst hz hs rr=>
   unfold inS;simp only[hs];exact Jh rr h
  |_=>cases h
 |str z=>
  cases s with
  |tup rr=>exact Uv rr h
  |lst hz hs rr=>
   unfold inS;simp only[hs];exact Uv rr h
  |@dct ks _ _ rr=>
   have h:some (Xd ks _ z).isSome=some k:=h;show some (ZC ks _ z).isSome=some k;rcases Wo (k:=z) (ks:=ks) rr with⟨p',d,e1,e2,_⟩|⟨e1,e2⟩
   ·rw[e1]at h;rw[e2];exact h
   ·rw[e1]at h;rw[e2];exact h
  |str w=>exact h
  |_=>cases h
 |_=>cases h
theorem J3{fz:Fz}{st:Za}{x y:P}{dx dy:D}{k:Bool}(r:Rel fz st x dx)(s:Rel fz st y dy)(h:Zgm x y=some k):isD dx dy=some k:=by
 cases s with
 |non=>cases r<;>first|exact h|cases h
 |bl b=>cases r<;>first|exact h|cases h
 |_=>cases h
theorem Zim:Op2 Zfb Zfc:=by
 intro fz st x y dx dy p b r s h;cases r with
 |kt ks=>
  cases s with
  |@tup ps ds s=>
   cases s with
   |nil=>cases h
   |cons a s=>
    cases s with
    |cons _ _=>cases a<;>cases h
    |nil=>
     cases a with
     |str k=>
      have h:(match Ur k ks with
       |some i=>some (P.int (i:Int))
       |none=>none)=some p:=h
      show Gives fz st (match Ur k ks with
       |some i=>some (D.int (i:Int),st)
       |none=>none) p
      cases q:Ur k ks with
      |none=>rw[q]at h;cases h
      |some i=>rw[q]at h;cases h;exact .same b (.int _)
     |_=>cases h
  |_=>cases h
 |_=>cases h
theorem Zgy(ks:List Str)(ds:List D):Op1 (VY ks ds) (UA ks ds):=by
 intro fz st x dx p b r h;cases r with
 |str k=>
  have h:(ZC ks ds k).bind ofD=some p:=h;cases q:ZC ks ds k with
  |none=>rw[q]at h;cases h
  |some d=>
   rw[q]at h;have e:VY ks ds (.str k) st=some (d,st):=by unfold VY;simp only[q]
   rw[e];exact .same b (Rel.ofConst h)
 |_=>cases h
theorem Zif(ng:Bool):Op2 (Zgj ng) (Zeb ng):=by
 intro fz st x y dx dy p b r s h;cases r with
 |int i=>
  cases s with
  |int j=>
   have h:(if -(2 ^ 62)≤j∧j < 2 ^ 62 then some (P.bl (ng != decide (0≤i∧i < j))) else none)=some p:=h
   split at h
   ·rename_i c
    cases h;have e:Zgj ng (.int i) (.int j) st=some (.bl (ng != decide (0≤i∧i < j)),st):=if_pos c;rw[e];exact .same b (.bl _)
   ·cases h
  |_=>cases h
 |_=>cases h
theorem Zie(op:CmpOp):Op2 (Jc op) (Yg op):=by
 intro fz st x y dx dy p b r s h;have h:(Zf2 op x y).map P.bl=some p:=h;cases q:Zf2 op x y with
 |none=>rw[q]at h;cases h
 |some k=>
  rw[q]at h;cases h
  have e:Zf1 op dx dy st=some k:=by
   cases op with
   |Lt=>exact Zej r s q
   |LtE=>exact WN r s q
   |Gt=>exact WN r s q
   |GtE=>exact WN r s q
   |Eq=>exact ZbL r s q
   |NotEq=>exact UC (fun k=>ZbL r s) q
   |In=>exact J1 r s q
   |NotIn=>
    replace q:niP x y=some k:=q;show niS st dx dy=some k;cases s with
    |dct _=>cases q
    |_=>exact UC (fun k=>J1 r (by constructor<;>assumption)) q
   |Is=>exact J3 r s q
   |IsNot=>exact UC (fun k=>J3 r s) q
  have e2:Jc op dx dy st=some (.bl k,st):=by unfold Jc;rw[e]
  rw[e2];exact .same b (.bl k)
theorem JP{op:Operator}{fz:Fz}{st:Za}{x y p:P}{dx dy:D}(b:Bd fz st)(r:Rel fz st x dx)(s:Rel fz st y dy)(h:Y4 op x y=some p):(∃ d,Vw op dx dy st=some (d,st)∧Rel fz st p d∧∀ m ps,p≠.lst m ps)∨∃ ps,p=.lst true ps∧Makes fz st (Vw op dx dy st) true ps:=by
 cases r with
 |@lst ja ma pa da hz hs rr=>
  cases s with
  |@lst jb mb pb db hz' hs' rr'=>
   have h:(if YW op=true∧pa.length+pb.length≤Zj then some (P.lst true (pa++pb)) else none)=some p:=h
   split at h
   ·rename_i c
    cases h;refine .inr ⟨_,rfl,_,?_,rr.append rr'⟩;show(if YW op=true then ZdH ja jb st else none)=_
    unfold ZdH;rw[if_pos c.1,hs,hs'];exact if_pos (by rw[←rr.length,←rr'.length];exact c.2)
   ·cases h
  |int j=>
   have h:(if Xc op=true then ZcZ ma pa j else none)=some p:=h
   split at h
   ·rename_i c
    cases ma with
    |false=>cases h
    |true=>cases rr with
     |nil=>cases h
     |@cons p0 _ _ _ a rr=>cases rr with
      |cons _ _=>cases h
      |nil=>
       have h:(if j≤1000∧-1000≤j then some (P.lst true (List.replicate j.toNat p0)) else none)=some p:=h
       split at h
       ·rename_i c2
        cases h;refine .inr ⟨_,rfl,_,?_,Rels.rep a _⟩;show(if Xc op=true then ZeI ja j st else none)=_
        unfold ZeI;rw[if_pos c,hs];exact if_pos c2
       ·cases h
   ·cases h
  |_=>cases h
 |@tup pa da r1=>cases s with
  |@tup pb db s1=>
   have h:(if YW op=true∧pa.length+pb.length≤Zj then some (P.tup (pa++pb)) else none)=some p:=h
   split at h
   ·rename_i c
    cases h;exact .inl ⟨_,if_pos ⟨c.1,by rw[←r1.length,←s1.length];exact c.2⟩,.tup (r1.append s1),fun _ _ z=>nomatch z⟩
   ·cases h
  |int j=>
   have h:(if Xc op=true then Zc0 pa j else none)=some p:=h
   split at h
   ·rename_i c
    cases r1 with
    |nil=>cases h
    |@cons p0 d0 _ _ a r1=>cases r1 with
     |cons _ _=>cases h
     |nil=>
      have h:(if j≤1000∧-1000≤j then some (P.tup (List.replicate j.toNat p0)) else none)=some p:=h
      split at h
      ·rename_i c2
       cases h;exact .inl ⟨_,(if_pos c).trans (if_pos c2),.tup (Rels.rep a _),fun _ _ z=>nomatch z⟩
      ·cases h
   ·cases h
  |_=>cases h
 |int i=>cases s with
  |int j=>
   have h:(match Q6 op i j with
    |some k=>some (P.int k)
    |none=>none)=some p:=h
   have z:Vw op (.int i) (.int j) st=(match Q6 op i j with
    |some k=>some (D.int k,st)
    |none=>none):=rfl
   rw[z];cases q:Q6 op i j with
   |none=>rw[q]at h;cases h
   |some k=>rw[q]at h;cases h;exact .inl ⟨_,rfl,.int _,fun _ _ z=>nomatch z⟩
  |_=>cases h
 |str x=>cases s with
  |str y=>
   have h:(if YW op=true∧x.length+y.length≤Zj then some (P.str (x++y)) else none)=some p:=h
   split at h
   ·rename_i c
    cases h;exact .inl ⟨_,if_pos c,.str _,fun _ _ z=>nomatch z⟩
   ·cases h
  |_=>cases h
 |_=>cases h
theorem ZhZ(op:Operator):ZhB (Vw op) (Y4 op):=by
 intro fz st x y dx dy m ps b r s h;rcases JP b r s h with⟨_,_,_,n⟩|⟨qs,e,mk⟩
 ·exact absurd rfl (n _ _)
 ·cases e;exact mk
theorem Zid(op:Operator):Op2 (Vw op) (Y4 op):=by
 intro fz st x y dx dy p b r s h;rcases JP b r s h with⟨d,e,rp,_⟩|⟨qs,e,mk⟩
 ·rw[e];exact .same b rp
 ·cases e;exact mk.gives b
theorem Zam{fz:Fz}{st:Za}{x:P}{dx:D}{lo hi:Option Int}{p:P}(b:Bd fz st)(r:Rel fz st x dx)(h:Z5 x lo hi=some p):(∃ d,Yi dx lo hi st=some (d,st)∧Rel fz st p d∧∀ m ps,p≠.lst m ps)∨∃ ps,p=.lst true ps∧Makes fz st (Yi dx lo hi st) true ps:=by
 cases r with
 |@tup ps ds r=>
  have h:(if sIx ps.length 0 lo=0∧sIx ps.length ps.length hi=ps.length then some (P.tup ps) else some (P.tup (Wk ps lo hi)))=some p:=h
  split at h
  ·rename_i c
   cases h;refine .inl ⟨_,?_,.tup r,fun _ _ z=>nomatch z⟩
   unfold Yi;simp only;rw[if_pos (by rw[←r.length];exact c)]
  ·rename_i c
   cases h;refine .inl ⟨_,?_,.tup (JU r),fun _ _ z=>nomatch z⟩
   unfold Yi;simp only;rw[if_neg (by rw[←r.length];exact c)]
 |@lst j m ps ds hz hs r=>
  cases h;refine .inr ⟨_,rfl,_,?_,JU r⟩;unfold Yi;simp only[hs]
 |_=>cases h
theorem Zdb{fz:Fz}{st:Za}{x y z:P}{dx dy dz:D}{p:P}(s1:Rel fz st y dy)(s2:Rel fz st z dz)(h:Xw x y z=some p):∃ lo hi,Z5 x lo hi=some p∧∀ dx,XX dx dy dz st=Yi dx lo hi st:=by
 unfold Xw at h;split at h
 ·cases s1;cases s2;exact⟨_,_,h,fun _=>rfl⟩
 ·cases s1;cases s2;exact⟨_,_,h,fun _=>rfl⟩
 ·cases s1;cases s2;exact⟨_,_,h,fun _=>rfl⟩
 ·cases s1;cases s2;exact⟨_,_,h,fun _=>rfl⟩
 ·cases h
theorem Zeq:Op3 XX Xw:=by
 intro fz st x y z dx dy dz p b r s1 s2 h;obtain⟨lo,hi,h0,e⟩:=Zdb (dx:=dx) s1 s2 h;rw[e];rcases Zam b r h0 with⟨d,e1,rr,_⟩|⟨ps,rfl,mk⟩
 ·rw[e1];exact .same b rr
 ·exact mk.gives b
theorem ZdS:ZhC XX Xw:=by
 intro fz st x y z dx dy dz m ps b r s1 s2 h;obtain⟨lo,hi,h0,e⟩:=Zdb (dx:=dx) s1 s2 h;rw[e];rcases Zam b r h0 with⟨_,_,_,z⟩|⟨ps,z,mk⟩
 ·exact absurd rfl (z _ _)
 ·cases z;exact mk
end
end Dp


namespace Dp
open PySem
noncomputable abbrev PFn:=Nat→List P→Option P
def Zfg(F:Fn)(G:List P→Option P):Prop:=∀ ps m xs,G ps=some (.lst m xs)→∀ fz st ds,Bd fz st→Rels fz st ps ds→∃ j es st' fz1,F ds st=some (.lst j,st')∧st'[j]?=some (m,es)∧Next fz st fz1 st'∧¬fz1 j∧st.length≤j∧Rels fz1 st' xs es
def ZR(F:Nat→Fn)(G:PFn):Prop:=(∀ i ps p,G i ps=some p→∀ fz st ds,Bd fz st→Rels fz st ps ds→Gives fz st (F i ds st) p)∧∀ i,Va i=true→Zfg (F i) (G i)
def EnvAll(fz:Fz)(st:Za)(π:Zs)(ρ:Env):Prop:=∀ (i:Nat) (p:P),π[i]?=some (some p)→∃ d,ρ[i]?=some (some d)∧Rel fz st p d
theorem EnvAll.next{fz fz':Fz}{st st':Za}{π:Zs}{ρ:Env}(b:Bd fz st)(x:Next fz st fz' st')(h:EnvAll fz st π ρ):EnvAll fz' st' π ρ:=fun i p e=>
 let ⟨d,e1,r⟩:=h i p e;⟨d,e1,r.next b x⟩
def SEP(f:Ev)(g:PEv):Prop:=∀ π p,g π=some p→∀ fz st ρ,Bd fz st→EnvAll fz st π ρ→Gives fz st (f ρ st) p
def SFP(f:Ev)(g:PEv):Prop:=∀ π m ps,g π=some (.lst m ps)→∀ fz st ρ,Bd fz st→EnvAll fz st π ρ→∃ j ds st' fz1,f ρ st=some (.lst j,st')∧st'[j]?=some (m,ds)∧Next fz st fz1 st'∧¬fz1 j∧st.length≤j∧Rels fz1 st' ps ds
section
variable {f fa fb fc:Ev}{g ga gb gc:PEv}
theorem Makes.fresh{fz fz1:Fz}{st st1:Za}{r:Res}{m:Bool}{ps:List P}(x:Next fz st fz1 st1)(h:Makes fz1 st1 r m ps) :
  ∃ j ds st' fz2,r=some (.lst j,st')∧st'[j]?=some (m,ds)∧Next fz st fz2 st'∧¬fz2 j∧st.length≤j∧Rels fz2 st' ps ds:=by
 obtain⟨ds,e,rr⟩:=h;refine⟨_,ds,_,fz1,e,Zfz,x.trans (ZcT x.bd),fun z=>?_,x.len,rr.next x.bd (ZcT x.bd)⟩
 exact absurd (x.bd _ z) (by omega)
theorem s1{o:D→Za→Res}{O:P→Option P}(h:SEP f g)(k:Op1 o O):SEP (ZL f o) (pq1 g O):=by
 intro π p e fz st ρ b E;unfold pq1 at e;split at e
 ·rename_i x q
  obtain⟨d,st1,fz1,e1,n1,r1⟩:=h π x q fz st ρ b E;obtain⟨d2,st2,fz2,e2,n2,r2⟩:=k fz1 st1 x d p n1.bd r1 e;exact⟨d2,st2,fz2,by unfold ZL;rw[e1];exact e2,n1.trans n2,r2⟩
 ·cases e
theorem s1F{o:D→Za→Res}{O:P→Option P}(h:SEP f g)(k:ZfK o O):SFP (ZL f o) (pq1 g O):=by
 intro π m ps e fz st ρ b E;unfold pq1 at e;split at e
 ·rename_i x q
  obtain⟨d,st1,fz1,e1,n1,r1⟩:=h π x q fz st ρ b E;have mk:=k fz1 st1 x d m ps n1.bd r1 e;have e3:ZL f o ρ st=o d st1:=by unfold ZL;rw[e1]
  rw[e3];exact mk.fresh n1
 ·cases e
theorem s2{o:D→D→Za→Res}{O:P→P→Option P}(ha:SEP fa ga)(hb:SEP fb gb)(k:Op2 o O):SEP (ZQ fa fb o) (pq2 ga gb O):=by
 intro π p e fz st ρ b E;unfold pq2 at e;split at e
 ·rename_i x q
  split at e
  ·rename_i y q'
   obtain⟨d,st1,fz1,e1,n1,r1⟩:=ha π x q fz st ρ b E;obtain⟨d2,st2,fz2,e2,n2,r2⟩:=hb π y q' fz1 st1 ρ n1.bd (E.next b n1);obtain⟨d3,st3,fz3,e3,n3,r3⟩:=k fz2 st2 x y d d2 p n2.bd (r1.next n1.bd n2) r2 e;exact⟨d3,st3,fz3,by unfold ZQ;rw[e1];simp only[e2];exact e3,(n1.trans n2).trans n3,r3⟩
  ·cases e
 ·cases e
theorem s2F{o:D→D→Za→Res}{O:P→P→Option P}(ha:SEP fa ga)(hb:SEP fb gb)(k:ZhB o O):SFP (ZQ fa fb o) (pq2 ga gb O):=by
 intro π m ps e fz st ρ b E;unfold pq2 at e;split at e
 ·rename_i x q
  split at e
  ·rename_i y q'
   obtain⟨d,st1,fz1,e1,n1,r1⟩:=ha π x q fz st ρ b E;obtain⟨d2,st2,fz2,e2,n2,r2⟩:=hb π y q' fz1 st1 ρ n1.bd (E.next b n1);have mk:=k fz2 st2 x y d d2 m ps n2.bd (r1.next n1.bd n2) r2 e;have e3:ZQ fa fb o ρ st=o d d2 st2:=by unfold ZQ;rw[e1];simp only[e2]
   rw[e3];exact mk.fresh (n1.trans n2)
  ·cases e
 ·cases e
theorem s3{o:D→D→D→Za→Res}{O:P→P→P→Option P}(ha:SEP fa ga)(hb:SEP fb gb)(hc:SEP fc gc)(k:Op3 o O):SEP (QK fa fb fc o) (pq3 ga gb gc O):=by
 intro π p e fz st ρ b E;unfold pq3 at e;split at e
 ·rename_i x q
  split at e
  ·rename_i y q'
   split at e
   ·rename_i z q''
    obtain⟨d,st1,fz1,e1,n1,r1⟩:=ha π x q fz st ρ b E;obtain⟨d2,st2,fz2,e2,n2,r2⟩:=hb π y q' fz1 st1 ρ n1.bd (E.next b n1);obtain⟨d3,st3,fz3,e3,n3,r3⟩:=hc π z q'' fz2 st2 ρ n2.bd (E.next b (n1.trans n2));obtain⟨d4,st4,fz4,e4,n4,r4⟩:=k fz3 st3 x y z d d2 d3 p n3.bd (r1.next n1.bd (n2.trans n3)) (r2.next n2.bd n3) r3 e;exact⟨d4,st4,fz4,by unfold QK;rw[e1];simp only[e2,e3];exact e4,((n1.trans n2).trans n3).trans n4,r4⟩
   ·cases e
  ·cases e
 ·cases e
theorem s3F{o:D→D→D→Za→Res}{O:P→P→P→Option P}(ha:SEP fa ga)(hb:SEP fb gb)(hc:SEP fc gc)(k:ZhC o O):SFP (QK fa fb fc o) (pq3 ga gb gc O):=by
 intro π m ps e fz st ρ b E;unfold pq3 at e;split at e
 ·rename_i x q
  split at e
  ·rename_i y q'
   split at e
   ·rename_i z q''
    obtain⟨d,st1,fz1,e1,n1,r1⟩:=ha π x q fz st ρ b E;obtain⟨d2,st2,fz2,e2,n2,r2⟩:=hb π y q' fz1 st1 ρ n1.bd (E.next b n1);obtain⟨d3,st3,fz3,e3,n3,r3⟩:=hc π z q'' fz2 st2 ρ n2.bd (E.next b (n1.trans n2));have mk:=k fz3 st3 x y z d d2 d3 m ps n3.bd (r1.next n1.bd (n2.trans n3)) (r2.next n2.bd n3) r3 e;have e4:QK fa fb fc o ρ st=o d d2 d3 st3:=by unfold QK;rw[e1];simp only[e2,e3]
    rw[e4];exact mk.fresh ((n1.trans n2).trans n3)
   ·cases e
  ·cases e
 ·cases e
theorem sC{p:P}{d:D}(h:∀ fz st,Rel fz st p d):SEP (evC d) (fun _=>some p):=by
 intro π q e fz st ρ b E;cases e;exact .same b (h fz st)
theorem Zc5(hc:SEP fc gc)(ha:SEP fa ga)(hb:SEP fb gb):SEP (YK fc fa fb) (Yq gc ga gb):=by
 intro π p e fz st ρ b E;unfold Yq at e;split at e
 ·rename_i q
  obtain⟨d,st1,fz1,e1,n1,r1⟩:=hc π _ q fz st ρ b E;cases r1;obtain⟨d2,st2,fz2,e2,n2,r2⟩:=ha π p e fz1 st1 ρ n1.bd (E.next b n1);exact⟨d2,st2,fz2,by unfold YK;rw[e1];exact e2,n1.trans n2,r2⟩
 ·rename_i q
  obtain⟨d,st1,fz1,e1,n1,r1⟩:=hc π _ q fz st ρ b E;cases r1;obtain⟨d2,st2,fz2,e2,n2,r2⟩:=hb π p e fz1 st1 ρ n1.bd (E.next b n1);exact⟨d2,st2,fz2,by unfold YK;rw[e1];exact e2,n1.trans n2,r2⟩
 ·cases e
theorem Zkj(i:Nat):SEP (ZT i) (Wb i):=by
 intro π p e fz st ρ b E;unfold Wb at e;split at e
 ·rename_i q
  cases e;obtain⟨d,e1,r⟩:=E i _ q;exact⟨d,st,fz,by unfold ZT;rw[e1],Next.refl b,r⟩
 ·cases e
theorem Ziv{F:Fn}{G:List P→Option P}{ds:List D}(hF:∀ ps p,G ps=some p→∀ fz st es,Bd fz st→Rels fz st ps es→Gives fz st (F es st) p):Op1 (W4 F ds) (W3 G ds):=by
 intro fz st x dx p b r h;cases r with
 |@tup ps es r=>
  have h:(match Wr ds with
   |some es=>G (ps++es)
   |none=>none)=some p:=h
  split at h
  ·rename_i qs q
   exact hF _ p h fz st (es++ds) b (r.append (Rels.ofConst q))
  ·cases h
 |_=>cases h
theorem Ziy{F:Nat→Fn}{G:Nat→List P→Option P}{tab:List (Nat×Nat)}(hF:∀ j ps p,G j ps=some p→∀ fz st es,Bd fz st→Rels fz st ps es→Gives fz st (F j es st) p):Op2 (J6 F tab) (X7 G tab):=by
 intro fz st x y dx dy p b r s h;cases r with
 |obj i=>
  cases s with
  |@tup ps ds s=>
   have h:(match tab.lookup i with
    |some j=>G j (.obj i :: ps)
    |none=>none)=some p:=h
   show Gives fz st (match tab.lookup i with
    |some j=>F j (.obj i :: ds) st
    |none=>none) p
   cases q:tab.lookup i with
   |none=>rw[q]at h;cases h
   |some j=>
    rw[q]at h;exact hF j _ p h fz st _ b (.cons (.obj i) s)
  |_=>cases h
 |_=>cases h
theorem ZgY{F:Fn}{G:List P→Option P}{ds:List D}{fa:Ev}{ga:PEv}(ha:SEP fa ga)(hF:Zfg F G):SFP (ZL fa (W4 F ds)) (pq1 ga (W3 G ds)):=by
 intro π m ps h fz st ρ b E;unfold pq1 at h;split at h
 ·rename_i x q
  obtain⟨d,st1,fz1,e1,n1,r1⟩:=ha π x q fz st ρ b E;cases r1 with
  |@tup qs es r=>
   have h:(match Wr ds with
    |some es=>G (qs++es)
    |none=>none)=some (.lst m ps):=h
   split at h
   ·rename_i ws qq
    obtain⟨j,us,st2,fz2,e2,f1,n2,f2,f3,f4⟩:=hF _ m ps h fz1 st1 (es++ds) n1.bd (r.append (Rels.ofConst qq));refine⟨j,us,st2,fz2,?_,f1,n1.trans n2,f2,Nat.le_trans n1.len f3,f4⟩;unfold ZL;rw[e1];exact e2
   ·cases h
  |_=>cases h
 ·cases h
theorem Za9{fz:Fz}{st:Za}(n:Nat):Rels fz st ((List.range n).map fun(k:Nat)=>P.int (k:Int)) ((List.range n).map fun(k:Nat)=>D.int (k:Int)):=by
 generalize List.range n=l
 induction l with
 |nil=>exact .nil
 |cons a l ih=>exact .cons (.int _) ih
theorem VW{fz:Fz}{st:Za}{rng:Bool}{x:P}{dx:D}{xs:List P}(r:Rel fz st x dx)(h:Ux rng x=some xs):∃ ds,Xq rng dx=some ds∧Rels fz st xs ds:=by
 cases rng with
 |true=>
  cases r with
  |int n=>
   have h:(if n < 2 ^ 62∧-(2 ^ 62)≤n then some (Yb n) else none)=some xs:=h
   split at h
   ·rename_i c
    cases h;refine⟨_,by unfold Xq;simp only;rw[if_pos c],Za9 _⟩
   ·cases h
  |_=>cases h
 |false=>
  cases r with
  |tup r=>cases h;exact⟨_,rfl,r⟩
  |_=>cases h
theorem VV{fz:Fz}{st:Za}:∀ (l:List Int),Rels fz st (l.map P.int) (l.map D.int)
 |[]=>.nil
 |i :: l=>.cons (.int i) (VV l)
theorem Ua{fz:Fz}{st:Za}{rng:Bool}{x:P}{dx:D}{xs:List P}(b:Bd fz st)(r:Rel fz st x dx)(h:Xf rng x=some xs):∃ ds ok,QX rng dx st=some (ds,ok)∧Rels fz st xs ds∧∀ fz' st',Next fz st fz' st'→ok st':=by
 unfold Xf at h;split at h
 ·rename_i ys q
  cases h;obtain⟨ds,e,rr⟩:=VW r q;exact⟨ds,_,by unfold QX;rw[e],rr,fun _ _ _=>trivial⟩
 ·split at h
  ·cases h
   cases r with
   |@lst j m ps ds hz hs r=>
    rename_i m _;refine⟨ds,fun s=>s[j]?=some (m,ds),?_,r,fun fz' st' n=>?_⟩
    ·unfold QX Xq
     simp only[hs]
    ·exact(n.old j (b j hz)).trans hs
  ·cases h
   cases r with
   |dct r=>cases r with
    |cons r1 r=>cases r with
     |cons r2 r=>
      cases r;cases r1;cases r2
      exact⟨_,fun _=>True,rfl,VV _,fun _ _ _=>trivial⟩
  ·cases h
def UY(gb:P→List (Option P))(bd:D→List (Option D)):Prop:=∀ fz st x d,Rel fz st x d→(gb x).length=(bd d).length∧EnvAll fz st (gb x) (bd d)
theorem Zaa:UY ZcM one:=fun fz st x d r=>⟨rfl,fun i p e=>by
 cases i with
 |zero=>cases e;exact⟨d,rfl,r⟩
 |succ i=>exact nomatch (show(none:Option (Option P))=some (some p) from e)⟩
theorem W6{gb:P→List (Option P)}{bd:D→List (Option D)}(hb:UY gb bd){ok:Za→Prop}{fe fc:Ev}{ge gc:PEv}(he:SEP fe ge)(hc:SEP fc gc){fr:List Nat}{π:Zs}{ρ:Env}:∀ {xs:List P}{ds:List D}{ys:List P}{fz:Fz}{st:Za},Bd fz st→EnvAll fz st π ρ→Rels fz st xs ds→(∀ fz' st',Next fz st fz' st'→ok st')→
   YU (fun p=>ge (Wa gb π fr p)) (fun p=>gc (Wa gb π fr p)) xs=some ys→∃ es st' fz',Ym ok (fun d s=>fe (YL bd ρ fr d) s) (fun d s=>fc (YL bd ρ fr d) s) ds st=some (es,st')∧Next fz st fz' st'∧Rels fz' st' ys es
 |_,_,ys,fz,st,b,E,.nil,hok,h=>by cases h;exact⟨[],st,fz,if_pos (hok _ _ (Next.refl b)),Next.refl b,.nil⟩
 |x :: xs,d :: ds,ys,fz,st,b,E,.cons a r,hok,h=>by
  have ok0:=hok _ _ (Next.refl b);obtain⟨hl,hbe⟩:=hb fz st x d a;have E1:EnvAll fz st (Wa gb π fr x) (YL bd ρ fr d):=by
   intro i p e;unfold Wa at e;unfold YL;by_cases hi:i < (gb x).length
   ·rw[List.getElem?_append_left hi]at e
    rw[List.getElem?_append_left (by rw[←hl];exact hi)]
    exact hbe i p e
   ·have hi:(gb x).length≤i:=Nat.le_of_not_lt hi
    rw[List.getElem?_append_right hi,List.getElem?_map]at e;rw[List.getElem?_append_right (by rw[←hl];exact hi),List.getElem?_map,←hl]
    cases q:fr[i - (gb x).length]? with
    |none=>rw[q]at e;cases e
    |some k=>
     rw[q]at e;have e:(π[k]?).join=some p:=by simpa using e
     have e2:π[k]?=some (some p):=by
      cases q2:π[k]? with
      |none=>rw[q2]at e;cases e
      |some o=>rw[q2]at e;rw[show o=some p from e]
     obtain⟨d',e3,r3⟩:=E k p e2;exact⟨d',by simp[e3],r3⟩
  unfold YU at h;split at h
  ·rename_i q
   split at h
   ·rename_i y q1
    split at h
    ·rename_i zs q2
     cases h;obtain⟨dc,st1,fz1,e1,n1,r1⟩:=hc _ _ q fz st _ b E1;cases r1;obtain⟨dy,st2,fz2,e2,n2,r2⟩:=he _ _ q1 fz1 st1 _ n1.bd (E1.next b n1);obtain⟨es,st3,fz3,e3,n3,r3⟩:=W6 hb he hc n2.bd (E.next b (n1.trans n2)) (r.next b (n1.trans n2)) (fun _ _ n=>hok _ _ ((n1.trans n2).trans n)) q2
     refine⟨dy :: es,st3,fz3,?_,(n1.trans n2).trans n3,.cons (r2.next n2.bd n3) r3⟩;unfold Ym;rw[if_pos ok0];simp only[e1,e2,e3]
    ·cases h
   ·cases h
  ·rename_i q
   obtain⟨dc,st1,fz1,e1,n1,r1⟩:=hc _ _ q fz st _ b E1;cases r1;obtain⟨es,st3,fz3,e3,n3,r3⟩:=W6 hb he hc n1.bd (E.next b n1) (r.next b n1) (fun _ _ n=>hok _ _ (n1.trans n)) h
   refine⟨es,st3,fz3,?_,n1.trans n3,r3⟩;unfold Ym;rw[if_pos ok0];simp only[e1];exact e3
  ·cases h
theorem Zc4{gb:P→List (Option P)}{bd:D→List (Option D)}(hb:UY gb bd){gw:P→Option (List P)}{dw:D→Za→Option (List D×(Za→Prop))}(hw:∀ {fz:Fz}{st:Za}{x:P}{dx:D}{xs:List P},Bd fz st→Rel fz st x dx→gw x=some xs→∃ ds ok,dw dx st=some (ds,ok)∧Rels fz st xs ds∧∀ fz' st',Next fz st fz' st'→ok st'){fr:List Nat}{fi fe fc:Ev}{gi ge gc:PEv}(hi:SEP fi gi)(he:SEP fe ge)(hc:SEP fc gc){π:Zs}{p:P}(e:YN gb gw fr gi ge gc π=some p){fz:Fz}{st:Za}{ρ:Env}(b:Bd fz st)(E:EnvAll fz st π ρ) :
  ∃ ps ds st1 fz1,p=.lst true ps∧W5 bd dw fr fi fe fc ρ st=some (.lst st1.length,st1++[(true,ds)])∧Next fz st fz1 st1∧Rels fz1 st1 ps ds:=by
 unfold YN at e;split at e
 ·rename_i x q
  split at e
  ·rename_i xs q1
   split at e
   ·rename_i c
    split at e
    ·rename_i ys q2
     cases e;obtain⟨d,st1,fz1,e1,n1,r1⟩:=hi π x q fz st ρ b E;obtain⟨ds,ok,e2,r2,hok⟩:=hw n1.bd r1 q1;obtain⟨es,st3,fz3,e3,n3,r3⟩:=W6 hb he hc (fr:=fr) n1.bd (E.next b n1) r2 hok q2;refine⟨ys,es,st3,fz3,rfl,?_,n1.trans n3,r3⟩;unfold W5;simp only[e1,e2];rw[if_pos (by rw[←r2.length];exact c)]
     simp only[e3]
    ·cases e
   ·cases e
  ·cases e
 ·cases e
theorem Ziw{gb:P→List (Option P)}{bd:D→List (Option D)}(hb:UY gb bd){gw:P→Option (List P)}{dw:D→Za→Option (List D×(Za→Prop))}(hw:∀ {fz:Fz}{st:Za}{x:P}{dx:D}{xs:List P},Bd fz st→Rel fz st x dx→gw x=some xs→∃ ds ok,dw dx st=some (ds,ok)∧Rels fz st xs ds∧∀ fz' st',Next fz st fz' st'→ok st'){fr:List Nat}{fi fe fc:Ev}{gi ge gc:PEv}(hi:SEP fi gi)(he:SEP fe ge)(hc:SEP fc gc):SEP (W5 bd dw fr fi fe fc) (YN gb gw fr gi ge gc):=by
 intro π p e fz st ρ b E;obtain⟨ps,ds,st1,fz1,rfl,e1,n1,r1⟩:=Zc4 hb hw hi he hc e b E;exact⟨_,_,_,e1,n1.trans (Jv n1.bd),QD n1.bd r1⟩
theorem ZgZ{gb:P→List (Option P)}{bd:D→List (Option D)}(hb:UY gb bd){gw:P→Option (List P)}{dw:D→Za→Option (List D×(Za→Prop))}(hw:∀ {fz:Fz}{st:Za}{x:P}{dx:D}{xs:List P},Bd fz st→Rel fz st x dx→gw x=some xs→∃ ds ok,dw dx st=some (ds,ok)∧Rels fz st xs ds∧∀ fz' st',Next fz st fz' st'→ok st'){fr:List Nat}{fi fe fc:Ev}{gi ge gc:PEv}(hi:SEP fi gi)(he:SEP fe ge)(hc:SEP fc gc):SFP (W5 bd dw fr fi fe fc) (YN gb gw fr gi ge gc):=by
 intro π m qs e fz st ρ b E;obtain⟨ps,ds,st1,fz1,h,e1,n1,r1⟩:=Zc4 hb hw hi he hc e b E;cases h;exact Makes.fresh n1 ⟨ds,e1,r1⟩
end
theorem Zb{F:Nat→Fn}{G:PFn}(hF:ZR F G):∀ e:CE,SEP (ev F e) (pe G e)
 |.var i=>Zkj i
 |.cst d=>by
  intro π p e fz st ρ b E;exact .same b (Rel.ofConst e)
 |.bin op a b=>s2 (Zb hF a) (Zb hF b) (Zid op)
 |.neg a=>s1 (Zb hF a) Zik
 |.cmp op a b=>s2 (Zb hF a) (Zb hF b) (Zie op)
 |.not a=>s1 (Zb hF a) Zil
 |.and a b=>Zc5 (Zb hF a) (Zb hF b) (sC fun _ _=>.bl false)
 |.or a b=>Zc5 (Zb hF a) (sC fun _ _=>.bl true) (Zb hF b)
 |.ife c a b=>Zc5 (Zb hF c) (Zb hF a) (Zb hF b)
 |.tupE a=>Zb hF a
 |.lstE a=>s1 (Zb hF a) Zih
 |.anil=>sC fun _ _=>.tup .nil
 |.acons a r=>s2 (Zb hF a) (Zb hF r) Zgv
 |.ix a b=>s2 (Zb hF a) (Zb hF b) ZjE
 |.slice a lo hi=>s3 (Zb hF a) (Zb hF lo) (Zb hF hi) Zeq
 |.nop=>sC fun _ _=>.non
 |.part a=>s1 (Zb hF a) Zgz
 |.call f a ds=>s1 (Zb hF a) (Ziv (hF.1 f))
 |.len a=>s1 (Zb hF a) Zgw
 |.tupleOf a=>s1 (Zb hF a) Zer
 |.listOf a=>s1 (Zb hF a) Zgx
 |.intOf _=>fun _ r e=>nomatch (show(none:Option P)=some r from e)
 |.min a b=>s2 (Zb hF a) (Zb hF b) Zij
 |.max a b=>s2 (Zb hF a) (Zb hF b) Zii
 |.isi T a=>s1 (Zb hF a) (Zig T)
 |.rs _ _=>fun _ r e=>nomatch (show(none:Option P)=some r from e)
 |.inv _=>fun _ r e=>nomatch (show(none:Option P)=some r from e)
 |.tupR _=>fun _ r e=>nomatch (show(none:Option P)=some r from e)
 |.look ks ds a=>s1 (Zb hF a) (Zgy ks ds)
 |.dget _ _ _=>fun _ r e=>nomatch (show(none:Option P)=some r from e)
 |.inR ng a b=>s2 (Zb hF a) (Zb hF b) (Zif ng)
 |.all _=>fun _ r e=>nomatch (show(none:Option P)=some r from e)
 |.any _=>fun _ r e=>nomatch (show(none:Option P)=some r from e)
 |.comp rng fr it elt cnd=>Ziw Zaa Ua (Zb hF it) (Zb hF elt) (Zb hF cnd)
 |.comp2 _ _ _ _=>fun _ r e=>nomatch (show(none:Option P)=some r from e)
 |.compT _ _ _ _=>fun _ r e=>nomatch (show(none:Option P)=some r from e)
 |.lstR _ _=>fun _ r e=>nomatch (show(none:Option P)=some r from e)
 |.new i=>sC fun _ _=>.obj i
 |.meth tab o a=>s2 (Zb hF o) (Zb hF a) (Ziy fun j=>hF.1 j)
 |.isc _ _=>fun _ r e=>nomatch (show(none:Option P)=some r from e)
 |.tix o a=>s2 (Zb hF o) (Zb hF a) Zim
 |.dict _ _=>fun _ r e=>nomatch (show(none:Option P)=some r from e)
 |.dnew=>fun _ r e=>nomatch (show(none:Option P)=some r from e)
 |.strOf _=>fun _ r e=>nomatch (show(none:Option P)=some r from e)
 |.joinE _ _=>fun _ r e=>nomatch (show(none:Option P)=some r from e)
 |.starts _ _=>fun _ r e=>nomatch (show(none:Option P)=some r from e)
 |.rng2 a b=>s2 (Zb hF a) (Zb hF b) ZgA
theorem QT{F:Nat→Fn}{G:PFn}(hF:ZR F G):∀ e:CE,WK e=true→SFP (ev F e) (pe G e)
 |.bin op a b,_=>s2F (Zb hF a) (Zb hF b) (ZhZ op)
 |.lstE a,_=>s1F (Zb hF a) Zfr
 |.call f a ds,h=>ZgY (Zb hF a) (hF.2 f h)
 |.slice a lo hi,_=>s3F (Zb hF a) (Zb hF lo) (Zb hF hi) ZdS
 |.listOf a,_=>s1F (Zb hF a) Jf
 |.comp rng fr it elt cnd,_=>ZgZ Zaa Ua (Zb hF it) (Zb hF elt) (Zb hF cnd)
noncomputable def XV(M:List Nat)(π:Zs):Zs:=π.mapIdx fun i x=>if M.contains i then none else x
theorem Qb{M:List Nat}{π:Zs}{i:Nat}(h:M.contains i=false):(XV M π)[i]?=π[i]?:=by
 unfold XV;rw[List.getElem?_mapIdx];cases q:π[i]? with
 |none=>rfl
 |some x=>
  show some (if M.contains i then none else x)=some x
  rw[h];rfl
theorem ZbM{M:List Nat}{π:Zs}{i:Nat}{p:P}(h:(XV M π)[i]?=some (some p)):M.contains i=false∧π[i]?=some (some p):=by
 unfold XV at h;rw[List.getElem?_mapIdx]at h;cases q:π[i]? with
 |none=>rw[q]at h;cases h
 |some x=>
  rw[q]at h;have h:(if M.contains i then none else x)=some p:=by simpa using h
  split at h
  ·cases h
  ·rename_i c
   exact⟨by simpa using c,by rw[h]⟩
theorem Zc{G:PFn}{M:List Nat}{π:Zs}:∀ e:CE,noM M e=true→pe G e (XV M π)=pe G e π
 |.var i,h=>by
  have h:(!M.contains i)=true:=h;show Wb i _=Wb i _;unfold Wb;rw[Qb (by simpa using h)]
 |.cst d,_=>rfl
 |.bin op a b,h=>by
  have h:=(Bool.and_eq_true _ _).mp h;show pq2 (pe G a) (pe G b) (Y4 op) _=pq2 (pe G a) (pe G b) (Y4 op) _;unfold pq2;rw[Zc a h.1,Zc b h.2]
 |.neg a,h=>by
  show pq1 (pe G a) Za2 _=pq1 (pe G a) Za2 _;unfold pq1;rw[Zc a h]
 |.cmp op a b,h=>by
  have h:=(Bool.and_eq_true _ _).mp h;show pq2 (pe G a) (pe G b) (Yg op) _=pq2 (pe G a) (pe G b) (Yg op) _;unfold pq2;rw[Zc a h.1,Zc b h.2]
 |.not a,h=>by
  show pq1 (pe G a) Za5 _=pq1 (pe G a) Za5 _;unfold pq1;rw[Zc a h]
 |.and a b,h=>by
  have h:=(Bool.and_eq_true _ _).mp h;show Yq (pe G a) (pe G b) _ _=Yq (pe G a) (pe G b) _ _;unfold Yq;rw[Zc a h.1,Zc b h.2]
 |.or a b,h=>by
  have h:=(Bool.and_eq_true _ _).mp h;show Yq (pe G a) _ (pe G b) _=Yq (pe G a) _ (pe G b) _;unfold Yq;rw[Zc a h.1,Zc b h.2]
 |.ife c a b,h=>by
  have h:=(Bool.and_eq_true _ _).mp h;have h2:=(Bool.and_eq_true _ _).mp h.2;show Yq (pe G c) (pe G a) (pe G b) _=Yq (pe G c) (pe G a) (pe G b) _;unfold Yq;rw[Zc c h.1,Zc a h2.1,Zc b h2.2]
 |.tupE a,h=>Zc a h
 |.lstE a,h=>by
  show pq1 (pe G a) Jp _=pq1 (pe G a) Jp _;unfold pq1;rw[Zc a h]
 |.anil,_=>rfl
 |.acons a b,h=>by
  have h:=(Bool.and_eq_true _ _).mp h;show pq2 (pe G a) (pe G b) VM _=pq2 (pe G a) (pe G b) VM _;unfold pq2;rw[Zc a h.1,Zc b h.2]
 |.ix a b,h=>by
  have h:=(Bool.and_eq_true _ _).mp h;show pq2 (pe G a) (pe G b) ixP _=pq2 (pe G a) (pe G b) ixP _;unfold pq2;rw[Zc a h.1,Zc b h.2]
 |.slice c a b,h=>by
  have h:=(Bool.and_eq_true _ _).mp h;have h2:=(Bool.and_eq_true _ _).mp h.2;show pq3 (pe G c) (pe G a) (pe G b) _ _=pq3 (pe G c) (pe G a) (pe G b) _ _;unfold pq3;rw[Zc c h.1,Zc a h2.1,Zc b h2.2]
 |.nop,_=>rfl
 |.part a,h=>by
  show pq1 (pe G a) V2 _=pq1 (pe G a) V2 _;unfold pq1;rw[Zc a h]
 |.call f a ds,h=>by
  show pq1 (pe G a) (W3 (G f) ds) _=pq1 (pe G a) (W3 (G f) ds) _;unfold pq1;rw[Zc a h]
 |.len a,h=>by
  show pq1 (pe G a) Jl _=pq1 (pe G a) Jl _;unfold pq1;rw[Zc a h]
 |.tupleOf a,h=>by
  show pq1 (pe G a) Wx _=pq1 (pe G a) Wx _;unfold pq1;rw[Zc a h]
 |.listOf a,h=>by
  show pq1 (pe G a) Qq _=pq1 (pe G a) Qq _;unfold pq1;rw[Zc a h]
 |.intOf _,_=>rfl
 |.min a b,h=>by
  have h:=(Bool.and_eq_true _ _).mp h;show pq2 (pe G a) (pe G b) Zen _=pq2 (pe G a) (pe G b) Zen _;unfold pq2;rw[Zc a h.1,Zc b h.2]
 |.max a b,h=>by
  have h:=(Bool.and_eq_true _ _).mp h;show pq2 (pe G a) (pe G b) Za1 _=pq2 (pe G a) (pe G b) Za1 _;unfold pq2;rw[Zc a h.1,Zc b h.2]
 |.isi T a,h=>by
  show pq1 (pe G a) (Qn T) _=pq1 (pe G a) (Qn T) _;unfold pq1;rw[Zc a h]
 |.rs _ _,_=>rfl
 |.inv _,_=>rfl
 |.tupR _,_=>rfl
 |.look ks ds a,h=>by
  show pq1 (pe G a) (UA ks ds) _=pq1 (pe G a) (UA ks ds) _;unfold pq1;rw[Zc a h]
 |.dget _ _ _,_=>rfl
 |.inR ng a b,h=>by
  have h:=(Bool.and_eq_true _ _).mp h;show pq2 (pe G a) (pe G b) (Zeb ng) _=pq2 (pe G a) (pe G b) (Zeb ng) _;unfold pq2;rw[Zc a h.1,Zc b h.2]
 |.all _,_=>rfl
 |.any _,_=>rfl
 |.comp rng fr it elt cnd,h=>by
  have h:=(Bool.and_eq_true _ _).mp h;have e:∀ b p,Wa b (XV M π) fr p=Wa b π fr p:=fun b p=>by
   unfold Wa
   congr 1
   refine List.map_congr_left fun i hi=>?_
   have:=List.all_eq_true.mp h.2 i hi;rw[Qb (by simpa using this)]
  show YN ZcM (Xf rng) fr (pe G it) (pe G elt) (pe G cnd) _=YN ZcM (Xf rng) fr (pe G it) (pe G elt) (pe G cnd) _;unfold YN;rw[Zc it h.1];simp only[e]
 |.comp2 _ _ _ _,_=>rfl
 |.compT _ _ _ _,_=>rfl
 |.new _,_=>rfl
 |.meth tab o a,h=>by
  have h:=(Bool.and_eq_true _ _).mp h;show pq2 (pe G o) (pe G a) (X7 G tab) _=pq2 (pe G o) (pe G a) (X7 G tab) _;unfold pq2;rw[Zc o h.1,Zc a h.2]
 |.tix o a,h=>by
  have h:=(Bool.and_eq_true _ _).mp h;show pq2 (pe G o) (pe G a) Zfc _=pq2 (pe G o) (pe G a) Zfc _;unfold pq2;rw[Zc o h.1,Zc a h.2]
 |.isc _ _,_=>rfl
 |.lstR _ _,_=>rfl
 |.dict _ _,_=>rfl
 |.dnew,_=>rfl
 |.strOf _,_=>rfl
 |.joinE _ _,_=>rfl
 |.starts _ _,_=>rfl
 |.rng2 a b,h=>by
  have h:=(Bool.and_eq_true _ _).mp h;show pq2 (pe G a) (pe G b) Zaj _=pq2 (pe G a) (pe G b) Zaj _;unfold pq2;rw[Zc a h.1,Zc b h.2]
end Dp


namespace Dp
open PySem
inductive Own(p:P)(o:Option (Option D))(ps:List P)(j:Nat):Prop where
 |l (a:p=.lst true ps) (b:o=some (some (.lst j)))
 |d (a:p=.dic true ps) (b:o=some (some (.dic j)))
def Rf(o:Option (Option D))(j:Nat):Prop:=o=some (some (.lst j))∨o=some (some (.dic j))
theorem Own.rf{p:P}{o:Option (Option D)}{ps:List P}{j:Nat}:Own p o ps j→Rf o j
 |.l _ b=>.inl b
 |.d _ b=>.inr b
theorem Rf.inj{o:Option (Option D)}{i j:Nat}(h:Rf o i)(h':Rf o j):i=j:=by
 rcases h with h|h<;>rcases h' with h'|h'<;>(rw[h]at h';cases h';try rfl)
theorem Own.lst{m:Bool}{xs:List P}{o:Option (Option D)}{ps:List P}{j:Nat}:Own (.lst m xs) o ps j→(m=true∧xs=ps)∧o=some (some (.lst j))
 |.l a b=>by cases a;exact⟨⟨rfl,rfl⟩,b⟩
 |.d a b=>nomatch a
theorem Own.dic{m:Bool}{xs:List P}{o:Option (Option D)}{ps:List P}{j:Nat}:Own (.dic m xs) o ps j→(m=true∧xs=ps)∧o=some (some (.dic j))
 |.l a b=>nomatch a
 |.d a b=>by cases a;exact⟨⟨rfl,rfl⟩,b⟩
theorem Own.rel{fz:Fz}{st:Za}{p:P}{o:Option (Option D)}{ps:List P}{ds:List D}{j:Nat}(h:Own p o ps j)(hz:fz j)(e:st[j]?=some (true,ds))(r:Rels fz st ps ds):∃ d,o=some (some d)∧Rel fz st p d:=by
 cases h with
 |l a b=>rw[a];exact⟨_,b,.lst hz e r⟩
 |d a b=>rw[a];exact⟨_,b,.dic hz e r⟩
structure Inv(n0:Nat)(M:List Nat)(fz:Fz)(st:Za)(π:Zs)(ρ:Env):Prop where
 bd:Bd fz st
 lo:n0≤st.length
 len:π.length=ρ.length
 fr:∀ (i:Nat) (p:P),M.contains i=false→π[i]?=some (some p)→∃ d,ρ[i]?=some (some d)∧Rel fz st p d
 mt:∀ (i:Nat) (p:P),M.contains i=true→π[i]?=some (some p)→∃ (j:Nat) (ps:List P) (ds:List D),Own p ρ[i]? ps j∧Rf ρ[i]? j∧st[j]?=some (true,ds)∧¬fz j∧n0≤j∧Rels fz st ps ds
 ne:∀ (i i':Nat) (p p':P) (j:Nat),M.contains i=true→M.contains i'=true→π[i]?=some (some p)→π[i']?=some (some p')→Rf ρ[i]? j→Rf ρ[i']? j→i=i'
structure Later(n0:Nat)(fz:Fz)(st:Za)(fz':Fz)(st':Za):Prop where
 low:∀ i,i < n0→st'[i]?=st[i]?
 frz:∀ i,fz i→st'[i]?=st[i]?
 sub:∀ i,fz i→fz' i
 new:∀ i,fz' i→fz i∨n0≤i
 len:st.length≤st'.length
section
variable {n0:Nat}{M:List Nat}{fz fz' fz1 fz2:Fz}{st st' st1 st2:Za}{π:Zs}{ρ:Env}
theorem Later.refl:Later n0 fz st fz st:=⟨fun _ _=>rfl,fun _ _=>rfl,fun _ h=>h,fun _ h=>.inl h,Nat.le_refl _⟩
theorem Later.trans(x:Later n0 fz st fz1 st1)(y:Later n0 fz1 st1 fz2 st2):Later n0 fz st fz2 st2:=
 ⟨fun i h=>(y.low i h).trans (x.low i h),fun i h=>(y.frz i (x.sub i h)).trans (x.frz i h),fun i h=>y.sub i (x.sub i h),fun i h=>(y.new i h).elim (x.new i) .inr,Nat.le_trans x.len y.len⟩
theorem Next.later(h:n0≤st.length)(b:Bd fz st)(x:Next fz st fz' st'):Later n0 fz st fz' st':=
 ⟨fun i hi=>x.old i (Nat.lt_of_lt_of_le hi h),fun i hi=>x.old i (b i hi),x.sub,fun i hi=>(x.new i hi).elim .inl fun z=>.inr (Nat.le_trans h z),x.len⟩
theorem ZG{α:Type}{l:List α}{i:Nat}{x:α}(h:l[i]?=some x):i < l.length:=(List.getElem?_eq_some_iff.mp h).1
theorem Inv.next(I:Inv n0 M fz st π ρ)(x:Next fz st fz' st'):Inv n0 M fz' st' π ρ:=
 ⟨x.bd,Nat.le_trans I.lo x.len,I.len,fun i p h e=>let ⟨d,e1,r⟩:=I.fr i p h e;⟨d,e1,r.next I.bd x⟩,fun i p h e=>by
  obtain⟨j,ps,ds,e1,e2,e3,e4,e5,r⟩:=I.mt i p h e;have hj:=ZG e3;exact⟨j,ps,ds,e1,e2,(x.old j hj).trans e3,fun z=>(x.new j z).elim e4 fun z=>absurd hj (by omega),e5,r.next I.bd x⟩,I.ne⟩
theorem Inv.erase(I:Inv n0 M fz st π ρ):EnvAll fz st (XV M π) ρ:=fun i p e=>let ⟨h1,h2⟩:=ZbM e;I.fr i p h1 h2
noncomputable def fzM(M:List Nat)(fz:Fz)(π:Zs)(ρ:Env):Fz:=fun i=>fz i∨∃ (k:Nat) (p:P),M.contains k=true∧π[k]?=some (some p)∧Rf ρ[k]? i
theorem Inv.bdM(I:Inv n0 M fz st π ρ):Bd (fzM M fz π ρ) st:=by
 rintro i (h|⟨k,p,hk,e,e'⟩)
 ·exact I.bd i h
 ·obtain⟨j,ps,ds,e1,e2,e3,e4,e5,r⟩:=I.mt k p hk e
  cases e'.inj e2
  exact ZG e3
theorem Inv.all(I:Inv n0 M fz st π ρ):EnvAll (fzM M fz π ρ) st π ρ:=by
 intro i p e;cases h:M.contains i with
 |false=>
  obtain⟨d,e1,r⟩:=I.fr i p h e;exact⟨d,e1,r.mono (fun _ z=>.inl z) fun _ _=>rfl⟩
 |true=>
  obtain⟨j,ps,ds,e1,e2,e3,e4,e5,r⟩:=I.mt i p h e;exact e1.rel (.inr ⟨i,_,h,e,e2⟩) e3 (r.mono (fun _ z=>.inl z) fun _ _=>rfl)
theorem ZE{F:Nat→Fn}{G:PFn}(hF:ZR F G){e:CE}{p:P}(I:Inv n0 M fz st π ρ)(h:pe G e π=some p)(k:Zq M e p=true):Gives fz st (ev F e ρ st) p:=by
 unfold Zq at k;rw[Bool.or_eq_true]at k;rcases k with k|k
 ·rw[←Zc e k]at h
  exact Zb hF e _ p h fz st ρ I.bd I.erase
 ·obtain⟨d,st',fz',e1,n1,r1⟩:=Zb hF e _ p h _ st ρ I.bdM I.all
  exact⟨d,st',fz,e1,n1.small I.bd,r1.ofNoL k⟩
theorem Qc{F:Nat→Fn}{G:PFn}(hF:ZR F G){e:CE}{m:Bool}{xs:List P}(I:Inv n0 M fz st π ρ)(h:pe G e π=some (.lst m xs))(hf:WK e=true)(k:(noM M e||WG xs)=true) :
  ∃ j ds st' fz1,ev F e ρ st=some (.lst j,st')∧st'[j]?=some (m,ds)∧Next fz st fz1 st'∧¬fz1 j∧st.length≤j∧Rels fz1 st' xs ds:=by
 rw[Bool.or_eq_true]at k;rcases k with k|k
 ·rw[←Zc e k]at h
  exact QT hF e hf _ m xs h fz st ρ I.bd I.erase
 ·obtain⟨j,ds,st',fz1,e1,e2,n1,hn,hl,r⟩:=QT hF e hf _ m xs h _ st ρ I.bdM I.all
  exact⟨j,ds,st',fz,e1,e2,n1.small I.bd,fun z=>absurd (I.bd j z) (by omega),hl,r.ofNoL k⟩
theorem VR{F:Nat→Fn}{G:PFn}(hF:ZR F G){e:CE}{p:P}(I:Inv n0 M fz st π ρ)(h:pe G e π=some p)(k:YG M e p=true) :
  ∃ d j ps ds st' fz1,(ev F e ρ st=some (d,st')∧Own p (some (some d)) ps j)∧st'[j]?=some (true,ds)∧Next fz st fz1 st'∧¬fz1 j∧st.length≤j∧Rels fz1 st' ps ds:=by
 unfold YG at k;split at k
 ·rw[Bool.and_eq_true]at k
  obtain⟨j,ds,st',fz1,e1,r⟩:=Qc hF I h k.1 k.2;exact⟨_,j,_,ds,st',fz1,⟨e1,.l rfl rfl⟩,r⟩
 ·cases k
theorem ZaR{F:Nat→Fn}{G:PFn}(hF:ZR F G){e:CE}{p:P}(I:Inv n0 M fz st π ρ)(h:pe G e π=some p)(k:YG M e p=true):Gives fz st (ev F e ρ st) p:=by
 obtain⟨d,j,ps,ds,st',fz1,⟨e1,ow⟩,e2,n1,hn,hl,r⟩:=VR hF I h k;obtain⟨d',e3,r'⟩:=ow.rel (fz:=fun i=>fz1 i∨i=j) (.inr rfl) e2 (r.mono (fun _ z=>.inl z) fun _ _=>rfl)
 cases e3;exact⟨d,st',fun i=>fz1 i∨i=j,e1,⟨n1.old,n1.len,fun i z=>.inl (n1.sub i z),fun i z=>z.elim (n1.new i) fun z=>by rw[z];exact .inr hl,fun i z=>z.elim (n1.bd i) fun z=>by rw[z];exact ZG e2⟩,r'⟩
theorem ZF{α:Type}{l:List (Option α)}{i k:Nat}{x y:α}(h:(l.set i (some x))[k]?=some (some y)):(k=i∧y=x∧i < l.length)∨(k≠i∧l[k]?=some (some y)):=by
 rw[List.getElem?_set]at h;split at h
 ·rename_i e
  subst e;split at h
  ·rename_i hl
   cases h;exact .inl ⟨rfl,rfl,hl⟩
  ·cases h
 ·rename_i e
  exact .inr ⟨fun z=>e z.symm,h⟩
theorem Vr{α:Type}{l:List (Option α)}{i:Nat}{x:α}(h:i < l.length):(l.set i (some x))[i]?=some (some x):=by rw[List.getElem?_set,if_pos rfl,if_pos h]
theorem Zd{α:Type}{l:List (Option α)}{i k:Nat}{x:α}(h:k≠i):(l.set i (some x))[k]?=l[k]?:=by rw[List.getElem?_set,if_neg (fun z=>h z.symm)]
theorem Inv.set{i:Nat}{p:P}{d:D}(I:Inv n0 M fz st π ρ)(h:M.contains i=false)(r:Rel fz st p d):Inv n0 M fz st (Zp π i p) (Zt ρ i d):=by
 unfold Zp Zt;refine⟨I.bd,I.lo,by rw[List.length_set,List.length_set];exact I.len,fun k q hk e=>?_,fun k q hk e=>?_,fun k k' q q' j hk hk' e e' e1 e1'=>?_⟩
 ·rcases ZF e with⟨rfl,rfl,hl⟩|⟨hn,e⟩
  ·exact⟨d,Vr (by rw[←I.len];exact hl),r⟩
  ·rw[Zd hn]
   exact I.fr k q hk e
 ·rcases ZF e with⟨rfl,rfl,hl⟩|⟨hn,e⟩
  ·rw[h]at hk;cases hk
  ·rw[Zd hn]
   exact I.mt k q hk e
 ·rcases ZF e with⟨rfl,rfl,hl⟩|⟨hn,e⟩
  ·rw[h]at hk;cases hk
  ·rcases ZF e' with⟨rfl,rfl,hl⟩|⟨hn',e'⟩
   ·rw[h]at hk';cases hk'
   ·rw[Zd hn]at e1
    rw[Zd hn']at e1';exact I.ne k k' q q' j hk hk' e e' e1 e1'
theorem Inv.setM{i j:Nat}{p:P}{d:D}{ps:List P}{ds:List D}(I:Inv n0 M fz st π ρ)(h:M.contains i=true)(ow:Own p (some (some d)) ps j)(hs:st[j]?=some (true,ds))(hz:¬fz j)(hl:n0≤j)(r:Rels fz st ps ds)(hn:∀ (k:Nat) (p:P),M.contains k=true→π[k]?=some (some p)→¬Rf ρ[k]? j):Inv n0 M fz st (Zp π i p) (Zt ρ i d):=by
 unfold Zp Zt;refine⟨I.bd,I.lo,by rw[List.length_set,List.length_set];exact I.len,fun k q hk e=>?_,fun k q hk e=>?_,fun k k' q q' j' hk hk' e e' e1 e1'=>?_⟩
 ·rcases ZF e with⟨rfl,rfl,hl⟩|⟨hn,e⟩
  ·rw[h]at hk;cases hk
  ·rw[Zd hn]
   exact I.fr k q hk e
 ·rcases ZF e with⟨rfl,rfl,hl'⟩|⟨hn,e⟩
  ·have z:=Vr (x:=d) (show k < ρ.length by rw[←I.len];exact hl')
   exact⟨j,ps,ds,by rw[z];exact ow,by rw[z];exact ow.rf,hs,hz,hl,r⟩
  ·rw[Zd hn]
   exact I.mt k q hk e
 ·rcases ZF e with⟨a1,a2,a3⟩|⟨a1,a2⟩
  ·rcases ZF e' with⟨b1,b2,b3⟩|⟨b1,b2⟩
   ·rw[a1,b1]
   ·rw[a1,Vr (by rw[←I.len];exact a3)]at e1
    cases ow.rf.inj e1
    rw[Zd b1]at e1';exact absurd e1' (hn k' q' hk' b2)
  ·rcases ZF e' with⟨b1,b2,b3⟩|⟨b1,b2⟩
   ·rw[b1,Vr (by rw[←I.len];exact b3)]at e1'
    cases ow.rf.inj e1'
    rw[Zd a1]at e1;exact absurd e1 (hn k q hk a2)
   ·rw[Zd a1]at e1
    rw[Zd b1]at e1';exact I.ne k k' q q' j' hk hk' a2 b2 e1 e1'
theorem Inv.write{i j:Nat}{p0 p1:P}{ps:List P}{ds:List D}(I:Inv n0 M fz st π ρ)(h:M.contains i=true)(e0:π[i]?=some (some p0))(ow:Own p1 ρ[i]? ps j)(hz:¬fz j)(hl:n0≤j)(hj:j < st.length)(r:Rels fz st ps ds) :
  Inv n0 M fz (st.set j (true,ds)) (Zp π i p1) ρ∧Later n0 fz st fz (st.set j (true,ds)):=by
 have same:∀ k,fz k→(st.set j (true,ds))[k]?=st[k]?:=fun k hk=>by
  rw[List.getElem?_set,if_neg (fun z=>hz (by rw[z];exact hk))]
 have mono:∀ {q:P}{d:D},Rel fz st q d→Rel fz (st.set j (true,ds)) q d:=fun r=>r.mono (fun _ z=>z) same
 have monos:∀ {q:List P}{d:List D},Rels fz st q d→Rels fz (st.set j (true,ds)) q d:=fun r=>r.mono (fun _ z=>z) same
 refine⟨⟨fun k hk=>by rw[List.length_set];exact I.bd k hk,by rw[List.length_set];exact I.lo,by unfold Zp;rw[List.length_set];exact I.len,fun k q hk e=>?_,fun k q hk e=>?_,fun k k' q q' j' hk hk' e e' e1 e1'=>?_⟩,
  ⟨fun k hk=>by rw[List.getElem?_set,if_neg (by omega)],same,fun _ z=>z,fun _ z=>.inl z,by rw[List.length_set];exact Nat.le_refl _⟩⟩
 ·unfold Zp at e
  rcases ZF e with⟨rfl,rfl,_⟩|⟨hn,e⟩
  ·rw[h]at hk;cases hk
  ·obtain⟨d,e1,r1⟩:=I.fr k q hk e
   exact⟨d,e1,mono r1⟩
 ·unfold Zp at e
  rcases ZF e with⟨rfl,rfl,_⟩|⟨hn,e⟩
  ·exact⟨j,ps,ds,ow,ow.rf,by rw[List.getElem?_set,if_pos rfl,if_pos hj],hz,hl,monos r⟩
  ·obtain⟨j',qs,es,f1,f2,f3,f4,f5,f6⟩:=I.mt k q hk e
   refine⟨j',qs,es,f1,f2,?_,f4,f5,monos f6⟩;rw[List.getElem?_set,if_neg (fun z=>hn (I.ne k i q p0 j hk h e e0 (by rw[z];exact f2) ow.rf))]
   exact f3
 ·unfold Zp at e e'
  have f:∀ {k:Nat}{q:P},(π.set i (some p1))[k]?=some (some q)→∃ q',π[k]?=some (some q'):=fun {k q} e=>by
   rcases ZF e with⟨rfl,_,_⟩|⟨_,e⟩
   ·exact⟨_,e0⟩
   ·exact⟨_,e⟩
  obtain⟨_,g⟩:=f e;obtain⟨_,g'⟩:=f e';exact I.ne k k' _ _ j' hk hk' g g' e1 e1'
end
def Zjc(n0:Nat)(M:List Nat)(fz:Fz)(st:Za):PFl→Fl→Prop
 |.nx π,.nx ρ=>Inv n0 M fz st π ρ
 |.bk π,.bk ρ=>Inv n0 M fz st π ρ
 |.ct π,.ct ρ=>Inv n0 M fz st π ρ
 |.rt p,.rt d=>Rel fz st p d∧Bd fz st
 |_,_=>False
def Kept(M T:List Nat)(π:Zs)(ρ:Env)(st:Za)(π':Zs)(ρ':Env)(st':Za):Prop:=
 ∀ (i:Nat),i∉T→M.contains i=true→π'[i]?=π[i]?∧ρ'[i]?=ρ[i]?∧∀ (j:Nat) (p:P),π[i]?=some (some p)→Rf ρ[i]? j→st'[j]?=st[j]?
def KeptF(M T:List Nat)(π:Zs)(ρ:Env)(st:Za)(r:PFl)(r':Fl)(st':Za):Prop:=match r,r' with
 |.nx π',.nx ρ'=>Kept M T π ρ st π' ρ' st'
 |.bk π',.bk ρ'=>Kept M T π ρ st π' ρ' st'
 |.ct π',.ct ρ'=>Kept M T π ρ st π' ρ' st'
 |_,_=>True
theorem Kept.refl{M T:List Nat}{π:Zs}{ρ:Env}{st:Za}:Kept M T π ρ st π ρ st:=fun _ _ _=>⟨rfl,rfl,fun _ _ _ _=>rfl⟩
theorem Kept.trans{M T T1 T2:List Nat}{π π1 π2:Zs}{ρ ρ1 ρ2:Env}{st st1 st2:Za}(s1:∀ i,i∈T1→i∈T)(s2:∀ i,i∈T2→i∈T)(x:Kept M T1 π ρ st π1 ρ1 st1)(y:Kept M T2 π1 ρ1 st1 π2 ρ2 st2):Kept M T π ρ st π2 ρ2 st2:=fun i h hm=>by
 obtain⟨a1,a2,a3⟩:=x i (fun z=>h (s1 i z)) hm
 obtain⟨b1,b2,b3⟩:=y i (fun z=>h (s2 i z)) hm
 exact⟨b1.trans a1,b2.trans a2,fun j p e e'=>(b3 j p (a1.trans e) (by rw[a2];exact e')).trans (a3 j p e e')⟩
theorem Kept.more{M T T1:List Nat}{π π1:Zs}{ρ ρ1:Env}{st st1:Za}(s1:∀ i,i∈T1→i∈T)(x:Kept M T1 π ρ st π1 ρ1 st1):Kept M T π ρ st π1 ρ1 st1:=fun i h hm=>x i (fun z=>h (s1 i z)) hm
theorem KeptF.trans{M T T1 T2:List Nat}{π π1:Zs}{ρ ρ1:Env}{st st1 st2:Za}{r:PFl}{r':Fl}(s1:∀ i,i∈T1→i∈T)(s2:∀ i,i∈T2→i∈T)(x:Kept M T1 π ρ st π1 ρ1 st1)(y:KeptF M T2 π1 ρ1 st1 r r' st2):KeptF M T π ρ st r r' st2:=by
 cases r<;>cases r'<;>first|trivial|exact Kept.trans s1 s2 x y
theorem KeptF.more{M T T1:List Nat}{π:Zs}{ρ:Env}{st st2:Za}{r:PFl}{r':Fl}(s1:∀ i,i∈T1→i∈T)(y:KeptF M T1 π ρ st r r' st2):KeptF M T π ρ st r r' st2:=by
 cases r<;>cases r'<;>first|trivial|exact Kept.more s1 y
theorem Next.kept{n0:Nat}{M T:List Nat}{fz fz':Fz}{st st':Za}{π:Zs}{ρ:Env}(I:Inv n0 M fz st π ρ)(x:Next fz st fz' st'):Kept M T π ρ st π ρ st':=fun i _ hm=>⟨rfl,rfl,fun j p e e'=>by
 obtain⟨j',ps,ds,e1,e2,e3,e4,e5,r⟩:=I.mt i p hm e;cases e'.inj e2
 exact x.old j (ZG e3)⟩
abbrev Xh(n0:Nat)(M T:List Nat)(fz:Fz)(st:Za)(π:Zs)(ρ:Env)(x:Option (Fl×Za))(r:PFl):Prop:=∃ r' st' fz',x=some (r',st')∧Later n0 fz st fz' st'∧Zjc n0 M fz' st' r r'∧KeptF M T π ρ st r r' st'
def SX(n0:Nat)(M T:List Nat)(f:Ex)(g:PEx):Prop:=∀ π r,g π=some r→∀ fz st ρ,Inv n0 M fz st π ρ→Xh n0 M T fz st π ρ (f ρ st) r
section
variable {n0:Nat}{M T T1 T2:List Nat}{f f1 f2:Ex}{g g1 g2:PEx}{F:Nat→Fn}{G:PFn}
theorem ZiQ(h1:SX n0 M T1 f1 g1)(h2:SX n0 M T2 f2 g2):SX n0 M (T1++T2) (QL f1 f2) (ZcQ g1 g2):=by
 intro π r e fz st ρ I;have s1:∀ i,i∈T1→i∈T1++T2:=fun i h=>List.mem_append.mpr (.inl h)
 have s2:∀ i,i∈T2→i∈T1++T2:=fun i h=>List.mem_append.mpr (.inr h)
 unfold ZcQ at e;split at e
 ·rename_i π1 q
  obtain⟨r1,st1,fz1,e1,l1,R1,k1⟩:=h1 π _ q fz st ρ I;cases r1 with
  |nx ρ1=>
   obtain⟨r2,st2,fz2,e2,l2,R2,k2⟩:=h2 π1 r e fz1 st1 ρ1 R1;exact⟨r2,st2,fz2,by unfold QL;rw[e1];exact e2,l1.trans l2,R2,KeptF.trans s1 s2 k1 k2⟩
  |_=>exact R1.elim
 ·rename_i hn
  obtain⟨r1,st1,fz1,e1,l1,R1,k1⟩:=h1 π _ e fz st ρ I;refine⟨r1,st1,fz1,?_,l1,R1,KeptF.more s1 k1⟩;unfold QL;rw[e1];cases r with
  |nx π1=>exact absurd e (hn π1)
  |rt p=>cases r1<;>first|rfl|exact R1.elim
  |bk π1=>cases r1<;>first|rfl|exact R1.elim
  |ct π1=>cases r1<;>first|rfl|exact R1.elim
theorem ZiP(hF:ZR F G)(e:CE):SX n0 M T (UP (ev F e)) (ZcN (pe G e)):=by
 intro π r h fz st ρ I;unfold ZcN at h;split at h
 ·rename_i p q
  cases h;obtain⟨d,st',fz',e1,n1,r1⟩:=Zb hF e _ p q _ st ρ I.bdM I.all;refine⟨.rt d,st',fz',by unfold UP;rw[e1],⟨fun i hi=>n1.old i (Nat.lt_of_lt_of_le hi I.lo),fun i hi=>n1.old i (I.bd i hi),fun i hi=>n1.sub i (.inl hi),fun i hi=>?_,n1.len⟩,⟨r1,n1.bd⟩,trivial⟩
  rcases n1.new i hi with(z|⟨k,p,hk,e,e'⟩)|z
  ·exact .inl z
  ·obtain⟨j,ps,ds,f1,f2,f3,f4,f5,r⟩:=I.mt k p hk e
   cases e'.inj f2
   exact .inr f5
  ·exact .inr (Nat.le_trans I.lo z)
 ·cases h
theorem XE{α:Type}{l:List (Option α)}{j k:Nat}{x:α}(e:(l.set j none)[k]?=some (some x)):k≠j∧l[k]?=some (some x):=by
 by_cases h:k=j
 ·subst h
  rw[List.getElem?_set]at e;simp only[if_true]at e;split at e<;>cases e
 ·rw[List.getElem?_set,if_neg (fun z=>h z.symm)]at e
  exact⟨h,e⟩
theorem Zkl{i j:Nat}{p:P}{π:Zs}{fz:Fz}{st:Za}{ρ:Env}(I:Inv n0 M fz st π ρ)(hj:M.contains j=true)(hi:M.contains i=false)(q:π[j]?=some (some p)) :
  ∃ d fz',ρ[j]?=some (some d)∧Later n0 fz st fz' st∧Inv n0 M fz' st (Zp (π.set j none) i p) (Zt ρ i d)∧Kept M [i,j] π ρ st (Zp (π.set j none) i p) (Zt ρ i d) st:=by
 obtain⟨J,ps,ds,f1,f2,f3,f4,f5,f6⟩:=I.mt j p hj q;have sub:∀ k,fz k→(fz k∨k=J):=fun k h=>.inl h
 obtain⟨d,hd,rd⟩:=f1.rel (fz:=fun k=>fz k∨k=J) (.inr rfl) f3 (f6.mono sub fun _ _=>rfl)
 refine⟨d,fun k=>fz k∨k=J,hd,⟨fun _ _=>rfl,fun _ _=>rfl,sub,fun k h=>h.elim .inl fun z=>.inr (by rw[z];exact f5),Nat.le_refl _⟩,?_,fun k hk hm=>?_⟩
 ·unfold Zp Zt
  refine⟨fun k h=>h.elim (I.bd k) fun z=>by rw[z];exact ZG f3,I.lo,by rw[List.length_set,List.length_set,List.length_set];exact I.len,fun k q' hk e=>?_,fun k q' hk e=>?_,fun k k' q' q'' j' hk hk' e e' e1 e1'=>?_⟩
  ·rcases ZF e with⟨rfl,rfl,hl⟩|⟨hn,e⟩
   ·exact⟨d,Vr (by rw[←I.len];simpa using hl),rd⟩
   ·rw[Zd hn]
    obtain⟨d,e2,r⟩:=I.fr k q' hk (XE e).2;exact⟨d,e2,r.mono sub fun _ _=>rfl⟩
  ·rcases ZF e with⟨rfl,rfl,hl⟩|⟨hn,e⟩
   ·rw[hi]at hk;cases hk
   ·rw[Zd hn]
    obtain⟨nj,e⟩:=XE e;obtain⟨J',ps',ds',g1,g2,g3,g4,g5,g6⟩:=I.mt k q' hk e;refine⟨J',ps',ds',g1,g2,g3,fun z=>z.elim g4 fun z=>?_,g5,g6.mono sub fun _ _=>rfl⟩
    subst z;exact nj (I.ne k j _ _ J' hk hj e q g2 f2)
  ·rcases ZF e with⟨rfl,rfl,hl⟩|⟨hn,e⟩
   ·rw[hi]at hk;cases hk
   ·rcases ZF e' with⟨rfl,rfl,hl⟩|⟨hn',e'⟩
    ·rw[hi]at hk';cases hk'
    ·rw[Zd hn]at e1
     rw[Zd hn']at e1';exact I.ne k k' _ _ j' hk hk' (XE e).2 (XE e').2 e1 e1'
 ·have n1:k≠i:=fun z=>hk (by rw[z];exact List.mem_cons_self)
  have n2:k≠j:=fun z=>hk (by rw[z];exact List.mem_cons_of_mem _ (List.mem_singleton.mpr rfl))
  refine⟨?_,Zd n1,fun _ _ _ _=>rfl⟩
  unfold Zp;rw[Zd n1,List.getElem?_set,if_neg (fun z=>n2 z.symm)]
theorem ZiR(hF:ZR F G)(i:Nat)(e:CE):SX n0 M (i :: mvT e) (VG i (ev F e)) (Jt M i e (pe G e)):=by
 intro π r h fz st ρ I;have kp:∀ {fz':Fz}{st':Za}{d:D}{p:P},Next fz st fz' st'→Kept M (i :: mvT e) π ρ st (Zp π i p) (Zt ρ i d) st':=fun {fz' st' d p} x k hk hm=>by
  have hki:k≠i:=fun z=>hk (by rw[z];exact List.mem_cons_self)
  have:=Next.kept (T:=i :: mvT e) I x k hk hm;exact⟨Zd hki,Zd hki,this.2.2⟩
 unfold Jt at h;split at h
 ·rename_i p q
  cases hm:M.contains i with
  |true=>
   rw[hm]at h;simp only[if_true]at h;split at h
   ·rename_i c
    cases h;obtain⟨d,j,ps,ds,st',fz1,⟨e1,ow⟩,e2,n1,hn,hl,r⟩:=VR hF I q c;refine⟨.nx (Zt ρ i d),st',fz1,by unfold VG;rw[e1],n1.later I.lo I.bd,(I.next n1).setM hm ow e2 hn (Nat.le_trans I.lo hl) r fun k p hk e e'=>?_,kp n1⟩
    obtain⟨j',ps,es,f1,f2,f3,f4,f5,_⟩:=I.mt k p hk e;cases e'.inj f2
    exact absurd (ZG f3) (by omega)
   ·unfold mvP at h
    split at h
    ·rw[hm,Bool.not_true,Bool.and_false]at h
     cases h
    ·cases h
  |false=>
   rw[hm]at h;simp only[Bool.false_eq_true,if_false]at h;split at h
   ·rename_i c
    cases h;obtain⟨d,st',fz',e1,n1,r1⟩:Gives fz st (ev F e ρ st) p:=((Bool.or_eq_true _ _).mp c).elim (ZE hF I q) (ZaR hF I q);exact⟨.nx (Zt ρ i d),st',fz',by unfold VG;rw[e1],n1.later I.lo I.bd,(I.next n1).set hm r1,kp n1⟩
   ·unfold mvP at h
    split at h
    ·rename_i j _
     split at h
     ·rename_i c
      cases h;rw[Bool.and_eq_true]at c;have q:Wb j π=some p:=q;unfold Wb at q;split at q
      ·rename_i p' q'
       cases q;obtain⟨d,fz',e1,l1,I1,k1⟩:=Zkl I c.1 hm q';refine⟨.nx (Zt ρ i d),st,fz',?_,l1,I1,k1⟩;show VG i (ZT j) ρ st=_;unfold VG ZT;simp only[e1]
      ·cases q
     ·cases h
    ·cases h
 ·cases h
theorem Zhs(hF:ZR F G)(i j:Nat)(e:CE):SX n0 M [i,j] (QM i j (ev F e)) (ZcR M i j e (pe G e)):=by
 intro π r h fz st ρ I;have kp:∀ {fz':Fz}{st':Za}{d d':D}{p p':P},Next fz st fz' st'→Kept M [i,j] π ρ st (Zp (Zp π i p) j p') (Zt (Zt ρ i d) j d') st':=fun {fz' st' d d' p p'} x k hk hm=>by
  have hki:k≠i:=fun z=>hk (by rw[z];exact List.mem_cons_self)
  have hkj:k≠j:=fun z=>hk (by rw[z];exact List.mem_cons_of_mem _ List.mem_cons_self)
  have:=Next.kept (T:=[i,j]) I x k hk hm;exact⟨(Zd hkj).trans (Zd hki),(Zd hkj).trans (Zd hki),this.2.2⟩
 unfold ZcR at h;split at h
 ·rename_i x y q
  split at h
  ·rename_i c
   cases h;rw[Bool.and_eq_true,Bool.and_eq_true]at c;have hi:M.contains i=false:=by simpa using c.1.1
   have hj:M.contains j=false:=by simpa using c.1.2
   obtain⟨d,st',fz',e1,n1,r1⟩:=ZE hF I q c.2;cases r1 with
   |tup rr=>
    cases rr with
    |cons a rr=>
     cases rr with
     |cons a' rr=>
      cases rr;exact⟨.nx _,st',fz',by unfold QM;rw[e1],n1.later I.lo I.bd,((I.next n1).set hi a).set hj a',kp n1⟩
  ·cases h
 ·cases h
theorem Zht(hF:ZR F G)(i j l:Nat)(e:CE):SX n0 M [i,j,l] (QN i j l (ev F e)) (ZcS M i j l e (pe G e)):=by
 intro π r h fz st ρ I;have kp:∀ {fz':Fz}{st':Za}{d d' d2:D}{p p' p2:P},Next fz st fz' st'→Kept M [i,j,l] π ρ st (Zp (Zp (Zp π i p) j p') l p2) (Zt (Zt (Zt ρ i d) j d') l d2) st':=fun {fz' st' d d' d2 p p' p2} x k hk hm=>by
  have hki:k≠i:=fun z=>hk (by rw[z];exact List.mem_cons_self)
  have hkj:k≠j:=fun z=>hk (by rw[z];exact List.mem_cons_of_mem _ List.mem_cons_self)
  have hkl:k≠l:=fun z=>hk (by rw[z];exact List.mem_cons_of_mem _ (List.mem_cons_of_mem _ List.mem_cons_self))
  have:=Next.kept (T:=[i,j,l]) I x k hk hm;exact⟨(Zd hkl).trans ((Zd hkj).trans (Zd hki)),(Zd hkl).trans ((Zd hkj).trans (Zd hki)),this.2.2⟩
 unfold ZcS at h;split at h
 ·rename_i x y z q
  split at h
  ·rename_i c
   cases h;rw[Bool.and_eq_true,Bool.and_eq_true,Bool.and_eq_true]at c;have hi:M.contains i=false:=by simpa using c.1.1.1
   have hj:M.contains j=false:=by simpa using c.1.1.2
   have hl:M.contains l=false:=by simpa using c.1.2
   obtain⟨d,st',fz',e1,n1,r1⟩:=ZE hF I q c.2;cases r1 with
   |tup rr=>
    cases rr with
    |cons a rr=>
     cases rr with
     |cons a' rr=>
      cases rr with
      |cons a2 rr=>
       cases rr;exact⟨.nx _,st',fz',by unfold QN;rw[e1],n1.later I.lo I.bd,(((I.next n1).set hi a).set hj a').set hl a2,kp n1⟩
  ·cases h
 ·cases h
theorem ZiJ(hF:ZR F G)(e:CE):SX n0 M [] (Q0 (ev F e)) (ZcC M e (pe G e)):=by
 intro π r h fz st ρ I;unfold ZcC at h;split at h
 ·rename_i p q
  split at h
  ·rename_i c
   cases h;obtain⟨d,st',fz',e1,n1,r1⟩:=ZE hF I q c;exact⟨.nx ρ,st',fz',by unfold Q0;rw[e1],n1.later I.lo I.bd,I.next n1,Next.kept I n1⟩
  ·cases h
 ·cases h
theorem ZiK(hF:ZR F G)(i:Nat)(e:CE):SX n0 M [i] (Zbr i (ev F e)) (ZcF M i e (pe G e)):=by
 intro π r h fz st ρ I;unfold ZcF at h;split at h
 ·rename_i xs q0
  split at h
  ·rename_i p q
   split at h
   ·rename_i c
    cases h;rw[Bool.and_eq_true,Bool.and_eq_true]at c;obtain⟨⟨hm,hk⟩,hz⟩:=c;have hz:=of_decide_eq_true hz;obtain⟨d,st',fz',e1,n1,r1⟩:=ZE hF I q hk;have I1:=I.next n1;obtain⟨j,ps,ds,f1,f2,f3,f4,f5,f6⟩:=I1.mt i _ hm q0;obtain⟨⟨_,rfl⟩,f0⟩:=f1.lst;obtain⟨I2,l2⟩:=I1.write hm q0 (.l rfl f0) f4 f5 (ZG f3) (f6.append (.cons r1 .nil));refine⟨.nx ρ,_,fz',?_,(n1.later I.lo I.bd).trans l2,I2,fun k hk2 hm2=>?_⟩
    ·unfold Zbr
     rw[f0];simp only[e1];unfold Zbp;simp only[f3];rw[if_pos (by rw[←f6.length];exact hz)]
    ·have hki:k≠i:=fun z=>hk2 (by rw[z];exact List.mem_singleton.mpr rfl)
     have kk:=Next.kept (T:=[i]) I n1 k hk2 hm2;refine⟨Zd hki,rfl,fun j' p' e e'=>?_⟩
     rw[←kk.2.2 j' p' e e',List.getElem?_set,if_neg (fun z=>hki (I.ne k i p' _ j hm2 hm e q0 (by rw[z];exact e') f2))]
   ·cases h
  ·cases h
 ·cases h
theorem ZiL(hF:ZR F G)(i:Nat)(e:CE):SX n0 M [i] (ZbN i (ev F e)) (ZcJ M i e (pe G e)):=by
 intro π r h fz st ρ I;unfold ZcJ at h;split at h
 ·rename_i xs q0
  split at h
  ·rename_i ys q
   split at h
   ·rename_i c
    cases h;rw[Bool.and_eq_true,Bool.and_eq_true]at c;obtain⟨⟨hm,hk⟩,hz⟩:=c;have hz:=of_decide_eq_true hz;obtain⟨d,st',fz',e1,n1,r1⟩:=ZE hF I q (show Zq M e _=true by unfold Zq;rw[hk,Bool.true_or])
    have I1:=I.next n1;obtain⟨j,ps,ds,f1,f2,f3,f4,f5,f6⟩:=I1.mt i _ hm q0;obtain⟨⟨_,rfl⟩,f0⟩:=f1.lst;cases r1 with
    |@lst jb _ _ db zb sb rb=>
     obtain⟨I2,l2⟩:=I1.write hm q0 (.l rfl f0) f4 f5 (ZG f3) (f6.append rb);refine⟨.nx ρ,_,fz',?_,(n1.later I.lo I.bd).trans l2,I2,fun k hk2 hm2=>?_⟩
     ·unfold ZbN
      rw[f0];simp only[e1];unfold Zf9;simp only[f3,sb];rw[if_pos (by rw[←f6.length,←rb.length];exact hz)]
     ·have hki:k≠i:=fun z=>hk2 (by rw[z];exact List.mem_singleton.mpr rfl)
      have kk:=Next.kept (T:=[i]) I n1 k hk2 hm2;refine⟨Zd hki,rfl,fun j' p' e e'=>?_⟩
      rw[←kk.2.2 j' p' e e',List.getElem?_set,if_neg (fun z=>hki (I.ne k i p' _ j hm2 hm e q0 (by rw[z];exact e') f2))]
   ·cases h
  ·cases h
 ·cases h
theorem ZiO(hF:ZR F G)(i:Nat)(e k:CE):SX n0 M [i] (ZcU i (ev F k) (ev F e)) (ZgG M i e (pe G k) (pe G e)):=by
 intro π r h fz st ρ I;unfold ZgG at h;split at h
 ·rename_i p q
  split at h
  ·rename_i xs q0
   split at h
   ·rename_i a qa
    split at h
    ·rename_i b qb
     split at h
     ·rename_i c
      cases h;rw[Bool.and_eq_true]at c;obtain⟨hm,hk⟩:=c;obtain⟨d,st',fz',e1,n1,r1⟩:=ZE hF I q hk;have I1:=I.next n1;obtain⟨d2,st2,fz2,e2,n2,r2⟩:=ZE hF I1 qa (by unfold Zq;rw[show noL (.int a)=true from rfl,Bool.or_true])
      cases r2;have I2:=I1.next n2;obtain⟨j,ps,ds,f1,f2,f3,f4,f5,f6⟩:=I2.mt i _ hm q0;obtain⟨⟨_,rfl⟩,f0⟩:=f1.lst;obtain⟨I3,l3⟩:=I2.write hm q0 (.l rfl f0) f4 f5 (ZG f3) (f6.set (r1.next n1.bd n2) b);refine⟨.nx ρ,_,fz2,?_,((n1.trans n2).later I.lo I.bd).trans l3,I3,fun k' hk2 hm2=>?_⟩
      ·unfold ZcU
       rw[e1];simp only[f0,e2];unfold UU;simp only[f3];rw[←f6.length,qb]
      ·have hki:k'≠i:=fun z=>hk2 (by rw[z];exact List.mem_singleton.mpr rfl)
       have kk:=Next.kept (T:=[i]) I (n1.trans n2) k' hk2 hm2;refine⟨Zd hki,rfl,fun j' p' e e'=>?_⟩
       rw[←kk.2.2 j' p' e e',List.getElem?_set,if_neg (fun z=>hki (I.ne k' i p' _ j hm2 hm e q0 (by rw[z];exact e') f2))]
     ·cases h
    ·cases h
   ·cases h
  ·cases h
 ·cases h
theorem ZiN(hF:ZR F G)(c:CE)(h1:SX n0 M T1 f1 g1)(h2:SX n0 M T2 f2 g2):SX n0 M (T1++T2) (VE (ev F c) f1 f2) (ZcK (pe G c) g1 g2):=by
 intro π r e fz st ρ I;have s1:∀ i,i∈T1→i∈T1++T2:=fun i h=>List.mem_append.mpr (.inl h)
 have s2:∀ i,i∈T2→i∈T1++T2:=fun i h=>List.mem_append.mpr (.inr h)
 unfold ZcK at e;split at e
 ·rename_i q
  obtain⟨d,st',fz',e1,n1,r1⟩:=ZE hF I q (by unfold Zq;rw[show noL (.bl true)=true from rfl,Bool.or_true])
  cases r1;obtain⟨r2,st2,fz2,e2,l2,R2,k2⟩:=h1 π r e fz' st' ρ (I.next n1);exact⟨r2,st2,fz2,by unfold VE;rw[e1];exact e2,(n1.later I.lo I.bd).trans l2,R2,KeptF.trans (T1:=T1) s1 s1 (Next.kept I n1) k2⟩
 ·rename_i q
  obtain⟨d,st',fz',e1,n1,r1⟩:=ZE hF I q (by unfold Zq;rw[show noL (.bl false)=true from rfl,Bool.or_true])
  cases r1;obtain⟨r2,st2,fz2,e2,l2,R2,k2⟩:=h2 π r e fz' st' ρ (I.next n1);exact⟨r2,st2,fz2,by unfold VE;rw[e1];exact e2,(n1.later I.lo I.bd).trans l2,R2,KeptF.trans (T1:=T2) s2 s2 (Next.kept I n1) k2⟩
 ·cases e
abbrev U0(n0:Nat)(M T:List Nat)(B:P→Zs→Option PFl)(B':D→Env→Za→Option (Fl×Za)):Prop:=∀ x d π r,B x π=some r→∀ fz st ρ,Inv n0 M fz st π ρ→Rel fz st x d→Xh n0 M T fz st π ρ (B' d ρ st) r
theorem Later.rels{fz fz':Fz}{st st':Za}{ps:List P}{ds:List D}(l:Later n0 fz st fz' st')(r:Rels fz st ps ds):Rels fz' st' ps ds:=r.mono l.sub l.frz
theorem XA{B:P→Zs→Option PFl}{B':D→Env→Za→Option (Fl×Za)}(h:U0 n0 M T B B'):∀ {xs:List P}{ds:List D}{π:Zs}{r:PFl}{fz:Fz}{st:Za}{ρ:Env},Inv n0 M fz st π ρ→Rels fz st xs ds→ZA B xs π=some r→Xh n0 M T fz st π ρ (Ya B' ds ρ st) r
 |_,_,π,r,fz,st,ρ,I,.nil,e=>by cases e;exact⟨.nx ρ,st,fz,rfl,Later.refl,I,Kept.refl⟩
 |x :: xs,d :: ds,π,r,fz,st,ρ,I,.cons a rs,e=>by
  unfold ZA at e;split at e
  ·rename_i π1 q
   obtain⟨r1,st1,fz1,e1,l1,R1,k1⟩:=h x d π _ q fz st ρ I a;cases r1 with
   |nx ρ1=>
    obtain⟨r2,st2,fz2,e2,l2,R2,k2⟩:=XA h (ρ:=ρ1) R1 (l1.rels rs) e;exact⟨r2,st2,fz2,by unfold Ya;rw[e1];exact e2,l1.trans l2,R2,KeptF.trans (fun _ z=>z) (fun _ z=>z) k1 k2⟩
   |_=>exact R1.elim
  ·rename_i π1 q
   obtain⟨r1,st1,fz1,e1,l1,R1,k1⟩:=h x d π _ q fz st ρ I a;cases r1 with
   |ct ρ1=>
    obtain⟨r2,st2,fz2,e2,l2,R2,k2⟩:=XA h (ρ:=ρ1) R1 (l1.rels rs) e;exact⟨r2,st2,fz2,by unfold Ya;rw[e1];exact e2,l1.trans l2,R2,KeptF.trans (fun _ z=>z) (fun _ z=>z) k1 k2⟩
   |_=>exact R1.elim
  ·rename_i π1 q
   cases e;obtain⟨r1,st1,fz1,e1,l1,R1,k1⟩:=h x d π _ q fz st ρ I a;cases r1 with
   |bk ρ1=>exact⟨.nx ρ1,st1,fz1,by unfold Ya;rw[e1],l1,R1,k1⟩
   |_=>exact R1.elim
  ·rename_i v q
   cases e;obtain⟨r1,st1,fz1,e1,l1,R1,k1⟩:=h x d π _ q fz st ρ I a;cases r1 with
   |rt d'=>exact⟨.rt d',st1,fz1,by unfold Ya;rw[e1],l1,R1,trivial⟩
   |_=>exact R1.elim
  ·cases e
theorem Jn{B':D→Env→Za→Option (Fl×Za)}{a n k:Nat}{ρ:Env}{st:Za}{m:Bool}{all:List D}{d:D}(h:st[a]?=some (m,all))(hk:all[k]?=some d):ZO B' a (n+1) k ρ st=(match B' d ρ st with
  |some (.nx ρ',st')=>ZO B' a n (k+1) ρ' st'
  |some (.ct ρ',st')=>ZO B' a n (k+1) ρ' st'
  |some (.bk ρ',st')=>some (.nx ρ',st')
  |some (.rt v,st')=>some (.rt v,st')
  |none=>none):=by
 rw[ZO];simp only[h,hk]<;>rfl
abbrev ZhD(n0:Nat)(M T:List Nat)(a:Nat)(m:Bool)(all:List D)(J:Fz→Za→Zs→Env→Prop):Prop:=
 (∀ fz st π ρ,J fz st π ρ→st[a]?=some (m,all))∧∀ fz st π ρ fz' st' π' ρ',Later n0 fz st fz' st'→Kept M T π ρ st π' ρ' st'→J fz st π ρ→J fz' st' π' ρ'
theorem XB{B:P→Zs→Option PFl}{B':D→Env→Za→Option (Fl×Za)}(h:U0 n0 M T B B'){a:Nat}{m:Bool}{all:List D}{J:Fz→Za→Zs→Env→Prop}(hJ:ZhD n0 M T a m all J):∀ {xs:List P}{ds:List D}{k:Nat}{π:Zs}{r:PFl}{fz:Fz}{st:Za}{ρ:Env},
   Inv n0 M fz st π ρ→J fz st π ρ→all.drop k=ds→Rels fz st xs ds→ZA B xs π=some r→Xh n0 M T fz st π ρ (ZO B' a ds.length k ρ st) r
 |_,_,k,π,r,fz,st,ρ,I,j,hd,.nil,e=>by
  cases e;refine⟨.nx ρ,st,fz,?_,Later.refl,I,Kept.refl⟩;show ZO B' a 0 k ρ st=_;unfold ZO;simp only[hJ.1 _ _ _ _ j];rw[if_pos (List.drop_eq_nil_iff.mp hd)]
 |x :: xs,d :: ds,k,π,r,fz,st,ρ,I,j,hd,.cons b rs,e=>by
  have hk:all[k]?=some d:=by
   have:=congrArg (fun l=>l[0]?) hd
   simpa using this
  have hd2:all.drop (k+1)=ds:=by
   have:=congrArg (fun l=>l.drop 1) hd
   simpa using this
  have start:∀ {y},B' d ρ st=some y→ZO B' a (d :: ds).length k ρ st=(match y with
    | (.nx ρ',st')=>ZO B' a ds.length (k+1) ρ' st'
    | (.ct ρ',st')=>ZO B' a ds.length (k+1) ρ' st'
    | (.bk ρ',st')=>some (.nx ρ',st')
    | (.rt v,st')=>some (.rt v,st')):=fun {y} ey=>by
   show ZO B' a (ds.length+1) k ρ st=_;rw[Jn (hJ.1 _ _ _ _ j) hk,ey];obtain⟨f,s⟩:=y;cases f<;>rfl
  unfold ZA at e;split at e
  ·rename_i π1 q
   obtain⟨r1,st1,fz1,e1,l1,R1,k1⟩:=h x d π _ q fz st ρ I b;cases r1 with
   |nx ρ1=>
    obtain⟨r2,st2,fz2,e2,l2,R2,k2⟩:=XB h hJ (ρ:=ρ1) R1 (hJ.2 _ _ _ _ _ _ _ _ l1 k1 j) hd2 (l1.rels rs) e;exact⟨r2,st2,fz2,by rw[start e1];exact e2,l1.trans l2,R2,KeptF.trans (fun _ z=>z) (fun _ z=>z) k1 k2⟩
   |_=>exact R1.elim
  ·rename_i π1 q
   obtain⟨r1,st1,fz1,e1,l1,R1,k1⟩:=h x d π _ q fz st ρ I b;cases r1 with
   |ct ρ1=>
    obtain⟨r2,st2,fz2,e2,l2,R2,k2⟩:=XB h hJ (ρ:=ρ1) R1 (hJ.2 _ _ _ _ _ _ _ _ l1 k1 j) hd2 (l1.rels rs) e;exact⟨r2,st2,fz2,by rw[start e1];exact e2,l1.trans l2,R2,KeptF.trans (fun _ z=>z) (fun _ z=>z) k1 k2⟩
   |_=>exact R1.elim
  ·rename_i π1 q
   cases e;obtain⟨r1,st1,fz1,e1,l1,R1,k1⟩:=h x d π _ q fz st ρ I b;cases r1 with
   |bk ρ1=>exact⟨.nx ρ1,st1,fz1,by rw[start e1],l1,R1,k1⟩
   |_=>exact R1.elim
  ·rename_i v q
   cases e;obtain⟨r1,st1,fz1,e1,l1,R1,k1⟩:=h x d π _ q fz st ρ I b;cases r1 with
   |rt d'=>exact⟨.rt d',st1,fz1,by rw[start e1],l1,R1,trivial⟩
   |_=>exact R1.elim
  ·cases e
theorem ZfB{i:Nat}(hi:M.contains i=false)(h:SX n0 M T f g):U0 n0 M (i :: T) (fun d π=>g (Zp π i d)) (fun d ρ s=>f (Zt ρ i d) s):=by
 intro x d π r e fz st ρ I a;obtain⟨r1,st1,fz1,e1,l1,R1,k1⟩:=h _ r e fz st _ (I.set hi a);refine⟨r1,st1,fz1,e1,l1,R1,?_⟩;refine KeptF.trans (T1:=i :: T) (T2:=T) (fun _ z=>z) (fun _ z=>List.mem_cons_of_mem _ z) (fun k hk hm=>?_) k1
 have hki:k≠i:=fun z=>hk (by rw[z];exact List.mem_cons_self)
 exact⟨Zd hki,Zd hki,fun _ _ _ _=>rfl⟩
theorem ZiF{i j l:Nat}(hi:M.contains i=false)(hj:M.contains j=false)(hl:M.contains l=false)(h:SX n0 M T f g):U0 n0 M (i :: j :: l :: T) (Ju i j l g) (Zhn i j l f):=by
 intro x d π r e fz st ρ I a;unfold Ju at e;split at e
 ·rename_i p q u
  cases a with
  |tup a=>
   cases a with
   |cons a1 a=>
    cases a with
    |cons a2 a=>
     cases a with
     |cons a3 a=>
      cases a;obtain⟨r1,st1,fz1,e1,l1,R1,k1⟩:=h _ r e fz st _ (((I.set hi a1).set hj a2).set hl a3);refine⟨r1,st1,fz1,e1,l1,R1,?_⟩;refine KeptF.trans (T1:=i :: j :: l :: T) (T2:=T) (fun _ z=>z) (fun _ z=>List.mem_cons_of_mem _ (List.mem_cons_of_mem _ (List.mem_cons_of_mem _ z))) (fun k hk hm=>?_) k1
      have hki:k≠i:=fun z=>hk (by rw[z];exact List.mem_cons_self)
      have hkj:k≠j:=fun z=>hk (by rw[z];exact List.mem_cons_of_mem _ List.mem_cons_self)
      have hkl:k≠l:=fun z=>hk (by rw[z];exact List.mem_cons_of_mem _ (List.mem_cons_of_mem _ List.mem_cons_self))
      exact⟨(Zd hkl).trans ((Zd hkj).trans (Zd hki)),(Zd hkl).trans ((Zd hkj).trans (Zd hki)),fun _ _ _ _=>rfl⟩
 ·cases e
theorem Zdn(hF:ZR F G){B:P→Zs→Option PFl}{B':D→Env→Za→Option (Fl×Za)}{e:CE}{m:Bool}{xs:List P}{T0:List Nat}(h:U0 n0 M T B B')(hT:∀ i,M.contains i=true→i∈T→i∈T0){fz:Fz}{st:Za}{π:Zs}{ρ:Env}{r:PFl}(I:Inv n0 M fz st π ρ)(q:pe G e π=some (.lst m xs))(c:Vv M T0 e xs=true)(el:ZA B xs π=some r):∃ a st1 mm ds,ev F e ρ st=some (.lst a,st1)∧st1[a]?=some (mm,ds)∧Xh n0 M T fz st π ρ (ZO B' a ds.length 0 ρ st1) r:=by
 have frozen:∀ {a:Nat}{st1:Za}{fz1:Fz}{ds:List D},ev F e ρ st=some (.lst a,st1)→Next fz st fz1 st1→fz1 a→st1[a]?=some (m,ds)→Rels fz1 st1 xs ds→∃ a st1 mm ds,ev F e ρ st=some (.lst a,st1)∧st1[a]?=some (mm,ds)∧Xh n0 M T fz st π ρ (ZO B' a ds.length 0 ρ st1) r:=fun {a st1 fz1 ds} e1 n1 hz hs rr=>by
  refine⟨a,st1,m,ds,e1,hs,?_⟩;obtain⟨r1,st2,fz2,e2,l2,R2,k2⟩:=XB h (a:=a) (m:=m) (all:=ds) (J:=fun fz st _ _=>fz a∧st[a]?=some (m,ds)) ⟨fun _ _ _ _ j=>j.2,fun _ _ _ _ _ _ _ _ l _ j=>⟨l.sub _ j.1,(l.frz _ j.1).trans j.2⟩⟩ (k:=0) (I.next n1) ⟨hz,hs⟩ rfl rr el
  exact⟨r1,st2,fz2,e2,(n1.later I.lo I.bd).trans l2,R2,KeptF.trans (T1:=T) (fun _ z=>z) (fun _ z=>z) (Next.kept I n1) k2⟩
 unfold Vv at c;rw[Bool.or_eq_true,Bool.or_eq_true]at c;rcases c with(c|c)|c
 ·obtain⟨d,st',fz',e1,n1,r1⟩:=ZE hF I q (by unfold Zq;rw[c];rfl)
  cases r1 with
  |lst hz hs rr=>exact frozen e1 n1 hz hs rr
 ·rw[Bool.and_eq_true]at c
  obtain⟨j,ds,st',fz1,e1,e2,n1,hn,hl,rr⟩:=Qc hF I q c.1 (by rw[c.2,Bool.or_true])
  have n2:Next fz st (fun i=>fz1 i∨i=j) st':=⟨n1.old,n1.len,fun i z=>.inl (n1.sub i z),fun i z=>z.elim (n1.new i) fun z=>.inr (by rw[z];exact hl),fun i z=>z.elim (n1.bd i) fun z=>by rw[z];exact ZG e2⟩
  exact frozen e1 n2 (.inr rfl) e2 (rr.mono (fun _ z=>.inl z) fun _ _=>rfl)
 ·split at c
  ·rename_i i
   have c:i∉T0:=by
    intro z;have:T0.contains i=true:=by simpa using z
    rw[this]at c;cases c
   have q:Wb i π=some (.lst m xs):=q;unfold Wb at q;split at q
   ·rename_i q0
    cases q;cases hm:M.contains i with
    |false=>
     obtain⟨d,st',fz',e1,n1,r1⟩:=ZE hF I (e:=.var i) (p:=.lst m xs) (by show Wb i π=_;unfold Wb;rw[q0]) (by show((!M.contains i)||_)=true;rw[hm];rfl)
     cases r1 with
     |lst hz hs rr=>exact frozen e1 n1 hz hs rr
    |true=>
     obtain⟨j,ps,ds,f1,f2,f3,f4,f5,f6⟩:=I.mt i _ hm q0;obtain⟨⟨rfl,rfl⟩,f0⟩:=f1.lst;refine⟨j,st,true,ds,by show ZT i ρ st=_;unfold ZT;rw[f0],f3,?_⟩
     obtain⟨r1,st2,fz2,e2,l2,R2,k2⟩:=XB h (a:=j) (m:=true) (all:=ds) (J:=fun fz st π ρ=>(∃ p,π[i]?=some (some p))∧Rf ρ[i]? j∧st[j]?=some (true,ds)) ⟨fun _ _ _ _ j=>j.2.2,fun _ _ _ _ _ _ _ _ l k jj=>by
      obtain⟨⟨p,jp⟩,j2,j3⟩:=jj;obtain⟨k1,k2,k3⟩:=k i (fun z=>c (hT i hm z)) hm
      exact⟨⟨p,k1.trans jp⟩,by rw[k2];exact j2,(k3 j p jp j2).trans j3⟩⟩ (k:=0) I ⟨⟨_,q0⟩,f2,f3⟩ rfl f6 el
     exact⟨r1,st2,fz2,e2,l2,R2,k2⟩
   ·cases q
  ·cases c
theorem ZiM(hF:ZR F G){i:Nat}{rng:Bool}{e:CE}(h:SX n0 M T f g):SX n0 M (i :: T) (Qf i rng (ev F e) f) (UI M T i rng e (pe G e) g):=by
 intro π r hp fz st ρ I;unfold UI at hp;split at hp
 ·rename_i x q
  split at hp
  ·rename_i xs qi
   split at hp
   ·rename_i c
    rw[Bool.and_eq_true]at c;have hi:M.contains i=false:=by simpa using c.1
    have kp:Zq M e x=true:=by
     cases rng with
     |false=>simpa using c.2
     |true=>
      cases x with
      |int n=>unfold Zq;rw[show noL (.int n)=true from rfl,Bool.or_true]
      |_=>cases qi
    obtain⟨d,st',fz',e1,n1,r1⟩:=ZE hF I q kp;obtain⟨ds,e2,r2⟩:=VW r1 qi;obtain⟨r3,st3,fz3,e3,l3,R3,k3⟩:=XA (ZfB hi h) (I.next n1) r2 hp;exact⟨r3,st3,fz3,by unfold Qf;rw[e1];simp only[e2];exact e3,(n1.later I.lo I.bd).trans l3,R3,KeptF.trans (T1:=i :: T) (fun _ z=>z) (fun _ z=>z) (Next.kept I n1) k3⟩
   ·cases hp
  ·split at hp
   ·rename_i m xs _
    split at hp
    ·rename_i c
     rw[Bool.and_eq_true]at c;have hi:M.contains i=false:=by simpa using c.1
     obtain⟨a,st1,mm,ds,e1,e2,r3,st3,fz3,e3,l3,R3,k3⟩:=Zdn hF (ZfB hi h) (T0:=T) (fun k hk hm=>by
      rcases List.mem_cons.mp hm with z|z
      ·rw[z]at hk;rw[hi]at hk;cases hk
      ·exact z) I q c.2 hp
     refine⟨r3,st3,fz3,?_,l3,R3,k3⟩;unfold Qf;rw[e1];simp only[Xq,e2];exact e3
    ·cases hp
   ·cases hp
 ·cases hp
theorem Zhp(hF:ZR F G){i j l:Nat}{e:CE}(h:SX n0 M T f g):SX n0 M (i :: j :: l :: T) (Qd i j l (ev F e) f) (QA M i j l e (pe G e) g):=by
 intro π r hp fz st ρ I;unfold QA at hp;split at hp
 ·rename_i xs q
  split at hp
  ·rename_i c
   rw[Bool.and_eq_true,Bool.and_eq_true,Bool.and_eq_true]at c;have hi:M.contains i=false:=by simpa using c.1.1.1
   have hj:M.contains j=false:=by simpa using c.1.1.2
   have hl:M.contains l=false:=by simpa using c.1.2
   obtain⟨d,st',fz',e1,n1,r1⟩:=ZE hF I q c.2;cases r1 with
   |tup r2=>
    obtain⟨r3,st3,fz3,e3,l3,R3,k3⟩:=XA (ZiF hi hj hl h) (I.next n1) r2 hp;exact⟨r3,st3,fz3,by unfold Qd;rw[e1];exact e3,(n1.later I.lo I.bd).trans l3,R3,KeptF.trans (T1:=i :: j :: l :: T) (fun _ z=>z) (fun _ z=>z) (Next.kept I n1) k3⟩
  ·cases hp
 ·cases hp
inductive RelsQ(fz:Fz)(st:Za):List (P×P)→List (D×D)→Prop where
 |nil:RelsQ fz st [] []
 |cons {p:P×P}{d:D×D}{ps:List (P×P)}{ds:List (D×D)} (h1:Rel fz st p.1 d.1) (h2:Rel fz st p.2 d.2) (r:RelsQ fz st ps ds):RelsQ fz st (p :: ps) (d :: ds)
theorem RelsQ.zip{fz:Fz}{st:Za}:∀ {xs ys:List P}{ds es:List D},Rels fz st xs ds→Rels fz st ys es→RelsQ fz st (xs.zip ys) (ds.zip es)
 |_,_,_,_,.nil,_=>.nil
 |_,_,_,_,.cons _ _,.nil=>.nil
 |_,_,_,_,.cons a r,.cons b s=>.cons a b (RelsQ.zip r s)
theorem RelsQ.mono{fz fz':Fz}{st st':Za}(l:Later n0 fz st fz' st'):∀ {ps:List (P×P)}{ds:List (D×D)},RelsQ fz st ps ds→RelsQ fz' st' ps ds
 |_,_,.nil=>.nil
 |_,_,.cons a b r=>.cons (a.mono l.sub l.frz) (b.mono l.sub l.frz) (RelsQ.mono l r)
theorem YX{i j:Nat}(hi:M.contains i=false)(hj:M.contains j=false)(h:SX n0 M T f g){ok:Za→Prop}:∀ {xs:List (P×P)}{ds:List (D×D)}{π:Zs}{r:PFl}{fz:Fz}{st:Za}{ρ:Env},Inv n0 M fz st π ρ→RelsQ fz st xs ds→(∀ fz' st',Later n0 fz st fz' st'→ok st')→
  Yy (fun x y π=>g (Zp (Zp π i x) j y)) xs π=some r→Xh n0 M (i :: j :: T) fz st π ρ (Yp ok (fun x y ρ s=>f (Zt (Zt ρ i x) j y) s) ds ρ st) r
 |_,_,π,r,fz,st,ρ,I,.nil,hok,e=>by cases e;exact⟨.nx ρ,st,fz,if_pos (hok _ _ Later.refl),Later.refl,I,Kept.refl⟩
 |x :: xs,d :: ds,π,r,fz,st,ρ,I,.cons a b rs,hok,e=>by
  have ok0:=hok _ _ Later.refl;have tr:∀ {r1:PFl},g (Zp (Zp π i x.1) j x.2)=some r1→Xh n0 M (i :: j :: T) fz st π ρ (f (Zt (Zt ρ i d.1) j d.2) st) r1:=fun {r1} q=>by
   obtain⟨r2,st2,fz2,e2,l2,R2,k2⟩:=h _ _ q fz st _ ((I.set hi a).set hj b);refine⟨r2,st2,fz2,e2,l2,R2,?_⟩;have kp:Kept M (i :: j :: T) π ρ st (Zp (Zp π i x.1) j x.2) (Zt (Zt ρ i d.1) j d.2) st:=fun k hk hm=>by
    have hki:k≠i:=fun z=>hk (by rw[z];exact List.mem_cons_self)
    have hkj:k≠j:=fun z=>hk (by rw[z];exact List.mem_cons_of_mem _ List.mem_cons_self)
    exact⟨(Zd hkj).trans (Zd hki),(Zd hkj).trans (Zd hki),fun _ _ _ _=>rfl⟩
   exact KeptF.trans (T1:=i :: j :: T) (T2:=T) (fun _ z=>z) (fun _ z=>List.mem_cons_of_mem _ (List.mem_cons_of_mem _ z)) kp k2
  unfold Yy at e;split at e
  ·rename_i π1 q
   obtain⟨r1,st1,fz1,e1,l1,R1,k1⟩:=tr q;cases r1 with
   |nx ρ1=>
    obtain⟨r2,st2,fz2,e2,l2,R2,k2⟩:=YX hi hj h (ρ:=ρ1) R1 (rs.mono l1) (fun _ _ l=>hok _ _ (l1.trans l)) e
    exact⟨r2,st2,fz2,by unfold Yp;rw[if_pos ok0];simp only[e1];exact e2,l1.trans l2,R2,KeptF.trans (fun _ z=>z) (fun _ z=>z) k1 k2⟩
   |_=>exact R1.elim
  ·rename_i π1 q
   obtain⟨r1,st1,fz1,e1,l1,R1,k1⟩:=tr q;cases r1 with
   |ct ρ1=>
    obtain⟨r2,st2,fz2,e2,l2,R2,k2⟩:=YX hi hj h (ρ:=ρ1) R1 (rs.mono l1) (fun _ _ l=>hok _ _ (l1.trans l)) e
    exact⟨r2,st2,fz2,by unfold Yp;rw[if_pos ok0];simp only[e1];exact e2,l1.trans l2,R2,KeptF.trans (fun _ z=>z) (fun _ z=>z) k1 k2⟩
   |_=>exact R1.elim
  ·rename_i π1 q
   cases e;obtain⟨r1,st1,fz1,e1,l1,R1,k1⟩:=tr q;cases r1 with
   |bk ρ1=>exact⟨.nx ρ1,st1,fz1,by unfold Yp;rw[if_pos ok0];simp only[e1],l1,R1,k1⟩
   |_=>exact R1.elim
  ·rename_i v q
   cases e;obtain⟨r1,st1,fz1,e1,l1,R1,k1⟩:=tr q;cases r1 with
   |rt d'=>exact⟨.rt d',st1,fz1,by unfold Yp;rw[if_pos ok0];simp only[e1],l1,R1,trivial⟩
   |_=>exact R1.elim
  ·cases e
theorem Zhr(hF:ZR F G){i j:Nat}{e:CE}(h:SX n0 M T f g):SX n0 M (i :: j :: T) (Qe i j (ev F e) f) (QC M i j e (pe G e) g):=by
 intro π r hp fz st ρ I;unfold QC at hp;split at hp
 ·rename_i m1 xs m2 ys q
  split at hp
  ·rename_i c
   rw[Bool.and_eq_true,Bool.and_eq_true]at c;have hi:M.contains i=false:=by simpa using c.1.1
   have hj:M.contains j=false:=by simpa using c.1.2
   obtain⟨d,st',fz',e1,n1,r1⟩:=ZE hF I q (show Zq M e _=true by unfold Zq;rw[c.2,Bool.true_or])
   cases r1 with
   |tup rr=>
    cases rr with
    |cons a rr=>
     cases rr with
     |cons b rr=>
      cases rr;cases a with
      |@lst ja _ _ da za sa ra=>
       cases b with
       |@lst jb _ _ db zb sb rb=>
        obtain⟨r3,st3,fz3,e3,l3,R3,k3⟩:=YX (ok:=fun s=>s[ja]?=some (m1,da)∧s[jb]?=some (m2,db)) hi hj h (I.next n1) (RelsQ.zip ra rb) (fun fz2 st2 l=>⟨(l.frz ja za).trans sa,(l.frz jb zb).trans sb⟩) hp
        exact⟨r3,st3,fz3,by unfold Qe;rw[e1];simp only[sa,sb];exact e3,(n1.later I.lo I.bd).trans l3,R3,KeptF.trans (T1:=i :: j :: T) (fun _ z=>z) (fun _ z=>z) (Next.kept I n1) k3⟩
  ·cases hp
 ·cases hp
theorem RelsQ.enum{fz:Fz}{st:Za}:∀ {xs:List P}{ds:List D}{k:Nat},Rels fz st xs ds→RelsQ fz st (Wt k xs) (VO k ds)
 |_,_,_,.nil=>.nil
 |_,_,k,.cons a r=>.cons (.int _) a (RelsQ.enum r)
theorem Zhq(hF:ZR F G){i j:Nat}{e:CE}(h:SX n0 M T f g):SX n0 M (i :: j :: T) (VU i j (ev F e) f) (QB M i j e (pe G e) g):=by
 intro π r hp fz st ρ I;unfold QB at hp;split at hp
 ·rename_i x q
  split at hp
  ·rename_i xs hw
   split at hp
   ·rename_i c
    rw[Bool.and_eq_true,Bool.and_eq_true]at c;have hi:M.contains i=false:=by simpa using c.1.1
    have hj:M.contains j=false:=by simpa using c.1.2
    obtain⟨d,st',fz',e1,n1,r1⟩:=ZE hF I q (show Zq M e _=true by unfold Zq;rw[c.2,Bool.true_or])
    cases r1 with
    |tup rr=>
     cases hw;obtain⟨r3,st3,fz3,e3,l3,R3,k3⟩:=YX (ok:=fun _=>True) hi hj h (I.next n1) (RelsQ.enum rr) (fun _ _ _=>trivial) hp
     exact⟨r3,st3,fz3,by unfold VU;rw[e1];exact e3,(n1.later I.lo I.bd).trans l3,R3,KeptF.trans (T1:=i :: j :: T) (fun _ z=>z) (fun _ z=>z) (Next.kept I n1) k3⟩
    |@lst ja m1 _ da za sa ra=>
     cases hw;obtain⟨r3,st3,fz3,e3,l3,R3,k3⟩:=YX (ok:=fun s=>s[ja]?=some (m1,da)) hi hj h (I.next n1) (RelsQ.enum ra) (fun fz2 st2 l=>(l.frz ja za).trans sa) hp
     exact⟨r3,st3,fz3,by unfold VU ZfD;rw[e1];simp only[sa];exact e3,(n1.later I.lo I.bd).trans l3,R3,KeptF.trans (T1:=i :: j :: T) (fun _ z=>z) (fun _ z=>z) (Next.kept I n1) k3⟩
    |_=>cases hw
   ·cases hp
  ·cases hp
 ·cases hp
theorem Z1(hF:ZR F G):∀ s:CS,SX n0 M (ZM s) (ex F s) (px G M s)
 |.skip=>fun π r e fz st ρ I=>by cases e;exact⟨.nx ρ,st,fz,rfl,Later.refl,I,Kept.refl⟩
 |.brk=>fun π r e fz st ρ I=>by cases e;exact⟨.bk ρ,st,fz,rfl,Later.refl,I,Kept.refl⟩
 |.cont=>fun π r e fz st ρ I=>by cases e;exact⟨.ct ρ,st,fz,rfl,Later.refl,I,Kept.refl⟩
 |.stop=>fun π r e=>nomatch (show(none:Option PFl)=some r from e)
 |.app2 _ _=>fun π r e=>nomatch (show(none:Option PFl)=some r from e)
 |.set3 i j l e=>Zht hF i j l e
 |.act e=>ZiJ hF e
 |.seq a b=>ZiQ (Z1 hF a) (Z1 hF b)
 |.ret e=>ZiP hF e
 |.set i e=>ZiR hF i e
 |.set2 i j e=>Zhs hF i j e
 |.app i e=>ZiK hF i e
 |.ext i e=>ZiL hF i e
 |.put i k e=>ZiO hF i e k
 |.dput _ _ _ _=>fun _ r e=>nomatch (show(none:Option PFl)=some r from e)
 |.ite c a b=>ZiN hF c (Z1 hF a) (Z1 hF b)
 |.for1 i rng it b=>ZiM hF (Z1 hF b)
 |.forP i j it b=>Zhr hF (Z1 hF b)
 |.forE i j it b=>Zhq hF (Z1 hF b)
 |.for3 _ _ _=>fun _ r e=>nomatch (show(none:Option PFl)=some r from e)
 |.for4 i j l it b=>Zhp hF (Z1 hF b)
 |.for2 _ _ _ _=>fun _ r e=>nomatch (show(none:Option PFl)=some r from e)
 |.whl _ _=>fun _ r e=>nomatch (show(none:Option PFl)=some r from e)
end
theorem Rels.back{fz:Fz}{st:Za}{ps:List P}{ds:List D}{i:Nat}{d:D}(r:Rels fz st ps ds)(e:ds[i]?=some d):∃ p,ps[i]?=some p:=by
 have h:=ZG e;rw[←r.length]at h;exact⟨_,List.getElem?_eq_getElem h⟩
theorem inv_start{f:FD}{ps:List P}{fz:Fz}{st:Za}{ds:List D}(c:(Zz f.body).all (fun i=>decide (ps.length≤i))=true)(b:Bd fz st)(r:Rels fz st ps ds) :
  Inv st.length (Zz f.body) fz st (ps.map some++List.replicate (f.ns - ps.length) none) (ds.map some++List.replicate (f.ns - ds.length) none):=by
 have slot:∀ (i:Nat) (q:P),(ps.map some++List.replicate (f.ns - ps.length) none:Zs)[i]?=some (some q)→i < ps.length∧ps[i]?=some q:=fun i q h=>by
  by_cases hi:i < ps.length
  ·rw[List.getElem?_append_left (by simpa using hi),List.getElem?_map]at h
   refine⟨hi,?_⟩;cases z:ps[i]? with
   |none=>rw[z]at h;cases h
   |some y=>rw[z]at h;cases h;rfl
  ·rw[List.getElem?_append_right (by simpa using hi),List.getElem?_replicate]at h
   split at h<;>cases h
 have noM:∀ (i:Nat),i < ps.length→(Zz f.body).contains i=false:=fun i hi=>by
  cases z:(Zz f.body).contains i with
  |false=>rfl
  |true=>
   have:=List.all_eq_true.mp c i (by simpa using z)
   have:=of_decide_eq_true this;omega
 refine⟨b,Nat.le_refl _,by simp[r.length],fun i q hi h=>?_,fun i q hi h=>?_,fun i i' q q' j hi hi' h h' _ _=>?_⟩
 ·obtain⟨h1,h2⟩:=slot i q h
  obtain⟨d,e1,r1⟩:=r.get h2;refine⟨d,?_,r1⟩;rw[List.getElem?_append_left (by simpa[←r.length] using h1),List.getElem?_map,e1]
  rfl
 ·rw[noM i (slot i q h).1]at hi;cases hi
 ·rw[noM i (slot i q h).1]at hi;cases hi
theorem Zgd{F:Nat→Fn}{G:PFn}(hF:ZR F G)(f:FD){ps:List P}{p:P}(e:fnP G f ps=some p){fz:Fz}{st:Za}{ds:List D}(b:Bd fz st)(r:Rels fz st ps ds):Gives fz st (fnD F f ds st) p:=by
 unfold fnP at e;split at e
 ·rename_i c
  have I:Inv st.length (Zz f.body) fz st (ps.map some++List.replicate (f.ns - ps.length) none) (ds.map some++List.replicate (f.ns - ds.length) none):=inv_start (by rw[c.1];exact c.2) b r
  have hd:ds.length=f.ps:=by rw[←r.length];exact c.1
  split at e
  ·rename_i d q
   cases e;obtain⟨r1,st1,fz1,e1,l1,R1,k1⟩:=Z1 (n0:=st.length) hF f.body _ _ q fz st _ I;cases r1 with
   |rt d'=>exact⟨d',st1,fz1,by unfold fnD;rw[if_pos hd,e1],⟨l1.low,l1.len,l1.sub,l1.new,R1.2⟩,R1.1⟩
   |_=>exact R1.elim
  ·rename_i π' q
   cases e;obtain⟨r1,st1,fz1,e1,l1,R1,k1⟩:=Z1 (n0:=st.length) hF f.body _ _ q fz st _ I;cases r1 with
   |nx ρ'=>exact⟨.non,st1,fz1,by unfold fnD;rw[if_pos hd,e1],⟨l1.low,l1.len,l1.sub,l1.new,R1.bd⟩,.non⟩
   |_=>exact R1.elim
  ·cases e
 ·cases e
theorem V3{T:Nat→Option FD}{n i:Nat}{f:FD}(q:T i=some f):Zg T (n+1) i=if (Va i&&!Vi f)=true then fun _=>none else fnP (Zg T n) f:=by
 show(match T i with|some f=>if (Va i&&!Vi f)=true then (fun _=>none) else fnP (Zg T n) f|none=>fun _=>none)=_
 rw[q]
theorem Za8{T:Nat→Option FD}{n i:Nat}(q:T i=none):Zg T (n+1) i=fun _=>none:=by
 show(match T i with|some f=>if (Va i&&!Vi f)=true then (fun _=>none) else fnP (Zg T n) f|none=>fun _=>none)=_
 rw[q]
theorem Zc3{T:Nat→Option FD}{n i:Nat}{f:FD}(q:T i=some f):run T (n+1) i=fnD (run T n) f:=by
 show(match T i with|some f=>fnD (run T n) f|none=>fun _ _=>none)=_
 rw[q]
theorem Zal(T:Nat→Option FD):∀ n,ZR (run T n) (Zg T n)
 |0=>⟨(fun i ps p e=>nomatch (show(none:Option P)=some p from e)),(fun i _ ps m xs e=>nomatch (show(none:Option P)=some (.lst m xs) from e))⟩
 |n+1=>by
  refine⟨fun i ps p e fz st ds b r=>?_,fun i hi ps m xs e fz st ds b r=>?_⟩
  ·cases q:T i with
   |none=>rw[Za8 q]at e;cases e
   |some f=>
    rw[V3 q]at e;rw[Zc3 q];split at e
    ·cases e
    ·exact Zgd (Zal T n) f e b r
  ·cases hi
theorem Zee{T:Nat→Option FD}{n i:Nat}{ns:List Int}(h:Zg T n i [.lst false (ns.map .int)]=some (.bl true)):∃ st',run T n i [.lst 0] [(false,ns.map .int)]=some (.bl true,st'):=by
 have r:∀ ns:List Int,Rels (fun i=>i=0) [(false,(ns.map D.int))] [] []:=fun _=>.nil
 have rs:∀ (st:Za) (ns:List Int),Rels (fun i=>i=0) st (ns.map P.int) (ns.map D.int):=fun st ns=>by
  induction ns with
  |nil=>exact .nil
  |cons a l ih=>exact .cons (.int a) ih
 obtain⟨d,st',fz',e1,n1,r1⟩:=(Zal T n).1 i _ _ h (fun i=>i=0) [(false,ns.map D.int)] [.lst 0] (fun i hi=>by rw[hi];exact Nat.zero_lt_one) (.cons (.lst rfl rfl (rs _ ns)) .nil)
 cases r1;exact⟨st',e1⟩
end Dp



namespace Dp
open PySem PySem.Spec PyProof.Rows L2
variable [ClsTab]
theorem Zjz{α:Type}:∀ {us:List α},us.length=0→us=[]
 |[],_=>rfl
theorem Zh7{α:Type}:∀ {us:List α},us.length=1→∃ a,us=[a]
 |[a],_=>⟨a,rfl⟩
theorem Zeg{α:Type}:∀ {us:List α},us.length=2→∃ a b,us=[a,b]
 |[a,b],_=>⟨a,b,rfl⟩
theorem ZaY{α:Type}:∀ {us:List α},us.length=3→∃ a b c,us=[a,b,c]
 |[a,b,c],_=>⟨a,b,c,rfl⟩
theorem ZjA{α:Type}:∀ {us:List α},us.length=4→∃ a b c d,us=[a,b,c,d]
 |[a,b,c,d],_=>⟨a,b,c,d,rfl⟩
theorem ZjB{α:Type}:∀ {us:List α},us.length=5→∃ a b c d e,us=[a,b,c,d,e]
 |[a,b,c,d,e],_=>⟨a,b,c,d,e,rfl⟩
theorem ZjC{α:Type}:∀ {us:List α},us.length=6→∃ a b c d e f,us=[a,b,c,d,e,f]
 |[a,b,c,d,e,f],_=>⟨a,b,c,d,e,f,rfl⟩
def XM(K:PySem.W.Frag)(G:Gs)(T:Nat→Option FD)(C:Addr):List (Str×Nat×Nat)→Prop
 |[]=>True
 | (m,j,_) :: r=>(∃ y f fd pn N,MethOk K G T C m y j f fd pn N)∧XM K G T C r
def XN(K:PySem.W.Frag)(B:Addr):List Nat→Prop
 |[]=>True
 |i :: r=>SubOk K (ClsTab.ca i) B∧XN K B r
def YQ(Pm:Params)(K:PySem.W.Frag)(mg:Str→Option Value)(G:Gs)(T:Nat→Option FD):Gs→Prop
 |[]=>True
 | (x,.cst d) :: r=>(∃ v u,mg x=some u∧RelV v u∧∀ ad H,Den K ad H v d)∧YQ Pm K mg G T r
 | (x,.blt) :: r=>mg x=none∧YQ Pm K mg G T r
 | (x,.dct ks ds) :: r=>JK Pm K mg x ks ds∧YQ Pm K mg G T r
 | (x,.fn i _ ds) :: r=>(∃ f fd pn N,DefOk K mg G T x i ds f fd pn N)∧YQ Pm K mg G T r
 | (x,.cls i ms subs) :: r=>((mg x=some (.ref (ClsTab.ca i))∧NewOk K (ClsTab.ca i)∧XN K (ClsTab.ca i) subs)∧XM K G T (ClsTab.ca i) ms)∧YQ Pm K mg G T r
section
variable {P:Program}{w:World}{K:PySem.W.Frag}{mg:Str→Option Value}{base:Heap}{G:Gs}{T:Nat→Option FD}
def ZfE(Pm:Params)(K:PySem.W.Frag)(mg:Str→Option Value)(G:Gs)(T:Nat→Option FD)(x:Str):GV→Prop
 |.cst d=>∃ v u,mg x=some u∧RelV v u∧∀ ad H,Den K ad H v d
 |.blt=>mg x=none
 |.dct ks ds=>JK Pm K mg x ks ds
 |.fn i _ ds=>∃ f fd pn N,DefOk K mg G T x i ds f fd pn N
 |.cls i ms subs=>(mg x=some (.ref (ClsTab.ca i))∧NewOk K (ClsTab.ca i)∧XN K (ClsTab.ca i) subs)∧XM K G T (ClsTab.ca i) ms
theorem YV{Pm:Params}:∀ {l:Gs}{x:Str}{g:GV},YQ Pm K mg G T l→l.lookup x=some g→ZfE Pm K mg G T x g
 |[],_,_,_,h=>by cases h
 | (y,v) :: r,x,g,a,h=>by
  have tl:YQ Pm K mg G T r∧ZfE Pm K mg G T y v:=by
   cases v with
   |cst d=>exact⟨a.2,a.1⟩
   |blt=>exact⟨a.2,a.1⟩
   |dct ks ds=>exact⟨a.2,a.1⟩
   |fn i ps ds=>exact⟨a.2,a.1⟩
   |cls i ms subs=>exact⟨a.2,a.1⟩
  rw[List.lookup_cons]at h;cases e:x==y with
  |true=>
   rw[e]at h;cases h;rw[beq_iff_eq.mp e];exact tl.2
  |false=>
   rw[e]at h;exact YV tl.1 h
theorem Zan{B:Addr}:∀ {l:List Nat},XN K B l→∀ i,l.contains i=true→SubOk K (ClsTab.ca i) B
 |[],_,_,h=>by cases h
 |j :: r,a,i,h=>by
  rw[List.contains_cons,Bool.or_eq_true]at h;rcases h with h|h
  ·rw[beq_iff_eq.mp h];exact a.1
  ·exact Zan a.2 i h
theorem Qs{C:Addr}:∀ {l:List (Str×Nat×Nat)},XM K G T C l→∀ m j ps,l.lookup m=some (j,ps)→∃ y f fd pn N,MethOk K G T C m y j f fd pn N
 |[],_,_,_,_,h=>by cases h
 | (m',j',ps') :: r,a,m,j,ps,h=>by
  rw[List.lookup_cons]at h;cases e:m==m' with
  |true=>
   rw[e]at h;cases h;rw[beq_iff_eq.mp e];exact a.1
  |false=>
   rw[e]at h;exact Qs a.2 m j ps h
theorem Zfa{Pm:Params}(h:YQ Pm K mg G T G):Text Pm K mg G T:=
 ⟨fun _ _ e=>YV h e,fun _ e=>YV h e,fun _ _ _ e=>YV h e,fun _ _ _ _ e=>YV h e,fun x i ms subs e=>by
  have g:ZfE Pm K mg G T x (.cls i ms subs):=YV h e;exact⟨⟨g.1.1,g.1.2.1,Zan g.1.2.2⟩,Qs g.2⟩⟩
theorem Zf4(hc:∀ n,Yu G (run T n))(X:Text w.params K mg G T)(n:Nat){x:Str}{i:Nat}{ds:List D}{f:Addr}{fd:FuncData}{pn N:List Str}(Dk:DefOk K mg G T x i ds f fd pn N):FnOk P w K mg base CX0 n f fd pn (spD K (run T n i)):=ZfP hc X n Dk.ob
theorem Zhf{H:Hp}{a:Addr}{ns:List Int}{n i:Nat}(hO:Only H)(hS:SqL K H a (ns.map V.int))(h:∃ st',run T n i [.lst 0] [(false,ns.map .int)]=some (.bl true,st')):spD K (run T n i) [.ref a] H (fun v _=>v=.bl true) fun _ _ _=>False:=by
 obtain⟨st',e⟩:=h;have ds:∀ ns:List Int,Dens K [a] H (ns.map V.int) (ns.map D.int):=fun ns=>by
  induction ns with
  |nil=>exact .nil
  |cons n l ih=>exact .cons (.int n) ih
 have nT:¬Yv H a:=fun⟨kvs,q⟩=>by
  rcases hO a with z|⟨o,xs,z⟩<;>(rw[q]at z;cases z)
 refine⟨[a],[.lst 0],[(false,ns.map .int)],.bl true,st',⟨rfl,fun i j b c d _ _ h3 _=>?_,fun i c hc=>?_⟩,.cons (.lst ⟨rfl,nT⟩) .nil,e,fun v ad' H' x S h=>h.ofBl⟩
 ·cases i with
  |zero=>simp at h3
  |succ i=>simp at h3
 ·cases i with
  |succ i=>simp at hc
  |zero=>
   have hc:(false,ns.map D.int)=c:=by simpa using hc
   subst hc;refine⟨a,rfl,.l nT (ds ns) (.inr ⟨rfl,?_⟩)⟩;rcases hS with(h|⟨o,h⟩)|⟨o,its,n,h1,h2,h3,h4,h5,h6⟩
   ·rcases hO a with z|⟨o,xs,z⟩
    ·rw[h]at z;cases z
    ·rw[h]at z;cases z
   ·exact .inl ⟨o,h⟩
   ·exact .inr ⟨o,its,n,⟨h1,h2⟩,⟨h3,h4⟩,h5,h6⟩
end
noncomputable abbrev fnS(x y:Str)(s:Stmt)(dV kV dc pm:Value)(an:Option Addr)(cd ct:Value):FuncData:=PySem.W.fnOf x y (defArgs s) (defBody s) (defScope s) dV kV dc pm an cd ct
inductive FnAt(K:PySem.W.Frag)(x:Str)(s:Stmt):Prop
 |mk {f:Addr}{oc kV dc pm cd ct:Value}{od an:Option Addr}{sl:Array (Option Value)} (a:PySem.W.nsIn K mainGlobals x=some (some (.ref f))) (l:K.lookup f=some ⟨oc,od,.func (PySem.W.fnOf x x (defArgs s) (defBody s) (defScope s) .none kV dc pm an cd ct),sl⟩) (e:PySem.W.codeIn K cd x=true) (k:PySem.W.keepIn K (.ref f)=true):FnAt K x s
inductive FnAtE(K:PySem.W.Frag)(x:Str)(s:Stmt)(v:Int):Prop
 |mk {f E:Addr}{eo:Obj}{en:Nat}{et:Tok}{oc kV dc pm cd ct:Value}{od an:Option Addr}{sl:Array (Option Value)} (a:PySem.W.nsIn K mainGlobals x=some (some (.ref f))) (l:K.lookup f=some ⟨oc,od,.func (PySem.W.fnOf x x (defArgs s) (defBody s) (defScope s) (.ref E) kV dc pm an cd ct),sl⟩) (e:PySem.W.codeIn K cd x=true) (k:PySem.W.keepIn K (.ref f)=true) (d:K.lookup E=some eo) (g:eo.data=.seq #[.int v et] en):FnAtE K x s v
inductive MtAt(K:PySem.W.Frag)(C:Addr)(x y:Str)(s:Stmt):Prop
 |mk {f:Addr}{oc kV dc pm cd ct:Value}{od an:Option Addr}{sl:Array (Option Value)} (m:PySem.W.findIn K (.ref C) x=some (some (.ref f))) (l:K.lookup f=some ⟨oc,od,.func (PySem.W.fnOf x y (defArgs s) (defBody s) (defScope s) .none kV dc pm an cd ct),sl⟩) (e:PySem.W.codeIn K cd y=true) (k:PySem.W.keepIn K (.ref f)=true) (i:PySem.W.isFn K (.ref f)=true):MtAt K C x y s
structure ClsAt(K:PySem.W.Frag)(x:Str)(C:Addr):Prop where
 ya:PySem.W.nsIn K mainGlobals x=some (some (.ref C))
 yb:PySem.W.makesIn K C=true
 yc:PySem.W.findIn K (.ref C) "__init__"=some (some (.builtin "object.__init__"))
 yd:PySem.W.keepIn K (.ref C)=true
 ye:PySem.W.plainGet K C Str.empty=true
 yf:PySem.W.hasDictIn K C=true
 yg:PySem.W.plainOver K C=true
 yh:PySem.W.findIn K (.ref C) "__setattr__"=some (some (.builtin "object.__setattr__"))
 yi:PySem.W.findIn K (.ref C) "__class__"=some (some (.builtin "object.__class__"))
 yj:PySem.W.mroIn K C (.type "object")=some true
 yk:PySem.W.specialIn K (.builtin "object.__class__") "__get__"=some (some (.builtin "getset_descriptor.__get__"))
 yl:PySem.W.takesIn K (.builtin "object.__class__")=some true
abbrev Y3(G:Gs)(s:Stmt)(N ps:List Str)(c:CS):Prop:=FnScope N ps (defScope s)∧(∀ y∈N,L2.Loc (defScope s) y)∧cSs G 60 (defScope s) N (defBody s)=some c
section
variable {K:PySem.W.Frag}{fd:FuncData}{ps:List Str}
theorem bd1(hl:ps.length=1)(h:∀ a,bindArgs fd ⟨[a],[]⟩=pure (ps.zip [a])):Binds K fd ps []:=.all fun us e=>by obtain⟨_,rfl⟩:=Zh7 (e.trans hl);exact h _
theorem bd2(hl:ps.length=2)(h:∀ a b,bindArgs fd ⟨[a,b],[]⟩=pure (ps.zip [a,b])):Binds K fd ps []:=.all fun us e=>by obtain⟨_,_,rfl⟩:=Zeg (e.trans hl);exact h _ _
theorem bd3(hl:ps.length=3)(h:∀ a b c,bindArgs fd ⟨[a,b,c],[]⟩=pure (ps.zip [a,b,c])):Binds K fd ps []:=.all fun us e=>by obtain⟨_,_,_,rfl⟩:=ZaY (e.trans hl);exact h _ _ _
theorem bd4(hl:ps.length=4)(h:∀ a b c d,bindArgs fd ⟨[a,b,c,d],[]⟩=pure (ps.zip [a,b,c,d])):Binds K fd ps []:=.all fun us e=>by obtain⟨_,_,_,_,rfl⟩:=ZjA (e.trans hl);exact h _ _ _ _
theorem bd5(hl:ps.length=5)(h:∀ a b c d k,bindArgs fd ⟨[a,b,c,d,k],[]⟩=pure (ps.zip [a,b,c,d,k])):Binds K fd ps []:=.all fun us e=>by obtain⟨_,_,_,_,_,rfl⟩:=ZjB (e.trans hl);exact h _ _ _ _ _
theorem bd6(hl:ps.length=6)(h:∀ a b c d k l,bindArgs fd ⟨[a,b,c,d,k,l],[]⟩=pure (ps.zip [a,b,c,d,k,l])):Binds K fd ps []:=.all fun us e=>by obtain⟨_,_,_,_,_,_,rfl⟩:=ZjC (e.trans hl);exact h _ _ _ _ _ _
theorem bd0(hl:ps.length=0)(h:bindArgs fd ⟨[],[]⟩=pure []):Binds K fd ps []:=.all fun us e=>by rw[Zjz (e.trans hl),List.zip_nil_right];exact h
end
section
variable {Pm:Params}{K:PySem.W.Frag}{mg:Str→Option Value}{G:Gs}{T:Nat→Option FD}{h:Heap}{x y:Str}{i p:Nat}{s:Stmt}{N ps:List Str}{c:CS}{r:Gs}
theorem gD(X:K.In h)(G0:h.Ns mainGlobals mg)(F:FnAt K x s)(q:Y3 G s N ps c)(hT:T i=some ⟨ps.length,N.length,c⟩)(t:YQ Pm K mg G T r)(hb:∀ kV dc pm an cd ct,Binds K (fnS x x s .none kV dc pm an cd ct) ps []:=by first|exact fun _ _ _ _ _ _=>bd1 rfl fun _=>rfl|exact fun _ _ _ _ _ _=>bd2 rfl fun _ _=>rfl|exact fun _ _ _ _ _ _=>bd3 rfl fun _ _ _=>rfl|exact fun _ _ _ _ _ _=>bd4 rfl fun _ _ _ _=>rfl|exact fun _ _ _ _ _ _=>bd5 rfl fun _ _ _ _ _=>rfl|exact fun _ _ _ _ _ _=>bd6 rfl fun _ _ _ _ _ _=>rfl|exact fun _ _ _ _ _ _=>bd0 rfl rfl):YQ Pm K mg G T ((x,.fn i p []) :: r):=by
 cases F with
 |mk a l e k=>exact⟨⟨_,_,ps,N,.inl ⟨s,_,_,_,_,_,_,_,_,_,_,c,rfl,l,e,q.1,q.2.1,q.2.2,hT⟩,k,PySem.W.mg_of X G0 a,fun m hm=>⟨[],[],fun _ _=>by rw[List.drop_nil];exact .nil,.nil,hb _ _ _ _ _ _⟩⟩,t⟩
theorem gH(X:K.In h)(G0:h.Ns mainGlobals mg)(F:FnAt K x s)(q:∀ {f:Addr}{oc kV dc pm cd ct:Value}{od an:Option Addr}{sl:Array (Option Value)},K.lookup f=some ⟨oc,od,.func (fnS x x s .none kV dc pm an cd ct),sl⟩→PySem.W.codeIn K cd x=true→Zat K mg G T i f (fnS x x s .none kV dc pm an cd ct) ps)(hb:∀ kV dc pm an cd ct,Binds K (fnS x x s .none kV dc pm an cd ct) ps [])(t:YQ Pm K mg G T r):YQ Pm K mg G T ((x,.fn i p []) :: r):=by
 cases F with
 |mk a l e k=>exact⟨⟨_,_,ps,[],.inr (q l e),k,PySem.W.mg_of X G0 a,fun m hm=>⟨[],[],fun _ _=>by rw[List.drop_nil];exact .nil,.nil,hb _ _ _ _ _ _⟩⟩,t⟩
theorem gE{v:Int}(X:K.In h)(G0:h.Ns mainGlobals mg)(F:FnAtE K x s v)(q:Y3 G s N ps c)(hT:T i=some ⟨ps.length,N.length,c⟩)(hb:∀ E kV dc pm an cd ct eo et en,K.lookup E=some eo→eo.data=.seq #[.int v et] en→Binds K (fnS x x s (.ref E) kV dc pm an cd ct) ps []∧Binds K (fnS x x s (.ref E) kV dc pm an cd ct) ps [.int v et])(t:YQ Pm K mg G T r):YQ Pm K mg G T ((x,.fn i p [.int v]) :: r):=by
 cases F with
 |mk a l e k d g=>
  refine⟨⟨_,_,ps,N,.inl ⟨s,_,_,_,_,_,_,_,_,_,_,c,rfl,l,e,q.1,q.2.1,q.2.2,hT⟩,k,PySem.W.mg_of X G0 a,fun m hm=>?_⟩,t⟩
  match m,hm with
  |0,_=>exact⟨[.int v],[.int v _],fun _ _=>.cons (.int _) .nil,.cons ⟨_,rfl⟩ .nil,(hb _ _ _ _ _ _ _ _ _ _ d g).2⟩
  |1,_=>exact⟨[],[],fun _ _=>.nil,.nil,(hb _ _ _ _ _ _ _ _ _ _ d g).1⟩
theorem gM{C:Addr}{r:List (Str×Nat×Nat)}(F:MtAt K C x y s)(q:Y3 G s N ps c)(hT:T i=some ⟨ps.length,N.length,c⟩)(t:XM K G T C r)(hb:∀ kV dc pm an cd ct,Binds K (fnS x y s .none kV dc pm an cd ct) ps []:=by first|exact fun _ _ _ _ _ _=>bd1 rfl fun _=>rfl|exact fun _ _ _ _ _ _=>bd2 rfl fun _ _=>rfl|exact fun _ _ _ _ _ _=>bd3 rfl fun _ _ _=>rfl|exact fun _ _ _ _ _ _=>bd4 rfl fun _ _ _ _=>rfl|exact fun _ _ _ _ _ _=>bd5 rfl fun _ _ _ _ _=>rfl|exact fun _ _ _ _ _ _=>bd6 rfl fun _ _ _ _ _ _=>rfl|exact fun _ _ _ _ _ _=>bd0 rfl rfl):XM K G T C ((x,i,p) :: r):=by
 cases F with
 |mk m l e k j=>exact⟨⟨y,_,_,ps,N,⟨s,_,_,_,_,_,_,_,_,_,_,c,rfl,l,e,q.1,q.2.1,q.2.2,hT⟩,⟨m,j,k⟩,hb _ _ _ _ _ _⟩,t⟩
theorem gS{C B:Addr}{l:List Nat}(hC:ClsTab.ca i=C)(F:ClsAt K x C)(m:PySem.W.kitOne K (.ref C) (.ref B)=some true)(t:XN K B l):XN K B (i :: l):=by
 subst hC;exact⟨⟨⟨F.ye,F.yf,F.yg,F.yh⟩,F.yi,F.yk,F.yl,F.yj,m⟩,t⟩
theorem gC{C:Addr}{subs:List Nat}{ms:List (Str×Nat×Nat)}(X:K.In h)(G0:h.Ns mainGlobals mg)(hC:ClsTab.ca i=C)(F:ClsAt K x C)(hs:XN K C subs)(hm:XM K G T C ms)(t:YQ Pm K mg G T r):YQ Pm K mg G T ((x,.cls i ms subs) :: r):=by
 subst hC;exact⟨⟨⟨PySem.W.mg_of X G0 F.ya,⟨F.yb,F.yc,F.yd,⟨F.ye,F.yf,F.yg,F.yh⟩⟩,hs⟩,hm⟩,t⟩
theorem gB(X:K.In h)(G0:h.Ns mainGlobals mg)(z:PySem.W.nsIn K mainGlobals x=some none)(t:YQ Pm K mg G T r):YQ Pm K mg G T ((x,.blt) :: r):=⟨PySem.W.mg_none_of X G0 z,t⟩
theorem gI{v:Int}{k:Tok}(X:K.In h)(G0:h.Ns mainGlobals mg)(g:PySem.W.nsIn K mainGlobals x=some (some (.int v k)))(t:YQ Pm K mg G T r):YQ Pm K mg G T ((x,.cst (.int v)) :: r):=⟨⟨.int v,_,PySem.W.mg_of X G0 g,⟨_,rfl⟩,fun _ _=>.int _⟩,t⟩
theorem gL{fa:Addr}{z:Str}(X:K.In h)(G0:h.Ns mainGlobals mg)(hfa:mg x=some (.ref fa))(F:FnAt K x s)(q:Y3 G s N [z] c)(hT:T i=some ⟨1,N.length,c⟩)(hb:∀ kV dc pm an cd ct u,bindArgs (fnS x x s .none kV dc pm an cd ct) ⟨[u],[]⟩=pure [(z,u)]):∃ (fd:FuncData) (N:List Str),(∀ (s:Shared) (u:Value),BindsTo s fd ⟨[u],[]⟩ [(z,u)])∧DefOk K mg G T x i [] fa fd [z] N:=by
 cases F with
 |@mk f _ _ _ _ _ _ _ _ _ a l e k=>
  have e':=hfa.symm.trans (PySem.W.mg_of X G0 a);have e':fa=f:=by cases e';rfl
  rw[e'];exact⟨_,N,fun _ u=>.of_eq (hb _ _ _ _ _ _ u),.inl ⟨s,_,_,_,_,_,_,_,_,_,_,c,rfl,l,e,q.1,q.2.1,q.2.2,hT⟩,k,PySem.W.mg_of X G0 a,fun m hm=>⟨[],[],fun _ _=>by rw[List.drop_nil];exact .nil,.nil,.all fun us hl=>by obtain⟨u,rfl⟩:=Zh7 hl;exact hb _ _ _ _ _ _ u⟩⟩
end
omit [ClsTab] in
theorem ZaX{l:PySem.W.OpenLaw}{q:Program}{loose:List Str}{XP:(Str→Option Value)→Heap→Prop}{YP:World→Heap→Prop}{d:DefRec}{K:Params→PySem.W.Frag}{G:Gs}{T:Nat→Option FD}{n i:Nat}{x:Str}(hn:l.most=some 63)(hdf:d.params.defaults=[])(hr:Room n callerA)(hY:∀ (w:World) (h:Heap),YP w h→(K w.params).In h)(hc:∀ [ClsTab] n,Yu G (run T n))(F:∀ (w:World) (mg:Str→Option Value) (fa:Addr) (h:Heap),(K w.params).In h→h.Ns mainGlobals mg→mg d.name=some (.ref fa)→
   ∃ _:ClsTab,Text w.params (K w.params) mg G T∧∃ (fd:FuncData) (N:List Str),(∀ (s:Shared) (u:Value),BindsTo s fd ⟨[u],[]⟩ [(x,u)])∧DefOk (K w.params) mg G T d.name i [] fa fd [x] N)(L:∀ ns:List Int,ns.length≤63→∃ st',run T n i [.lst 0] [(false,ns.map .int)]=some (.bl true,st')) :
  PySem.W.WalkO q loose XP YP l.row.toRowW d [] (fun f vs=>PySem.call f vs):=
 L2.walk_of (n:=63) (k:=n) (x:=x) (CX:=fun _=>CX0) (sp:=fun w vs H Q E=>∀ c:ClsTab,@spD c (K w.params) (run T n i) vs H Q E) hn (by decide) hdf hr hY
  (fun w mg fa h KX G0 hmg=>by
   obtain⟨c,X,fd,N,hb,Dk⟩:=F w mg fa h KX G0 hmg;refine⟨fd,hb,fun base _ _=>?_⟩
   have fo:=Zf4 (P:=l.prog) (w:=w) (base:=base) (fun n=>hc n) X n Dk
   exact⟨fun vs H Q E z=>fo.len vs H Q E (z c),fun A outer s H args us vs Q E a1 a2 a3 a4 z=>fo.run A outer s H args us vs Q E a1 a2 a3 a4 (z c)⟩)
  (fun w H a ns hl hO hS c=>Zhf hO hS (L ns hl)) fun _ _ _ _ _ z=>z

omit [ClsTab] in
theorem Zcj{l:PySem.W.OpenLaw}{q:Program}{loose:List Str}{XP:(Str→Option Value)→Heap→Prop}{YP:World→Heap→Prop}{d:DefRec}{K:Params→PySem.W.Frag}{G:Gs}{T:Nat→Option FD}{n i:Nat}{x:Str}(hn:l.most=some 63)(hdf:d.params.defaults=[])(hr:Room n callerA)(hY:∀ (w:World) (h:Heap),YP w h→(K w.params).In h)(hc:∀ [ClsTab] n,Yu G (run T n))(F:∀ (w:World) (mg:Str→Option Value) (fa:Addr) (h:Heap),(K w.params).In h→h.Ns mainGlobals mg→mg d.name=some (.ref fa)→
   ∃ _:ClsTab,Text w.params (K w.params) mg G T∧∃ (fd:FuncData) (N:List Str),(∀ (s:Shared) (u:Value),BindsTo s fd ⟨[u],[]⟩ [(x,u)])∧DefOk (K w.params) mg G T d.name i [] fa fd [x] N)(L:∀ ns:List Int,ns.length≤63→Zg T n i [.lst false (ns.map .int)]=some (.bl true)) :
  PySem.W.WalkO q loose XP YP l.row.toRowW d [] (fun f vs=>PySem.call f vs):=ZaX hn hdf hr hY hc F fun ns hl=>Zee (L ns hl)
end Dp


namespace L2
open PySem PySem.Spec PyProof.Rows
structure Xo(h:Heap)(e C dx:Addr)(t:Option Addr):Prop where
 ob:∃ sl vs,h.get? e=some ⟨.ref C,some dx,.fields vs,sl⟩∧vs.size=6∧vs[1]?=some (t.elim .none .ref)
 tb:∀ a,t=some a→a≠e∧∃ o ts,h.get? a=some o∧o.data=.fields ts∧3 < ts.size∧ts[3]?=some .none
def Kx(fs:List Addr)(e:Addr)(t:Option Addr)(h h':Heap):Prop:=
 ∀ b o,h.get? b=some o→b≠e→(∀ a,t=some a→b≠a)→(b∉fs→h'.get? b=some o)∧∃ sl,h'.get? b=some { o with slots:=sl }
theorem JZ{base h:Heap}:∀ {l:List Env},h.FunFrames base l→∀ b∈frs l,∃ o,h.get? b=some o∧∀ vs,o.data≠.fields vs
 |[],_,b,hb=>by simp[frs]at hb
 |env :: l,hf,b,hb=>by
  obtain⟨_,⟨L,o,e1,_,e3,e4⟩,r⟩:=hf;rw[frs,List.filterMap_cons,e1]at hb;rcases List.mem_cons.mp hb with z|z
  ·subst z;exact⟨o,e3,e4⟩
  ·exact JZ r b z
theorem nofr{base h:Heap}{l:List Env}{e:Addr}{o:Obj}{vs:Array Value}(hf:h.FunFrames base l)(he:h.get? e=some o)(hd:o.data=.fields vs):e∉frs l:=fun z=>by
 obtain⟨o',e1,e2⟩:=JZ hf e z;rw[he]at e1;cases e1;exact e2 vs hd
theorem WQ{h:Heap}{a:Addr}{o:Obj}{vs:Array Value}{i:Nat}{x:Value}(e:h.get? a=some o)(d:o.data=.fields vs):(h.update a (Obj.mapFields fun y=>y.setIfInBounds i x)).get? a=some { o with data:=.fields (vs.setIfInBounds i x) }:=by
 obtain⟨c,dd,da,sl⟩:=o;have d:da=.fields vs:=d;subst d;exact Heap.get?_update_self _ e rfl
section
variable {M:Model}{A:Around}{E:Value→Shared→Prop}{s:Shared}{base:Heap}{env:Env}{outer:List Env}{L e C dx:Addr}{t:Option Addr}{Q:Unit→Shared→Prop}
theorem Zgr{l:List Value}{Q:Value→Shared→Prop}(hl:l.length≤100)(h:Q (.ref s.heap.objs.size) { s with heap:=s.heap.push { cls:=.type "traceback",data:=.fields l.toArray } }):wpAny M A (newFields "traceback" l) Q E s:=by
 unfold newFields newObj;have z:¬l.toArray.size > sizeLine+2:=by rw[List.size_toArray];unfold sizeLine;omega
 show wpAny M A (if l.toArray.size > sizeLine+2 then _ else newObjAsIs _ _ _) Q E s
 rw[if_neg z];unfold newObjAsIs;exact wpAny_bind (wpAny_alloc (wpAny_pure h))
theorem JV{head:Value}{b:Bool}(hfr:A.frames=some (env :: outer))(hF:s.heap.FunFrames base (env :: outer))(hL:env.frame=some L){sl:Array (Option Value)}{vs:Array Value}(he:s.heap.get? e=some ⟨.ref C,some dx,.fields vs,sl⟩)(hz:vs.size=6)(h:∀ h' a,s.heap.objs.size≤a→Xo h' e C dx (some a)→Kx (frs (env :: outer)) e none s.heap h'→Q () { s with heap:=h' }) :
  wpAny M A (do
   let a ←frameOf env
   let pl ←entryPlaceOf L b
   let b ←EntryCells.newEntry head a .none (rawInt L) .none pl
   setField (.ref e) 1 b) (fun _ s'=>wpAny M A (setFlight (.ref e) none) Q E s') E s:=by
 refine wpAny_bind (wpAny_frameOf_fun hfr hF hL fun h1 ⟨z1,z2,z3⟩=>wpAny_bind (wpAny_entryPlaceOf fun pl hp=>wpAny_bind ?_))
 have ne:e∉frs (env :: outer):=nofr hF he rfl;have he1:h1.get? e=some ⟨.ref C,some dx,.fields vs,sl⟩:=(z2 e ne).trans he;have hpl:5≤([head,Value.ref L,.none,rawInt L,.none]++if pl.isEmpty=true then List.replicate 6 Value.none else pl).length∧([head,Value.ref L,.none,rawInt L,.none]++if pl.isEmpty=true then List.replicate 6 Value.none else pl).length≤100:=by
  rcases hp with rfl|⟨a,b,c,d,c9,b10,_,rfl⟩
  ·exact⟨show 5≤11 by decide,show 11≤100 by decide⟩
  ·exact⟨show 5≤11 by decide,show 11≤100 by decide⟩
 unfold EntryCells.newEntry;generalize [head,Value.ref L,.none,rawInt L,.none]++(if pl.isEmpty=true then List.replicate 6 Value.none else pl)=l at hpl
 refine Zgr hpl.2 ?_;have sz:h1.objs.size=s.heap.objs.size:=z1;have new:s.heap.get? h1.objs.size=none:=by
  cases q:s.heap.get? h1.objs.size with
  |none=>rfl
  |some o=>
   have:=Heap.lt_size q;rw[sz]at this;exact absurd this (Nat.lt_irrefl _)
 have nae:h1.objs.size≠e:=fun z=>by rw[z,he]at new;cases new
 have he2:=Heap.get?_push_of_some { cls:=.type "traceback",data:=.fields l.toArray } he1;refine wpAny_setField he2 rfl (by rw[hz];decide) ?_
 have ht:(h1.push { cls:=.type "traceback",data:=.fields l.toArray }).get? h1.objs.size=some { cls:=.type "traceback",data:=.fields l.toArray }:=Heap.get?_push_size _ rfl;refine wpAny_setFlight_none (e:=e) (tb:=h1.objs.size) (WQ he2 rfl) rfl (by show(vs.setIfInBounds 1 _)[1]?=_;rw[Array.getElem?_setIfInBounds];simp[hz]) ((Heap.get?_update_other _ _ (Ne.symm nae)).trans ht) rfl (by rw[List.size_toArray];omega) ?_
 refine h _ h1.objs.size (Nat.le_of_eq sz.symm) ⟨⟨sl,vs.setIfInBounds 1 (.ref h1.objs.size),?_,by simp[hz],by rw[Array.getElem?_setIfInBounds];simp[hz]⟩,fun a q=>?_⟩ fun b o hb hbe hbt=>?_
 ·exact(Heap.get?_update_other _ _ nae).trans (WQ he2 rfl)
 ·cases q
  refine⟨nae,_,_,WQ ((Heap.get?_update_other _ _ (Ne.symm nae)).trans ht) rfl,rfl,?_,?_⟩
  ·simp;omega
  ·rw[Array.getElem?_setIfInBounds];simp;omega
 ·have hbn:b≠h1.objs.size:=fun z=>by rw[z,new]at hb;cases hb
  have go:∀ {o'},h1.get? b=some o'→(((h1.push { cls:=.type "traceback",data:=.fields l.toArray }).update e (Obj.mapFields fun x=>x.setIfInBounds 1 (.ref h1.objs.size))).update h1.objs.size (Obj.mapFields fun x=>x.setIfInBounds 3 .none)).get? b=some o':=fun q=>
   (Heap.get?_update_other _ _ (Ne.symm hbn)).trans ((Heap.get?_update_other _ _ (Ne.symm hbe)).trans (Heap.get?_push_of_some _ q))
  obtain⟨sl',q'⟩:=z3 b o hb;exact⟨fun hn=>go ((z2 b hn).trans hb),sl',go q'⟩
theorem Zct(hfr:A.frames=some (env :: outer))(hF:s.heap.FunFrames base (env :: outer))(hL:env.frame=some L)(x:Xo s.heap e C dx t)(h:∀ h' a,s.heap.objs.size≤a→Xo h' e C dx (some a)→Kx (frs (env :: outer)) e t s.heap h'→Q () { s with heap:=h' }) :
  wpAny M A (noteFrame (.ref e) env) (fun _ s'=>wpAny M A (setFlight (.ref e) none) Q E s') E s:=by
 obtain⟨sl,vs,he,hz,h1⟩:=x.ob;unfold noteFrame;rw[hL];cases t with
 |none=>
  refine wpAny_bind (wpAny_field he rfl h1 ?_);rw[if_neg (by decide)]
  exact JV hfr hF hL he hz h
 |some a=>
  obtain⟨ae,o,ts,q1,q2,q3,q4⟩:=x.tb a rfl;refine wpAny_bind (wpAny_field he rfl h1 ?_);rw[if_pos (by rfl)]
  refine wpAny_bind (wpAny_field q1 q2 q4 ?_);rw[if_neg (fun z=>by have:=beq_iff_eq.mp z;unfold rawInt at this;cases this)]
  refine wpAny_bind (wpAny_setField q1 q2 q3 ?_);have ot:∀ b,b≠a→(s.heap.update a (Obj.mapFields fun x=>x.setIfInBounds 3 .none)).get? b=s.heap.get? b:=fun b hb=>Heap.get?_update_other _ _ (Ne.symm hb)
  refine JV (s:={ s with heap:=s.heap.update a (Obj.mapFields fun x=>x.setIfInBounds 3 .none) }) (base:=base) hfr (Heap.FunFrames.of_keeps (fun b o' hb hn=>⟨o',(ot b fun z=>?_).trans hb,rfl⟩) hF) hL ((ot e (Ne.symm ae)).trans he) hz fun h' a' n' x' k'=>h h' a' ?_ x' fun b o' hb hbe hbt=>k' b o' ((ot b (hbt a rfl)).trans hb) hbe fun _ z=>nomatch z
  ·rw[z,q1]at hb
   cases hb;exact hn ts q2
  ·have n':(s.heap.update a (Obj.mapFields fun x=>x.setIfInBounds 3 .none)).objs.size≤a':=n'
   rw[Heap.size_update]at n';exact n'
theorem Zef(hfr:A.frames=some (env :: outer))(hF:s.heap.FunFrames base (env :: outer))(hL:env.frame=some L)(x:Xo s.heap e C dx t)(h:∀ h' a,s.heap.objs.size≤a→Xo h' e C dx (some a)→Kx (frs (env :: outer)) e t s.heap h'→Q () { s with heap:=h' }) :
  wpAny M A (leaving env (.ref e)) Q E s:=by
 unfold leaving;exact wpAny_bind (Zct hfr hF hL x h)
end
end L2


namespace L2
open PySem PySem.Spec PyProof.Rows
section
variable {prog:Program}{w:World}{A:Around}{E:Value→Shared→Prop}{h:Heap}{g:Array GenState}{d:Drawn}{t:Nat}{os:OsState}{nm q:Str}{C N fI:Addr}{bs bm bmB:List Value}{hdct:Bool}{sn:List Str}{sub:List Value}{ab:Bool}{col:Option Bool}{dd:Option Addr}{k0 k1 k2 k3 k5:Option Value}{B newId initId:String}{rest:List Value}{oI:Obj}
theorem Ze9{Q:Fin→Shared→Prop}(F:ExcBaseFacts B newId initId bmB)(T:OwnTail h bmB bm)(hC:h.get? C=some (excClassObj nm q C N bs bm hdct sn sub ab col dd k0 k1 k2 k3 k5 newId))(hi:PySem.W.Looks (model prog w) h (typeLookup (.ref C) "__init__") (some (.ref fI)))(hf:h.get? fI=some oI)(hc:oI.cls=.type "function")(hr:rest.length≤sizeLine)(hq:∀ h' e,h.objs.size≤e→h.MadeExcOf h' e (.ref C) rest→wpAny (model prog w) A (call (.ref fI) (.ref e :: rest)) (fun r s'=>r=.none∧Q (.done (.ret (.ref e))) s') E ⟨h',g,d,t,os⟩) :
  wpAny (model prog w) A (Builtin.«type.__call__» { pos:=.ref C :: rest }) Q E ⟨h,g,d,t,os⟩:=by
 unfold Builtin.«type.__call__»
 simp only;have n1:¬(Value.ref C==Value.type "type")=true:=fun z=>nomatch beq_iff_eq.mp z
 rw[if_neg n1];refine wpAny_bind (wpAny_mroOf_exc hC ?_);rw[if_neg (by simp)]
 refine wpAny_bind (wpAny_madeBy_exc hC (wpAny_bind (wpAny_pure (wpAny_bind (wpAny_holding (wpAny_call (codeAny_call_builtin_code (Code.quiet_builtin _ F.quiet) (wpAny_check_new_subT F T hC (codeAny_exc_new_subT F T hC ?_ hr)))))))));have hh:∀ b o,h.get? b=some o→((h.push { cls:=.type "tuple",data:=.seq rest.toArray }).push { cls:=.ref C,data:=.fields #[.ref h.objs.size,.none,.none,.none,.bool false,.none] }).get? b=some o:=fun b o z=>Heap.get?_push_of_some _ (Heap.get?_push_of_some _ z)
 have hn:∀ a,h.objs.size≤a→h.get? a=none:=fun a ha=>by
  cases z:h.get? a with
  |none=>rfl
  |some o=>exact absurd (Heap.lt_size z) (Nat.not_lt.mpr ha)
 have hs:(h.push { cls:=.type "tuple",data:=.seq rest.toArray }).objs.size=h.objs.size+1:=Heap.size_push _ _;have he:((h.push { cls:=.type "tuple",data:=.seq rest.toArray }).push { cls:=.ref C,data:=.fields #[.ref h.objs.size,.none,.none,.none,.bool false,.none] }).get? (h.objs.size+1)=some { cls:=.ref C,data:=.fields #[.ref h.objs.size,.none,.none,.none,.bool false,.none] }:=Heap.get?_push_at hs.symm rfl
 have hm:h.MadeExcOf ((h.push { cls:=.type "tuple",data:=.seq rest.toArray }).push { cls:=.ref C,data:=.fields #[.ref h.objs.size,.none,.none,.none,.bool false,.none] }) (h.objs.size+1) (.ref C) rest:=⟨hh,hn _ (Nat.le_succ _),h.objs.size,he,hn _ (Nat.le_refl _),Heap.get?_push_of_some _ (Heap.get?_push_size _ rfl)⟩;have hC1:=hh C _ hC;generalize hg:(h.push { cls:=.type "tuple",data:=.seq rest.toArray }).push { cls:=.ref C,data:=.fields #[.ref h.objs.size,.none,.none,.none,.bool false,.none] }=h2 at *
 refine wpAny_bind ?_;unfold isInstance typeOf;refine wpAny_bind (wpAny_bind (wpAny_loadPart_at he (wpAny_pure (wpAny_isSubtype_exc hC1 ?_))));rw[show(Value.ref C :: bm).contains (.ref C)=true by simp]
 rw[if_neg (by decide)]
 refine wpAny_bind (wpAny_holding ?_);unfold callSpecial? specialOf typeOf
 refine wpAny_bind (wpAny_bind (wpAny_bind (wpAny_loadPart_at he (wpAny_pure (hi _ _ _ _ hh ?_)))));refine wpAny_holding (wpAny_bind (wpAny_bindSpecial_def (hh fI _ hf) hc (wpAny_bind ?_)));refine wpAny_mono (hq h2 (h.objs.size+1) (Nat.le_succ _) hm) (fun r s' ⟨q1,q2⟩=>?_) fun _ _ z=>z
 subst q1;exact wpAny_pure (wpAny_pure q2)
theorem Zf0{Q:Value→Shared→Prop}(F:ExcBaseFacts B newId initId bmB)(T:OwnTail h bmB bm)(hC:h.get? C=some (excClassObj nm q C N bs bm hdct sn sub ab col dd k0 k1 k2 k3 k5 newId))(hi:PySem.W.Looks (model prog w) h (typeLookup (.ref C) "__init__") (some (.ref fI)))(hf:h.get? fI=some oI)(hc:oI.cls=.type "function")(hr:rest.length≤sizeLine)(hq:∀ h' e,h.objs.size≤e→h.MadeExcOf h' e (.ref C) rest→wpAny (model prog w) (A.under (Code.builtin "type.__call__" { pos:=.ref C :: rest })) (call (.ref fI) (.ref e :: rest)) (fun r s'=>r=.none∧Q (.ref e) s') E ⟨h',g,d,t,os⟩) :
  wpAny (model prog w) A (call (.ref C) rest) Q E ⟨h,g,d,t,os⟩:=by
 refine wpAny_call (codeAny_of_tree (wpAny_bind (wpAny_load' hC ?_)));refine wpAny_bind (wpAny_specialOf ⟨_,hC,rfl⟩ tc_lookup (wpAny_bind (wpAny_of_eq (tc_bind (.ref C)) (wpAny_bind (wpAny_pure ?_)))));refine wpAny_ite_true (by rfl) (wpAny_pure ⟨rfl,codeAny_call_builtin_at (Code.quiet_builtin _ (by decide +kernel)) entry_typeCall (wpAny_check_type_call_sub hC (Ze9 F T hC hi hf hc hr fun h' e hz hm=>hq h' e hz hm))⟩)
end
end L2


namespace L2
open PySem PySem.Spec PyProof.Rows
section
variable {prog:Program}{w:World}{A:Around}{E:Value→Shared→Prop}{h:Heap}{g:Array GenState}{d:Drawn}{t:Nat}{os:OsState}{nm q:Str}{C H0 N e:Addr}{bs bm bmB:List Value}{sn:List Str}{sub:List Value}{ab:Bool}{col:Option Bool}{dd:Option Addr}{k0 k1 k2 k3 k5:Option Value}{B newId sa owner:String}{vs:Array Value}{name:Str}{v:Value}{tk:Tok}
theorem QF{self:Value}{what:Str}{P:Heap}(T:OwnTail P bmB bm)(h:refuseLoop self what bmB=pure ()):refuseLoop self what bm=pure ():=by
 induction T with
 |base=>exact h
 |own _ _ _ _ ih=>rw[refuseLoop_ref];exact ih
theorem Ze7{Q:Fin→Shared→Prop}(SF:StoreFacts B bmB sa owner)(T:OwnTail h bmB bm)(hC:h.get? C=some (excClassObj nm q C N bs bm true sn sub ab col dd k0 k1 k2 k3 k5 newId))(hl:PySem.W.Looks (model prog w) h (typeLookup (.ref C) name) none)(he:h.get? e=some { cls:=.ref C,data:=.fields vs })(hq:∀ h' tk',h'.get? e=some ⟨.ref C,some h.objs.size,.fields vs,#[]⟩→h'.Ns1 h.objs.size (fun y=>if y=name then some v else none)→(∀ b o,b≠e→h.get? b=some o→h'.get? b=some o)→Q (.done (.ret .none)) ⟨h',g,d,tk',os⟩) :
  wpAny (model prog w) A (Builtin.«object.__setattr__» { pos:=[.ref e,.str name tk,v] }) Q E ⟨h,g,d,t,os⟩:=by
 unfold Builtin.«object.__setattr__»
 simp only;rw[if_neg (by decide),refuse_eq]
 have n1:¬(Value.ref C==Value.type "module")=true:=fun z=>nomatch beq_iff_eq.mp z
 unfold typeOf;refine wpAny_bind (wpAny_bind (wpAny_bind (wpAny_loadPart_at he (wpAny_pure (wpAny_bind (wpAny_mroOf_exc hC ?_))))));rw[refuseLoop_ref,QF T (SF.passes _)];refine wpAny_pure ?_;unfold Builtin.ObjectAttr.attrName;refine wpAny_bind (wpAny_pure (wpAny_bind (wpAny_bind (wpAny_loadPart_at he (wpAny_pure (wpAny_bind (hl _ _ _ _ (fun _ _ z=>z) ?_)))))))
 unfold Builtin.ObjectAttr.storeTaker?
 refine wpAny_bind (wpAny_pure ?_);unfold Builtin.ObjectAttr.storeInOwnDict ownStreamTells;refine wpAny_bind (wpAny_pure ?_);rw[if_neg n1];unfold Builtin.ObjectAttr.ownDictForStores instanceDict;refine wpAny_bind (wpAny_bind (wpAny_loadPart_at he ?_));simp only;unfold classData;refine wpAny_bind (wpAny_bind (wpAny_load' hC (wpAny_pure ?_)));rw[if_neg (show ¬(!true)=true from Bool.false_ne_true)]
 show wpAny _ _ (if (!true||!typeHasDict (.ref C))=true then pure none else _) _ _ _
 rw[if_neg (show ¬(!true||!typeHasDict (.ref C))=true from Bool.false_ne_true)];refine wpAny_bind (wpAny_alloc ?_);have hn:∀ a,h.objs.size≤a→h.get? a=none:=fun a ha=>by
  cases z:h.get? a with
  |none=>rfl
  |some o=>exact absurd (Heap.lt_size z) (Nat.not_lt.mpr ha)
 have ne:e≠h.objs.size:=fun z=>by rw[z,hn _ (Nat.le_refl _)]at he;cases he
 have he1:=Heap.get?_push_of_some { cls:=.type "dict",data:=.dict #[] } he;have hd1:(h.push { cls:=.type "dict",data:=.dict #[] }).get? h.objs.size=some { cls:=.type "dict",data:=.dict #[] }:=Heap.get?_push_size _ rfl;refine wpAny_bind (wpAny_update' he1 (wpAny_pure ?_));have he2:((h.push { cls:=.type "dict",data:=.dict #[] }).update e fun o=>{ o with dict:=some h.objs.size }).get? e=some ⟨.ref C,some h.objs.size,.fields vs,#[]⟩:=Heap.get?_update_self _ he1 rfl
 have hd2:((h.push { cls:=.type "dict",data:=.dict #[] }).update e fun o=>{ o with dict:=some h.objs.size }).get? h.objs.size=some { cls:=.type "dict",data:=.dict #[] }:=(Heap.get?_update_other _ _ ne).trans hd1
 have kp2:∀ b o,b≠e→h.get? b=some o→((h.push { cls:=.type "dict",data:=.dict #[] }).update e fun o=>{ o with dict:=some h.objs.size }).get? b=some o:=fun b o hb z=>(Heap.get?_update_other _ _ (Ne.symm hb)).trans (Heap.get?_push_of_some _ z)
 unfold Builtin.ObjectAttr.storeInDict Builtin.ObjectAttr.newKeyGuard;refine wpAny_bind (wpAny_pure (wpAny_bind (wpAny_nsSet1 (m:=fun _=>none) (Heap.Ns1.of_empty ?_) fun h' n' sb=>?_)))
 ·exact⟨_,#[],0,hd2,rfl,by simp[StrKeys],by intro;rfl⟩
 ·obtain⟨o,es,ep,o1,o2,o3⟩:=Heap.Ns1.count (ns:=[name]) n' (fun y hy=>by
   by_cases z:y=name
   ·simp[z]
   ·rw[if_neg z]at hy;exact absurd rfl hy)
  refine wpAny_bind (wpAny_lookBehind o1 ?_ (wpAny_pure (hq h' _ ?_ n' fun b o hb z=>?_)))
  ·rw[o2]
   show(if es.size > sizeLine+1 then some "dict:memory" else none)=none
   rw[if_neg (by unfold sizeLine;simp at o3;omega)]
  ·exact(sb.2 e ne).trans he2
  ·exact(sb.2 b fun y=>by rw[y,hn _ (Nat.le_refl _)]at z;cases z).trans (kp2 b o hb z)
end
end L2


namespace L2
open PySem PySem.Spec PyProof.Rows
section
variable {prog:Program}{w:World}{A:Around}{E:Value→Shared→Prop}{h:Heap}{g:Array GenState}{d:Drawn}{t:Nat}{os:OsState}{nm q:Str}{C H0 N e:Addr}{bs bm bmB:List Value}{sn:List Str}{sub:List Value}{ab:Bool}{col:Option Bool}{dd:Option Addr}{k0 k1 k2 k3 k5:Option Value}{B newId sa owner:String}{vs:Array Value}{name:Str}{v:Value}{tk:Tok}{K:PySem.W.Frag}
theorem QV{P:Heap}{x:Value}(T:OwnTail P bmB bm)(h:bmB.contains x=true):bm.contains x=true:=by
 induction T with
 |base=>exact h
 |own _ _ _ _ ih=>rw[List.contains_cons,ih,Bool.or_true]
theorem ZdK{M:Model}{o:Obj}{nv:Value}{Q:Unit→Shared→Prop}(SF:StoreFacts B bmB sa owner)(T:OwnTail h bmB bm)(hC:h.get? C=some (excClassObj nm q C N bs bm true sn sub ab col dd k0 k1 k2 k3 k5 newId))(he:h.get? e=some o)(hc:o.cls=.ref C)(hq:Q () ⟨h,g,d,t,os⟩) :
  wpAny M A (checkBuiltinCall sa { pos:=[.ref e,nv,v] }) Q E ⟨h,g,d,t,os⟩:=by
 have ha:=SF.args (.ref e) nv v;unfold checkBuiltinCall;rw[SF.kind,SF.split];simp only;unfold isInstance typeOf;refine wpAny_bind (wpAny_bind (wpAny_bind (wpAny_loadPart_at he (wpAny_pure ?_))));rw[hc];refine wpAny_isSubtype_exc hC ?_;rw[show(Value.ref C :: bm).contains (.type owner)=true by rw[List.contains_cons,QV T SF.hasOwner,Bool.or_true]]
 rw[if_neg (by decide)]
 unfold argsOk at ha;cases z:Manifest.signature? sa with
 |none=>exact wpAny_pure hq
 |some sig=>
  rw[z]at ha;exact wpAny_of_eq ha hq
theorem Ze5{R:Result→Shared→Prop}(SF:StoreFacts B bmB sa owner)(T:OwnTail h bmB bm)(hC:h.get? C=some (excClassObj nm q C N bs bm true sn sub ab col dd k0 k1 k2 k3 k5 newId))(hl:PySem.W.Looks (model prog w) h (typeLookup (.ref C) name) none)(he:h.get? e=some { cls:=.ref C,data:=.fields vs })(hq:∀ h' tk',h'.get? e=some ⟨.ref C,some h.objs.size,.fields vs,#[]⟩→h'.Ns1 h.objs.size (fun y=>if y=name then some v else none)→(∀ b o,b≠e→h.get? b=some o→h'.get? b=some o)→R (.ok (.ret .none)) ⟨h',g,d,tk',os⟩) :
  codeAny (model prog w) A (Code.call (.builtin sa) { pos:=[.ref e,.str name tk,v] }) R ⟨h,g,d,t,os⟩:=
 codeAny_call_builtin SF.slot.plain SF.entry (ZdK SF T hC he rfl (Ze7 SF T hC hl he hq))
theorem Zbb{Q:Unit→Shared→Prop}(KX:K.In h)(SF:StoreFacts B bmB "object.__setattr__" owner)(T:OwnTail h bmB bm)(hC:h.get? C=some (excClassObj nm q C N bs bm true sn sub ab col dd k0 k1 k2 k3 k5 newId))(hs:PySem.W.findIn K (.ref C) "__setattr__"=some (some (.builtin "object.__setattr__")))(hl:PySem.W.findIn K (.ref C) name=some none)(he:h.get? e=some { cls:=.ref C,data:=.fields vs })(hq:∀ h' tk',h'.get? e=some ⟨.ref C,some h.objs.size,.fields vs,#[]⟩→h'.Ns1 h.objs.size (fun y=>if y=name then some v else none)→(∀ b o,b≠e→h.get? b=some o→h'.get? b=some o)→Q () ⟨h',g,d,tk',os⟩) :
  wpAny (model prog w) A (setAttr (.ref e) name v) Q E ⟨h,g,d,t,os⟩:=
 PySem.W.set_plain (od:=none) KX ⟨he,rfl,rfl,trivial⟩ hs (Ze5 SF T hC (PySem.W.looks_findIn KX hl) he hq)
end
end L2


namespace L2
open PySem PySem.Spec PyProof.Rows
def fX(C e dx:Addr):Heap→Prop:=fun h=>∃ sl vs,h.get? e=some ⟨.ref C,some dx,.fields vs,sl⟩∧vs.size=6
theorem Zfq{P:Program}{w:World}{H:Hp}{h:Heap}{C e dx:Addr}(x:fX C e dx h):ObjOk P w H h e (.ext (fX C e dx)):=
 ⟨x,let ⟨_,_,q,_⟩:=x;⟨_,q⟩,fun _ _ ⟨sl,vs,q,z⟩ k=>⟨sl,vs,k _ q,z⟩⟩
theorem Xo.f{h:Heap}{e C dx:Addr}{t:Option Addr}(x:Xo h e C dx t):fX C e dx h:=let ⟨sl,vs,q,z,_⟩:=x.ob;⟨sl,vs,q,z⟩
noncomputable def CX1(P:Program)(w:World):CXT:=fun outer H s E e s'=>∃ (ea C dx:Addr) (t:Option Addr) (H':Hp),e=.ref ea∧(s'.os=s.os∧AllBare s'.gens∧Un (frs outer) [] H H' s.heap s'.heap∧HOk P w H' s'.heap) ∧
 (Xo s'.heap ea C dx t∧H' ea=some (.ext (fX C ea dx))∧s.heap.objs.size≤ea∧∀ a,t=some a→H' a=none∧s.heap.objs.size≤a)∧E (.ref C) (some dx) H'
def XS(X:Cx)(pins:List (Addr×Obj))(σ:St)(E:XK)(e:Value)(s':Shared):Prop:=∃ (ea C dx:Addr) (t:Option Addr) (H':Hp),e=.ref ea∧Inv X pins σ H' s' ∧
 (Xo s'.heap ea C dx t∧H' ea=some (.ext (fX C ea dx))∧X.s₀.heap.objs.size≤ea∧∀ a,t=some a→H' a=none∧X.s₀.heap.objs.size≤a∧a≠X.env.locals)∧E (.ref C) (some dx) H'
section
variable {X:Cx}{pins:List (Addr×Obj)}{σ:St}{H H':Hp}{s s':Shared}{E:XK}{e:Value}
theorem Zfu{P:Program}{w:World}{h h':Heap}{C e dx:Addr}(ok:HOk P w H h)(he:H e=some (.ext (fX C e dx)))(x:fX C e dx h')(k:∀ b o u,b≠e→H b=some u→h.get? b=some o→h'.get? b=some o):HOk P w H h':=fun b u q=>by
 by_cases z:b=e
 ·subst z
  rw[he]at q;cases q;exact Zfq x
 ·exact(ok b u q).stay (fun c v hc q'=>by
   rcases hc with hc|hc
   ·rw[hc]at q' ⊢;exact k b v u z q q'
   ·exact k c v _ (fun y=>by rw[y,he]at hc;cases hc) hc q') (fun _ z=>z) fun _ _ z=>z
theorem QY{P:Program}{w:World}{K:PySem.W.Frag}{mg:Str→Option Value}{base:Heap}{N:List Str}{qual:Str}{scope:Scope}{f:Addr}{cd:Value}{A:Around}{outer:List Env}(h:XS (cxOf (CX1 P w) P w K mg base N qual scope f cd A outer s H E) pins σ E e s'):(cxOf (CX1 P w) P w K mg base N qual scope f cd A outer s H E).xe e s':=by
 obtain⟨ea,C,dx,t,H',rfl,I,⟨x,n1,z1,tt⟩,q⟩:=h;refine Zef (base:=base) (outer:=outer) (L:=s.heap.objs.size) I.ok.frames I.stack rfl x fun h' a na x' k=>?_
 have far:∀ b o,s.heap.get? b=some o→b≠ea∧(∀ a,t=some a→b≠a)∧b≠s.heap.objs.size:=fun b o hb=>by
  have:=Heap.lt_size hb;exact⟨fun z=>absurd (Nat.lt_of_lt_of_le this z1) (z ▸ Nat.lt_irrefl _),fun a ha z=>absurd (Nat.lt_of_lt_of_le this (tt a ha).2.1) (z ▸ Nat.lt_irrefl _),Nat.ne_of_lt this⟩
 have bs:Un (frs outer) [] H H' s.heap s'.heap:=I.base;have kk:∀ b o,s'.heap.get? b=some o→b≠ea→H' b≠none→h'.get? b=some o:=fun b o hb he hn=>(k b o hb he (fun a ha z=>hn (z ▸ (tt a ha).1))).1 fun z=>hn (I.stkFree b z)
 refine⟨ea,C,dx,some a,H',rfl,⟨I.os,I.bare,⟨fun b o hb hn hf _=>?_,fun b o hb hn hf _=>?_,bs.free,fun b o hb _=>?_,bs.tups,bs.frzs,bs.tbls⟩,Zfu I.hok n1 x'.f fun b o u hn hu hb=>kk b o hb hn (by rw[hu];exact fun z=>nomatch z)⟩,⟨x',n1,z1,fun b hb=>?_⟩,q⟩
 ·obtain⟨f1,f2,f3⟩:=far b o hb
  refine(k b o (bs.keep b o hb hn hf (by simp)) f1 f2).1 fun z=>?_
  rcases List.mem_cons.mp (show b∈s.heap.objs.size :: frs outer from z) with z|z
  ·exact f3 z
  ·exact hf z
 ·obtain⟨f1,f2,f3⟩:=far b o hb
  obtain⟨sl,e1⟩:=bs.slot b o hb hn hf (by simp)
  obtain⟨sl',e2⟩:=(k b _ e1 f1 f2).2;exact⟨sl',e2⟩
 ·obtain⟨f1,f2,f3⟩:=far b o hb
  obtain⟨o',e1⟩:=bs.there b o hb (by simp)
  obtain⟨sl',e2⟩:=(k b _ e1 f1 f2).2;exact⟨_,e2⟩
 ·cases hb
  exact⟨I.hok.fresh na,Nat.le_trans I.sz na⟩
theorem ZgE(h:∀ pins σ e s',XS X pins σ E e s'→X.xe e s'):Passes (CX1 X.prog X.w) X E:=fun pins σ H s e s' I hx=>by
 obtain⟨ea,C,dx,t,H',rfl,⟨os,ba,un,ok⟩,⟨x,n1,z1,tt⟩,q⟩:=hx;have lt:=I.lt;refine h pins σ _ s' ⟨ea,C,dx,t,H',rfl,I.call' os un ok ba (fun _ z=>absurd z (by simp)),⟨x,n1,Nat.le_trans I.sz z1,fun a ha=>⟨(tt a ha).1,Nat.le_trans I.sz (tt a ha).2,fun z=>?_⟩⟩,q⟩
 ·exact absurd (Nat.lt_of_lt_of_le lt (tt a ha).2) (z ▸ Nat.lt_irrefl _)
end
end L2


namespace L2
open PySem PySem.Spec PyProof.Rows
section
variable {M:Model}{A:Around}{E:Value→Shared→Prop}{env:Env}{nm q:Str}{C N:Addr}{bs bm:List Value}{hdct:Bool}{sn:List Str}{sub:List Value}{ab:Bool}{col:Option Bool}{dd:Option Addr}{k0 k1 k2 k3 k5:Option Value}{newId:String}{s:Shared}{x:Sem Value}{Q:Flow→Shared→Prop}
theorem ZeF(hb:bm.contains (.type "BaseException")=true)(hh:A.handled=none)(h:wpAny M A x (fun v s1=>∃ e oe vs,v=.ref e∧s1.heap.get? C=some (excClassObj nm q C N bs bm hdct sn sub ab col dd k0 k1 k2 k3 k5 newId)∧s1.heap.get? e=some oe∧oe.cls=.ref C∧oe.data=.fields vs∧vs[1]?=some .none∧E (.ref e) s1) E s) :
  wpAny M A (raiseStmt env (some x) none) Q E s:=by
 have hcB:(Value.ref C :: bm).contains (.type "BaseException")=true:=by rw[List.contains_cons,hb,Bool.or_true]
 unfold raiseStmt;refine wpAny_bind (wpAny_mono h (fun v s1 ⟨e,oe,vs,ev,hC,he,hc,hd,h1,hE⟩=>?_) fun _ _ z=>z)
 subst ev;obtain⟨hp,g,d,tk,os⟩:=s1;refine wpAny_bind (wpAny_pure (wpAny_bind (wpAny_holding ?_)));obtain⟨c0,di,da,sl⟩:=oe;have hc:c0=.ref C:=hc;have hd:da=.fields vs:=hd;subst hc;subst hd;unfold excFromValue isExcClass isType loadHead;refine wpAny_bind (wpAny_bind (wpAny_bind (wpAny_loadPart_at he (wpAny_pure (wpAny_ite_false rfl (wpAny_pure (wpAny_ite_false rfl ?_)))))));unfold isInstance typeOf
 refine wpAny_bind (wpAny_bind (wpAny_bind (wpAny_loadPart_at he (wpAny_pure (wpAny_isSubtype_exc hC ?_)))));rw[hcB,if_pos rfl];refine wpAny_pure (wpAny_bind (wpAny_bind (wpAny_loadPart_at he (wpAny_pure (wpAny_ite_false rfl ?_)))));unfold raisedInstance typeOf;refine wpAny_bind (wpAny_bind (wpAny_bind (wpAny_loadPart_at he (wpAny_pure (wpAny_bind (wpAny_bind (wpAny_loadPart_at hC (wpAny_pure (wpAny_ite_true rfl ?_)))))))))
 refine wpAny_pure ?_;unfold setFlight;refine wpAny_bind (wpAny_bind (wpAny_field he rfl h1 (wpAny_ite_false rfl (wpAny_pure ?_))));exact wpAny_raiseNew_none hh hE

end
end L2


namespace L2
open PySem PySem.Spec PyProof.Rows
structure XCls(K:PySem.W.Frag)(C fI:Addr)(f:Str):Prop where
 cl:∃ nm q N bs bm sn sub ab col dd k0 k1 k2 k3 k5 newId B initId bmB owner,K.lookup C=some (excClassObj nm q C N bs bm true sn sub ab col dd k0 k1 k2 k3 k5 newId)∧(∀ h:Heap,K.In h→OwnTail h bmB bm)∧ExcBaseFacts B newId initId bmB∧StoreFacts B bmB "object.__setattr__" owner
 sa:PySem.W.findIn K (.ref C) "__setattr__"=some (some (.builtin "object.__setattr__"))
 na:PySem.W.findIn K (.ref C) f=some none
 ini:PySem.W.findIn K (.ref C) "__init__"=some (some (.ref fI))
 fn:∃ o,K.lookup fI=some o∧o.cls=.type "function"
 kp:PySem.W.keepIn K (.ref C)=true
def f0(C e:Addr)(vs:Array Value):Heap→Prop:=fun h=>h.get? e=some { cls:=.ref C,data:=.fields vs }
theorem ZhX{P:Program}{w:World}{H:Hp}{h:Heap}{C e:Addr}{vs:Array Value}(x:f0 C e vs h):ObjOk P w H h e (.ext (f0 C e vs)):=⟨x,⟨_,x⟩,fun _ _ q k=>k _ q⟩
def New(H:Hp)(C e:Addr):Prop:=∃ vs,vs.size=6∧vs[1]?=some Value.none∧H e=some (.ext (f0 C e vs))
section
variable {X:Cx}{pins:List (Addr×Obj)}{σ:St}{H:Hp}{s:Shared}{e C fI:Addr}{f:Str}{y:V}{u:Value}{A:Around}{E:Value→Shared→Prop}
def f1(C e dx:Addr):Heap→Prop:=fun h=>Xo h e C dx none
theorem ZhY{P:Program}{w:World}{H:Hp}{h:Heap}{C e dx:Addr}(x:f1 C e dx h):ObjOk P w H h e (.ext (f1 C e dx)):=
 ⟨x,let ⟨_,_,q,_⟩:=x.ob;⟨_,q⟩,fun _ _ ⟨⟨sl,vs,q,z⟩,r⟩ k=>⟨⟨sl,vs,k _ q,z⟩,fun _ z=>nomatch z⟩⟩
noncomputable def Yc(H:Hp)(C e dx:Addr)(f:Str)(y:V):Hp:=upd (upd H dx (.xd [(f,y)])) e (.ext (f1 C e dx))
theorem QO{Q:Unit→Shared→Prop}(c:XCls X.K C fI f)(I:Inv X pins σ H s)(n:New H C e)(ry:RelV y u)(h:∀ dx s',H dx=none→dx≠e→Inv X pins σ (Yc H C e dx f y) s'→Q () s') :
  wpAny (model X.prog X.w) A (setAttr (.ref e) f u) Q E s:=by
 obtain⟨vs,z6,z1,he⟩:=n;obtain⟨nm,q,N,bs,bm,sn,sub,ab,col,dd,k0,k1,k2,k3,k5,newId,B,initId,bmB,owner,lk,T,F,SF⟩:=c.cl;have ob:f0 C e vs s.heap:=(show ObjOk X.prog X.w H s.heap e (.ext (f0 C e vs)) from I.hok e _ he).1;obtain⟨hp,g,d,tk,os⟩:=s;have hd:H hp.objs.size=none:=I.hok.fresh (Nat.le_refl _);have ne:hp.objs.size≠e:=fun z=>by rw[z,he]at hd;cases hd
 refine Zbb (K:=X.K) I.kIn SF (T _ I.kIn) (I.kIn _ _ lk) c.sa c.na ob fun h' tk' e1 e2 k=>h hp.objs.size _ hd ne ?_
 have kd:∀ b o,b≠e→hp.get? b=some o→h'.get? b=some o:=k;have un:Un X.fs [] H (Yc H C e hp.objs.size f y) hp h':=by
  have w1:∀ b,H b=none→b < hp.objs.size→Yc H C e hp.objs.size f y b=none:=fun b hb lt=>by
   unfold Yc;rw[upd_ne (fun z=>by rw[z,he]at hb;cases hb),upd_ne (Nat.ne_of_lt lt)];exact hb
  have w2:∀ b v,H b=some v→b≠e→Yc H C e hp.objs.size f y b=some v:=fun b v hb hn=>by
   unfold Yc;rw[upd_ne hn,upd_ne (ne_of_none hb hd)];exact hb
  have w3:∀ b v,H b=some v→(∀ φ,v≠.ext φ)→b≠e:=fun b v hb hv z=>by
   rw[z,he]at hb;cases hb;exact hv _ rfl
  have w4:∀ b o,hp.get? b=some o→H b=none→b≠e:=fun b o _ hb z=>by rw[z,he]at hb;cases hb
  refine⟨fun b o hb hn _ _=>kd b o (w4 b o hb hn) hb,fun b o hb hn _ _=>⟨o.slots,kd b o (w4 b o hb hn) hb⟩,fun b o hb hn _=>w1 b hn (Heap.lt_size hb),fun b o hb _=>?_,fun b xs hb=>w2 b _ hb (w3 b _ hb fun _ z=>nomatch z),fun b o u hb=>w2 b _ hb (w3 b _ hb fun _ z=>nomatch z),fun b ps hb=>⟨#[],by rw[w2 b _ hb (w3 b _ hb fun _ z=>nomatch z)];simp⟩⟩
  by_cases z:b=e
  ·rw[z];exact⟨_,e1⟩
  ·exact⟨o,kd b o z hb⟩
 refine I.un un fun b v hb=>?_
 by_cases z:b=e
 ·subst z
  unfold Yc at hb;rw[upd_same]at hb;cases hb;exact ZhY ⟨⟨#[],vs,e1,z6,z1⟩,fun _ z=>nomatch z⟩
 ·by_cases z2:b=hp.objs.size
  ·subst z2
   unfold Yc at hb;rw[upd_ne z,upd_same]at hb;cases hb;refine⟨_,e2,fun g=>?_⟩
   by_cases q:g=f
   ·rw[if_pos q,q]
    show RelO (List.lookup f [(f,y)]) (some u);rw[List.lookup_cons,beq_self_eq_true];exact ry
   ·rw[if_neg q]
    show RelO (List.lookup g [(f,y)]) none;rw[List.lookup_cons,beq_eq_false_iff_ne.mpr q];exact True.intro
  ·have hb':H b=some v:=by unfold Yc at hb;rw[upd_ne z,upd_ne z2]at hb;exact hb
   refine(I.hok b v hb').stay (fun c o hc q=>kd c o ?_ q) (fun c q=>?_) fun c xs q=>?_
   ·rcases hc with hc|hc
    ·rw[hc];exact z
    ·exact fun y=>by rw[y,he]at hc;cases hc
   ·unfold Yc
    rw[upd_ne (fun y=>by rw[y,he]at q;cases q),upd_ne (ne_of_none q hd)];exact q
   ·unfold Yc
    rw[upd_ne (fun y=>by rw[y,he]at q;cases q),upd_ne (ne_of_none q hd)];exact q
variable {o value:Expr}{pos pos' p:Pos}{ta tv:TE}{x:Str}{CX:CXT}{k:Nat}{fd:FuncData}{ps:List Str}{E':XK}{t:TA}{arg:Expr}
noncomputable def sX(C:Addr)(f:Str)(ta tv:TE):TS:=fun D σ H=>tv σ H fun y H1=>ta σ H1 fun x H2=>∃ e,x=.ref e∧New H2 C e∧∀ dx,H2 dx=none→dx≠e→D.nx σ (Yc H2 C e dx f y)
theorem ZjM(c:XCls X.K C fI f)(ha:PE X o ta)(hv:PE X value tv)(hs:swapsWith value (some (.Attribute o f pos')) pos.line X.env=pure false):PS X (.Assign [.Attribute o f pos'] value pos) (sX C f ta tv):=by
 intro pins s σ H D I h;refine plainObj_wpAny_Assign_Attribute (thn (hv pins s σ H _ I h) fun u s1 ⟨y,H1,I1,ry,q⟩=>thn (ha pins s1 σ H1 _ I1 q) fun ov s2 ⟨x,H2,I2,rx,e,ex,n,q2⟩=>?_) hs
 subst ex;obtain rfl:ov=Value.ref e:=rx;exact QO c I2 n ry fun dx s3 h1 h2 I3=>⟨σ,_,I3,q2 dx h1 h2⟩
noncomputable def spI(C:Addr)(f:Str):Sp:=fun vs H Q _=>∃ e y,vs=[.ref e,y]∧New H C e∧∀ dx,H dx=none→dx≠e→Q .non (Yc H C e dx f y)
theorem Zgl{P:Program}{w:World}{K:PySem.W.Frag}{mg:Str→Option Value}{base:Heap}{name qual a0 a1:Str}{params:Arguments}{scope:Scope}{dV kV doc pm cdv ct oc:Value}{an od:Option Addr}{osl:Array (Option Value)}{p1 p2 p3 p4:Pos}(c:XCls K C fI f)(lk:K.lookup fI=some ⟨oc,od,.func (PySem.W.fnOf name qual params [.Assign [.Attribute (.Name a0 p1) f p2] (.Name a1 p3) p4] scope dV kV doc pm an cdv ct),osl⟩)(hcd:PySem.W.codeIn K cdv qual=true)(S:FnScope [a0,a1] [a0,a1] scope)(v0:Vis scope a0)(v1:Vis scope a1)(d0:(a0==("__debug__":Str))=false)(d1:(a1==("__debug__":Str))=false)(g0:(a0==("__classdict__":Str))=false)(g1:(a1==("__classdict__":Str))=false) :
  FnOk P w K mg base CX (k+1) fI (PySem.W.fnOf name qual params [.Assign [.Attribute (.Name a0 p1) f p2] (.Name a1 p3) p4] scope dV kV doc pm an cdv ct) [a0,a1] (spI C f):=by
 refine fn_of lk hcd S (fun vs H Q E ⟨e,y,h,_⟩=>by rw[h];rfl) fun A outer s H vs Q E hr ⟨e,y,h,n,q⟩=>?_
 subst h;refine⟨_,pss_cons (ZjM c (pe_var (i:=0) rfl v0 d0 g0) (pe_var (i:=1) rfl v1 d1 g1) (by rfl)) pss_nil,?_⟩
 exact⟨y,rfl,.ref e,rfl,e,rfl,n,fun dx h1 h2=>q dx h1 h2⟩
theorem Zbf{oo:HO}{dx:Addr}:Yc (upd H e oo) C e dx f y=Yc H C e dx f y:=by
 funext b
 unfold Yc upd;by_cases z:b=e
 ·simp[z]
 ·simp[z]
end
end L2


namespace L2
open PySem PySem.Spec PyProof.Rows
section
variable {X:Cx}{pins:List (Addr×Obj)}{σ:St}{H:Hp}{s:Shared}{e C fI:Addr}{f:Str}{y:V}{u:Value}{A:Around}{E:Value→Shared→Prop}{pos p rpos:Pos}{x:Str}{CX:CXT}{k:Nat}{fd:FuncData}{ps:List Str}{E' E1:XK}{t:TA}{arg:Expr}
theorem Zba{Q:VK}(c:XCls X.K C fI f)(F:FnOk X.prog X.w X.K X.mg X.base CX k fI fd ps (spI C f))(hr:Room (k+1) X.A)(hb:Binds X.K fd ps [])(hx:Passes CX X E')(I:Inv X pins σ H s)(ry:RelV y u)(h:∀ e dx,X.s₀.heap.objs.size≤e→H e=none→H dx=none→dx≠e→Q (.ref e) (Yc H C e dx f y)):wpAny (model X.prog X.w) X.A (call (.ref C) [u]) (EP X pins σ Q) X.xe s:=by
 obtain⟨nm,q,N,bs,bm,sn,sub,ab,col,dd,k0,k1,k2,k3,k5,newId,B,initId,bmB,owner,lk,T,FB,SF⟩:=c.cl;obtain⟨oI,lI,cI⟩:=c.fn;obtain⟨hp,g,d,tk,os⟩:=s;refine Zf0 FB (T _ I.kIn) (I.kIn _ _ lk) (PySem.W.looks_findIn I.kIn c.ini) (I.kIn _ _ lI) cI (show 1≤sizeLine by decide) fun h' e hz hm=>?_
 obtain⟨ta,te,_,_⟩:=hm.there;have I2:Inv X pins σ (upd H e (.ext (f0 C e #[.ref ta,.none,.none,.none,.bool false,.none]))) ⟨h',g,d,tk,os⟩:=I.laid (t':=tk) hm.keeps hz (ZhX te);have hn:H e=none:=I.hok.fresh hz;have hq:spI C f [.ref e,y] (upd H e (.ext (f0 C e #[.ref ta,.none,.none,.none,.bool false,.none]))) (fun v H2=>v=.non∧Q (.ref e) H2) E':=
  ⟨e,y,rfl,⟨_,rfl,rfl,upd_same⟩,fun dx h1 h2=>⟨rfl,by rw[Zbf];exact h e dx (Nat.le_trans I.sz hz) hn (by rw[upd_ne h2]at h1;exact h1) h2⟩⟩
 have r2:Vals [V.ref e,y] [Value.ref e,u]:=.cons rfl (.cons ry .nil);have hl:([Value.ref e,u]++[]).length=ps.length:=by
  have:=F.len _ _ _ _ hq;exact this
 refine wpAny_call (codeAny_mono (F.run _ X.stack _ _ ⟨[Value.ref e,u],[]⟩ [Value.ref e,u] _ _ E' (hr.make C [u] []) (I2.env0.make C [u] []) (hb _ [Value.ref e,u] I2.kIn hl) r2 hq) fun r s' hq'=>?_)
 cases r with
 |error e=>exact hx pins σ _ _ e s' I2 hq'
 |ok fl=>
  cases fl with
  |ret u=>
   obtain⟨v,H',I3,rv,ev,q3⟩:=I2.after hq';subst ev;exact⟨rv,⟨V.ref e,H',I3,rfl,q3⟩⟩
  |next=>exact False.elim hq'
  |brk=>exact False.elim hq'
  |cont=>exact False.elim hq'
noncomputable def Uc(H:Hp)(C e dx:Addr)(f:Str)(y:V):Hp:=upd (upd H dx (.xd [(f,y)])) e (.ext (fX C e dx))
noncomputable def Zhh(C:Addr)(f:Str)(E:XK)(t:TA):TS:=fun _ σ H=>t σ H fun vs H1=>∃ y,vs=[y]∧∀ e dx,H1 e=none→H1 dx=none→dx≠e→E (.ref C) (some dx) (Uc H1 C e dx f y)
theorem ZcO(c:XCls X.K C fI f)(F:FnOk X.prog X.w X.K X.mg X.base CX k fI fd ps (spI C f))(hr:Room (k+1) X.A)(hh:X.A.handled=none)(hb:Binds X.K fd ps [])(hx:Passes CX X E')(hg:Gl X x)(hm:X.mg x=some (.ref C))(ha:PA X [arg] t)(hxe:∀ pins σ e s',XS X pins σ E1 e s'→X.xe e s')(hdb:(x==("__debug__":Str))=false:=by decide)(he:starEach [arg] X.env=(false,eval arg X.env) :: starEach [] X.env:=by rfl):PS X (.Raise (some (.Call (.Name x p) [arg] [] pos)) none rpos) (Zhh C f E1 t):=by
 intro pins s σ H D I h;obtain⟨nm,q,N,bs,bm,sn,sub,ab,col,dd,k0,k1,k2,k3,k5,newId,B,initId,bmB,owner,lk,T,FB,SF⟩:=c.cl;rw[arm_exec_Raise];refine wpAny_bind (wpAny_standAt ?_);refine ZeF (nm:=nm) (q:=q) (C:=C) (N:=N) (bs:=bs) (bm:=bm) (hdct:=true) (sn:=sn) (sub:=sub) (ab:=ab) (col:=col) (dd:=dd) (k0:=k0) (k1:=k1) (k2:=k2) (k3:=k3) (k5:=k5) (newId:=newId) (QV (T _ I.kIn) FB.hasBase) hh (wpAny_bind ?_)
 have ev:wpAny (model X.prog X.w) X.A (eval (.Call (.Name x p) [arg] [] pos) X.env) (EP X pins σ fun v H'=>∃ e dx y H1,v=.ref e∧X.s₀.heap.objs.size≤e∧H1 e=none∧H1 dx=none∧dx≠e∧H'=Yc H1 C e dx f y∧E1 (.ref C) (some dx) (Uc H1 C e dx f y)) X.xe s:=by
  refine wpAny_Call_Name_kw (ld_glob I hg hm ?_ hdb);refine PySem.W.callWith_K (h₀:=X.base) I.ok.mod.kin c.kp (thn (ha pos pins s σ H _ I h) fun us s1 ⟨vs,H1,I1,r,y,ey,q⟩=>⟨I1.kIn,?_⟩) he rfl
  subst ey;obtain⟨u,rfl,ru⟩:=Vals.one r;exact Zba c F hr hb hx I1 ru fun e dx h0 h1 h2 h3=>⟨e,dx,y,H1,rfl,h0,h1,h2,h3,rfl,q e dx h1 h2 h3⟩
 refine thn ev fun v s1 ⟨w,H',I1,rw',e,dx,y,H1,ev,h0,h1,h2,h3,eH,q⟩=>wpAny_bind (wpAny_standAt (wpAny_pure ?_))
 subst ev;obtain rfl:v=Value.ref e:=rw';have he':H' e=some (.ext (f1 C e dx)):=by rw[eH];exact upd_same
 have xo:Xo s1.heap e C dx none:=(show ObjOk X.prog X.w H' s1.heap e (.ext (f1 C e dx)) from I1.hok e _ he').1;obtain⟨sl,vs,q1,q2,q3⟩:=xo.ob;refine⟨e,_,vs,rfl,I1.kIn _ _ lk,q1,rfl,rfl,q3,hxe pins σ _ s1 ⟨e,C,dx,none,Uc H1 C e dx f y,rfl,?_,⟨xo,upd_same,h0,fun _ z=>nomatch z⟩,q⟩⟩
 have ex:Uc H1 C e dx f y=upd H' e (.ext (fX C e dx)):=by
  rw[eH];unfold Uc Yc;rw[upd_upd]
 rw[ex];obtain⟨hp,g,d,tk,os⟩:=s1;exact I1.write (x:=e) (e:=e) (h':=hp) (t':=tk) (by rw[he'];exact True.intro) (.inl rfl) (fun b o _ z=>z) ⟨_,q1⟩ (Zfq xo.f)
end
end L2


namespace L2
open PySem PySem.Spec PyProof.Rows
section
variable {X:Cx}{pins:List (Addr×Obj)}{σ:St}{H H':Hp}{s s':Shared}{ea C dx:Addr}{t:Option Addr}{h h2 h3:Heap}{fs:List Addr}{n x:Str}{i:Nat}{M:Model}{A:Around}{E:Value→Shared→Prop}
theorem ZfC(u:Un fs [] H H' h h2)(k:Kx fs ea t h2 h3)(z1:h.objs.size≤ea)(z2:∀ a,t=some a→h.objs.size≤a):Un fs [] H H' h h3:=by
 have far:∀ b o,h.get? b=some o→b≠ea∧∀ a,t=some a→b≠a:=fun b o hb=>by
  have:=Heap.lt_size hb;exact⟨fun z=>absurd (Nat.lt_of_lt_of_le this z1) (z ▸ Nat.lt_irrefl _),fun a ha z=>absurd (Nat.lt_of_lt_of_le this (z2 a ha)) (z ▸ Nat.lt_irrefl _)⟩
 refine⟨fun b o hb hn hf _=>?_,fun b o hb hn hf _=>?_,u.free,fun b o hb _=>?_,u.tups,u.frzs,u.tbls⟩
 ·obtain⟨f1,f2⟩:=far b o hb
  exact(k b o (u.keep b o hb hn hf (by simp)) f1 f2).1 hf
 ·obtain⟨f1,f2⟩:=far b o hb
  obtain⟨sl,e1⟩:=u.slot b o hb hn hf (by simp)
  obtain⟨sl',e2⟩:=(k b _ e1 f1 f2).2;exact⟨sl',e2⟩
 ·obtain⟨f1,f2⟩:=far b o hb
  obtain⟨o',e1⟩:=u.there b o hb (by simp)
  obtain⟨sl',e2⟩:=(k b _ e1 f1 f2).2;exact⟨_,e2⟩
theorem ZbR{P:Program}{w:World}(ok:HOk P w H' h2)(he:H' ea=some (.ext (fX C ea dx)))(x:fX C ea dx h3)(k:Kx fs ea t h2 h3)(n2:∀ a,t=some a→H' a=none)(n3:∀ b∈fs,H' b=none):HOk P w H' h3:=
 Zfu ok he x fun b o u hb hu hg=>(k b o hg hb fun a ha z=>by rw[z,n2 a ha]at hu;cases hu).1 fun z=>by rw[n3 b z]at hu;cases hu
theorem ZbP{a:Addr}{Q:Unit→Shared→Prop}(x:Xo s.heap ea C dx (some a))(q:∀ h',Xo h' ea C dx (some a)→Kx [] ea (some a) s.heap h'→Q () { s with heap:=h' }):wpAny M A (setFlight (.ref ea) none) Q E s:=by
 obtain⟨sl,vs,e1,e2,e3⟩:=x.ob;obtain⟨ne,o,ts,e4,e5,e6,e7⟩:=x.tb a rfl;refine wpAny_setFlight_none e1 rfl e3 e4 e5 e6 (q _ ⟨⟨sl,vs,(Heap.get?_update_other _ _ ne).trans e1,e2,e3⟩,fun b hb=>?_⟩ fun b o' hb he ht=>?_)
 ·cases hb
  exact⟨ne,_,_,WQ e4 e5,rfl,by simp;exact e6,by rw[Array.getElem?_setIfInBounds];simp[e6]⟩
 ·have:=(Heap.get?_update_other s.heap (Obj.mapFields fun x=>x.setIfInBounds 3 .none) (Ne.symm (ht a rfl))).trans hb
  exact⟨fun _=>this,o'.slots,this⟩
noncomputable def Xm(X:Cx)(e:Value):Cx:={ X with A:=X.A.mark (some e),calm:=false }
theorem Inv.marked{e:Value}(I:Inv X pins σ H s):Inv (Xm X e) pins σ H s:=
 ⟨⟨I.ok.mod,I.ok.kind,I.ok.glob,I.ok.blt,I.ok.above,I.ok.inj,I.ok.has,I.ok.cab,fun z=>(nomatch z),I.ok.frames,I.ok.stk,I.ok.exf,I.ok.bs,I.ok.bsz,I.ok.noex,I.ok.exfs,I.ok.funs,I.ok.frf⟩,I.os,I.bare,I.base,I.loc,I.cell,I.free,I.freeC,I.pin,I.hok,I.len⟩
theorem Inv.unmarked{e:Value}(o:X.Ok)(I:Inv (Xm X e) pins σ H s):Inv X pins σ H s:=
 ⟨o,I.os,I.bare,I.base,I.loc,I.cell,I.free,I.freeC,I.pin,I.hok,I.len⟩
theorem Zf5{Q:Unit→Shared→Prop}(I:Inv X pins σ H s)(hN:X.N.Nodup)(hi:X.N[i]?=some x)(hk:X.env.scope.names.lookup x=some .local){v:V}(hσ:σ[i]?=some (some v))(q:∀ s',Inv X pins (σ.set i none) H s'→Q () s'):wpAny M A (unbindName X.env x) Q E s:=by
 obtain⟨m,hn,hl⟩:=id I.loc;have hcls:(X.env.scope.kind==.class||(X.env.scope.kind==.module&&X.env.locals != X.env.globals))=false:=by rw[I.ok.kind];rfl
 have hiσ:i < σ.length:=by rw[I.len];exact(List.getElem?_eq_some_iff.mp hi).1
 obtain⟨u,ru,lo⟩:=hl i x v hi hσ (.inl hk);have mx:m x=some u:=by
  rcases lo with⟨_,q⟩|⟨q,_⟩
  ·exact q
  ·have e:X.env.kindOf x=some .local:=hk
   rcases q with q|q<;>(rw[e]at q;cases q)
 obtain⟨oL,_,_,hoL,_⟩:=id hn;refine wpAny_unbindName_local hk hn mx hcls fun h' w hn' hs=>q _ ?_
 have tracked:HOk X.prog X.w H h':=fun b ob e=>by
  refine(I.hok b ob e).stay (fun c w' hc q=>(hs.2 c ?_).trans q) (fun _ q=>q) fun _ _ q=>q
  rintro rfl
  have hf:=I.free;rcases hc with hc|hc
  ·rw[←hc,hf]at e;cases e
  ·rw[hf]at hc;cases hc
 refine⟨I.ok,I.os,I.bare,⟨fun b o e n hb hx=>?_,fun b o e n hb hx=>?_,I.base.free,fun b o e hx=>?_,I.base.tups,I.base.frzs,I.base.tbls⟩,⟨_,hn',fun j y v' e1 e2 e3=>?_⟩,fun y c e=>?_,I.free,I.freeC,fun p hp=>?_,tracked,by simpa using I.len⟩
 ·exact(hs.2 b (Nat.ne_of_lt (Nat.lt_of_lt_of_le (Heap.lt_size e) I.ok.above))).trans (I.base.keep b o e n hb hx)
 ·obtain⟨sl,e1⟩:=I.base.slot b o e n hb hx
  exact⟨sl,(hs.2 b (Nat.ne_of_lt (Nat.lt_of_lt_of_le (Heap.lt_size e) I.ok.above))).trans e1⟩
 ·obtain⟨o',e1⟩:=I.base.there b o e hx
  exact⟨o',(hs.2 b (Nat.ne_of_lt (Nat.lt_of_lt_of_le (Heap.lt_size e) I.ok.above))).trans e1⟩
 ·by_cases hj:j=i
  ·subst hj
   rw[List.getElem?_set_self hiσ]at e2;cases e2
  ·rw[List.getElem?_set_ne (Ne.symm hj)]at e2
   obtain⟨u',r',lk⟩:=hl j y v' e1 e2 e3;refine⟨u',r',?_⟩;rcases lk with⟨k1,k2⟩|⟨k1,c,k2,k3⟩
   ·refine .inl ⟨k1,?_⟩
    show(if y=x then w else m y)=some u'
    have ny:y≠x:=fun e=>hj (nodup_ix hN e1 (e ▸ hi))
    rw[if_neg ny];exact k2
   ·exact .inr ⟨k1,c,k2,by
     obtain⟨o,p1,p2⟩:=k3;exact⟨o,(hs.2 c (I.cne y c k2)).trans p1,p2⟩⟩
 ·obtain⟨w',o,p1,p2⟩:=I.cell y c e
  exact⟨w',o,(hs.2 c (I.cne y c e)).trans p1,p2⟩
 ·obtain⟨p1,p2,p3,p4⟩:=I.pin p hp
  exact⟨(hs.2 p.1 p3).trans p1,p2,p3,p4⟩
end
end L2


namespace L2
open PySem PySem.Spec PyProof.Rows
section
variable {X:Cx}{es:List Expr}{t:TA}
theorem PA.nox(h:PA X.nox es t):PA X es t:=fun p pins s σ H Q I hw=>
 wpAny_mono (h p pins s σ H Q (I.wish _) hw) (fun _ _ ⟨v,H',I',r,q⟩=>⟨v,H',I'.unwish,r,q⟩) fun _ _ z=>False.elim z
end
section
variable {X:Cx}{pins:List (Addr×Obj)}{σ:St}{H:Hp}{s:Shared}{fb C0 Ch:Addr}{g hx n:Str}{a:Expr}{as:List Expr}{t:TA}{k ni:Nat}{fd:FuncData}{ps:List Str}{sp:Sp}{ds:List Value}{dvs:List V}{gp cp ep hp hq pos:Pos}{b0:Stmt}{suite:List Stmt}{ts:TS}
noncomputable def ZiC(ni:Nat)(C0:Addr)(sp:Sp)(dvs:List V)(t:TA)(ts:TS):TS:=fun D σ H=>t σ H fun vs H1=>∃ E1:XK,sp (vs++dvs) H1 (fun _ _=>False) E1∧∀ e C dx H',H' e=some (.ext (fX C e dx))→E1 (.ref C) (some dx) H'→C=C0∧ts { nx:=fun σ2 H2=>D.nx (σ2.set ni none) H2,rt:=fun _ _=>False } (σ.set ni (some (.ref e))) H'
theorem ZcP(hst:X.stack=X.env :: X.outer∧X.env.frame=some X.env.locals)(hN:X.N.Nodup)(F:FnOk X.prog X.w X.K X.mg X.base (CX1 X.prog X.w) k fb fd ps sp)(hr:Room k X.A)(hg:Gl X g)(hm:X.mg g=some (.ref fb))(hk:PySem.W.keepIn X.K (.ref fb)=true)(hb:Binds X.K fd ps ds)(hd:Vals dvs ds)(ha:PA X.nox (a :: as) t)(hgx:Gl X hx)(hmx:X.mg hx=some (.ref Ch))(hmt:PySem.W.exmOne X.K (.ref C0) (.ref Ch)=some true)(hni:X.N[ni]?=some n)(hnl:X.env.scope.names.lookup n=some .local)(hs:∀ e,PSs (Xm X e).nox (b0 :: suite) ts)(d1:(g==("__debug__":Str))=false:=by decide)(d2:(hx==("__debug__":Str))=false:=by decide)(he:starEach (a :: as) X.env=(false,eval a X.env) :: starEach as X.env:=by rfl)(hpl:(backTo cp (starEach as X.env)).any (·.1)=false:=by rfl) :
  PS X (.Try [.Expr (.Call (.Name g gp) (a :: as) [] cp) ep] [.ExceptHandler (some (.Name hx hp)) (some n) (b0 :: suite) hq] [] [] pos) (ZiC ni C0 sp dvs t ts):=by
 intro pins s σ H D I h;refine wpAny_Try_except ?_;generalize hEb:(fun(e:Value) (s₁:Shared)=>wpAny (model X.prog X.w) X.A (noteFrame e X.env) (fun _ s₂=>wpAny (model X.prog X.w) X.A (setFlight e none) (fun _ s₃=>wpAny (model X.prog X.w) X.A (handleBy e X.env [.ExceptHandler (some (.Name hx hp)) (some n) (b0 :: suite) hq]) (SP X pins D) X.xe s₃) X.xe s₂) X.xe s₁)=Eb
 have ev:wpAny (model X.prog X.w) X.A (eval (.Call (.Name g gp) (a :: as) [] cp) X.env) (fun _ _=>False) Eb s:=by
  refine wpAny_Call_Name_kw (ld_glob (X:=X.wish Eb) (I.wish Eb) hg hm ?_ d1);refine PySem.W.callWith_K (h₀:=X.base) I.ok.mod.kin hk (thn ((PA.nox (X:=X.wish Eb) ha) cp pins s σ H _ (I.wish Eb) h) fun us s1 ⟨vs,H1,I1,r,E1,hsp,hh⟩=>⟨I1.kIn,?_⟩) he hpl
  have I1:=I1.unwish;have r2:Vals (vs++dvs) (us++ds):=r.append hd;have hl:(us++ds).length=ps.length:=by rw[←r2.length];exact F.len _ _ _ _ hsp
  refine wpAny_call (codeAny_mono (F.run X.A X.stack s1 H1 ⟨us,[]⟩ (us++ds) (vs++dvs) _ E1 hr I1.env0 (hb s1 us I1.kIn hl) r2 hsp) fun r s' hq'=>?_)
  cases r with
  |ok fl=>
   cases fl with
   |ret u=>obtain⟨_,_,_,_,_,_,_,z⟩:=hq';exact z.elim
   |next=>exact False.elim hq'
   |brk=>exact False.elim hq'
   |cont=>exact False.elim hq'
  |error e=>
   obtain⟨ea,C,dx,tb,H',rfl,⟨os,ba,un,ok⟩,⟨x,n1,z1,tt⟩,q⟩:=hq';obtain⟨rfl,hts⟩:=hh ea C dx H' n1 q;have I2:Inv X pins σ H' s':=I1.call' os un ok ba (fun _ z=>absurd z (by simp))
   rw[←hEb];refine Zct (base:=X.base) (outer:=X.outer) (L:=X.env.locals) (I1.ok.frames.trans (by rw[hst.1])) (hst.1 ▸ I2.stack) hst.2 x fun h3 b3 z3 x3 k3=>?_
   rw[←hst.1]at k3;have un3:=ZfC un k3 z1 fun a ha=>(tt a ha).2
   have ok3:HOk X.prog X.w H' h3:=ZbR ok n1 x3.f k3 (fun a ha=>(tt a ha).1) I2.stkFree
   have z3':s1.heap.objs.size≤b3:=by
    obtain⟨_,_,q1,_⟩:=x.ob;exact Nat.le_trans (Nat.le_trans z1 (Nat.le_of_lt (Heap.lt_size q1))) z3
   have nb3:H' b3=none:=I2.hok.fresh z3;have I3:Inv X pins σ H' { s' with heap:=h3 }:=I1.call' os un3 ok3 ba (fun _ z=>absurd z (by simp))
   refine wpAny_handleBy_cons ?_ (fun z=>nomatch z)
   refine codeAny_handlers_test (ld_glob (X:=Xm X (.ref ea)) I3.marked hgx hmx ?_ d2);have lt:PySem.W.Looks (model X.prog X.w) h3 (typeOf (.ref ea)) (.ref C):=fun A Q E s hk hq=>by
    obtain⟨sl,vs,q1,_⟩:=x3.ob;obtain⟨hp',g',d',t',o'⟩:=s;unfold typeOf;exact wpAny_bind (wpAny_loadPart_at (hk _ _ q1) (wpAny_pure hq))
   refine PySem.W.exm_one (show X.K.In h3 from I3.kIn) lt hmt _ _ _ _ (fun _ _ z=>z) ?_
   refine codeAny_handlers_suite_as (ZbP x3 fun h4 x4 k4=>?_)
   have k4':Kx (frs X.stack) ea (some b3) h3 h4:=fun b o hb he ht=>⟨fun _=>(k4 b o hb he ht).1 (by simp),(k4 b o hb he ht).2⟩
   have un4:=ZfC un3 k4' z1 fun a ha=>by cases ha;exact z3'
   have ok4:HOk X.prog X.w H' h4:=ZbR ok3 n1 x4.f k4' (fun a ha=>by cases ha;exact nb3) I2.stkFree
   have I4:Inv X pins σ H' { s' with heap:=h4 }:=I1.call' os un4 ok4 ba (fun _ z=>absurd z (by simp))
   refine store_ok I4 hN hni (.inl hnl) (v:=.ref ea) rfl (fun s5 I5=>?_) (.inr hnl)
   refine wpAny_mono (hs (.ref ea) pins s5 _ H' _ (I5.marked.wish _) hts) (fun fl s6 q6=>?_) fun _ _ z=>z.elim
   have q6:=q6.unwish;cases fl with
   |next=>
    obtain⟨σ2,H2,I6,q7⟩:=q6;have I6:Inv X pins σ2 H2 s6:=I6.unmarked I.ok;refine wpAny_bind (wpAny_bindName (store_ok I6 hN hni (.inl hnl) (v:=.non) rfl (fun s7 I7=>?_) (.inr hnl)))
    have hσ:(σ2.set ni (some V.non))[ni]?=some (some V.non):=List.getElem?_set_self (by rw[I6.len];exact(List.getElem?_eq_some_iff.mp hni).1)
    unfold unbindBehindTheSuite;refine wpAny_onRaise (Zf5 I7 hN hni hnl hσ fun s8 I8=>⟨_,H2,I8,?_⟩)
    rw[List.set_set];exact q7
   |ret u=>obtain⟨_,_,_,_,_,z⟩:=q6;exact z.elim
   |brk=>obtain⟨_,_,_,z⟩:=q6;exact z.elim
   |cont=>obtain⟨_,_,_,z⟩:=q6;exact z.elim
 refine wpAny_execs_cons ?_;refine wpAny_mono (wpAny_Expr_any (Q:=fun _ _=>False) (wpAny_mono ev (fun _ _ z=>z.elim) fun _ _ z=>z) (I.wish Eb).quiet (by rfl)) (fun _ _ z=>z.elim) fun e s1 z=>z
end
end L2


namespace L2
open PySem PySem.Spec PyProof.Rows
section
variable {prog:Program}{w:World}{A:Around}{E:Value→Shared→Prop}{s:Shared}{h:Heap}{g:Array GenState}{d:Drawn}{t:Nat}{os:OsState}{nm q name:Str}{C N e:Addr}{bs bm bmB:List Value}{hdct:Bool}{sn:List Str}{sub:List Value}{ab:Bool}{col:Option Bool}{dd:Option Addr}{k0 k1 k2 k3 k5:Option Value}{B newId:String}{K:PySem.W.Frag}{ox:Obj}{od:Option Obj}{v:Value}{tk:Tok}{fill expr:Bool}
theorem Zfs{Q:Value→Shared→Prop}(KX:K.In s.heap)(J:PySem.W.InstAt s.heap e ox C od)(FB:ExcAttrBase B bmB)(hg:PySem.W.findIn K (.ref C) "__getattribute__"=some (some (.builtin "BaseException.__getattribute__")))(hn:PySem.W.findIn K (.ref C) "__getattr__"=some none)(hc:codeAny (model prog w) A (Code.call (.builtin "BaseException.__getattribute__") { pos:=[.ref e,.str name tk] }) (fun r s'=>match r with
   |.ok (.ret v)=>PySem.W.handedIn v=true∧Q v s'
   |_=>False) s):wpAny (model prog w) A (getAttrBy (.ref e) (.str name tk) fill expr) Q E s:=by
 obtain⟨hp,g,d,tt,os⟩:=s;unfold getAttrBy typeOf;refine wpAny_holding (wpAny_bind (wpAny_bind (wpAny_loadPart_at J.at_ (wpAny_pure ?_))));rw[J.cls];refine wpAny_bind (PySem.W.looks_findIn KX hg _ _ _ _ (fun _ _ z=>z) ?_)
 refine wpAny_ite_false (by rfl) ?_
 unfold getAttrByItsOwn hookBefore;refine wpAny_bind (wpAny_ite_true (by rfl) (PySem.W.looks_findIn KX hn _ _ _ _ (fun _ _ z=>z) ?_))
 refine wpAny_bind (wpAny_attempt (wpAny_holding ?_));unfold callGetattribute;have hx:(expr&&onTheHeap (.builtin "BaseException.__getattribute__"))=false:=by cases expr<;>rfl
 rw[hx,if_neg Bool.false_ne_true];unfold boundAndCalled;refine wpAny_bind (wpAny_of_eq (FB.ga.bind (.ref e)) (wpAny_call (codeAny_mono hc fun r s' q=>?_)))
 cases r with
 |error e=>exact q.elim
 |ok fl=>
  cases fl with
  |ret v=>exact PySem.W.handed_on q.1 q.2
  |next=>exact q.elim
  |brk=>exact q.elim
  |cont=>exact q.elim
theorem J0{R:Result→Shared→Prop}{r:Builtin.ObjectAttr.Found}(KX:K.In h)(J:PySem.W.InstAt h e ox C od)(FB:ExcAttrBase B bmB)(hC:h.get? C=some (excClassObj nm q C N bs bm hdct sn sub ab col dd k0 k1 k2 k3 k5 newId))(T:OwnTailQ h bmB bm)(hf:PySem.W.findObj K C od name=some r)(hr:match r with
   |.value v=>R (.ok (.ret v)) ⟨h,g,d,t,os⟩
   |.bind gg a=>wpAny (model prog w) A.in1 (call gg [a,.ref e,.ref C]) (fun v s'=>R (.ok (.ret v)) s') (fun e s'=>R (.error e) s') ⟨h,g,d,t,os⟩
   |.missing=>False):codeAny (model prog w) A (Code.call (.builtin "BaseException.__getattribute__") { pos:=[.ref e,.str name tk] }) R ⟨h,g,d,t,os⟩:=by
 refine codeAny_call_builtin FB.ga.plain F.entry_bexc_ga (wpAny_check_ga_own FB hC T J.at_ J.cls ?_);unfold Builtin.«object.__getattribute__» slotArgs
 refine wpAny_bind (wpAny_ite_false (by rfl) (wpAny_ite_false (by rfl) (wpAny_pure ?_)))
 unfold Builtin.ObjectAttr.attrName typeOf;refine wpAny_bind (wpAny_pure (wpAny_bind (wpAny_bind (wpAny_loadPart_at J.at_ (wpAny_pure ?_)))));rw[J.cls];refine wpAny_bind (PySem.W.looks_find KX J hf _ _ _ _ (fun _ _ z=>z) ?_)
 cases r with
 |value v=>exact wpAny_pure hr
 |bind gg a=>
  unfold Builtin.ObjectAttr.bindTo;exact wpAny_bind (wpAny_holding (wpAny_mono hr (fun v s' z=>wpAny_pure z) fun _ _ z=>z))
 |missing=>exact hr.elim
theorem ZdV{Q:Value→Shared→Prop}(KX:K.In h)(J:PySem.W.InstAt h e ox C od)(FB:ExcAttrBase B bmB)(hC:h.get? C=some (excClassObj nm q C N bs bm hdct sn sub ab col dd k0 k1 k2 k3 k5 newId))(T:OwnTailQ h bmB bm)(hg:PySem.W.findIn K (.ref C) "__getattribute__"=some (some (.builtin "BaseException.__getattribute__")))(hn:PySem.W.findIn K (.ref C) "__getattr__"=some none)(hf:PySem.W.findObj K C od name=some (.value v))(hv:PySem.W.handedIn v=true)(hq:Q v ⟨h,g,d,t+1,os⟩) :
  wpAny (model prog w) A (getAttr (.ref e) name expr) Q E ⟨h,g,d,t,os⟩:=by
 unfold getAttr mkText;exact wpAny_bind (wpAny_bind (wpAny_fresh' (wpAny_pure (Zfs KX J FB hg hn (J0 KX J FB hC T hf ⟨hv,hq⟩)))))
theorem Zh6{od:Obj}(FB:ExcAttrBase B bmB)(lk:K.lookup C=some (excClassObj nm q C N bs bm hdct sn sub ab col dd k0 k1 k2 k3 k5 newId))(T:∀ h:Heap,K.In h→OwnTailQ h bmB bm)(hg:PySem.W.findIn K (.ref C) "__getattribute__"=some (some (.builtin "BaseException.__getattribute__")))(hn:PySem.W.findIn K (.ref C) "__getattr__"=some none)(hc:PySem.W.findIn K (.ref C) "__class__"=some (some (.builtin "object.__class__")))(hs:PySem.W.specialIn K (.builtin "object.__class__") "__get__"=some (some (.builtin "getset_descriptor.__get__")))(ht:PySem.W.takesIn K (.builtin "object.__class__")=some true)(hm:PySem.W.mroIn K C (.type "object")=some true)(hd:(PySem.W.clsIn K C).isSome=true) :
  PySem.W.KitX K (.ref e) (.ref C) (fun h=>PySem.W.InstAt h e ox C (some od)) where
 ty:=fun M h KX J A Q E s hk hq=>by
  obtain⟨hp,g,d,t,os⟩:=s;unfold typeOf;refine wpAny_bind (wpAny_loadPart_at (hk _ _ J.at_) (wpAny_pure ?_));rw[J.cls];exact hq
 it:=fun M h KX J A Q E s hk hq=>by
  obtain⟨hp,g,d,t,os⟩:=s;unfold isType loadHead;exact wpAny_bind (wpAny_loadPart_at (hk _ _ (KX _ _ lk)) (wpAny_pure hq))
 ne:=fun h tp dd its n sl KX z=>by
  refine beq_eq_false_iff_ne.mpr fun y=>?_
  cases y;rw[KX _ _ lk]at z;exact absurd (congrArg Obj.cls (Option.some.inj z)) (by simp[excClassObj])
 ca:=fun {prog w A E Q s} KX J hq=>by
  obtain⟨hp,g,d,t,os⟩:=s;unfold getAttr? mkText getAttrBy?
  refine wpAny_bind (wpAny_bind (wpAny_fresh' (wpAny_pure (wpAny_bind (wpAny_attempt ?_)))));refine Zfs KX J FB hg hn (J0 KX J FB (KX _ _ lk) (T _ KX) (PySem.W.findObj_data hd hc hs ht) (wpAny_call (PySem.W.class_get KX J hm ⟨rfl,wpAny_pure hq⟩)))
end
end L2


namespace L2
open PySem PySem.Spec PyProof.Rows
structure XGet(K:PySem.W.Frag)(C:Addr):Prop where
 cl:∃ nm q N bs bm sn sub ab col dd k0 k1 k2 k3 k5 newId B bmB,K.lookup C=some (excClassObj nm q C N bs bm true sn sub ab col dd k0 k1 k2 k3 k5 newId)∧(∀ h:Heap,K.In h→OwnTailQ h bmB bm)∧ExcAttrBase B bmB
 ga:PySem.W.findIn K (.ref C) "__getattribute__"=some (some (.builtin "BaseException.__getattribute__"))
 gn:PySem.W.findIn K (.ref C) "__getattr__"=some none
 gc:PySem.W.findIn K (.ref C) "__class__"=some (some (.builtin "object.__class__"))
 gs:PySem.W.specialIn K (.builtin "object.__class__") "__get__"=some (some (.builtin "getset_descriptor.__get__"))
 gt:PySem.W.takesIn K (.builtin "object.__class__")=some true
 gm:PySem.W.mroIn K C (.type "object")=some true
 gd:PySem.W.hasDictIn K C=true
section
variable {X:Cx}{pins:List (Addr×Obj)}{σ:St}{H:Hp}{s:Shared}{C:Addr}{x t f:Str}{p tp pos:Pos}{i:Nat}{b:Bool}{u:Value}{v:V}
def Ex(H:Hp)(C e:Addr)(fs:List (Str×V)):Prop:=∃ dx,H e=some (.ext (fX C e dx))∧H dx=some (.xd fs)
theorem Ex.look{e:Addr}{fs:List (Str×V)}{P:Program}{w:World}{h:Heap}(n:Ex H C e fs)(ok:HOk P w H h):∃ (ox od:Obj) (mA:Str→Option Value),PySem.W.InstAt h e ox C (some od)∧(∀ f,PySem.W.lookIn f od=some (mA f))∧∀ f,RelO (fs.lookup f) (mA f):=by
 obtain⟨dx,h1,h2⟩:=n;obtain⟨sl,vs,q,_⟩:=(show ObjOk P w H h e (.ext (fX C e dx)) from ok e _ h1).1;obtain⟨mA,ns,r⟩:=(show ObjOk P w H h dx (.xd fs) from ok dx _ h2);obtain⟨od,ho,hl⟩:=lookIn_ns ns;exact⟨_,od,mA,⟨q,rfl,rfl,ho⟩,hl,r⟩
theorem ZbH{K:PySem.W.Frag}(h:PySem.W.hasDictIn K C=true):(PySem.W.clsIn K C).isSome=true:=by
 unfold PySem.W.hasDictIn at h;cases q:PySem.W.clsIn K C with
 |none=>rw[q]at h;cases h
 |some c=>rfl
noncomputable def Ze8(i:Nat)(C:Addr)(b:Bool):TE:=fun σ H Q=>∃ e fs,σ[i]?=some (some (.ref e))∧Ex H C e fs∧Q (.bl b) H
theorem ZcH(g:XGet X.K C)(gi:Gl X "isinstance")(mi:X.mg "isinstance"=none)(hN:X.N[i]?=some x)(hv:Vis X.env.scope x)(hc:PE X (.Name t tp) (tC v))(ru:∀ u',RelV v u'→u'=u)(hk:PySem.W.kitOne X.K (.ref C) u=some b)(hd:(x==("__debug__":Str))=false:=by decide)(hcd:(x==("__classdict__":Str))=false:=by decide):PE X (.Call (.Name "isinstance" p) [.Name x xp,.Name t tp] [] pos) (Ze8 i C b):=by
 have cr:CallR X (.builtin "isinstance") (fun vs H Q=>∃ e fs,vs=[.ref e,v]∧Ex H C e fs∧Q (.bl b) H):=by
  intro pins s σ H xs us Q I r h;obtain⟨e,fs,rfl,ex,q⟩:=h;obtain⟨nm,qq,N,bs,bm,sn,sub,ab,col,dd,k0,k1,k2,k3,k5,newId,B,bmB,lk,T,FB⟩:=g.cl;obtain⟨ox,od,mA,J,_,_⟩:=ex.look I.hok;cases r with
  |cons r1 r2=>
   cases r2 with
   |cons r3 r4=>
    cases r4;cases r1;cases ru _ r3
    exact PySem.W.kia_one (Zh6 (e:=e) (ox:=ox) (od:=od) FB lk T g.ga g.gn g.gc g.gs g.gt g.gm (ZbH g.gd)) I.kIn J hk (fun z=>nomatch z) fun tk=>⟨.bl b,H,I.tok _,rfl,q⟩
 have P:=pe_callB (p:=p) (pos:=pos) cr gi mi (by decide +kernel) (pa_cons (pe_var (pos:=xp) hN hv hd hcd) (pa_cons hc pa_nil))
 intro pins s σ H Q I ⟨e,fs,h1,h2,h3⟩
 exact P pins s σ H Q I ⟨.ref e,h1,e,fs,rfl,h2,h3⟩
noncomputable def tXf(i:Nat)(C:Addr)(f:Str):TE:=fun σ H Q=>∃ e fs y,σ[i]?=some (some (.ref e))∧Ex H C e fs∧fs.lookup f=some y∧Q y H
theorem Zip(g:XGet X.K C)(na:PySem.W.findIn X.K (.ref C) f=some none)(hN:X.N[i]?=some x)(hv:Vis X.env.scope x)(hb:attributeBase (.Name x xp) f X.env (eval (.Name x xp) X.env)=eval (.Name x xp) X.env)(hd:(x==("__debug__":Str))=false:=by decide)(hcd:(x==("__classdict__":Str))=false:=by decide):PE X (.Attribute (.Name x xp) f pos) (tXf i C f):=by
 intro pins s σ H Q I ⟨e,fs,y,h1,ex,h2,q⟩
 obtain⟨nm,qq,N,bs,bm,sn,sub,ab,col,dd,k0,k1,k2,k3,k5,newId,B,bmB,lk,T,FB⟩:=g.cl;refine attr_of hb (thn (pe_var (pos:=xp) hN hv hd hcd pins s σ H (fun z H1=>z=.ref e∧H1=H) I ⟨.ref e,h1,rfl,rfl⟩) fun u s1 ⟨z,H1,I1,rz,ez,eh⟩=>?_)
 subst ez;subst eh;obtain rfl:u=Value.ref e:=rz;obtain⟨ox,od,mA,J,hl,r⟩:=ex.look I1.hok;obtain⟨u,hu,ru⟩:=RelO.some_of (v:=y) (o:=mA f) (by rw[←h2];exact r f)
 obtain⟨hp,gg,d,tk,os⟩:=s1;exact ZdV I1.kIn J FB (I1.kIn _ _ lk) (T _ I1.kIn) g.ga g.gn (PySem.W.findObj_own g.gd na rfl (by rw[hl,hu])) (handed_of ru) ⟨y,H1,I1.tok _,ru,q⟩
end
end L2


namespace L2
open PySem PySem.Spec PyProof.Rows
section
variable {X:Cx}{C:Addr}{x t f:Str}{T:String}{p xp tp pos:Pos}{i:Nat}{b:Bool}{ta tb:TE}
end
section
variable {P:Program}{w:World}{K:PySem.W.Frag}{mg:Str→Option Value}{base:Heap}{CX:CXT}{k:Nat}{f:Addr}{name qual a m:Str}{params:Arguments}{scope:Scope}{dV kV doc pm cdv ct oc:Value}{an od:Option Addr}{osl:Array (Option Value)}{p1 p2 p3 p4 p5 p6 p7 p8 p9 p10 p11:Pos}
def isG(sc:Scope)(x:Str):Prop:=sc.names.lookup x=some .globalImplicit
end
end L2


namespace L2
open PySem PySem.Spec PyProof.Rows
noncomputable abbrev Isi(a t:Str)(p1 p2 p3 p4:Pos):Expr:=.Call (.Name "isinstance" p1) [.Name a p2,.Name t p3] [] p4
section
variable {X:Cx}{C:Addr}{x t f:Str}{p1 p2 p3 p4 pos:Pos}{i:Nat}{b:Bool}{e:Expr}{tt:TT}
def Sub(K:PySem.W.Frag)(mg:Str→Option Value)(sc:Scope)(C:Addr)(t:Str)(b:Bool):Prop:=isG sc t∧(t==("__debug__":Str))=false∧∃ B,mg t=some (.ref B)∧PySem.W.kitOne K (.ref C) (.ref B)=some b
theorem Zev(g:XGet X.K C)(gi:Gl X "isinstance")(mi:X.mg "isinstance"=none)(hN:X.N[i]?=some x)(hv:Vis X.env.scope x)(c:Sub X.K X.mg X.env.scope C t b)(d0:(x==("__debug__":Str))=false)(d1:(x==("__classdict__":Str))=false):PE X (Isi x t p1 p2 p3 p4) (Ze8 i C b):=by
 obtain⟨h1,h2,B,h3,h4⟩:=c;exact ZcH g gi mi hN hv (pe_glob h1 h3 (v:=.ref B) rfl h2) (fun _ z=>z) h4 d0 d1
theorem Zew(g:XGet X.K C)(gi:Gl X "isinstance")(mi:X.mg "isinstance"=none)(hN:X.N[i]?=some x)(hv:Vis X.env.scope x)(gv:isG X.env.scope "ValueError")(mv:X.mg "ValueError"=none)(hk:PySem.W.kitOne X.K (.ref C) (.type "ValueError")=some b)(d0:(x==("__debug__":Str))=false)(d1:(x==("__classdict__":Str))=false) :
  PE X (Isi x "ValueError" p1 p2 p3 p4) (Ze8 i C b):=ZcH g gi mi hN hv (pe_bltn gv mv (show bootBuiltins "ValueError"=some (.type "ValueError") by decide +kernel) (v:=.ty "ValueError") rfl) (fun _ z=>z) hk d0 d1
end
section
variable {P:Program}{w:World}{K:PySem.W.Frag}{mg:Str→Option Value}{base:Heap}{CX:CXT}{k:Nat}{f fw C:Addr}{fdw:FuncData}{pw:List Str}{name qual a m wn fx c1 c3 c4 c5 c6 c7 c8:Str}{params:Arguments}{scope:Scope}{dV kV doc pm cdv ct oc:Value}{an od:Option Addr}{osl:Array (Option Value)}{j1 j2 j3:Nat}
 {q1 q2 q3 q4 q5 q6 q7 q8 q9 q10 q11 q12 q13 q14 q15 q16 q17 q18 q19 q20 q21 q22 q23 q24 q25 q26 q27 q28 q29 q30 q31 q32 q33 q34 q35 q36 q37 q38 q39 q40 q41 q42 q43 q44 q45 q46 q47 q48 q49 q50 q51 q52 q53 q54 q55 q56:Pos}
end
end L2


namespace Dp
open PySem PySem.Spec PyProof.Rows L2
variable [ClsTab]
section
variable {P:Program}{w:World}{K:PySem.W.Frag}{mg:Str→Option Value}{base:Heap}{G:Gs}{T:Nat→Option FD}{n i:Nat}{f fI C:Addr}{fdI:FuncData}{psI N pn:List Str}{name qual cn fx:Str}{params:Arguments}{scope:Scope}{dV kV doc pm cdv ct oc:Value}{an od:Option Addr}{osl:Array (Option Value)}
 {YK arg:Expr}{rest:List Stmt}{p1 p2 p3 p4:Pos}{cc ca:CE}
noncomputable def spX(K:PySem.W.Frag)(C:Addr)(fx:Str)(g:Fn):Sp:=fun vs H _ E=>∃ ad ds st z st',StOk K ad H st∧Dens K ad H vs ds∧g ds st=some (.int z,st')∧∀ ad' H' dx,Ext ad H ad' H'→StOk K ad' H' st'→H' dx=some (.xd [(fx,.int z)])→E (.ref C) (some dx) H'
theorem Zce{a b:Ev}{ρ:Env}{st st':Za}{r:Fl}(h:VE a (UP b) (fun _ _=>none) ρ st=some (r,st')):∃ st1 d,a ρ st=some (.bl true,st1)∧b ρ st1=some (d,st')∧r=.rt d:=by
 unfold VE at h;split at h
 ·rename_i st1 q
  unfold UP at h;split at h
  ·rename_i d st2 q2
   cases h;exact⟨st1,d,q,q2,rfl⟩
  ·cases h
 ·cases h
 ·cases h
theorem ZcW(hc:∀ n,Yu G (run T n))(gl:∀ A,Room n A→∀ y g,G.lookup y=some g→GOk P w K mg base A (run T n) y g)(c:XCls K C fI fx)(FI:FnOk P w K mg base CX0 1 fI fdI psI (spI C fx))(bI:Binds K fdI psI [])(lk:K.lookup f=some ⟨oc,od,.func (PySem.W.fnOf name qual params (.If YK [.Raise (some (.Call (.Name cn p1) [arg] [] p2)) none p3] [] p4 :: rest) scope dV kV doc pm an cdv ct),osl⟩)(hcd:PySem.W.codeIn K cdv qual=true)(S:FnScope N pn scope)(hcc:cE G 60 scope N YK=some cc)(hca:cE G 60 scope N arg=some ca)(hp:Zm arg=true)(hT:T i=some ⟨pn.length,N.length,.ite cc (.ret ca) .stop⟩)(gc:isG scope cn)(mc:mg cn=some (.ref C))(dc:(cn==("__debug__":Str))=false)(low:∀ ds st r,run T (n+1) i ds st=some r→2≤n) :
  FnOk P w K mg base (CX1 P w) (n+1) f (PySem.W.fnOf name qual params (.If YK [.Raise (some (.Call (.Name cn p1) [arg] [] p2)) none p3] [] p4 :: rest) scope dV kV doc pm an cdv ct) pn (spX K C fx (run T (n+1) i)):=by
 have hrun:run T (n+1) i=fnD (run T n) ⟨pn.length,N.length,.ite cc (.ret ca) .stop⟩:=by
  show(match T i with|some f=>fnD (run T n) f|none=>fun _ _=>none)=_
  rw[hT]
 refine fn_of lk hcd S (fun vs H Q E h=>?_) (fun A outer s H vs Q E hr h=>?_)
 ·obtain⟨ad,es,st,d,st',_,hd,e,_⟩:=h
  rw[hrun]at e;unfold fnD at e;split at e
  ·rename_i hl
   rw[hd.length];exact hl
  ·cases e
 ·obtain⟨ad,es,s0,z,st',S0,hd,e,p⟩:=h
  have h2:2≤n:=low es s0 _ e;rw[hrun]at e;unfold fnD at e;split at e
  ·rename_i hl
   have Cx:Cxt (cxOf (CX1 P w) P w K mg base N qual scope f cdv A outer s H E).nox G (run T n) scope N:={
    hN:=rfl
    vis:=fun y hy=>UX hy
    glb:=fun y hy=>WJ hy
    calm:=rfl
    hu:=hr.units
    gl:=gl _ hr
    cel:=fun y hy=>WH hy
    nx:=rfl }
   have SO:=(Y2 (hc n) 60).1.1 _ _ _ Cx;have hpl:pn.length≤N.length:=by have:=congrArg List.length S.pre;rw[List.length_take]at this;omega
   have E0':=Wn (N:=N) hd (by rw[show es.length=pn.length from hl];exact hpl)
   refine⟨_,pss_cons (ps_if (SO _ _ hcc).pt.nox (pss_one (ZcO (E1:=E) c FI (hr.mono h2) hr.hd bI pass0 gc mc (pa_cons (SO _ _ hca).pe.nox pa_nil (Ze hp)) (fun pins σ e s' h=>QY h) dc (Ze hp))) pss_never) pss_never,?_⟩
   have key:∃ st1,ev (run T n) cc (es.map some++List.replicate (N.length - es.length) none) s0=some (.bl true,st1)∧ev (run T n) ca (es.map some++List.replicate (N.length - es.length) none) st1=some (.int z,st'):=by
    split at e
    ·rename_i d' st2 q
     cases e;obtain⟨st1,d,h1,h2,h3⟩:=Zce q;cases h3;exact⟨st1,h1,h2⟩
    ·rename_i ρ st1 q
     cases e
    ·cases e
   obtain⟨st1,k1,k2⟩:=key;refine⟨ad,_,s0,true,st1,E0',S0,k1,fun ad1 H1 x1 S1=>?_⟩
   refine⟨ad1,_,st1,_,st',E0'.mono x1,S1,k2,fun v ad2 H2 x2 S2 hv=>?_⟩
   refine⟨v,rfl,fun e dx h1 h2 h3=>?_⟩
   cases hv.ofInt;have he:upd H2 dx (.xd [(fx,.int z)]) e=none:=by rw[upd_ne (Ne.symm h3)];exact h1
   exact p ad2 _ dx (x1.trans (x2.trans ((Ext.laid h2).trans (Ext.laid he)))) ((S2.laid h2).laid he) (by unfold Uc;rw[upd_ne h3,upd_same])
  ·cases e
end
end Dp


namespace Dp
open PySem PySem.Spec PyProof.Rows L2
variable [ClsTab]
section
variable {P:Program}{w:World}{K:PySem.W.Frag}{mg:Str→Option Value}{base:Heap}{T:Nat→Option FD}{n i ib:Nat}{f fb ft C Ch:Addr}{fdb fdt:FuncData}{pb pt:List Str}{name qual a m er en bn hn tn fx:Str}{params:Arguments}{scope:Scope}{dV kV doc pm cdv ct oc:Value}{an od:Option Addr}{osl:Array (Option Value)}{j1 j2:Nat}
 {q1 q2 q3 q4 q5 q6 q7 q8 q9 q10 q11 q12 q13 q14 q15 q16 q17 q18 q19 q20 q21 q22:Pos}
structure Nm(scope:Scope)(x:Str):Prop where
 l:scope.names.lookup x=some .local
 d:(x==("__debug__":Str))=false
 c:(x==("__classdict__":Str))=false
structure Gn(scope:Scope)(mg:Str→Option Value)(x:Str)(b:Addr):Prop where
 g:isG scope x
 d:(x==("__debug__":Str))=false
 m:mg x=some (.ref b)
end
end Dp


namespace Dp
open PySem PySem.Spec PyProof.Rows L2
variable [ClsTab]
noncomputable def bmV:List Value:=[.type "ValueError",.type "Exception",.type "BaseException",.type "object"]
noncomputable def stK(e:DictEntry):Bool:=match e.key with
 |.str _ _=>true
 |_=>false
inductive XAt(K:PySem.W.Frag)(x y fx:Str)(s:Stmt)(C fI:Addr):Prop
 |mk {B N:Addr}{nm q:Str}{bs:List Value}{sn:List Str}{sub:List Value}{ab:Bool}{col:Option Bool}{dd ddB od ofd an:Option Addr}{k0 k1 k2 k3 k5:Option Value}{c0 oc ofc kV dc pm cd ct:Value}{cdB:ClassData}{slB osl ofs:Array (Option Value)}{es:Array DictEntry}{ep:Nat}
  (a:PySem.W.nsIn K mainGlobals x=some (some (.ref C)))
  (l:K.lookup C=some (excClassObj nm q C N bs (.ref B :: [.type "ValueError",.type "Exception",.type "BaseException",.type "object"]) true sn sub ab col dd k0 k1 k2 k3 k5 "ValueError.__new__"))
  (lb:K.lookup B=some ⟨c0,ddB,.cls cdB,slB⟩) (ln:K.lookup cdB.ns=some ⟨oc,od,.dict es ep,osl⟩) (sk:es.toList.all stK=true)
  (n1:PySem.W.nsIn K cdB.ns "__init__"=some none) (n2:PySem.W.nsIn K cdB.ns "__getattribute__"=some none) (n3:PySem.W.nsIn K cdB.ns "__getattr__"=some none) (n4:PySem.W.nsIn K cdB.ns "args"=some none)
  (sa:PySem.W.findIn K (.ref C) "__setattr__"=some (some (.builtin "object.__setattr__"))) (na:PySem.W.findIn K (.ref C) fx=some none) (ini:PySem.W.findIn K (.ref C) "__init__"=some (some (.ref fI))) (kp:PySem.W.keepIn K (.ref C)=true)
  (ga:PySem.W.findIn K (.ref C) "__getattribute__"=some (some (.builtin "BaseException.__getattribute__"))) (gn:PySem.W.findIn K (.ref C) "__getattr__"=some none) (gc:PySem.W.findIn K (.ref C) "__class__"=some (some (.builtin "object.__class__")))
  (gs:PySem.W.specialIn K (.builtin "object.__class__") "__get__"=some (some (.builtin "getset_descriptor.__get__"))) (gt:PySem.W.takesIn K (.builtin "object.__class__")=some true) (gm:PySem.W.mroIn K C (.type "object")=some true) (gd:PySem.W.hasDictIn K C=true)
  (li:K.lookup fI=some ⟨ofc,ofd,.func (PySem.W.fnOf "__init__" y (defArgs s) (defBody s) (defScope s) .none kV dc pm an cd ct),ofs⟩) (ci:PySem.W.codeIn K cd y=true) (ic:ofc=.type "function"):XAt K x y fx s C fI
section
variable {K:PySem.W.Frag}{x y fx:Str}{s:Stmt}{C fI:Addr}
theorem Zhm{B:Addr}{c0 oc:Value}{ddB od:Option Addr}{cdB:ClassData}{slB osl:Array (Option Value)}{es:Array DictEntry}{ep:Nat}{bm tl:List Value}(lb:K.lookup B=some ⟨c0,ddB,.cls cdB,slB⟩)(ln:K.lookup cdB.ns=some ⟨oc,od,.dict es ep,osl⟩)(sk:es.toList.all stK=true)(nn:∀ n∈quietNames,PySem.W.nsIn K cdB.ns n=some none)(h:Heap)(X:K.In h)(T:OwnTailQ h bm tl):OwnTailQ h bm (.ref B :: tl):=by
 have sk':StrKeys es:=fun e he=>by
  have z:=List.all_eq_true.mp sk e (Array.mem_toList_iff.mpr he);unfold stK at z;split at z
  ·rename_i a b q;exact⟨a,b,q⟩
  ·cases z
 have ns:h.Ns cdB.ns (nsFind es):=⟨_,es,ep,X _ _ ln,rfl,sk',fun _=>rfl⟩
 refine .own (X _ _ lb) ns (fun n hn=>?_) T
 have e:=nn n hn;unfold PySem.W.nsIn at e;rw[ln]at e;dsimp only at e;unfold nsFind findBy;rw[←Array.find?_toList];split at e
 ·cases e
 ·rename_i q;rw[q];rfl
theorem XAt.cls(h:XAt K x y fx s C fI):XCls K C fI fx∧XGet K C:=by
 cases h with
 |mk a l lb ln sk n1 n2 n3 n4 sa na ini kp ga gn gc gs gt gm gd li ci ic=>
  have T:∀ h:Heap,K.In h→OwnTailQ h bmV (.ref _ :: bmV):=fun h X=>Zhm lb ln sk (fun n hn=>by
   unfold quietNames at hn;simp only[List.mem_cons,List.not_mem_nil,or_false]at hn;rcases hn with rfl|rfl|rfl|rfl<;>assumption) h X .base
  exact⟨⟨⟨_,_,_,_,_,_,_,_,_,_,_,_,_,_,_,_,_,_,_,_,l,fun h X=>(T h X).tail,F.excBase_ValueError,F.store_ValueError⟩,sa,na,ini,⟨_,li,ic⟩,kp⟩,⟨⟨_,_,_,_,_,_,_,_,_,_,_,_,_,_,_,_,_,_,l,T,F.attrBase_ValueError⟩,ga,gn,gc,gs,gt,gm,gd⟩⟩
end
end Dp


namespace Dp
open PySem PySem.Spec PyProof.Rows L2
variable [ClsTab]
section
variable {P:Program}{w:World}{K:PySem.W.Frag}{mg:Str→Option Value}{base:Heap}{T:Nat→Option FD}{n i ic j:Nat}{f fc C:Addr}{fdc:FuncData}{pc N pn:List Str}{name qual cn fx a:Str}{params:Arguments}{scope:Scope}{dV kV doc pm cdv ct oc:Value}{an od:Option Addr}{osl:Array (Option Value)}
 {rest:List Stmt}{p1 p2 p3 p4:Pos}
theorem QH{F:Nat→Fn}{ns j:Nat}{es:List D}{st st':Za}{d:D}{np:Nat}(h:fnD F ⟨np,ns,.ret (.call ic (.acons (.var j) .anil) [])⟩ es st=some (d,st'))(hj:j < np):es.length=np∧∃ dj,es[j]?=some dj∧F ic [dj] st=some (d,st'):=by
 unfold fnD at h;split at h
 ·rename_i hl
  refine⟨hl,?_⟩;have hl:es.length=np:=hl;have hj':j < es.length:=by omega
  refine⟨es[j],List.getElem?_eq_getElem hj',?_⟩;have ev1:∀ st,ZT j (es.map some++List.replicate (ns - es.length) none) st=some (es[j],st):=fun st=>by
   unfold ZT;rw[List.getElem?_append_left (by simpa using hj'),List.getElem?_map,List.getElem?_eq_getElem hj']
   rfl
  have e:ev F (.call ic (.acons (.var j) .anil) []) (es.map some++List.replicate (ns - es.length) none) st=F ic [es[j]] st:=by
   show ZL (ZQ (ZT j) (evC (.tup [])) Xb) (W4 (F ic) []) _ st=_;unfold ZL ZQ;rw[ev1];rfl
  have e2:ex F (.ret (.call ic (.acons (.var j) .anil) [])) (es.map some++List.replicate (ns - es.length) none) st=(match F ic [es[j]] st with|some (d,st')=>some (.rt d,st')|none=>none):=by
   show UP (ev F _) _ st=_;unfold UP;rw[e]
   all_goals (cases F ic [es[j]] st<;>rfl)
  rw[e2]at h;cases q:F ic [es[j]] st with
  |none=>rw[q]at h;cases h
  |some v=>rw[q]at h;cases h;rfl
 ·cases h
theorem Zeu(CK:FnOk P w K mg base (CX1 P w) n fc fdc pc (spX K C fx (run T n ic)))(bc:Binds K fdc pc [])(kc:PySem.W.keepIn K (.ref fc)=true)(lk:K.lookup f=some ⟨oc,od,.func (PySem.W.fnOf name qual params (.Expr (.Call (.Name cn p1) [.Name a p2] [] p3) p4 :: rest) scope dV kV doc pm an cdv ct),osl⟩)(hcd:PySem.W.codeIn K cdv qual=true)(S:FnScope N pn scope)(gc:Gn scope mg cn fc)(na:Nm scope a)(hN:N[j]?=some a)(hj:j < pn.length)(hT:T i=some ⟨pn.length,N.length,.ret (.call ic (.acons (.var j) .anil) [])⟩) :
  FnOk P w K mg base (CX1 P w) (n+1) f (PySem.W.fnOf name qual params (.Expr (.Call (.Name cn p1) [.Name a p2] [] p3) p4 :: rest) scope dV kV doc pm an cdv ct) pn (spX K C fx (run T (n+1) i)):=by
 have hrun:run T (n+1) i=fnD (run T n) ⟨pn.length,N.length,.ret (.call ic (.acons (.var j) .anil) [])⟩:=by
  show(match T i with|some f=>fnD (run T n) f|none=>fun _ _=>none)=_
  rw[hT]
 refine fn_of lk hcd S (fun vs H Q E h=>?_) (fun A outer s H vs Q E hr h=>?_)
 ·obtain⟨ad,es,st,d,st',_,hd,e,_⟩:=h
  rw[hrun]at e;rw[hd.length];exact(QH e hj).1
 ·obtain⟨ad,es,s0,z,st',S0,hd,e,p⟩:=h
  rw[hrun]at e;obtain⟨hl,dj,e1,e2⟩:=QH e hj;obtain⟨v,v1,v2⟩:=hd.get e1;refine⟨_,pss_cons (ps_expr (pe_call (E:=E) CK hr gc.g gc.m kc bc .nil (ZgE fun pins σ e s' h=>QY h) (pa_cons (pe_var (i:=j) hN (.inl na.l) na.d na.c) pa_nil) gc.d)) pss_never,?_⟩
  have hs:(L2.start N vs)[j]?=some (some v):=by
   unfold L2.start;rw[List.getElem?_append_left (by rw[List.length_map,hd.length];omega),List.getElem?_map,v1]
   rfl
  exact⟨v,hs,ad,[dj],s0,z,st',S0,.cons v2 .nil,e2,p⟩
end
section
variable {K:PySem.W.Frag}{ad ad':List Addr}{H H':Hp}{σ:L2.St}{ρ:Env}{C:Addr}{fx:Str}{ib ni:Nat}{F:Nat→Fn}{st st1:Za}{z:Int}{p t l:D}
theorem EnvOk.skip{i:Nat}{x:Option V}(h:EnvOk K ad H σ ρ)(hi:ρ[i]?=some none):EnvOk K ad H (σ.set i x) ρ:=by
 refine⟨by rw[List.length_set];exact h.len,fun k d e=>?_⟩
 obtain⟨v,e1,e2⟩:=h.at_ k d e;refine⟨v,?_,e2⟩;rw[List.getElem?_set_ne (fun z=>by rw[←z,hi]at e;cases e)]
 exact e1
theorem ZiE{ts:TS}{D:Ends}(S:StOk K ad H st)(E:EnvOk K ad H σ ρ)(h0:ρ[0]?=some (some p))(h1:ρ[1]?=some (some t))(h2:ρ[2]?=some (some l))(e:F ib [p,t,l] st=some (.int z,st1))(q:∀ e ad' H',Ext ad H ad' H'→StOk K ad' H' st1→L2.Ex H' C e [(fx,.int z)]→ts { nx:=fun σ2 H2=>D.nx (σ2.set ni none) H2,rt:=fun _ _=>False } (σ.set ni (some (.ref e))) H') :
  ZiC ni C (spX K C fx (F ib)) [] (tCons (tVar 0) (tCons (tVar 1) (tCons (tVar 2) tNil))) ts D σ H:=by
 obtain⟨v0,a0,b0⟩:=E.at_ 0 _ h0;obtain⟨v1,a1,b1⟩:=E.at_ 1 _ h1;obtain⟨v2,a2,b2⟩:=E.at_ 2 _ h2;refine⟨v0,a0,v1,a1,v2,a2,fun c o H'=>c=.ref C∧∃ dx ad',o=some dx∧Ext ad H ad' H'∧StOk K ad' H' st1∧H' dx=some (.xd [(fx,.int z)]),⟨ad,[p,t,l],st,z,st1,S,.cons b0 (.cons b1 (.cons b2 .nil)),e,fun ad' H' dx' h1 h2 h3=>⟨rfl,dx',ad',rfl,h1,h2,h3⟩⟩,fun e C' dx' H' k1 k2=>?_⟩
 obtain⟨hC,d2,ad',hd2,x',S',hx⟩:=k2;cases hC;cases hd2;exact⟨rfl,q e ad' H' x' S' ⟨dx',k1,hx⟩⟩
end
end Dp


namespace Dp
open PySem PySem.Spec PyProof.Rows L2
variable [ClsTab]
noncomputable abbrev Zax:CE:=.acons (.var 0) (.acons (.var 1) (.acons (.var 2) .anil))
noncomputable abbrev ZcX(ib ch:Nat)(cIf:CS)(cl:CE):CS:=.seq (.act (.call ch .anil [])) (.seq (.set 3 (.tupE (.acons (.bin .Add (.call ib Zax []) (.cst (.int 0))) (.acons (.cst (.bl false)) .anil)))) (.seq cIf (.seq (.set 8 (.cst (.bl false))) (.seq (.act (.bin .Add (.call ib Zax []) (.cst (.int 0)))) (.seq (.set 8 (.cst (.bl true))) (.ret (.cmp .Eq (.bin .Sub (.ix (.var 3) (.cst (.int 0))) cl) (.cst (.int 0)))))))))
section
open PySem.SeqAt
noncomputable def Zkf(K:PySem.W.Frag):R2:=fun x y H Q=>∃ a b z k c,x=.ref a∧y=.ref b∧TupAt K H a [.int z,.bl c]∧TupAt K H b [.int k,.bl c]∧Q (.bl (decide (z=k))) H
theorem ZgD{X:Cx}(hu:X.A.units < cLine):OpR X (compareOp .Eq) (Zkf X.K):=by
 intro pins s σ H x y u v Q I rx ry h;obtain⟨a,b,z,k,c,rfl,rfl,ta,tb,q⟩:=h;cases rx;cases ry;obtain⟨its,rv,p,_⟩:=I.tuple ta.sq;obtain⟨its',rv',p',_⟩:=I.tuple tb.sq;cases rv with
 |cons r1 rv=>
 cases rv with
 |cons r2 rv=>
 cases rv;cases rv' with
 |cons r3 rv'=>
 cases rv' with
 |cons r4 rv'=>
 cases rv';obtain⟨t,rfl⟩:=r1;obtain⟨t',rfl⟩:=r3;cases r2;cases r4;refine eq_tupleAt (e:=fun i=>if i=0 then z==k else true) p p' hu (fun j h1 h2=>?_) ⟨.bl (decide (z=k)),H,I,?_,q⟩
 ·match j,h1 with
  |0,_=>exact EqAt.int_int z t k t'
  |1,_=>exact EqAt.same _
 ·show Value.bool _=Value.bool _
  congr 1
  rw[Bool.eq_iff_iff];simp[List.range_succ]
end
section
variable {F:Nat→Fn}{ib ch:Nat}{cIf:CS}{cl:CE}{p t l:D}{ρ:Env}{st st':Za}{r:Fl}{d:D}
theorem Y0{a b:Ex}(h:QL a b ρ st=some (r,st')):(∃ ρ' s,a ρ st=some (.nx ρ',s)∧b ρ' s=some (r,st'))∨((∀ ρ',r≠.nx ρ')∧a ρ st=some (r,st')):=by
 unfold QL at h;split at h
 ·rename_i ρ' s q;exact .inl ⟨ρ',s,q,h⟩
 ·rename_i q;exact .inr ⟨fun ρ' z=>q ρ' st' (by rw[←z];exact h),h⟩
theorem Y1{i:Nat}{f:Ev}(h:VG i f ρ st=some (r,st')):∃ d,f ρ st=some (d,st')∧r=.nx (Zt ρ i d):=by
 unfold VG at h;split at h
 ·rename_i d s q;cases h;exact⟨d,q,rfl⟩
 ·cases h
theorem XZ{f:Ev}(h:Q0 f ρ st=some (r,st')):∃ d,f ρ st=some (d,st')∧r=.nx ρ:=by
 unfold Q0 at h;split at h
 ·rename_i d s q;cases h;exact⟨d,q,rfl⟩
 ·cases h
theorem Zfm(h0:ρ[0]?=some (some p))(h1:ρ[1]?=some (some t))(h2:ρ[2]?=some (some l)):ev F (.call ib Zax []) ρ st=F ib [p,t,l] st:=by
 have v0:∀ st,ZT 0 ρ st=some (p,st):=fun st=>by unfold ZT;rw[h0]
 have v1:∀ st,ZT 1 ρ st=some (t,st):=fun st=>by unfold ZT;rw[h1]
 have v2:∀ st,ZT 2 ρ st=some (l,st):=fun st=>by unfold ZT;rw[h2]
 show ZL (ZQ (ZT 0) (ZQ (ZT 1) (ZQ (ZT 2) (evC (.tup [])) Xb) Xb) Xb) (W4 (F ib) []) ρ st=_;unfold ZL ZQ;rw[v0];dsimp only;rw[v1];dsimp only;rw[v2];rfl
theorem U1{e:CE}(h:ev F (.bin .Add e (.cst (.int 0))) ρ st=some (d,st')):∃ z,ev F e ρ st=some (.int z,st')∧d=.int z:=by
 have h:(match ev F e ρ st with|some (x,s1)=>Vw .Add x (.int 0) s1|none=>none)=some (d,st'):=h
 split at h
 ·rename_i x s1 q
  cases x with
  |int z=>
   have h:some (D.int (z+0),s1)=some (d,st'):=h;rw[Int.add_zero]at h;cases h;exact⟨z,q,rfl⟩
  |_=>cases h
 ·cases h
theorem Zki{cl:CE}{z:Int}(h3:ρ[3]?=some (some (.tup [.int z,.bl false])))(h:ex F (.ret (.cmp .Eq (.bin .Sub (.ix (.var 3) (.cst (.int 0))) cl) (.cst (.int 0)))) ρ st=some (r,st')):∃ k,ev F cl ρ st=some (.int k,st')∧r=.rt (.bl (decide (z=k))):=by
 have v3:ev F (.ix (.var 3) (.cst (.int 0))) ρ st=some (.int z,st):=by
  show ZQ (ZT 3) (evC (.int 0)) ixR ρ st=_;unfold ZQ ZT;rw[h3];rfl
 have h:(match (match (match ev F (.ix (.var 3) (.cst (.int 0))) ρ st with
   |some (x,s1)=>(match ev F cl ρ s1 with
    |some (y,s2)=>Vw .Sub x y s2
    |none=>none)
   |none=>none) with
  |some (x,s1)=>Jc .Eq x (.int 0) s1
  |none=>none) with
  |some (d,s')=>some (Fl.rt d,s')
  |none=>none)=some (r,st'):=h
 rw[v3]at h;dsimp only at h;cases q:ev F cl ρ st with
 |none=>rw[q]at h;cases h
 |some v=>
  obtain⟨v,s1⟩:=v;rw[q]at h;cases v with
  |int k=>
   have h:some (Fl.rt (.bl (decide (z - k=0))),s1)=some (r,st'):=h;cases h;exact⟨k,rfl,by congr 2;exact decide_eq_decide.mpr (by omega)⟩
  |_=>cases h
theorem Za7{e:CE}(h:ev F (.tupE (.acons (.bin .Add e (.cst (.int 0))) (.acons (.cst (.bl false)) .anil))) ρ st=some (d,st')):∃ z,ev F e ρ st=some (.int z,st')∧d=.tup [.int z,.bl false]:=by
 have h:(match ev F (.bin .Add e (.cst (.int 0))) ρ st with|some (x,s1)=>some (D.tup [x,.bl false],s1)|none=>none)=some (d,st'):=h
 split at h
 ·rename_i x s1 q
  cases h;obtain⟨z,h1,rfl⟩:=U1 q;exact⟨z,h1,rfl⟩
 ·cases h
end
section
variable {P:Program}{w:World}{K:PySem.W.Frag}{mg:Str→Option Value}{base:Heap}{G:Gs}{T:Nat→Option FD}{n i ib ch:Nat}{cIf:CS}{cl:CE}{f fb C C1 C2:Addr}{fdb:FuncData}{pb:List Str}{name qual a0 a1 a2 th en wd li nn bs bn h1 h2 fx c1 c2 c3 c4 c5 c6:Str}{params:Arguments}{scope:Scope}{dV kV doc pm cdv ct oc:Value}{an od:Option Addr}{osl:Array (Option Value)}{j1 j2 j3:Nat}{tx ty:Nat}{stIf:Stmt}{lenE:Expr}
 {q1 q2 q3 q4 q5 q6 q7 q8 q9 q10 q11 q12 q13 q14 q15 q16 q17 q18 q19 q20 q21 q22 q23 q24 q25 q26 q27 q28 q29 q30 q31 q32 q33 q34 q35 q36 q37 q38 q39 q40 q41 q42 q43 q44 q45 q46 q47 q48 q49 q50 q51 q52 q53 q54 q55 q56 q57 q58 q59 q60 q61 q62 q63 q64 q65 q66 q67 q68 q69 q70 q71 q72 q73 q74 q75 q76 q77 q78:Pos}
theorem QG(hc:∀ n,Yu G (run T n))(gl:∀ A,Room n A→∀ y g,G.lookup y=some g→GOk P w K mg base A (run T n) y g)(BX:4≤n→FnOk P w K mg base (CX1 P w) n fb fdb pb (spX K C fx (run T n ib)))(bb:Binds K fdb pb [])(kb:PySem.W.keepIn K (.ref fb)=true)(lk:K.lookup f=some ⟨oc,od,.func (PySem.W.fnOf name qual params [.Assign [.Name th q74] (.Constant .none j2 q73) q75,.Try [.Expr (.Call (.Name bn q42) [.Name a0 q43,.Name a1 q44,.Name a2 q45] [] q46) q47] [.ExceptHandler (some (.Name h1 q48)) (some en) [.Assign [.Name wd q5] (Isi en c1 q1 q2 q3 q4) q6,.Assign [.Name li q20] (.BoolOp .Or [Isi en c2 q7 q8 q9 q10,Isi en c3 q11 q12 q13 q14,Isi en c4 q15 q16 q17 q18] q19) q21,.Assign [.Name nn q31] (.BoolOp .Or [Isi en c5 q22 q23 q24 q25,Isi en c6 q26 q27 q28 q29] q30) q32,.Assign [.Name th q40] (.Tuple [.Attribute (.Name en q33) fx q34,(.BoolOp .Or [.Name wd q35,.Name li q36,.Name nn q37] q38)] tx q39) q41] q49] [] [] q50,stIf,.Assign [.Name bs q77] (.Constant (.bool false) j3 q76) q78,.Try [.Expr (.Call (.Name bn q57) [.Name a0 q58,.Name a1 q59,.Name a2 q60] [] q61) q62] [.ExceptHandler (some (.Name h2 q63)) (some en) [.Assign [.Name bs q55] (Isi en "ValueError" q51 q52 q53 q54) q56] q64] [] [] q65,.Return (some (.BoolOp .And [.Compare (.Name th q66) [.Eq] [.Tuple [lenE,.Constant (.bool false) j1 q67] ty q68] q69,.Name bs q70] q71)) q72] scope dV kV doc pm an cdv ct),osl⟩)(hcd:PySem.W.codeIn K cdv qual=true)(S:FnScope [a0,a1,a2,th,en,wd,li,nn,bs] [a0,a1,a2] scope)(hloc:∀ y∈[a0,a1,a2,th,en,wd,li,nn,bs],Loc scope y)(n0:Nm scope a0)(n1:Nm scope a1)(n2:Nm scope a2)(n3:Nm scope th)(n4:Nm scope en)(n5:Nm scope wd)(n6:Nm scope li)(n7:Nm scope nn)(n8:Nm scope bs)(gb:Gn scope mg bn fb)(g1:Gn scope mg h1 C1)(g2:Gn scope mg h2 C2)(m1:PySem.W.exmOne K (.ref C) (.ref C1)=some true)(m2:PySem.W.exmOne K (.ref C) (.ref C2)=some true)(gi:isG scope "isinstance")(mi:mg "isinstance"=none)(gv:isG scope "ValueError")(mv:mg "ValueError"=none)(g:XGet K C)(na:PySem.W.findIn K (.ref C) fx=some none)(s1:Sub K mg scope C c1 false)(s2:Sub K mg scope C c2 false)(s3:Sub K mg scope C c3 false)(s4:Sub K mg scope C c4 false)(s5:Sub K mg scope C c5 false)(s6:Sub K mg scope C c6 false)(sv:PySem.W.kitOne K (.ref C) (.type "ValueError")=some true)(hIf:cS G 60 scope [a0,a1,a2,th,en,wd,li,nn,bs] stIf=some cIf)(hLen:cE G 60 scope [a0,a1,a2,th,en,wd,li,nn,bs] lenE=some cl)(hpl:Zm lenE=true)(hI:∀ F ρ s r s',ex F cIf ρ s=some (r,s')→r=.nx ρ∨∃ d,r=.rt d)(hT:T i=some ⟨3,9,ZcX ib ch cIf cl⟩)(lw:∀ s d s',run T n ch [] s=some (d,s')→4≤n∧s'=s) :
  FnOk P w K mg base CX0 (n+1) f (PySem.W.fnOf name qual params [.Assign [.Name th q74] (.Constant .none j2 q73) q75,.Try [.Expr (.Call (.Name bn q42) [.Name a0 q43,.Name a1 q44,.Name a2 q45] [] q46) q47] [.ExceptHandler (some (.Name h1 q48)) (some en) [.Assign [.Name wd q5] (Isi en c1 q1 q2 q3 q4) q6,.Assign [.Name li q20] (.BoolOp .Or [Isi en c2 q7 q8 q9 q10,Isi en c3 q11 q12 q13 q14,Isi en c4 q15 q16 q17 q18] q19) q21,.Assign [.Name nn q31] (.BoolOp .Or [Isi en c5 q22 q23 q24 q25,Isi en c6 q26 q27 q28 q29] q30) q32,.Assign [.Name th q40] (.Tuple [.Attribute (.Name en q33) fx q34,(.BoolOp .Or [.Name wd q35,.Name li q36,.Name nn q37] q38)] tx q39) q41] q49] [] [] q50,stIf,.Assign [.Name bs q77] (.Constant (.bool false) j3 q76) q78,.Try [.Expr (.Call (.Name bn q57) [.Name a0 q58,.Name a1 q59,.Name a2 q60] [] q61) q62] [.ExceptHandler (some (.Name h2 q63)) (some en) [.Assign [.Name bs q55] (Isi en "ValueError" q51 q52 q53 q54) q56] q64] [] [] q65,.Return (some (.BoolOp .And [.Compare (.Name th q66) [.Eq] [.Tuple [lenE,.Constant (.bool false) j1 q67] ty q68] q69,.Name bs q70] q71)) q72] scope dV kV doc pm an cdv ct) [a0,a1,a2] (spD K (run T (n+1) i)):=by
 have hrun:run T (n+1) i=fnD (run T n) ⟨3,9,ZcX ib ch cIf cl⟩:=by
  show(match T i with|some f=>fnD (run T n) f|none=>fun _ _=>none)=_
  rw[hT]
 refine fn_of lk hcd S (fun vs H Q E h=>?_) (fun A outer s H vs Q E hr h=>?_)
 ·obtain⟨ad,es,st,d,st',_,hd,e,_⟩:=h
  rw[hrun]at e;unfold fnD at e;split at e
  ·rename_i hl
   rw[hd.length];exact hl
  ·cases e
 ·obtain⟨ad,es,s0,d,st',S0,hd,e,pp⟩:=h
  rw[hrun]at e;unfold fnD at e;split at e
  ·rename_i hl
   match es,hl,hd,e with
   |[p,t,l],_,hd,e=>
   obtain⟨v0,v1,v2,rfl⟩:=ZaY (show vs.length=3 from hd.length);have Cx:CxtS (cxOf CX0 P w K mg base [a0,a1,a2,th,en,wd,li,nn,bs] qual scope f cdv A outer s H E).nox G (run T n) scope [a0,a1,a2,th,en,wd,li,nn,bs]:={
    hN:=rfl
    vis:=fun y hy=>UX hy
    glb:=fun y hy=>WJ hy
    calm:=rfl
    hu:=hr.units
    gl:=gl _ hr
    cel:=fun y hy=>WH hy
    nx:=rfl
    nd:=S.nd
    loc:=hloc
    fn:=fun _=>rfl }
   have SO:=(Y2 (hc n) 60).2.1 _ _ _ Cx;have LN:=((Y2 (hc n) 60).1.1 _ _ _ Cx.toCxt lenE cl hLen).pe;have V4:Vis scope en:=.inl n4.l;have E0':EnvOk K ad H (L2.start [a0,a1,a2,th,en,wd,li,nn,bs] [v0,v1,v2]) [some p,some t,some l,none,none,none,none,none,none]:=Wn (N:=[a0,a1,a2,th,en,wd,li,nn,bs]) hd (Nat.le_of_ble_eq_true rfl);have dec:∃ r,ex (run T n) (ZcX ib ch cIf cl) [some p,some t,some l,none,none,none,none,none,none] s0=some (r,st')∧(r=.rt d∨∃ ρ,r=.nx ρ∧d=.non):=by
    split at e
    ·rename_i d' s' q;cases e;exact⟨_,q,.inl rfl⟩
    ·rename_i ρ' s' q;cases e;exact⟨_,q,.inr ⟨_,rfl,rfl⟩⟩
    ·cases e
   obtain⟨r,e,hrd⟩:=dec;have a1:∃ s',ev (run T n) (.call ch .anil []) [some p,some t,some l,none,none,none,none,none,none] s0=some s'∧ex (run T n) (.seq (.set 3 (.tupE (.acons (.bin .Add (.call ib Zax []) (.cst (.int 0))) (.acons (.cst (.bl false)) .anil)))) (.seq cIf (.seq (.set 8 (.cst (.bl false))) (.seq (.act (.bin .Add (.call ib Zax []) (.cst (.int 0)))) (.seq (.set 8 (.cst (.bl true))) (.ret (.cmp .Eq (.bin .Sub (.ix (.var 3) (.cst (.int 0))) cl) (.cst (.int 0))))))))) [some p,some t,some l,none,none,none,none,none,none] s'.2=some (r,st'):=by
    rcases Y0 e with⟨ρ',s',k1,k2⟩|⟨k1,k2⟩
    ·obtain⟨d0,k3,k4⟩:=XZ k1
     cases k4;exact⟨_,k3,k2⟩
    ·obtain⟨d0,k3,k4⟩:=XZ k2
     exact absurd k4 (k1 _)
   obtain⟨⟨d0,s'⟩,k1,e1⟩:=a1;obtain⟨h4,rfl⟩:=lw s0 d0 s' k1;have a2:∃ z s1,run T n ib [p,t,l] s'=some (.int z,s1)∧ex (run T n) (.seq cIf (.seq (.set 8 (.cst (.bl false))) (.seq (.act (.bin .Add (.call ib Zax []) (.cst (.int 0)))) (.seq (.set 8 (.cst (.bl true))) (.ret (.cmp .Eq (.bin .Sub (.ix (.var 3) (.cst (.int 0))) cl) (.cst (.int 0)))))))) [some p,some t,some l,some (.tup [.int z,.bl false]),none,none,none,none,none] s1=some (r,st'):=by
    rcases Y0 e1 with⟨ρ',s',k1,k2⟩|⟨k1,k2⟩
    ·obtain⟨d0,k3,k4⟩:=Y1 k1
     cases k4;obtain⟨z,k5,rfl⟩:=Za7 k3;rw[Zfm rfl rfl rfl]at k5;exact⟨z,_,k5,k2⟩
    ·obtain⟨d0,k3,k4⟩:=Y1 k2
     exact absurd k4 (k1 _)
   obtain⟨z,s1',k2,e2⟩:=a2;have BX:=BX h4;have O:∀ {e:Value}{t:Str}{b:Bool} (c:Sub K mg scope C t b) {p1 p2 p3 p4:Pos},PE (Xm (cxOf CX0 P w K mg base [a0,a1,a2,th,en,wd,li,nn,bs] qual scope f cdv A outer s H E).nox e).nox (Isi en t p1 p2 p3 p4) (Ze8 4 C b):=by
    intro e t b c p1 p2 p3 p4;exact Zev g gi mi rfl V4 c n4.d n4.c
   have AR:∀ {p1 p2 p3:Pos},PA (cxOf CX0 P w K mg base [a0,a1,a2,th,en,wd,li,nn,bs] qual scope f cdv A outer s H E).nox.nox [.Name a0 p1,.Name a1 p2,.Name a2 p3] (tCons (tVar 0) (tCons (tVar 1) (tCons (tVar 2) tNil))):=by
    intro p1 p2 p3;exact pa_cons (pe_var (i:=0) rfl (.inl n0.l) n0.d n0.c) (pa_cons (pe_var (i:=1) rfl (.inl n1.l) n1.d n1.c) (pa_cons (pe_var (i:=2) rfl (.inl n2.l) n2.d n2.c) pa_nil))
   refine⟨_,PSs.nox (pss_cons (ps_set (i:=3) S.nd rfl (.inl n3.l) pe_non) (pss_cons (ZcP (ni:=4) (k:=n) ⟨rfl,rfl⟩ S.nd BX hr gb.g gb.m kb bb .nil AR g1.g g1.m m1 rfl n4.l (fun e=>
     pss_cons (ps_set (i:=5) S.nd rfl (.inl n5.l) (O s1)) (pss_cons (ps_set (i:=6) S.nd rfl (.inl n6.l) (pe_or (O s2) (pe_or (O s3) (pe_one (O s4))))) (pss_cons (ps_set (i:=7) S.nd rfl (.inl n7.l) (pe_or (O s5) (pe_one (O s6)))) (pss_one (ps_set (i:=3) S.nd rfl (.inl n3.l)
      (pe_tup (pa_cons (Zip (i:=4) g na rfl V4 (by rfl) n4.d n4.c) (pa_cons (pe_or (pe_var (i:=5) rfl (.inl n5.l) n5.d n5.c) (pe_or (pe_var (i:=6) rfl (.inl n6.l) n6.d n6.c) (pe_one (pe_var (i:=7) rfl (.inl n7.l) n7.d n7.c)))) pa_nil)))))))) gb.d g1.d)
    (pss_cons (SO _ _ hIf) (pss_cons (ps_set (i:=8) S.nd rfl (.inl n8.l) pe_bl) (pss_cons (ZcP (ni:=4) (k:=n) ⟨rfl,rfl⟩ S.nd BX hr gb.g gb.m kb bb .nil AR g2.g g2.m m2 rfl n4.l (fun e=>pss_one (ps_set (i:=8) S.nd rfl (.inl n8.l) (Zew (i:=4) g gi mi rfl V4 gv mv sv n4.d n4.c))) gb.d g2.d)
    (pss_one (ps_ret (pe_and (pe_cmpR (ZgD hr.units0) (pe_var (i:=3) rfl (.inl n3.l) n3.d n3.c) (pe_tup (pa_cons LN (pa_cons pe_bl pa_nil) (Ze hpl))) (nobehind _ (by decide) (by decide))) (pe_one (pe_var (i:=8) rfl (.inl n8.l) n8.d n8.c)))))))))),?_⟩
   refine ZiE S0 (E0'.skip (i:=3) rfl) rfl rfl rfl k2 fun ea ad1 H1 x1 S1 ex1=>?_
   have hlk:List.lookup fx [(fx,V.int z)]=some (.int z):=by rw[List.lookup_cons,beq_self_eq_true]
   have E1:=((((E0'.skip (i:=3) (x:=some .non) rfl).mono x1).skip (i:=4) (x:=some (.ref ea)) rfl).skip (i:=5) (x:=some (.bl false)) rfl).skip (i:=6) (x:=some (.bl false)) rfl;have E1:=E1.skip (i:=7) (x:=some (.bl false)) rfl;refine⟨ea,_,rfl,ex1,ea,_,rfl,ex1,false,rfl,ea,_,rfl,ex1,false,rfl,ea,_,rfl,ex1,ea,_,rfl,ex1,false,rfl,ea,_,rfl,ex1,ea,_,.int z,rfl,ex1,hlk,.bl false,rfl,false,rfl,.bl false,rfl,false,rfl,.bl false,rfl,(show(2:Nat)≤sizeLine by decide),fun a ha=>?_⟩
   have E2:=(EnvOk.set (E1.mono (Ext.laid ha (o:=.tup [V.int z,.bl false]))) 3 (Den.tup (.inl upd_same) (.cons (.int z) (.cons (.bl false) .nil)))).skip (i:=4) (x:=none) rfl;have S2:StOk K ad1 (upd H1 a (.tup [V.int z,.bl false])) s1':=S1.laid ha;have x2:Ext ad H ad1 (upd H1 a (.tup [V.int z,.bl false])):=x1.trans (Ext.laid ha);rcases Y0 e2 with⟨ρ',s2',k3,e3⟩|⟨k3,k4⟩
   ·rcases hI _ _ _ _ _ k3 with z1|⟨d',z1⟩
    ·cases z1
     have a4:∃ z2 s3,run T n ib [p,t,l] s2'=some (.int z2,s3)∧ex (run T n) (.ret (.cmp .Eq (.bin .Sub (.ix (.var 3) (.cst (.int 0))) cl) (.cst (.int 0)))) (Zt (Zt [some p,some t,some l,some (.tup [.int z,.bl false]),none,none,none,none,none] 8 (.bl false)) 8 (.bl true)) s3=some (r,st'):=by
      rcases Y0 e3 with⟨ρ',s',k1,k2⟩|⟨k1,k2⟩
      ·obtain⟨d0,k3,k4⟩:=Y1 k1
       cases k4;cases k3;rcases Y0 k2 with⟨ρ',s',k1,k2⟩|⟨k1,k2⟩
       ·obtain⟨d0,k3,k4⟩:=XZ k1
        cases k4;obtain⟨z2,k5,rfl⟩:=U1 k3;rw[Zfm (p:=p) (t:=t) (l:=l) rfl rfl rfl]at k5;rcases Y0 k2 with⟨ρ',s',k1,k2⟩|⟨k1,k2⟩
        ·obtain⟨d0,k3,k4⟩:=Y1 k1
         cases k4;cases k3;exact⟨z2,_,k5,k2⟩
        ·obtain⟨d0,k3,k4⟩:=Y1 k2
         exact absurd k4 (k1 _)
       ·obtain⟨d0,k3,k4⟩:=XZ k2
        exact absurd k4 (k1 _)
      ·obtain⟨d0,k3,k4⟩:=Y1 k2
       exact absurd k4 (k1 _)
     obtain⟨z2,s3',k5,e4⟩:=a4;refine Z7 E2 S2 k3 fun σ3 ad3 H3 x3 S3 E3=>?_
     have hl3:σ3.length=9:=E3.len;refine ZiE S3 (E3.set 8 (.bl false)) rfl rfl rfl k5 fun eb ad4 H4 x4 S4 ex4=>?_
     refine⟨eb,_,List.getElem?_set_self (by rw[List.length_set,hl3];decide),ex4,?_⟩
     have E4:=((((E3.set 8 (.bl false)).mono x4).skip (i:=4) (x:=some (.ref eb)) rfl).set 8 (.bl true)).skip (i:=4) (x:=none) rfl;obtain⟨k,e5,e6⟩:=Zki (z:=z) rfl e4;obtain⟨v3,b1,b2⟩:=E4.at_ 3 (.tup [.int z,.bl false]) rfl;obtain⟨a',xs,rfl,tx1,tx2⟩:=b2.ofTup;have x4:=x2.trans (x3.trans x4);cases tx2 with
     |cons dz tx2=>
     cases tx2 with
     |cons db tx2=>
     cases tx2;cases dz.ofInt;cases db.ofBl;refine⟨.ref a',b1,ad4,_,s3',.int k,st',E4,S4,e5,fun vk ad5 H5 x5 S5 dk=>?_⟩
     cases dk.ofInt;refine⟨(show(2:Nat)≤sizeLine by decide),fun b hb=>⟨a',b,z,k,false,rfl,rfl,(tx1.mono x5).mono (Ext.laid (ad:=ad5) hb),.inl upd_same,_,rfl,?_⟩⟩
     have x6:=x4.trans (x5.trans (Ext.laid hb (o:=.tup [V.int k,.bl false])));have S6:StOk K ad5 (upd H5 b (.tup [V.int k,.bl false])) st':=S5.laid hb;have pd:d=.bl (decide (z=k)):=by
      rw[e6]at hrd;rcases hrd with z1|⟨ρ,z1,_⟩
      ·cases z1;rfl
      ·cases z1
     subst pd;have fin:Q (.bl (decide (z=k))) (upd H5 b (.tup [V.int k,.bl false])):=pp _ ad5 _ x6 S6 (.bl _);have h8:(((((σ3.set 8 (some (V.bl false))).set 4 (some (V.ref eb))).set 8 (some (V.bl true))).set 4 none))[8]?=some (some (V.bl true)):=by
      rw[List.getElem?_set_ne (by decide),List.getElem?_set_self (by rw[List.length_set,List.length_set,hl3];decide)]
     by_cases hz:z=k
     ·rw[if_pos (decide_eq_true hz)]
      rw[decide_eq_true hz]at fin;exact⟨.bl true,h8,fin⟩
     ·rw[if_neg (by simpa using hz)]
      rw[decide_eq_false hz]at fin;exact fin
    ·cases z1
   ·rcases hI _ _ _ _ _ k4 with z1|⟨d',z1⟩
    ·exact absurd z1 (k3 _)
    ·subst z1
     rcases hrd with z1|⟨ρ,z1,_⟩
     ·cases z1
      exact Z7 E2 S2 k4 (pp.later x2)
     ·cases z1
  ·cases e
end
end Dp


namespace Dp
open PySem
theorem X6:∀ {l m:List Char},l.map Char.toNat=m.map Char.toNat→l=m
 |[],[],_=>rfl
 |[],_ :: _,h=>by cases h
 |_ :: _,[],h=>by cases h
 |a :: l,b :: m,h=>by
  rw[List.map_cons,List.map_cons]at h
  injection h with h1 h2
  have:a=b:=by
   apply Char.ext
   apply UInt32.toNat_inj.mp
   exact h1
  rw[this,X6 h2]
@[simp] theorem Zko{a b:String}:(Str.ofString a=Str.ofString b)=(a=b):=by
 apply propext
 constructor
 ·intro h
  rw[Str.ofString_eq_toList,Str.ofString_eq_toList]at h
  injection h with h
  have h2:=congrArg Array.toList h;simp only[List.toList_toArray]at h2;exact String.toList_inj.mp (X6 h2)
 ·intro h;rw[h]
section
variable {F:PFn}{π:Zs}{a b c lo hi it elt cnd:CE}{M:List Nat}
noncomputable def VL(c:Option P)(x y:Option P):Option P:=match c with
 |some (.bl true)=>x
 |some (.bl false)=>y
 |_=>none
@[simp] theorem ZbD{k:Bool}{x y:Option P}:VL (some (.bl k)) x y=if k=true then x else y:=by cases k<;>rfl
@[simp] theorem ZhO{α β:Type}{p:Prop}[Decidable p]{u v:Option α}{f:α→Option β}:(if p then u else v).bind f=if p then u.bind f else v.bind f:=by split<;>rfl
@[simp] theorem pe_var{i:Nat}:pe F (.var i) π=(π[i]?).join:=by
 show Wb i π=_;unfold Wb;cases π[i]? with
 |none=>rfl
 |some o=>cases o<;>rfl
@[simp] theorem Vn{d:D}:pe F (.cst d) π=ofD d:=Eq.trans rfl rfl
@[simp] theorem X9{i:Int}:ofD (.int i)=some (.int i):=Eq.trans rfl rfl
@[simp] theorem Zi6{i:Str}:ofD (.str i)=some (.str i):=Eq.trans rfl rfl
@[simp] theorem ZjF{i:Bool}:ofD (.bl i)=some (.bl i):=Eq.trans rfl rfl
@[simp] theorem Zi5:ofD .non=some .non:=Eq.trans rfl rfl
@[simp] theorem Qx:Wr []=some []:=Eq.trans rfl rfl
theorem Xv{f:PEv}{g:P→Option P}:pq1 f g π=(f π).bind g:=by unfold pq1;cases f π<;>rfl
theorem Wu{f f':PEv}{g:P→P→Option P}:pq2 f f' g π=(f π).bind fun x=>(f' π).bind fun y=>g x y:=by unfold pq2;cases f π<;>cases f' π<;>rfl
theorem ZgH{f f' f'':PEv}{g:P→P→P→Option P}:pq3 f f' f'' g π=(f π).bind fun x=>(f' π).bind fun y=>(f'' π).bind fun z=>g x y z:=by unfold pq3;cases f π<;>cases f' π<;>cases f'' π<;>rfl
theorem Vm{f g h:PEv}:Yq f g h π=VL (f π) (g π) (h π):=by
 unfold Yq VL;rfl
@[simp] theorem Y7{op:Operator}:pe F (.bin op a b) π=(pe F a π).bind fun x=>(pe F b π).bind fun y=>Y4 op x y:=Wu
@[simp] theorem ZjG{op:CmpOp}:pe F (.cmp op a b) π=(pe F a π).bind fun x=>(pe F b π).bind fun y=>Yg op x y:=Wu
@[simp] theorem ZjL:pe F (.neg a) π=(pe F a π).bind Za2:=Xv
@[simp] theorem pe_not:pe F (.not a) π=(pe F a π).bind Za5:=Xv
@[simp] theorem pe_and:pe F (.and a b) π=VL (pe F a π) (pe F b π) (some (.bl false)):=Vm
@[simp] theorem pe_or:pe F (.or a b) π=VL (pe F a π) (some (.bl true)) (pe F b π):=Vm
@[simp] theorem ZjH:pe F (.ife c a b) π=VL (pe F c π) (pe F a π) (pe F b π):=Vm
@[simp] theorem Zi8:pe F (.tupE a) π=pe F a π:=Eq.trans rfl rfl
@[simp] theorem Zi7:pe F (.lstE a) π=(pe F a π).bind Jp:=Xv
@[simp] theorem Zae:pe F .anil π=some (.tup []):=Eq.trans rfl rfl
@[simp] theorem Xu:pe F (.acons a b) π=(pe F a π).bind fun x=>(pe F b π).bind fun y=>VM x y:=Wu
@[simp] theorem pe_ix:pe F (.ix a b) π=(pe F a π).bind fun x=>(pe F b π).bind fun y=>ixP x y:=Wu
@[simp] theorem pe_slice:pe F (.slice a lo hi) π=(pe F a π).bind fun x=>(pe F lo π).bind fun y=>(pe F hi π).bind fun z=>Xw x y z:=ZgH
@[simp] theorem ZcI:pe F .nop π=some .non:=Eq.trans rfl rfl
@[simp] theorem Zaf:pe F (.part a) π=(pe F a π).bind V2:=Xv
@[simp] theorem pe_call{f:Nat}{ds:List D}:pe F (.call f a ds) π=(pe F a π).bind (W3 (F f) ds):=Xv
@[simp] theorem ZjJ:pe F (.len a) π=(pe F a π).bind Jl:=Xv
@[simp] theorem Vo:pe F (.tupleOf a) π=(pe F a π).bind Wx:=Xv
@[simp] theorem ZjK:pe F (.max a b) π=(pe F a π).bind fun x=>(pe F b π).bind fun y=>Za1 x y:=Wu
@[simp] theorem ZjI{T:Ty}:pe F (.isi T a) π=(pe F a π).bind (Qn T):=Xv
theorem UH{rng:Bool}{fr:List Nat}:pe F (.comp rng fr it elt cnd) π=(pe F it π).bind fun x=>(Xf rng x).bind fun xs=>if xs.length≤1000 then (YU (fun p=>pe F elt (YA π fr p)) (fun p=>pe F cnd (YA π fr p)) xs).bind (fun ys=>some (.lst true ys)) else none:=by
 show YN ZcM (Xf rng) fr (pe F it) (pe F elt) (pe F cnd) π=_;unfold YN;cases pe F it π with
 |none=>rfl
 |some x=>
  simp only[Option.bind_some];cases Xf rng x with
  |none=>rfl
  |some xs=>
   simp only[Option.bind_some];split
   ·show(match YU (fun p=>pe F elt (YA π fr p)) (fun p=>pe F cnd (YA π fr p)) xs with
     |some ys=>some (P.lst true ys)
     |none=>none)=_
    cases YU (fun p=>pe F elt (YA π fr p)) (fun p=>pe F cnd (YA π fr p)) xs<;>rfl
   ·rfl
@[simp] theorem Zio{tab:List (Nat×Nat)}:pe F (.meth tab a b) π=(pe F a π).bind fun x=>(pe F b π).bind fun y=>X7 F tab x y:=Wu
variable {i j:Int}{xs ys:List P}{x y:P}{m:Bool}
@[simp] theorem Uk:Y4 .Add (.int i) (.int j)=some (.int (i+j)):=Eq.trans rfl rfl
@[simp] theorem ZiW:Y4 .Sub (.int i) (.int j)=some (.int (i - j)):=Eq.trans rfl rfl
@[simp] theorem JO:Y4 .Mult (.int i) (.int j)=if ZJ i||ZJ j then some (.int (i * j)) else none:=by
 show(match (if ZJ i||ZJ j then some ((i * j)) else none:Option Int) with
  |some k=>some (P.int k)
  |none=>none)=_
 by_cases h:(ZJ i||ZJ j)=true
 ·rw[if_pos h,if_pos h]
 ·rw[if_neg h,if_neg h]
@[simp] theorem ZhM:Y4 .FloorDiv (.int i) (.int j)=if 0 < j∧j < 1073741824 then some (.int (i / j)) else if j < 0∧-1073741824 < j then some (.int (i.fdiv j)) else none:=by
 show(match (if 0 < j∧j < 1073741824 then some (i / j) else if j < 0∧-1073741824 < j then some (i.fdiv j) else none:Option Int) with
  |some k=>some (P.int k)
  |none=>none)=_
 by_cases h:0 < j∧j < 1073741824
 ·rw[if_pos h,if_pos h]
 ·rw[if_neg h,if_neg h]
  by_cases h':j < 0∧-1073741824 < j
  ·rw[if_pos h',if_pos h']
  ·rw[if_neg h',if_neg h']
@[simp] theorem ZdA:Y4 .Mod (.int i) (.int j)=if 0 < j then some (.int (i % j)) else if j < 0 then some (.int (i.fmod j)) else none:=by
 show(match (if 0 < j then some (i % j) else if j < 0 then some (i.fmod j) else none:Option Int) with
  |some k=>some (P.int k)
  |none=>none)=_
 by_cases h:0 < j
 ·rw[if_pos h,if_pos h]
 ·rw[if_neg h,if_neg h]
  by_cases h':j < 0
  ·rw[if_pos h',if_pos h']
  ·rw[if_neg h',if_neg h']
@[simp] theorem ZiV:Y4 .LShift (.int i) (.int j)=if 0≤j∧j≤1000∧ZJ i=true then some (.int (i * 2 ^ j.toNat)) else none:=by
 show(match (if 0≤j∧j≤1000∧ZJ i=true then some ((i * 2 ^ j.toNat)) else none:Option Int) with
  |some k=>some (P.int k)
  |none=>none)=_
 by_cases h:0≤j∧j≤1000∧ZJ i=true
 ·rw[if_pos h,if_pos h]
 ·rw[if_neg h,if_neg h]
@[simp] theorem ZiT:Y4 .Add (.tup xs) (.tup ys)=if xs.length+ys.length≤Zj then some (.tup (xs++ys)) else none:=by
 show(if YW .Add=true∧xs.length+ys.length≤Zj then some (P.tup (xs++ys)) else none)=_
 by_cases h:xs.length+ys.length≤Zj
 ·rw[if_pos ⟨rfl,h⟩,if_pos h]
 ·rw[if_neg (fun z=>h z.2),if_neg h]
@[simp] theorem ZiU:Y4 .Mult (.tup [x]) (.int j)=if j≤1000∧-1000≤j then some (.tup (List.replicate j.toNat x)) else none:=by
 show(if Xc .Mult=true then Zc0 [x] j else none)=_
 exact(if_pos (show Xc .Mult=true from rfl)).trans rfl
@[simp] theorem ZhL{m':Bool}:Y4 .Add (.lst m xs) (.lst m' ys)=if xs.length+ys.length≤Zj then some (.lst true (xs++ys)) else none:=by
 show(if YW .Add=true∧xs.length+ys.length≤Zj then some (P.lst true (xs++ys)) else none)=_
 by_cases h:xs.length+ys.length≤Zj
 ·rw[if_pos ⟨rfl,h⟩,if_pos h]
 ·rw[if_neg (fun z=>h z.2),if_neg h]
@[simp] theorem ZhN:Y4 .Mult (.lst true [x]) (.int j)=if j≤1000∧-1000≤j then some (.lst true (List.replicate j.toNat x)) else none:=by
 show(if Xc .Mult=true then ZcZ true [x] j else none)=_
 exact(if_pos (show Xc .Mult=true from rfl)).trans rfl
theorem lim_iff:ZJ i=true↔-(2 ^ 64) < i∧i < 2 ^ 64:=by unfold ZJ;rw[Bool.and_eq_true,decide_eq_true_iff,decide_eq_true_iff]
theorem Uy(h:-(2 ^ 64) < i)(h':i < 2 ^ 64):ZJ i=true:=lim_iff.mpr ⟨h,h'⟩
@[simp] theorem Zjg:Yg .Lt (.int i) (.int j)=some (.bl (decide (i < j))):=Eq.trans rfl rfl
@[simp] theorem Zjf:Yg .LtE (.int i) (.int j)=some (.bl (decide (i≤j))):=Eq.trans rfl rfl
@[simp] theorem Zje:Yg .Gt (.int i) (.int j)=some (.bl (decide (j < i))):=Eq.trans rfl rfl
@[simp] theorem Zjd:Yg .GtE (.int i) (.int j)=some (.bl (decide (j≤i))):=Eq.trans rfl rfl
@[simp] theorem ZiX:Yg .Eq (.int i) (.int j)=some (.bl (decide (i=j))):=Eq.trans rfl rfl
@[simp] theorem ZiZ:Yg .NotEq (.int i) (.int j)=some (.bl (!decide (i=j))):=Eq.trans rfl rfl
@[simp] theorem ZiY{s t:Str}:Yg .Eq (.str s) (.str t)=some (.bl (decide (s=t))):=Eq.trans rfl rfl
@[simp] theorem Zi0{s t:Str}:Yg .NotEq (.str s) (.str t)=some (.bl (!decide (s=t))):=Eq.trans rfl rfl
@[simp] theorem neg_int:Za2 (.int i)=some (.int (-i)):=Eq.trans rfl rfl
@[simp] theorem Zgs:Za5 (.bl m)=some (.bl (!m)):=Eq.trans rfl rfl
@[simp] theorem Zi3:Jp (.tup xs)=some (.lst true xs):=Eq.trans rfl rfl
@[simp] theorem U9:VM x (.tup xs)=if xs.length < 1000 then some (.tup (x :: xs)) else none:=Eq.trans rfl rfl
@[simp] theorem Qz:V2 (.int i)=some (.int i):=Eq.trans rfl rfl
@[simp] theorem Zi2:Jl (.tup xs)=some (.int xs.length):=Eq.trans rfl rfl
@[simp] theorem Zi1:Jl (.lst m xs)=some (.int xs.length):=Eq.trans rfl rfl
@[simp] theorem V7:Wx (.lst m xs)=some (.tup xs):=Eq.trans rfl rfl
@[simp] theorem int_int:Zjl (.int i)=some (.int i):=Eq.trans rfl rfl
@[simp] theorem Zi4:Za1 (.int i) (.int j)=some (.int (if j > i then j else i)):=Eq.trans rfl rfl
@[simp] theorem ix_tup:ixP (.tup xs) (.int i)=atP xs i:=Eq.trans rfl rfl
@[simp] theorem Zjy:ixP (.lst m xs) (.int i)=atP xs i:=Eq.trans rfl rfl
@[simp] theorem Zju:Qn .tuple (.tup xs)=some (.bl true):=Eq.trans rfl rfl
@[simp] theorem Zjt{s:Str}:Qn .str (.str s)=some (.bl true):=Eq.trans rfl rfl
@[simp] theorem Zjs:Qn .str (.int i)=some (.bl false):=Eq.trans rfl rfl
@[simp] theorem U5{g:List P→Option P}{ds:List D}:W3 g ds (.tup xs)=(Wr ds).bind fun es=>g (xs++es):=by
 show(match Wr ds with|some es=>g (xs++es)|none=>none)=_
 cases Wr ds<;>rfl
@[simp] theorem ZiA:Xw x (.int i) .non=Z5 x (some i) none:=Eq.trans rfl rfl
@[simp] theorem QP:Xw x .non (.int j)=Z5 x none (some j):=Eq.trans rfl rfl
@[simp] theorem V5{l h:Option Int}:Z5 (.lst m xs) l h=some (.lst true (Wk xs l h)):=Eq.trans rfl rfl
theorem XO{n:Nat}(h:i=(n:Int)):atP xs i=xs[n]?:=by
 subst h;unfold atP ixN;rw[if_pos (by omega)]
 by_cases hn:(n:Int) < xs.length
 ·rw[if_pos hn];rfl
 ·rw[if_neg hn]
  rw[List.getElem?_eq_none (by omega)]
  rfl
@[simp] theorem ZiS{n:Nat}:atP xs ((n:Nat):Int)=xs[n]?:=XO rfl
@[simp] theorem Zkr:atP xs 2=xs[2]?:=XO rfl
@[simp] theorem Zks:atP xs 3=xs[3]?:=XO rfl
@[simp] theorem Zkt:atP xs 4=xs[4]?:=XO rfl
@[simp] theorem Zkp:atP xs 0=xs[0]?:=XO rfl
@[simp] theorem Zkq:atP xs 1=xs[1]?:=XO rfl
@[simp] theorem Zkm:atP xs (-1)=xs.getLast?:=by
 unfold atP ixN;rw[if_neg (by omega)]
 cases xs with
 |nil=>rfl
 |cons x xs=>
  rw[if_pos (by simp only[List.length_cons];omega),List.getLast?_eq_getElem?]
  show(x :: xs)[(-1+(((x :: xs).length:Nat):Int)).toNat]?=_;have:(-1+(((x :: xs).length:Nat):Int)).toNat=(x :: xs).length - 1:=by omega
  rw[this]
variable {s t:CS}
noncomputable def We(x:Option PFl)(g:Zs→Option PFl):Option PFl:=match x with
 |some (.nx π')=>g π'
 |r=>r
@[simp] theorem Zo{g:PEx}:We (some (.nx π)) g=g π:=Eq.trans rfl rfl
@[simp] theorem Zja{g:PEx}:We (some (.rt x)) g=some (.rt x):=Eq.trans rfl rfl
@[simp] theorem Zhw{g:PEx}:We none g=none:=Eq.trans rfl rfl
@[simp] theorem ZiD{p:Prop}[Decidable p]{u v:Option PFl}{g:PEx}:We (if p then u else v) g=if p then We u g else We v g:=by split<;>rfl
noncomputable def Zdg(c:Option P)(x y:Option PFl):Option PFl:=match c with
 |some (.bl true)=>x
 |some (.bl false)=>y
 |_=>none
@[simp] theorem UV{k:Bool}{x y:Option PFl}:Zdg (some (.bl k)) x y=if k=true then x else y:=by cases k<;>rfl
@[simp] theorem Yj:px F M .skip π=some (.nx π):=Eq.trans rfl rfl
@[simp] theorem Zr:px F M (.seq s t) π=We (px F M s π) (px F M t):=by
 show ZcQ _ _ π=_;unfold ZcQ We;rfl
@[simp] theorem ZcV:px F M (.ret a) π=(pe F a π).bind fun d=>some (.rt d):=by
 show ZcN _ π=_;unfold ZcN;cases pe F a π<;>rfl
@[simp] theorem Jy:px F M (.ite c s t) π=Zdg (pe F c π) (px F M s π) (px F M t π):=by
 show ZcK _ _ _ π=_;unfold ZcK Zdg;rfl
@[simp] theorem Zl{o:Option P}:Zp (o :: π) 0 x=some x :: π:=rfl
@[simp] theorem Zk{o:Option P}{k:Nat}:Zp (o :: π) (k+1) x=o :: Zp π k x:=rfl
theorem Zdx{a b:Bool}(ha:a=true)(hb:b=true):(a&&b)=true:=by rw[ha,hb];rfl
theorem Zdw{l:List Nat}:(l.all fun i=>!([]:List Nat).contains i)=true:=by
 induction l with
 |nil=>rfl
 |cons a l ih=>exact ih
theorem Zep:∀ e:CE,noM [] e=true:=by
 intro e
 induction e<;>first|rfl|assumption | (show(_&&_)=true;exact Zdx (by assumption) (by assumption)) | (show(_&&(_&&_))=true;exact Zdx (by assumption) (Zdx (by assumption) (by assumption))) | (show(_&&_)=true;exact Zdx (by assumption) Zdw)
theorem Zcf{e:CE}:Zq [] e x=true:=by unfold Zq;rw[Zep];rfl
@[simp] theorem ZeD{k:Nat}:px F [] (.set k a) π=(pe F a π).bind fun p=>some (.nx (Zp π k p)):=by
 show Jt _ _ _ _ π=_;unfold Jt;cases pe F a π with
 |none=>rfl
 |some p=>simp[Zcf]
theorem UJ{k:Nat}:px F M (.set k a) π=(pe F a π).bind fun p=>if (if M.contains k then YG M a p else Zq M a p||YG M a p) then some (.nx (Zp π k p)) else mvP M k a p π:=by
 show Jt _ _ _ _ π=_;unfold Jt;cases pe F a π<;>rfl
theorem Jw{p:P}(h:pe F a π=some p)(hw:Zq M a p=true):px F M (.act a) π=some (.nx π):=by
 show ZcC _ _ _ π=_;unfold ZcC;rw[h];show(if Zq M a p=true then some (PFl.nx π) else none)=_
 rw[if_pos hw]
theorem Z4{k:Nat}{p:P}(h:pe F a π=some p)(hm:M.contains k=false)(hk:Zq M a p=true):px F M (.set k a) π=some (.nx (Zp π k p)):=by
 rw[UJ,h,Option.bind_some,hm,if_neg Bool.false_ne_true,hk,Bool.true_or,if_pos rfl]
theorem Wc{k:Nat}{p:P}(h:pe F a π=some p)(hm:M.contains k=true)(hk:YG M a p=true):px F M (.set k a) π=some (.nx (Zp π k p)):=by
 rw[UJ,h,Option.bind_some,hm,if_pos rfl,if_pos hk]
theorem Jx{k:Nat}(h:π[k]?=some (some (.lst true xs))):px F M (.app k a) π=(pe F a π).bind fun p=>if M.contains k&&Zq M a p&&decide (xs.length < Zj) then some (.nx (Zp π k (.lst true (xs++[p])))) else none:=by
 show ZcF _ _ _ _ π=_;unfold ZcF;rw[h];cases pe F a π<;>rfl
theorem ZgJ{k:Nat}(h:π[k]?=some (some (.lst true xs)))(he:pe F a π=some (.lst true ys))(hw:(M.contains k&&noM M a)=true)(hz:xs.length+ys.length≤Zj):px F M (.ext k a) π=some (.nx (Zp π k (.lst true (xs++ys)))):=by
 show ZcJ _ _ _ _ π=_;unfold ZcJ;simp only[h,he];rw[if_pos (by rw[Bool.and_eq_true];exact⟨hw,decide_eq_true hz⟩)]
theorem ZeA{k:Nat}(h:pe F it π=some (.lst m xs))(hw:!M.contains k&&Vv M (ZM s) it xs=true):px F M (.for1 k false it s) π=ZA (fun d π=>px F M s (Zp π k d)) xs π:=by
 show UI _ _ _ _ _ _ _ π=_;unfold UI;rw[h];show(if !M.contains k&&Vv M (ZM s) it xs then ZA (fun d π=>px F M s (Zp π k d)) xs π else none)=_
 rw[if_pos (by simpa using hw)]
theorem ZeC{k:Nat}(h:pe F it π=some (.tup xs))(hw:!M.contains k&&Zq M it (.tup xs)=true):px F M (.for1 k false it s) π=ZA (fun d π=>px F M s (Zp π k d)) xs π:=by
 show UI _ _ _ _ _ _ _ π=_;unfold UI;rw[h];show(if !M.contains k&&(false||Zq M it (.tup xs)) then ZA (fun d π=>px F M s (Zp π k d)) xs π else none)=_
 rw[if_pos (by simpa using hw)]
theorem Zah{k:Nat}{n:Int}(h:pe F it π=some (.int n))(h1:n < 2 ^ 62)(h2:-(2 ^ 62)≤n)(hw:M.contains k=false):px F M (.for1 k true it s) π=ZA (fun d π=>px F M s (Zp π k d)) (Yb n) π:=by
 show UI _ _ _ _ _ _ _ π=_;unfold UI;rw[h];have e:Ux true (.int n)=some (Yb n):=by
  show(if n < 2 ^ 62∧-(2 ^ 62)≤n then some (Yb n) else none)=_
  rw[if_pos ⟨h1,h2⟩]
 simp only[e];rw[if_pos (by simpa using hw)]
theorem ZeB{k l:Nat}{m':Bool}(h:pe F it π=some (.tup [.lst m xs,.lst m' ys]))(hw:(!M.contains k&&!M.contains l&&noM M it)=true):px F M (.forP k l it s) π=Yy (fun x y π=>px F M s (Zp (Zp π k x) l y)) (xs.zip ys) π:=by
 show QC _ _ _ _ _ _ π=_;unfold QC;rw[h];show(if (!M.contains k&&!M.contains l&&noM M it)=true then _ else _)=_
 rw[if_pos hw]
theorem Zez{k l:Nat}{x:P}(h:pe F it π=some x)(hx:Zdm x=some xs)(hw:(!M.contains k&&!M.contains l&&noM M it)=true):px F M (.forE k l it s) π=Yy (fun x y π=>px F M s (Zp (Zp π k x) l y)) (Wt 0 xs) π:=by
 show QB _ _ _ _ _ _ π=_;unfold QB;rw[h];dsimp only;rw[hx];show(if (!M.contains k&&!M.contains l&&noM M it)=true then _ else _)=_
 rw[if_pos hw]
theorem Zey{k l m':Nat}(h:pe F it π=some (.tup xs))(hw:!M.contains k&&!M.contains l&&!M.contains m'&&Zq M it (.tup xs)=true):px F M (.for4 k l m' it s) π=ZA (Ju k l m' (px F M s)) xs π:=by
 show QA _ _ _ _ _ _ _ π=_;unfold QA;rw[h];show(if !M.contains k&&!M.contains l&&!M.contains m'&&Zq M it (.tup xs) then ZA (Ju k l m' (px F M s)) xs π else none)=_
 rw[if_pos (by simpa using hw)]
noncomputable def V8(x:Option PFl)(g:Zs→Option PFl):Option PFl:=match x with
 |some (.nx π')=>g π'
 |some (.ct π')=>g π'
 |some (.bk π')=>some (.nx π')
 |some (.rt v)=>some (.rt v)
 |none=>none
@[simp] theorem Yk{g:PEx}:V8 (some (.nx π)) g=g π:=Eq.trans rfl rfl
@[simp] theorem Zjb{g:PEx}:V8 (some (.rt x)) g=some (.rt x):=Eq.trans rfl rfl
theorem Vf{B:P→Zs→Option PFl}:ZA B [] π=some (.nx π):=Eq.trans rfl rfl
theorem ZX{B:P→Zs→Option PFl}:ZA B (x :: xs) π=V8 (B x π) (ZA B xs):=by
 show(match B x π with
  |some (.nx π')=>ZA B xs π'
  |some (.ct π')=>ZA B xs π'
  |some (.bk π')=>some (.nx π')
  |some (.rt v)=>some (.rt v)
  |none=>none)=_
 unfold V8;rfl
theorem Qr{B:P→Zs→Option PFl}{I:Zs→Prop}:∀ {xs:List P},(∀ x∈xs,∀ π,I π→∃ π',B x π=some (.nx π')∧I π')→∀ π,I π→∃ π',ZA B xs π=some (.nx π')∧I π'
 |[],_,π,h=>⟨π,rfl,h⟩
 |x :: xs,h,π,i=>by
  obtain⟨π1,e1,i1⟩:=h x List.mem_cons_self π i;obtain⟨π2,e2,i2⟩:=Qr (fun y hy=>h y (List.mem_cons_of_mem _ hy)) π1 i1
  exact⟨π2,by unfold ZA;rw[e1];exact e2,i2⟩
noncomputable def YD(x:Option PFl):Option P:=match x with
 |some (.rt d)=>some d
 |some (.nx _)=>some .non
 |_=>none
@[simp] theorem Zkh:YD (some (.rt x))=some x:=Eq.trans rfl rfl
@[simp] theorem Ziu:YD none=none:=Eq.trans rfl rfl
@[simp] theorem Zi9{p:Prop}[Decidable p]{u v:Option PFl}:YD (if p then u else v)=if p then YD u else YD v:=by split<;>rfl
theorem Zgc{f:FD}{ds:List P}(hl:ds.length=f.ps)(hM:(Zz f.body).all (fun i=>decide (f.ps≤i))=true):fnP F f ds=YD (px F (Zz f.body) f.body (ds.map some++List.replicate (f.ns - ds.length) none)):=by
 unfold fnP;rw[if_pos ⟨hl,hM⟩];rfl
theorem Zn{T:Nat→Option FD}{n k:Nat}{f:FD}{ds:List P}(h:T k=some f)(hl:ds.length=f.ps)(hM:(Zz f.body).all (fun i=>decide (f.ps≤i))=true)(hN:(Va k&&!Vi f)=false:=by rfl)(hW:(k==16&&(T 999).isSome)=false:=by rfl) :
  Zg T (n+1) k ds=YD (px (Zg T n) (Zz f.body) f.body (ds.map some++List.replicate (f.ns - ds.length) none)):=by
 have:Zg T (n+1) k=fnP (Zg T n) f:=by rw[V3 h,if_neg (by rw[hN];exact Bool.false_ne_true)]
 rw[this];exact Zgc hl hM
section
variable {F:PFn}{M:List Nat}{π π':Zs}{a b:CS}{c:CE}{v:P}
end
theorem Zhv{xs:List P}:Xf false (.tup xs)=some xs:=rfl
theorem VZ{B:P→Zs→Option PFl}{I:Nat→Zs→Prop}:∀ (j k:Nat),(∀ i,k≤i→i < k+j→∀ π,I i π→∃ π',B (.int (i:Int)) π=some (.nx π')∧I (i+1) π')→∀ π,I k π→∃ π',ZA B ((List.range' k j).map fun(i:Nat)=>P.int (i:Int)) π=some (.nx π')∧I (k+j) π'
 |0,k,_,π,h=>⟨π,rfl,h⟩
 |j+1,k,hb,π,h=>by
  obtain⟨π1,e1,i1⟩:=hb k (Nat.le_refl _) (by omega) π h
  obtain⟨π2,e2,i2⟩:=VZ j (k+1) (fun i h1 h2=>hb i (by omega) (by omega)) π1 i1
  refine⟨π2,?_,by rw[show k+(j+1)=k+1+j by omega];exact i2⟩
  rw[List.range'_succ,List.map_cons,ZX,e1];exact e2
theorem Vg{B:P→Zs→Option PFl}(I:Nat→Zs→Prop){m:Nat}(hb:∀ i,i < m→∀ π,I i π→∃ π',B (.int (i:Int)) π=some (.nx π')∧I (i+1) π'){π:Zs}(h:I 0 π):∃ π',ZA B (Yb (m:Int)) π=some (.nx π')∧I m π':=by
 have:=VZ (B:=B) (I:=I) m 0 (fun i _ h2=>hb i (by omega)) π h
 rw[Nat.zero_add]at this;have e:Yb (m:Int)=(List.range' 0 m).map fun(i:Nat)=>P.int (i:Int):=by
  unfold Yb;rw[show((m:Int)).toNat=m by omega,List.range_eq_range']
 rw[e];exact this
theorem Zai{k:Nat}{n:Nat}(h:pe F it π=some (.int (n:Int)))(h1:n≤100000)(hw:M.contains k=false):px F M (.for1 k true it s) π=ZA (fun d π=>px F M s (Zp π k d)) (Yb (n:Int)) π:=
 Zah h (Int.lt_of_le_of_lt (Int.ofNat_le.mpr h1) (by decide)) (Int.le_trans (by decide) (Int.natCast_nonneg n)) hw
mutual
theorem ZaA:∀ {n:Nat}{x:P},okP n x=true→WW x x=true
 |_,.non,_=>rfl
 |_,.bl a,_=>by simp[WW]
 |_,.int a,_=>by simp[WW]
 |_,.str a,_=>by simp[WW]
 |0,.tup a,h=>by simp[okP]at h
 |n+1,.tup a,h=>WX (n:=n) (x:=a) h
 |_,.lst a b,h=>by simp[okP]at h
 |_,.dct a b,h=>by simp[okP]at h
 |_,.obj a,h=>by simp[okP]at h
 |_,.kt a,h=>by simp[okP]at h
theorem WX:∀ {n:Nat}{x:List P},Qy n x=true→XH x x=true
 |_,[],_=>rfl
 |n,a :: x,h=>by
  have h:(okP n a&&Qy n x)=true:=h;rw[Bool.and_eq_true]at h;show(WW a a&&XH x x)=true;rw[ZaA h.1,WX h.2];rfl
end
end
end Dp


namespace Dp
open PySem
noncomputable def c_around:FD:=⟨1,1,(.seq (.ret (.bin .Sub (.bin .Mod (.bin .Add (.var 0) (.cst (.int 1000000000))) (.cst (.int 2000000000))) (.cst (.int 1000000000))))
 .skip)⟩
noncomputable def c__law_whole:FD:=⟨1,1,(.seq (.ret (.and (.isi .int (.var 0)) (.not (.isi .bool (.var 0)))))
 .skip)⟩
noncomputable def c_divided:FD:=⟨2,2,(.seq (.ite (.cmp .Eq (.var 1) (.cst (.int 0))) (.seq (.ret (.cst (.int 0)))
 .skip) .skip)
 (.seq (.ret (.call 0 (.acons (.bin .FloorDiv (.var 0) (.var 1)) .anil) []))
 .skip))⟩
noncomputable def c_left_over:FD:=⟨2,2,(.seq (.ite (.cmp .Eq (.var 1) (.cst (.int 0))) (.seq (.ret (.var 0))
 .skip) .skip)
 (.seq (.ret (.bin .Sub (.var 0) (.bin .Mult (.var 1) (.bin .FloorDiv (.var 0) (.var 1)))))
 .skip))⟩
noncomputable def c_reckon:FD:=⟨3,3,(.seq (.ite (.cmp .Eq (.var 1) (.cst (.str (S "+")))) (.seq (.ret (.call 0 (.acons (.bin .Add (.var 0) (.var 2)) .anil) []))
 .skip) .skip)
 (.seq (.ite (.cmp .Eq (.var 1) (.cst (.str (S "-")))) (.seq (.ret (.call 0 (.acons (.bin .Sub (.var 0) (.var 2)) .anil) []))
 .skip) .skip)
 (.seq (.ite (.cmp .Eq (.var 1) (.cst (.str (S "*")))) (.seq (.ret (.call 0 (.acons (.bin .Mult (.var 0) (.var 2)) .anil) []))
 .skip) .skip)
 (.seq (.ite (.cmp .Eq (.var 1) (.cst (.str (S "/")))) (.seq (.ret (.call 1 (.acons (.var 0) (.acons (.var 2) .anil)) []))
 .skip) .skip)
 (.seq (.ret (.call 2 (.acons (.var 0) (.acons (.var 2) .anil)) []))
 .skip)))))⟩
noncomputable def Zbg:FD:=⟨1,2,(.seq (.set 1 (.lstE (.acons (.neg (.cst (.int 1000000000))) (.acons (.neg (.cst (.int 999999999))) (.acons (.neg (.cst (.int 2))) (.acons (.neg (.cst (.int 1))) (.acons (.cst (.int 0)) (.acons (.cst (.int 1)) (.acons (.cst (.int 2)) (.acons (.cst (.int 999999999)) .anil))))))))))
 (.seq (.ite (.cmp .Eq (.bin .Mod (.var 0) (.cst (.int 3))) (.cst (.int 0))) (.seq (.ret (.ix (.var 1) (.bin .Mod (.bin .FloorDiv (.var 0) (.cst (.int 3))) (.cst (.int 8)))))
 .skip) .skip)
 (.seq (.ite (.cmp .Eq (.bin .Mod (.var 0) (.cst (.int 3))) (.cst (.int 1))) (.seq (.ret (.bin .Sub (.bin .Mod (.bin .FloorDiv (.var 0) (.cst (.int 3))) (.cst (.int 13))) (.cst (.int 6))))
 .skip) .skip)
 (.seq (.ret (.bin .Sub (.bin .Mod (.bin .Mult (.bin .FloorDiv (.var 0) (.cst (.int 3))) (.cst (.int 48271))) (.cst (.int 2000000000))) (.cst (.int 1000000000))))
 .skip))))⟩
noncomputable def ZdG:FD:=⟨1,1,(.seq (.ret (.and (.call 17 (.acons (.var 0) .anil) []) (.and (.cmp .LtE (.neg (.cst (.int 1000000000))) (.var 0)) (.cmp .LtE (.var 0) (.cst (.int 999999999))))))
 .skip)⟩
noncomputable def Zbv:FD:=⟨2,2,(.seq (.ite (.cmp .Gt (.var 1) (.cst (.int 0))) (.seq (.ret (.and (.cmp .LtE (.cst (.int 0)) (.var 0)) (.cmp .Lt (.var 0) (.var 1))))
 .skip) .skip)
 (.seq (.ret (.and (.cmp .Lt (.var 1) (.var 0)) (.cmp .LtE (.var 0) (.cst (.int 0)))))
 .skip))⟩
noncomputable def c_replaced:FD:=⟨3,3,(.seq (.ret (.bin .Add (.bin .Add (.slice (.var 0) .nop (.part (.var 1))) (.tupE (.acons (.var 2) .anil))) (.slice (.var 0) (.part (.bin .Add (.var 1) (.cst (.int 1)))) .nop)))
 .skip)⟩
noncomputable def c_is_so:FD:=⟨3,3,(.seq (.ite (.cmp .Eq (.var 1) (.cst (.str (S "<")))) (.seq (.ret (.cmp .Lt (.var 0) (.var 2)))
 .skip) .skip)
 (.seq (.ite (.cmp .Eq (.var 1) (.cst (.str (S "<=")))) (.seq (.ret (.cmp .LtE (.var 0) (.var 2)))
 .skip) .skip)
 (.seq (.ite (.cmp .Eq (.var 1) (.cst (.str (S "=")))) (.seq (.ret (.cmp .Eq (.var 0) (.var 2)))
 .skip) .skip)
 (.seq (.ite (.cmp .Eq (.var 1) (.cst (.str (S ">=")))) (.seq (.ret (.cmp .GtE (.var 0) (.var 2)))
 .skip) .skip)
 (.seq (.ite (.cmp .Eq (.var 1) (.cst (.str (S ">")))) (.seq (.ret (.cmp .Gt (.var 0) (.var 2)))
 .skip) .skip)
 (.seq (.ret (.cmp .NotEq (.var 0) (.var 2)))
 .skip))))))⟩
noncomputable def c_worth:FD:=⟨2,2,(.seq (.ite (.cmp .Eq (.ix (.var 0) (.cst (.int 0))) (.cst (.str (S "name")))) (.seq (.ret (.ix (.var 1) (.ix (.var 0) (.cst (.int 1)))))
 .skip) .skip)
 (.seq (.ret (.ix (.var 0) (.cst (.int 1))))
 .skip))⟩
noncomputable def c_at_end:FD:=⟨2,2,(.seq (.ret (.cmp .GtE (.ix (.var 1) (.cst (.int 0))) (.len (.ix (.var 0) (.cst (.int 2))))))
 .skip)⟩
noncomputable def c_values_behind:FD:=⟨2,3,(.seq (.ite (.cmp .NotEq (.ix (.var 0) (.cst (.int 0))) (.cst (.str (S "put")))) (.seq (.ret (.var 1))
 .skip) .skip)
 (.seq (.set 2 (.call 3 (.acons (.call 5 (.acons (.ix (.var 0) (.cst (.int 2))) (.acons (.var 1) .anil)) []) (.acons (.ix (.var 0) (.cst (.int 3))) (.acons (.call 5 (.acons (.ix (.var 0) (.cst (.int 4))) (.acons (.var 1) .anil)) []) .anil))) []))
 (.seq (.ret (.call 42 (.acons (.var 1) (.acons (.ix (.var 0) (.cst (.int 1))) (.acons (.var 2) .anil))) []))
 .skip)))⟩
noncomputable def c_place_behind:FD:=⟨3,3,(.seq (.ite (.cmp .Eq (.ix (.var 0) (.cst (.int 0))) (.cst (.str (S "go")))) (.seq (.ret (.ix (.var 0) (.cst (.int 1))))
 .skip) .skip)
 (.seq (.ite (.and (.cmp .Eq (.ix (.var 0) (.cst (.int 0))) (.cst (.str (S "if")))) (.call 4 (.acons (.call 5 (.acons (.ix (.var 0) (.cst (.int 1))) (.acons (.var 2) .anil)) []) (.acons (.ix (.var 0) (.cst (.int 2))) (.acons (.call 5 (.acons (.ix (.var 0) (.cst (.int 3))) (.acons (.var 2) .anil)) []) .anil))) [])) (.seq (.ret (.ix (.var 0) (.cst (.int 4))))
 .skip) .skip)
 (.seq (.ret (.bin .Add (.var 1) (.cst (.int 1))))
 .skip)))⟩
noncomputable def c_moved:FD:=⟨2,5,(.seq (.ite (.call 7 (.acons (.var 0) (.acons (.var 1) .anil)) []) (.seq (.ret (.tupE (.acons (.cst (.str (S "none"))) .anil)))
 .skip) .skip)
 (.seq (.set 2 (.ix (.var 1) (.cst (.int 0))))
 (.seq (.set 3 (.ix (.var 1) (.cst (.int 1))))
 (.seq (.set 4 (.ix (.ix (.var 0) (.cst (.int 2))) (.var 2)))
 (.seq (.ite (.cmp .Eq (.ix (.var 4) (.cst (.int 0))) (.cst (.str (S "tell")))) (.seq (.ret (.tupE (.acons (.cst (.str (S "told"))) (.acons (.call 5 (.acons (.ix (.var 4) (.cst (.int 1))) (.acons (.var 3) .anil)) []) .anil))))
 .skip) .skip)
 (.seq (.ret (.tupE (.acons (.call 9 (.acons (.var 4) (.acons (.var 2) (.acons (.var 3) .anil))) []) (.acons (.call 8 (.acons (.var 4) (.acons (.var 3) .anil)) []) .anil))))
 .skip))))))⟩
noncomputable def Um:FD:=⟨2,2,(.seq (.ite (.cmp .Eq (.ix (.var 0) (.cst (.int 0))) (.cst (.str (S "name")))) (.seq (.ret (.ix (.var 1) (.ix (.var 0) (.cst (.int 1)))))
 .skip) .skip)
 (.seq (.ret (.ix (.var 0) (.cst (.int 1))))
 .skip))⟩
noncomputable def Q5:CS:=(.seq (.set 1 (.bin .Mult (.var 1) (.cst (.int 2))))
 .skip)
noncomputable def Zbw:FD:=⟨1,3,(.seq (.set 1 (.cst (.int 1)))
 (.seq (.for1 2 true (.var 0) Q5)
 (.seq (.ret (.var 1))
 .skip)))⟩
noncomputable def c_began:FD:=⟨2,2,(.seq (.ret (.tupE (.acons (.cst (.int 0)) (.acons (.bin .Add (.var 1) (.bin .Mult (.tupE (.acons (.cst (.int 0)) .anil)) (.bin .Sub (.ix (.var 0) (.cst (.int 1))) (.len (.var 1))))) .anil))))
 .skip)⟩
noncomputable def c_is_outcome:FD:=⟨1,1,(.seq (.ret (.isi .str (.ix (.var 0) (.cst (.int 0)))))
 .skip)⟩
noncomputable def Yt:CS:=(.seq (.set 6 (.call 10 (.acons (.var 0) (.acons (.var 3) .anil)) []))
 (.seq (.app 4 (.var 6))
 (.seq (.ite (.call 11 (.acons (.var 6) .anil) []) (.seq (.ret (.tupleOf (.var 4)))
 .skip) .skip)
 (.seq (.set 3 (.var 6))
 .skip))))
noncomputable def c_trail:FD:=⟨3,7,(.seq (.set 3 (.call 6 (.acons (.var 0) (.acons (.var 1) .anil)) []))
 (.seq (.set 4 (.lstE (.acons (.var 3) .anil)))
 (.seq (.for1 5 true (.var 2) Yt)
 (.seq (.app 4 (.ife (.call 7 (.acons (.var 0) (.acons (.var 3) .anil)) []) (.tupE (.acons (.cst (.str (S "none"))) .anil)) (.tupE (.acons (.cst (.str (S "late"))) .anil))))
 (.seq (.ret (.tupleOf (.var 4)))
 .skip)))))⟩
noncomputable def c_outcome:FD:=⟨3,3,(.seq (.ret (.ix (.call 12 (.acons (.var 0) (.acons (.var 1) (.acons (.var 2) .anil))) []) (.neg (.cst (.int 1)))))
 .skip)⟩
noncomputable def WF:CE:=(.comp false [] (.var 1) (.ix (.var 0) (.cst (.int 0))) (.cst (.bl true)))
noncomputable def VB:FD:=⟨1,2,(.seq (.set 1 (.slice (.var 0) .nop (.part (.neg (.cst (.int 1))))))
 (.seq (.ite (.cmp .NotEq (.ix (.ix (.var 0) (.neg (.cst (.int 1)))) (.cst (.int 0))) (.cst (.str (S "told")))) (.seq (.set 1 (.slice (.var 1) .nop (.part (.neg (.cst (.int 1))))))
 .skip) .skip)
 (.seq (.ret WF)
 .skip)))⟩
noncomputable def U2:CS:=(.seq (.set 1 (.bin .BitOr (.var 1) (.call 43 (.acons (.var 2) .anil) [])))
 .skip)
noncomputable def ZaD:FD:=⟨1,3,(.seq (.set 1 (.cst (.int 0)))
 (.seq (.for1 2 false (.call 14 (.acons (.var 0) .anil) []) U2)
 (.seq (.ret (.var 1))
 .skip)))⟩
noncomputable def ZfZ:FD:=⟨3,3,(.seq (.ret (.call 44 (.acons (.call 12 (.acons (.var 0) (.acons (.var 1) (.acons (.var 2) .anil))) []) .anil) []))
 .skip)⟩
noncomputable def VA:FD:=⟨2,2,(.seq (.ret (.and (.cmp .Eq (.ix (.var 0) (.cst (.int 0))) (.cst (.str (S "number")))) (.cmp .Eq (.ix (.var 1) (.cst (.int 0))) (.cst (.str (S "number"))))))
 .skip)⟩
noncomputable def W1:FD:=⟨3,3,(.seq (.ite (.cmp .Lt (.ix (.var 0) (.var 2)) (.ix (.var 0) (.var 1))) (.seq (.ret (.call 42 (.acons (.call 42 (.acons (.var 0) (.acons (.var 1) (.acons (.ix (.var 0) (.var 2)) .anil))) []) (.acons (.var 2) (.acons (.ix (.var 0) (.var 1)) .anil))) []))
 .skip) .skip)
 (.seq (.ret (.var 0))
 .skip))⟩
noncomputable def W0:FD:=⟨1,1,(.seq (.ite (.and (.cmp .Eq (.ix (.var 0) (.cst (.int 3))) (.cst (.str (S "-")))) (.cmp .Eq (.ix (.ix (.var 0) (.cst (.int 4))) (.cst (.int 0))) (.cst (.str (S "number"))))) (.seq (.ret (.bin .Add (.slice (.var 0) .nop (.part (.cst (.int 3)))) (.tupE (.acons (.cst (.str (S "+"))) (.acons (.tupE (.acons (.cst (.str (S "number"))) (.acons (.call 0 (.acons (.neg (.ix (.ix (.var 0) (.cst (.int 4))) (.cst (.int 1)))) .anil) []) .anil))) .anil)))))
 .skip) .skip)
 (.seq (.ret (.var 0))
 .skip))⟩
noncomputable def XG:FD:=⟨1,4,(.seq (.set 1 (.ix (.var 0) (.cst (.int 2))))
 (.seq (.set 2 (.ix (.var 0) (.cst (.int 3))))
 (.seq (.set 3 (.ix (.var 0) (.cst (.int 4))))
 (.seq (.ite (.or (.and (.cmp .Eq (.var 2) (.cst (.str (S "*")))) (.cmp .Eq (.var 3) (.cst (.tup [(.str (S "number")),(.int 0)])))) (.or (.and (.cmp .Eq (.var 2) (.cst (.str (S "mod")))) (.cmp .Eq (.var 3) (.cst (.tup [(.str (S "number")),(.int 1)])))) (.and (.cmp .Eq (.var 2) (.cst (.str (S "-")))) (.cmp .Eq (.var 1) (.var 3))))) (.seq (.ret (.tupE (.acons (.cst (.str (S "put"))) (.acons (.ix (.var 0) (.cst (.int 1))) (.acons (.cst (.tup [(.str (S "number")),(.int 0)])) (.acons (.cst (.str (S "+"))) (.acons (.cst (.tup [(.str (S "number")),(.int 0)])) .anil)))))))
 .skip) .skip)
 (.seq (.ite (.and (.cmp .In (.var 2) (.tupE (.acons (.cst (.str (S "*"))) (.acons (.cst (.str (S "/"))) .anil)))) (.cmp .Eq (.var 3) (.cst (.tup [(.str (S "number")),(.int 1)])))) (.seq (.ret (.tupE (.acons (.cst (.str (S "put"))) (.acons (.ix (.var 0) (.cst (.int 1))) (.acons (.var 1) (.acons (.cst (.str (S "+"))) (.acons (.cst (.tup [(.str (S "number")),(.int 0)])) .anil)))))))
 .skip) .skip)
 (.seq (.ret (.var 0))
 .skip))))))⟩
noncomputable def Q8:FD:=⟨1,1,(.seq (.ite (.call 73 (.acons (.ix (.var 0) (.cst (.int 2))) (.acons (.ix (.var 0) (.cst (.int 4))) .anil)) []) (.seq (.ret (.tupE (.acons (.cst (.str (S "put"))) (.acons (.ix (.var 0) (.cst (.int 1))) (.acons (.tupE (.acons (.cst (.str (S "number"))) (.acons (.call 3 (.acons (.ix (.ix (.var 0) (.cst (.int 2))) (.cst (.int 1))) (.acons (.ix (.var 0) (.cst (.int 3))) (.acons (.ix (.ix (.var 0) (.cst (.int 4))) (.cst (.int 1))) .anil))) []) .anil))) (.acons (.cst (.str (S "+"))) (.acons (.cst (.tup [(.str (S "number")),(.int 0)])) .anil)))))))
 .skip) .skip)
 (.seq (.set 0 (.call 75 (.acons (.var 0) .anil) []))
 (.seq (.ite (.cmp .In (.ix (.var 0) (.cst (.int 3))) (.tupE (.acons (.cst (.str (S "+"))) (.acons (.cst (.str (S "*"))) .anil)))) (.seq (.set 0 (.call 74 (.acons (.var 0) (.acons (.cst (.int 2)) (.acons (.cst (.int 4)) .anil))) []))
 .skip) .skip)
 (.seq (.set 0 (.call 76 (.acons (.var 0) .anil) []))
 (.seq (.ite (.cmp .Eq (.var 0) (.tupE (.acons (.cst (.str (S "put"))) (.acons (.ix (.var 0) (.cst (.int 1))) (.acons (.tupE (.acons (.cst (.str (S "name"))) (.acons (.ix (.var 0) (.cst (.int 1))) .anil))) (.acons (.cst (.str (S "+"))) (.acons (.cst (.tup [(.str (S "number")),(.int 0)])) .anil))))))) (.seq (.ret (.cst (.tup [(.str (S "skip"))])))
 .skip) .skip)
 (.seq (.ret (.var 0))
 .skip))))))⟩
noncomputable def X2:FD:=⟨1,1,(.seq (.ite (.cmp .Eq (.ix (.var 0) (.cst (.int 2))) (.cst (.str (S ">")))) (.seq (.ret (.tupE (.acons (.cst (.str (S "if"))) (.acons (.ix (.var 0) (.cst (.int 3))) (.acons (.cst (.str (S "<"))) (.acons (.ix (.var 0) (.cst (.int 1))) (.acons (.ix (.var 0) (.cst (.int 4))) .anil)))))))
 .skip) .skip)
 (.seq (.ite (.cmp .Eq (.ix (.var 0) (.cst (.int 2))) (.cst (.str (S ">=")))) (.seq (.ret (.tupE (.acons (.cst (.str (S "if"))) (.acons (.ix (.var 0) (.cst (.int 3))) (.acons (.cst (.str (S "<="))) (.acons (.ix (.var 0) (.cst (.int 1))) (.acons (.ix (.var 0) (.cst (.int 4))) .anil)))))))
 .skip) .skip)
 (.seq (.ret (.var 0))
 .skip)))⟩
noncomputable def Uo:FD:=⟨1,1,(.seq (.ret (.or (.call 73 (.acons (.ix (.var 0) (.cst (.int 1))) (.acons (.ix (.var 0) (.cst (.int 3))) .anil)) []) (.cmp .Eq (.ix (.var 0) (.cst (.int 1))) (.ix (.var 0) (.cst (.int 3))))))
 .skip)⟩
noncomputable def ZaE:FD:=⟨1,2,(.seq (.set 1 (.call 4 (.acons (.ix (.ix (.var 0) (.cst (.int 1))) (.cst (.int 1))) (.acons (.ix (.var 0) (.cst (.int 2))) (.acons (.ix (.ix (.var 0) (.cst (.int 3))) (.cst (.int 1))) .anil))) []))
 (.seq (.ret (.ife (.var 1) (.tupE (.acons (.cst (.str (S "go"))) (.acons (.ix (.var 0) (.cst (.int 4))) .anil))) (.cst (.tup [(.str (S "skip"))]))))
 .skip))⟩
noncomputable def W2:FD:=⟨1,3,(.seq (.set 1 (.ix (.var 0) (.cst (.int 1))))
 (.seq (.set 2 (.ix (.var 0) (.cst (.int 3))))
 (.seq (.ite (.cmp .NotEq (.ix (.var 0) (.cst (.int 2))) (.cst (.str (S "<=")))) (.seq (.ret (.var 0))
 .skip) .skip)
 (.seq (.ite (.and (.cmp .Eq (.ix (.var 2) (.cst (.int 0))) (.cst (.str (S "number")))) (.cmp .Lt (.ix (.var 2) (.cst (.int 1))) (.cst (.int 999999999)))) (.seq (.ret (.tupE (.acons (.cst (.str (S "if"))) (.acons (.var 1) (.acons (.cst (.str (S "<"))) (.acons (.tupE (.acons (.cst (.str (S "number"))) (.acons (.bin .Add (.ix (.var 2) (.cst (.int 1))) (.cst (.int 1))) .anil))) (.acons (.ix (.var 0) (.cst (.int 4))) .anil)))))))
 .skip) .skip)
 (.seq (.ite (.and (.cmp .Eq (.ix (.var 1) (.cst (.int 0))) (.cst (.str (S "number")))) (.cmp .Gt (.ix (.var 1) (.cst (.int 1))) (.cst (.int (-1000000000))))) (.seq (.ret (.tupE (.acons (.cst (.str (S "if"))) (.acons (.tupE (.acons (.cst (.str (S "number"))) (.acons (.bin .Sub (.ix (.var 1) (.cst (.int 1))) (.cst (.int 1))) .anil))) (.acons (.cst (.str (S "<"))) (.acons (.var 2) (.acons (.ix (.var 0) (.cst (.int 4))) .anil)))))))
 .skip) .skip)
 (.seq (.ret (.var 0))
 .skip))))))⟩
noncomputable def ZaC:FD:=⟨2,2,(.seq (.ite (.cmp .Eq (.ix (.var 0) (.cst (.int 4))) (.bin .Add (.var 1) (.cst (.int 1)))) (.seq (.ret (.cst (.tup [(.str (S "skip"))])))
 .skip) .skip)
 (.seq (.set 0 (.call 78 (.acons (.var 0) .anil) []))
 (.seq (.ite (.call 79 (.acons (.var 0) .anil) []) (.seq (.ret (.call 80 (.acons (.var 0) .anil) []))
 .skip) .skip)
 (.seq (.ite (.cmp .In (.ix (.var 0) (.cst (.int 2))) (.tupE (.acons (.cst (.str (S "="))) (.acons (.cst (.str (S "!="))) .anil)))) (.seq (.set 0 (.call 74 (.acons (.var 0) (.acons (.cst (.int 1)) (.acons (.cst (.int 3)) .anil))) []))
 .skip) .skip)
 (.seq (.ret (.call 81 (.acons (.var 0) .anil) []))
 .skip)))))⟩
noncomputable def Q9:FD:=⟨2,2,(.seq (.ite (.cmp .Eq (.ix (.var 0) (.cst (.int 0))) (.cst (.str (S "put")))) (.seq (.ret (.call 77 (.acons (.var 0) .anil) []))
 .skip) .skip)
 (.seq (.ite (.cmp .Eq (.ix (.var 0) (.cst (.int 0))) (.cst (.str (S "if")))) (.seq (.ret (.call 82 (.acons (.var 0) (.acons (.var 1) .anil)) []))
 .skip) .skip)
 (.seq (.ite (.cmp .Eq (.var 0) (.tupE (.acons (.cst (.str (S "go"))) (.acons (.bin .Add (.var 1) (.cst (.int 1))) .anil)))) (.seq (.ret (.cst (.tup [(.str (S "skip"))])))
 .skip) .skip)
 (.seq (.ret (.var 0))
 .skip))))⟩
noncomputable def XQ:FD:=⟨2,2,(.seq (.ite (.cmp .Lt (.var 1) (.len (.var 0))) (.seq (.ret (.ix (.var 0) (.var 1)))
 .skip) .skip)
 (.seq (.ret (.cst (.int 0)))
 .skip))⟩
noncomputable def Xi:FD:=⟨1,1,(.seq (.ite (.cmp .Eq (.bin .Mod (.var 0) (.cst (.int 3))) (.cst (.int 0))) (.seq (.ret (.ix (.lstE (.acons (.neg (.cst (.int 1000000000))) (.acons (.cst (.int 999999999)) (.acons (.neg (.cst (.int 1))) (.acons (.cst (.int 0)) (.acons (.cst (.int 1)) (.acons (.cst (.int 2)) (.acons (.neg (.cst (.int 999999999))) (.acons (.cst (.int 999999998)) .anil))))))))) (.bin .Mod (.bin .FloorDiv (.var 0) (.cst (.int 3))) (.cst (.int 8)))))
 .skip) .skip)
 (.seq (.ret (.bin .Sub (.bin .Mod (.bin .Mult (.bin .FloorDiv (.var 0) (.cst (.int 3))) (.cst (.int 48271))) (.cst (.int 2000000000))) (.cst (.int 1000000000))))
 .skip))⟩
noncomputable def X1:FD:=⟨2,2,(.seq (.ite (.and (.cmp .Gt (.var 1) (.cst (.int 0))) (.cmp .Lt (.bin .Mod (.var 0) (.cst (.int 5))) (.cst (.int 3)))) (.seq (.ret (.tupE (.acons (.cst (.str (S "name"))) (.acons (.bin .Mod (.bin .FloorDiv (.var 0) (.cst (.int 5))) (.var 1)) .anil))))
 .skip) .skip)
 (.seq (.ret (.tupE (.acons (.cst (.str (S "number"))) (.acons (.call 18 (.acons (.bin .FloorDiv (.var 0) (.cst (.int 5))) .anil) []) .anil))))
 .skip))⟩
noncomputable def XR:FD:=⟨2,5,(.seq (.set 2 (.call 71 (.acons (.ix (.var 0) (.cst (.int 1))) (.acons (.var 1) .anil)) []))
 (.seq (.set 3 (.call 71 (.acons (.ix (.var 0) (.cst (.int 2))) (.acons (.var 1) .anil)) []))
 (.seq (.set 4 (.bin .Mod (.bin .FloorDiv (.ix (.var 0) (.cst (.int 3))) (.cst (.int 65))) (.cst (.int 6))))
 (.seq (.ite (.cmp .Eq (.var 4) (.cst (.int 1))) (.seq (.ret (.tupE (.acons (.var 2) (.acons (.var 2) .anil))))
 .skip) .skip)
 (.seq (.ite (.and (.cmp .Eq (.var 4) (.cst (.int 3))) (.cmp .Gt (.var 1) (.cst (.int 0)))) (.seq (.ret (.tupE (.acons (.tupE (.acons (.cst (.str (S "name"))) (.acons (.bin .Mod (.bin .Mod (.ix (.var 0) (.cst (.int 3))) (.cst (.int 5))) (.var 1)) .anil))) (.acons (.tupE (.acons (.cst (.str (S "number"))) (.acons (.bin .Mod (.ix (.var 0) (.cst (.int 2))) (.cst (.int 2))) .anil))) .anil))))
 .skip) .skip)
 (.seq (.ite (.cmp .Eq (.var 4) (.cst (.int 4))) (.seq (.ret (.tupE (.acons (.var 2) (.acons (.tupE (.acons (.cst (.str (S "number"))) (.acons (.bin .Mod (.ix (.var 0) (.cst (.int 2))) (.cst (.int 2))) .anil))) .anil))))
 .skip) .skip)
 (.seq (.ite (.cmp .Eq (.var 4) (.cst (.int 5))) (.seq (.ret (.tupE (.acons (.tupE (.acons (.cst (.str (S "number"))) (.acons (.bin .Mod (.ix (.var 0) (.cst (.int 1))) (.cst (.int 2))) .anil))) (.acons (.var 3) .anil))))
 .skip) .skip)
 (.seq (.ret (.tupE (.acons (.var 2) (.acons (.var 3) .anil))))
 .skip))))))))⟩
noncomputable def Vy:FD:=⟨4,8,(.seq (.set2 4 5 (.call 84 (.acons (.var 0) (.acons (.var 1) .anil)) []))
 (.seq (.set 6 (.bin .Mod (.bin .FloorDiv (.ix (.var 0) (.cst (.int 3))) (.cst (.int 5))) (.bin .Add (.var 2) (.cst (.int 1)))))
 (.seq (.ite (.cmp .Eq (.bin .Mod (.bin .FloorDiv (.ix (.var 0) (.cst (.int 3))) (.cst (.int 65))) (.cst (.int 6))) (.cst (.int 2))) (.seq (.set 6 (.bin .Add (.var 3) (.cst (.int 1))))
 .skip) .skip)
 (.seq (.set 7 (.bin .FloorDiv (.ix (.var 0) (.cst (.int 0))) (.cst (.int 8))))
 (.seq (.ite (.and (.cmp .Lt (.bin .Mod (.ix (.var 0) (.cst (.int 0))) (.cst (.int 8))) (.cst (.int 3))) (.cmp .Gt (.var 1) (.cst (.int 0)))) (.seq (.ret (.tupE (.acons (.cst (.str (S "put"))) (.acons (.bin .Mod (.bin .Mod (.ix (.var 0) (.cst (.int 3))) (.cst (.int 5))) (.var 1)) (.acons (.var 4) (.acons (.ix (.lstE (.acons (.cst (.str (S "+"))) (.acons (.cst (.str (S "-"))) (.acons (.cst (.str (S "*"))) (.acons (.cst (.str (S "/"))) (.acons (.cst (.str (S "mod"))) .anil)))))) (.bin .Mod (.var 7) (.cst (.int 5)))) (.acons (.var 5) .anil)))))))
 .skip) .skip)
 (.seq (.ite (.cmp .Lt (.bin .Mod (.ix (.var 0) (.cst (.int 0))) (.cst (.int 8))) (.cst (.int 5))) (.seq (.ret (.tupE (.acons (.cst (.str (S "if"))) (.acons (.var 4) (.acons (.ix (.lstE (.acons (.cst (.str (S "<"))) (.acons (.cst (.str (S "<="))) (.acons (.cst (.str (S "="))) (.acons (.cst (.str (S ">="))) (.acons (.cst (.str (S ">"))) (.acons (.cst (.str (S "!="))) .anil))))))) (.bin .Mod (.var 7) (.cst (.int 6)))) (.acons (.var 5) (.acons (.var 6) .anil)))))))
 .skip) .skip)
 (.seq (.ite (.cmp .Eq (.bin .Mod (.ix (.var 0) (.cst (.int 0))) (.cst (.int 8))) (.cst (.int 5))) (.seq (.ret (.tupE (.acons (.cst (.str (S "go"))) (.acons (.var 6) .anil))))
 .skip) .skip)
 (.seq (.ite (.cmp .Eq (.bin .Mod (.ix (.var 0) (.cst (.int 0))) (.cst (.int 8))) (.cst (.int 6))) (.seq (.ret (.tupE (.acons (.cst (.str (S "tell"))) (.acons (.var 4) .anil))))
 .skip) .skip)
 (.seq (.ret (.tupE (.acons (.cst (.str (S "skip"))) .anil)))
 .skip)))))))))⟩
noncomputable def XU:CE:=(.comp true [1,0] (.len (.var 1)) (.var 0) (.not (.call 36 (.acons (.ix (.var 2) (.var 0)) (.acons (.ix (.var 1) (.var 0)) .anil)) [])))
noncomputable def ZaB:FD:=⟨2,2,(.seq (.ite (.isi .tuple (.var 1)) (.seq (.ite (.or (.not (.isi .tuple (.var 0))) (.cmp .NotEq (.len (.var 0)) (.len (.var 1)))) (.seq (.ret (.cst (.bl false)))
 .skip) .skip)
 (.seq (.ret (.cmp .Eq XU (.lstE .anil)))
 .skip)) .skip)
 (.seq (.ite (.isi .str (.var 1)) (.seq (.ret (.and (.isi .str (.var 0)) (.cmp .Eq (.var 0) (.var 1))))
 .skip) .skip)
 (.seq (.ret (.and (.isi .int (.var 0)) (.and (.not (.isi .bool (.var 0))) (.cmp .Eq (.var 0) (.var 1)))))
 .skip)))⟩
noncomputable def Ul:FD:=⟨1,1,(.seq (.ret (.bin .Sub (.bin .Mod (.bin .Add (.var 0) (.cst (.int 1000000000))) (.cst (.int 2000000000))) (.cst (.int 1000000000))))
 .skip)⟩
noncomputable def c_operand_places:FD:=⟨1,1,(.seq (.ret (.look [(S "put"),(S "if"),(S "tell"),(S "go"),(S "skip")] [(.tup [(.int 2),(.int 4)]),(.tup [(.int 1),(.int 3)]),(.tup [(.int 1)]),(.tup []),(.tup [])] (.ix (.var 0) (.cst (.int 0)))))
 .skip)⟩
noncomputable def c_Step_word:FD:=⟨1,1,(.seq (.ret (.cst (.str (S "none"))))
 .skip)⟩
noncomputable def c_Step_turned:FD:=⟨3,3,(.seq (.ret (.tupE .anil))
 .skip)⟩
noncomputable def c_More_word:FD:=⟨1,1,(.seq (.ret (.cst (.str (S "more"))))
 .skip)⟩
noncomputable def WE:CS:=(.seq (.ite (.cmp .Eq (.ix (.ix (.var 1) (.var 4)) (.cst (.int 0))) (.cst (.str (S "number")))) (.seq (.app 3 (.call 42 (.acons (.var 1) (.acons (.var 4) (.acons (.tupE (.acons (.cst (.str (S "number"))) (.acons (.call 0 (.acons (.bin .Add (.ix (.ix (.var 1) (.var 4)) (.cst (.int 1))) (.cst (.int 1))) .anil) []) .anil))) .anil))) []))
 .skip) .skip)
 .skip)
noncomputable def c_More_turned:FD:=⟨3,5,(.seq (.set 3 (.lstE .anil))
 (.seq (.for1 4 false (.call 113 (.acons (.var 1) .anil) []) WE)
 (.seq (.ret (.tupleOf (.var 3)))
 .skip)))⟩
noncomputable def c_Out_word:FD:=⟨1,1,(.seq (.ret (.cst (.str (S "out"))))
 .skip)⟩
noncomputable def c_Out_turned:FD:=⟨3,3,(.seq (.ite (.cmp .Eq (.ix (.var 1) (.cst (.int 0))) (.cst (.str (S "skip")))) (.seq (.ret (.tupE .anil))
 .skip) .skip)
 (.seq (.ret (.tupE (.acons (.tupE (.acons (.cst (.str (S "skip"))) .anil)) .anil)))
 .skip))⟩
noncomputable def c_Turn_word:FD:=⟨1,1,(.seq (.ret (.cst (.str (S "turn"))))
 .skip)⟩
noncomputable def c_Turn_turned:FD:=⟨3,3,(.seq (.ite (.cmp .NotEq (.ix (.var 1) (.cst (.int 0))) (.cst (.str (S "if")))) (.seq (.ret (.tupE .anil))
 .skip) .skip)
 (.seq (.ret (.tupE (.acons (.call 42 (.acons (.var 1) (.acons (.cst (.int 2)) (.acons (.look [(S "<"),(S ">="),(S "<="),(S ">"),(S "="),(S "!=")] [(.str (S ">=")),(.str (S "<")),(.str (S ">")),(.str (S "<=")),(.str (S "!=")),(.str (S "="))] (.ix (.var 1) (.cst (.int 2)))) .anil))) []) .anil)))
 .skip))⟩
noncomputable def c_Swap_word:FD:=⟨1,1,(.seq (.ret (.cst (.str (S "swap"))))
 .skip)⟩
noncomputable def c_Swap_turned:FD:=⟨3,3,(.seq (.ite (.and (.cmp .Eq (.ix (.var 1) (.cst (.int 0))) (.cst (.str (S "put")))) (.cmp .NotEq (.ix (.var 1) (.cst (.int 2))) (.ix (.var 1) (.cst (.int 4))))) (.seq (.ret (.tupE (.acons (.tupE (.acons (.cst (.str (S "put"))) (.acons (.ix (.var 1) (.cst (.int 1))) (.acons (.ix (.var 1) (.cst (.int 4))) (.acons (.ix (.var 1) (.cst (.int 3))) (.acons (.ix (.var 1) (.cst (.int 2))) .anil)))))) .anil)))
 .skip) .skip)
 (.seq (.ite (.and (.cmp .Eq (.ix (.var 1) (.cst (.int 0))) (.cst (.str (S "if")))) (.cmp .NotEq (.ix (.var 1) (.cst (.int 1))) (.ix (.var 1) (.cst (.int 3))))) (.seq (.ret (.tupE (.acons (.tupE (.acons (.cst (.str (S "if"))) (.acons (.ix (.var 1) (.cst (.int 3))) (.acons (.ix (.var 1) (.cst (.int 2))) (.acons (.ix (.var 1) (.cst (.int 1))) (.acons (.ix (.var 1) (.cst (.int 4))) .anil)))))) .anil)))
 .skip) .skip)
 (.seq (.ret (.tupE .anil))
 .skip)))⟩
noncomputable def c_Far_word:FD:=⟨1,1,(.seq (.ret (.cst (.str (S "far"))))
 .skip)⟩
noncomputable def c_Far_turned:FD:=⟨3,3,(.seq (.ite (.or (.cmp .NotIn (.ix (.var 1) (.cst (.int 0))) (.tupE (.acons (.cst (.str (S "go"))) (.acons (.cst (.str (S "if"))) .anil)))) (.cmp .GtE (.ix (.var 1) (.neg (.cst (.int 1)))) (.var 2))) (.seq (.ret (.tupE .anil))
 .skip) .skip)
 (.seq (.ret (.tupE (.acons (.bin .Add (.slice (.var 1) .nop (.part (.neg (.cst (.int 1))))) (.tupE (.acons (.bin .Add (.ix (.var 1) (.neg (.cst (.int 1)))) (.cst (.int 1))) .anil))) .anil)))
 .skip))⟩
noncomputable def c_behind:FD:=⟨2,2,(.seq (.ret (.ix (.var 0) (.bin .Mod (.bin .Add (.tix (.var 0) (.acons (.var 1) .anil)) (.cst (.int 1))) (.len (.var 0)))))
 .skip)⟩
noncomputable def c_Sign_word:FD:=⟨1,1,(.seq (.ret (.cst (.str (S "sign"))))
 .skip)⟩
noncomputable def c_Sign_turned:FD:=⟨3,3,(.seq (.ite (.cmp .Eq (.ix (.var 1) (.cst (.int 0))) (.cst (.str (S "put")))) (.seq (.ret (.tupE (.acons (.call 42 (.acons (.var 1) (.acons (.cst (.int 3)) (.acons (.call 70 (.acons (.cst (.kt [(S "+"),(S "-"),(S "*"),(S "/"),(S "mod")])) (.acons (.ix (.var 1) (.cst (.int 3))) .anil)) []) .anil))) []) .anil)))
 .skip) .skip)
 (.seq (.ite (.cmp .Eq (.ix (.var 1) (.cst (.int 0))) (.cst (.str (S "if")))) (.seq (.ret (.tupE (.acons (.call 42 (.acons (.var 1) (.acons (.cst (.int 2)) (.acons (.call 70 (.acons (.cst (.kt [(S "<"),(S "<="),(S "="),(S ">="),(S ">"),(S "!=")])) (.acons (.ix (.var 1) (.cst (.int 2))) .anil)) []) .anil))) []) .anil)))
 .skip) .skip)
 (.seq (.ret (.tupE .anil))
 .skip)))⟩
noncomputable def VN:CE:=(.comp false [4,6] (.meth [(146,148),(169,171),(149,151),(157,159),(152,154),(160,162),(163,165)] (.var 6) (.acons (.var 5) (.acons (.len (.var 1)) .anil))) (.tupE (.acons (.var 1) (.acons (.meth [(146,147),(169,170),(149,150),(157,158),(152,153),(160,161),(163,164)] (.var 2) .anil) (.acons (.var 0) .anil)))) (.cst (.bl true)))
noncomputable def Xz:CS:=(.seq (.ext 3 VN)
 .skip)
noncomputable def YS:CS:=(.seq (.for1 6 false (.var 2) Xz)
 .skip)
noncomputable def c_fakes:FD:=⟨1,7,(.seq (.set 1 (.ix (.var 0) (.cst (.int 2))))
 (.seq (.set 2 (.lstE (.acons (.new 169) (.acons (.new 149) (.acons (.new 157) (.acons (.new 152) (.acons (.new 160) (.acons (.new 163) .anil))))))))
 (.seq (.set 3 (.lstE .anil))
 (.seq (.forE 4 5 (.var 1) YS)
 (.seq (.ret (.tupleOf (.var 3)))
 .skip)))))⟩
noncomputable def c_fake_of:FD:=⟨3,3,(.seq (.ret (.tupE (.acons (.ix (.var 0) (.cst (.int 0))) (.acons (.ix (.var 0) (.cst (.int 1))) (.acons (.call 42 (.acons (.ix (.var 0) (.cst (.int 2))) (.acons (.var 1) (.acons (.var 2) .anil))) []) .anil)))))
 .skip)⟩
noncomputable def c_check_trials:FD:=⟨1,1,(.seq (.ite (.cmp .Gt (.len (.var 0)) (.cst (.int 10))) (.seq .stop
 .skip) .skip)
 .skip)⟩
noncomputable def Ys:CE:=(.comp false [2,0] (.var 1) (.call 13 (.acons (.var 2) (.acons (.var 0) (.acons (.var 1) .anil))) []) (.cst (.bl true)))
noncomputable def c_outcomes:FD:=⟨3,3,(.seq (.ret Ys)
 .skip)⟩
noncomputable def Z3:CS:=(.seq (.ite (.cmp .NotEq (.var 4) (.var 5)) (.seq (.set 2 (.bin .Add (.var 2) (.var 3)))
 .skip) .skip)
 (.seq (.set 3 (.bin .Mult (.var 3) (.cst (.int 2))))
 .skip))
noncomputable def c_bits_unlike:FD:=⟨2,6,(.seq (.set 2 (.cst (.int 0)))
 (.seq (.set 3 (.cst (.int 1)))
 (.seq (.forP 4 5 (.acons (.var 0) (.acons (.var 1) .anil)) Z3)
 (.seq (.ret (.var 2))
 .skip))))⟩
noncomputable def c_bits_of:FD:=⟨3,8,(.seq (.act (.call 181 (.acons (.var 1) .anil) []))
 (.seq (.set 3 (.call 182 (.acons (.var 0) (.acons (.var 1) (.acons (.var 2) .anil))) []))
 (.seq (.set 4 (.lstE .anil))
 (.seq (.for4 5 6 7 (.call 172 (.acons (.var 0) .anil) []) (.seq (.app 4 (.call 183 (.acons (.var 3) (.acons (.call 182 (.acons (.call 180 (.acons (.var 0) (.acons (.var 5) (.acons (.var 7) .anil))) []) (.acons (.var 1) (.acons (.var 2) .anil))) []) .anil)) []))
 .skip))
 (.seq (.ret (.tupleOf (.var 4)))
 .skip)))))⟩
noncomputable def Q7:FD:=⟨3,3,(.seq (.ite (.cmp .Eq (.var 1) (.cst (.str (S "+")))) (.seq (.ret (.call 89 (.acons (.bin .Add (.var 0) (.var 2)) .anil) []))
 .skip) .skip)
 (.seq (.ite (.cmp .Eq (.var 1) (.cst (.str (S "-")))) (.seq (.ret (.call 89 (.acons (.bin .Sub (.var 0) (.var 2)) .anil) []))
 .skip) .skip)
 (.seq (.ite (.cmp .Eq (.var 1) (.cst (.str (S "*")))) (.seq (.ret (.call 89 (.acons (.bin .Mult (.var 0) (.var 2)) .anil) []))
 .skip) .skip)
 (.seq (.ite (.cmp .Eq (.var 1) (.cst (.str (S "/")))) (.seq (.ret (.ife (.cmp .Eq (.var 2) (.cst (.int 0))) (.cst (.int 0)) (.call 89 (.acons (.bin .FloorDiv (.var 0) (.var 2)) .anil) [])))
 .skip) .skip)
 (.seq (.ret (.ife (.cmp .Eq (.var 2) (.cst (.int 0))) (.var 0) (.bin .Sub (.var 0) (.bin .Mult (.var 2) (.bin .FloorDiv (.var 0) (.var 2))))))
 .skip)))))⟩
noncomputable def Vz:FD:=⟨3,3,(.seq (.ite (.cmp .Lt (.var 0) (.var 2)) (.seq (.ret (.cmp .In (.var 1) (.lstE (.acons (.cst (.str (S "<"))) (.acons (.cst (.str (S "<="))) (.acons (.cst (.str (S "!="))) .anil))))))
 .skip) .skip)
 (.seq (.ite (.cmp .Gt (.var 0) (.var 2)) (.seq (.ret (.cmp .In (.var 1) (.lstE (.acons (.cst (.str (S ">"))) (.acons (.cst (.str (S ">="))) (.acons (.cst (.str (S "!="))) .anil))))))
 .skip) .skip)
 (.seq (.ret (.cmp .In (.var 1) (.lstE (.acons (.cst (.str (S "<="))) (.acons (.cst (.str (S "="))) (.acons (.cst (.str (S ">="))) .anil))))))
 .skip)))⟩
noncomputable def Wi:CS:=(.seq (.ite (.cmp .Eq (.var 5) (.len (.var 0))) (.seq (.ret (.tupE (.acons (.cst (.str (S "none"))) .anil)))
 .skip) .skip)
 (.seq (.set 7 (.ix (.var 0) (.var 5)))
 (.seq (.set 5 (.bin .Add (.var 5) (.cst (.int 1))))
 (.seq (.ite (.cmp .Eq (.ix (.var 7) (.cst (.int 0))) (.cst (.str (S "tell")))) (.seq (.ret (.tupE (.acons (.cst (.str (S "told"))) (.acons (.call 34 (.acons (.ix (.var 7) (.cst (.int 1))) (.acons (.var 4) .anil)) []) .anil))))
 .skip) .skip)
 (.seq (.ite (.cmp .Eq (.ix (.var 7) (.cst (.int 0))) (.cst (.str (S "put")))) (.seq (.put 4 (.ix (.var 7) (.cst (.int 1))) (.call 187 (.acons (.call 34 (.acons (.ix (.var 7) (.cst (.int 2))) (.acons (.var 4) .anil)) []) (.acons (.ix (.var 7) (.cst (.int 3))) (.acons (.call 34 (.acons (.ix (.var 7) (.cst (.int 4))) (.acons (.var 4) .anil)) []) .anil))) []))
 .skip) .skip)
 (.seq (.ite (.cmp .Eq (.ix (.var 7) (.cst (.int 0))) (.cst (.str (S "go")))) (.seq (.set 5 (.ix (.var 7) (.cst (.int 1))))
 .skip) .skip)
 (.seq (.ite (.cmp .Eq (.ix (.var 7) (.cst (.int 0))) (.cst (.str (S "if")))) (.seq (.set 8 (.call 34 (.acons (.ix (.var 7) (.cst (.int 1))) (.acons (.var 4) .anil)) []))
 (.seq (.ite (.call 33 (.acons (.var 8) (.acons (.ix (.var 7) (.cst (.int 2))) (.acons (.call 34 (.acons (.ix (.var 7) (.cst (.int 3))) (.acons (.var 4) .anil)) []) .anil))) []) (.seq (.set 5 (.ix (.var 7) (.cst (.int 4))))
 .skip) .skip)
 .skip)) .skip)
 .skip)))))))
noncomputable def WZ:FD:=⟨4,9,(.seq (.set 4 (.bin .Add (.listOf (.var 2)) (.bin .Mult (.lstE (.acons (.cst (.int 0)) .anil)) (.bin .Sub (.var 1) (.len (.var 2))))))
 (.seq (.set 5 (.cst (.int 0)))
 (.seq (.for1 6 true (.var 3) Wi)
 (.seq (.ite (.cmp .Eq (.var 5) (.len (.var 0))) (.seq (.ret (.tupE (.acons (.cst (.str (S "none"))) .anil)))
 .skip) .skip)
 (.seq (.ret (.tupE (.acons (.cst (.str (S "late"))) .anil)))
 .skip)))))⟩
noncomputable def c__law_cell_at_k56:FD:=⟨2,2,(.seq (.ite (.cmp .Lt (.var 1) (.len (.var 0))) (.seq (.ret (.ix (.var 0) (.var 1)))
 .skip) .skip)
 (.seq (.ret (.bin .Mod (.bin .Mult (.bin .Add (.bin .Mod (.ix (.bin .Add (.var 0) (.lstE (.acons (.cst (.int 0)) .anil))) (.cst (.int 0))) (.cst (.int 1000003))) (.cst (.int 13))) (.bin .Add (.bin .Mult (.var 1) (.var 1)) (.cst (.int 40009)))) (.cst (.int 2147483647))))
 .skip))⟩
noncomputable def c__law_operand_k56:FD:=⟨2,2,(.seq (.ite (.cmp .Eq (.bin .Mod (.var 0) (.cst (.int 2))) (.cst (.int 0))) (.seq (.ret (.tupE (.acons (.cst (.str (S "name"))) (.acons (.bin .Mod (.bin .FloorDiv (.var 0) (.cst (.int 2))) (.var 1)) .anil))))
 .skip) .skip)
 (.seq (.ret (.tupE (.acons (.cst (.str (S "number"))) (.acons (.bin .Sub (.bin .Mod (.bin .FloorDiv (.var 0) (.cst (.int 2))) (.cst (.int 2000000000))) (.cst (.int 1000000000))) .anil))))
 .skip))⟩
noncomputable def c__law_row_k56:FD:=⟨3,6,(.seq (.set 3 (.call 28 (.acons (.ix (.var 0) (.cst (.int 1))) (.acons (.var 1) .anil)) []))
 (.seq (.set 4 (.call 28 (.acons (.ix (.var 0) (.cst (.int 2))) (.acons (.var 1) .anil)) []))
 (.seq (.set 5 (.bin .FloorDiv (.ix (.var 0) (.cst (.int 0))) (.cst (.int 4))))
 (.seq (.ite (.cmp .Eq (.bin .Mod (.ix (.var 0) (.cst (.int 0))) (.cst (.int 4))) (.cst (.int 0))) (.seq (.ret (.tupE (.acons (.cst (.str (S "put"))) (.acons (.bin .Mod (.var 5) (.var 1)) (.acons (.var 3) (.acons (.ix (.lstE (.acons (.cst (.str (S "+"))) (.acons (.cst (.str (S "-"))) (.acons (.cst (.str (S "*"))) (.acons (.cst (.str (S "/"))) (.acons (.cst (.str (S "mod"))) .anil)))))) (.bin .Mod (.bin .FloorDiv (.var 5) (.var 1)) (.cst (.int 5)))) (.acons (.var 4) .anil)))))))
 .skip) .skip)
 (.seq (.ite (.cmp .Eq (.bin .Mod (.ix (.var 0) (.cst (.int 0))) (.cst (.int 4))) (.cst (.int 1))) (.seq (.ret (.tupE (.acons (.cst (.str (S "if"))) (.acons (.var 3) (.acons (.ix (.lstE (.acons (.cst (.str (S "<"))) (.acons (.cst (.str (S "<="))) (.acons (.cst (.str (S "="))) (.acons (.cst (.str (S ">="))) (.acons (.cst (.str (S ">"))) (.acons (.cst (.str (S "!="))) .anil))))))) (.bin .Mod (.var 5) (.cst (.int 6)))) (.acons (.var 4) (.acons (.bin .Mod (.bin .FloorDiv (.var 5) (.cst (.int 6))) (.bin .Add (.var 2) (.cst (.int 1)))) .anil)))))))
 .skip) .skip)
 (.seq (.ite (.cmp .Eq (.bin .Mod (.ix (.var 0) (.cst (.int 0))) (.cst (.int 4))) (.cst (.int 2))) (.seq (.ret (.tupE (.acons (.cst (.str (S "tell"))) (.acons (.var 4) .anil))))
 .skip) .skip)
 (.seq (.ret (.tupE (.acons (.cst (.str (S "skip"))) .anil)))
 .skip)))))))⟩
noncomputable def ZZ:CS:=(.seq (.ite (.or (.not (.call 17 (.acons (.var 4) .anil) [])) (.or (.cmp .Lt (.var 4) (.cst (.int 0))) (.cmp .GtE (.var 4) (.bin .LShift (.cst (.int 1)) (.len (.var 1)))))) (.seq (.ret (.cst (.bl false)))
 .skip) .skip)
 .skip)
noncomputable def c__law_told:FD:=⟨3,5,(.seq (.set 3 (.call 184 (.acons (.var 0) (.acons (.var 1) (.acons (.var 2) .anil))) []))
 (.seq (.ite (.or (.not (.isi .tuple (.var 3))) (.cmp .NotEq (.len (.var 3)) (.len (.call 172 (.acons (.var 0) .anil) [])))) (.seq (.ret (.cst (.bl false)))
 .skip) .skip)
 (.seq (.for1 4 false (.var 3) ZZ)
 (.seq (.ret (.cst (.bl true)))
 .skip))))⟩
noncomputable def Xk:CE:=(.comp true [6,0] (.cst (.int 3)) (.call 27 (.acons (.var 2) (.acons (.bin .Add (.bin .Add (.cst (.int 3)) (.bin .Mult (.cst (.int 3)) (.var 1))) (.var 0)) .anil)) []) (.cst (.bl true)))
noncomputable def Yl:CS:=(.seq (.set 10 (.bin .Sub (.bin .Mod (.call 27 (.acons (.var 0) (.acons (.bin .Add (.cst (.int 9)) (.var 6)) .anil)) []) (.cst (.int 2000000000))) (.cst (.int 1000000000))))
 (.seq (.app 9 (.tupleOf (.bin .Mult (.lstE (.acons (.var 10) .anil)) (.var 2))))
 .skip))
noncomputable def YF:CS:=(.seq (.app 5 (.call 29 (.acons Xk (.acons (.var 3) (.acons (.var 4) .anil))) []))
 .skip)
noncomputable def c_law_k56:FD:=⟨1,12,(.seq (.set 1 (.call 27 (.acons (.var 0) (.acons (.cst (.int 0)) .anil)) []))
 (.seq (.set 2 (.bin .Mod (.var 1) (.cst (.int 2))))
 (.seq (.set 3 (.bin .Add (.max (.cst (.int 1)) (.var 2)) (.bin .Mod (.bin .FloorDiv (.var 1) (.cst (.int 2))) (.cst (.int 2)))))
 (.seq (.set 4 (.bin .Mod (.bin .FloorDiv (.var 1) (.cst (.int 4))) (.cst (.int 3))))
 (.seq (.set 5 (.lstE .anil))
 (.seq (.for1 6 true (.var 4) YF)
 (.seq (.set 7 (.tupE (.acons (.bin .Mult (.tupE (.acons (.tupE (.acons (.neg (.cst (.int 1000000000))) (.acons (.cst (.int 999999999)) .anil))) .anil)) (.var 2)) (.acons (.var 3) (.acons (.tupleOf (.var 5)) .anil)))))
 (.seq (.set 8 (.bin .Mod (.call 27 (.acons (.var 0) (.acons (.cst (.int 1)) .anil)) []) (.cst (.int 7))))
 (.seq (.set 9 (.lstE .anil))
 (.seq (.for1 6 true (.bin .Add (.cst (.int 11)) (.bin .Mod (.call 27 (.acons (.var 0) (.acons (.cst (.int 2)) .anil)) []) (.cst (.int 50)))) Yl)
 (.seq (.set 11 (.bin .Mod (.bin .FloorDiv (.call 27 (.acons (.var 0) (.acons (.cst (.int 1)) .anil)) []) (.cst (.int 7))) (.cst (.int 11))))
 (.seq (.ite (.not (.call 229 (.acons (.var 7) (.acons (.tupleOf (.var 9)) (.acons (.var 8) .anil))) [])) (.seq (.ret (.cst (.bl false)))
 .skip) .skip)
 (.seq (.ite (.or (.not (.call 230 (.acons (.var 7) (.acons (.tupleOf (.slice (.var 9) .nop (.part (.var 11)))) (.acons (.var 8) .anil))) [])) (.not (.call 230 (.acons (.var 7) (.acons (.tupleOf (.slice (.var 9) .nop (.part (.cst (.int 10))))) (.acons (.var 8) .anil))) []))) (.seq (.ret (.cst (.bl false)))
 .skip) .skip)
 (.seq (.ret (.call 229 (.acons (.var 7) (.acons (.tupleOf (.slice (.var 9) .nop (.part (.cst (.int 11))))) (.acons (.var 8) .anil))) []))
 .skip))))))))))))))⟩
end Dp

noncomputable section
namespace Dp
open PySem
def ZV(x:Int):Int:=(x+1000000000) % 2000000000 - 1000000000
theorem Zaz{x:Int}:-1000000000≤ZV x:=by unfold ZV;omega
theorem Zay{x:Int}:ZV x≤999999999:=by unfold ZV;omega
def quo(a b:Int):Int:=a.fdiv b
theorem UK{a b:Int}(h:0 < b):a / b=quo a b:=(Int.fdiv_eq_ediv_of_nonneg a (Int.le_of_lt h)).symm
theorem ZeE{a b:Int}(h:b < 0):quo a b=-a / -b:=by
 unfold quo;rw[←Int.neg_fdiv_neg];exact Int.fdiv_eq_ediv_of_nonneg _ (by omega)
theorem Zc2{a b:Int}(h:0 < b):0≤a - b * quo a b∧a - b * quo a b < b:=by
 rw[←UK h];have e:=Int.emod_def a b;have h1:=Int.emod_nonneg a (show b≠0 by omega)
 have h2:=Int.emod_lt_of_pos a h;omega
theorem Zc1{a b:Int}(h:b < 0):b < a - b * quo a b∧a - b * quo a b≤0:=by
 rw[ZeE h];have e:=Int.emod_def (-a) (-b);have h1:=Int.emod_nonneg (-a) (show -b≠0 by omega)
 have h2:=Int.emod_lt_of_pos (-a) (show 0 < -b by omega)
 rw[Int.neg_mul]at e;omega
def YH(a:Int)(s:Str)(b:Int):Int:=
 if s=S "+" then ZV (a+b) else if s=S "-" then ZV (a - b) else if s=S "*" then ZV (a * b) else
 if s=S "/" then (if b=0 then 0 else ZV (quo a b)) else if b=0 then a else a - b * quo a b
def Vb(a:Int)(s:Str)(b:Int):Bool:=
 if s=S "<" then decide (a < b) else if s=S "<=" then decide (a≤b) else if s=S "=" then decide (a=b) else if s=S ">=" then decide (b≤a) else if s=S ">" then decide (b < a) else !decide (a=b)
def Sm(a:Int):Prop:=-1000000000≤a∧a≤999999999
instance {a:Int}:Decidable (Sm a):=inferInstanceAs (Decidable (_∧_))
theorem Sm.around{x:Int}:Sm (ZV x):=⟨Zaz,Zay⟩
theorem Sm.lim{a:Int}(h:Sm a):ZJ a=true:=Uy (by have:=h.1;omega) (by have:=h.2;omega)
theorem UM{a b:Int}{s:Str}(ha:Sm a)(hb:Sm b):Sm (YH a s b):=by
 unfold YH;split;· exact .around
 split;· exact .around
 split;· exact .around
 split
 ·split
  ·exact⟨by omega,by omega⟩
  ·exact .around
 ·split
  ·exact ha
  ·rename_i h0
   rcases Int.lt_trichotomy b 0 with h|h|h
   ·have:=Zc1 (a:=a) h
    exact⟨by have:=hb.1;omega,by omega⟩
   ·exact absurd h h0
   ·have:=Zc2 (a:=a) h
    exact⟨by omega,by have:=hb.2;omega⟩
structure NumT(T:Nat→Option FD):Prop where
 t0:T 0=some c_around
 t1:T 1=some c_divided
 t2:T 2=some c_left_over
 t3:T 3=some c_reckon
section
variable {T:Nat→Option FD}{n:Nat}{a b x:Int}{s:Str}
theorem WT(h:T 0=some c_around):Zg T (n+1) 0 [.int x]=some (.int (ZV x)):=by
 rw[Zn (f:=c_around) h rfl rfl]
 (rw[show Zz c_around.body=[] from rfl];simp[c_around,ZV])
theorem Zau(t:NumT T)(hb:Sm b):Zg T (n+2) 1 [.int a,.int b]=some (.int (if b=0 then 0 else ZV (quo a b))):=by
 rw[Zn (f:=c_divided) t.t1 rfl rfl];have h1:=hb.1;have h2:=hb.2;rcases Int.lt_trichotomy b 0 with h|h|h
 ·have:¬0 < b:=by omega
  (rw[show Zz c_divided.body=[] from rfl];simp[c_divided,WT t.t0,this,h,show ¬b=0 by omega,show -1073741824 < b by omega,quo])
 ·(rw[show Zz c_divided.body=[] from rfl];simp[c_divided,h])
 ·(rw[show Zz c_divided.body=[] from rfl];simp[c_divided,WT t.t0,h,show ¬b=0 by omega,show b < 1073741824 by omega,UK h])
theorem ZfF(t:NumT T)(hb:Sm b):Zg T (n+1) 2 [.int a,.int b]=some (.int (if b=0 then a else a - b * quo a b)):=by
 rw[Zn (f:=c_left_over) t.t2 rfl rfl];have h1:=hb.1;have h2:=hb.2;rcases Int.lt_trichotomy b 0 with h|h|h
 ·have:¬0 < b:=by omega
  (rw[show Zz c_left_over.body=[] from rfl];simp[c_left_over,this,h,show ¬b=0 by omega,show -1073741824 < b by omega,hb.lim,quo])
 ·(rw[show Zz c_left_over.body=[] from rfl];simp[c_left_over,h])
 ·(rw[show Zz c_left_over.body=[] from rfl];simp[c_left_over,h,show ¬b=0 by omega,show b < 1073741824 by omega,hb.lim,UK h])
theorem Zbi(t:NumT T)(ha:Sm a)(hb:Sm b):Zg T (n+3) 3 [.int a,.str s,.int b]=some (.int (YH a s b)):=by
 rw[Zn (f:=c_reckon) t.t3 rfl rfl];unfold YH
 (rw[show Zz c_reckon.body=[] from rfl];simp[c_reckon,WT t.t0,Zau t hb,ZfF t hb,ha.lim])
 split;· rfl
 split;· rfl
 split;· rfl
 split<;>rfl
theorem Zdr(h:T 4=some c_is_so):Zg T (n+1) 4 [.int a,.str s,.int b]=some (.bl (Vb a s b)):=by
 rw[Zn (f:=c_is_so) h rfl rfl];unfold Vb
 (rw[show Zz c_is_so.body=[] from rfl];simp[c_is_so])
 split;· rfl
 split;· rfl
 split;· rfl
 split;· rfl
 split<;>rfl
end
end Dp


namespace Dp
open PySem
section
variable {T:Nat→Option FD}{n:Nat}{a b c x:Int}{s:Str}
end
end Dp


namespace Dp
open PySem
inductive Opd where
 |name (i:Nat)|num (c:Int)
inductive Row where
 |put (x:Nat) (y:Opd) (s:Str) (z:Opd)|ifr (y:Opd) (s:Str) (z:Opd) (t:Nat)|go (t:Nat)|tell (y:Opd)|skip
def Z9:Opd→P
 |.name i=>.tup [.str (S "name"),.int (i:Int)]
 |.num c=>.tup [.str (S "number"),.int c]
def Zh:Row→P
 |.put x y s z=>.tup [.str (S "put"),.int (x:Int),Z9 y,.str s,Z9 z]
 |.ifr y s z t=>.tup [.str (S "if"),Z9 y,.str s,Z9 z,.int (t:Int)]
 |.go t=>.tup [.str (S "go"),.int (t:Int)]
 |.tell y=>.tup [.str (S "tell"),Z9 y]
 |.skip=>.tup [.str (S "skip")]
structure Prog where
 takes:P
 many:Nat
 rows:List Row
def Zw(p:Prog):P:=.tup [p.takes,.int (p.many:Int),.tup (p.rows.map Zh)]
abbrev StM:=Nat×List Int
def Zu(vs:List Int):P:=.tup (vs.map .int)
def Yd(s:StM):P:=.tup [.int (s.1:Int),Zu s.2]
inductive Out where
 |none|told (v:Int)|late
def Zi:Out→P
 |.none=>.tup [.str (S "none")]
 |.told v=>.tup [.str (S "told"),.int v]
 |.late=>.tup [.str (S "late")]
def Y9(m:Nat):Opd→Prop
 |.name i=>i < m
 |.num c=>Sm c
def JM(m n:Nat):Row→Prop
 |.put x y _ z=>x < m∧Y9 m y∧Y9 m z
 |.ifr y _ z t=>Y9 m y∧Y9 m z∧t≤n
 |.go t=>t≤n
 |.tell y=>Y9 m y
 |.skip=>True
structure ProgOk(p:Prog):Prop where
 rows:∀ r∈p.rows,JM p.many p.rows.length r
 many:p.many≤100
 size:p.rows.length≤100
structure VsOk(m:Nat)(vs:List Int):Prop where
 len:vs.length=m
 sm:∀ v∈vs,Sm v
def Zv(vs:List Int):Opd→Int
 |.name i=>vs.getD i 0
 |.num c=>c
theorem Wg{m:Nat}{vs:List Int}{o:Opd}(h:VsOk m vs)(ho:Y9 m o):Sm (Zv vs o):=by
 cases o with
 |name i=>
  have hi:i < vs.length:=by rw[h.len];exact ho
  show Sm (vs.getD i 0);rw[List.getD_eq_getElem?_getD,List.getElem?_eq_getElem hi];exact h.sm _ (List.getElem_mem hi)
 |num c=>exact ho
def X8(vs:List Int):Row→List Int
 |.put x y s z=>vs.set x (YH (Zv vs y) s (Zv vs z))
 |_=>vs
def Qt(k:Nat)(vs:List Int):Row→Nat
 |.go t=>t
 |.ifr y s z t=>if Vb (Zv vs y) s (Zv vs z)=true then t else k+1
 |_=>k+1
inductive Thing where
 |st (s:StM)|out (o:Out)
def Xg:Thing→P
 |.st s=>Yd s
 |.out o=>Zi o
def Yn(rows:List Row)(s:StM):Thing:=match rows[s.1]? with
 |Option.none=>.out .none
 |some (.tell y)=>.out (.told (Zv s.2 y))
 |some r=>.st (Qt s.1 s.2 r,X8 s.2 r)
structure StOkM(p:Prog)(s:StM):Prop where
 k:s.1≤p.rows.length
 vs:VsOk p.many s.2
theorem Ze6{p:Prog}{s s':StM}(hp:ProgOk p)(h:StOkM p s)(e:Yn p.rows s=.st s'):StOkM p s':=by
 unfold Yn at e;split at e
 ·cases e
 ·cases e
 ·rename_i r hn hr
  have ro:=hp.rows r (List.mem_of_getElem? hr);have hk:s.1 < p.rows.length:=(List.getElem?_eq_some_iff.mp hr).1;cases e;refine⟨?_,?_⟩
  ·cases r with
   |go t=>exact ro
   |ifr y z w t=>
    show(if _ then t else s.1+1)≤_
    split
    ·exact ro.2.2
    ·exact hk
   |_=>exact hk
  ·cases r with
   |put x y z w=>
    refine⟨by show(List.set _ _ _).length=_;rw[List.length_set];exact h.vs.len,fun v hv=>?_⟩
    rcases List.mem_or_eq_of_mem_set hv with hv|hv
    ·exact h.vs.sm v hv
    ·rw[hv]
     exact UM (Wg h.vs ro.2.1) (Wg h.vs ro.2.2)
   |_=>exact h.vs
def Yf(rows:List Row):Nat→StM→List StM×Option Out×StM
 |0,s=>([],Option.none,s)
 |l+1,s=>match Yn rows s with
  |.out o=>([],some o,s)
  |.st s'=>(s' :: (Yf rows l s').1,(Yf rows l s').2)
def Zf6(rows:List Row)(s:StM):Out:=if rows.length≤s.1 then .none else .late
def Za6(rows:List Row)(l:Nat)(s:StM):Out:=match (Yf rows l s).2.1 with
 |some o=>o
 |Option.none=>Zf6 rows (Yf rows l s).2.2
def UW(rows:List Row)(l:Nat)(s:StM):List Thing:=.st s :: ((Yf rows l s).1.map .st++[.out (Za6 rows l s)])
def ZI(p:Prog)(ins:List Int):StM:=(0,ins++List.replicate (p.many - ins.length) 0)
theorem Zdf{p:Prog}{ins:List Int}(h:ins.length≤p.many)(hs:∀ v∈ins,Sm v):StOkM p (ZI p ins):=
 ⟨Nat.zero_le _,by show(ins++_).length=_;simp;omega,fun v hv=>by
  rcases List.mem_append.mp hv with hv|hv
  ·exact hs v hv
  ·rw[(List.mem_replicate.mp hv).2];exact⟨by omega,by omega⟩⟩
structure MoveT(T:Nat→Option FD):Prop where
 num:NumT T
 t4:T 4=some c_is_so
 t5:T 5=some c_worth
 t7:T 7=some c_at_end
 t8:T 8=some c_values_behind
 t9:T 9=some c_place_behind
 t10:T 10=some c_moved
 t42:T 42=some c_replaced
structure MachT(T:Nat→Option FD):Prop extends MoveT T where
 t6:T 6=some c_began
section
variable {T:Nat→Option FD}{n:Nat}{p:Prog}{s:StM}{vs:List Int}{o:Opd}{r:Row}{k m:Nat}{ins:List Int}
theorem Ug(h:T 5=some c_worth)(ho:Y9 vs.length o):Zg T (n+1) 5 [Z9 o,Zu vs]=some (.int (Zv vs o)):=by
 rw[Zn (f:=c_worth) h rfl rfl];cases o with
 |name i=>
  have hi:i < vs.length:=ho
  (rw[show Zz c_worth.body=[] from rfl];simp[c_worth,Z9,Zu,Zv,hi])
 |num c=>(rw[show Zz c_worth.body=[] from rfl];simp[c_worth,Z9,Zv])
theorem Zdq(h:T 6=some c_began)(h1:ins.length≤p.many)(h2:p.many≤100):Zg T (n+1) 6 [Zw p,Zu ins]=some (Yd (ZI p ins)):=by
 rw[Zn (f:=c_began) h rfl rfl];have e:((p.many:Int) - (ins.length:Int)).toNat=p.many - ins.length:=by omega
 (rw[show Zz c_began.body=[] from rfl];simp[c_began,Zw,Zu,Yd,ZI,Zj,e])
 omega
theorem UZ(h:T 7=some c_at_end):Zg T (n+1) 7 [Zw p,Yd s]=some (.bl (decide (p.rows.length≤s.1))):=by
 rw[Zn (f:=c_at_end) h rfl rfl]
 (rw[show Zz c_at_end.body=[] from rfl];simp[c_at_end,Zw,Yd])
theorem ZbE{xs:List P}{x:Nat}(h:x≤xs.length):Wk xs Option.none (some (x:Int))=xs.take x:=by
 unfold Wk;have e:sIx xs.length xs.length (some (x:Int))=x:=by
  show(if (x:Int) < 0 then ((x:Int)+(xs.length:Int)).toNat else Nat.min ((x:Int)).toNat xs.length)=_
  rw[if_neg (by omega)]
  exact Nat.min_eq_left h
 rw[e];rfl
theorem Zf3{xs:List P}{x:Nat}(h:x≤xs.length):Wk xs (some (x:Int)) Option.none=xs.drop x:=by
 unfold Wk;have e:sIx xs.length 0 (some (x:Int))=x:=by
  show(if (x:Int) < 0 then ((x:Int)+(xs.length:Int)).toNat else Nat.min ((x:Int)).toNat xs.length)=_
  rw[if_neg (by omega)]
  exact Nat.min_eq_left h
 rw[e];show((xs.drop x).take (xs.length - x))=_;rw[List.take_of_length_le (by simp)]
theorem Zde{xs:List P}{x:Nat}(h:x < xs.length):Z5 (.tup xs) Option.none (some (x:Int))=some (.tup (xs.take x)):=by
 show(if sIx xs.length 0 Option.none=0∧sIx xs.length xs.length (some (x:Int))=xs.length then some (P.tup xs) else some (P.tup (Wk xs Option.none (some (x:Int)))))=_
 have e:sIx xs.length xs.length (some (x:Int))=x:=by
  show(if (x:Int) < 0 then ((x:Int)+(xs.length:Int)).toNat else Nat.min ((x:Int)).toNat xs.length)=_
  rw[if_neg (by omega)]
  exact Nat.min_eq_left (by omega)
 rw[if_neg (by rw[e];omega),ZbE (by omega)]
theorem Zdd{xs:List P}{x:Nat}(h:x < xs.length):Z5 (.tup xs) (some ((x:Int)+1)) Option.none=some (.tup (xs.drop (x+1))):=by
 rw[show(x:Int)+1=((x+1:Nat):Int) by omega]
 show(if sIx xs.length 0 (some ((x+1:Nat):Int))=0∧sIx xs.length xs.length Option.none=xs.length then some (P.tup xs) else some (P.tup (Wk xs (some ((x+1:Nat):Int)) Option.none)))=_
 have e:sIx xs.length 0 (some ((x+1:Nat):Int))=x+1:=by
  show(if ((x+1:Nat):Int) < 0 then (((x+1:Nat):Int)+(xs.length:Int)).toNat else Nat.min (((x+1:Nat):Int)).toNat xs.length)=_
  rw[if_neg (by omega)]
  exact Nat.min_eq_left (by omega)
 rw[if_neg (by rw[e];omega),Zf3 (by omega)]
theorem WU{xs:List P}{x:Nat}{q:P}(t:T 42=some c_replaced)(hx:x < xs.length)(hl:xs.length≤1000):Zg T (n+1) 42 [.tup xs,.int (x:Int),q]=some (.tup (xs.set x q)):=by
 rw[Zn (f:=c_replaced) t rfl rfl];have s1:=Zde (xs:=xs) (x:=x) hx;have s2:=Zdd (xs:=xs) (x:=x) hx
 (rw[show Zz c_replaced.body=[] from rfl];simp[c_replaced,s1,s2,Zj,show min x xs.length+1+(xs.length - (x+1))≤1000000 by omega,show min x xs.length+1≤1000000 by omega])
 rw[List.set_eq_take_append_cons_drop,if_pos hx]
theorem Zbj(t:MoveT T)(hv:VsOk m vs)(hm:m≤100)(hr:JM m k r):Zg T (n+4) 8 [Zh r,Zu vs]=some (Zu (X8 vs r)):=by
 rw[Zn (f:=c_values_behind) t.t8 rfl rfl];cases r with
 |put x y s z=>
  have hx:x < vs.length:=by rw[hv.len];exact hr.1
  have w:∀ j o,Y9 m o→Zg T (j+1) 5 [Z9 o,Zu vs]=some (.int (Zv vs o)):=fun j o ho=>Ug t.t5 (by rw[hv.len];exact ho)
  have re:∀ j,Zg T (j+3) 3 [.int (Zv vs y),.str s,.int (Zv vs z)]=some (.int (YH (Zv vs y) s (Zv vs z))):=fun j=>Zbi t.num (Wg hv hr.2.1) (Wg hv hr.2.2)
  have hl:=hv.len;have rp:Zg T (n+3) 42 [Zu vs,.int (x:Int),.int (YH (Zv vs y) s (Zv vs z))]=some (.tup ((vs.map P.int).set x (.int (YH (Zv vs y) s (Zv vs z))))):=WU (n:=n+2) t.t42 (by simpa using hx) (by simp;omega)
  (rw[show Zz c_values_behind.body=[] from rfl];simp[c_values_behind,Zh,w _ _ hr.2.1,w _ _ hr.2.2,re])
  rw[rp];simp[X8,Zu,List.map_set]
 |ifr y s z t=>(rw[show Zz c_values_behind.body=[] from rfl];simp[c_values_behind,Zh,X8])
 |go t=>(rw[show Zz c_values_behind.body=[] from rfl];simp[c_values_behind,Zh,X8])
 |tell y=>(rw[show Zz c_values_behind.body=[] from rfl];simp[c_values_behind,Zh,X8])
 |skip=>(rw[show Zz c_values_behind.body=[] from rfl];simp[c_values_behind,Zh,X8])
theorem JA{o:Option PFl}{v:P}(h:o=some (.rt v)):YD o=some v:=by rw[h];rfl
theorem Xa{F:PFn}{M:List Nat}{c e:CE}{r:CS}{π:Zs}{v:P}(h:pe F c π=some (.bl true))(he:pe F e π=some v):px F M (.seq (.ite c (.seq (.ret e) .skip) .skip) r) π=some (.rt v):=by
 rw[Zr,Jy,h,UV,if_pos rfl,Zr,ZcV,he];rfl
theorem Yo{F:PFn}{M:List Nat}{c:CE}{a r:CS}{π:Zs}(h:pe F c π=some (.bl false)):px F M (.seq (.ite c a .skip) r) π=px F M r π:=by
 rw[Zr,Jy,h,UV,if_neg Bool.false_ne_true,Yj,Zo]
theorem Yx{F:PFn}{k:Nat}{e:CE}{r:CS}{π:Zs}{v:P}(h:pe F e π=some v):px F [] (.seq (.set k e) r) π=px F [] r (Zp π k v):=by
 rw[Zr,ZeD,h,Option.bind_some,Zo]
theorem Yw{F:PFn}{M:List Nat}{e:CE}{r:CS}{π:Zs}{v:P}(h:pe F e π=some v):px F M (.seq (.ret e) r) π=some (.rt v):=by
 rw[Zr,ZcV,h];rfl
theorem Zdt(t:MoveT T)(hv:VsOk m vs)(hr:JM m p.rows.length r):Zg T (n+2) 9 [Zh r,.int (k:Int),Zu vs]=some (.int (Qt k vs r:Int)):=by
 rw[Zn (f:=c_place_behind) t.t9 rfl rfl];refine JA ?_;cases r with
 |ifr y s z t'=>
  have w:∀ o,Y9 m o→Zg T (n+1) 5 [Z9 o,Zu vs]=some (.int (Zv vs o)):=fun o ho=>Ug t.t5 (by rw[hv.len];exact ho)
  have so:Zg T (n+1) 4 [.int (Zv vs y),.str s,.int (Zv vs z)]=some (.bl (Vb (Zv vs y) s (Zv vs z))):=Zdr t.t4;have c:pe (Zg T (n+1)) (.and (.cmp .Eq (.ix (.var 0) (.cst (.int 0))) (.cst (.str (S "if")))) (.call 4 (.acons (.call 5 (.acons (.ix (.var 0) (.cst (.int 1))) (.acons (.var 2) .anil)) []) (.acons (.ix (.var 0) (.cst (.int 2))) (.acons (.call 5 (.acons (.ix (.var 0) (.cst (.int 3))) (.acons (.var 2) .anil)) []) .anil))) [])) [some (.tup [.str (S "if"),Z9 y,.str s,Z9 z,.int (t':Int)]),some (.int (k:Int)),some (Zu vs)]=some (.bl (Vb (Zv vs y) s (Zv vs z))):=by
   simp[w _ hr.1,w _ hr.2.1,so]
  rw[show Qt k vs (.ifr y s z t')=if Vb (Zv vs y) s (Zv vs z)=true then t' else k+1 from rfl]
  cases q:Vb (Zv vs y) s (Zv vs z) with
  |true=>rw[q]at c;exact(Yo rfl).trans (Xa c rfl)
  |false=>rw[q]at c;exact(Yo rfl).trans ((Yo c).trans (Yw rfl))
 |go t=>exact Xa rfl rfl
 |_=>exact(Yo rfl).trans ((Yo rfl).trans (Yw rfl))
theorem Zds(t:MoveT T)(hp:ProgOk p)(hs:StOkM p s):Zg T (n+5) 10 [Zw p,Yd s]=some (Xg (Yn p.rows s)):=by
 rw[Zn (f:=c_moved) t.t10 rfl rfl];have ae:Zg T (n+4) 7 [Zw p,Yd s]=some (.bl (decide (p.rows.length≤s.1))):=UZ t.t7;unfold Yn;by_cases hk:p.rows.length≤s.1
 ·rw[List.getElem?_eq_none hk]
  exact JA (Xa (by exact ae.trans (by rw[decide_eq_true hk])) rfl)
 ·obtain⟨r,hr⟩:∃ r,p.rows[s.1]?=some r:=⟨_,List.getElem?_eq_getElem (Nat.lt_of_not_le hk)⟩
  have ro:=hp.rows r (List.mem_of_getElem? hr);have pl:Zg T (n+4) 9 [Zh r,.int (s.1:Int),Zu s.2]=some (.int (Qt s.1 s.2 r:Int)):=Zdt (p:=p) (n:=n+2) t hs.vs ro;have va:Zg T (n+4) 8 [Zh r,Zu s.2]=some (Zu (X8 s.2 r)):=Zbj t hs.vs hp.many ro;have ir:atP (p.rows.map Zh) (s.1:Int)=some (Zh r):=by rw[XO rfl,List.getElem?_map,hr];rfl
  rw[hr];refine JA ((Yo (by exact ae.trans (by rw[decide_eq_false hk]))).trans ((Yx (v:=.int (s.1:Int)) rfl).trans ((Yx (v:=Zu s.2) rfl).trans ((Yx (v:=Zh r) (by exact ir)).trans ?_))))
  have fin:∀ {q:CS},px (Zg T (n+4)) [] (.seq (.ret (.tupE (.acons (.call 9 (.acons (.var 4) (.acons (.var 2) (.acons (.var 3) .anil))) []) (.acons (.call 8 (.acons (.var 4) (.acons (.var 3) .anil)) []) .anil)))) q) [some (Zw p),some (Yd s),some (.int (s.1:Int)),some (Zu s.2),some (Zh r)]=some (.rt (.tup [.int (Qt s.1 s.2 r:Int),Zu (X8 s.2 r)])):=Yw (by simp[pl,va])
  cases r with
  |tell y=>
   have w:Zg T (n+4) 5 [Z9 y,Zu s.2]=some (.int (Zv s.2 y)):=Ug t.t5 (by rw[hs.vs.len];exact ro)
   have e:pe (Zg T (n+4)) (.tupE (.acons (.cst (.str (S "told"))) (.acons (.call 5 (.acons (.ix (.var 4) (.cst (.int 1))) (.acons (.var 3) .anil)) []) .anil))) [some (Zw p),some (Yd s),some (.int (s.1:Int)),some (Zu s.2),some (.tup [.str (S "tell"),Z9 y])]=some (Xg (.out (.told (Zv s.2 y)))):=by simp[Xg,Zi,w]
   exact Xa rfl e
  |_=>exact(Yo rfl).trans fin
def Wz:Thing→Bool
 |.st _=>false
 |.out _=>true
theorem Uf(h:T 11=some c_is_outcome){th:Thing}:Zg T (n+1) 11 [Xg th]=some (.bl (Wz th)):=by
 rw[Zn (f:=c_is_outcome) h rfl rfl];cases th with
 |st s=>(rw[show Zz c_is_outcome.body=[] from rfl];simp[c_is_outcome,Xg,Yd,Wz])
 |out o=>cases o<;>(rw[show Zz c_is_outcome.body=[] from rfl];simp[c_is_outcome,Xg,Zi,Wz])
theorem Vu(t:MachT T)(t11:T 11=some c_is_outcome)(hp:ProgOk p){x1 x2:Option P}:∀ {xs:List P}{s:StM}{ths:List P}{x5 x6:Option P},StOkM p s→ths.length+xs.length < 1000→
  (∀ o,(Yf p.rows xs.length s).2.1=some o→ZA (fun d π=>px (Zg T (n+6)) [4,4] Yt (Zp π 5 d)) xs [some (Zw p),x1,x2,some (Yd s),some (.lst true ths),x5,x6]=some (.rt (.tup (ths++(Yf p.rows xs.length s).1.map Yd++[Zi o])))) ∧
  ((Yf p.rows xs.length s).2.1=Option.none→∃ y5 y6,ZA (fun d π=>px (Zg T (n+6)) [4,4] Yt (Zp π 5 d)) xs [some (Zw p),x1,x2,some (Yd s),some (.lst true ths),x5,x6]=some (.nx [some (Zw p),x1,x2,some (Yd (Yf p.rows xs.length s).2.2),some (.lst true (ths++(Yf p.rows xs.length s).1.map Yd)),y5,y6]))
 |[],s,ths,x5,x6,_,_=>⟨fun o h=>(by cases h),fun _=>⟨x5,x6,by rw[Vf];simp[Yf]⟩⟩
 |x :: xs,s,ths,x5,x6,hs,hl=>by
  have mv:=Zds (n:=n+1) t.toMoveT hp hs;have io:Zg T (n+6) 11 [Xg (Yn p.rows s)]=some (.bl (Wz (Yn p.rows s))):=Uf t11;have hl':ths.length+xs.length+1 < 1000:=by simpa[Nat.add_assoc] using hl
  have body:px (Zg T (n+6)) [4,4] Yt [some (Zw p),x1,x2,some (Yd s),some (.lst true ths),some x,x6]=(if Wz (Yn p.rows s)=true then some (.rt (.tup (ths++[Xg (Yn p.rows s)]))) else some (.nx [some (Zw p),x1,x2,some (Xg (Yn p.rows s)),some (.lst true (ths++[Xg (Yn p.rows s)])),some x,some (Xg (Yn p.rows s))])):=by
   have k1:∀ x,Zq [4,4] (.call 10 (.acons (.var 0) (.acons (.var 3) .anil)) []) x=true:=fun _=>rfl
   have k2:∀ x,Zq [4,4] (.var 6) x=true:=fun _=>rfl
   unfold Yt;simp only[Zr];rw[UJ];simp[mv,k1];rw[Jx (xs:=ths) rfl];simp[k2,io,show ths.length < Zj by unfold Zj;omega]
   cases Wz (Yn p.rows s) with
   |true=>simp
   |false=>rw[UJ];simp[k2]
  rw[ZX];have e0:Zp [some (Zw p),x1,x2,some (Yd s),some (.lst true ths),x5,x6] 5 x=[some (Zw p),x1,x2,some (Yd s),some (.lst true ths),some x,x6]:=rfl;rw[e0,body];cases hst:Yn p.rows s with
  |out o=>
   have e1:Yf p.rows (x :: xs).length s=([],some o,s):=by
    show(match Yn p.rows s with
     |.out o=>([],some o,s)
     |.st s'=>(s' :: (Yf p.rows xs.length s').1,(Yf p.rows xs.length s').2))=_
    rw[hst]
   rw[e1];refine⟨fun o' h=>?_,fun h=>by cases h⟩
   cases h;simp[Wz,Xg]
  |st s'=>
   have e1:Yf p.rows (x :: xs).length s=(s' :: (Yf p.rows xs.length s').1,(Yf p.rows xs.length s').2):=by
    show(match Yn p.rows s with
     |.out o=>([],some o,s)
     |.st s'=>(s' :: (Yf p.rows xs.length s').1,(Yf p.rows xs.length s').2))=_
    rw[hst]
   rw[e1];have ih:=Vu t t11 hp (x1:=x1) (x2:=x2) (xs:=xs) (s:=s') (ths:=ths++[Yd s']) (x5:=some x) (x6:=some (Yd s')) (Ze6 hp hs hst) (by simp;omega)
   simp only[Wz,Bool.false_eq_true,if_false,Yk,Xg];refine⟨fun o h=>?_,fun h=>?_⟩
   ·rw[ih.1 o h]
    simp
   ·obtain⟨y5,y6,e⟩:=ih.2 h
    exact⟨y5,y6,by rw[e];simp⟩
theorem QJ{rows:List Row}:∀ {l:Nat}{s:StM},((Yf rows l s).1).length≤l
 |0,_=>Nat.le_refl _
 |l+1,s=>by
  show((match Yn rows s with
   |.out o=>([],some o,s)
   |.st s'=>(s' :: (Yf rows l s').1,(Yf rows l s').2)):List StM×Option Out×StM).1.length≤l+1
  split
  ·exact Nat.zero_le _
  ·exact Nat.succ_le_succ QJ
structure TrailT(T:Nat→Option FD):Prop extends MachT T where
 t11:T 11=some c_is_outcome
 t12:T 12=some c_trail
theorem Zdu(t:TrailT T)(hp:ProgOk p)(h1:ins.length≤p.many)(hs:∀ v∈ins,Sm v){l:Nat}(hl:l≤900) :
  Zg T (n+7) 12 [Zw p,Zu ins,.int (l:Int)]=some (.tup ((UW p.rows l (ZI p ins)).map Xg)):=by
 rw[Zn (f:=c_trail) t.t12 rfl rfl];have hm:Zz c_trail.body=[4,4]:=rfl;rw[hm];have bg:=Zdq (n:=n+5) t.t6 h1 hp.many;have so:=Zdf (p:=p) h1 hs;have ae:∀ j s,Zg T (j+1) 7 [Zw p,Yd s]=some (.bl (decide (p.rows.length≤s.1))):=fun j s=>UZ t.t7
 have lp:=Vu (n:=n) t.toMachT t.t11 hp (x1:=some (Zu ins)) (x2:=some (.int (l:Int))) (xs:=Yb (l:Int)) (s:=ZI p ins) (ths:=[Yd (ZI p ins)]) (x5:=Option.none) (x6:=Option.none) so (by simp[Yb];omega)
 have rl:(Yb (l:Int)).length=l:=by simp[Yb]
 rw[rl]at lp;have pre:px (Zg T (n+6)) [4,4] c_trail.body ([Zw p,Zu ins,.int (l:Int)].map some++List.replicate (c_trail.ns - [Zw p,Zu ins,.int (l:Int)].length) Option.none) =
   We (ZA (fun d π=>px (Zg T (n+6)) [4,4] Yt (Zp π 5 d)) (Yb (l:Int)) [some (Zw p),some (Zu ins),some (.int (l:Int)),some (Yd (ZI p ins)),some (.lst true [Yd (ZI p ins)]),Option.none,Option.none]) (px (Zg T (n+6)) [4,4] (.seq (.app 4 (.ife (.call 7 (.acons (.var 0) (.acons (.var 3) .anil)) []) (.tupE (.acons (.cst (.str (S "none"))) .anil)) (.tupE (.acons (.cst (.str (S "late"))) .anil)))) (.seq (.ret (.tupleOf (.var 4))) .skip))):=by
  show px (Zg T (n+6)) [4,4] c_trail.body [some (Zw p),some (Zu ins),some (.int (l:Int)),Option.none,Option.none,Option.none,Option.none]=_;unfold c_trail;rw[Zr,Z4 (p:=Yd (ZI p ins)) (by simp[bg]) rfl rfl,Zo,Zr,Wc (p:=.lst true [Yd (ZI p ins)]) (by simp) rfl rfl,Zo,Zr]
  simp only[Zl,Zk];rw[Zah (n:=(l:Int)) (by simp) (by omega) (by omega) rfl]
 rw[pre];unfold UW Za6;cases q:(Yf p.rows l (ZI p ins)).2.1 with
 |some o=>
  rw[lp.1 o q];simp[Xg]
 |none=>
  obtain⟨y5,y6,e⟩:=lp.2 q;rw[e];simp only[Zo,Zr];rw[Jx (xs:=[Yd (ZI p ins)]++(Yf p.rows l (ZI p ins)).1.map Yd) rfl];have hz:((Yf p.rows l (ZI p ins)).1).length≤l:=QJ;have k1:∀ x,Zq [4,4] (.ife (.call 7 (.acons (.var 0) (.acons (.var 3) .anil)) []) (.tupE (.acons (.cst (.str (S "none"))) .anil)) (.tupE (.acons (.cst (.str (S "late"))) .anil))) x=true:=fun _=>rfl
  by_cases he:p.rows.length≤(Yf p.rows l (ZI p ins)).2.2.1
  ·simp[ae,he,k1,Zf6,Xg,Zi,show((Yf p.rows l (ZI p ins)).1).length+1 < Zj by unfold Zj;omega]
  ·simp[ae,he,k1,Zf6,Xg,Zi,show((Yf p.rows l (ZI p ins)).1).length+1 < Zj by unfold Zj;omega]
structure SeenT(T:Nat→Option FD):Prop extends TrailT T where
 t13:T 13=some c_outcome
 t14:T 14=some VB
 t15:T 15=some ZfZ
 t43:T 43=some Zbw
 t44:T 44=some ZaD
theorem JG{rows:List Row}{l:Nat}{s:StM}:(UW rows l s).getLast?=some (.out (Za6 rows l s)):=by
 unfold UW;rw[←List.cons_append,List.getLast?_concat]
theorem ZbI{o:Out}:Xg (.out o)=Zi o:=rfl
end
end Dp


namespace Dp
open PySem
end Dp


namespace Dp
open PySem
def eqO:Opd→Opd→Bool
 |.name i,.name j=>decide (i=j)
 |.num c,.num d=>decide (c=d)
 |_,_=>false
theorem nn:(S "name"=S "number")=False:=by simp
theorem ZhK{a b:Opd}:WW (Z9 a) (Z9 b)=eqO a b:=by
 cases a<;>cases b<;>simp[Z9,eqO,WW,XH]
 omega
structure MadeT(T:Nat→Option FD):Prop where
 num:NumT T
 t4:T 4=some c_is_so
 t42:T 42=some c_replaced
 t73:T 73=some VA
 t74:T 74=some W1
 t75:T 75=some W0
 t76:T 76=some XG
 t77:T 77=some Q8
 t78:T 78=some X2
 t79:T 79=some Uo
 t80:T 80=some ZaE
 t81:T 81=some W2
 t82:T 82=some ZaC
 t83:T 83=some Q9
section
variable {T:Nat→Option FD}{n:Nat}{y z:Opd}{s:Str}{x t k:Nat}
def PSg(s:Str):Prop:=s=S "+"∨s=S "-"∨s=S "*"∨s=S "/"∨s=S "mod"
def ISg(s:Str):Prop:=s=S "<"∨s=S "<="∨s=S "="∨s=S ">="∨s=S ">"∨s=S "!="
def OSm:Opd→Prop
 |.num c=>Sm c
 |.name _=>True
def RSg:Row→Prop
 |.put _ y s z=>PSg s∧OSm y∧OSm z
 |.ifr _ s _ _=>ISg s
 |_=>True
end
end Dp


namespace Dp
open PySem
def sgA(i:Int):Str:=([S "+",S "-",S "*",S "/",S "mod"]:List Str).getD i.toNat (S "+")
def sgB(i:Int):Str:=([S "<",S "<=",S "=",S ">=",S ">",S "!="]:List Str).getD i.toNat (S "<")
theorem Zhd(i:Int):PSg (sgA i):=by
 unfold sgA;rcases h:i.toNat with _|_|_|_|_|k
 ·exact .inl rfl
 ·exact .inr (.inl rfl)
 ·exact .inr (.inr (.inl rfl))
 ·exact .inr (.inr (.inr (.inl rfl)))
 ·exact .inr (.inr (.inr (.inr rfl)))
 ·exact .inl (by simp[List.getD])
theorem Zhe(i:Int):ISg (sgB i):=by
 unfold sgB;rcases h:i.toNat with _|_|_|_|_|_|k
 ·exact .inl rfl
 ·exact .inr (.inl rfl)
 ·exact .inr (.inr (.inl rfl))
 ·exact .inr (.inr (.inr (.inl rfl)))
 ·exact .inr (.inr (.inr (.inr (.inl rfl))))
 ·exact .inr (.inr (.inr (.inr (.inr rfl))))
 ·exact .inl (by simp[List.getD])
theorem ZcA{m:Nat}{o:Opd}(h:Y9 m o):OSm o:=by
 cases o with
 |name i=>trivial
 |num c=>exact h
structure RowT(T:Nat→Option FD):Prop where
 t18:T 18=some Xi
 t27:T 27=some XQ
 t71:T 71=some X1
 t84:T 84=some XR
 t72:T 72=some Vy
section
variable {T:Nat→Option FD}{n:Nat}{c c0 c1 c2 c3:Int}{m many at_:Nat}{b:Bool}
theorem r5(c:Int):c % 5=0∨c % 5=1∨c % 5=2∨c % 5=3∨c % 5=4:=by omega
theorem r6(c:Int):c % 6=0∨c % 6=1∨c % 6=2∨c % 6=3∨c % 6=4∨c % 6=5:=by omega
theorem Zjv:atP [.str (S "+"),.str (S "-"),.str (S "*"),.str (S "/"),.str (S "mod")] (c % 5)=some (.str (sgA (c % 5))):=by
 rcases r5 c with h|h|h|h|h<;>rw[h]<;>rfl
theorem Zjw:atP [.str (S "<"),.str (S "<="),.str (S "="),.str (S ">="),.str (S ">"),.str (S "!=")] (c % 6)=some (.str (sgB (c % 6))):=by
 rcases r6 c with h|h|h|h|h|h<;>rw[h]<;>rfl
end
end Dp


namespace Dp
open PySem
section
variable {T:Nat→Option FD}{n:Nat}{a:Int}{s:Str}{y:Opd}
end
end Dp


namespace Dp
open PySem
structure LawOT(T:Nat→Option FD):Prop where
 t34:T 34=some Um
 t89:T 89=some Ul
 t187:T 187=some Q7
 t33:T 33=some Vz
 t188:T 188=some WZ
section
variable {T:Nat→Option FD}{n:Nat}{F:PFn}{p:Prog}{s:StM}{vs:List Int}{o:Opd}{r:Row}{k m:Nat}{ins:List Int}{a b:Int}{sg:Str}
theorem ZhJ{M:List Nat}{c:CE}{a b q:CS}{π π':Zs}(h:pe F c π=some (.bl true))(ha:px F M a π=some (.nx π')):px F M (.seq (.ite c a b) q) π=px F M q π':=by
 rw[Zr,Jy,h,UV,if_pos rfl,ha,Zo]
end
end Dp


namespace Dp
open PySem
noncomputable def num:List (Str×Nat):=[(S "HuntError",177),(S "TextError",222),(S "TextError.__init__",223),(S "NoLine",224),(S "Twice",225),(S "NoName",226),(S "NoPlace",227),(S "TooWide",189),(S "TooWide.__init__",190),(S "TooMany",178),(S "TooMany.__init__",179),(S "replaced",42),(S "operand_places",113),(S "around",0),(S "divided",1),(S "left_over",2),(S "reckon",3),(S "is_so",4),(S "behind",70),(S "Step",146),(S "Step.word",147),(S "Step.turned",148),(S "Sign",169),(S "Sign.word",170),(S "Sign.turned",171),(S "More",149),(S "More.word",150),(S "More.turned",151),(S "Turn",157),(S "Turn.word",158),(S "Turn.turned",159),(S "Out",152),(S "Out.word",153),(S "Out.turned",154),(S "Swap",160),(S "Swap.word",161),(S "Swap.turned",162),(S "Far",163),(S "Far.word",164),(S "Far.turned",165),(S "fakes",172),(S "fake_of",180),(S "worth",5),(S "began",6),(S "at_end",7),(S "values_behind",8),(S "place_behind",9),(S "moved",10),(S "is_outcome",11),(S "trail",12),(S "outcome",13),(S "check_trials",181),(S "outcomes",182),(S "bits_unlike",183),(S "bits_of",184),(S "_law_whole",17),(S "_law_cell_at",27),(S "_law_operand",28),(S "_law_row",29),(S "_law_refused",229),(S "_law_told",230),(S "law",16)]
noncomputable def T:Nat→Option FD
 |42=>some c_replaced
 |113=>some c_operand_places
 |0=>some c_around
 |1=>some c_divided
 |2=>some c_left_over
 |3=>some c_reckon
 |4=>some c_is_so
 |70=>some c_behind
 |147=>some c_Step_word
 |148=>some c_Step_turned
 |170=>some c_Sign_word
 |171=>some c_Sign_turned
 |150=>some c_More_word
 |151=>some c_More_turned
 |158=>some c_Turn_word
 |159=>some c_Turn_turned
 |153=>some c_Out_word
 |154=>some c_Out_turned
 |161=>some c_Swap_word
 |162=>some c_Swap_turned
 |164=>some c_Far_word
 |165=>some c_Far_turned
 |172=>some c_fakes
 |180=>some c_fake_of
 |5=>some c_worth
 |6=>some c_began
 |7=>some c_at_end
 |8=>some c_values_behind
 |9=>some c_place_behind
 |10=>some c_moved
 |11=>some c_is_outcome
 |12=>some c_trail
 |13=>some c_outcome
 |181=>some c_check_trials
 |182=>some c_outcomes
 |183=>some c_bits_unlike
 |184=>some c_bits_of
 |17=>some c__law_whole
 |27=>some c__law_cell_at_k56
 |28=>some c__law_operand_k56
 |29=>some c__law_row_k56
 |230=>some c__law_told
 |16=>some c_law_k56
 |229=>some ⟨3,9,.seq (.act (.call 910 .anil [])) (.seq (.set 3 (.tupE (.acons (.bin .Add (.call 901 (.acons (.var 0) (.acons (.var 1) (.acons (.var 2) .anil))) []) (.cst (.int 0))) (.acons (.cst (.bl false)) .anil)))) (.seq (.ite (.or (.cmp .Is (.var 3) (.cst .non)) (.not (.call 17 (.acons (.ix (.var 3) (.cst (.int 0))) .anil) []))) (.seq (.ret (.cst (.bl false))) .skip) .skip) (.seq (.set 8 (.cst (.bl false))) (.seq (.act (.bin .Add (.call 901 (.acons (.var 0) (.acons (.var 1) (.acons (.var 2) .anil))) []) (.cst (.int 0)))) (.seq (.set 8 (.cst (.bl true))) (.ret (.cmp .Eq (.bin .Sub (.ix (.var 3) (.cst (.int 0))) (.len (.var 1))) (.cst (.int 0)))))))))⟩
 |901=>some ⟨3,8,.ret (.call 902 (.acons (.var 1) .anil) [])⟩
 |902=>some ⟨1,1,.ite (.cmp .Gt (.len (.var 0)) (.cst (.int 10))) (.ret (.len (.var 0))) .stop⟩
 |910=>some ⟨0,0,.ret (.call 911 .anil [])⟩
 |911=>some ⟨0,0,.ret (.call 912 .anil [])⟩
 |912=>some ⟨0,0,.ret (.call 913 .anil [])⟩
 |913=>some ⟨0,0,.ret (.cst .non)⟩
 |_=>none
end Dp


namespace Dp
open PySem
theorem Zhi:TrailT T:=⟨⟨⟨⟨rfl,rfl,rfl,rfl⟩,rfl,rfl,rfl,rfl,rfl,rfl,rfl⟩,rfl⟩,rfl,rfl⟩
section
variable {n:Nat}{F:PFn}{m many:Nat}{c0 c1 c2 c3:Int}{r:Row}{y z:Opd}{s:Str}{x t:Nat}
def Zaw:Row→Prop
 |.put _ _ s _=>PSg s
 |.ifr _ s _ _=>ISg s
 |_=>True
def nxA(s:Str):Str:=if s=S "+" then S "-" else if s=S "-" then S "*" else if s=S "*" then S "/" else if s=S "/" then S "mod" else S "+"
def nxB(s:Str):Str:=if s=S "<" then S "<=" else if s=S "<=" then S "=" else if s=S "=" then S ">=" else if s=S ">=" then S ">" else if s=S ">" then S "!=" else S "<"
def Wd:Row→List Row
 |.put x y s z=>[.put x y (nxA s) z]
 |.ifr y s z t=>[.ifr y (nxB s) z t]
 |_=>[]
theorem ZfH(h:Zaw r):Zg T (n+2) 171 [.obj 169,Zh r,.int (many:Int)]=some (.tup ((Wd r).map Zh)):=by
 cases r with
 |put x y s z=>
  rcases (h:PSg s) with rfl|rfl|rfl|rfl|rfl<;>rfl
 |ifr y s z t=>
  rcases (h:ISg s) with rfl|rfl|rfl|rfl|rfl|rfl<;>rfl
 |_=>rfl
def WB:Opd→List Opd
 |.name _=>[]
 |.num c=>[.num (ZV (c+1))]
def Xr:Row→List Row
 |.put x y s z=>(WB y).map (fun y'=>.put x y' s z)++(WB z).map (fun z'=>.put x y s z')
 |.ifr y s z t=>(WB y).map (fun y'=>.ifr y' s z t)++(WB z).map (fun z'=>.ifr y s z' t)
 |.tell y=>(WB y).map .tell
 |_=>[]
theorem YY:(WB y).length≤1:=by cases y<;>simp[WB]
theorem V0:(Xr r).length≤2:=by
 cases r with
 |put x y s z=>have:=YY (y:=y);have:=YY (y:=z);simp[Xr];omega
 |ifr y s z t=>have:=YY (y:=y);have:=YY (y:=z);simp[Xr];omega
 |tell y=>have:=YY (y:=y);simp[Xr];omega
 |go t=>simp[Xr]
 |skip=>simp[Xr]
theorem ZfG:Zg T (n+2) 151 [.obj 149,Zh r,.int (many:Int)]=some (.tup ((Xr r).map Zh)):=by
 cases r with
 |put x y s z=>cases y<;>cases z<;>rfl
 |ifr y s z t=>cases y<;>cases z<;>rfl
 |tell y=>cases y<;>rfl
 |_=>rfl
def UG:Row→List Row
 |.skip=>[]
 |_=>[.skip]
theorem ZhA:Zg T (n+1) 154 [.obj 152,Zh r,.int (many:Int)]=some (.tup ((UG r).map Zh)):=by
 cases r<;>rfl
def ZhS(s:Str):Str:=if s=S "<" then S ">=" else if s=S ">=" then S "<" else if s=S ">" then S "<=" else if s=S "<=" then S ">" else if s=S "=" then S "!=" else S "="
def Wf:Row→List Row
 |.ifr y s z t=>[.ifr y (ZhS s) z t]
 |_=>[]
theorem ZfJ(h:Zaw r):Zg T (n+2) 159 [.obj 157,Zh r,.int (many:Int)]=some (.tup ((Wf r).map Zh)):=by
 cases r with
 |ifr y s z t=>
  rcases (h:ISg s) with rfl|rfl|rfl|rfl|rfl|rfl<;>rfl
 |_=>rfl
theorem ne_O:Yg .NotEq (Z9 y) (Z9 z)=some (.bl (!eqO y z)):=by
 have e:Yg .NotEq (Z9 y) (Z9 z)=some (.bl (!WW (Z9 y) (Z9 z))):=by
  cases y<;>cases z<;>rfl
 rw[e,ZhK]
def Xy:Row→List Row
 |.put x y s z=>if eqO y z=true then [] else [.put x z s y]
 |.ifr y s z t=>if eqO y z=true then [] else [.ifr z s y t]
 |_=>[]
theorem QU:(Xy r).length≤1:=by
 cases r<;>simp[Xy]
 all_goals split<;>simp
theorem ZfI:Zg T (n+1) 162 [.obj 160,Zh r,.int (many:Int)]=some (.tup ((Xy r).map Zh)):=by
 cases r with
 |put x y s z=>
  rw[Zn (f:=c_Swap_turned) rfl rfl rfl];show YD (px (Zg T n) [] c_Swap_turned.body [some (.obj 160),some (Zh (.put x y s z)),some (.int (many:Int))])=_;unfold c_Swap_turned;cases q:eqO y z
  ·rw[Xa (v:=.tup [Zh (.put x z s y)]) (by exact ne_O.trans (by rw[q];rfl)) (by rfl)]
   simp only[Xy,q];rfl
  ·rw[Yo (by exact ne_O.trans (by rw[q];rfl)),Yo (by rfl),Yw (v:=.tup []) (by rfl)]
   simp only[Xy,q];rfl
 |ifr y s z t=>
  rw[Zn (f:=c_Swap_turned) rfl rfl rfl];show YD (px (Zg T n) [] c_Swap_turned.body [some (.obj 160),some (Zh (.ifr y s z t)),some (.int (many:Int))])=_;unfold c_Swap_turned;cases q:eqO y z
  ·rw[Yo (by rfl),Xa (v:=.tup [Zh (.ifr z s y t)]) (by exact ne_O.trans (by rw[q];rfl)) (by rfl)]
   simp only[Xy,q];rfl
  ·rw[Yo (by rfl),Yo (by exact ne_O.trans (by rw[q];rfl)),Yw (v:=.tup []) (by rfl)]
   simp only[Xy,q];rfl
 |_=>rfl
def W7(many:Nat):Row→List Row
 |.go t=>if t < many then [.go (t+1)] else []
 |.ifr y s z t=>if t < many then [.ifr y s z (t+1)] else []
 |_=>[]
theorem JW:(W7 many r).length≤1:=by
 cases r<;>simp[W7]
 all_goals split<;>simp
theorem sl2{a b:P}:Z5 (.tup [a,b]) Option.none (some (-1))=some (.tup [a]):=rfl
theorem Zhz:Zg T (n+1) 165 [.obj 163,Zh r,.int (many:Int)]=some (.tup ((W7 many r).map Zh)):=by
 cases r with
 |go t=>
  rw[Zn (f:=c_Far_turned) rfl rfl rfl];show YD (px (Zg T n) [] c_Far_turned.body [some (.obj 163),some (Zh (.go t)),some (.int (many:Int))])=_;unfold c_Far_turned;by_cases q:t < many
  ·rw[Yo (by show some (P.bl (decide ((t:Int)≥(many:Int))))=_;rw[decide_eq_false (by omega)]),Yw (v:=.tup [Zh (.go (t+1))]) (by rfl)]
   simp only[W7,q];rfl
  ·rw[Xa (v:=.tup []) (by show some (P.bl (decide ((t:Int)≥(many:Int))))=_;rw[decide_eq_true (by omega)]) (by rfl)]
   simp only[W7,q];rfl
 |ifr y s z t=>
  rw[Zn (f:=c_Far_turned) rfl rfl rfl];show YD (px (Zg T n) [] c_Far_turned.body [some (.obj 163),some (Zh (.ifr y s z t)),some (.int (many:Int))])=_;unfold c_Far_turned;by_cases q:t < many
  ·rw[Yo (by show some (P.bl (decide ((t:Int)≥(many:Int))))=_;rw[decide_eq_false (by omega)]),Yw (v:=.tup [Zh (.ifr y s z (t+1))]) (by rfl)]
   simp only[W7,q];rfl
  ·rw[Xa (v:=.tup []) (by show some (P.bl (decide ((t:Int)≥(many:Int))))=_;rw[decide_eq_true (by omega)]) (by rfl)]
   simp only[W7,q];rfl
 |_=>rfl
theorem Zbs{M:List Nat}{k:Nat}{e:CE}{q:CS}{π:Zs}{p:P}{xs:List P}(h:π[k]?=some (some (.lst true xs)))(he:pe F e π=some p)(hk:(M.contains k&&Zq M e p)=true)(hl:xs.length≤1000):px F M (.seq (.app k e) q) π=px F M q (Zp π k (.lst true (xs++[p]))):=by
 have z:xs.length < Zj:=by unfold Zj;omega
 rw[Zr,Jx h,he,Option.bind_some,if_pos (by rw[hk,decide_eq_true z];rfl),Zo]
def fkR(many:Nat)(r:Row):List (Str×Row):=
 (Wd r).map (S "sign",·)++((Xr r).map (S "more",·)++((Wf r).map (S "turn",·)++((UG r).map (S "out",·)++((Xy r).map (S "swap",·)++(W7 many r).map (S "far",·)))))
def Wl(k:Nat)(q:Str×Row):P:=.tup [.int (k:Int),.str q.1,Zh q.2]
def Xl(many:Nat):Nat→List Row→List P
 |_,[]=>[]
 |k,r :: rs=>(fkR many r).map (Wl k)++Xl many (k+1) rs
theorem JX:(fkR many r).length≤8:=by
 have h1:(Wd r).length≤1:=by cases r<;>simp[Wd]
 have h2:=V0 (r:=r);have h3:(Wf r).length≤1:=by cases r<;>simp[Wf]
 have h4:(UG r).length≤1:=by cases r<;>simp[UG]
 have h5:=QU (r:=r);have h6:=JW (many:=many) (r:=r);simp[fkR];omega
theorem VT:∀ (rs:List Row) (k:Nat),(Xl many k rs).length≤8 * rs.length
 |[],_=>Nat.le_refl _
 |r :: rs,k=>by
  have h1:=JX (many:=many) (r:=r);have h2:=VT rs (k+1);simp only[Xl,List.length_append,List.length_map,List.length_cons];omega
theorem ZaN{π:Zs}{fr:List Nat}{it elt:CE}{rs:List Row}{g:Row→P}(hi:pe F it π=some (.tup (rs.map Zh)))(hl:rs.length≤1000)(hf:∀ r,pe F elt (YA π fr (Zh r))=some (g r)):pe F (.comp false fr it elt (.cst (.bl true))) π=some (.lst true (rs.map g)):=by
 have cr:∀ rs:List Row,YU (fun p=>pe F elt (YA π fr p)) (fun p=>pe F (.cst (.bl true)) (YA π fr p)) (rs.map Zh)=some (rs.map g):=fun rs=>by
  induction rs with
  |nil=>rfl
  |cons r rs ih=>
   rw[List.map_cons];unfold YU;rw[show pe F (.cst (.bl true)) (YA π fr (Zh r))=some (.bl true) from rfl,hf];simp only;rw[ih];rfl
 rw[UH,hi,Option.bind_some,show Xf false (.tup (rs.map Zh))=some (rs.map Zh) from rfl,Option.bind_some,if_pos (by rw[List.length_map];exact hl),cr]
 rfl
def Zhj:List (Nat×Nat):=[(146,148),(169,171),(149,151),(157,159),(152,154),(160,162),(163,165)]
def Zhk:List (Nat×Nat):=[(146,147),(169,170),(149,150),(157,158),(152,153),(160,161),(163,164)]
theorem ZdU{x0 x2:Option P}{rows told:List P}{k i:Nat}{rs:List Row}{w:Str}(hT:X7 F Zhj (.obj i) (.tup [Zh r,.int (rows.length:Int)])=some (.tup (rs.map Zh)))(hW:X7 F Zhk (.obj i) (.tup [])=some (.str w))(hr:rs.length≤10)(ht:told.length≤200) :
  px F [3] Xz [x0,some (.tup rows),x2,some (.lst true told),some (.int (k:Int)),some (Zh r),some (.obj i)]=some (.nx [x0,some (.tup rows),x2,some (.lst true (told++rs.map fun q=>Wl k (w,q))),some (.int (k:Int)),some (Zh r),some (.obj i)]):=by
 unfold Zhj at hT;unfold Zhk at hW;have e:pe F VN [x0,some (.tup rows),x2,some (.lst true told),some (.int (k:Int)),some (Zh r),some (.obj i)]=some (.lst true (rs.map fun q=>Wl k (w,q))):=
  ZaN (by first|rfl|simp[hT]) (by omega) fun q=>by
   show pe F _ [some (Zh q),some (.int (k:Int)),some (.obj i)]=_;simp[hW,Wl]
 unfold Xz;rw[Zr,ZgJ (xs:=told) (ys:=rs.map fun q=>Wl k (w,q)) rfl e rfl (by rw[List.length_map];unfold Zj;omega),Zo,Yj]
 rfl
theorem Zgb{x0 x6:Option P}{rows told:List P}{k:Nat}(hS:F 171 [.obj 169,Zh r,.int (rows.length:Int)]=some (.tup ((Wd r).map Zh)))(hM:F 151 [.obj 149,Zh r,.int (rows.length:Int)]=some (.tup ((Xr r).map Zh)))(hU:F 159 [.obj 157,Zh r,.int (rows.length:Int)]=some (.tup ((Wf r).map Zh)))(hO:F 154 [.obj 152,Zh r,.int (rows.length:Int)]=some (.tup ((UG r).map Zh)))(hP:F 162 [.obj 160,Zh r,.int (rows.length:Int)]=some (.tup ((Xy r).map Zh)))(hA:F 165 [.obj 163,Zh r,.int (rows.length:Int)]=some (.tup ((W7 rows.length r).map Zh)))(w1:F 170 [.obj 169]=some (.str (S "sign")))(w2:F 150 [.obj 149]=some (.str (S "more")))(w3:F 158 [.obj 157]=some (.str (S "turn")))(w4:F 153 [.obj 152]=some (.str (S "out")))(w5:F 161 [.obj 160]=some (.str (S "swap")))(w6:F 164 [.obj 163]=some (.str (S "far")))(ht:told.length≤150) :
  px F [3] YS [x0,some (.tup rows),some (.lst true [.obj 169,.obj 149,.obj 157,.obj 152,.obj 160,.obj 163]),some (.lst true told),some (.int (k:Int)),some (Zh r),x6]=some (.nx [x0,some (.tup rows),some (.lst true [.obj 169,.obj 149,.obj 157,.obj 152,.obj 160,.obj 163]),some (.lst true (told++(fkR rows.length r).map (Wl k))),some (.int (k:Int)),some (Zh r),some (.obj 163)]):=by
 have h1:(Wd r).length≤1:=by cases r<;>simp[Wd]
 have h2:=V0 (r:=r);have h3:(Wf r).length≤1:=by cases r<;>simp[Wf]
 have h4:(UG r).length≤1:=by cases r<;>simp[UG]
 have h5:=QU (r:=r);have h6:=JW (many:=rows.length) (r:=r);have st:∀ {told:List P}{i:Nat}{rs:List Row}{w:Str}{x6:Option P},X7 F Zhj (.obj i) (.tup [Zh r,.int (rows.length:Int)])=some (.tup (rs.map Zh))→X7 F Zhk (.obj i) (.tup [])=some (.str w)→rs.length≤10→told.length≤200→
   px F [3] Xz (Zp [x0,some (.tup rows),some (.lst true [.obj 169,.obj 149,.obj 157,.obj 152,.obj 160,.obj 163]),some (.lst true told),some (.int (k:Int)),some (Zh r),x6] 6 (.obj i))=some (.nx [x0,some (.tup rows),some (.lst true [.obj 169,.obj 149,.obj 157,.obj 152,.obj 160,.obj 163]),some (.lst true (told++rs.map fun q=>Wl k (w,q))),some (.int (k:Int)),some (Zh r),some (.obj i)]):=fun a b c d=>ZdU a b c d
 unfold YS;rw[Zr,ZeA (m:=true) (xs:=[.obj 169,.obj 149,.obj 157,.obj 152,.obj 160,.obj 163]) (by first|rfl|simp) (by rfl)]
 rw[ZX,st (i:=169) (rs:=Wd r) (w:=S "sign") hS w1 (by omega) (by omega),Yk]
 rw[ZX,st (i:=149) (rs:=Xr r) (w:=S "more") hM w2 (by omega) (by simp;omega),Yk]
 rw[ZX,st (i:=157) (rs:=Wf r) (w:=S "turn") hU w3 (by omega) (by simp;omega),Yk]
 rw[ZX,st (i:=152) (rs:=UG r) (w:=S "out") hO w4 (by omega) (by simp;omega),Yk]
 rw[ZX,st (i:=160) (rs:=Xy r) (w:=S "swap") hP w5 (by omega) (by simp;omega),Yk]
 rw[ZX,st (i:=163) (rs:=W7 rows.length r) (w:=S "far") hA w6 (by omega) (by simp;omega),Yk,Vf,Zo,Yj]
 simp only[fkR,List.map_append,List.map_map,List.append_assoc,Function.comp_def]
theorem VQ{B:P→P→Zs→Option PFl}{x y:P}{ps:List (P×P)}{π:Zs}:Yy B ((x,y) :: ps) π=V8 (B x y π) (Yy B ps):=by
 show(match B x y π with
  |some (.nx π')=>Yy B ps π'
  |some (.ct π')=>Yy B ps π'
  |some (.bk π')=>some (.nx π')
  |some (.rt v)=>some (.rt v)
  |none=>none)=_
 unfold V8;rfl
theorem JY{x0:Option P}{rows:List P}{st:P}(row:∀ (r:Row) (told:List P) (k:Nat) (x6:Option P),Zaw r→told.length≤150→px F [3] YS [x0,some (.tup rows),some st,some (.lst true told),some (.int (k:Int)),some (Zh r),x6]=some (.nx [x0,some (.tup rows),some st,some (.lst true (told++(fkR rows.length r).map (Wl k))),some (.int (k:Int)),some (Zh r),some (.obj 163)])) :
  ∀ (rs:List Row) (k:Nat) (told:List P) (x4 x5 x6:Option P),(∀ r∈rs,Zaw r)→told.length+8 * rs.length≤150→
  ∃ y4 y5 y6,Yy (fun x y π=>px F [3] YS (Zp (Zp π 4 x) 5 y)) (Wt k (rs.map Zh)) [x0,some (.tup rows),some st,some (.lst true told),x4,x5,x6]=some (.nx [x0,some (.tup rows),some st,some (.lst true (told++Xl rows.length k rs)),y4,y5,y6])
 |[],k,told,x4,x5,x6,_,_=>⟨x4,x5,x6,by rw[Xl,List.append_nil];rfl⟩
 |r :: rs,k,told,x4,x5,x6,h,hl=>by
  have hr:=JX (many:=rows.length) (r:=r);rw[List.length_cons]at hl;obtain⟨y4,y5,y6,e⟩:=JY row rs (k+1) (told++(fkR rows.length r).map (Wl k)) (some (.int (k:Int))) (some (Zh r)) (some (.obj 163)) (fun q hq=>h q (List.mem_cons_of_mem _ hq)) (by simp;omega)
  refine⟨y4,y5,y6,?_⟩;show Yy _ ((.int (k:Int),Zh r) :: Wt (k+1) (rs.map Zh)) _=_;rw[VQ];simp only[Zl,Zk];rw[row r told k x6 (h r List.mem_cons_self) (by omega),Yk,e,Xl,List.append_assoc]
theorem JL{p:Prog}(hg:∀ r∈p.rows,Zaw r)(hl:p.rows.length≤12):Zg T (n+4) 172 [Zw p]=some (.tup (Xl p.rows.length 0 p.rows)):=by
 rw[Zn (f:=c_fakes) rfl rfl rfl];show YD (px (Zg T (n+3)) [3] c_fakes.body [some (Zw p),none,none,none,none,none,none])=_;have el:(p.rows.map Zh).length=p.rows.length:=List.length_map ..;obtain⟨y4,y5,y6,e⟩:=JY (F:=Zg T (n+3)) (x0:=some (Zw p)) (rows:=p.rows.map Zh) (st:=.lst true [.obj 169,.obj 149,.obj 157,.obj 152,.obj 160,.obj 163]) (fun r told k x6 h hl=>
  Zgb (ZfH (n:=n+1) h) (ZfG (n:=n+1)) (ZfJ (n:=n+1) h) (ZhA (n:=n+2)) (ZfI (n:=n+2)) (Zhz (n:=n+2)) rfl rfl rfl rfl rfl rfl hl) p.rows 0 [] none none none hg (by simp;omega)
 rw[el,List.nil_append]at e;unfold c_fakes;rw[Zr,Z4 (p:=.tup (p.rows.map Zh)) (by first|rfl|simp[Zw]) rfl rfl,Zo]
 simp only[Zl,Zk];rw[Zr,Z4 (p:=.lst true [.obj 169,.obj 149,.obj 157,.obj 152,.obj 160,.obj 163]) (by first|rfl|simp) rfl rfl,Zo]
 simp only[Zl,Zk];rw[Zr,Wc (p:=.lst true []) (by first|rfl|simp) rfl rfl,Zo]
 simp only[Zl,Zk];rw[Zr,Zez (x:=.tup (p.rows.map Zh)) (xs:=p.rows.map Zh) (by first|rfl|simp) rfl rfl,e,Zo,Yw (v:=.tup (Xl p.rows.length 0 p.rows)) (by first|rfl|simp)]
 rfl
def fkT(many:Nat):Nat→List Row→List (Nat×Str×Row)
 |_,[]=>[]
 |k,r :: rs=>(fkR many r).map (fun q=>(k,q))++fkT many (k+1) rs
theorem X3:∀ (rs:List Row) (k:Nat),Xl many k rs=(fkT many k rs).map fun t=>Wl t.1 t.2
 |[],_=>rfl
 |r :: rs,k=>by
  rw[Xl,fkT,List.map_append,List.map_map,X3 rs (k+1)];rfl
def ROk(m N:Nat)(r:Row):Prop:=JM m N r∧RSg r
theorem Zak(h:RSg r):Zaw r:=by
 cases r with
 |put x y s z=>exact h.1
 |ifr y s z t=>exact h
 |_=>trivial
theorem Zgt(h:PSg s):PSg (nxA s):=by
 rcases h with rfl|rfl|rfl|rfl|rfl
 ·exact .inr (.inl rfl)
 ·exact .inr (.inr (.inl rfl))
 ·exact .inr (.inr (.inr (.inl rfl)))
 ·exact .inr (.inr (.inr (.inr rfl)))
 ·exact .inl rfl
theorem Zgu(h:ISg s):ISg (nxB s):=by
 rcases h with rfl|rfl|rfl|rfl|rfl|rfl
 ·exact .inr (.inl rfl)
 ·exact .inr (.inr (.inl rfl))
 ·exact .inr (.inr (.inr (.inl rfl)))
 ·exact .inr (.inr (.inr (.inr (.inl rfl))))
 ·exact .inr (.inr (.inr (.inr (.inr rfl))))
 ·exact .inl rfl
theorem ZdO(h:ISg s):ISg (ZhS s):=by
 rcases h with rfl|rfl|rfl|rfl|rfl|rfl
 ·exact .inr (.inr (.inr (.inl rfl)))
 ·exact .inr (.inr (.inr (.inr (.inl rfl))))
 ·exact .inr (.inr (.inr (.inr (.inr rfl))))
 ·exact .inl rfl
 ·exact .inr (.inl rfl)
 ·exact .inr (.inr (.inl rfl))
theorem Yz{q:Opd}(h:q∈WB y):Y9 m q∧OSm q:=by
 cases y with
 |name i=>cases h
 |num c=>
  rw[List.mem_singleton.mp h];exact⟨Sm.around,Sm.around⟩
theorem Zga(h:ROk m many r):∀ q∈fkR many r,ROk m many q.2:=by
 intro q hq;obtain⟨ok,sg⟩:=h;have go:(∃ r',r'∈Wd r++Xr r++Wf r++UG r++Xy r++W7 many r∧q.2=r'):=by
  refine⟨q.2,?_,rfl⟩;simp only[fkR,List.mem_append,List.mem_map]at hq ⊢;rcases hq with⟨a,h,rfl⟩|⟨a,h,rfl⟩|⟨a,h,rfl⟩|⟨a,h,rfl⟩|⟨a,h,rfl⟩|⟨a,h,rfl⟩<;>simp[h]
 obtain⟨r',hr,rfl⟩:=go;generalize q.2=r' at hr ⊢;simp only[List.mem_append]at hr;cases r with
 |put x y s z=>
  rcases hr with((((h|h)|h)|h)|h)|h
  ·rw[List.mem_singleton.mp h]
   exact⟨ok,Zgt sg.1,sg.2⟩
  ·rcases List.mem_append.mp h with h|h
   ·obtain⟨o,ho,rfl⟩:=List.mem_map.mp h
    exact⟨⟨ok.1,(Yz ho).1,ok.2.2⟩,sg.1,(Yz (m:=m) ho).2,sg.2.2⟩
   ·obtain⟨o,ho,rfl⟩:=List.mem_map.mp h
    exact⟨⟨ok.1,ok.2.1,(Yz ho).1⟩,sg.1,sg.2.1,(Yz (m:=m) ho).2⟩
  ·cases h
  ·rw[List.mem_singleton.mp h]
   exact⟨trivial,trivial⟩
  ·replace h:r'∈(if eqO y z=true then [] else [Row.put x z s y]):=h
   split at h
   ·cases h
   ·rw[List.mem_singleton.mp h]
    exact⟨⟨ok.1,ok.2.2,ok.2.1⟩,sg.1,sg.2.2,sg.2.1⟩
  ·cases h
 |ifr y s z t=>
  rcases hr with((((h|h)|h)|h)|h)|h
  ·rw[List.mem_singleton.mp h]
   exact⟨ok,Zgu sg⟩
  ·rcases List.mem_append.mp h with h|h
   ·obtain⟨o,ho,rfl⟩:=List.mem_map.mp h
    exact⟨⟨(Yz ho).1,ok.2⟩,sg⟩
   ·obtain⟨o,ho,rfl⟩:=List.mem_map.mp h
    exact⟨⟨ok.1,(Yz ho).1,ok.2.2⟩,sg⟩
  ·rw[List.mem_singleton.mp h]
   exact⟨ok,ZdO sg⟩
  ·rw[List.mem_singleton.mp h]
   exact⟨trivial,trivial⟩
  ·replace h:r'∈(if eqO y z=true then [] else [Row.ifr z s y t]):=h
   split at h
   ·cases h
   ·rw[List.mem_singleton.mp h]
    exact⟨⟨ok.2.1,ok.1,ok.2.2⟩,sg⟩
  ·replace h:r'∈(if t < many then [Row.ifr y s z (t+1)] else []):=h
   split at h
   ·rename_i hl
    rw[List.mem_singleton.mp h];exact⟨⟨ok.1,ok.2.1,hl⟩,sg⟩
   ·cases h
 |go t=>
  rcases hr with((((h|h)|h)|h)|h)|h
  ·cases h
  ·cases h
  ·cases h
  ·rw[List.mem_singleton.mp h]
   exact⟨trivial,trivial⟩
  ·cases h
  ·replace h:r'∈(if t < many then [Row.go (t+1)] else []):=h
   split at h
   ·rename_i hl
    rw[List.mem_singleton.mp h];exact⟨hl,trivial⟩
   ·cases h
 |tell y=>
  rcases hr with((((h|h)|h)|h)|h)|h
  ·cases h
  ·obtain⟨o,ho,rfl⟩:=List.mem_map.mp h
   exact⟨(Yz ho).1,trivial⟩
  ·cases h
  ·rw[List.mem_singleton.mp h]
   exact⟨trivial,trivial⟩
  ·cases h
  ·cases h
 |skip=>
  rcases hr with((((h|h)|h)|h)|h)|h<;>cases h
theorem ZbO:∀ {rs:List Row}{k:Nat},(∀ r∈rs,ROk m many r)→∀ t∈fkT many k rs,(k≤t.1∧t.1 < k+rs.length)∧ROk m many t.2.2
 |[],_,_,t,h=>nomatch h
 |r :: rs,k,g,t,h=>by
  rcases List.mem_append.mp h with h|h
  ·obtain⟨q,hq,rfl⟩:=List.mem_map.mp h
   exact⟨⟨Nat.le_refl _,by simp⟩,Zga (g r List.mem_cons_self) q hq⟩
  ·obtain⟨⟨h1,h2⟩,h3⟩:=ZbO (fun q hq=>g q (List.mem_cons_of_mem _ hq)) t h
   exact⟨⟨by omega,by simp;omega⟩,h3⟩
structure PG(p:Prog):Prop where
 rows:∀ r∈p.rows,ROk p.many p.rows.length r
 many:p.many≤100
 size:p.rows.length≤12
theorem PG.ok{p:Prog}(h:PG p):ProgOk p:=⟨fun r hr=>(h.rows r hr).1,h.many,by have:=h.size;omega⟩
def Z6(p:Prog)(k:Nat)(r:Row):Prog:=⟨p.takes,p.many,p.rows.set k r⟩
theorem PG.turn{p:Prog}{k:Nat}(h:PG p)(hr:ROk p.many p.rows.length r):PG (Z6 p k r):=
 ⟨fun q hq=>by
  show ROk p.many (p.rows.set k r).length q;rw[List.length_set];rcases List.mem_or_eq_of_mem_set hq with z|z
  ·exact h.rows q z
  ·rw[z];exact hr,h.many,by show(p.rows.set k r).length≤12;rw[List.length_set];exact h.size⟩
theorem ZfM{p:Prog}{k:Nat}(hk:k < p.rows.length)(hl:p.rows.length≤12):Zg T (n+2) 180 [Zw p,.int (k:Int),Zh r]=some (Zw (Z6 p k r)):=by
 rw[Zn (f:=c_fake_of) rfl rfl rfl];have rp:=WU (T:=T) (n:=n) (xs:=p.rows.map Zh) (x:=k) (q:=Zh r) rfl (by simpa using hk) (by simp;omega)
 simp[c_fake_of,Zz,Zw,Z6,rp,List.map_set]
theorem ZfN{p:Prog}{ins:List Int}{l:Nat}(hp:ProgOk p)(h1:ins.length≤p.many)(hs:∀ v∈ins,Sm v)(hl:l≤900) :
  Zg T (n+8) 13 [Zw p,Zu ins,.int (l:Int)]=some (Zi (Za6 p.rows l (ZI p ins))):=by
 rw[Zn (f:=c_outcome) rfl rfl rfl];have tr:=Zdu (n:=n) Zhi hp h1 hs hl;simp only[c_outcome,Zz,List.map_cons,List.map_nil,List.length_cons,List.length_nil,List.cons_append,List.nil_append,List.replicate];simp[tr,JG,ZbI]
def Zbk(m:Nat)(ts:List (List Int)):Prop:=ts.length≤10∧∀ i∈ts,i.length≤m∧∀ v∈i,Sm v
def ZY(p:Prog)(ts:List (List Int))(l:Nat):List Out:=ts.map fun i=>Za6 p.rows l (ZI p i)
theorem JT{f c:P→Option P}{g:List Int→P}(hc:∀ x,c x=some (.bl true)):∀ (ts:List (List Int)),(∀ i∈ts,f (Zu i)=some (g i))→YU f c (ts.map Zu)=some (ts.map g)
 |[],_=>rfl
 |t :: ts,h=>by
  rw[List.map_cons];unfold YU;rw[hc,h t List.mem_cons_self];simp only;rw[JT hc ts fun i hi=>h i (List.mem_cons_of_mem _ hi)]
  rfl
theorem Zbm{p:Prog}{ts:List (List Int)}{l:Nat}(hp:ProgOk p)(ht:Zbk p.many ts)(hl:l≤900) :
  Zg T (n+9) 182 [Zw p,.tup (ts.map Zu),.int (l:Int)]=some (.lst true ((ZY p ts l).map Zi)):=by
 rw[Zn (f:=c_outcomes) rfl rfl rfl];have e:pe (Zg T (n+8)) Ys [some (Zw p),some (.tup (ts.map Zu)),some (.int (l:Int))]=some (.lst true ((ZY p ts l).map Zi)):=by
  unfold Ys;rw[UH];show((some (P.tup (ts.map Zu))).bind fun x=>_)=_
  rw[Option.bind_some,show Xf false (.tup (ts.map Zu))=some (ts.map Zu) from rfl,Option.bind_some,if_pos (by have:=ht.1;simp;omega)]
  have cp:=JT (f:=fun q=>pe (Zg T (n+8)) (.call 13 (.acons (.var 2) (.acons (.var 0) (.acons (.var 1) .anil))) []) (YA [some (Zw p),some (.tup (ts.map Zu)),some (.int (l:Int))] [2,0] q)) (c:=fun q=>pe (Zg T (n+8)) (.cst (.bl true)) (YA [some (Zw p),some (.tup (ts.map Zu)),some (.int (l:Int))] [2,0] q)) (g:=fun i=>Zi (Za6 p.rows l (ZI p i))) (fun _=>rfl) ts fun i hi=>by
   have o:=ZfN (n:=n) hp (ht.2 i hi).1 (ht.2 i hi).2 hl;show pe (Zg T (n+8)) _ [some (Zu i),some (.int (l:Int)),some (Zw p)]=_;simp[o]
  rw[cp];simp[ZY,Function.comp_def]
 show YD (px (Zg T (n+8)) [] (.seq (.ret Ys) .skip) [some (Zw p),some (.tup (ts.map Zu)),some (.int (l:Int))])=_;rw[Yw e];rfl
theorem Zdv{ts:List P}(h:ts.length≤10):Zg T (n+1) 181 [.tup ts]=some .non:=by
 rw[Zn (f:=c_check_trials) rfl rfl rfl];show YD (px (Zg T n) [] c_check_trials.body [some (.tup ts)])=_;unfold c_check_trials;rw[Yo (by simp;omega),Yj]
 rfl
def Za3(a b:Out):Bool:=match Yg .NotEq (Zi a) (Zi b) with
 |some (.bl c)=>c
 |_=>false
theorem Zgq{a b:Out}:Yg .NotEq (Zi a) (Zi b)=some (.bl (Za3 a b)):=by
 cases a<;>cases b<;>rfl
def XI(w:Int):List (Out×Out)→Int
 |[]=>0
 |q :: qs=>(if Za3 q.1 q.2=true then w else 0)+XI (w * 2) qs
theorem QW{x0 x1:Option P}:∀ (qs:List (Out×Out)) (b w:Int) (x4 x5:Option P),
  ∃ y3 y4 y5,Yy (fun x y π=>px F [] Z3 (Zp (Zp π 4 x) 5 y)) (qs.map fun q=>(Zi q.1,Zi q.2)) [x0,x1,some (.int b),some (.int w),x4,x5]=some (.nx [x0,x1,some (.int (b+XI w qs)),y3,y4,y5])
 |[],b,w,x4,x5=>⟨_,x4,x5,by rw[XI,Int.add_zero];rfl⟩
 |q :: qs,b,w,x4,x5=>by
  obtain⟨y3,y4,y5,e⟩:=QW (x0:=x0) (x1:=x1) qs (b+if Za3 q.1 q.2=true then w else 0) (w * 2) (some (Zi q.1)) (some (Zi q.2))
  refine⟨y3,y4,y5,?_⟩;rw[List.map_cons,VQ];simp only[Zl,Zk];have l2:ZJ 2=true:=by decide
  have o:px F [] Z3 [x0,x1,some (.int b),some (.int w),some (Zi q.1),some (Zi q.2)]=some (.nx [x0,x1,some (.int (b+if Za3 q.1 q.2=true then w else 0)),some (.int (w * 2)),some (Zi q.1),some (Zi q.2)]):=by
   unfold Z3;have c:pe F (.cmp .NotEq (.var 4) (.var 5)) [x0,x1,some (.int b),some (.int w),some (Zi q.1),some (Zi q.2)]=some (.bl (Za3 q.1 q.2)):=Zgq;have mu:∀ (b':Int),pe F (.bin .Mult (.var 3) (.cst (.int 2))) [x0,x1,some (.int b'),some (.int w),some (Zi q.1),some (Zi q.2)]=some (.int (w * 2)):=fun b'=>by
    show Y4 .Mult (.int w) (.int 2)=_;rw[JO,l2,Bool.or_true,if_pos rfl]
   cases hq:Za3 q.1 q.2 with
   |true=>
    rw[hq]at c;rw[ZhJ (π':=[x0,x1,some (.int (b+w)),some (.int w),some (Zi q.1),some (Zi q.2)]) c (by
     rw[Yx (v:=.int (b+w)) (by rfl),Yj]
     rfl),Yx (mu _),Yj]
    rfl
   |false=>
    rw[hq]at c;rw[Yo c,Yx (mu _),Yj];simp only[Zl,Zk,Bool.false_eq_true,if_false,Int.add_zero]
  rw[o,Yk,e,XI,Int.add_assoc]
theorem ZhF{as bs:List Out}:Zg T (n+1) 183 [.lst true (as.map Zi),.lst true (bs.map Zi)]=some (.int (XI 1 (as.zip bs))):=by
 rw[Zn (f:=c_bits_unlike) rfl rfl rfl];show YD (px (Zg T n) [] c_bits_unlike.body [some (.lst true (as.map Zi)),some (.lst true (bs.map Zi)),none,none,none,none])=_;unfold c_bits_unlike;rw[Yx (v:=.int 0) (by rfl)]
 simp only[Zl,Zk];rw[Yx (v:=.int 1) (by rfl)]
 simp only[Zl,Zk];obtain⟨y3,y4,y5,e⟩:=QW (F:=Zg T n) (x0:=some (.lst true (as.map Zi))) (x1:=some (.lst true (bs.map Zi))) (as.zip bs) 0 1 none none;rw[Zr,ZeB (m:=true) (m':=true) (xs:=as.map Zi) (ys:=bs.map Zi) (by rfl) (by rfl),List.zip_map]
 rw[show(as.zip bs).map (Prod.map Zi Zi)=(as.zip bs).map (fun q=>(Zi q.1,Zi q.2)) from rfl,e,Zo,Yw rfl,Int.zero_add]
 rfl
def XF(p:Prog)(ts:List (List Int))(l:Nat)(t:Nat×Str×Row):Int:=XI 1 ((ZY p ts l).zip (ZY (Z6 p t.1 t.2.2) ts l))
theorem ZdF{p:Prog}{ts:List (List Int)}{l:Nat}{told:List P}{t:Nat×Str×Row}{x5 x6 x7:Option P}(h180:F 180 [Zw p,.int (t.1:Int),Zh t.2.2]=some (Zw (Z6 p t.1 t.2.2)))(h182:F 182 [Zw (Z6 p t.1 t.2.2),.tup (ts.map Zu),.int (l:Int)]=some (.lst true ((ZY (Z6 p t.1 t.2.2) ts l).map Zi)))(h183:F 183 [.lst true ((ZY p ts l).map Zi),.lst true ((ZY (Z6 p t.1 t.2.2) ts l).map Zi)]=some (.int (XF p ts l t)))(hl:told.length≤1000) :
  Ju 5 6 7 (px F [4] (.seq (.app 4 (.call 183 (.acons (.var 3) (.acons (.call 182 (.acons (.call 180 (.acons (.var 0) (.acons (.var 5) (.acons (.var 7) .anil))) []) (.acons (.var 1) (.acons (.var 2) .anil))) []) .anil)) [])) .skip)) (Wl t.1 t.2) [some (Zw p),some (.tup (ts.map Zu)),some (.int (l:Int)),some (.lst true ((ZY p ts l).map Zi)),some (.lst true told),x5,x6,x7] =
   some (.nx [some (Zw p),some (.tup (ts.map Zu)),some (.int (l:Int)),some (.lst true ((ZY p ts l).map Zi)),some (.lst true (told++[.int (XF p ts l t)])),some (.int (t.1:Int)),some (.str t.2.1),some (Zh t.2.2)]):=by
 show px F [4] _ [some (Zw p),some (.tup (ts.map Zu)),some (.int (l:Int)),some (.lst true ((ZY p ts l).map Zi)),some (.lst true told),some (.int (t.1:Int)),some (.str t.2.1),some (Zh t.2.2)]=_;rw[Zbs (xs:=told) (p:=.int (XF p ts l t)) rfl (by first|rfl|simp[h180,h182,h183]) (by rfl) hl,Yj]
 rfl
theorem JR{p:Prog}{ts:List (List Int)}{l:Nat}:∀ (fs:List (Nat×Str×Row)) (told:List P) (x5 x6 x7:Option P),(∀ t∈fs,F 180 [Zw p,.int (t.1:Int),Zh t.2.2]=some (Zw (Z6 p t.1 t.2.2))∧F 182 [Zw (Z6 p t.1 t.2.2),.tup (ts.map Zu),.int (l:Int)]=some (.lst true ((ZY (Z6 p t.1 t.2.2) ts l).map Zi))∧F 183 [.lst true ((ZY p ts l).map Zi),.lst true ((ZY (Z6 p t.1 t.2.2) ts l).map Zi)]=some (.int (XF p ts l t)))→told.length+fs.length≤900→
  ∃ y5 y6 y7,ZA (Ju 5 6 7 (px F [4] (.seq (.app 4 (.call 183 (.acons (.var 3) (.acons (.call 182 (.acons (.call 180 (.acons (.var 0) (.acons (.var 5) (.acons (.var 7) .anil))) []) (.acons (.var 1) (.acons (.var 2) .anil))) []) .anil)) [])) .skip))) (fs.map fun t=>Wl t.1 t.2) [some (Zw p),some (.tup (ts.map Zu)),some (.int (l:Int)),some (.lst true ((ZY p ts l).map Zi)),some (.lst true told),x5,x6,x7] =
   some (.nx [some (Zw p),some (.tup (ts.map Zu)),some (.int (l:Int)),some (.lst true ((ZY p ts l).map Zi)),some (.lst true (told++fs.map fun t=>.int (XF p ts l t))),y5,y6,y7])
 |[],told,x5,x6,x7,_,_=>⟨x5,x6,x7,by rw[List.map_nil,List.map_nil,List.append_nil];exact Vf⟩
 |t :: fs,told,x5,x6,x7,h,hl=>by
  rw[List.length_cons]at hl;obtain⟨h1,h2,h3⟩:=h t List.mem_cons_self;obtain⟨y5,y6,y7,e⟩:=JR fs (told++[.int (XF p ts l t)]) (some (.int (t.1:Int))) (some (.str t.2.1)) (some (Zh t.2.2)) (fun q hq=>h q (List.mem_cons_of_mem _ hq)) (by simp;omega)
  refine⟨y5,y6,y7,?_⟩;rw[List.map_cons,ZX,ZdF h1 h2 h3 (by omega),Yk,e,List.append_assoc]
  rfl
theorem ZdT{p:Prog}(h:p.rows.length≤12):(fkT p.rows.length 0 p.rows).length≤96:=by
 have:=VT (many:=p.rows.length) p.rows 0;rw[X3,List.length_map]at this;omega
theorem ZfL{p:Prog}{ts:List (List Int)}{l:Nat}(hp:PG p)(ht:Zbk p.many ts)(hl:l≤900) :
  Zg T (n+10) 184 [Zw p,.tup (ts.map Zu),.int (l:Int)]=some (.tup ((fkT p.rows.length 0 p.rows).map fun t=>.int (XF p ts l t))):=by
 rw[Zn (f:=c_bits_of) rfl rfl rfl];have f1:=JL (n:=n+5) (p:=p) (fun r hr=>Zak (hp.rows r hr).2) hp.size
 rw[X3]at f1;have o1:=Zbm (n:=n) hp.ok ht hl;have ck:=Zdv (n:=n+8) (ts:=ts.map Zu) (by simpa using ht.1)
 have fl:=ZdT hp.size;obtain⟨y5,y6,y7,e⟩:=JR (F:=Zg T (n+9)) (p:=p) (ts:=ts) (l:=l) (fkT p.rows.length 0 p.rows) [] none none none (fun t h=>by
  obtain⟨⟨_,h2⟩,h3⟩:=ZbO (m:=p.many) hp.rows t h;have ht':Zbk (Z6 p t.1 t.2.2).many ts:=ht;exact⟨ZfM (n:=n+7) (by omega) hp.size,Zbm (n:=n) (hp.turn h3).ok ht' hl,ZhF (n:=n+8)⟩) (by simp;omega)
 show YD (px (Zg T (n+9)) [4] c_bits_of.body [some (Zw p),some (.tup (ts.map Zu)),some (.int (l:Int)),none,none,none,none,none])=_;unfold c_bits_of;rw[Zr,Jw (p:=.non) (by first|rfl|simp[ck]) (by rfl),Zo]
 rw[Zr,Z4 (p:=.lst true ((ZY p ts l).map Zi)) (by first|rfl|simp[o1]) rfl rfl,Zo]
 simp only[Zl,Zk];rw[Zr,Wc (p:=.lst true []) (by rfl) rfl rfl,Zo]
 simp only[Zl,Zk];rw[Zr,Zey (xs:=(fkT p.rows.length 0 p.rows).map fun t=>Wl t.1 t.2) (by first|rfl|simp[f1]) (by rfl),e,Zo,List.nil_append,Yw (v:=.tup ((fkT p.rows.length 0 p.rows).map fun t=>.int (XF p ts l t))) (by rfl)]
 rfl
end
end Dp


namespace Dp
open PySem
section
variable {n:Nat}{F:PFn}{m many:Nat}{c0 c1 c2 c3:Int}{r:Row}{y z:Opd}{s:Str}{x t:Nat}
theorem JQ:∀ (qs:List (Out×Out)) (w:Int),0≤w→0≤XI w qs∧XI w qs≤w * (2 ^ qs.length - 1)
 |[],w,_=>by simp[XI]
 |q :: qs,w,hw=>by
  obtain⟨h1,h2⟩:=JQ qs (w * 2) (by omega)
  rw[XI,List.length_cons,Int.pow_succ];generalize (2:Int) ^ qs.length=N at h2;have e1:w * 2 * (N - 1)=2 * (w * N) - 2 * w:=by rw[Int.mul_sub,Int.mul_one,Int.mul_comm w 2,Int.mul_assoc]
  have e2:w * (N * 2 - 1)=2 * (w * N) - w:=by rw[Int.mul_sub,Int.mul_one,Int.mul_comm N 2,←Int.mul_assoc,Int.mul_comm w 2,Int.mul_assoc]
  rw[e1]at h2;rw[e2];split<;>omega
theorem ZdB{p:Prog}{ts:List (List Int)}{l:Nat}{t:Nat×Str×Row}:0≤XF p ts l t∧XF p ts l t < 2 ^ ts.length:=by
 have h:=JQ ((ZY p ts l).zip (ZY (Z6 p t.1 t.2.2) ts l)) 1 (by omega)
 have e:((ZY p ts l).zip (ZY (Z6 p t.1 t.2.2) ts l)).length=ts.length:=by
  rw[List.length_zip];unfold ZY;rw[List.length_map,List.length_map,Nat.min_self]
 rw[e,Int.one_mul]at h;unfold XF;omega
theorem Ub{a:Int}:Zg T (n+1) 17 [.int a]=some (.bl true):=by
 rw[Zn (f:=c__law_whole) rfl rfl rfl];rfl
theorem Zbe{b:Int}{ts:List P}{x0 x2 x3 x4:Option P}(h17:F 17 [.int b]=some (.bl true))(h0:0≤b)(h1:b < 2 ^ ts.length)(hl:ts.length≤10) :
  px F [] ZZ (Zp [x0,some (.tup ts),x2,x3,x4] 4 (.int b))=some (.nx [x0,some (.tup ts),x2,x3,some (.int b)]):=by
 show px F [] ZZ [x0,some (.tup ts),x2,x3,some (.int b)]=_;unfold ZZ;rw[Yo (by simp[h17,show ¬b < 0 by omega,show(ts.length:Int)≤1000 by omega,show ZJ 1=true by decide,show ¬(2:Int) ^ ts.length≤b by omega])]
 rfl
theorem Zbn{p:Prog}{ts:List (List Int)}{l:Nat}(hp:PG p)(ht:Zbk p.many ts)(hl:l≤900):Zg T (n+11) 230 [Zw p,.tup (ts.map Zu),.int (l:Int)]=some (.bl true):=by
 rw[Zn (f:=c__law_told) rfl rfl rfl];have b:=ZfL (n:=n) hp ht hl;have f1:=JL (n:=n+6) (p:=p) (fun r hr=>Zak (hp.rows r hr).2) hp.size
 have fl:(Xl p.rows.length 0 p.rows).length=(fkT p.rows.length 0 p.rows).length:=by rw[X3,List.length_map]
 obtain⟨π',e,y,rfl⟩:=Qr (B:=fun d π=>px (Zg T (n+10)) [] ZZ (Zp π 4 d)) (I:=fun π=>∃ y,π=[some (Zw p),some (.tup (ts.map Zu)),some (.int (l:Int)),some (.tup ((fkT p.rows.length 0 p.rows).map fun t=>.int (XF p ts l t))),y]) (xs:=(fkT p.rows.length 0 p.rows).map fun t=>.int (XF p ts l t)) (fun x hx π hπ=>by
  obtain⟨y,rfl⟩:=hπ;obtain⟨t,_,rfl⟩:=List.mem_map.mp hx;have hb:=ZdB (p:=p) (ts:=ts) (l:=l) (t:=t);exact⟨_,Zbe Ub hb.1 (by rw[List.length_map];exact hb.2) (by rw[List.length_map];exact ht.1),_,rfl⟩) [some (Zw p),some (.tup (ts.map Zu)),some (.int (l:Int)),some (.tup ((fkT p.rows.length 0 p.rows).map fun t=>.int (XF p ts l t))),none] ⟨_,rfl⟩
 show YD (px (Zg T (n+10)) [] c__law_told.body [some (Zw p),some (.tup (ts.map Zu)),some (.int (l:Int)),none,none])=_;unfold c__law_told;rw[Yx (v:=.tup ((fkT p.rows.length 0 p.rows).map fun t=>.int (XF p ts l t))) (by simp[b])]
 simp only[Zl,Zk];rw[Yo (by simp[f1,fl])]
 rw[Zr,ZeC (xs:=(fkT p.rows.length 0 p.rows).map fun t=>.int (XF p ts l t)) (by rfl) (by rfl),e,Zo,Yw (v:=.bl true) (by simp)]
 rfl
theorem Zfj{p:P}{ts:List P}{l:Int}(h:10 < ts.length):Zg T (n+6) 229 [p,.tup ts,.int l]=some (.bl true):=by
 have e2:∀ n,Zg T (n+1) 902 [.tup ts]=some (.int (ts.length:Int)):=fun n=>by
  rw[Zn (f:=⟨1,1,.ite (.cmp .Gt (.len (.var 0)) (.cst (.int 10))) (.ret (.len (.var 0))) .stop⟩) rfl rfl rfl];simp[Zz,show(10:Int) < (ts.length:Int) by omega]
 have e1:Zg T (n+5) 901 [p,.tup ts,.int l]=some (.int (ts.length:Int)):=by
  rw[Zn (f:=⟨3,8,.ret (.call 902 (.acons (.var 1) .anil) [])⟩) rfl rfl rfl];simp[Zz,e2]
 have e3:Zg T (n+5) 910 []=some .non:=rfl;have w:=Ub (n:=n+4) (a:=(ts.length:Int));rw[Zn (f:=⟨3,9,_⟩) rfl rfl rfl];show YD (px (Zg T (n+5)) [] (.seq (.act _) (.seq (.set 3 _) (.seq (.ite _ _ _) (.seq (.set 8 _) (.seq (.act _) (.seq (.set 8 _) (.ret _))))))) [some p,some (.tup ts),some (.int l),none,none,none,none,none,none])=_;rw[Zr,Jw (p:=.non) (by simp[e3]) rfl,Zo]
 rw[Yx (v:=.tup [.int (ts.length:Int),.bl false]) (by simp[e1])]
 simp only[Zl,Zk];have ei:Yg .Is (.tup [.int (ts.length:Int),.bl false]) .non=some (.bl false):=rfl;rw[Yo (by simp[w,ei])]
 rw[Yx (v:=.bl false) (by simp)]
 simp only[Zl,Zk];rw[Zr,Jw (p:=.int (ts.length:Int)) (by simp[e1]) rfl,Zo]
 rw[Yx (v:=.bl true) (by simp)]
 simp only[Zl,Zk];simp
theorem Zcn{i j:Int}(h:ZJ i=true):Y4 .Mult (.int i) (.int j)=some (.int (i * j)):=by
 rw[JO,h,Bool.true_or,if_pos rfl]
theorem ZiB{e:CE}{π:Zs}{i:Int}(h:ZJ i=true)(he:pe F e π=some (.int i)):pe F (.bin .Mult e e) π=some (.int (i * i)):=by
 rw[Y7,he,Option.bind_some,Option.bind_some,Zcn h]
theorem Zei{k:Nat}(h:k≤1000):∃ i:Int,i=(k:Int)∧ZJ i=true:=⟨_,rfl,Uy (by omega) (by omega)⟩
theorem ZaK{A B:Int}{e1 e2:CE}{π:Zs}(hA:ZJ A=true)(h1:pe F e1 π=some (.int A))(h2:pe F e2 π=some (.int B)):pe F (.bin .Mod (.bin .Mult e1 (.bin .Add e2 (.cst (.int 40009)))) (.cst (.int 2147483647))) π=some (.int (A * (B+40009) % 2147483647)):=by
 rw[Y7,Y7,h1,Option.bind_some,Y7,h2,Option.bind_some,Vn,X9,Option.bind_some,Uk,Option.bind_some,Zcn hA,Option.bind_some,Vn,X9,Option.bind_some,ZdA,if_pos (by omega)]
theorem Zbc{h0:Int}:ZJ (h0 % 1000003+13)=true:=Uy (by omega) (by omega)
theorem Zbl{ns:List Int}{k:Nat}(hn:ns.length≤63)(hk:k≤1000):∃ c,Zg T (n+1) 27 [.lst false (ns.map .int),.int (k:Int)]=some (.int c):=by
 rw[Zn (f:=c__law_cell_at_k56) rfl rfl rfl];show ∃ c,YD (px (Zg T n) [] c__law_cell_at_k56.body [some (.lst false (ns.map .int)),some (.int (k:Int))])=_;unfold c__law_cell_at_k56;by_cases h:k < ns.length
 ·refine⟨ns[k],?_⟩
  rw[Xa (v:=.int ns[k]) (by first|rfl|simp[h]) (by first|rfl|simp[h])]
  rfl
 ·rw[Yo (by simp;omega)]
  obtain⟨h0,e0⟩:∃ h0,pe (Zg T n) (.ix (.bin .Add (.var 0) (.lstE (.acons (.cst (.int 0)) .anil))) (.cst (.int 0))) [some (.lst false (ns.map .int)),some (.int (k:Int))]=some (.int h0):=by
   have hz:ns.length+1≤Zj:=by unfold Zj;omega
   cases ns with
   |nil=>exact⟨0,by rfl⟩
   |cons a l=>exact⟨a,by
     rw[List.length_cons]at hz;simp[hz]⟩
  have e1:pe (Zg T n) (.bin .Add (.bin .Mod (.ix (.bin .Add (.var 0) (.lstE (.acons (.cst (.int 0)) .anil))) (.cst (.int 0))) (.cst (.int 1000003))) (.cst (.int 13))) [some (.lst false (ns.map .int)),some (.int (k:Int))]=some (.int (h0 % 1000003+13)):=by
   rw[Y7,Y7,e0];simp
  obtain⟨i,hi,lk⟩:=Zei hk;rw[←hi]at e1 ⊢;exact⟨_,by rw[Yw (ZaK Zbc e1 (ZiB lk rfl))];rfl⟩
theorem Zfi(hm:0 < m){c:Int}:∃ o,Y9 m o∧Zg T (n+1) 28 [.int c,.int (m:Int)]=some (Z9 o):=by
 rw[Zn (f:=c__law_operand_k56) rfl rfl rfl];by_cases h:c % 2=0
 ·have:=Int.emod_nonneg (c / 2) (show(m:Int)≠0 by omega)
  have:=Int.emod_lt_of_pos (c / 2) (show 0 < (m:Int) by omega)
  have e:((c / 2 % (m:Int)).toNat:Int)=c / 2 % (m:Int):=by omega
  refine⟨.name (c / 2 % (m:Int)).toNat,by show(c / 2 % (m:Int)).toNat < m;omega,?_⟩
  simp[c__law_operand_k56,Zz,h,Z9,e,hm]
 ·refine⟨.num (c / 2 % 2000000000 - 1000000000),by show Sm _;exact⟨by omega,by omega⟩,?_⟩
  simp[c__law_operand_k56,Zz,h,Z9]
theorem ZhE{b:Bool}{size:Nat}(hm:0 < m)(hm':m≤100):∃ r,ROk m size r∧Zg T (n+2) 29 [.lst b [.int c0,.int c1,.int c2],.int (m:Int),.int (size:Int)]=some (Zh r):=by
 rw[Zn (f:=c__law_row_k56) rfl rfl rfl];obtain⟨y,hy,ey⟩:=Zfi (n:=n) hm (c:=c1);obtain⟨z,hz,ez⟩:=Zfi (n:=n) hm (c:=c2);have oy:=ZcA hy;have oz:=ZcA hz;show ∃ r,ROk m size r∧YD (px (Zg T (n+1)) [] c__law_row_k56.body [some (.lst b [.int c0,.int c1,.int c2]),some (.int (m:Int)),some (.int (size:Int)),none,none,none])=_;unfold c__law_row_k56;rw[Yx (v:=Z9 y) (by first|rfl|simp[ey])]
 simp only[Zl,Zk];rw[Yx (v:=Z9 z) (by first|rfl|simp[ez])]
 simp only[Zl,Zk];rw[Yx (v:=.int (c0 / 4)) (by first|rfl|simp)]
 simp only[Zl,Zk];have ia:∀ {i:Int},atP [.str (S "+"),.str (S "-"),.str (S "*"),.str (S "/"),.str (S "mod")] (i % 5)=some (.str (sgA (i % 5))):=Zjv;have ib:∀ {i:Int},atP [.str (S "<"),.str (S "<="),.str (S "="),.str (S ">="),.str (S ">"),.str (S "!=")] (i % 6)=some (.str (sgB (i % 6))):=Zjw;have ps:(0:Int) < (size:Int)+1:=by omega
 by_cases h1:c0 % 4=0
 ·obtain⟨x,ex,hx⟩:∃ x:Nat,c0 / 4 % (m:Int)=(x:Int)∧x < m:=⟨(c0 / 4 % (m:Int)).toNat,by
   have:=Int.emod_nonneg (c0 / 4) (show(m:Int)≠0 by omega)
   omega,by
   have:=Int.emod_nonneg (c0 / 4) (show(m:Int)≠0 by omega)
   have:=Int.emod_lt_of_pos (c0 / 4) (show 0 < (m:Int) by omega)
   omega⟩
  refine⟨.put x y (sgA (c0 / 4 / (m:Int) % 5)) z,⟨⟨hx,hy,hz⟩,Zhd _,oy,oz⟩,?_⟩;rw[Xa (v:=Zh (.put x y (sgA (c0 / 4 / (m:Int) % 5)) z)) (by first|rfl|simp[h1]) (by first|rfl|simp[ia,ex,hm,Zh,show(m:Int) < 1073741824 by omega])]
  rfl
 rw[Yo (by first|rfl|simp[h1])]
 by_cases h2:c0 % 4=1
 ·obtain⟨t,et,ht⟩:∃ t:Nat,c0 / 4 / 6 % ((size:Int)+1)=(t:Int)∧t≤size:=⟨(c0 / 4 / 6 % ((size:Int)+1)).toNat,by
   have:=Int.emod_nonneg (c0 / 4 / 6) (show(size:Int)+1≠0 by omega)
   omega,by
   have:=Int.emod_nonneg (c0 / 4 / 6) (show(size:Int)+1≠0 by omega)
   have:=Int.emod_lt_of_pos (c0 / 4 / 6) ps;omega⟩
  refine⟨.ifr y (sgB (c0 / 4 % 6)) z t,⟨⟨hy,hz,ht⟩,Zhe _⟩,?_⟩;rw[Xa (v:=Zh (.ifr y (sgB (c0 / 4 % 6)) z t)) (by first|rfl|simp[h2]) (by first|rfl|simp[ib,Zh,ps,et])]
  rfl
 rw[Yo (by first|rfl|simp[h2])]
 by_cases h3:c0 % 4=2
 ·refine⟨.tell z,⟨hz,trivial⟩,?_⟩
  rw[Xa (v:=Zh (.tell z)) (by first|rfl|simp[h3]) (by first|rfl|simp[Zh])]
  rfl
 rw[Yo (by first|rfl|simp[h3])]
 refine⟨.skip,⟨trivial,trivial⟩,?_⟩;rw[Yw (v:=Zh .skip) (by first|rfl|simp[Zh])]
 rfl
end
end Dp


namespace Dp
open PySem
section
variable {n:Nat}{F:PFn}{m many:Nat}{c0 c1 c2 c3:Int}{r:Row}{y z:Opd}{s:Str}{x t:Nat}
theorem l3:ZJ 3=true:=by decide
theorem Zgf{π:Zs}{k j q:Nat}(hk:pe F (.var 1) π=some (.int (k:Int)))(hj:pe F (.var 0) π=some (.int (j:Int)))(hq:q=3+3 * k+j):pe F (.bin .Add (.bin .Add (.cst (.int 3)) (.bin .Mult (.cst (.int 3)) (.var 1))) (.var 0)) π=some (.int (q:Int)):=by
 have e:(q:Int)=3+3 * (k:Int)+(j:Int):=by omega
 rw[e,Y7,Y7,Y7,Vn,X9,Option.bind_some,hk,Option.bind_some,Option.bind_some,Zcn l3,Option.bind_some,Uk,Option.bind_some,hj,Option.bind_some,Uk]
theorem ZdJ{ns:List Int}{k:Nat}{x1 x2 x3 x4 x5 x7 x8 x9 x10 x11:Option P}(hk:k≤12)(h27:∀ k:Nat,k≤1000→∃ c,F 27 [.lst false (ns.map .int),.int (k:Int)]=some (.int c)):∃ c0 c1 c2,pe F Xk [some (.lst false (ns.map .int)),x1,x2,x3,x4,x5,some (.int (k:Int)),x7,x8,x9,x10,x11]=some (.lst true [.int c0,.int c1,.int c2]):=by
 have one:∀ j:Nat,j≤2→∃ c,pe F (.call 27 (.acons (.var 2) (.acons (.bin .Add (.bin .Add (.cst (.int 3)) (.bin .Mult (.cst (.int 3)) (.var 1))) (.var 0)) .anil)) []) (YA [some (.lst false (ns.map .int)),x1,x2,x3,x4,x5,some (.int (k:Int)),x7,x8,x9,x10,x11] [6,0] (.int (j:Int)))=some (.int c):=fun j hj=>by
  obtain⟨c,e⟩:=h27 (3+3 * k+j) (by omega)
  refine⟨c,?_⟩;have hp:YA [some (.lst false (ns.map .int)),x1,x2,x3,x4,x5,some (.int (k:Int)),x7,x8,x9,x10,x11] [6,0] (.int (j:Int))=[some (.int (j:Int)),some (.int (k:Int)),some (.lst false (ns.map .int))]:=rfl;rw[hp,pe_call,Xu,Xu,Zgf (k:=k) (j:=j) rfl rfl rfl];simp[-Int.natCast_add,-Int.natCast_mul,e]
 obtain⟨c0,e0⟩:=one 0 (by omega)
 obtain⟨c1,e1⟩:=one 1 (by omega)
 obtain⟨c2,e2⟩:=one 2 (by omega)
 refine⟨c0,c1,c2,?_⟩;unfold Xk;rw[UH];show((some (P.int 3)).bind fun x=>_)=_
 rw[Option.bind_some,show Xf true (.int 3)=some [.int ((0:Nat):Int),.int ((1:Nat):Int),.int ((2:Nat):Int)] from rfl,Option.bind_some,if_pos (by first|rfl|simp)]
 have t:∀ p:P,pe F (.cst (.bl true)) (YA [some (.lst false (ns.map .int)),x1,x2,x3,x4,x5,some (.int (k:Int)),x7,x8,x9,x10,x11] [6,0] p)=some (.bl true):=fun _=>rfl
 simp only[YU,t,e0,e1,e2,Option.bind_some]
theorem Zfd{ns:List Int}{tk i:Nat}{ts:List (List Int)}{x1 x3 x4 x5 x7 x8 x10 x11:Option P}(hk:tk≤1)(hi:i≤100)(ht:ts.length≤100)(h27:∀ k:Nat,k≤1000→∃ c,F 27 [.lst false (ns.map .int),.int (k:Int)]=some (.int c)) :
  ∃ v y10,(v.length=tk∧∀ a∈v,Sm a)∧px F [5,9] Yl [some (.lst false (ns.map .int)),x1,some (.int (tk:Int)),x3,x4,x5,some (.int (i:Int)),x7,x8,some (.lst true (ts.map Zu)),x10,x11]=some (.nx [some (.lst false (ns.map .int)),x1,some (.int (tk:Int)),x3,x4,x5,some (.int (i:Int)),x7,x8,some (.lst true ((ts++[v]).map Zu)),y10,x11]):=by
 obtain⟨c,e⟩:=h27 (9+i) (by omega)
 rw[show((9+i:Nat):Int)=9+(i:Int) by omega]at e
 refine⟨List.replicate tk (c % 2000000000 - 1000000000),some (.int (c % 2000000000 - 1000000000)),⟨List.length_replicate,fun a ha=>?_⟩,?_⟩
 ·rw[List.eq_of_mem_replicate ha]
  exact⟨by omega,by omega⟩
 unfold Yl;rw[Zr,Z4 (p:=.int (c % 2000000000 - 1000000000)) (by first|rfl|simp[e]) rfl rfl,Zo]
 simp only[Zl,Zk];rw[Zbs (xs:=ts.map Zu) (p:=Zu (List.replicate tk (c % 2000000000 - 1000000000))) rfl (by
  simp[Zu,List.map_replicate,show(tk:Int)≤1000 by omega,show(-1000:Int)≤(tk:Int) by omega]) rfl (by rw[List.length_map];omega),Yj,List.map_append]
 rfl
theorem Zia{y:Opd}:noL (Z9 y)=true:=by cases y<;>rfl
theorem Zic{r:Row}:noL (Zh r)=true:=by cases r<;>simp[Zh,noL,WG,Zia]
theorem Vj:∀ {xs:List P},(∀ x∈xs,noL x=true)→WG xs=true
 |[],_=>rfl
 |x :: xs,h=>by
  show(noL x&&WG xs)=true;rw[h x List.mem_cons_self,Vj fun y hy=>h y (List.mem_cons_of_mem _ hy)];rfl
theorem Zcq{rs:List Row}:noL (.tup (rs.map Zh))=true:=Vj fun x hx=>by
 obtain⟨r,_,rfl⟩:=List.mem_map.mp hx;exact Zic
theorem Zib{p:Prog}(h:noL p.takes=true):noL (Zw p)=true:=by
 show(noL p.takes&&(noL (.int (p.many:Int))&&(noL (.tup (p.rows.map Zh))&&true)))=true;rw[h,Zcq];rfl
theorem Zci{ns:List Int}{w:Int}{tk m size:Nat}{c1 c2:Int}{rs:List Row}{z6:Option P}(hn:ns.length≤63)(hk:tk≤1)(hkm:tk≤m)(hm:m≤2)(hr:∀ r∈rs,ROk m rs.length r)(hz:rs.length≤2)(e1:Zg T (n+11) 27 [.lst false (ns.map .int),.int 1]=some (.int c1))(e2:Zg T (n+11) 27 [.lst false (ns.map .int),.int 2]=some (.int c2)) :
  YD (px (Zg T (n+11)) [5,9] (.seq (.set 7 (.tupE (.acons (.bin .Mult (.tupE (.acons (.tupE (.acons (.neg (.cst (.int 1000000000))) (.acons (.cst (.int 999999999)) .anil))) .anil)) (.var 2)) (.acons (.var 3) (.acons (.tupleOf (.var 5)) .anil)))))
 (.seq (.set 8 (.bin .Mod (.call 27 (.acons (.var 0) (.acons (.cst (.int 1)) .anil)) []) (.cst (.int 7))))
 (.seq (.set 9 (.lstE .anil))
 (.seq (.for1 6 true (.bin .Add (.cst (.int 11)) (.bin .Mod (.call 27 (.acons (.var 0) (.acons (.cst (.int 2)) .anil)) []) (.cst (.int 50)))) Yl)
 (.seq (.set 11 (.bin .Mod (.bin .FloorDiv (.call 27 (.acons (.var 0) (.acons (.cst (.int 1)) .anil)) []) (.cst (.int 7))) (.cst (.int 11))))
 (.seq (.ite (.not (.call 229 (.acons (.var 7) (.acons (.tupleOf (.var 9)) (.acons (.var 8) .anil))) [])) (.seq (.ret (.cst (.bl false)))
 .skip) .skip)
 (.seq (.ite (.or (.not (.call 230 (.acons (.var 7) (.acons (.tupleOf (.slice (.var 9) .nop (.part (.var 11)))) (.acons (.var 8) .anil))) [])) (.not (.call 230 (.acons (.var 7) (.acons (.tupleOf (.slice (.var 9) .nop (.part (.cst (.int 10))))) (.acons (.var 8) .anil))) []))) (.seq (.ret (.cst (.bl false)))
 .skip) .skip)
 (.seq (.ret (.call 229 (.acons (.var 7) (.acons (.tupleOf (.slice (.var 9) .nop (.part (.cst (.int 11))))) (.acons (.var 8) .anil))) []))
 .skip)))))))) [some (.lst false (ns.map .int)),some (.int w),some (.int (tk:Int)),some (.int (m:Int)),some (.int (size:Int)),some (.lst true (rs.map Zh)),z6,none,none,none,none,none])=some (.bl true):=by
 have h27:∀ k:Nat,k≤1000→∃ c,Zg T (n+11) 27 [.lst false (ns.map .int),.int (k:Int)]=some (.int c):=fun k hk=>Zbl (n:=n+10) hn hk
 obtain⟨p,hp⟩:∃ p:Prog,p=⟨.tup (List.replicate tk (.tup [.int (-1000000000),.int 999999999])),m,rs⟩:=⟨_,rfl⟩;have pm:p.many=m:=by rw[hp]
 have gp:PG p:=by
  rw[hp];exact⟨hr,by show m≤100;omega,by show rs.length≤12;omega⟩
 have ep:pe (Zg T (n+11)) (.tupE (.acons (.bin .Mult (.tupE (.acons (.tupE (.acons (.neg (.cst (.int 1000000000))) (.acons (.cst (.int 999999999)) .anil))) .anil)) (.var 2)) (.acons (.var 3) (.acons (.tupleOf (.var 5)) .anil)))) [some (.lst false (ns.map .int)),some (.int w),some (.int (tk:Int)),some (.int (m:Int)),some (.int (size:Int)),some (.lst true (rs.map Zh)),z6,none,none,none,none,none]=some (Zw p):=by
  rw[hp];simp[Zw,show(tk:Int)≤1000 by omega,show(-1000:Int)≤(tk:Int) by omega]
 have nT:∀ q:Nat,WG (List.replicate q (P.tup [.int (-1000000000),.int 999999999]))=true:=fun q=>Vj fun x hx=>by rw[List.eq_of_mem_replicate hx];rfl
 rw[Zr,Z4 ep rfl (by unfold Zq;rw[Zib (by rw[hp];exact nT tk),Bool.or_true]),Zo]
 simp only[Zl,Zk];obtain⟨l,el,hl⟩:∃ l:Nat,c1 % 7=(l:Int)∧l≤6:=⟨(c1 % 7).toNat,by omega,by omega⟩
 rw[Zr,Z4 (p:=.int (l:Int)) (by first|rfl|simp[e1,el]) rfl rfl,Zo]
 simp only[Zl,Zk];rw[Zr,Wc (p:=.lst true []) (by rfl) rfl rfl,Zo]
 simp only[Zl,Zk];obtain⟨count,ec,hc1,hc2⟩:∃ q:Nat,11+c2 % 50=(q:Int)∧11≤q∧q≤60:=⟨(11+c2 % 50).toNat,by omega,by omega,by omega⟩
 obtain⟨π,e,ts,y6,y10,htl,hts,rfl⟩:=Vg (B:=fun d π=>px (Zg T (n+11)) [5,9] Yl (Zp π 6 d)) (fun i π=>∃ (ts:List (List Int)) (y6 y10:Option P),ts.length=i∧(∀ v∈ts,v.length≤p.many∧∀ a∈v,Sm a)∧π=[some (.lst false (ns.map .int)),some (.int w),some (.int (tk:Int)),some (.int (m:Int)),some (.int (size:Int)),some (.lst true (rs.map Zh)),y6,some (Zw p),some (.int (l:Int)),some (.lst true (ts.map Zu)),y10,none]) (m:=count) (fun i hi π hπ=>by
  obtain⟨ts,y6,y10,htl,hts,rfl⟩:=hπ;obtain⟨v,z10,gv,e⟩:=Zfd (F:=Zg T (n+11)) (ns:=ns) (tk:=tk) (i:=i) (ts:=ts) (x1:=some (.int w)) (x3:=some (.int (m:Int))) (x4:=some (.int (size:Int))) (x5:=some (.lst true (rs.map Zh))) (x7:=some (Zw p)) (x8:=some (.int (l:Int))) (x10:=y10) (x11:=none) hk (by omega) (by omega) h27
  refine⟨_,e,ts++[v],some (.int (i:Int)),z10,by simp[htl],fun q hq=>?_,rfl⟩
  rcases List.mem_append.mp hq with z|z
  ·exact hts q z
  ·rw[List.mem_singleton.mp z];exact⟨by rw[gv.1,pm];exact hkm,gv.2⟩) (π:=[some (.lst false (ns.map .int)),some (.int w),some (.int (tk:Int)),some (.int (m:Int)),some (.int (size:Int)),some (.lst true (rs.map Zh)),z6,some (Zw p),some (.int (l:Int)),some (.lst true []),none,none]) ⟨[],_,_,rfl,(fun _ z=>nomatch z),rfl⟩
 rw[Zr,Zai (n:=count) (by first|rfl|simp[e2,ec]) (by omega) rfl,e,Zo]
 obtain⟨few,ef,hf⟩:∃ q:Nat,c1 / 7 % 11=(q:Int)∧q≤10:=⟨(c1 / 7 % 11).toNat,by omega,by omega⟩
 rw[Zr,Z4 (p:=.int (few:Int)) (by first|rfl|simp[e1,ef]) rfl rfl,Zo]
 simp only[Zl,Zk];have tok:∀ q:Nat,q≤10→Zbk p.many (ts.take q):=fun q hq=>⟨by rw[List.length_take];omega,fun v hv=>hts v (List.mem_of_mem_take hv)⟩
 have cut:∀ q:Nat,q≤11→Wk (ts.map Zu) Option.none (some (q:Int))=(ts.take q).map Zu:=fun q hq=>by rw[ZbE (by rw[List.length_map];omega),List.map_take]
 have t1:=Zbn (n:=n) gp (tok few hf) (l:=l) (by omega)
 have t2:=Zbn (n:=n) gp (tok 10 (by omega)) (l:=l) (by omega)
 have r1:=Zfj (n:=n+5) (p:=Zw p) (ts:=ts.map Zu) (l:=(l:Int)) (by rw[List.length_map];omega)
 have r2:=Zfj (n:=n+5) (p:=Zw p) (ts:=(ts.take 11).map Zu) (l:=(l:Int)) (by rw[List.length_map,List.length_take];omega)
 have cf:=cut few (by omega)
 have c10:=cut 10 (by omega)
 have c11:=cut 11 (by omega)
 rw[show((10:Nat):Int)=10 from rfl]at c10;rw[show((11:Nat):Int)=11 from rfl]at c11;rw[Yo (by simp[-List.map_take,r1]),Yo (by simp only[pe_or,pe_not,pe_call,Xu,Zae,Vo,pe_slice,ZcI,Zaf,pe_var,Vn,X9,List.getElem?_cons_zero,List.getElem?_cons_succ,Option.join_some,Option.bind_some,Qz,QP,V5,V7,cf,c10,U9,List.length_nil,List.length_cons,show(0:Nat) < 1000 by omega,show(0+1:Nat) < 1000 by omega,show(0+1+1:Nat) < 1000 by omega,if_true,U5,Qx,List.append_nil,t1,t2,Zgs,ZbD,Bool.not_true,Bool.false_eq_true,if_false]),
  Yw (v:=.bl true) (by simp only[pe_call,Xu,Zae,Vo,pe_slice,ZcI,Zaf,pe_var,Vn,X9,List.getElem?_cons_zero,List.getElem?_cons_succ,Option.join_some,Option.bind_some,Qz,QP,V5,V7,c11,U9,List.length_nil,List.length_cons,show(0:Nat) < 1000 by omega,show(0+1:Nat) < 1000 by omega,show(0+1+1:Nat) < 1000 by omega,if_true,U5,Qx,List.append_nil,r2])]
 rfl
theorem ZaW{n:Nat}{ns:List Int}(hn:ns.length≤63):Zg T (n+12) 16 [.lst false (ns.map .int)]=some (.bl true):=by
 rw[Zn (f:=c_law_k56) rfl rfl rfl];have h27:∀ k:Nat,k≤1000→∃ c,Zg T (n+11) 27 [.lst false (ns.map .int),.int (k:Int)]=some (.int c):=fun k hk=>Zbl (n:=n+10) hn hk
 obtain⟨hd,e0⟩:=h27 0 (by omega)
 obtain⟨c1,e1⟩:=h27 1 (by omega)
 obtain⟨c2,e2⟩:=h27 2 (by omega)
 have e0:Zg T (n+11) 27 [.lst false (ns.map .int),.int 0]=some (.int hd):=e0;have e1:Zg T (n+11) 27 [.lst false (ns.map .int),.int 1]=some (.int c1):=e1;have e2:Zg T (n+11) 27 [.lst false (ns.map .int),.int 2]=some (.int c2):=e2;show YD (px (Zg T (n+11)) [5,9] c_law_k56.body [some (.lst false (ns.map .int)),none,none,none,none,none,none,none,none,none,none,none])=_
 unfold c_law_k56;obtain⟨tk,et,ht⟩:∃ tk:Nat,hd % 2=(tk:Int)∧tk≤1:=⟨(hd % 2).toNat,by omega,by omega⟩
 obtain⟨m,em,hm⟩:∃ m:Nat,(if (tk:Int) > 1 then (tk:Int) else 1)+hd / 2 % 2=(m:Int)∧(1≤m∧m≤2):=⟨((if (tk:Int) > 1 then (tk:Int) else 1)+hd / 2 % 2).toNat,by split<;>omega,by split<;>omega⟩
 obtain⟨size,ez,hz⟩:∃ z:Nat,hd / 4 % 3=(z:Int)∧z≤2:=⟨(hd / 4 % 3).toNat,by omega,by omega⟩
 rw[Zr,Z4 (p:=.int hd) (by first|rfl|simp[e0]) rfl rfl,Zo]
 simp only[Zl,Zk];rw[Zr,Z4 (p:=.int (tk:Int)) (by first|rfl|simp[et]) rfl rfl,Zo]
 simp only[Zl,Zk];rw[Zr,Z4 (p:=.int (m:Int)) (by rw[←em];simp) rfl rfl,Zo]
 simp only[Zl,Zk];rw[Zr,Z4 (p:=.int (size:Int)) (by first|rfl|simp[ez]) rfl rfl,Zo]
 simp only[Zl,Zk];rw[Zr,Wc (p:=.lst true []) (by rfl) rfl rfl,Zo]
 simp only[Zl,Zk];obtain⟨π,e,rs,z6,hl1,hr1,rfl⟩:=Vg (B:=fun d π=>px (Zg T (n+11)) [5,9] YF (Zp π 6 d)) (fun i π=>∃ (rs:List Row) (y6:Option P),rs.length=i∧(∀ r∈rs,ROk m size r)∧π=[some (.lst false (ns.map .int)),some (.int hd),some (.int (tk:Int)),some (.int (m:Int)),some (.int (size:Int)),some (.lst true (rs.map Zh)),y6,none,none,none,none,none]) (m:=size) (fun i hi π hπ=>by
  obtain⟨rs,y6,hl,hr,rfl⟩:=hπ;obtain⟨d0,d1,d2,ce⟩:=ZdJ (F:=Zg T (n+11)) (ns:=ns) (k:=i) (x1:=some (.int hd)) (x2:=some (.int (tk:Int))) (x3:=some (.int (m:Int))) (x4:=some (.int (size:Int))) (x5:=some (.lst true (rs.map Zh))) (x7:=none) (x8:=none) (x9:=none) (x10:=none) (x11:=none) (by omega) h27
  obtain⟨r,gr,er⟩:=ZhE (n:=n+9) (b:=true) (m:=m) (size:=size) (c0:=d0) (c1:=d1) (c2:=d2) (by omega) (by omega)
  refine⟨[some (.lst false (ns.map .int)),some (.int hd),some (.int (tk:Int)),some (.int (m:Int)),some (.int (size:Int)),some (.lst true ((rs++[r]).map Zh)),some (.int (i:Int)),none,none,none,none,none],?_,rs++[r],some (.int (i:Int)),by simp[hl],fun q hq=>?_,rfl⟩
  ·show px (Zg T (n+11)) [5,9] YF [some (.lst false (ns.map .int)),some (.int hd),some (.int (tk:Int)),some (.int (m:Int)),some (.int (size:Int)),some (.lst true (rs.map Zh)),some (.int (i:Int)),none,none,none,none,none]=_
   unfold YF;rw[Zbs (xs:=rs.map Zh) (p:=Zh r) rfl (by rw[pe_call,Xu,ce];simp[er]) rfl (by rw[List.length_map];omega),Yj,List.map_append]
   rfl
  ·rcases List.mem_append.mp hq with z|z
   ·exact hr q z
   ·rw[List.mem_singleton.mp z];exact gr) (π:=[some (.lst false (ns.map .int)),some (.int hd),some (.int (tk:Int)),some (.int (m:Int)),some (.int (size:Int)),some (.lst true []),none,none,none,none,none,none]) ⟨[],none,rfl,(fun _ z=>nomatch z),rfl⟩
 rw[Zr,Zai (n:=size) (by rfl) (by omega) rfl,e,Zo]
 exact Zci (n:=n) hn ht (by omega) hm.2 (by rw[hl1];exact hr1) (by omega) e1 e2
end
end Dp


namespace PySem.W.Fast
def tw12363860126999643059:=0
def tw1982746966279842386:=0
def tw5343806197058990085:=0
def tw7242372903387372841:=0
def tw12362613354528896091:=0
def tw262095011341275086:=0
def tw10021931718434123578:=0
def tw2334668224786654656:=0
def tw13217560817940673156:=0
def tw1021875863951331049:=0
def tw11402944626663105731:=0
def tw10848353603388807704:=0
def tw11346318382528204951:=0
def tw907363576567698076:=0
def tw17858454001003647639:=0
def tw2107628459300224214:=0
def tw4593935730617540272:=0
def tw14877236723619587739:=0
def tw7592919110524561393:=0
def tw4848381561588580436:=0
def tw7645644544748928515:=0
def tw997757226391023673:=0
def tw5922214418364618145:=0
def tw17151692426394678531:=0
def tw12021871288762208888:=0
def tw3936359720143221140:=0
def tw15932296965736408791:=0
def tw10672624135482298719:=0
def tw1659015584081661577:=0
def tw17414042218228554744:=0
def tw4357929861115791811:=0
def tw7544956966005122767:=0
def tw5998189221173869925:=0
def tw8106917697063757557:=0
def tw1707859009355054200:=0
def tw15657167733741545652:=0
def tw15228437747793782265:=0
def tw263550733942028372:=0
def tw3231281120379109987:=0
def tw8309999854661733426:=0
def tw4157665323836447327:=0
def tw14592817999924747347:=0
def tw6695066197439468188:=0
def tw13795318074933471756:=0
def tw6626301720723416251:=0
def tw3936041040555569088:=0
def tw12017533075881829120:=0
def tw3369524428937761600:=0
def tw8495550975631628233:=0
def tw4547890541744026350:=0
def tw1215780163299349775:=0
def tw10965019307126222309:=0
def tw16579718949000812156:=0
def tw17253828191084379945:=0
def tw13386545882020859704:=0
def tw10948349915058823789:=0
def tw1684227203873330508:=0
def tw13953560441369824277:=0
def tw15081135878488642278:=0
def tw17000281496015426029:=0
def tw15173969821813572340:=0
def tw3481063958827919473:=0
def tw15906313405657537314:=0
def tw17964058310442395590:=0
def tw5565419698374406039:=0
def tw13153622922317827990:=0
def tw969101356569388180:=0
def tw9841598376798323642:=0
def tw2818619529515977389:=0
def tw1644761135871748967:=0
def tw15613765286758335296:=0
def tw7290330550929821609:=0
def tw17509066963661313174:=0
def tw7364129016265084279:=0
def tw6510656808297230869:=0
def tw1978061161858132751:=0
def tw10548975006779752710:=0
def tw14596288390411070319:=0
def tw16267968785612311077:=0
def tw17621629073248420855:=0
def tw4367220661870287866:=0
def tw10500461319618139817:=0
def tw6831130273909396717:=0
def tw15725242509608233982:=0
def tw11153918752396694437:=0
def tw13630820627203076593:=0
def tw16167618493126475004:=0
def tw11321303415294607645:=0
def tw7132901522512648066:=0
def tw1488005765345593278:=0
def tw2492604856409983481:=0
def tw3973177867607727067:=0
def tw13220119932915217812:=0
def tw12836224123226206347:=0
def tw3498683171324954902:=0
def tw11614844727495857055:=0
def tw10681047674503501841:=0
def tw11071193219850984419:=0
def tw10068212478940038191:=0
def tw5414045869521084995:=0
def tw4429854885286434180:=0
def tw4409793187602938950:=0
def tw12631590222579319066:=0
def tw6739121026218125210:=0
def tw13244489942331146825:=0
def tw530820782229233820:=0
def tw511208719200442494:=0
def tw16863195947308296709:=0
def tw12893812409469178656:=0
def tw4125907411379033834:=0
def tw2277395208239771653:=0
def tw4291913809864678824:=0
def tw9561459575939284849:=0
def tw3293589126261888796:=0
def tw12081328326528075577:=0
def tw9750752892894447124:=0
def tw6815835888673504025:=0
def tw14697840704844685949:=0
def tw10093884585466823200:=0
def tw8429059894889545226:=0
def tw14434254819498811656:=0
def tw16535587170907611961:=0
def tw14784355105117507294:=0
def tw11677814506436618426:=0
def tw6532198959460791782:=0
def tw17122932717261394518:=0
def tw13233278336889418854:=0
def tw14289684326526862510:=0
def tw14606787930086701186:=0
def tw13888739281271378072:=0
def tw12027957359601330109:=0
def tw14973859382654241261:=0
def tw9396601972452248557:=0
def tw3587638315967466574:=0
def tw6377915980589229629:=0
def tw15506083199064682290:=0
def tw6207253117968738752:=0
def tw16504713899697351679:=0
def tw151390934708613238:=0
def tw4105835601130860377:=0
def tw7727511097473361717:=0
def tw7049176638172332130:=0
def tw8187871963348067887:=0
def tw7715695695988618489:=0
def tw8134563938844719958:=0
def tw376195246689934194:=0
def tw8302974889145943381:=0
def tw18420132228430133723:=0
def tw15322609253781213858:=0
def tw6334695052753669096:=0
def tw13203908413239743981:=0
def tw14352199906751178445:=0
def tw18123753577494392452:=0
def tw8508222815353906103:=0
def tw2484326264601997922:=0
def tw9102652308005382132:=0
def tw2242548031488864011:=0
def tw6877204137450100069:=0
def tw6822685202888818432:=0
def tw6916281873116639214:=0
def tw15328281842648861909:=0
def tw6701832944705000283:=0
def tw2708975104572837557:=0
def tw3529671893606018780:=0
def tw264400949416085958:=0
def tw14136970555946162903:=0
def tw16513683494893346118:=0
def tw968206535313168135:=0
def tw17184391397614685261:=0
def tw536949384377916501:=0
def tw5416326417180159222:=0
def tw4214448533238871281:=0
def tw3838609094812557737:=0
def tw11870215314928700051:=0
def tw16623430387680270858:=0
def tw2321394972301997352:=0
def tw2294520401260955218:=0
def tw12562610465037154251:=0
def tw3525428636575715380:=0
def tw8619980575111359165:=0
def tw284768587144054250:=0
def tw10848698241866329835:=0
def tw7324838614429954172:=0
def tw11206944219267670965:=0
def tw16640881707021879855:=0
def tw7274217251680571070:=0
def tw11940706967280628625:=0
def tw17791439498947670484:=0
def tw14181414359557296148:=0
def tw6502377909180371236:=0
def tw12932195119729872426:=0
def tw5915285136249265380:=0
def tw5167264044187350415:=0
def tw5721757933472161108:=0
def tw386263711781707263:=0
def tw12941119823462956779:=0
def tw1131756882089168136:=0
def tw6569327645102772647:=0
def tw402966351034207228:=0
def tw3546134439554828626:=0
def tw18235316605469698257:=0
def tw1363000792452992588:=0
def tw10094865671166944942:=0
def tw12729235322598947753:=0
def tw693693801620044746:=0
def tw7337798380798267579:=0
def tw9933488596310340553:=0
def tw4165164981068639836:=0
def tw2230406978325231333:=0
def tw7933225843100243694:=0
def tw829769752477186977:=0
def tw8305429135383889315:=0
def tw5767548928944274953:=0
def tw12364195266963769815:=0
def tw5983494718369602944:=0
def tw2489242938805405207:=0
def tw8031545848717085059:=0
def tw1076336620137356798:=0
def tw8996251099898289956:=0
def tw15346822398983549921:=0
def tw16459711016675413821:=0
def tw5597433092641975552:=0
def tw8997024409925165680:=0
def tw14444681125823211019:=0
def tw16276383175952783916:=0
def tw5647551625226756573:=0
def tw2296528769866719818:=0
def tw8578234858718234868:=0
def tw5563109543310951017:=0
def tw955533659079529484:=0
def tw14785070007241801121:=0
def tw7137313583692600954:=0
def tw5291958699431637481:=0
def tw2968235060747979197:=0
def tw5452841745471265094:=0
def tw7728071730016292902:=0
def tw17852021849209023894:=0
def tw16157937654019297072:=0
def tw12037929197471608497:=0
def tw9816269142412921245:=0
def tw8883203392765981410:=0
def tw6543966696596487085:=0
def tw10491887777771488859:=0
def tw6934164669561142156:=0
def tw5596226991370702400:=0
def tw11882589872050469737:=0
def tw3661500823731014235:=0
def tw13307670674648192470:=0
def tw7889496141933794444:=0
def tw12234002471695805025:=0
def tw2051814091333324032:=0
def tw2061675564503592671:=0
def tw11428275131014179933:=0
def tw8145150667068922554:=0
def tw18015809304094552602:=0
def tw13421380338989117109:=0
def tw14711416768354968162:=0
def tw17667879833928666044:=0
def tw749200262613707156:=0
def tw2097986443233248600:=0
def tw17418432235990210112:=0
def tw18356039336168012157:=0
def tw11981002419854593986:=0
def tw16629357142016309328:=0
def tw17554968121199368643:=0
def tw13366506623396152227:=0
def tw16394054034871335560:=0
def tw3229815493307465817:=0
def tw1337157029358565667:=0
def tw8287229784583894518:=0
def tw14304541152053631675:=0
def tw12375148808486570991:=0
end PySem.W.Fast
namespace Dp
open PySem L2
noncomputable def top(i:Nat):Stmt:=PySem.Challenge.pw_fakehunt_k56_trials_too_many.main.body.getD i (.Pass ⟨0,0,0,0⟩)
noncomputable def G:Gs:=[(S "Step",GV.cls 146 [(S "word",147,1),(S "turned",148,3)] [146,169,149,157,152,160,163]),(S "Sign",GV.cls 169 [(S "word",170,1),(S "turned",171,3)] [169]),(S "More",GV.cls 149 [(S "word",150,1),(S "turned",151,3)] [149]),(S "Turn",GV.cls 157 [(S "word",158,1),(S "turned",159,3)] [157]),(S "Out",GV.cls 152 [(S "word",153,1),(S "turned",154,3)] [152]),(S "Swap",GV.cls 160 [(S "word",161,1),(S "turned",162,3)] [160]),(S "Far",GV.cls 163 [(S "word",164,1),(S "turned",165,3)] [163]),(S "OPERAND_PLACES",GV.dct [(S "put"),(S "if"),(S "tell"),(S "go"),(S "skip")] [(.tup [(.int 2),(.int 4)]),(.tup [(.int 1),(.int 3)]),(.tup [(.int 1)]),(.tup []),(.tup [])]),(S "replaced",GV.fn 42 3 []),(S "operand_places",GV.fn 113 1 []),(S "HALF",GV.cst (.int 1000000000)),(S "RING",GV.cst (.int 2000000000)),(S "PUT_SIGNS",GV.cst (.kt [(S "+"),(S "-"),(S "*"),(S "/"),(S "mod")])),(S "IF_SIGNS",GV.cst (.kt [(S "<"),(S "<="),(S "="),(S ">="),(S ">"),(S "!=")])),(S "around",GV.fn 0 1 []),(S "divided",GV.fn 1 2 []),(S "left_over",GV.fn 2 2 []),(S "reckon",GV.fn 3 3 []),(S "is_so",GV.fn 4 3 []),(S "CONTRARIES",GV.dct [(S "<"),(S ">="),(S "<="),(S ">"),(S "="),(S "!=")] [(.str (S ">=")),(.str (S "<")),(.str (S ">")),(.str (S "<=")),(.str (S "!=")),(.str (S "="))]),(S "behind",GV.fn 70 2 []),(S "fakes",GV.fn 172 1 []),(S "fake_of",GV.fn 180 3 []),(S "worth",GV.fn 5 2 []),(S "began",GV.fn 6 2 []),(S "at_end",GV.fn 7 2 []),(S "values_behind",GV.fn 8 2 []),(S "place_behind",GV.fn 9 3 []),(S "moved",GV.fn 10 2 []),(S "is_outcome",GV.fn 11 1 []),(S "trail",GV.fn 12 3 [(.int 100)]),(S "outcome",GV.fn 13 3 [(.int 100)]),(S "MOST_TRIALS",GV.cst (.int 10)),(S "check_trials",GV.fn 181 1 []),(S "outcomes",GV.fn 182 3 []),(S "bits_unlike",GV.fn 183 2 []),(S "bits_of",GV.fn 184 3 [(.int 100)]),(S "_law_whole",GV.fn 17 1 []),(S "_law_cell_at",GV.fn 27 2 []),(S "_law_operand",GV.fn 28 2 []),(S "_law_row",GV.fn 29 3 []),(S "_law_refused",GV.fn 229 3 []),(S "_law_told",GV.fn 230 3 []),(S "law",GV.fn 16 1 []),(S "len",GV.blt),(S "range",GV.blt),(S "tuple",GV.blt),(S "list",GV.blt),(S "int",GV.blt),(S "bool",GV.blt),(S "str",GV.blt),(S "min",GV.blt),(S "max",GV.blt),(S "isinstance",GV.blt),(S "all",GV.blt),(S "any",GV.blt),(S "zip",GV.blt),(S "sorted",GV.blt),(S "enumerate",GV.blt)]
noncomputable def Z8(i k:Nat):Stmt:=match top i with
 |.ClassDef _ _ _ b _ _ _ _ _ _ _=>b.getD k (.Pass ⟨0,0,0,0⟩)
 |s=>s
abbrev Cmp(i:Nat)(N ps:List Str)(c:CS):Prop:=Y3 G (top i) N ps c
local macro_rules
 |`(tactic| trivial)=>`(tactic| exact⟨⟨rfl,rfl,rfl,by decide +kernel,rfl,by decide +kernel,by decide +kernel⟩,by unfold L2.Loc;decide +kernel,by kernel_rfl⟩)
theorem ZjN:Cmp 11 [S "things",S "i",S "thing"] [S "things",S "i",S "thing"] c_replaced.body:=by trivial
theorem ZjO:Cmp 12 [S "row"] [S "row"] c_operand_places.body:=by trivial
theorem ZjP:Cmp 18 [S "number"] [S "number"] c_around.body:=by trivial
theorem ZjQ:Cmp 19 [S "one",S "other"] [S "one",S "other"] c_divided.body:=by trivial
theorem ZjR:Cmp 20 [S "one",S "other"] [S "one",S "other"] c_left_over.body:=by trivial
theorem ZjS:Cmp 21 [S "one",S "sign",S "other"] [S "one",S "sign",S "other"] c_reckon.body:=by trivial
theorem ZjT:Cmp 22 [S "one",S "sign",S "other"] [S "one",S "sign",S "other"] c_is_so.body:=by trivial
theorem ZjU:Cmp 25 [S "ring",S "sign"] [S "ring",S "sign"] c_behind.body:=by trivial
theorem ZjV:Cmp 34 [S "program",S "rows",S "steps",S "told",S "k",S "row",S "step"] [S "program"] c_fakes.body:=by trivial
theorem ZjW:Cmp 35 [S "program",S "k",S "row"] [S "program",S "k",S "row"] c_fake_of.body:=by trivial
theorem ZjX:Cmp 37 [S "operand",S "values"] [S "operand",S "values"] c_worth.body:=by trivial
theorem ZjY:Cmp 38 [S "program",S "inputs"] [S "program",S "inputs"] c_began.body:=by trivial
theorem ZjZ:Cmp 39 [S "program",S "state"] [S "program",S "state"] c_at_end.body:=by trivial
theorem Zj0:Cmp 40 [S "row",S "values",S "number"] [S "row",S "values"] c_values_behind.body:=by trivial
theorem Zj1:Cmp 41 [S "row",S "k",S "values"] [S "row",S "k",S "values"] c_place_behind.body:=by trivial
theorem Zj2:Cmp 42 [S "program",S "state",S "k",S "values",S "row"] [S "program",S "state"] c_moved.body:=by trivial
theorem Zj3:Cmp 43 [S "thing"] [S "thing"] c_is_outcome.body:=by trivial
theorem Zj4:Cmp 44 [S "program",S "inputs",S "limit",S "state",S "things",S "done",S "thing"] [S "program",S "inputs",S "limit"] c_trail.body:=by trivial
theorem Zj5:Cmp 45 [S "program",S "inputs",S "limit"] [S "program",S "inputs",S "limit"] c_outcome.body:=by trivial
theorem Zj6:Cmp 48 [S "trials"] [S "trials"] c_check_trials.body:=by trivial
theorem Zj7:Cmp 49 [S "program",S "trials",S "limit"] [S "program",S "trials",S "limit"] c_outcomes.body:=by trivial
theorem Zj8:Cmp 50 [S "things",S "beside",S "bits",S "bit",S "thing",S "along"] [S "things",S "beside"] c_bits_unlike.body:=by trivial
theorem Zj9:Cmp 51 [S "program",S "trials",S "limit",S "own",S "told",S "k",S "word",S "row"] [S "program",S "trials",S "limit"] c_bits_of.body:=by trivial
theorem Zka:Cmp 53 [S "_law_found"] [S "_law_found"] c__law_whole.body:=by trivial
theorem Zkb:Cmp 54 [S "_law_script",S "_law_k"] [S "_law_script",S "_law_k"] c__law_cell_at_k56.body:=by trivial
theorem Zkc:Cmp 55 [S "_law_cell",S "_law_many"] [S "_law_cell",S "_law_many"] c__law_operand_k56.body:=by trivial
theorem Zkd:Cmp 56 [S "_law_cells",S "_law_many",S "_law_size",S "_law_one",S "_law_other",S "_law_more"] [S "_law_cells",S "_law_many",S "_law_size"] c__law_row_k56.body:=by trivial
theorem Zke:Cmp 58 [S "_law_program",S "_law_trials",S "_law_limit",S "_law_found",S "_law_one"] [S "_law_program",S "_law_trials",S "_law_limit"] c__law_told.body:=by trivial
theorem Zit:Cmp 59 [S "_law_script",S "_law_head",S "_law_taken",S "_law_many",S "_law_size",S "_law_rows",S "_law_k",S "_law_program",S "_law_limit",S "_law_trials",S "_law_number",S "_law_few"] [S "_law_script"] c_law_k56.body:=by trivial
theorem ZgK:Y3 G (Z8 26 0) [S "self"] [S "self"] c_Step_word.body:=by trivial
theorem ZgL:Y3 G (Z8 26 1) [S "self",S "row",S "many"] [S "self",S "row",S "many"] c_Step_turned.body:=by trivial
theorem ZgM:Y3 G (Z8 27 0) [S "self"] [S "self"] c_Sign_word.body:=by trivial
theorem ZgN:Y3 G (Z8 27 1) [S "self",S "row",S "many"] [S "self",S "row",S "many"] c_Sign_turned.body:=by trivial
theorem ZgO:Y3 G (Z8 28 0) [S "self"] [S "self"] c_More_word.body:=by trivial
theorem ZgP:Y3 G (Z8 28 1) [S "self",S "row",S "many",S "rows",S "i"] [S "self",S "row",S "many"] c_More_turned.body:=by trivial
theorem ZgQ:Y3 G (Z8 29 0) [S "self"] [S "self"] c_Turn_word.body:=by trivial
theorem ZgR:Y3 G (Z8 29 1) [S "self",S "row",S "many"] [S "self",S "row",S "many"] c_Turn_turned.body:=by trivial
theorem ZgS:Y3 G (Z8 30 0) [S "self"] [S "self"] c_Out_word.body:=by trivial
theorem ZgT:Y3 G (Z8 30 1) [S "self",S "row",S "many"] [S "self",S "row",S "many"] c_Out_turned.body:=by trivial
theorem ZgU:Y3 G (Z8 31 0) [S "self"] [S "self"] c_Swap_word.body:=by trivial
theorem ZgV:Y3 G (Z8 31 1) [S "self",S "row",S "many"] [S "self",S "row",S "many"] c_Swap_turned.body:=by trivial
theorem ZgW:Y3 G (Z8 32 0) [S "self"] [S "self"] c_Far_word.body:=by trivial
theorem ZgX:Y3 G (Z8 32 1) [S "self",S "row",S "many"] [S "self",S "row",S "many"] c_Far_turned.body:=by trivial
@[reducible] noncomputable def tab (l:List (Nat×Addr)):ClsTab:=⟨fun i=>(l.lookup i).getD 0⟩
section
variable [ct:ClsTab]
theorem Zh1{F:Nat→Fn}{c:CE}{ρ:Env}{s s':Za}{r:Fl}(h:ex F (.ite c (.seq (.ret (.cst (.bl false))) .skip) .skip) ρ s=some (r,s')):r=.nx ρ∨∃ d,r=.rt d:=by
 have h:VE (ev F c) (ex F (.seq (.ret (.cst (.bl false))) .skip)) (ex F .skip) ρ s=some (r,s'):=h;unfold VE at h;split at h
 ·have h:some (Fl.rt (.bl false),_)=some (r,s'):=h
  cases h;exact .inr ⟨_,rfl⟩
 ·have h:some (Fl.nx ρ,_)=some (r,s'):=h
  cases h;exact .inl rfl
 ·cases h
theorem low(n:Nat)(s:Za)(d:D)(s':Za)(h:run T n 910 [] s=some (d,s')):4≤n∧s'=s:=by
 match n,h with
 |0,h=>cases (show(none:Res)=some (d,s') from h)
 |1,h=>cases (show(none:Res)=some (d,s') from h)
 |2,h=>cases (show(none:Res)=some (d,s') from h)
 |3,h=>cases (show(none:Res)=some (d,s') from h)
 |n+4,h=>
  have h:some (D.non,s)=some (d,s'):=h;cases h;exact⟨by omega,rfl⟩
theorem UE:∀ n,Yu G (run T n):=fun _=>ZdM
theorem Zjk{K:PySem.W.Frag}{h:Heap}{mg:Str→Option Value}{C fI Bh B1 B2 B3 B4 B5 B6:Addr}(X:K.In h)(G0:h.Ns mainGlobals mg)(xa:XAt K "TooMany" "TooMany.__init__" "number" (Z8 8 0) C fI)(ac:FnAt K "check_trials" (top 48))(ab:FnAtE K "bits_of" (top 51) 100)(zi:PySem.W.nsIn K mainGlobals "isinstance"=some none)(xv:PySem.W.nsIn K mainGlobals "ValueError"=some none)(xh:PySem.W.nsIn K mainGlobals "HuntError"=some (some (.ref Bh)))(xm:PySem.W.exmOne K (.ref C) (.ref Bh)=some true)(xm1:PySem.W.exmOne K (.ref C) (.ref C)=some true)(x0:PySem.W.kitOne K (.ref C) (.type "ValueError")=some true)(c1:PySem.W.nsIn K mainGlobals "TooWide"=some (some (.ref B1)))(x1:PySem.W.kitOne K (.ref C) (.ref B1)=some false)(c2:PySem.W.nsIn K mainGlobals "TextError"=some (some (.ref B2)))(x2:PySem.W.kitOne K (.ref C) (.ref B2)=some false)(c3:PySem.W.nsIn K mainGlobals "NoLine"=some (some (.ref B3)))(x3:PySem.W.kitOne K (.ref C) (.ref B3)=some false)(c4:PySem.W.nsIn K mainGlobals "Twice"=some (some (.ref B4)))(x4:PySem.W.kitOne K (.ref C) (.ref B4)=some false)(c5:PySem.W.nsIn K mainGlobals "NoName"=some (some (.ref B5)))(x5:PySem.W.kitOne K (.ref C) (.ref B5)=some false)(c6:PySem.W.nsIn K mainGlobals "NoPlace"=some (some (.ref B6)))(x6:PySem.W.kitOne K (.ref C) (.ref B6)=some false){f:Addr}{oc kV dc pm cd ct':Value}{od an:Option Addr}{sl:Array (Option Value)}(lk:K.lookup f=some ⟨oc,od,.func (fnS "_law_refused" "_law_refused" (top 57) .none kV dc pm an cd ct'),sl⟩)(hcd:PySem.W.codeIn K cd "_law_refused"=true) :
  Zat K mg G T 229 f (fnS "_law_refused" "_law_refused" (top 57) .none kV dc pm an cd ct') [S "_law_program",S "_law_trials",S "_law_limit"]:=by
 intro P w base n gl;obtain⟨xc,xg⟩:=xa.cls;have na:=xc.na;cases xa with
 |mk ca cl lb ln sk n1 n2 n3 n4 sa na' ini kp ga gn gc gs gt gm gd li ci ic=>
 cases ac with
 |mk ca' cl' ce' ck'=>
 cases ab with
 |@mk fb Eb eob enb etb ob kb db pb cb tb odb anb slb ba bl be bk bd bg=>
 have sub:∀ {sc:Scope}{t:Str}{B:Addr}{b:Bool},isG sc t→(t==("__debug__":Str))=false→PySem.W.nsIn K mainGlobals t=some (some (.ref B))→PySem.W.kitOne K (.ref C) (.ref B)=some b→Sub K mg sc C t b:=fun h1 h2 h3 h4=>⟨h1,h2,_,PySem.W.mg_of X G0 h3,h4⟩
 have mi:=PySem.W.mg_none_of X G0 zi;have FI:FnOk P w K mg base CX0 1 fI _ [S "self",S "number"] (spI C "number"):=Zgl xc li ci ⟨rfl,rfl,rfl,by decide +kernel,rfl,by decide +kernel,by decide +kernel⟩ (.inl rfl) (.inl rfl) (by decide) (by decide) (by decide) (by decide)
 have BX:4≤n→FnOk P w K mg base (CX1 P w) n fb (fnS "bits_of" "bits_of" (top 51) (.ref Eb) kb db pb anb cb tb) [S "program",S "trials",S "limit"] (spX K C "number" (run T n 901)):=fun h4=>by
  match n,h4,gl with
  |k+2,h4,gl=>
   exact Zeu (n:=k+1) (j:=1) (N:=[S "program",S "trials",S "limit",S "own",S "told",S "k",S "word",S "row"]) (ZcW (n:=k) (i:=902) (N:=[S "trials"]) (pn:=[S "trials"]) UE (fun A hr=>gl k (by omega) A hr) xc FI (bd2 rfl fun _ _=>rfl) cl' ce' ⟨rfl,rfl,rfl,by decide +kernel,rfl,by decide +kernel,by decide +kernel⟩ (by kernel_rfl) (by kernel_rfl) rfl rfl rfl (PySem.W.mg_of X G0 ca) (by decide) (fun _ _ _ _=>by omega)) (bd1 rfl fun _=>rfl) ck' bl be
    ⟨rfl,rfl,rfl,by decide +kernel,rfl,by decide +kernel,by decide +kernel⟩ ⟨rfl,by decide,PySem.W.mg_of X G0 ca'⟩ ⟨rfl,by decide,by decide⟩ rfl (by decide) rfl
 exact QG (cl:=.len (.var 1)) UE (fun A hr=>gl n (Nat.le_refl n) A hr) BX (fun s us hK hl=>by obtain⟨_,_,_,rfl⟩:=ZaY (show us.length=3 by simpa using hl);exact PySem.W.binds_K hK rfl bd bg rfl rfl) bk lk hcd ⟨rfl,rfl,rfl,by decide +kernel,rfl,by decide +kernel,by decide +kernel⟩ (by unfold L2.Loc;decide +kernel)
  ⟨rfl,by decide,by decide⟩ ⟨rfl,by decide,by decide⟩ ⟨rfl,by decide,by decide⟩ ⟨rfl,by decide,by decide⟩ ⟨rfl,by decide,by decide⟩ ⟨rfl,by decide,by decide⟩ ⟨rfl,by decide,by decide⟩ ⟨rfl,by decide,by decide⟩ ⟨rfl,by decide,by decide⟩
  ⟨rfl,by decide,PySem.W.mg_of X G0 ba⟩ ⟨rfl,by decide,PySem.W.mg_of X G0 ca⟩ ⟨rfl,by decide,PySem.W.mg_of X G0 xh⟩ xm1 xm rfl mi rfl (PySem.W.mg_none_of X G0 xv) xg na
  (sub rfl (by decide) c1 x1) (sub rfl (by decide) c2 x2) (sub rfl (by decide) c3 x3) (sub rfl (by decide) c4 x4) (sub rfl (by decide) c5 x5) (sub rfl (by decide) c6 x6) x0 (by kernel_rfl) (by kernel_rfl) rfl (fun F ρ s r s' h=>Zh1 h) rfl (fun s d s' h=>low n s d s' h)
theorem ZfO{Pm:Params}{K:PySem.W.Frag}{h:Heap}{mg:Str→Option Value}{fa:Addr}(X:K.In h)(G0:h.Ns mainGlobals mg)(hfa:mg "law"=some (.ref fa)){C0:Addr}{C1:Addr}{C2:Addr}{C3:Addr}{C4:Addr}{C5:Addr}{C6:Addr}{A7:Addr}{ob7:Obj}{ep7:Nat}{t7_0:Tok}{B7_0:Addr}{bo7_0:Obj}{bn7_0:Nat}{u7_0_0:Tok}{u7_0_1:Tok}{t7_1:Tok}{B7_1:Addr}{bo7_1:Obj}{bn7_1:Nat}{u7_1_0:Tok}{u7_1_1:Tok}{t7_2:Tok}{B7_2:Addr}{bo7_2:Obj}{bn7_2:Nat}{u7_2_0:Tok}{t7_3:Tok}{B7_3:Addr}{bo7_3:Obj}{bn7_3:Nat}{t7_4:Tok}{B7_4:Addr}{bo7_4:Obj}{bn7_4:Nat}{t10:Tok}{t11:Tok}{A12:Addr}{ob12:Obj}{on12:Nat}{t12_0:Tok}{t12_1:Tok}{t12_2:Tok}{t12_3:Tok}{t12_4:Tok}{A13:Addr}{ob13:Obj}{on13:Nat}{t13_0:Tok}{t13_1:Tok}{t13_2:Tok}{t13_3:Tok}{t13_4:Tok}{t13_5:Tok}{A19:Addr}{ob19:Obj}{ep19:Nat}{t19_0:Tok}{u19_0:Tok}{t19_1:Tok}{u19_1:Tok}{t19_2:Tok}{u19_2:Tok}{t19_3:Tok}{u19_3:Tok}{t19_4:Tok}{u19_4:Tok}{t19_5:Tok}{u19_5:Tok}{t32:Tok}{Cq fIq Bh B1 B2 B3 B4 B5 B6:Addr}
(yz0:ClsTab.ca 146=C0) (yz1:ClsTab.ca 169=C1) (yz2:ClsTab.ca 149=C2) (yz3:ClsTab.ca 157=C3) (yz4:ClsTab.ca 152=C4) (yz5:ClsTab.ca 160=C5) (yz6:ClsTab.ca 163=C6)
  (y0:ClsAt K "Step" C0) (ym0_0:PySem.W.kitOne K (.ref C0) (.ref C0)=some true) (ym0_1:PySem.W.kitOne K (.ref C1) (.ref C0)=some true) (ym0_2:PySem.W.kitOne K (.ref C2) (.ref C0)=some true) (ym0_3:PySem.W.kitOne K (.ref C3) (.ref C0)=some true) (ym0_4:PySem.W.kitOne K (.ref C4) (.ref C0)=some true) (ym0_5:PySem.W.kitOne K (.ref C5) (.ref C0)=some true) (ym0_6:PySem.W.kitOne K (.ref C6) (.ref C0)=some true) (w0_147:MtAt K C0 "word" "Step.word" (Z8 26 0)) (w0_148:MtAt K C0 "turned" "Step.turned" (Z8 26 1))
  (y1:ClsAt K "Sign" C1) (ym1_1:PySem.W.kitOne K (.ref C1) (.ref C1)=some true) (w1_170:MtAt K C1 "word" "Sign.word" (Z8 27 0)) (w1_171:MtAt K C1 "turned" "Sign.turned" (Z8 27 1))
  (y2:ClsAt K "More" C2) (ym2_2:PySem.W.kitOne K (.ref C2) (.ref C2)=some true) (w2_150:MtAt K C2 "word" "More.word" (Z8 28 0)) (w2_151:MtAt K C2 "turned" "More.turned" (Z8 28 1))
  (y3:ClsAt K "Turn" C3) (ym3_3:PySem.W.kitOne K (.ref C3) (.ref C3)=some true) (w3_158:MtAt K C3 "word" "Turn.word" (Z8 29 0)) (w3_159:MtAt K C3 "turned" "Turn.turned" (Z8 29 1))
  (y4:ClsAt K "Out" C4) (ym4_4:PySem.W.kitOne K (.ref C4) (.ref C4)=some true) (w4_153:MtAt K C4 "word" "Out.word" (Z8 30 0)) (w4_154:MtAt K C4 "turned" "Out.turned" (Z8 30 1))
  (y5:ClsAt K "Swap" C5) (ym5_5:PySem.W.kitOne K (.ref C5) (.ref C5)=some true) (w5_161:MtAt K C5 "word" "Swap.word" (Z8 31 0)) (w5_162:MtAt K C5 "turned" "Swap.turned" (Z8 31 1))
  (y6:ClsAt K "Far" C6) (ym6_6:PySem.W.kitOne K (.ref C6) (.ref C6)=some true) (w6_164:MtAt K C6 "word" "Far.word" (Z8 32 0)) (w6_165:MtAt K C6 "turned" "Far.turned" (Z8 32 1))
  (g7:PySem.W.nsIn K mainGlobals "OPERAND_PLACES"=some (some (.ref A7))) (d7:K.lookup A7=some ob7) (f7c:ob7.cls=.type "dict") (f7d:ob7.dict=none) (f7s:ob7.slots=#[]) (e7:ob7.data=.dict #[⟨PyData.keyHash Pm "put",.str "put" t7_0,.ref B7_0⟩,⟨PyData.keyHash Pm "if",.str "if" t7_1,.ref B7_1⟩,⟨PyData.keyHash Pm "tell",.str "tell" t7_2,.ref B7_2⟩,⟨PyData.keyHash Pm "go",.str "go" t7_3,.ref B7_3⟩,⟨PyData.keyHash Pm "skip",.str "skip" t7_4,.ref B7_4⟩] ep7) (s7:(A7==sysModules)=false)
  (h7_0:K.lookup B7_0=some bo7_0) (i7_0:bo7_0.cls=.type "tuple") (j7_0:bo7_0.data=.seq #[.int (2) u7_0_0,.int (4) u7_0_1] bn7_0)
  (h7_1:K.lookup B7_1=some bo7_1) (i7_1:bo7_1.cls=.type "tuple") (j7_1:bo7_1.data=.seq #[.int (1) u7_1_0,.int (3) u7_1_1] bn7_1)
  (h7_2:K.lookup B7_2=some bo7_2) (i7_2:bo7_2.cls=.type "tuple") (j7_2:bo7_2.data=.seq #[.int (1) u7_2_0] bn7_2)
  (h7_3:K.lookup B7_3=some bo7_3) (i7_3:bo7_3.cls=.type "tuple") (j7_3:bo7_3.data=.seq #[] bn7_3)
  (h7_4:K.lookup B7_4=some bo7_4) (i7_4:bo7_4.cls=.type "tuple") (j7_4:bo7_4.data=.seq #[] bn7_4)
  (a8:FnAt K "replaced" (top 11))
  (a9:FnAt K "operand_places" (top 12))
  (g10:PySem.W.nsIn K mainGlobals "HALF"=some (some (.int (1000000000) t10)))
  (g11:PySem.W.nsIn K mainGlobals "RING"=some (some (.int (2000000000) t11)))
  (g12:PySem.W.nsIn K mainGlobals "PUT_SIGNS"=some (some (.ref A12))) (d12:K.lookup A12=some ob12) (f12c:ob12.cls=.type "tuple") (f12d:ob12.dict=none) (e12:ob12.data=.seq #[.str "+" t12_0,.str "-" t12_1,.str "*" t12_2,.str "/" t12_3,.str "mod" t12_4] on12)
  (g13:PySem.W.nsIn K mainGlobals "IF_SIGNS"=some (some (.ref A13))) (d13:K.lookup A13=some ob13) (f13c:ob13.cls=.type "tuple") (f13d:ob13.dict=none) (e13:ob13.data=.seq #[.str "<" t13_0,.str "<=" t13_1,.str "=" t13_2,.str ">=" t13_3,.str ">" t13_4,.str "!=" t13_5] on13)
  (a14:FnAt K "around" (top 18))
  (a15:FnAt K "divided" (top 19))
  (a16:FnAt K "left_over" (top 20))
  (a17:FnAt K "reckon" (top 21))
  (a18:FnAt K "is_so" (top 22))
  (g19:PySem.W.nsIn K mainGlobals "CONTRARIES"=some (some (.ref A19))) (d19:K.lookup A19=some ob19) (f19c:ob19.cls=.type "dict") (f19d:ob19.dict=none) (f19s:ob19.slots=#[]) (e19:ob19.data=.dict #[⟨PyData.keyHash Pm "<",.str "<" t19_0,.str ">=" u19_0⟩,⟨PyData.keyHash Pm ">=",.str ">=" t19_1,.str "<" u19_1⟩,⟨PyData.keyHash Pm "<=",.str "<=" t19_2,.str ">" u19_2⟩,⟨PyData.keyHash Pm ">",.str ">" t19_3,.str "<=" u19_3⟩,⟨PyData.keyHash Pm "=",.str "=" t19_4,.str "!=" u19_4⟩,⟨PyData.keyHash Pm "!=",.str "!=" t19_5,.str "=" u19_5⟩] ep19) (s19:(A19==sysModules)=false)
  (a20:FnAt K "behind" (top 25))
  (a21:FnAt K "fakes" (top 34))
  (a22:FnAt K "fake_of" (top 35))
  (a23:FnAt K "worth" (top 37))
  (a24:FnAt K "began" (top 38))
  (a25:FnAt K "at_end" (top 39))
  (a26:FnAt K "values_behind" (top 40))
  (a27:FnAt K "place_behind" (top 41))
  (a28:FnAt K "moved" (top 42))
  (a29:FnAt K "is_outcome" (top 43))
  (a30:FnAtE K "trail" (top 44) 100)
  (a31:FnAtE K "outcome" (top 45) 100)
  (g32:PySem.W.nsIn K mainGlobals "MOST_TRIALS"=some (some (.int (10) t32)))
  (a33:FnAt K "check_trials" (top 48))
  (a34:FnAt K "outcomes" (top 49))
  (a35:FnAt K "bits_unlike" (top 50))
  (a36:FnAtE K "bits_of" (top 51) 100)
  (a37:FnAt K "_law_whole" (top 53))
  (a38:FnAt K "_law_cell_at" (top 54))
  (a39:FnAt K "_law_operand" (top 55))
  (a40:FnAt K "_law_row" (top 56))
  (a41:FnAt K "_law_refused" (top 57))
  (a42:FnAt K "_law_told" (top 58))
  (a43:FnAt K "law" (top 59))
  (z44:PySem.W.nsIn K mainGlobals "len"=some none)
  (z45:PySem.W.nsIn K mainGlobals "range"=some none)
  (z46:PySem.W.nsIn K mainGlobals "tuple"=some none)
  (z47:PySem.W.nsIn K mainGlobals "list"=some none)
  (z48:PySem.W.nsIn K mainGlobals "int"=some none)
  (z49:PySem.W.nsIn K mainGlobals "bool"=some none)
  (z50:PySem.W.nsIn K mainGlobals "str"=some none)
  (z51:PySem.W.nsIn K mainGlobals "min"=some none)
  (z52:PySem.W.nsIn K mainGlobals "max"=some none)
  (z53:PySem.W.nsIn K mainGlobals "isinstance"=some none)
  (z54:PySem.W.nsIn K mainGlobals "all"=some none)
  (z55:PySem.W.nsIn K mainGlobals "any"=some none)
  (z56:PySem.W.nsIn K mainGlobals "zip"=some none)
  (z57:PySem.W.nsIn K mainGlobals "sorted"=some none)
  (z58:PySem.W.nsIn K mainGlobals "enumerate"=some none)
  (xa:XAt K "TooMany" "TooMany.__init__" "number" (Z8 8 0) Cq fIq) (xv:PySem.W.nsIn K mainGlobals "ValueError"=some none) (xh:PySem.W.nsIn K mainGlobals "HuntError"=some (some (.ref Bh))) (xm:PySem.W.exmOne K (.ref Cq) (.ref Bh)=some true) (xm1:PySem.W.exmOne K (.ref Cq) (.ref Cq)=some true) (x0:PySem.W.kitOne K (.ref Cq) (.type "ValueError")=some true)
  (c1:PySem.W.nsIn K mainGlobals "TooWide"=some (some (.ref B1))) (x1:PySem.W.kitOne K (.ref Cq) (.ref B1)=some false) (c2:PySem.W.nsIn K mainGlobals "TextError"=some (some (.ref B2))) (x2:PySem.W.kitOne K (.ref Cq) (.ref B2)=some false)
  (c3:PySem.W.nsIn K mainGlobals "NoLine"=some (some (.ref B3))) (x3:PySem.W.kitOne K (.ref Cq) (.ref B3)=some false) (c4:PySem.W.nsIn K mainGlobals "Twice"=some (some (.ref B4))) (x4:PySem.W.kitOne K (.ref Cq) (.ref B4)=some false)
  (c5:PySem.W.nsIn K mainGlobals "NoName"=some (some (.ref B5))) (x5:PySem.W.kitOne K (.ref Cq) (.ref B5)=some false) (c6:PySem.W.nsIn K mainGlobals "NoPlace"=some (some (.ref B6))) (x6:PySem.W.kitOne K (.ref Cq) (.ref B6)=some false) :
  Text Pm K mg G T∧∃ (fd:FuncData) (N:List Str),(∀ (s:Shared) (u:Value),BindsTo s fd ⟨[u],[]⟩ [(S "_law_script",u)])∧DefOk K mg G T "law" 16 [] fa fd [S "_law_script"] N:=by
 exact⟨Zfa (gC X G0 yz0 y0 (gS yz0 y0 ym0_0 (gS yz1 y1 ym0_1 (gS yz2 y2 ym0_2 (gS yz3 y3 ym0_3 (gS yz4 y4 ym0_4 (gS yz5 y5 ym0_5 (gS yz6 y6 ym0_6 trivial))))))) (gM w0_147 ZgK rfl (gM w0_148 ZgL rfl trivial)) (gC X G0 yz1 y1 (gS yz1 y1 ym1_1 trivial) (gM w1_170 ZgM rfl (gM w1_171 ZgN rfl trivial)) (gC X G0 yz2 y2 (gS yz2 y2 ym2_2 trivial) (gM w2_150 ZgO rfl (gM w2_151 ZgP rfl trivial)) (gC X G0 yz3 y3 (gS yz3 y3 ym3_3 trivial) (gM w3_158 ZgQ rfl (gM w3_159 ZgR rfl trivial)) (gC X G0 yz4 y4 (gS yz4 y4 ym4_4 trivial) (gM w4_153 ZgS rfl (gM w4_154 ZgT rfl trivial)) (gC X G0 yz5 y5 (gS yz5 y5 ym5_5 trivial) (gM w5_161 ZgU rfl (gM w5_162 ZgV rfl trivial)) (gC X G0 yz6 y6 (gS yz6 y6 ym6_6 trivial) (gM w6_164 ZgW rfl (gM w6_165 ZgX rfl trivial)) (⟨⟨A7,ob7,#[⟨PyData.keyHash Pm "put",.str "put" t7_0,.ref B7_0⟩,⟨PyData.keyHash Pm "if",.str "if" t7_1,.ref B7_1⟩,⟨PyData.keyHash Pm "tell",.str "tell" t7_2,.ref B7_2⟩,⟨PyData.keyHash Pm "go",.str "go" t7_3,.ref B7_3⟩,⟨PyData.keyHash Pm "skip",.str "skip" t7_4,.ref B7_4⟩],ep7,PySem.W.mg_of X G0 g7,d7,⟨f7c,f7d,f7s⟩,e7,s7,(by simp),(show EsOk Pm K [⟨PyData.keyHash Pm "put",.str "put" t7_0,.ref B7_0⟩,⟨PyData.keyHash Pm "if",.str "if" t7_1,.ref B7_1⟩,⟨PyData.keyHash Pm "tell",.str "tell" t7_2,.ref B7_2⟩,⟨PyData.keyHash Pm "go",.str "go" t7_3,.ref B7_3⟩,⟨PyData.keyHash Pm "skip",.str "skip" t7_4,.ref B7_4⟩] _ _ from .cons (v:=.ref B7_0) (t:=t7_0) rfl rfl (show RelV (.ref B7_0) (.ref B7_0) from rfl) (fun _ _=>.tup (xs:=[.int (2),.int (4)]) (.inr ⟨bo7_0,#[.int (2) u7_0_0,.int (4) u7_0_1],bn7_0,h7_0,i7_0,j7_0,(show(2:Nat)≤sizeLine by decide),.cons ⟨_,rfl⟩ (.cons ⟨_,rfl⟩ (.nil))⟩) (.cons (.int _) (.cons (.int _) (.nil)))) (.cons (v:=.ref B7_1) (t:=t7_1) rfl rfl (show RelV (.ref B7_1) (.ref B7_1) from rfl) (fun _ _=>.tup (xs:=[.int (1),.int (3)]) (.inr ⟨bo7_1,#[.int (1) u7_1_0,.int (3) u7_1_1],bn7_1,h7_1,i7_1,j7_1,(show(2:Nat)≤sizeLine by decide),.cons ⟨_,rfl⟩ (.cons ⟨_,rfl⟩ (.nil))⟩) (.cons (.int _) (.cons (.int _) (.nil)))) (.cons (v:=.ref B7_2) (t:=t7_2) rfl rfl (show RelV (.ref B7_2) (.ref B7_2) from rfl) (fun _ _=>.tup (xs:=[.int (1)]) (.inr ⟨bo7_2,#[.int (1) u7_2_0],bn7_2,h7_2,i7_2,j7_2,(show(1:Nat)≤sizeLine by decide),.cons ⟨_,rfl⟩ (.nil)⟩) (.cons (.int _) (.nil))) (.cons (v:=.ref B7_3) (t:=t7_3) rfl rfl (show RelV (.ref B7_3) (.ref B7_3) from rfl) (fun _ _=>.tup (xs:=[]) (.inr ⟨bo7_3,#[],bn7_3,h7_3,i7_3,j7_3,(show(0:Nat)≤sizeLine by decide),.nil⟩) (.nil)) (.cons (v:=.ref B7_4) (t:=t7_4) rfl rfl (show RelV (.ref B7_4) (.ref B7_4) from rfl) (fun _ _=>.tup (xs:=[]) (.inr ⟨bo7_4,#[],bn7_4,h7_4,i7_4,j7_4,(show(0:Nat)≤sizeLine by decide),.nil⟩) (.nil)) (.nil))))))⟩,gD X G0 a8 ZjN rfl (gD X G0 a9 ZjO rfl (gI X G0 g10 (gI X G0 g11 (⟨⟨.ref A12,.ref A12,PySem.W.mg_of X G0 g12,rfl,fun _ _=>.kt (its:=#[.str "+" t12_0,.str "-" t12_1,.str "*" t12_2,.str "/" t12_3,.str "mod" t12_4]) d12 f12c f12d e12 (show(5:Nat)≤sizeLine by decide) (.cons ⟨_,rfl⟩ (.cons ⟨_,rfl⟩ (.cons ⟨_,rfl⟩ (.cons ⟨_,rfl⟩ (.cons ⟨_,rfl⟩ (.nil))))))⟩,⟨⟨.ref A13,.ref A13,PySem.W.mg_of X G0 g13,rfl,fun _ _=>.kt (its:=#[.str "<" t13_0,.str "<=" t13_1,.str "=" t13_2,.str ">=" t13_3,.str ">" t13_4,.str "!=" t13_5]) d13 f13c f13d e13 (show(6:Nat)≤sizeLine by decide) (.cons ⟨_,rfl⟩ (.cons ⟨_,rfl⟩ (.cons ⟨_,rfl⟩ (.cons ⟨_,rfl⟩ (.cons ⟨_,rfl⟩ (.cons ⟨_,rfl⟩ (.nil)))))))⟩,gD X G0 a14 ZjP rfl (gD X G0 a15 ZjQ rfl (gD X G0 a16 ZjR rfl (gD X G0 a17 ZjS rfl (gD X G0 a18 ZjT rfl (⟨⟨A19,ob19,#[⟨PyData.keyHash Pm "<",.str "<" t19_0,.str ">=" u19_0⟩,⟨PyData.keyHash Pm ">=",.str ">=" t19_1,.str "<" u19_1⟩,⟨PyData.keyHash Pm "<=",.str "<=" t19_2,.str ">" u19_2⟩,⟨PyData.keyHash Pm ">",.str ">" t19_3,.str "<=" u19_3⟩,⟨PyData.keyHash Pm "=",.str "=" t19_4,.str "!=" u19_4⟩,⟨PyData.keyHash Pm "!=",.str "!=" t19_5,.str "=" u19_5⟩],ep19,PySem.W.mg_of X G0 g19,d19,⟨f19c,f19d,f19s⟩,e19,s19,(by simp),(show EsOk Pm K [⟨PyData.keyHash Pm "<",.str "<" t19_0,.str ">=" u19_0⟩,⟨PyData.keyHash Pm ">=",.str ">=" t19_1,.str "<" u19_1⟩,⟨PyData.keyHash Pm "<=",.str "<=" t19_2,.str ">" u19_2⟩,⟨PyData.keyHash Pm ">",.str ">" t19_3,.str "<=" u19_3⟩,⟨PyData.keyHash Pm "=",.str "=" t19_4,.str "!=" u19_4⟩,⟨PyData.keyHash Pm "!=",.str "!=" t19_5,.str "=" u19_5⟩] _ _ from .cons (v:=.str ">=") (t:=t19_0) rfl rfl (show RelV (.str ">=") (.str ">=" u19_0) from⟨_,rfl⟩) (fun _ _=>.str _) (.cons (v:=.str "<") (t:=t19_1) rfl rfl (show RelV (.str "<") (.str "<" u19_1) from⟨_,rfl⟩) (fun _ _=>.str _) (.cons (v:=.str ">") (t:=t19_2) rfl rfl (show RelV (.str ">") (.str ">" u19_2) from⟨_,rfl⟩) (fun _ _=>.str _) (.cons (v:=.str "<=") (t:=t19_3) rfl rfl (show RelV (.str "<=") (.str "<=" u19_3) from⟨_,rfl⟩) (fun _ _=>.str _) (.cons (v:=.str "!=") (t:=t19_4) rfl rfl (show RelV (.str "!=") (.str "!=" u19_4) from⟨_,rfl⟩) (fun _ _=>.str _) (.cons (v:=.str "=") (t:=t19_5) rfl rfl (show RelV (.str "=") (.str "=" u19_5) from⟨_,rfl⟩) (fun _ _=>.str _) (.nil)))))))⟩,gD X G0 a20 ZjU rfl (gD X G0 a21 ZjV rfl (gD X G0 a22 ZjW rfl (gD X G0 a23 ZjX rfl (gD X G0 a24 ZjY rfl (gD X G0 a25 ZjZ rfl (gD X G0 a26 Zj0 rfl (gD X G0 a27 Zj1 rfl (gD X G0 a28 Zj2 rfl (gD X G0 a29 Zj3 rfl (gE X G0 a30 Zj4 rfl (fun _ _ _ _ _ _ _ _ _ _ d e=>⟨fun s us hK hl=>by obtain⟨_,_,_,rfl⟩:=ZaY (show us.length=3 by simpa using hl);exact PySem.W.binds_K hK rfl d e rfl rfl,fun s us hK hl=>by obtain⟨_,_,rfl⟩:=Zeg (show us.length=2 by simpa using hl);exact PySem.W.binds_K hK rfl d e rfl rfl⟩) (gE X G0 a31 Zj5 rfl (fun _ _ _ _ _ _ _ _ _ _ d e=>⟨fun s us hK hl=>by obtain⟨_,_,_,rfl⟩:=ZaY (show us.length=3 by simpa using hl);exact PySem.W.binds_K hK rfl d e rfl rfl,fun s us hK hl=>by obtain⟨_,_,rfl⟩:=Zeg (show us.length=2 by simpa using hl);exact PySem.W.binds_K hK rfl d e rfl rfl⟩) (gI X G0 g32 (gD X G0 a33 Zj6 rfl (gD X G0 a34 Zj7 rfl (gD X G0 a35 Zj8 rfl (gE X G0 a36 Zj9 rfl (fun _ _ _ _ _ _ _ _ _ _ d e=>⟨fun s us hK hl=>by obtain⟨_,_,_,rfl⟩:=ZaY (show us.length=3 by simpa using hl);exact PySem.W.binds_K hK rfl d e rfl rfl,fun s us hK hl=>by obtain⟨_,_,rfl⟩:=Zeg (show us.length=2 by simpa using hl);exact PySem.W.binds_K hK rfl d e rfl rfl⟩) (gD X G0 a37 Zka rfl (gD X G0 a38 Zkb rfl (gD X G0 a39 Zkc rfl (gD X G0 a40 Zkd rfl (gH X G0 a41 (Zjk X G0 xa a33 a36 z53 xv xh xm xm1 x0 c1 x1 c2 x2 c3 x3 c4 x4 c5 x5 c6 x6) (fun _ _ _ _ _ _=>bd3 rfl fun _ _ _=>rfl) (gD X G0 a42 Zke rfl (gD X G0 a43 Zit rfl (gB X G0 z44 (gB X G0 z45 (gB X G0 z46 (gB X G0 z47 (gB X G0 z48 (gB X G0 z49 (gB X G0 z50 (gB X G0 z51 (gB X G0 z52 (gB X G0 z53 (gB X G0 z54 (gB X G0 z55 (gB X G0 z56 (gB X G0 z57 (gB X G0 z58 (trivial)))))))))))))))))))))))))))))))))))))))⟩)))))⟩⟩))))⟩)))))))),gL X G0 hfa a43 Zit rfl fun _ _ _ _ _ _ _=>rfl⟩
end
end Dp
open PySem PySem.W PyProof.Rows
set_option maxRecDepth 100000 in
set_option maxHeartbeats 0 in
theorem PySem.Challenge.cw_fakehunt_k56_trials_too_many_holds : PySem.Challenge.rw_fakehunt_k56_trials_too_many.Holds := by
 w_on;o_law;k_head;(case hw=>w_witness2)
 k_fill
 refine Dp.Zcj (l:=PySem.Challenge.rw_fakehunt_k56_trials_too_many) (G:=Dp.G) (T:=Dp.T) (n:=12) (i:=16) (x := "_law_script") rfl rfl ⟨rfl,by decide,by decide⟩ (fun w h Y=>PySem.W.kIn_of Y) Dp.UE ?F (fun ns hn=>Dp.ZaW hn)
 case F=>
  intro w mg fa h KX G0 hmg;refine' ⟨Dp.tab [(146,?C0),(169,?C1),(149,?C2),(157,?C3),(152,?C4),(160,?C5),(163,?C6)],Dp.ZfO (ct:=Dp.tab [(146,?C0),(169,?C1),(149,?C2),(157,?C3),(152,?C4),(160,?C5),(163,?C6)]) (Pm:=w.params) (C0:=?C0) (C1:=?C1) (C2:=?C2) (C3:=?C3) (C4:=?C4) (C5:=?C5) (C6:=?C6) KX G0 hmg ?z0 ?z1 ?z2 ?z3 ?z4 ?z5 ?z6 ⟨?_,?_,?_,?_,?_,?_,?_,?_,?_,?_,?_,?_⟩ ?_ ?_ ?_ ?_ ?_ ?_ ?_ (.mk ?_ ?_ ?_ ?_ ?_) (.mk ?_ ?_ ?_ ?_ ?_) ⟨?_,?_,?_,?_,?_,?_,?_,?_,?_,?_,?_,?_⟩ ?_ (.mk ?_ ?_ ?_ ?_ ?_) (.mk ?_ ?_ ?_ ?_ ?_) ⟨?_,?_,?_,?_,?_,?_,?_,?_,?_,?_,?_,?_⟩ ?_ (.mk ?_ ?_ ?_ ?_ ?_) (.mk ?_ ?_ ?_ ?_ ?_) ⟨?_,?_,?_,?_,?_,?_,?_,?_,?_,?_,?_,?_⟩ ?_ (.mk ?_ ?_ ?_ ?_ ?_) (.mk ?_ ?_ ?_ ?_ ?_) ⟨?_,?_,?_,?_,?_,?_,?_,?_,?_,?_,?_,?_⟩ ?_ (.mk ?_ ?_ ?_ ?_ ?_) (.mk ?_ ?_ ?_ ?_ ?_) ⟨?_,?_,?_,?_,?_,?_,?_,?_,?_,?_,?_,?_⟩ ?_ (.mk ?_ ?_ ?_ ?_ ?_) (.mk ?_ ?_ ?_ ?_ ?_) ⟨?_,?_,?_,?_,?_,?_,?_,?_,?_,?_,?_,?_⟩ ?_ (.mk ?_ ?_ ?_ ?_ ?_) (.mk ?_ ?_ ?_ ?_ ?_) ?_ ?_ ?_ ?_ ?_ ?_ ?_ ?_ ?_ ?_ ?_ ?_ ?_ ?_ ?_ ?_ ?_ ?_ ?_ ?_ ?_ ?_ (.mk ?_ ?_ ?_ ?_) (.mk ?_ ?_ ?_ ?_) ?_ ?_ ?_ ?_ ?_ ?_ ?_ ?_ ?_ ?_ ?_ ?_ (.mk ?_ ?_ ?_ ?_) (.mk ?_ ?_ ?_ ?_) (.mk ?_ ?_ ?_ ?_) (.mk ?_ ?_ ?_ ?_) (.mk ?_ ?_ ?_ ?_) ?_ ?_ ?_ ?_ ?_ ?_ ?_ (.mk ?_ ?_ ?_ ?_) (.mk ?_ ?_ ?_ ?_) (.mk ?_ ?_ ?_ ?_) (.mk ?_ ?_ ?_ ?_) (.mk ?_ ?_ ?_ ?_) (.mk ?_ ?_ ?_ ?_) (.mk ?_ ?_ ?_ ?_) (.mk ?_ ?_ ?_ ?_) (.mk ?_ ?_ ?_ ?_) (.mk ?_ ?_ ?_ ?_) (.mk ?_ ?_ ?_ ?_ ?_ ?_) (.mk ?_ ?_ ?_ ?_ ?_ ?_) ?_ (.mk ?_ ?_ ?_ ?_) (.mk ?_ ?_ ?_ ?_) (.mk ?_ ?_ ?_ ?_) (.mk ?_ ?_ ?_ ?_ ?_ ?_) (.mk ?_ ?_ ?_ ?_) (.mk ?_ ?_ ?_ ?_) (.mk ?_ ?_ ?_ ?_) (.mk ?_ ?_ ?_ ?_) (.mk ?_ ?_ ?_ ?_) (.mk ?_ ?_ ?_ ?_) (.mk ?_ ?_ ?_ ?_) ?_ ?_ ?_ ?_ ?_ ?_ ?_ ?_ ?_ ?_ ?_ ?_ ?_ ?_ ?_ (.mk ?_ ?_ ?_ ?_ ?_ ?_ ?_ ?_ ?_ ?_ ?_ ?_ ?_ ?_ ?_ ?_ ?_ ?_ ?_ ?_ ?_ ?_ ?_) ?_ ?_ ?_ ?_ ?_ ?_ ?_ ?_ ?_ ?_ ?_ ?_ ?_ ?_ ?_ ?_ ?_⟩
  all_goals (first|k_is|exact rfl|skip)
  all_goals (first|k_is|exact rfl|skip)

import PyProof.Rows.All
import Wide.All
import OpenK.AllK
import Wide.FinOn
import Lean
import PyProof.EqAt
import PyProof.EqKinds
import PyProof.TupleCall
import PySem.Challenge.RW_fakehunt_k11_shown
set_option Elab.async false
set_option linter.all false
set_option maxRecDepth 100000
set_option maxHeartbeats 4000000
set_option genSizeOf false
namespace L2
open PySem PySem.Spec PyProof.Rows

noncomputable abbrev Key := Sum Int Str
noncomputable def keyIs : Key → Value → Bool
  | .inl k, v => Value.isInt k v
  | .inr x, v => Value.isStrOf x v
noncomputable def keyH (w : World) : Key → Int
  | .inl k => hashInt k
  | .inr x => hashStr w x
theorem keyIs_shape : ∀ {k : Key} {v : Value}, keyIs k v = true → (∃ i t, k = Sum.inl i ∧ v = Value.int i t) ∨ (∃ x t, k = Sum.inr x ∧ v = Value.str x t)
  | .inl i, v, h => by
    obtain ⟨t, e⟩ := Value.isInt_shape (k := i) (v := v) h
    exact .inl ⟨i, t, rfl, e⟩
  | .inr x, v, h => by
    obtain ⟨t, e⟩ := Value.isStrOf_shape (x := x) (v := v) h
    exact .inr ⟨x, t, rfl, e⟩
theorem keyIs_int (i : Int) (t : Tok) : keyIs (.inl i) (.int i t) = true := by simp [keyIs, Value.isInt]
theorem keyIs_str (x : Str) (t : Tok) : keyIs (.inr x) (.str x t) = true := by simp [keyIs, Value.isStrOf]
theorem key_ll (a b : Int) : decide ((Sum.inl a : Key) = Sum.inl b) = (a == b) := by
  by_cases e : a = b
  · subst e; simp
  · have h : ¬ (Sum.inl a : Key) = Sum.inl b := fun q => e (Sum.inl.inj q)
    rw [decide_eq_false h]
    exact (beq_eq_false_iff_ne.mpr e).symm
theorem key_rr (a b : Str) : decide ((Sum.inr a : Key) = Sum.inr b) = decide (a = b) := by
  by_cases e : a = b
  · subst e; simp
  · have h : ¬ (Sum.inr a : Key) = Sum.inr b := fun q => e (Sum.inr.inj q)
    rw [decide_eq_false h, decide_eq_false e]
theorem key_lr (a : Int) (b : Str) : decide ((Sum.inl a : Key) = Sum.inr b) = false := decide_eq_false (fun q => nomatch q)
theorem key_rl (a : Str) (b : Int) : decide ((Sum.inr a : Key) = Sum.inl b) = false := decide_eq_false (fun q => nomatch q)

noncomputable def mixKind (prog : Program) (w : World) : PySem.KeyKind prog w Key where
  is := keyIs
  hash := keyH w
  inj := fun v a b ha hb => by
    rcases keyIs_shape ha with ⟨i, t, rfl, rfl⟩ | ⟨x, t, rfl, rfl⟩
    · rcases keyIs_shape hb with ⟨j, u, rfl, e⟩ | ⟨y, u, rfl, e⟩
      · injection e with e1 _; rw [e1]
      · exact nomatch e
    · rcases keyIs_shape hb with ⟨j, u, rfl, e⟩ | ⟨y, u, rfl, e⟩
      · exact nomatch e
      · injection e with e1 _; rw [e1]
  byValue := fun k v h => by
    rcases keyIs_shape h with ⟨i, t, rfl, rfl⟩ | ⟨x, t, rfl, rfl⟩ <;> rfl
  pyHash := fun hv h => by
    rcases keyIs_shape hv with ⟨i, t, rfl, rfl⟩ | ⟨x, t, rfl, rfl⟩
    · exact wpAny_pyHash_int h
    · exact wpAny_pyHash_str h
  eqBool := fun hu hv h => by
    rcases keyIs_shape hu with ⟨i, t, rfl, rfl⟩ | ⟨x, t, rfl, rfl⟩
    · rcases keyIs_shape hv with ⟨j, u, rfl, rfl⟩ | ⟨y, u, rfl, rfl⟩
      · rw [key_ll] at h; exact wpAny_eqBool_int h
      · rw [key_lr] at h; exact SeqAt.EqAt.int_str i t y u _ _ _ _ h
    · rcases keyIs_shape hv with ⟨j, u, rfl, rfl⟩ | ⟨y, u, rfl, rfl⟩
      · rw [key_rl] at h; exact SeqAt.EqAt.str_int x t j u _ _ _ _ h
      · rw [key_rr] at h; exact wpAny_eqBool_str h
  «strs» := fun k x t v h => by
    rcases keyIs_shape h with ⟨i, u, rfl, e⟩ | ⟨y, u, rfl, e⟩
    · exact nomatch e
    · injection e with e1 _
      subst e1
      cases v <;> rfl

theorem mixKind_int (prog : Program) (w : World) (i : Int) (t : Tok) : (mixKind prog w).is (.inl i) (.int i t) = true := keyIs_int i t
theorem mixKind_str (prog : Program) (w : World) (x : Str) (t : Tok) : (mixKind prog w).is (.inr x) (.str x t) = true := keyIs_str x t
end L2

namespace L2
open PySem PySem.Spec PyProof.Rows

inductive V where
  | non | bl (b : Bool) | int (i : Int) | str (x : Str) | byt (b : Array UInt8) | flt (b : UInt64) | ref (a : Addr) | ty (n : String)
  deriving DecidableEq

def RelV : V → Value → Prop
  | .non, u => u = Value.none
  | .bl b, u => u = Value.bool b
  | .int i, u => ∃ t, u = Value.int i t
  | .str x, u => ∃ t, u = Value.str x t
  | .byt b, u => ∃ t, u = Value.bytes b t
  | .flt b, u => ∃ t, u = Value.float b t
  | .ref a, u => u = Value.ref a
  | .ty n, u => u = Value.type n

abbrev Vals : List V → List Value → Prop := Paired RelV
theorem Vals.length {xs : List V} {us : List Value} (r : Vals xs us) : xs.length = us.length := Paired.length r
theorem Vals.get : ∀ {xs : List V} {us : List Value} {i : Nat} {x : V}, Vals xs us → xs[i]? = some x → ∃ u, us[i]? = some u ∧ RelV x u
  | _, _, _, _, .nil, e => by simp at e
  | _, _, 0, _, .cons r _, e => by simp at e; subst e; exact ⟨_, rfl, r⟩
  | _, _, i + 1, x, .cons _ t, e => by
    obtain ⟨u, h1, h2⟩ := Vals.get (i := i) (x := x) t (by simpa using e)
    exact ⟨u, by simpa using h1, h2⟩
theorem Vals.set {x : V} {u : Value} (r : RelV x u) : ∀ {xs : List V} {us : List Value} (i : Nat), Vals xs us → Vals (xs.set i x) (us.set i u)
  | _, _, _, .nil => .nil
  | _, _, 0, .cons _ t => .cons r t
  | _, _, i + 1, .cons q t => .cons q (Vals.set r i t)
theorem Vals.append : ∀ {xs ys : List V} {us ws : List Value}, Vals xs us → Vals ys ws → Vals (xs ++ ys) (us ++ ws)
  | _, _, _, _, .nil, s => s
  | _, _, _, _, .cons r t, s => .cons r (Vals.append t s)
theorem Vals.take : ∀ {xs : List V} {us : List Value} (n : Nat), Vals xs us → Vals (xs.take n) (us.take n)
  | _, _, 0, _ => .nil
  | _, _, _ + 1, .nil => .nil
  | _, _, n + 1, .cons r t => .cons r (Vals.take n t)
theorem Vals.drop : ∀ {xs : List V} {us : List Value} (n : Nat), Vals xs us → Vals (xs.drop n) (us.drop n)
  | _, _, 0, r => r
  | _, _, _ + 1, .nil => .nil
  | _, _, n + 1, .cons _ t => Vals.drop n t

def RelO : Option V → Option Value → Prop
  | some v, some u => RelV v u
  | none, none => True
  | _, _ => False
def KV {κ : Type} : List (κ × V) → List (κ × Value) → Prop := Paired fun (p : κ × V) (q : κ × Value) => p.1 = q.1 ∧ RelV p.2 q.2

noncomputable def kV : Key → V
  | .inl i => .int i
  | .inr x => .str x

inductive HO where
    | lst (xs : List V)
    | tup (xs : List V)
    | dK (kvs : List (Key × V)) | dT (kvs : List (List Key × V))
    | set (S : Int → Bool) (n : Nat)
    | ins (C dx : Addr) (fs : List (Str × V))
    | own (x : Addr)
    | xd (fs : List (Str × V))
    | met (f x : Addr)
    | rng (lo hi : Int)
    | frz (o : Obj) (u : HO)
    | tbl (ps : Array Value)
    | ext (φ : Heap → Prop)

noncomputable abbrev Hp := Addr → Option HO
noncomputable def upd (H : Hp) (a : Addr) (o : HO) : Hp := fun b => if b = a then some o else H b
theorem upd_same {H : Hp} {a : Addr} {o : HO} : upd H a o a = some o := by unfold upd; rw [if_pos rfl]
theorem upd_ne {H : Hp} {a b : Addr} {o : HO} (h : b ≠ a) : upd H a o b = H b := by unfold upd; rw [if_neg h]
theorem ne_of {H : Hp} {a b : Addr} {o u : HO} (h : H a = some o) (h' : H b = some u) (d : o ≠ u) : a ≠ b := by
  intro e; subst e; rw [h] at h'; exact d (Option.some.inj h')
theorem ne_of_none {H : Hp} {a b : Addr} {o : HO} (h : H a = some o) (h' : H b = none) : a ≠ b := by
  intro e; subst e; rw [h] at h'; cases h'

section
variable (P : Program) (w : World)
def ObjOk (H : Hp) (h : Heap) (a : Addr) : HO → Prop
  | .lst xs => xs.length ≤ sizeLine ∧ ∃ (its : List Value) (n : Nat), Vals xs its ∧ h.get? a = some { cls := .type "list", data := .seq its.toArray n }
  | .tup xs => xs.length ≤ sizeLine ∧ ∃ its : List Value, Vals xs its ∧ IsTup h a its.toArray
  | .dK kvs => kvs.length ≤ sizeLine ∧ (a == sysModules) = false ∧ ∃ vs, KV kvs vs ∧ h.DictOf (mixKind P w) a vs
  | .dT kvs => kvs.length ≤ sizeLine ∧ (a == sysModules) = false ∧ ∃ xs : List (List Key × Addr × Value),
      Paired (fun (p : List Key × V) (q : List Key × Addr × Value) => p.1 = q.1 ∧ H q.2.1 = some (.tup (p.1.map kV)) ∧ RelV p.2 q.2.2) kvs xs ∧
      ∃ o es ep, h.get? a = some o ∧ o.ExactDict ∧ o.data = .dict es ep ∧ es.toList = xs.map (entryOfKey (tupleKind (mixKind P w))) ∧ (xs.map (·.1)).Nodup
  | .set S n => h.SetOf (intKind P w) a S n
  | .ins C dx fs => H dx = some (.own a) ∧ fs.length ≤ 1000 ∧ dx ≠ a ∧ h.get? a = some (PySem.W.instObj C dx) ∧
      ∃ mA, h.Ns1 dx mA ∧ (∀ f, RelO (fs.lookup f) (mA f)) ∧ PySem.Within mA (fs.map (·.1))
  | .own _ => ∃ o, h.get? a = some o
  | .xd fs => ∃ mA, h.Ns1 a mA ∧ ∀ f, RelO (fs.lookup f) (mA f)
  | .rng lo hi => ∃ t u v, h.get? a = some { cls := .type "range", data := .fields #[.int lo t, .int hi u, .int 1 v] }
  | .frz o u => h.get? a = some o ∧ ObjOk H h a u
  | .tbl ps => h.get? a = some { cls := .none, data := .fields ps }
  | .met f x => h.get? a = some (PySem.W.methodObj (.ref f) (.ref x))
  | .ext φ => φ h ∧ (∃ o, h.get? a = some o) ∧ ∀ h1 h2 : Heap, φ h1 → (∀ o, h1.get? a = some o → h2.get? a = some o) → φ h2
def HOk (H : Hp) (h : Heap) : Prop := ∀ a o, H a = some o → ObjOk P w H h a o
end

section
variable {P : Program} {w : World} {H H' : Hp} {h h' : Heap} {a : Addr} {o : HO}
theorem ObjOk.lt (x : ObjOk P w H h a o) : a < h.objs.size := by
  cases o with
  | lst xs => obtain ⟨_, _, _, _, e⟩ := x; exact Heap.lt_size e
  | tup xs => obtain ⟨_, _, _, p⟩ := x; exact p.lt
  | dK kvs => obtain ⟨_, _, _, _, o, _, _, e, _⟩ := x; exact Heap.lt_size e
  | dT kvs => obtain ⟨_, _, _, _, o, _, _, e, _⟩ := x; exact Heap.lt_size e
  | set S n => obtain ⟨o, _, _, _, e, _⟩ := x; exact Heap.lt_size e
  | ins C dx fs => obtain ⟨_, _, _, e, _⟩ := x; exact Heap.lt_size e
  | own y => obtain ⟨_, e⟩ := x; exact Heap.lt_size e
  | xd fs => obtain ⟨_, ⟨_, _, _, e, _⟩, _⟩ := x; exact Heap.lt_size e
  | rng lo hi => obtain ⟨_, _, _, e⟩ := x; exact Heap.lt_size e
  | frz ob u => obtain ⟨e, _⟩ := x; exact Heap.lt_size e
  | tbl ps => exact Heap.lt_size (show h.get? a = some _ from x)
  | met f y => exact Heap.lt_size (show h.get? a = some _ from x)
  | ext φ => obtain ⟨_, ⟨_, e⟩, _⟩ := x; exact Heap.lt_size e
theorem Paired.mapP {α β : Type} {F G : α → β → Prop} : ∀ {l₁ : List α} {l₂ : List β}, Paired F l₁ l₂ → (∀ a b, F a b → G a b) → Paired G l₁ l₂
  | _, _, .nil, _ => .nil
  | _, _, .cons r t, f => .cons (f _ _ r) (Paired.mapP t f)
theorem ObjOk.stay (x : ObjOk P w H h a o) (k : ∀ b u, (b = a ∨ H b = some (.own a)) → h.get? b = some u → h'.get? b = some u)
    (ho : ∀ b, H b = some (.own a) → H' b = some (.own a)) (ht : ∀ b xs, H b = some (.tup xs) → H' b = some (.tup xs)) : ObjOk P w H' h' a o := by
  induction o with
  | lst xs => obtain ⟨z, its, n, r, e⟩ := x; exact ⟨z, its, n, r, k _ _ (.inl rfl) e⟩
  | tup xs => obtain ⟨z, its, r, ob, e, c⟩ := x; exact ⟨z, its, r, ob, k _ _ (.inl rfl) e, c⟩
  | dK kvs => obtain ⟨z, y, vs, r, ob, es, ep, e, c⟩ := x; exact ⟨z, y, vs, r, ob, es, ep, k _ _ (.inl rfl) e, c⟩
  | dT kvs =>
    obtain ⟨z, y, xs, r, ob, es, ep, e, c⟩ := x
    exact ⟨z, y, xs, Paired.mapP r fun p q z => ⟨z.1, ht _ _ z.2.1, z.2.2⟩, ob, es, ep, k _ _ (.inl rfl) e, c⟩
  | set S n => obtain ⟨ob, es, ep, t, e, c⟩ := x; exact ⟨ob, es, ep, t, k _ _ (.inl rfl) e, c⟩
  | ins C dx fs =>
    obtain ⟨d, z, ne, e, mA, ⟨od, es, ep, e2, c⟩, r⟩ := x
    exact ⟨ho _ d, z, ne, k _ _ (.inl rfl) e, mA, ⟨od, es, ep, k _ _ (.inr d) e2, c⟩, r⟩
  | own y => obtain ⟨ob, e⟩ := x; exact ⟨ob, k _ _ (.inl rfl) e⟩
  | xd fs => obtain ⟨mA, ⟨od, es, ep, e, c⟩, r⟩ := x; exact ⟨mA, ⟨od, es, ep, k _ _ (.inl rfl) e, c⟩, r⟩
  | rng lo hi => obtain ⟨t, u, v, e⟩ := x; exact ⟨t, u, v, k _ _ (.inl rfl) e⟩
  | frz ob u ih => obtain ⟨e, q⟩ := x; exact ⟨k _ _ (.inl rfl) e, ih q⟩
  | tbl ps =>
    have e : h.get? a = some { cls := .none, data := .fields ps } := x
    show h'.get? a = some { cls := .none, data := .fields ps }
    exact k a _ (.inl rfl) e
  | met f y =>
    have e : h.get? a = some (PySem.W.methodObj (.ref f) (.ref y)) := x
    show h'.get? a = some (PySem.W.methodObj (.ref f) (.ref y))
    exact k a _ (.inl rfl) e
  | ext φ => obtain ⟨p, ⟨o, e⟩, st⟩ := x; exact ⟨st _ _ p fun o q => k _ _ (.inl rfl) q, ⟨o, k _ _ (.inl rfl) e⟩, st⟩
theorem HOk.lt (x : HOk P w H h) (e : H a = some o) : a < h.objs.size := (x a o e).lt
theorem HOk.fresh (x : HOk P w H h) (e : h.objs.size ≤ a) : H a = none := by
  cases q : H a with
  | none => rfl
  | some u => exact absurd (Nat.lt_of_lt_of_le (x.lt q) e) (Nat.lt_irrefl _)
theorem HOk.kept (x : HOk P w H h) (k : ∀ b u, h.get? b = some u → h'.get? b = some u) : HOk P w H h' := fun a o e =>
  (x a o e).stay (fun b u _ q => k b u q) (fun _ q => q) fun _ _ q => q
theorem HOk.laid (x : HOk P w H h) (k : ∀ b u, h.get? b = some u → h'.get? b = some u) (hp : h.objs.size ≤ a) (new : ObjOk P w (upd H a o) h' a o) : HOk P w (upd H a o) h' := fun b u e => by
  have hn := x.fresh hp
  by_cases hb : b = a
  · subst hb; rw [upd_same] at e; cases e; exact new
  · rw [upd_ne hb] at e
    exact (x b u e).stay (fun c v _ q => k c v q) (fun c q => by rw [upd_ne (ne_of_none q hn)]; exact q) fun c xs q => by rw [upd_ne (ne_of_none q hn)]; exact q
end

def Rd (H : Hp) (a : Addr) (u : HO) : Prop := H a = some u ∨ ∃ o, H a = some (.frz o u)
theorem Rd.ok {P : Program} {w : World} {H : Hp} {h : Heap} {a : Addr} {u : HO} (r : Rd H a u) (x : HOk P w H h) : ObjOk P w H h a u := by
  rcases r with r | ⟨o, r⟩
  · exact x a u r
  · obtain ⟨_, q⟩ := x a _ r
    exact q
def Mut : Option HO → Prop
  | some (.lst _) => True
  | some (.dK _) => True
  | some (.dT _) => True
  | some (.set _ _) => True
  | some (.ins _ _ _) => True
  | some (.ext _) => True
  | _ => False
section
variable {P : Program} {w : World} {H : Hp} {h h' : Heap} {x e : Addr} {o' : HO}
theorem HOk.write (ok : HOk P w H h) (mu : Mut (H x)) (he : e = x ∨ H e = some (.own x)) (k : ∀ b u, b ≠ e → h.get? b = some u → h'.get? b = some u) (heo : ∃ u, h'.get? e = some u)
    (new : ObjOk P w (upd H x o') h' x o') : HOk P w (upd H x o') h' := fun b u q => by
  have nown : ∀ c y, H c = some (.own y) → c ≠ x := fun c y r z => by subst z; rw [r] at mu; exact mu
  have ntup : ∀ c xs, H c = some (.tup xs) → c ≠ x := fun c xs r z => by subst z; rw [r] at mu; exact mu
  by_cases hb : b = x
  · subst hb; rw [upd_same] at q; cases q; exact new
  · rw [upd_ne hb] at q
    by_cases hbe : b = e
    · have q' : H b = some (.own x) := by
        rcases he with z | z
        · exact absurd (hbe.trans z) hb
        · rw [hbe]; exact z
      rw [q] at q'; cases q'
      obtain ⟨v, hv⟩ := heo
      exact ⟨v, by rw [hbe]; exact hv⟩
    · refine (ok b u q).stay (fun c v hc r => k c v ?_ r) (fun c r => by rw [upd_ne (nown c b r)]; exact r) fun c xs r => by rw [upd_ne (ntup c xs r)]; exact r
      rcases hc with rfl | hc
      · exact hbe
      · rintro rfl
        rcases he with z | z
        · exact nown c b hc z
        · rw [hc] at z; cases z; exact hb rfl
end

structure Un (fs ex : List Addr) (H H' : Hp) (h h' : Heap) : Prop where
  keep : ∀ b o, h.get? b = some o → H b = none → b ∉ fs → b ∉ ex → h'.get? b = some o
  slot : ∀ b o, h.get? b = some o → H b = none → b ∈ fs → b ∉ ex → ∃ sl, h'.get? b = some { o with slots := sl }
  free : ∀ b o, h.get? b = some o → H b = none → b ∉ ex → H' b = none
  there : ∀ b o, h.get? b = some o → b ∉ ex → ∃ o', h'.get? b = some o'
  tups : ∀ b xs, H b = some (.tup xs) → H' b = some (.tup xs)
  frzs : ∀ b o u, H b = some (.frz o u) → H' b = some (.frz o u)
  tbls : ∀ b ps, H b = some (.tbl ps) → ∃ more, H' b = some (.tbl (ps ++ more))
section
variable {fs fs' ex ex' : List Addr} {H H1 H2 : Hp} {h h1 h2 h' : Heap} {a x e : Addr} {o : HO}
theorem Un.any (u : Un fs ex H H1 h h1) {b : Addr} {ob : Obj} (q : h.get? b = some ob) (n : H b = none) (hx : b ∉ ex) : ∃ sl, h1.get? b = some { ob with slots := sl } := by
  by_cases hb : b ∈ fs
  · exact u.slot b ob q n hb hx
  · exact ⟨ob.slots, u.keep b ob q n hb hx⟩
theorem Un.kept (k : ∀ b u, h.get? b = some u → h'.get? b = some u) : Un fs ex H H h h' :=
  ⟨fun b ob q _ _ _ => k b ob q, fun b ob q _ _ _ => ⟨ob.slots, k b ob q⟩, fun _ _ _ n _ => n, fun b ob q _ => ⟨ob, k b ob q⟩, fun _ _ q => q, fun _ _ _ q => q, fun _ ps q => ⟨#[], by rw [q]; simp⟩⟩
theorem Un.refl : Un fs ex H H h h := Un.kept fun _ _ q => q
theorem Un.laid (k : ∀ b u, h.get? b = some u → h'.get? b = some u) (hp : h.objs.size ≤ a) (hn : H a = none) : Un fs ex H (upd H a o) h h' where
  keep := fun b u q _ _ _ => k b u q
  slot := fun b u q _ _ _ => ⟨u.slots, k b u q⟩
  free := fun b u q n _ => by rw [upd_ne (Nat.ne_of_lt (Nat.lt_of_lt_of_le (Heap.lt_size q) hp))]; exact n
  there := fun b u q _ => ⟨u, k b u q⟩
  tups := fun b xs q => by rw [upd_ne (ne_of_none q hn)]; exact q
  frzs := fun b u xs q => by rw [upd_ne (ne_of_none q hn)]; exact q
  tbls := fun b ps q => ⟨#[], by rw [upd_ne (ne_of_none q hn), q]; simp⟩
theorem Un.write (mu : Mut (H x)) (he : e = x ∨ H e = some (.own x)) (k : ∀ b u, b ≠ e → h.get? b = some u → h'.get? b = some u) (heo : ∃ u, h'.get? e = some u) : Un fs ex H (upd H x o) h h' := by
  have hx : ∀ b, H b = none → b ≠ x := fun b n z => by subst z; rw [n] at mu; exact mu
  have hb : ∀ b, H b = none → b ≠ e := fun b n z => by
    subst z
    rcases he with r | r
    · exact hx b n r
    · rw [n] at r; cases r
  have hm : ∀ b u, H b = some u → ¬ Mut (some u) → b ≠ x := fun b u q nm z => by subst z; rw [q] at mu; exact nm mu
  refine ⟨fun b u q n _ _ => k b u (hb b n) q, fun b u q n _ _ => ⟨u.slots, k b u (hb b n) q⟩, fun b u q n _ => by rw [upd_ne (hx b n)]; exact n, fun b u q _ => ?_,
    fun b xs q => by rw [upd_ne (hm b _ q fun z => z)]; exact q, fun b u xs q => by rw [upd_ne (hm b _ q fun z => z)]; exact q, fun b ps q => ⟨#[], by rw [upd_ne (hm b _ q fun z => z), q]; simp⟩⟩
  by_cases hbe : b = e
  · subst hbe; exact heo
  · exact ⟨u, k b u hbe q⟩
end

noncomputable def trk (h : Heap) (H : Hp) : List Addr := (List.range h.objs.size).filter fun a => (H a).isSome
noncomputable def hidT (h : Heap) (H : Hp) : Heap := PySem.W.hideAll h (trk h H)
theorem hidT_size (h : Heap) (H : Hp) : (hidT h H).objs.size = h.objs.size := PySem.W.hideAll_size _ _
theorem hidT_get {h : Heap} {H : Hp} {b : Addr} {o : Obj} (e : h.get? b = some o) (n : H b = none) : (hidT h H).get? b = some o :=
  PySem.W.hideAll_get _ e fun hm => by
    have q : (H b).isSome = true := (List.mem_filter.mp hm).2
    rw [n] at q; simp at q
theorem of_hidT {h : Heap} {H : Hp} {b : Addr} {o : Obj} (e : (hidT h H).get? b = some o) : h.get? b = some o ∧ H b = none := by
  have e' : h.get? b = some o := PySem.W.of_hideAll (trk h H) e
  refine ⟨e', ?_⟩
  cases q : H b with
  | none => rfl
  | some x =>
    have hm : b ∈ trk h H := List.mem_filter.mpr ⟨List.mem_range.mpr (Heap.lt_size e'), by simp [q]⟩
    have z : (hidT h H).get? b = none := PySem.W.hideAll_none (trk h H) hm
    rw [z] at e; cases e

end L2

namespace L2
open PySem PySem.Spec PyProof.Rows

structure Mod (K : PySem.W.Frag) (mg : Str → Option Value) (base : Heap) : Prop where
  kin : K.In base
  glob : base.Ns mainGlobals mg
  blt : ∃ mb, base.Ns builtinsNs mb ∧ ∀ x : Str, x ≠ "__name__" → mb x = bootBuiltins x
  nolimit : base.NoLimit

structure Cx where
  prog : Program
  w : World
  K : PySem.W.Frag
  mg : Str → Option Value
  base : Heap
  A : Around
  N : List Str
  s₀ : Shared
  H₀ : Hp
  env : Env
  outer : List Env
  stack : List Env
  ex : List Addr
  fn : Str → Bool
  calm : Bool
  pn : List (Addr × Obj)
  xe : Value → Shared → Prop
noncomputable def frs (l : List Env) : List Addr := l.filterMap (·.frame)
noncomputable abbrev Cx.fs (X : Cx) : List Addr := frs X.outer

def Vis (sc : Scope) (x : Str) : Prop := sc.names.lookup x = some .local ∨ sc.names.lookup x = some .cell ∨ sc.names.lookup x = some .free
def Loc (sc : Scope) (x : Str) : Prop := sc.names.lookup x = some .local ∨ sc.names.lookup x = some .cell
def Look (env : Env) (h : Heap) (m : Str → Option Value) (x : Str) (u : Value) : Prop :=
  (env.kindOf x = some .local ∧ m x = some u) ∨ ((env.kindOf x = some .cell ∨ env.kindOf x = some .free) ∧ ∃ c, env.cells.lookup x = some c ∧ h.IsCell c (some u))

structure Cx.Ok (X : Cx) : Prop where
  mod : Mod X.K X.mg X.base
  kind : X.env.scope.kind = .function
  glob : X.env.globals = mainGlobals
  blt : X.env.builtins = builtinsNs
  above : X.s₀.heap.objs.size ≤ X.env.locals
  inj : ∀ x y c, X.env.cells.lookup x = some c → X.env.cells.lookup y = some c → x = y
  has : ∀ x, (X.env.kindOf x = some .cell ∨ X.env.kindOf x = some .free) → ∃ c, X.env.cells.lookup x = some c
  cab : ∀ x c, X.fn x = true → X.env.cells.lookup x = some c → X.s₀.heap.objs.size ≤ c
  hd : X.calm = true → X.A.handled = none
  frames : X.A.frames = some X.stack
  stk : X.stack = X.outer ∨ (X.stack = X.env :: X.outer ∧ X.env.frame = some X.env.locals)
  exf : ∀ b ∈ X.ex, b ≠ X.env.locals ∧ ∀ x c, X.env.cells.lookup x = some c → c ≠ b
  bs : ∀ b o, X.base.get? b = some o → X.s₀.heap.get? b = some o ∧ X.H₀ b = none
  bsz : X.base.objs.size ≤ X.s₀.heap.objs.size
  noex : ∀ b o, X.base.get? b = some o → b ∉ X.ex
  exfs : ∀ b ∈ X.ex, b ∉ X.fs
  funs : X.s₀.heap.FunFrames X.base X.outer
  frf : ∀ b ∈ X.fs, X.H₀ b = none

structure Inv (X : Cx) (pins : List (Addr × Obj)) (σ : List (Option V)) (H : Hp) (s : Shared) : Prop where
  ok : X.Ok
  os : s.os = X.s₀.os
  bare : AllBare s.gens
  base : Un X.fs X.ex X.H₀ H X.s₀.heap s.heap
  loc : ∃ m, s.heap.Ns X.env.locals m ∧ ∀ (i : Nat) (x : Str) (v : V), X.N[i]? = some x → σ[i]? = some (some v) → Vis X.env.scope x → ∃ u, RelV v u ∧ Look X.env s.heap m x u
  cell : ∀ x c, X.env.cells.lookup x = some c → ∃ v, s.heap.IsCell c v
  free : H X.env.locals = none
  freeC : ∀ x c, X.env.cells.lookup x = some c → H c = none
  pin : ∀ p ∈ X.pn ++ pins, s.heap.get? p.1 = some p.2 ∧ H p.1 = none ∧ p.1 ≠ X.env.locals ∧ p.1 ∉ X.fs ∧ ∀ v, p.2.data ≠ .cell v
  hok : HOk X.prog X.w H s.heap
  len : σ.length = X.N.length

section
variable {X : Cx} {pins : List (Addr × Obj)} {σ : List (Option V)} {H H' : Hp} {s : Shared} {h' : Heap}

theorem Cx.Ok.nofr (ok : X.Ok) {b : Addr} {o : Obj} (e : X.base.get? b = some o) : b ∉ X.fs := fun hb => by
  have := (ok.funs.mem hb).1
  rw [e] at this; cases this
theorem Inv.bs (I : Inv X pins σ H s) : ∀ b o, X.base.get? b = some o → s.heap.get? b = some o ∧ H b = none := fun b o e =>
  ⟨I.base.keep b o (I.ok.bs b o e).1 (I.ok.bs b o e).2 (I.ok.nofr e) (I.ok.noex b o e), I.base.free b o (I.ok.bs b o e).1 (I.ok.bs b o e).2 (I.ok.noex b o e)⟩
theorem Inv.bk (I : Inv X pins σ H s) : ∀ b o, X.base.get? b = some o → s.heap.get? b = some o := fun b o e => (I.bs b o e).1
theorem Inv.mod (I : Inv X pins σ H s) : Mod X.K X.mg X.base := I.ok.mod
theorem Inv.kIn (I : Inv X pins σ H s) : X.K.In s.heap := I.ok.mod.kin.keeps I.bk
theorem Inv.lt (I : Inv X pins σ H s) : X.env.locals < s.heap.objs.size := let ⟨_, hn, _⟩ := I.loc; hn.lt
theorem Inv.sz (I : Inv X pins σ H s) : X.s₀.heap.objs.size ≤ s.heap.objs.size := Nat.le_trans I.ok.above (Nat.le_of_lt I.lt)
theorem Inv.nofs (I : Inv X pins σ H s) {a : Addr} (h : s.heap.objs.size ≤ a) : a ∉ X.fs := fun hb => by
  obtain ⟨_, o, ho, _⟩ := I.ok.funs.mem hb
  exact absurd (Nat.lt_of_lt_of_le (Heap.lt_size ho) (Nat.le_trans I.sz h)) (Nat.lt_irrefl _)
theorem Inv.cne (I : Inv X pins σ H s) : ∀ x c, X.env.cells.lookup x = some c → c ≠ X.env.locals := fun x c e z => by
  obtain ⟨v, o, ho, hd⟩ := I.cell x c e
  obtain ⟨m, ⟨o', es, ep, ho', hd', _⟩, _⟩ := I.loc
  rw [z, ho'] at ho; cases ho; rw [hd'] at hd; cases hd
theorem Inv.funs (I : Inv X pins σ H s) : s.heap.FunFrames X.base X.outer := by
  have all : ∀ (l : List Env), (∀ b ∈ frs l, b ∈ X.fs) → X.s₀.heap.FunFrames X.base l → s.heap.FunFrames X.base l := by
    intro l
    induction l with
    | nil => intro _ _; trivial
    | cons env r ih =>
      intro hs hl
      obtain ⟨hk, ⟨L, o, hf, hn, ho, hd⟩, hr⟩ := hl
      have hL : L ∈ X.fs := hs L (by unfold frs; rw [List.filterMap_cons, hf]; exact List.mem_cons_self)
      obtain ⟨sl, e⟩ := I.base.slot L o ho (I.ok.frf L hL) hL fun z => I.ok.exfs L z hL
      exact ⟨hk, ⟨L, _, hf, hn, e, hd⟩, ih (fun b hb => hs b (by unfold frs; rw [List.filterMap_cons, hf]; exact List.mem_cons_of_mem _ hb)) hr⟩
  exact all X.outer (fun _ hb => hb) I.ok.funs

theorem Inv.stack (I : Inv X pins σ H s) : s.heap.FunFrames X.base X.stack := by
  rcases I.ok.stk with e | ⟨e, hf⟩
  · rw [e]; exact I.funs
  · rw [e]
    obtain ⟨m, hn, _⟩ := I.loc
    refine .cons (by rw [I.ok.kind]; decide) hf hn ?_ I.funs
    exact Heap.get?_none_of_le (Nat.le_trans I.ok.bsz I.ok.above)
theorem Inv.stkSub (I : Inv X pins σ H s) : ∀ b ∈ frs X.stack, b ∈ X.env.locals :: X.fs := fun b hb => by
  rcases I.ok.stk with e | ⟨e, hf⟩
  · rw [e] at hb; exact List.mem_cons_of_mem _ hb
  · rw [e] at hb
    unfold frs at hb
    rw [List.filterMap_cons, hf] at hb
    exact hb
theorem Inv.stkFree (I : Inv X pins σ H s) : ∀ b ∈ frs X.stack, H b = none := fun b hb => by
  rcases List.mem_cons.mp (I.stkSub b hb) with e | hb
  · rw [e]; exact I.free
  · obtain ⟨_, o, ho, _⟩ := I.ok.funs.mem hb
    exact I.base.free b o ho (I.ok.frf b hb) fun z => I.ok.exfs b z hb

theorem Inv.step {g' : Array GenState} {t' : Nat} {d' : Drawn} {ch : List Addr} (I : Inv X pins σ H s)
    (hch : ∀ b ∈ ch, (b ∈ X.ex ∨ X.s₀.heap.objs.size ≤ b) ∧ b ≠ X.env.locals ∧ (∀ x c, X.env.cells.lookup x = some c → c ≠ b) ∧ ∀ p ∈ X.pn ++ pins, p.1 ≠ b)
    (keep : ∀ b o, b ≠ X.env.locals → b ∉ X.fs → b ∉ ch → s.heap.get? b = some o → H b = none → h'.get? b = some o)
    (slot : ∀ b o, b ≠ X.env.locals → b ∈ X.fs → b ∉ ch → s.heap.get? b = some o → H b = none → ∃ sl, h'.get? b = some { o with slots := sl }) (free : ∀ b o, b ∉ ch → s.heap.get? b = some o → H b = none → H' b = none)
    (there : ∀ b o, b ∉ ch → s.heap.get? b = some o → ∃ o', h'.get? b = some o')
    (tups : ∀ b xs, H b = some (.tup xs) → H' b = some (.tup xs)) (frzs : ∀ b o u, H b = some (.frz o u) → H' b = some (.frz o u)) (tbls : ∀ b ps, H b = some (.tbl ps) → ∃ more, H' b = some (.tbl (ps ++ more)))
    (ns : ∀ m, s.heap.Ns X.env.locals m → h'.Ns X.env.locals m) (hok : HOk X.prog X.w H' h') (hg : AllBare g') :
    Inv X pins σ H' { s with heap := h', gens := g', drawn := d', toks := t' } := by
  have neL : ∀ b o, X.s₀.heap.get? b = some o → b ≠ X.env.locals := fun b o e => Nat.ne_of_lt (Nat.lt_of_lt_of_le (Heap.lt_size e) I.ok.above)
  have neC : ∀ b o, X.s₀.heap.get? b = some o → b ∉ X.ex → b ∉ ch := fun b o e hx hb => by
    rcases (hch b hb).1 with z | z
    · exact hx z
    · exact absurd (Nat.lt_of_lt_of_le (Heap.lt_size e) z) (Nat.lt_irrefl _)
  have cellK : ∀ x c, X.env.cells.lookup x = some c → ∀ v, s.heap.IsCell c v → h'.IsCell c v := fun x c e v ⟨o, ho, hd⟩ => by
    have nch : c ∉ ch := fun z => (hch c z).2.2.1 x c e rfl
    by_cases hc : c ∈ X.fs
    · obtain ⟨sl, q⟩ := slot c o (I.cne x c e) hc nch ho (I.freeC x c e)
      exact ⟨_, q, hd⟩
    · exact ⟨o, keep c o (I.cne x c e) hc nch ho (I.freeC x c e), hd⟩
  refine ⟨I.ok, I.os, hg, ⟨fun b o e n hb hx => ?_, fun b o e n hb hx => ?_, fun b o e n hx => ?_, fun b o e hx => ?_, fun b xs e => tups b xs (I.base.tups b xs e), fun b o xs e => frzs b o xs (I.base.frzs b o xs e), fun b ps e => ?_⟩, ?_, fun x c e => ?_, ?_, fun x c e => ?_, fun p hp => ?_, hok, I.len⟩
  · exact keep b o (neL b o e) hb (neC b o e hx) (I.base.keep b o e n hb hx) (I.base.free b o e n hx)
  · obtain ⟨sl, e1⟩ := I.base.slot b o e n hb hx
    obtain ⟨sl', e2⟩ := slot b _ (neL b o e) hb (neC b o e hx) e1 (I.base.free b o e n hx)
    exact ⟨sl', e2⟩
  · obtain ⟨o', e1⟩ := I.base.there b o e hx
    exact free b o' (neC b o e hx) e1 (I.base.free b o e n hx)
  · obtain ⟨o', e1⟩ := I.base.there b o e hx
    exact there b o' (neC b o e hx) e1
  · obtain ⟨m1, e1⟩ := I.base.tbls b ps e
    obtain ⟨m2, e2⟩ := tbls b _ e1
    exact ⟨m1 ++ m2, by rw [e2, Array.append_assoc]⟩
  · obtain ⟨m, hn, hl⟩ := I.loc
    refine ⟨m, ns m hn, fun i x v e1 e2 e3 => ?_⟩
    obtain ⟨u, r, l⟩ := hl i x v e1 e2 e3
    refine ⟨u, r, ?_⟩
    rcases l with l | ⟨k, c, e, z⟩
    · exact .inl l
    · exact .inr ⟨k, c, e, cellK x c e _ z⟩
  · obtain ⟨v, z⟩ := I.cell x c e
    exact ⟨v, cellK x c e v z⟩
  · obtain ⟨m, ⟨o, _, _, ho, _⟩, _⟩ := I.loc
    exact free _ o (fun z => (hch _ z).2.1 rfl) ho I.free
  · obtain ⟨v, o, ho, hd⟩ := I.cell x c e
    exact free c o (fun z => (hch c z).2.2.1 x c e rfl) ho (I.freeC x c e)
  · obtain ⟨e, n, ne, nf, d⟩ := I.pin p hp
    have nch : p.1 ∉ ch := fun z => (hch p.1 z).2.2.2 p hp rfl
    exact ⟨keep p.1 p.2 ne nf nch e n, free p.1 p.2 nch e n, ne, nf, d⟩
theorem Inv.un {t' : Nat} (I : Inv X pins σ H s) (u : Un X.fs [] H H' s.heap h') (hok : HOk X.prog X.w H' h') : Inv X pins σ H' { s with heap := h', toks := t' } := by
  obtain ⟨m, ⟨o, es, ep, ho, r⟩, _⟩ := id I.loc
  obtain ⟨sl, hL⟩ := u.any ho I.free (by simp)
  exact I.step (g' := s.gens) (d' := s.drawn) (ch := []) (fun _ z => nomatch z) (fun b o _ hb _ e n => u.keep b o e n hb (by simp)) (fun b o _ hb _ e n => u.slot b o e n hb (by simp)) (fun b o _ e n => u.free b o e n (by simp)) (fun b o _ e => u.there b o e (by simp)) u.tups u.frzs u.tbls (fun m' hm => by
    obtain ⟨o', es', ep', ho', r'⟩ := hm
    rw [ho] at ho'; cases ho'
    exact ⟨_, es', ep', hL, r'⟩) hok I.bare
theorem Inv.call {g' : Array GenState} {t' : Nat} {d' : Drawn} {ch : List Addr} (I : Inv X pins σ H s) (u : Un (frs X.stack) ch H H' s.heap h') (hok : HOk X.prog X.w H' h') (hg : AllBare g')
    (hch : ∀ b ∈ ch, (b ∈ X.ex ∨ X.s₀.heap.objs.size ≤ b) ∧ b ≠ X.env.locals ∧ (∀ x c, X.env.cells.lookup x = some c → c ≠ b) ∧ ∀ p ∈ X.pn ++ pins, p.1 ≠ b) :
    Inv X pins σ H' { s with heap := h', gens := g', drawn := d', toks := t' } := by
  obtain ⟨m, ⟨o, es, ep, ho, r⟩, _⟩ := id I.loc
  obtain ⟨sl, hL⟩ := u.any ho I.free fun z => (hch _ z).2.1 rfl
  exact I.step (ch := ch) hch (fun b o hL hb hc e n => u.keep b o e n (fun z => (List.mem_cons.mp (I.stkSub b z)).elim hL hb) hc) (fun b o _ _ hc e n => u.any e n hc) (fun b o hc e n => u.free b o e n hc) (fun b o hc e => u.there b o e hc) u.tups u.frzs u.tbls (fun m' hm => by
    obtain ⟨o', es', ep', ho', r'⟩ := hm
    rw [ho] at ho'; cases ho'
    exact ⟨_, es', ep', hL, r'⟩) hok hg
theorem Inv.turned {t' : Nat} {it : Addr} (I : Inv X pins σ H s) (k : ∀ b o, b ≠ it → s.heap.get? b = some o → h'.get? b = some o) (hn : H it = none) (hL : it ≠ X.env.locals)
    (h1 : it ∈ X.ex ∨ X.s₀.heap.objs.size ≤ it) (h2 : ∀ x c, X.env.cells.lookup x = some c → c ≠ it) (h3 : ∀ p ∈ X.pn ++ pins, p.1 ≠ it) : Inv X pins σ H { s with heap := h', toks := t' } := by
  have nit : ∀ b u, H b = some u → b ≠ it := fun b u e z => by rw [z, hn] at e; cases e
  refine I.step (g' := s.gens) (d' := s.drawn) (ch := [it]) (fun b hb => ?_) (fun b o _ _ hc e _ => k b o (fun z => hc (by simp [z])) e) (fun b o _ _ hc e _ => ⟨o.slots, k b o (fun z => hc (by simp [z])) e⟩) (fun _ _ _ _ n => n)
    (fun b o hc e => ⟨o, k b o (fun z => hc (by simp [z])) e⟩) (fun _ _ e => e) (fun _ _ _ e => e) (fun b ps e => ⟨#[], by rw [e]; simp⟩) (fun m hm => ?_) (fun b u e => ?_) I.bare
  · have e : b = it := by simpa using hb
    subst e
    exact ⟨h1, hL, h2, h3⟩
  · obtain ⟨o, es, ep, ho, r⟩ := hm
    exact ⟨o, es, ep, k _ o (Ne.symm hL) ho, r⟩
  · refine (I.hok b u e).stay (fun c v hc q => k c v ?_ q) (fun _ q => q) fun _ _ q => q
    rcases hc with z | z
    · rw [z]; exact nit b u e
    · exact nit c _ z
theorem Inv.tok (I : Inv X pins σ H s) (t : Nat) : Inv X pins σ H { s with toks := t } := I.un (h' := s.heap) (t' := t) Un.refl I.hok
theorem Inv.kept {t' : Nat} (I : Inv X pins σ H s) (k : ∀ b u, s.heap.get? b = some u → h'.get? b = some u) : Inv X pins σ H { s with heap := h', toks := t' } := I.un (Un.kept k) (I.hok.kept k)
theorem Inv.laid {a : Addr} {o : HO} {t' : Nat} (I : Inv X pins σ H s) (k : ∀ b u, s.heap.get? b = some u → h'.get? b = some u) (hp : s.heap.objs.size ≤ a) (new : ObjOk X.prog X.w (upd H a o) h' a o) :
    Inv X pins σ (upd H a o) { s with heap := h', toks := t' } := I.un (Un.laid k hp (I.hok.fresh hp)) (I.hok.laid k hp new)
theorem Inv.write {x e : Addr} {o : HO} {t' : Nat} (I : Inv X pins σ H s) (mu : Mut (H x)) (he : e = x ∨ H e = some (.own x)) (k : ∀ b u, b ≠ e → s.heap.get? b = some u → h'.get? b = some u) (heo : ∃ u, h'.get? e = some u)
    (new : ObjOk X.prog X.w (upd H x o) h' x o) : Inv X pins σ (upd H x o) { s with heap := h', toks := t' } := I.un (Un.write mu he k heo) (I.hok.write mu he k heo new)
theorem Inv.pins_of {pins' : List (Addr × Obj)} (I : Inv X pins σ H s) (h : ∀ p ∈ pins', s.heap.get? p.1 = some p.2 ∧ H p.1 = none ∧ p.1 ≠ X.env.locals ∧ p.1 ∉ X.fs ∧ ∀ v, p.2.data ≠ .cell v) : Inv X pins' σ H s :=
  ⟨I.ok, I.os, I.bare, I.base, I.loc, I.cell, I.free, I.freeC, fun p hp => (List.mem_append.mp hp).elim (fun z => I.pin p (List.mem_append_left _ z)) (h p), I.hok, I.len⟩

theorem nodup_ix {N : List Str} (hN : N.Nodup) {i j : Nat} {x : Str} (a : N[i]? = some x) (b : N[j]? = some x) : i = j := by
  obtain ⟨h1, e1⟩ := List.getElem?_eq_some_iff.mp a
  obtain ⟨h2, e2⟩ := List.getElem?_eq_some_iff.mp b
  exact (List.getElem_inj hN).mp (e1.trans e2.symm)

theorem store_ok2 {M : Model} {A : Around} {E : Value → Shared → Prop} {i : Nat} {x : Str} {v : V} {u : Value} {Q : Unit → Shared → Prop} (I : Inv X pins σ H s) (hN : X.N.Nodup) (hi : X.N[i]? = some x) (hx : Loc X.env.scope x) (r : RelV v u)
    (h : ∀ s', Inv X pins (σ.set i (some v)) H s' → (∃ a, Heap.SameBut a s.heap s'.heap ∧ (a = X.env.locals ∨ X.env.cells.lookup x = some a)) → Q () s') (hf : X.fn x = true ∨ X.env.scope.names.lookup x = some .local := by first | exact .inl rfl | exact .inr rfl | assumption) : wpAny M A (storeName X.env x u) Q E s := by
  obtain ⟨m, hn, hl⟩ := id I.loc
  have hcls : (X.env.scope.kind == .class || (X.env.scope.kind == .module && X.env.locals != X.env.globals)) = false := by rw [I.ok.kind]; rfl
  have hiσ : i < σ.length := by rw [I.len]; exact (List.getElem?_eq_some_iff.mp hi).1
  have cne := I.cne
  have tracked : ∀ {a : Addr} {h' : Heap}, (∃ o, s.heap.get? a = some o ∧ H a = none) → Heap.SameBut a s.heap h' → HOk X.prog X.w H h' := fun {a h'} ha hs b ob e => by
    obtain ⟨_, _, hfree⟩ := ha
    refine (I.hok b ob e).stay (fun c w' hc q => (hs.2 c ?_).trans q) (fun _ q => q) fun _ _ q => q
    rintro rfl
    rcases hc with rfl | hc
    · rw [hfree] at e; cases e
    · rw [hfree] at hc; cases hc
  rcases hx with hk | hk
  · refine wpAny_storeName_local hk hn (fun h' hn' hs => ?_) hcls
    obtain ⟨oL, _, _, hoL, _⟩ := id hn
    refine h _ ⟨I.ok, I.os, I.bare, ⟨fun b o e n hb hx => ?_, fun b o e n hb hx => ?_, I.base.free, fun b o e hx => ?_, I.base.tups, I.base.frzs, I.base.tbls⟩, ⟨_, hn', fun j y v' e1 e2 e3 => ?_⟩, fun y c e => ?_, I.free, I.freeC, fun p hp => ?_, tracked ⟨oL, hoL, I.free⟩ hs, by simpa using I.len⟩ ⟨_, hs, .inl rfl⟩
    · exact (hs.2 b (Nat.ne_of_lt (Nat.lt_of_lt_of_le (Heap.lt_size e) I.ok.above))).trans (I.base.keep b o e n hb hx)
    · obtain ⟨sl, e1⟩ := I.base.slot b o e n hb hx
      exact ⟨sl, (hs.2 b (Nat.ne_of_lt (Nat.lt_of_lt_of_le (Heap.lt_size e) I.ok.above))).trans e1⟩
    · obtain ⟨o', e1⟩ := I.base.there b o e hx
      exact ⟨o', (hs.2 b (Nat.ne_of_lt (Nat.lt_of_lt_of_le (Heap.lt_size e) I.ok.above))).trans e1⟩
    · by_cases hj : j = i
      · subst hj
        rw [hi] at e1; cases e1
        rw [List.getElem?_set_self hiσ] at e2
        cases e2
        exact ⟨u, r, .inl ⟨hk, by simp⟩⟩
      · rw [List.getElem?_set_ne (Ne.symm hj)] at e2
        obtain ⟨u', r', q⟩ := hl j y v' e1 e2 e3
        refine ⟨u', r', ?_⟩
        rcases q with ⟨k, e⟩ | ⟨k, c, e, z⟩
        · refine .inl ⟨k, ?_⟩
          have : y ≠ x := fun e => hj (nodup_ix hN e1 (e ▸ hi))
          simp [this, e]
        · exact .inr ⟨k, c, e, z.sameBut hs (cne y c e)⟩
    · obtain ⟨w', z⟩ := I.cell y c e
      exact ⟨w', z.sameBut hs (cne y c e)⟩
    · obtain ⟨e, n, ne, nf, d⟩ := I.pin p hp
      exact ⟨(hs.2 p.1 ne).trans e, n, ne, nf, d⟩
  · have hfn : X.fn x = true := by
      rcases hf with z | z
      · exact z
      · rw [z] at hk; cases hk
    obtain ⟨c, hc⟩ := I.ok.has x (.inl hk)
    obtain ⟨w', z⟩ := I.cell x c hc
    refine wpAny_storeName_cell I.ok.kind hk hc z (fun h' hc' hs => ?_)
    obtain ⟨oc, hoc, hocd⟩ := id z
    refine h { s with heap := h' } ⟨I.ok, I.os, I.bare, ⟨fun b o e n hb hx => ?_, fun b o e n hb hx => ?_, I.base.free, fun b o e hx => ?_, I.base.tups, I.base.frzs, I.base.tbls⟩, ⟨m, hn.sameBut hs (Ne.symm (cne x c hc)), fun j y v' e1 e2 e3 => ?_⟩, fun y c' e => ?_, I.free, I.freeC, fun p hp => ?_, tracked ⟨oc, hoc, I.freeC x c hc⟩ hs, by simpa using I.len⟩ ⟨c, hs, .inr hc⟩
    · exact (hs.2 b (Nat.ne_of_lt (Nat.lt_of_lt_of_le (Heap.lt_size e) (I.ok.cab x c hfn hc)))).trans (I.base.keep b o e n hb hx)
    · obtain ⟨sl, e1⟩ := I.base.slot b o e n hb hx
      exact ⟨sl, (hs.2 b (Nat.ne_of_lt (Nat.lt_of_lt_of_le (Heap.lt_size e) (I.ok.cab x c hfn hc)))).trans e1⟩
    · obtain ⟨o', e1⟩ := I.base.there b o e hx
      exact ⟨o', (hs.2 b (Nat.ne_of_lt (Nat.lt_of_lt_of_le (Heap.lt_size e) (I.ok.cab x c hfn hc)))).trans e1⟩
    · by_cases hj : j = i
      · subst hj
        rw [hi] at e1; cases e1
        rw [List.getElem?_set_self hiσ] at e2
        cases e2
        exact ⟨u, r, .inr ⟨.inl hk, c, hc, hc'⟩⟩
      · rw [List.getElem?_set_ne (Ne.symm hj)] at e2
        obtain ⟨u', r', q⟩ := hl j y v' e1 e2 e3
        refine ⟨u', r', ?_⟩
        rcases q with q | ⟨k, c', e, z'⟩
        · exact .inl q
        · refine .inr ⟨k, c', e, z'.sameBut hs ?_⟩
          rintro rfl
          exact hj (nodup_ix hN e1 (I.ok.inj _ _ _ e hc ▸ hi))
    · by_cases hcc : c' = c
      · subst hcc; exact ⟨_, hc'⟩
      · obtain ⟨w2, z2⟩ := I.cell y c' e
        exact ⟨w2, z2.sameBut hs hcc⟩
    · obtain ⟨e, n, ne, nf, d⟩ := I.pin p hp
      refine ⟨(hs.2 p.1 ?_).trans e, n, ne, nf, d⟩
      intro q
      rw [q, hoc] at e
      have q' : oc = p.2 := Option.some.inj e
      exact d w' (by rw [← q']; exact hocd)
theorem store_ok {M : Model} {A : Around} {E : Value → Shared → Prop} {i : Nat} {x : Str} {v : V} {u : Value} {Q : Unit → Shared → Prop} (I : Inv X pins σ H s) (hN : X.N.Nodup) (hi : X.N[i]? = some x) (hx : Loc X.env.scope x) (r : RelV v u)
    (h : ∀ s', Inv X pins (σ.set i (some v)) H s' → Q () s') (hf : X.fn x = true ∨ X.env.scope.names.lookup x = some .local := by first | exact .inl rfl | exact .inr rfl | assumption) : wpAny M A (storeName X.env x u) Q E s :=
  store_ok2 I hN hi hx r (fun s' I' _ => h s' I') hf
theorem Inv.call' {s' : Shared} {ch : List Addr} (I : Inv X pins σ H s) (ho : s'.os = s.os) (u : Un (frs X.stack) ch H H' s.heap s'.heap) (hok : HOk X.prog X.w H' s'.heap) (hg : AllBare s'.gens)
    (hch : ∀ b ∈ ch, (b ∈ X.ex ∨ X.s₀.heap.objs.size ≤ b) ∧ b ≠ X.env.locals ∧ (∀ x c, X.env.cells.lookup x = some c → c ≠ b) ∧ ∀ p ∈ X.pn ++ pins, p.1 ≠ b) : Inv X pins σ H' s' := by
  obtain ⟨h', g', d', t', o'⟩ := s'
  have e : o' = s.os := ho
  subst e
  exact I.call (g' := g') (t' := t') (d' := d') u hok hg hch
end

abbrev XK := Value → Option Addr → Hp → Prop
noncomputable abbrev St := List (Option V)
abbrev VK := V → Hp → Prop
abbrev TE := St → Hp → VK → Prop
abbrev TT := St → Hp → (Bool → Hp → Prop) → Prop
abbrev TA := St → Hp → (List V → Hp → Prop) → Prop
structure Ends where
  nx : St → Hp → Prop
  rt : VK
  bk : St → Hp → Prop := fun _ _ => False
  ct : St → Hp → Prop := fun _ _ => False
abbrev TS := Ends → St → Hp → Prop

def EP (X : Cx) (pins : List (Addr × Obj)) (σ : St) (Q : VK) (u : Value) (s' : Shared) : Prop := ∃ v H', Inv X pins σ H' s' ∧ RelV v u ∧ Q v H'
def TP (X : Cx) (pins : List (Addr × Obj)) (σ : St) (Q : Bool → Hp → Prop) (b : Bool) (s' : Shared) : Prop := ∃ H', Inv X pins σ H' s' ∧ Q b H'
def AP (X : Cx) (pins : List (Addr × Obj)) (σ : St) (Q : List V → Hp → Prop) (us : List Value) (s' : Shared) : Prop := ∃ vs H', Inv X pins σ H' s' ∧ Vals vs us ∧ Q vs H'
def SP (X : Cx) (pins : List (Addr × Obj)) (D : Ends) (f : Flow) (s' : Shared) : Prop :=
  match f with
  | .next => ∃ σ' H', Inv X pins σ' H' s' ∧ D.nx σ' H'
  | .brk => ∃ σ' H', Inv X pins σ' H' s' ∧ D.bk σ' H'
  | .cont => ∃ σ' H', Inv X pins σ' H' s' ∧ D.ct σ' H'
  | .ret u => ∃ v σ' H', Inv X pins σ' H' s' ∧ RelV v u ∧ D.rt v H'

def PE (X : Cx) (e : Expr) (t : TE) : Prop :=
  ∀ (pins : List (Addr × Obj)) (s : Shared) (σ : St) (H : Hp) (Q : VK), Inv X pins σ H s → t σ H Q → wpAny (model X.prog X.w) X.A (eval e X.env) (EP X pins σ Q) X.xe s
def PT (X : Cx) (e : Expr) (t : TT) : Prop :=
  ∀ (pins : List (Addr × Obj)) (s : Shared) (σ : St) (H : Hp) (Q : Bool → Hp → Prop), Inv X pins σ H s → t σ H Q → wpAny (model X.prog X.w) X.A (isTrue e X.env (eval e X.env)) (TP X pins σ Q) X.xe s
def PW (X : Cx) (e : Expr) (t : TT) : Prop :=
  ∀ (whole : Sem Value) (pins : List (Addr × Obj)) (s : Shared) (σ : St) (H : Hp) (Q : Bool → Hp → Prop), Inv X pins σ H s → t σ H Q → wpAny (model X.prog X.w) X.A (isTrue e X.env whole) (TP X pins σ Q) X.xe s
theorem PW.pt {X : Cx} {e : Expr} {t : TT} (h : PW X e t) : PT X e t := h _
def PA (X : Cx) (es : List Expr) (t : TA) : Prop :=
  ∀ (pos : Pos) (pins : List (Addr × Obj)) (s : Shared) (σ : St) (H : Hp) (Q : List V → Hp → Prop), Inv X pins σ H s → t σ H Q → wpAny (model X.prog X.w) X.A (spliced (backTo pos (starEach es X.env))) (AP X pins σ Q) X.xe s
def PS (X : Cx) (st : Stmt) (t : TS) : Prop :=
  ∀ (pins : List (Addr × Obj)) (s : Shared) (σ : St) (H : Hp) (D : Ends), Inv X pins σ H s → t D σ H → wpAny (model X.prog X.w) X.A (exec st X.env) (SP X pins D) X.xe s
def PSs (X : Cx) (st : List Stmt) (t : TS) : Prop :=
  ∀ (pins : List (Addr × Obj)) (s : Shared) (σ : St) (H : Hp) (D : Ends), Inv X pins σ H s → t D σ H → wpAny (model X.prog X.w) X.A (execs st X.env) (SP X pins D) X.xe s
theorem thn {α : Type} {t : Sem α} {Q Q' : α → Shared → Prop} {M : Model} {A : Around} {E : Value → Shared → Prop} {s : Shared} (h : wpAny M A t Q E s) (hQ : ∀ a s, Q a s → Q' a s) : wpAny M A t Q' E s := wpAny_mono h hQ fun _ _ x => x
end L2

namespace L2
open PySem PySem.Spec PyProof.Rows
section
variable {X : Cx}


noncomputable def tVar (i : Nat) : TE := fun σ H Q => ∃ v, σ[i]? = some (some v) ∧ Q v H
noncomputable def tC (v : V) : TE := fun _ H Q => Q v H
theorem pe_var {i : Nat} {x : Str} {pos : Pos} (hN : X.N[i]? = some x) (hv : Vis X.env.scope x) (hd : (x == ("__debug__" : Str)) = false := by decide) (hcd : (x == ("__classdict__" : Str)) = false := by decide) : PE X (.Name x pos) (tVar i) := by
  intro pins s σ H Q I h
  obtain ⟨v, e, h⟩ := h
  obtain ⟨m, hn, hl⟩ := I.loc
  obtain ⟨u, r, l⟩ := hl i x v hN e hv
  have fin : EP X pins σ Q u s := ⟨v, H, I, r, h⟩
  rcases l with ⟨hk, hm⟩ | ⟨hk, c, hc, hcell⟩
  · exact wpAny_Name (wpAny_loadName_local I.ok.kind hk hn hm fin) hd
  · rcases hk with hk | hk
    · exact wpAny_Name (wpAny_loadName_cell I.ok.kind hk hc hcell fin) hd
    · exact wpAny_Name (wpAny_loadName_free I.ok.kind hk hc hcell fin hcd) hd
theorem pe_int {i j pos} : PE X (.Constant (.int i) j pos) (tC (.int i)) := fun _ _ _ H _ I h => wpAny_Constant_int ⟨.int i, H, I.tok _, ⟨_, rfl⟩, h⟩
theorem pe_bl {b j pos} : PE X (.Constant (.bool b) j pos) (tC (.bl b)) := fun _ _ _ H _ I h => Constant_bool ⟨.bl b, H, I, rfl, h⟩
theorem pe_non {j pos} : PE X (.Constant .none j pos) (tC .non) := fun _ _ _ H _ I h => Constant_none ⟨.non, H, I, rfl, h⟩
theorem pe_str {x j pos} : PE X (.Constant (.str x) j pos) (tC (.str x)) := fun _ _ _ H _ I h => Calls.Constant_str ⟨.str x, H, I.tok _, ⟨_, rfl⟩, h⟩

def Gl (X : Cx) (x : Str) : Prop := X.env.kindOf x = some .globalImplicit
theorem ld_glob {E : Value → Shared → Prop} {pins : List (Addr × Obj)} {s : Shared} {σ : St} {H : Hp} {x : Str} {u : Value} {pos : Pos} {Q : Value → Shared → Prop} (I : Inv X pins σ H s) (hg : Gl X x) (hm : X.mg x = some u) (h : Q u s)
    (hd : (x == ("__debug__" : Str)) = false := by decide) : wpAny (model X.prog X.w) X.A (eval (.Name x pos) X.env) Q E s :=
  Calls.Name_function_global I.ok.kind hg (Calls.loadGlobal_global (by rw [I.ok.glob]; exact I.mod.glob.keeps I.bk) hm h) hd
theorem ld_blt {E : Value → Shared → Prop} {pins : List (Addr × Obj)} {s : Shared} {σ : St} {H : Hp} {x : Str} {u : Value} {pos : Pos} {Q : Value → Shared → Prop} (I : Inv X pins σ H s) (hg : Gl X x) (hm : X.mg x = none) (hv : bootBuiltins x = some u) (h : Q u s)
    (hn : x ≠ "__name__" := by decide) (hd : (x == ("__debug__" : Str)) = false := by decide) : wpAny (model X.prog X.w) X.A (eval (.Name x pos) X.env) Q E s := by
  obtain ⟨mb, h1, h2⟩ := I.mod.blt
  exact Calls.Name_function_global I.ok.kind hg (Calls.loadGlobal_builtin (by rw [I.ok.glob]; exact I.mod.glob.keeps I.bk) hm (by rw [I.ok.blt]; exact h1.keeps I.bk) ((h2 x hn).trans hv) h) hd
theorem pe_glob {x : Str} {v : V} {u : Value} {pos : Pos} (hg : Gl X x) (hm : X.mg x = some u) (r : RelV v u) (hd : (x == ("__debug__" : Str)) = false := by decide) : PE X (.Name x pos) (tC v) :=
  fun _ _ _ H _ I h => ld_glob I hg hm ⟨v, H, I, r, h⟩ hd
theorem pe_bltn {x : Str} {v : V} {u : Value} {pos : Pos} (hg : Gl X x) (hm : X.mg x = none) (hv : bootBuiltins x = some u) (r : RelV v u) (hn : x ≠ "__name__" := by decide) (hd : (x == ("__debug__" : Str)) = false := by decide) : PE X (.Name x pos) (tC v) :=
  fun _ _ _ H _ I h => ld_blt I hg hm hv ⟨v, H, I, r, h⟩ hn hd

variable {a b : Expr} {ta tb : TE} {pos : Pos}

def PC (X : Cx) (op : CmpOp) (a b : Expr) (t : TE) : Prop :=
  ∀ (pins : List (Addr × Obj)) (s : Shared) (σ : St) (H : Hp) (Q : VK), Inv X pins σ H s → t σ H Q →
    wpAny (model X.prog X.w) X.A (eval a X.env) (fun v s₁ => wpAny (model X.prog X.w) X.A (eval b X.env) (fun u s₂ => wpAny (model X.prog X.w) X.A (compareOp op v u) (EP X pins σ Q) X.xe s₂) X.xe s₁) X.xe s
noncomputable def tB (t : TE) : TT := fun σ H Q => t σ H fun x H1 => ∃ c, x = .bl c ∧ Q c H1
theorem pt_val {e : Expr} {t : TE} (h : PE X e t) (he : ∀ whole, isTrue e X.env whole = (do let v ← whole; standAt e.pos; holding [v] (truthy v)) := by intro _; rfl) : PT X e (tB t) := by
  intro pins s σ H Q I hw
  refine isTrue_plain (thn (h pins s σ H _ I hw) fun v s1 ⟨x, H1, I1, r1, q1⟩ => ?_) (he _)
  obtain ⟨d, rfl, q⟩ := q1
  cases r1
  exact wpAny_truthy_bool ⟨H1, I1, q⟩

variable {tA tB' : TT} {rest : List Expr}
noncomputable def tAnd (t u : TT) : TT := fun σ H Q => t σ H fun c H1 => if c = true then u σ H1 Q else Q false H1
noncomputable def tOr (t u : TT) : TT := fun σ H Q => t σ H fun c H1 => if c = true then Q true H1 else u σ H1 Q
noncomputable def tNot (t : TT) : TT := fun σ H Q => t σ H fun c H1 => Q (!c) H1
theorem pw_and1 (ha : PT X a tA) : PW X (.BoolOp .And [a] pos) tA := by
  intro wh pins s σ H Q I h
  refine isTrue_and (thn (ha pins s σ H Q I h) fun c s1 e => ?_)
  cases c with
  | true => exact isTrue_and_nil e
  | false => exact e
theorem pw_or1 (ha : PT X a tA) : PW X (.BoolOp .Or [a] pos) tA := by
  intro wh pins s σ H Q I h
  refine isTrue_or (thn (ha pins s σ H Q I h) fun c s1 e => ?_)
  cases c with
  | false => exact isTrue_or_nil e
  | true => exact e
theorem pw_and (ha : PT X a tA) (hb : PW X (.BoolOp .And (b :: rest) pos) tB') : PW X (.BoolOp .And (a :: b :: rest) pos) (tAnd tA tB') := by
  intro wh pins s σ H Q I h
  refine isTrue_and (thn (ha pins s σ H _ I h) fun c s1 ⟨H1, I1, q1⟩ => ?_)
  cases c with
  | true => exact hb wh pins s1 σ H1 Q I1 q1
  | false => exact ⟨H1, I1, q1⟩
theorem pw_or (ha : PT X a tA) (hb : PW X (.BoolOp .Or (b :: rest) pos) tB') : PW X (.BoolOp .Or (a :: b :: rest) pos) (tOr tA tB') := by
  intro wh pins s σ H Q I h
  refine isTrue_or (thn (ha pins s σ H _ I h) fun c s1 ⟨H1, I1, q1⟩ => ?_)
  cases c with
  | true => exact ⟨H1, I1, q1⟩
  | false => exact hb wh pins s1 σ H1 Q I1 q1
theorem pt_not (ha : PT X a tA) : PT X (.UnaryOp .Not a pos) (tNot tA) := by
  intro pins s σ H Q I h
  exact isTrue_not (ha pins s σ H (fun c H1 => Q (!c) H1) I h)
noncomputable def tAndV (ta tb : TE) : TE := fun σ H Q => ta σ H fun x H1 => ∃ c, x = .bl c ∧ if c = true then tb σ H1 Q else Q (.bl false) H1
noncomputable def tOrV (ta tb : TE) : TE := fun σ H Q => ta σ H fun x H1 => ∃ c, x = .bl c ∧ if c = true then Q (.bl true) H1 else tb σ H1 Q
noncomputable def tNotV (ta : TE) : TE := fun σ H Q => ta σ H fun x H1 => ∃ c, x = .bl c ∧ Q (.bl (!c)) H1
theorem pe_one {op} {t : TE} (h : PE X a t) : PE X (.BoolOp op [a] pos) t := fun pins s σ H Q I hw => BoolOp_one (h pins s σ H Q I hw)
theorem pe_and (ha : PE X a ta) (hb : PE X (.BoolOp .And (b :: rest) pos) tb) : PE X (.BoolOp .And (a :: b :: rest) pos) (tAndV ta tb) := by
  intro pins s σ H Q I h
  refine BoolOp_and (thn (ha pins s σ H _ I h) fun v s1 ⟨x, H1, I1, r1, q1⟩ => ?_)
  obtain ⟨c, rfl, q1⟩ := q1
  cases r1
  refine wpAny_truthy_bool ?_
  cases c with
  | true => exact hb pins s1 σ H1 Q I1 q1
  | false => exact ⟨.bl false, H1, I1, rfl, q1⟩
theorem pe_or (ha : PE X a ta) (hb : PE X (.BoolOp .Or (b :: rest) pos) tb) : PE X (.BoolOp .Or (a :: b :: rest) pos) (tOrV ta tb) := by
  intro pins s σ H Q I h
  refine BoolOp_or (thn (ha pins s σ H _ I h) fun v s1 ⟨x, H1, I1, r1, q1⟩ => ?_)
  obtain ⟨c, rfl, q1⟩ := q1
  cases r1
  refine wpAny_truthy_bool ?_
  cases c with
  | false => exact hb pins s1 σ H1 Q I1 q1
  | true => exact ⟨.bl true, H1, I1, rfl, q1⟩
theorem pe_not (ha : PE X a ta) : PE X (.UnaryOp .Not a pos) (tNotV ta) := by
  intro pins s σ H Q I h
  refine UnaryOp_ (thn (ha pins s σ H _ I h) fun v s1 ⟨x, H1, I1, r1, q1⟩ => ?_)
  obtain ⟨c, rfl, q1⟩ := q1
  cases r1
  exact not_of (wpAny_truthy_bool ⟨.bl (!c), H1, I1, rfl, q1⟩)
noncomputable def tIf (t : TT) (ta tb : TE) : TE := fun σ H Q => t σ H fun c H1 => if c = true then ta σ H1 Q else tb σ H1 Q
theorem pe_ifExp {c : Expr} (hc : PT X c tA) (ha : PE X a ta) (hb : PE X b tb) : PE X (.IfExp c a b pos) (tIf tA ta tb) := by
  intro pins s σ H Q I h
  refine wpAny_IfExp (thn (hc pins s σ H _ I h) fun d s1 ⟨H1, I1, q1⟩ => ?_)
  cases d with
  | true => exact ha pins s1 σ H1 Q I1 q1
  | false => exact hb pins s1 σ H1 Q I1 q1
end
end L2

namespace L2
open PySem PySem.Spec PyProof.Rows

def SqL (K : PySem.W.Frag) (H : Hp) (a : Addr) (xs : List V) : Prop :=
  Rd H a (.lst xs) ∨
    ∃ (o : Obj) (its : Array Value) (n : Nat), K.lookup a = some o ∧ o.cls = .type "list" ∧ o.dict = none ∧ o.data = .seq its n ∧ its.size ≤ sizeLine ∧ Vals xs its.toList
def SqT (K : PySem.W.Frag) (H : Hp) (a : Addr) (xs : List V) : Prop :=
  Rd H a (.tup xs) ∨
    ∃ (o : Obj) (its : Array Value) (n : Nat), K.lookup a = some o ∧ o.cls = .type "tuple" ∧ o.data = .seq its n ∧ its.size ≤ sizeLine ∧ Vals xs its.toList
noncomputable def absV : Value → Option V
  | .none => some .non
  | .bool b => some (.bl b)
  | .int i _ => some (.int i)
  | .str x _ => some (.str x)
  | .bytes b _ => some (.byt b)
  | .float b _ => some (.flt b)
  | .ref a => some (.ref a)
  | .type n => some (.ty n)
  | _ => none
theorem RelV.abs {x : V} {u : Value} (r : RelV x u) : absV u = some x := by
  cases x with
  | non => cases r; rfl
  | bl _ => cases r; rfl
  | int _ => obtain ⟨t, rfl⟩ := r; rfl
  | str _ => obtain ⟨t, rfl⟩ := r; rfl
  | byt _ => obtain ⟨t, rfl⟩ := r; rfl
  | flt _ => obtain ⟨t, rfl⟩ := r; rfl
  | ref _ => cases r; rfl
  | ty _ => cases r; rfl
theorem RelV.inj {x y : V} {u : Value} (r : RelV x u) (q : RelV y u) : x = y := Option.some.inj (r.abs.symm.trans q.abs)
theorem Vals.inj : ∀ {xs ys : List V} {us : List Value}, Vals xs us → Vals ys us → xs = ys
  | _, _, _, .nil, .nil => rfl
  | _, _, _, .cons r t, .cons r' t' => by rw [r.inj r', Vals.inj t t']
section
variable {X : Cx} {pins : List (Addr × Obj)} {σ : St} {H : Hp} {s : Shared} {a : Addr} {xs ys : List V}
theorem SqT.of {K : PySem.W.Frag} (h : H a = some (.tup xs)) : SqT K H a xs := .inl (.inl h)
theorem Inv.list (I : Inv X pins σ H s) (h : SqL X.K H a xs) : ∃ its : List Value, Vals xs its ∧ PlainL s.heap a its.toArray ∧ xs.length ≤ sizeLine := by
  rcases h with h | ⟨o, its, n, hk, hc, hd, hs, hz, r⟩
  · obtain ⟨z, its, n, r, e⟩ := h.ok I.hok
    exact ⟨its, r, ⟨_, n, e, rfl, rfl, rfl⟩, z⟩
  · refine ⟨its.toList, r, ⟨o, n, I.kIn a o hk, hc, hd, by simpa using hs⟩, ?_⟩
    have e := r.length
    simp only [Array.length_toList] at e
    omega
theorem Inv.tuple (I : Inv X pins σ H s) (h : SqT X.K H a xs) : ∃ its : List Value, Vals xs its ∧ IsTup s.heap a its.toArray ∧ xs.length ≤ sizeLine := by
  rcases h with h | ⟨o, its, n, hk, hc, hs, hz, r⟩
  · obtain ⟨z, its, r, p⟩ := h.ok I.hok
    exact ⟨its, r, p, z⟩
  · refine ⟨its.toList, r, ⟨o, I.kIn a o hk, hc, n, by simpa using hs⟩, ?_⟩
    have e := r.length
    simp only [Array.length_toList] at e
    omega
theorem Inv.list_inj (I : Inv X pins σ H s) (h : SqL X.K H a xs) (h' : SqL X.K H a ys) : xs = ys := by
  obtain ⟨its, r, ⟨o, n, e, _, _, d⟩, _⟩ := I.list h
  obtain ⟨its', r', ⟨o', n', e', _, _, d'⟩, _⟩ := I.list h'
  rw [e] at e'; cases e'
  rw [d] at d'
  injection d' with d1 _
  have : its = its' := by simpa using congrArg Array.toList d1
  subst this
  exact r.inj r'
theorem Inv.tuple_inj (I : Inv X pins σ H s) (h : SqT X.K H a xs) (h' : SqT X.K H a ys) : xs = ys := by
  obtain ⟨its, r, ⟨o, e, _, n, d⟩, _⟩ := I.tuple h
  obtain ⟨its', r', ⟨o', e', _, n', d'⟩, _⟩ := I.tuple h'
  rw [e] at e'; cases e'
  rw [d] at d'
  injection d' with d1 _
  have : its = its' := by simpa using congrArg Array.toList d1
  subst this
  exact r.inj r'
end

noncomputable abbrev Cx.wish (X : Cx) (E : Value → Shared → Prop) : Cx := { X with xe := E }
noncomputable abbrev Cx.nox (X : Cx) : Cx := X.wish fun _ _ => False
theorem Cx.Ok.wish {X : Cx} (ok : X.Ok) (E : Value → Shared → Prop) : (X.wish E).Ok :=
  ⟨ok.mod, ok.kind, ok.glob, ok.blt, ok.above, ok.inj, ok.has, ok.cab, ok.hd, ok.frames, ok.stk, ok.exf, ok.bs, ok.bsz, ok.noex, ok.exfs, ok.funs, ok.frf⟩
theorem Cx.Ok.unwish {X : Cx} {E : Value → Shared → Prop} (ok : (X.wish E).Ok) : X.Ok :=
  ⟨ok.mod, ok.kind, ok.glob, ok.blt, ok.above, ok.inj, ok.has, ok.cab, ok.hd, ok.frames, ok.stk, ok.exf, ok.bs, ok.bsz, ok.noex, ok.exfs, ok.funs, ok.frf⟩
section
variable {X : Cx} {pins : List (Addr × Obj)} {σ : St} {H : Hp} {s : Shared} {E : Value → Shared → Prop}
theorem Inv.wish (I : Inv X pins σ H s) (E : Value → Shared → Prop) : Inv (X.wish E) pins σ H s := ⟨I.ok.wish E, I.os, I.bare, I.base, I.loc, I.cell, I.free, I.freeC, I.pin, I.hok, I.len⟩
theorem Inv.unwish (I : Inv (X.wish E) pins σ H s) : Inv X pins σ H s := ⟨I.ok.unwish, I.os, I.bare, I.base, I.loc, I.cell, I.free, I.freeC, I.pin, I.hok, I.len⟩
theorem SP.unwish {D : Ends} {f : Flow} {s' : Shared} (h : SP (X.wish E) pins D f s') : SP X pins D f s' := by
  cases f with
  | next => obtain ⟨σ', H', I, q⟩ := h; exact ⟨σ', H', I.unwish, q⟩
  | brk => obtain ⟨σ', H', I, q⟩ := h; exact ⟨σ', H', I.unwish, q⟩
  | cont => obtain ⟨σ', H', I, q⟩ := h; exact ⟨σ', H', I.unwish, q⟩
  | ret u => obtain ⟨v, σ', H', I, r, q⟩ := h; exact ⟨v, σ', H', I.unwish, r, q⟩
theorem PSs.nox {st : List Stmt} {t : TS} (h : PSs X.nox st t) : PSs X st t := fun pins s σ H D I hw =>
  wpAny_mono (h pins s σ H D (I.wish _) hw) (fun _ _ q => q.unwish) fun _ _ z => False.elim z
end

section
variable {X : Cx} {st : Stmt} {rest : List Stmt} {t u : TS} {e : Expr} {te : TE} {pos : Pos}
noncomputable def tNext : TS := fun D σ H => D.nx σ H
noncomputable def tSeq (t u : TS) : TS := fun D σ H => t { D with nx := u D } σ H
theorem pss_nil : PSs X [] tNext := fun _ _ σ H _ I h => wpAny_execs_nil ⟨σ, H, I, h⟩
theorem pss_cons (h1 : PS X st t) (h2 : PSs X rest u) : PSs X (st :: rest) (tSeq t u) := by
  intro pins s σ H D I h
  refine wpAny_execs_cons (thn (h1 pins s σ H { D with nx := u D } I h) fun f s1 q => ?_)
  cases f with
  | next =>
    obtain ⟨σ', H', I', q⟩ := q
    exact h2 pins s1 σ' H' D I' q
  | ret v => exact q
  | brk => exact q
  | cont => exact q
noncomputable def tBreak : TS := fun D σ H => D.bk σ H
noncomputable def tCont : TS := fun D σ H => D.ct σ H
theorem ps_pass : PS X (.Pass pos) tNext := fun _ _ σ H _ I h => wpAny_Pass ⟨σ, H, I, h⟩
theorem ps_break : PS X (.Break pos) tBreak := fun _ _ σ H _ I h => wpAny_Break ⟨σ, H, I, h⟩
theorem ps_continue : PS X (.Continue pos) tCont := fun _ _ σ H _ I h => wpAny_Continue ⟨σ, H, I, h⟩
theorem Inv.quiet {pins : List (Addr × Obj)} {σ : St} {H : Hp} {s : Shared} (I : Inv X pins σ H s) : interactive X.env = false := by simp [interactive, I.ok.kind]
noncomputable def tDrop (te : TE) : TS := fun D σ H => te σ H fun _ H1 => D.nx σ H1
theorem ps_expr (he : PE X e te) (hs : swapsWith e none pos.line X.env = pure false := by rfl) : PS X (.Expr e pos) (tDrop te) := by
  intro pins s σ H D I h
  exact wpAny_Expr_any (thn (he pins s σ H _ I h) fun v s1 ⟨x, H1, I1, r1, q1⟩ => ⟨σ, H1, I1, q1⟩) I.quiet hs
noncomputable def tRet (te : TE) : TS := fun D σ H => te σ H D.rt
theorem ps_ret (he : PE X e te) : PS X (.Return (some e) pos) (tRet te) := by
  intro pins s σ H D I h
  exact wpAny_Return_some (thn (he pins s σ H _ I h) fun v s1 ⟨x, H1, I1, r1, q1⟩ => ⟨x, σ, H1, I1, r1, q1⟩)
noncomputable def tIfS (c : TT) (t u : TS) : TS := fun D σ H => c σ H fun b H1 => if b = true then t D σ H1 else u D σ H1
theorem ps_if {c : Expr} {a b : List Stmt} {tc : TT} (hc : PT X c tc) (ha : PSs X a t) (hb : PSs X b u) : PS X (.If c a b pos) (tIfS tc t u) := by
  intro pins s σ H D I h
  refine wpAny_If (thn (hc pins s σ H _ I h) fun d s1 ⟨H1, I1, q1⟩ => ?_)
  cases d with
  | true => exact ha pins s1 σ H1 D I1 q1
  | false => exact hb pins s1 σ H1 D I1 q1
end

abbrev TG := V → St → Hp → (St → Hp → Prop) → Prop
abbrev TGs := List V → St → Hp → (St → Hp → Prop) → Prop
def PG (X : Cx) (target : Expr) (t : TG) : Prop :=
  ∀ (pins : List (Addr × Obj)) (s : Shared) (σ : St) (H : Hp) (v : V) (u : Value) (Q : St → Hp → Prop), Inv X pins σ H s → RelV v u → t v σ H Q →
    wpAny (model X.prog X.w) X.A (assign target X.env u) (fun _ s' => ∃ σ' H', Inv X pins σ' H' s' ∧ Q σ' H') X.xe s
def PGs (X : Cx) (ts : List Expr) (t : TGs) : Prop :=
  ∀ (pins : List (Addr × Obj)) (s : Shared) (σ : St) (H : Hp) (vs : List V) (us : List Value) (Q : St → Hp → Prop), Inv X pins σ H s → Vals vs us → t vs σ H Q →
    wpAny (model X.prog X.w) X.A (assignInOrder ((assignEach ts X.env).map (·.2)) us) (fun _ s' => ∃ σ' H', Inv X pins σ' H' s' ∧ Q σ' H') X.xe s
abbrev TSet := V → V → V → Hp → (Hp → Prop) → Prop
def PSet (X : Cx) (t : TSet) : Prop :=
  ∀ (pins : List (Addr × Obj)) (s : Shared) (σ : St) (H : Hp) (o i v : V) (ov iv u : Value) (Q : Hp → Prop), Inv X pins σ H s → RelV o ov → RelV i iv → RelV v u → t o i v H Q →
    wpAny (model X.prog X.w) X.A (setItem ov iv u) (fun _ s' => ∃ H', Inv X pins σ H' s' ∧ Q H') X.xe s
section
variable {X : Cx} {pos : Pos}
noncomputable def gName (i : Nat) : TG := fun v σ H Q => Q (σ.set i (some v)) H
theorem pg_name {i : Nat} {x : Str} (hN : X.N.Nodup) (hi : X.N[i]? = some x) (hx : Loc X.env.scope x) (hf : X.fn x = true ∨ X.env.scope.names.lookup x = some .local := by first | exact .inl rfl | exact .inr rfl | assumption) : PG X (.Name x pos) (gName i) := by
  intro pins s σ H v u Q I r h
  exact wpAny_assign_Name (store_ok I hN hi hx r (fun s' I' => ⟨_, H, I', h⟩) hf)
noncomputable def gNil : TGs := fun vs σ H Q => vs = [] ∧ Q σ H
noncomputable def gCons (t : TG) (u : TGs) : TGs := fun vs σ H Q => ∃ v r, vs = v :: r ∧ t v σ H fun σ' H' => u r σ' H' Q
theorem pgs_nil : PGs X [] gNil := by
  intro pins s σ H vs us Q I r h
  obtain ⟨e, h⟩ := h
  subst e
  cases r
  exact assignInOrder_nil ⟨σ, H, I, h⟩
theorem pgs_cons {e : Expr} {es : List Expr} {t : TG} {u : TGs} (h1 : PG X e t) (h2 : PGs X es u)
    (hs : (assignEach (e :: es) X.env).map (·.2) = assign e X.env :: (assignEach es X.env).map (·.2) := by rfl) : PGs X (e :: es) (gCons t u) := by
  intro pins s σ H vs us Q I r h
  obtain ⟨v, vr, e1, h⟩ := h
  subst e1
  cases r with
  | cons r rr =>
    rw [hs]
    refine assignInOrder_cons (thn (h1 pins s σ H _ _ _ I r h) fun _ s1 ⟨σ1, H1, I1, q1⟩ => ?_)
    exact h2 pins s1 σ1 H1 _ _ Q I1 rr q1
noncomputable def gTup (K : PySem.W.Frag) (n : Nat) (t : TGs) : TG := fun v σ H Q => ∃ a xs, v = .ref a ∧ SqT K H a xs ∧ xs.length = n ∧ t xs σ H Q
theorem pg_tup {es : List Expr} {k : Nat} {t : TGs} {n : Nat} (hc : X.calm = true) (h : PGs X es t)
    (hn : (assignEach es X.env).length = n := by rfl) (hst : (assignEach es X.env).findIdx? (·.1) = none := by rfl) : PG X (.Tuple es k pos) (gTup X.K n t) := by
  intro pins s σ H v u Q I r hw
  obtain ⟨a, xs, e1, hq, hl, hw⟩ := hw
  subst e1
  cases r
  obtain ⟨its, rv, ht, hz⟩ := I.tuple hq
  refine assign_Tuple_tuple (I.ok.hd hc) ht (by simp [hn, ← hl, rv.length]) hst fun h' hx => ?_
  have I1 : Inv X pins σ H { s with heap := h' } := I.kept (t' := s.toks) fun b o e => hx b o (Nat.ne_of_lt (Heap.lt_size e)) e
  exact h pins _ σ H xs _ Q I1 (by simpa using rv) hw
noncomputable def gSub (to ti : TE) (t : TSet) : TG := fun v σ H Q => to σ H fun o H1 => ti σ H1 fun i H2 => t o i v H2 fun H3 => Q σ H3
theorem pg_sub {o i : Expr} {to ti : TE} {t : TSet} (ho : PE X o to) (hi : PE X i ti) (hs : PSet X t)
    (ha : ∀ v, assign (.Subscript o i pos) X.env v = (do
      let ov ← holding [v] (eval o X.env)
      let iv ← holding [v, ov] (eval i X.env)
      standAt pos
      holding [v, ov, iv] (setItem ov iv v)
      release [v, ov, iv] []) := by intro _; rfl) : PG X (.Subscript o i pos) (gSub to ti t) := by
  intro pins s σ H v u Q I r h
  rw [ha]
  refine wpAny_bind (wpAny_holding (thn (ho pins s σ H _ I h) fun ov s1 ⟨x, H1, I1, r1, q1⟩ => ?_))
  refine wpAny_bind (wpAny_holding (thn (hi pins s1 σ H1 _ I1 q1) fun iv s2 ⟨y, H2, I2, r2, q2⟩ => ?_))
  refine wpAny_bind (wpAny_standAt (wpAny_bind (wpAny_holding (thn (hs pins s2 σ H2 x y v ov iv u _ I2 r1 r2 r q2) fun _ s3 ⟨H3, I3, q3⟩ => ?_))))
  exact wpAny_release ⟨σ, H3, I3, q3⟩
noncomputable def tAsg (te : TE) (g : TG) : TS := fun D σ H => te σ H fun x H1 => g x σ H1 D.nx
theorem ps_asg {tg e : Expr} {te : TE} {g : TG} (he : PE X e te) (hg : PG X tg g) (hs : swapsWithSole [tg] e pos.line X.env = pure false := by rfl) (hw : swappedStores [tg] e X.env = pure none := by rfl)
    (h1 : (assignEach [tg] X.env).map (·.2) = [assign tg X.env] := by rfl) : PS X (.Assign [tg] e pos) (tAsg te g) := by
  intro pins s σ H D I h
  refine wpAny_Assign_stores (thn (he pins s σ H _ I h) fun v s1 ⟨x, H1, I1, r1, q1⟩ => ?_) hs hw
  rw [h1]
  exact thn (hg pins s1 σ H1 x v _ I1 r1 q1) fun _ s2 q => q
theorem ps_set {i : Nat} {x : Str} {e : Expr} {te : TE} {pos' : Pos} (hN : X.N.Nodup) (hi : X.N[i]? = some x) (hx : Loc X.env.scope x) (he : PE X e te) (hs : swapsWith e (some (.Name x pos')) pos.line X.env = pure false := by rfl) (hf : X.fn x = true ∨ X.env.scope.names.lookup x = some .local := by first | exact .inl rfl | exact .inr rfl | assumption) :
    PS X (.Assign [.Name x pos'] e pos) (tAsg te (gName i)) := by
  intro pins s σ H D I h
  refine wpAny_Assign_Name (thn (he pins s σ H _ I h) fun v s1 ⟨y, H1, I1, r1, q1⟩ => ?_) hs
  exact store_ok I1 hN hi hx r1 (fun s2 I2 => ⟨_, H1, I2, q1⟩) hf
end

section
variable {X : Cx} {pos : Pos}
end

structure It where
  go : Nat → Hp → Prop
  yld : Nat → Hp → V → Hp → Prop
  stop : Nat → Hp → Prop
def FpOk (X : Cx) (pins : List (Addr × Obj)) (H : Hp) (b : Addr) : Prop :=
  H b = none ∧ b ≠ X.env.locals ∧ b ∉ X.fs ∧ (b ∈ X.ex ∨ X.s₀.heap.objs.size ≤ b) ∧ (∀ x c, X.env.cells.lookup x = some c → c ≠ b) ∧ ∀ p ∈ X.pn ++ pins, p.1 ≠ b
theorem Inv.fpOk {X : Cx} {pins : List (Addr × Obj)} {σ : St} {H H' : Hp} {s : Shared} {b : Addr} (I : Inv X pins σ H s) (hb : s.heap.objs.size ≤ b) (hn : H' b = none) : FpOk X pins H' b := by
  refine ⟨hn, Nat.ne_of_gt (Nat.lt_of_lt_of_le I.lt hb), I.nofs hb, .inr (Nat.le_trans I.sz hb), fun x c e z => ?_, fun p hp z => ?_⟩
  · obtain ⟨v, q⟩ := I.cell x c e
    exact absurd (Nat.lt_of_lt_of_le q.lt (by rw [z]; exact hb)) (Nat.lt_irrefl _)
  · exact absurd (Nat.lt_of_lt_of_le (Heap.lt_size (I.pin p hp).1) (by rw [z]; exact hb)) (Nat.lt_irrefl _)
structure Turn (P : Program) (w : World) (K : PySem.W.Frag) (tg : Expr) (J : It) (fp : List Addr) (it : Addr) (tn : Nat → Heap → Prop) : Prop where
  mem : it ∈ fp
  obj : ∀ i h, tn i h → ∀ b ∈ fp, ∃ o, h.get? b = some o ∧ ∀ v, o.data ≠ .cell v
  keep : ∀ i h h', tn i h → (∀ b ∈ fp, ∀ o, h.get? b = some o → h'.get? b = some o) → tn i h'
  item : ∀ (X : Cx), X.prog = P → X.w = w → X.K = K → X.calm = true → ∀ (i : Nat) (pins : List (Addr × Obj)) (s : Shared) (σ : St) (H : Hp) (E : Value → Shared → Prop), Inv X pins σ H s → (∀ b ∈ fp, FpOk X pins H b) → tn i s.heap → J.go i H →
    wpAny (model P w) X.A (pyNext (.ref it)) (fun r s1 => ∃ u, r = some u ∧
      wpAny (model P w) X.A (letOwnedTupleGo tg (.ref it) u) (fun _ s2 => ∃ x H', Inv X pins σ H' s2 ∧ RelV x u ∧ J.yld i H x H' ∧ tn (i + 1) s2.heap ∧ ∀ b ∈ fp, H' b = none) E s1) E s
  done : ∀ (X : Cx), X.prog = P → X.w = w → X.K = K → X.calm = true → ∀ (i : Nat) (pins : List (Addr × Obj)) (s : Shared) (σ : St) (H : Hp) (E : Value → Shared → Prop), Inv X pins σ H s → (∀ b ∈ fp, FpOk X pins H b) → tn i s.heap → J.stop i H →
    wpAny (model P w) X.A (pyNext (.ref it)) (fun r s1 => r = none ∧ Inv X pins σ H s1) E s
  self : ∀ (A : Around) (i : Nat) (s : Shared) (Q : Value → Shared → Prop) (E : Value → Shared → Prop), tn i s.heap → Q (.ref it) s → wpAny (model P w) A (pyIter (.ref it)) Q E s
abbrev TI := St → Hp → (It → Hp → Prop) → Prop
def PIE (X : Cx) (pins : List (Addr × Obj)) (σ : St) (tg : Expr) (R : It → Hp → Prop) (itv : Value) (s2 : Shared) : Prop :=
  ∃ (it : Addr) (fp : List Addr) (tn : Nat → Heap → Prop) (J : It) (H' : Hp), itv = .ref it ∧ Inv X pins σ H' s2 ∧ Turn X.prog X.w X.K tg J fp it tn ∧ tn 0 s2.heap ∧ (∀ b ∈ fp, FpOk X pins H' b) ∧ R J H'
def PI (X : Cx) (tg iter : Expr) (wi : TI) : Prop :=
  ∀ (pins : List (Addr × Obj)) (s : Shared) (σ : St) (H : Hp) (R : It → Hp → Prop), Inv X pins σ H s → wi σ H R →
    wpAny (model X.prog X.w) X.A (eval iter X.env) (fun v s1 => wpAny (model X.prog X.w) X.A (pyIter v) (PIE X pins σ tg R) X.xe s1) X.xe s

theorem go_of {M : Model} {A : Around} {E : Value → Shared → Prop} {s : Shared} {tg : Expr} {it : Addr} {u : Value} {o : Obj} {n : String} {vs : Array Value} {Q : Unit → Shared → Prop} (ho : s.heap.get? it = some o) (hc : o.cls = .type n) (hd : o.data = .fields vs)
    (hn : ["enumerate", "zip", "dict_itemiterator", "dict_reverseitemiterator", "odict_iterator", "itertools.zip_longest", "itertools.pairwise"].contains n = false) (hQ : Q () s) : wpAny M A (letOwnedTupleGo tg (.ref it) u) Q E s := by
  unfold letOwnedTupleGo
  cases tg <;> first
    | exact wpAny_pure hQ
    | (cases u <;> first
        | exact wpAny_pure hQ
        | (refine wpAny_bind (wpAny_load ho ?_)
           rw [hc, hd]
           show wpAny M A (if (["enumerate", "zip", "dict_itemiterator", "dict_reverseitemiterator", "odict_iterator", "itertools.zip_longest", "itertools.pairwise"].contains n && vs[0]? == some (rawInt _)) = true then _ else _) Q E s
           rw [if_neg (by intro h; rw [hn, Bool.false_and] at h; cases h)]
           exact wpAny_pure hQ))

noncomputable def Itl (K : PySem.W.Frag) (a : Addr) : It :=
  ⟨fun i H => ∃ xs x, SqL K H a xs ∧ xs[i]? = some x, fun i H x H' => H' = H ∧ ∀ xs, SqL K H a xs → xs[i]? = some x, fun i H => ∃ xs, SqL K H a xs ∧ xs.length ≤ i⟩
noncomputable def Itt (K : PySem.W.Frag) (a : Addr) : It :=
  ⟨fun i H => ∃ xs x, SqT K H a xs ∧ xs[i]? = some x, fun i H x H' => H' = H ∧ ∀ xs, SqT K H a xs → xs[i]? = some x, fun i H => ∃ xs, SqT K H a xs ∧ xs.length ≤ i⟩
noncomputable def Itr (lo : Int) (n : Nat) : It := ⟨fun i _ => i < n, fun i H x H' => H' = H ∧ x = .int (lo + i), fun i _ => n ≤ i⟩
theorem turn_list {P : Program} {w : World} {K : PySem.W.Frag} {tg : Expr} (a it : Addr) : Turn P w K tg (Itl K a) [it] it (fun i h => h.IsListIter it a i) where
  mem := by simp
  obj := fun i h st b hb => by
    have e : b = it := by simpa using hb
    subst e
    obtain ⟨o, e, c, d⟩ := st
    exact ⟨o, e, fun v z => by rw [d] at z; cases z⟩
  keep := fun i h h' st k => st.at fun o e => k it (by simp) o e
  item := by
    intro X hP hw hK hc i pins s σ H E I hf st hg
    subst hP hw hK
    obtain ⟨xs, x, hq, hx⟩ := hg
    obtain ⟨its, rv, p, hz⟩ := I.list hq
    obtain ⟨u, hu, ru⟩ := rv.get hx
    obtain ⟨f0, f1, f2, f3, f4, f5⟩ := hf it (by simp)
    refine wpAny_pyNext_list_item st p.isList (x := u) (by simpa using hu) fun h' st' sb => ?_
    have I1 : Inv X pins σ H { s with heap := h' } := I.turned (t' := s.toks) (fun b o hb e => (sb.2 b hb).trans e) f0 f1 f3 f4 f5
    obtain ⟨o, e, c, d⟩ := id st'
    exact ⟨u, rfl, go_of (s := { s with heap := h' }) e c d (by decide) ⟨x, H, I1, ru, ⟨rfl, fun ys hy => by rw [I.list_inj hy hq]; exact hx⟩, st', fun b hb => (hf b hb).1⟩⟩
  done := by
    intro X hP hw hK hc i pins s σ H E I hf st hg
    subst hP hw hK
    obtain ⟨xs, hq, hx⟩ := hg
    obtain ⟨its, rv, p, hz⟩ := I.list hq
    obtain ⟨f0, f1, f2, f3, f4, f5⟩ := hf it (by simp)
    have hl := rv.length
    exact wpAny_pyNext_list_end (I.ok.hd hc) st p.isList (by simp; omega) fun h' eb => ⟨rfl, I.turned (t' := s.toks) (fun b o hb e => eb b o hb e) f0 f1 f3 f4 f5⟩
  self := fun _ _ _ _ _ st h => wpAny_pyIter_listiter st h
theorem turn_tuple {P : Program} {w : World} {K : PySem.W.Frag} {tg : Expr} (a it : Addr) : Turn P w K tg (Itt K a) [it] it (fun i h => h.IsTupleIter it a i) where
  mem := by simp
  obj := fun i h st b hb => by
    have e : b = it := by simpa using hb
    subst e
    obtain ⟨o, e, c, d⟩ := st
    exact ⟨o, e, fun v z => by rw [d] at z; cases z⟩
  keep := fun i h h' st k => st.at fun o e => k it (by simp) o e
  item := by
    intro X hP hw hK hc i pins s σ H E I hf st hg
    subst hP hw hK
    obtain ⟨xs, x, hq, hx⟩ := hg
    obtain ⟨its, rv, p, hz⟩ := I.tuple hq
    obtain ⟨u, hu, ru⟩ := rv.get hx
    obtain ⟨f0, f1, f2, f3, f4, f5⟩ := hf it (by simp)
    refine wpAny_pyNext_tuple_item st (show s.heap.IsTuple a its.toArray from p) (x := u) (by simpa using hu) fun h' st' sb => ?_
    have I1 : Inv X pins σ H { s with heap := h' } := I.turned (t' := s.toks) (fun b o hb e => (sb.2 b hb).trans e) f0 f1 f3 f4 f5
    obtain ⟨o, e, c, d⟩ := id st'
    exact ⟨u, rfl, go_of (s := { s with heap := h' }) e c d (by decide) ⟨x, H, I1, ru, ⟨rfl, fun ys hy => by rw [I.tuple_inj hy hq]; exact hx⟩, st', fun b hb => (hf b hb).1⟩⟩
  done := by
    intro X hP hw hK hc i pins s σ H E I hf st hg
    subst hP hw hK
    obtain ⟨xs, hq, hx⟩ := hg
    obtain ⟨its, rv, p, hz⟩ := I.tuple hq
    obtain ⟨f0, f1, f2, f3, f4, f5⟩ := hf it (by simp)
    have hl := rv.length
    exact wpAny_pyNext_tuple_end (I.ok.hd hc) st (show s.heap.IsTuple a its.toArray from p) (by simp; omega) fun h' eb => ⟨rfl, I.turned (t' := s.toks) (fun b o hb e => eb b o hb e) f0 f1 f3 f4 f5⟩
  self := fun _ _ _ _ _ st h => wpAny_pyIter_tupleiter st h
theorem turn_range {P : Program} {w : World} {K : PySem.W.Frag} {tg : Expr} (it : Addr) (lo : Int) (n : Nat) : Turn P w K tg (Itr lo n) [it] it (fun i h => IsRangeIter h it (lo + (i : Nat) * 1) ((n : Int) - (i : Nat)) 1) where
  mem := by simp
  obj := fun i h st b hb => by
    have e : b = it := by simpa using hb
    subst e
    exact ⟨_, st, fun v z => by
      have z' : Data.fields _ = Data.cell v := z
      cases z'⟩
  keep := fun i h h' st k => k it (by simp) _ st
  item := by
    intro X hP hw hK hc i pins s σ H E I hf st hg
    subst hP hw hK
    obtain ⟨f0, f1, f2, f3, f4, f5⟩ := hf it (by simp)
    have W := Walks.range (prog := X.prog) (w := X.w) (I.ok.hd hc) it lo 1 n
    refine W.item i s _ _ hg st fun v h' tk hv st' kk => ?_
    obtain ⟨t, rfl⟩ := hv
    have I1 : Inv X pins σ H { s with heap := h', toks := tk } := I.turned (fun b o hb e => kk b o (by simpa using hb) e) f0 f1 f3 f4 f5
    refine ⟨_, rfl, go_of (s := { s with heap := h', toks := tk }) (n := "range_iterator") st' rfl rfl (by decide) ⟨.int (lo + i), H, I1, ⟨t, ?_⟩, ⟨rfl, rfl⟩, st', fun b hb => (hf b hb).1⟩⟩
    rw [Int.mul_one]
  done := by
    intro X hP hw hK hc i pins s σ H E I hf st hg
    subst hP hw hK
    obtain ⟨f0, f1, f2, f3, f4, f5⟩ := hf it (by simp)
    exact wpAny_pyNext_range_end (I.ok.hd hc) st (by have : n ≤ i := hg; omega) fun h' eb => ⟨rfl, I.turned (t' := s.toks) (fun b o hb e => eb b o hb e) f0 f1 f3 f4 f5⟩
  self := fun _ _ _ _ _ st h => wpAny_pyIter_rangeiter st h
end L2

namespace L2
open PySem PySem.Spec PyProof.Rows
section
variable {X : Cx} {tg : Expr}
noncomputable def iList (K : PySem.W.Frag) (tl : TE) : TI := fun σ H R => tl σ H fun x H1 => ∃ a, x = .ref a ∧ (∃ xs, SqL K H1 a xs) ∧ R (Itl K a) H1
noncomputable def iTup (K : PySem.W.Frag) (tl : TE) : TI := fun σ H R => tl σ H fun x H1 => ∃ a, x = .ref a ∧ (∃ xs, SqT K H1 a xs) ∧ R (Itt K a) H1
theorem pi_list {l : Expr} {tl : TE} (hl : PE X l tl) : PI X tg l (iList X.K tl) := by
  intro pins s σ H R I h
  refine thn (hl pins s σ H _ I h) fun v s1 ⟨x, H1, I1, r1, q1⟩ => ?_
  obtain ⟨a, e, ⟨xs, hq⟩, q⟩ := q1
  subst e
  cases r1
  obtain ⟨its, rv, p, hz⟩ := I1.list hq
  refine wpAny_pyIter_list p.isList ?_
  refine ⟨s1.heap.objs.size, [s1.heap.objs.size], _, _, H1, rfl, I1.kept (t' := s1.toks) fun b o e => Heap.get?_push_of_some _ e, turn_list a _, ⟨_, Heap.get?_push_size _ rfl, rfl, rfl⟩, fun b hb => ?_, q⟩
  have e : b = s1.heap.objs.size := by simpa using hb
  subst e
  exact I1.fpOk (Nat.le_refl _) (I1.hok.fresh (Nat.le_refl _))
theorem pi_tup {l : Expr} {tl : TE} (hl : PE X l tl) : PI X tg l (iTup X.K tl) := by
  intro pins s σ H R I h
  refine thn (hl pins s σ H _ I h) fun v s1 ⟨x, H1, I1, r1, q1⟩ => ?_
  obtain ⟨a, e, ⟨xs, hq⟩, q⟩ := q1
  subst e
  cases r1
  obtain ⟨its, rv, p, hz⟩ := I1.tuple hq
  refine wpAny_pyIter_tuple (show s1.heap.IsTuple a its.toArray from p) ?_
  refine ⟨s1.heap.objs.size, [s1.heap.objs.size], _, _, H1, rfl, I1.kept (t' := s1.toks) fun b o e => Heap.get?_push_of_some _ e, turn_tuple a _, ⟨_, Heap.get?_push_size _ rfl, rfl, rfl⟩, fun b hb => ?_, q⟩
  have e : b = s1.heap.objs.size := by simpa using hb
  subst e
  exact I1.fpOk (Nat.le_refl _) (I1.hok.fresh (Nat.le_refl _))
theorem range_it {pins : List (Addr × Obj)} {σ : St} {H : Hp} {s : Shared} {R : It → Hp → Prop} {E : Value → Shared → Prop} {lo hi : Int} {t u v : Tok} {tk : Nat} (I : Inv X pins σ H s) (h1 : -(2 ^ 62) ≤ lo) (h2 : lo < 2 ^ 62) (h3 : -(2 ^ 62) ≤ hi) (h4 : hi < 2 ^ 62)
    (q : R (Itr lo (hi - lo).toNat) H) : wpAny (model X.prog X.w) X.A (pyIter (.ref s.heap.objs.size)) (PIE X pins σ tg R) E { s with heap := s.heap.push { cls := .type "range", data := .fields #[.int lo t, .int hi u, .int 1 v] }, toks := tk } := by
  refine wpAny_pyIter_range (IsRange.new ..) (small_one h1 h2 h3 h4) ?_
  have I1 : Inv X pins σ H { s with heap := s.heap.push { cls := .type "range", data := .fields #[.int lo t, .int hi u, .int 1 v] }, toks := tk } := I.kept fun b o e => Heap.get?_push_of_some _ e
  refine ⟨(s.heap.push { cls := .type "range", data := .fields #[.int lo t, .int hi u, .int 1 v] }).objs.size, [(s.heap.push { cls := .type "range", data := .fields #[.int lo t, .int hi u, .int 1 v] }).objs.size], _, _, H, rfl,
    I1.kept (t' := tk) fun b o e => Heap.get?_push_of_some _ e, turn_range _ lo (hi - lo).toNat, ?_, fun b hb => ?_, q⟩
  · have e1 : lo + ((0 : Nat) : Int) * 1 = lo := by simp
    have e2 : (((hi - lo).toNat : Nat) : Int) - ((0 : Nat) : Int) = Builtin.Range.rangeSize lo hi 1 := by rw [rangeSize_one]; split <;> omega
    show IsRangeIter _ _ (lo + ((0 : Nat) : Int) * 1) ((((hi - lo).toNat : Nat) : Int) - ((0 : Nat) : Int)) 1
    rw [e1, e2]
    exact Heap.get?_push_size _ rfl
  · have e : b = (s.heap.push { cls := .type "range", data := .fields #[.int lo t, .int hi u, .int 1 v] }).objs.size := by simpa using hb
    subst e
    exact I1.fpOk (Nat.le_refl _) (I1.hok.fresh (Nat.le_refl _))
noncomputable def iRng1 (ta : TA) : TI := fun σ H R => ta σ H fun vs H1 => ∃ j : Int, vs = [.int j] ∧ -(2 ^ 62) ≤ j ∧ j < 2 ^ 62 ∧ R (Itr 0 j.toNat) H1
noncomputable def iRng2 (ta : TA) : TI := fun σ H R => ta σ H fun vs H1 => ∃ i j : Int, vs = [.int i, .int j] ∧ (-(2 ^ 62) ≤ i ∧ i < 2 ^ 62 ∧ -(2 ^ 62) ≤ j ∧ j < 2 ^ 62) ∧ R (Itr i (j - i).toNat) H1
theorem pi_range1 {a : Expr} {ta : TA} {p pos : Pos} (hg : Gl X "range") (hm : X.mg "range" = none) (ha : PA X [a] ta) (hs : starEach [a] X.env = [(false, eval a X.env)] := by rfl) : PI X tg (.Call (.Name "range" p) [a] [] pos) (iRng1 ta) := by
  intro pins s σ H R I h
  refine Call_ (ld_blt I hg hm boot_range (PyProof.Rows.callWith_type1 (thn (ha pos pins s σ H _ I h) fun us s1 ⟨vs, H1, I1, r1, q1⟩ => ?_) hs rfl))
  obtain ⟨j, e, q1, q2, q⟩ := q1
  subst e
  cases r1 with
  | cons r rr =>
    cases rr
    obtain ⟨t, rfl⟩ := r
    exact call_range_1 (range_it I1 (by omega) (by omega) q1 q2 (by simpa using q))
theorem pi_range2 {a b : Expr} {ta : TA} {p pos : Pos} (hg : Gl X "range") (hm : X.mg "range" = none) (ha : PA X [a, b] ta) (hs : starEach [a, b] X.env = [(false, eval a X.env), (false, eval b X.env)] := by rfl) (hs2 : starEach [b] X.env = [(false, eval b X.env)] := by rfl) :
    PI X tg (.Call (.Name "range" p) [a, b] [] pos) (iRng2 ta) := by
  intro pins s σ H R I h
  refine Call_ (ld_blt I hg hm boot_range (PyProof.Rows.callWith_type1 (thn (ha pos pins s σ H _ I h) fun us s1 ⟨vs, H1, I1, r1, q1⟩ => ?_) (by rw [hs, hs2]) (by rw [hs2]; rfl)))
  obtain ⟨i, j, e, ⟨q1, q2, q3, q4⟩, q⟩ := q1
  subst e
  cases r1 with
  | cons r rr =>
    cases rr with
    | cons r' rr =>
      cases rr
      obtain ⟨t, rfl⟩ := r
      obtain ⟨t', rfl⟩ := r'
      exact call_range_2 (range_it I1 q1 q2 q3 q4 q)

noncomputable def tFor (wi : TI) (g : TG) (tb : TS) : TS := fun D σ H => wi σ H fun J H1 => ∃ W : Nat → Nat → St → Hp → Prop, (∃ m, W 0 m σ H1) ∧ ∀ i m σ H, W i m σ H →
  (J.stop i H ∧ D.nx σ H) ∨ (J.go i H ∧ ∃ N : St → Hp → Prop, (∀ σ' H', N σ' H' → ∃ m', m' < m ∧ W (i + 1) m' σ' H') ∧ ∀ x H', J.yld i H x H' → g x σ H' fun σ2 H2 => tb { D with nx := N, ct := N, bk := D.nx } σ2 H2)
noncomputable def pinsAt (fp : List Addr) (h : Heap) : List (Addr × Obj) := fp.filterMap fun b => (h.get? b).map fun o => (b, o)
theorem mem_pinsAt {fp : List Addr} {h : Heap} {b : Addr} {o : Obj} (hb : b ∈ fp) (e : h.get? b = some o) : (b, o) ∈ pinsAt fp h := List.mem_filterMap.mpr ⟨b, hb, by rw [e]; rfl⟩
theorem of_pinsAt {fp : List Addr} {h : Heap} {p : Addr × Obj} (hp : p ∈ pinsAt fp h) : p.1 ∈ fp ∧ h.get? p.1 = some p.2 := by
  obtain ⟨b, hb, e⟩ := List.mem_filterMap.mp hp
  cases q : h.get? b with
  | none => rw [q] at e; cases e
  | some o =>
    rw [q] at e
    have e' : (b, o) = p := Option.some.inj e
    subst e'
    exact ⟨hb, q⟩
theorem Inv.pinned {pins : List (Addr × Obj)} {σ : St} {H : Hp} {s : Shared} {fp : List Addr} (I : Inv X pins σ H s) (hf : ∀ b ∈ fp, FpOk X pins H b) (ho : ∀ b ∈ fp, ∃ o, s.heap.get? b = some o ∧ ∀ v, o.data ≠ .cell v) : Inv X (pins ++ pinsAt fp s.heap) σ H s :=
  I.pins_of fun p hp => (List.mem_append.mp hp).elim (fun z => I.pin p (List.mem_append_right _ z)) fun z => by
    obtain ⟨hb, e⟩ := of_pinsAt z
    obtain ⟨f0, f1, f2, _⟩ := hf p.1 hb
    obtain ⟨o, e', d⟩ := ho p.1 hb
    rw [e] at e'; cases e'
    exact ⟨e, f0, f1, f2, d⟩
theorem Inv.unpinned {pins pl : List (Addr × Obj)} {σ : St} {H : Hp} {s : Shared} (I : Inv X (pins ++ pl) σ H s) : Inv X pins σ H s := I.pins_of fun p hp => I.pin p (List.mem_append_right _ (List.mem_append_left _ hp))
theorem ps_for {iter : Expr} {body : List Stmt} {wi : TI} {g : TG} {tb : TS} {pos : Pos} (hp : PassesOwn (model X.prog X.w) X.A X.env X.xe) (hc : X.calm = true) (hi : PI X tg iter wi) (hg : PG X tg g) (hb : PSs X body tb)
    (hs : ∀ x, foldedSetIterable iter X.env x = pure x := by intro _; rfl) : PS X (.For tg iter body [] pos) (tFor wi g tb) := by
  intro pins s σ H D I h
  refine wpAny_For (thn (hi pins s σ H _ I h) fun v s1 h1 => thn h1 fun itv s2 h2 => ?_) hs
  obtain ⟨it, fp, tn, J, H2, e, I2, T, st2, f2, W, ⟨m0, w0⟩, turn⟩ := h2
  subst e
  -- what stays true of the iterator's objects through the loop
  have stat : ∀ {H' : Hp}, (∀ b ∈ fp, H' b = none) → ∀ b ∈ fp, FpOk X pins H' b := fun hn b hb => ⟨hn b hb, (f2 b hb).2⟩
  refine codeAny_forLoop_any (fun n s' => ∃ i σ' H', Inv X pins σ' H' s' ∧ tn i s'.heap ∧ (∀ b ∈ fp, H' b = none) ∧ W i n σ' H') ?_ m0 ⟨0, σ, H2, I2, st2, fun b hb => (f2 b hb).1, w0⟩
  rintro n s3 ⟨i, σ3, H3, I3, st3, fr3, w3⟩
  rcases turn i n σ3 H3 w3 with ⟨stop, qn⟩ | ⟨go, N, hN, step⟩
  · refine wpAny_passesOwn hp (thn (T.done X rfl rfl rfl hc i pins s3 σ3 H3 X.xe I3 (stat fr3) st3 stop) fun r s4 ⟨hr, I4⟩ => ?_)
    subst hr
    exact wpAny_execs_nil ⟨σ3, H3, I4, qn⟩
  · refine wpAny_passesOwn hp (thn (T.item X rfl rfl rfl hc i pins s3 σ3 H3 X.xe I3 (stat fr3) st3 go) fun r s4 ⟨u, hr, h4⟩ => ?_)
    subst hr
    refine wpAny_passesOwn hp (thn h4 fun _ s5 ⟨x, H5, I5, r5, y5, st5, fr5⟩ => ?_)
    have I5' := I5.pinned (stat fr5) (T.obj _ _ st5)
    refine wpAny_passesOwn hp (thn (hg _ s5 σ3 H5 x u _ I5' r5 (step x H5 y5)) fun _ s6 ⟨σ6, H6, I6, q6⟩ => ?_)
    refine wpAny_passesOwn hp (thn (hb _ s6 σ6 H6 _ I6 q6) fun f s7 q7 => ?_)
    have again : ∀ {σ7 : St} {H7 : Hp}, Inv X (pins ++ pinsAt fp s5.heap) σ7 H7 s7 → N σ7 H7 → ∃ m, m < n ∧ ∃ i σ' H', Inv X pins σ' H' s7 ∧ tn i s7.heap ∧ (∀ b ∈ fp, H' b = none) ∧ W i m σ' H' := fun {σ7 H7} I7 n7 => by
      obtain ⟨m', hm, w7⟩ := hN σ7 H7 n7
      refine ⟨m', hm, i + 1, σ7, H7, I7.unpinned, T.keep _ _ _ st5 fun b hb o e => (I7.pin (b, o) (List.mem_append_right _ (List.mem_append_right _ (mem_pinsAt hb e)))).1, fun b hb => ?_, w7⟩
      obtain ⟨o, e, d⟩ := T.obj _ _ st5 b hb
      exact (I7.pin (b, o) (List.mem_append_right _ (List.mem_append_right _ (mem_pinsAt hb e)))).2.1
    cases f with
    | next => obtain ⟨σ7, H7, I7, n7⟩ := q7; exact again I7 n7
    | cont => obtain ⟨σ7, H7, I7, n7⟩ := q7; exact again I7 n7
    | brk => obtain ⟨σ7, H7, I7, q7⟩ := q7; exact ⟨σ7, H7, I7.unpinned, q7⟩
    | ret v => obtain ⟨x7, σ7, H7, I7, r7, q7⟩ := q7; exact ⟨x7, σ7, H7, I7.unpinned, r7, q7⟩
end

theorem for_tup {K : PySem.W.Frag} {a : Addr} {xs : List V} {g : TG} {tb : TS} {D : Ends} {σ : St} {H : Hp} (Pv : Nat → St → Hp → Prop) (h0 : Pv 0 σ H) (hl : ∀ i σ H, i ≤ xs.length → Pv i σ H → SqT K H a xs)
    (hs : ∀ i x σ H, xs[i]? = some x → Pv i σ H → g x σ H fun σ2 H2 => tb { D with nx := Pv (i + 1), ct := Pv (i + 1), bk := D.nx } σ2 H2) (hd : ∀ σ H, Pv xs.length σ H → D.nx σ H) :
    ∃ W : Nat → Nat → St → Hp → Prop, (∃ m, W 0 m σ H) ∧ ∀ i m σ H, W i m σ H →
      ((Itt K a).stop i H ∧ D.nx σ H) ∨ ((Itt K a).go i H ∧ ∃ N : St → Hp → Prop, (∀ σ' H', N σ' H' → ∃ m', m' < m ∧ W (i + 1) m' σ' H') ∧ ∀ x H', (Itt K a).yld i H x H' → g x σ H' fun σ2 H2 => tb { D with nx := N, ct := N, bk := D.nx } σ2 H2) := by
  refine ⟨fun i m σ H => m = xs.length - i ∧ i ≤ xs.length ∧ Pv i σ H, ⟨xs.length, by simp, Nat.zero_le _, h0⟩, ?_⟩
  rintro i m σ H ⟨rfl, hi, p⟩
  have q := hl i σ H hi p
  by_cases hlt : i < xs.length
  · refine .inr ⟨⟨xs, xs[i], q, by simp [hlt]⟩, Pv (i + 1), fun σ' H' p' => ⟨xs.length - (i + 1), by omega, rfl, hlt, p'⟩, fun x H' y => ?_⟩
    obtain ⟨e, y⟩ := y
    subst e
    exact hs i x σ _ (y xs q) p
  · have e : i = xs.length := by omega
    subst e
    exact .inl ⟨⟨xs, q, Nat.le_refl _⟩, hd σ H p⟩
theorem for_range {lo : Int} {n : Nat} {g : TG} {tb : TS} {D : Ends} {σ : St} {H : Hp} (Pv : Nat → St → Hp → Prop) (h0 : Pv 0 σ H)
    (hs : ∀ i σ H, i < n → Pv i σ H → g (.int (lo + i)) σ H fun σ2 H2 => tb { D with nx := Pv (i + 1), ct := Pv (i + 1), bk := D.nx } σ2 H2) (hd : ∀ σ H, Pv n σ H → D.nx σ H) :
    ∃ W : Nat → Nat → St → Hp → Prop, (∃ m, W 0 m σ H) ∧ ∀ i m σ H, W i m σ H →
      ((Itr lo n).stop i H ∧ D.nx σ H) ∨ ((Itr lo n).go i H ∧ ∃ N : St → Hp → Prop, (∀ σ' H', N σ' H' → ∃ m', m' < m ∧ W (i + 1) m' σ' H') ∧ ∀ x H', (Itr lo n).yld i H x H' → g x σ H' fun σ2 H2 => tb { D with nx := N, ct := N, bk := D.nx } σ2 H2) := by
  refine ⟨fun i m σ H => m = n - i ∧ i ≤ n ∧ Pv i σ H, ⟨n, by simp, Nat.zero_le _, h0⟩, ?_⟩
  rintro i m σ H ⟨rfl, hi, p⟩
  by_cases hlt : i < n
  · refine .inr ⟨hlt, Pv (i + 1), fun σ' H' p' => ⟨n - (i + 1), by omega, rfl, hlt, p'⟩, fun x H' y => ?_⟩
    obtain ⟨e, y⟩ := y
    subst e y
    exact hs i σ _ hlt p
  · have e : i = n := by omega
    subst e
    exact .inl ⟨Nat.le_refl _, hd σ H p⟩
end L2

namespace L2
open PySem PySem.Spec PyProof.Rows

abbrev R2 := V → V → Hp → VK → Prop
def OpR (X : Cx) (f : Value → Value → Sem Value) (r : R2) : Prop :=
  ∀ (pins : List (Addr × Obj)) (s : Shared) (σ : St) (H : Hp) (x y : V) (v u : Value) (Q : VK), Inv X pins σ H s → RelV x v → RelV y u → r x y H Q →
    wpAny (model X.prog X.w) X.A (f v u) (EP X pins σ Q) X.xe s
def UnR (X : Cx) (f : Value → Sem Value) (r : V → Hp → VK → Prop) : Prop :=
  ∀ (pins : List (Addr × Obj)) (s : Shared) (σ : St) (H : Hp) (x : V) (v : Value) (Q : VK), Inv X pins σ H s → RelV x v → r x H Q →
    wpAny (model X.prog X.w) X.A (f v) (EP X pins σ Q) X.xe s
def CallR (X : Cx) (f : Value) (r : List V → Hp → VK → Prop) : Prop :=
  ∀ (pins : List (Addr × Obj)) (s : Shared) (σ : St) (H : Hp) (xs : List V) (us : List Value) (Q : VK), Inv X pins σ H s → Vals xs us → r xs H Q →
    wpAny (model X.prog X.w) X.A (call f us) (EP X pins σ Q) X.xe s

noncomputable def tOp (r : R2) (ta tb : TE) : TE := fun σ H Q => ta σ H fun x H1 => tb σ H1 fun y H2 => r x y H2 Q
noncomputable def tUn (r : V → Hp → VK → Prop) (ta : TE) : TE := fun σ H Q => ta σ H fun x H1 => r x H1 Q
noncomputable def rI (C : Int → Int → Prop) (g : Int → Int → V) : R2 := fun x y H Q => ∃ i j, x = .int i ∧ y = .int j ∧ C i j ∧ Q (g i j) H
noncomputable def rI0 (g : Int → Int → V) : R2 := fun x y H Q => ∃ i j, x = .int i ∧ y = .int j ∧ Q (g i j) H
def rU (g : Int → V) : V → Hp → VK → Prop := fun x H Q => ∃ i, x = .int i ∧ Q (g i) H

section
variable {X : Cx} {a b c : Expr} {ta tb tc : TE} {pos : Pos}

theorem binT (ha : PE X a ta) (hb : PE X b tb) {pins : List (Addr × Obj)} {s : Shared} {σ : St} {H : Hp} {R : V → V → Hp → Prop} (I : Inv X pins σ H s)
    (h : ta σ H fun x H1 => tb σ H1 fun y H2 => R x y H2) {Q : Value → Shared → Prop} {f : Value → Value → Sem Value}
    (hf : ∀ v u s2 x y H2, Inv X pins σ H2 s2 → RelV x v → RelV y u → R x y H2 → wpAny (model X.prog X.w) X.A (f v u) Q X.xe s2) :
    wpAny (model X.prog X.w) X.A (eval a X.env) (fun v s₁ => wpAny (model X.prog X.w) X.A (eval b X.env) (fun u s₂ => wpAny (model X.prog X.w) X.A (f v u) Q X.xe s₂) X.xe s₁) X.xe s := by
  refine thn (ha pins s σ H _ I h) fun v s1 ⟨x, H1, I1, r1, q1⟩ => ?_
  refine thn (hb pins s1 σ H1 _ I1 q1) fun u s2 ⟨y, H2, I2, r2, q2⟩ => ?_
  exact hf v u s2 x y H2 I2 r1 r2 q2

theorem pe_op {op : Operator} {r : R2} (ho : OpR X (binaryOp op) r) (ha : PE X a ta) (hb : PE X b tb) : PE X (.BinOp a op b pos) (tOp r ta tb) := by
  intro pins s σ H Q I h
  exact wpAny_BinOp (binT ha hb I h fun v u s2 x y H2 I2 rx ry q => ho pins s2 σ H2 x y v u Q I2 rx ry q)
theorem pe_un {op : UnaryOp} {r : V → Hp → VK → Prop} (ho : UnR X (unaryOp op) r) (ha : PE X a ta) : PE X (.UnaryOp op a pos) (tUn r ta) := by
  intro pins s σ H Q I h
  exact UnaryOp_ (thn (ha pins s σ H _ I h) fun v s1 ⟨x, H1, I1, r1, q1⟩ => ho pins s1 σ H1 x v Q I1 r1 q1)

theorem opI {f : Value → Value → Sem Value} {C : Int → Int → Prop} {g : Int → Int → Int}
    (rule : ∀ (i j : Int) (t u : Tok) (s : Shared) (Q : Value → Shared → Prop) (E : Value → Shared → Prop), C i j → Q (.int (g i j) s.toks) { s with toks := s.toks + 1 } → wpAny (model X.prog X.w) X.A (f (.int i t) (.int j u)) Q E s) :
    OpR X f (rI C fun i j => .int (g i j)) := by
  intro pins s σ H x y v u Q I rx ry h
  obtain ⟨i, j, rfl, rfl, hc, q⟩ := h
  obtain ⟨t, rfl⟩ := rx
  obtain ⟨t', rfl⟩ := ry
  exact rule i j t t' s _ _ hc ⟨.int (g i j), H, I.tok _, ⟨_, rfl⟩, q⟩
theorem opI0 {f : Value → Value → Sem Value} {g : Int → Int → Int}
    (rule : ∀ (i j : Int) (t u : Tok) (s : Shared) (Q : Value → Shared → Prop) (E : Value → Shared → Prop), Q (.int (g i j) s.toks) { s with toks := s.toks + 1 } → wpAny (model X.prog X.w) X.A (f (.int i t) (.int j u)) Q E s) :
    OpR X f (rI0 fun i j => .int (g i j)) := by
  intro pins s σ H x y v u Q I rx ry h
  obtain ⟨i, j, rfl, rfl, q⟩ := h
  obtain ⟨t, rfl⟩ := rx
  obtain ⟨t', rfl⟩ := ry
  exact rule i j t t' s _ _ ⟨.int (g i j), H, I.tok _, ⟨_, rfl⟩, q⟩
theorem opB0 {f : Value → Value → Sem Value} {g : Int → Int → Bool}
    (rule : ∀ (i j : Int) (t u : Tok) (s : Shared) (Q : Value → Shared → Prop) (E : Value → Shared → Prop), Q (.bool (g i j)) s → wpAny (model X.prog X.w) X.A (f (.int i t) (.int j u)) Q E s) :
    OpR X f (rI0 fun i j => .bl (g i j)) := by
  intro pins s σ H x y v u Q I rx ry h
  obtain ⟨i, j, rfl, rfl, q⟩ := h
  obtain ⟨t, rfl⟩ := rx
  obtain ⟨t', rfl⟩ := ry
  exact rule i j t t' s _ _ ⟨.bl (g i j), H, I, rfl, q⟩

def CDiv (i j : Int) : Prop := 0 < j ∧ j < 1073741824
def CDivN (i j : Int) : Prop := j ≠ 0 ∧ j.natAbs < 1073741824
def CMul (i j : Int) : Prop := (-(2 ^ 64) < i ∧ i < 2 ^ 64) ∨ (-(2 ^ 64) < j ∧ j < 2 ^ 64)
theorem CMul.ok {i j : Int} (h : CMul i j) : IntMulOk i j := by
  rcases h with ⟨h1, h2⟩ | ⟨h1, h2⟩
  · exact .of_left (intBits_le_64 h1 h2)
  · exact .of_right (intBits_le_64 h1 h2)

theorem op_add : OpR X (binaryOp .Add) (rI0 fun i j => .int (i + j)) := opI0 fun _ _ _ _ _ _ _ q => add_int q
theorem op_sub : OpR X (binaryOp .Sub) (rI0 fun i j => .int (i - j)) := opI0 fun _ _ _ _ _ _ _ q => sub_int q
theorem op_mul : OpR X (binaryOp .Mult) (rI CMul fun i j => .int (i * j)) := opI fun _ _ _ _ _ _ _ hc q => mul_int q hc.ok
theorem op_fdiv : OpR X (binaryOp .FloorDiv) (rI CDiv fun i j => .int (i / j)) := opI fun i j _ _ _ _ _ hc q => by
  have h1 : (0 : Int) < j := hc.1
  have h2 : j < 1073741824 := hc.2
  exact floordiv_int (by omega) (by rw [Int.fdiv_eq_ediv_of_nonneg i (by omega)]; exact q) (.inl (PyProof.noPylong_small (by omega)))
theorem op_fdivN : OpR X (binaryOp .FloorDiv) (rI CDivN fun i j => .int (i.fdiv j)) := opI fun _ _ _ _ _ _ _ hc q => floordiv_int hc.1 q (.inl (PyProof.noPylong_small hc.2))
theorem op_mod : OpR X (binaryOp .Mod) (rI (fun _ j => 0 < j) fun i j => .int (i % j)) := opI fun i j _ _ _ _ _ hc q => by
  have h1 : (0 : Int) < j := hc
  exact mod_int' (by omega) (by rw [Int.fmod_eq_emod_of_nonneg i (by omega)]; exact q)
theorem op_modN : OpR X (binaryOp .Mod) (rI (fun _ j => j ≠ 0) fun i j => .int (i.fmod j)) := opI fun _ _ _ _ _ _ _ hc q => mod_int' hc q


theorem unI {f : Value → Sem Value} {g : Int → Int}
    (rule : ∀ (i : Int) (t : Tok) (s : Shared) (Q : Value → Shared → Prop) (E : Value → Shared → Prop), Q (.int (g i) s.toks) { s with toks := s.toks + 1 } → wpAny (model X.prog X.w) X.A (f (.int i t)) Q E s) :
    UnR X f (rU fun i => .int (g i)) := by
  intro pins s σ H x v Q I rx h
  obtain ⟨i, rfl, q⟩ := h
  obtain ⟨t, rfl⟩ := rx
  exact rule i t s _ _ ⟨.int (g i), H, I.tok _, ⟨_, rfl⟩, q⟩
theorem un_neg : UnR X (unaryOp .USub) (rU fun i => .int (-i)) := unI fun _ _ _ _ _ q => neg_int q

end

noncomputable def scal : V → V → Bool
  | .non, .non => true | .non, .int _ => true | .int _, .non => true | .non, .bl _ => true | .bl _, .non => true | .non, .str _ => true | .str _, .non => true
  | .int _, .int _ => true | .bl _, .bl _ => true | .str _, .str _ => true | .byt _, .byt _ => true
  | .int _, .str _ => true | .str _, .int _ => true | .bl _, .str _ => true | .str _, .bl _ => true
  | _, _ => false
noncomputable def rEq : R2 := fun x y H Q => scal x y = true ∧ Q (.bl (decide (x = y))) H
noncomputable def rNe : R2 := fun x y H Q => scal x y = true ∧ Q (.bl (!decide (x = y))) H

theorem dec_int {i j : Int} : decide (V.int i = V.int j) = (i == j) := by
  rw [Bool.eq_iff_iff]
  simp
theorem dec_bl {i j : Bool} : decide (V.bl i = V.bl j) = (i == j) := by
  rw [Bool.eq_iff_iff]
  simp
theorem dec_str {i j : Str} : decide (V.str i = V.str j) = (i == j) := by
  rw [Bool.eq_iff_iff]
  simp
theorem dec_byt {i j : Array UInt8} : decide (V.byt i = V.byt j) = (i.toList == j.toList) := by
  rw [Bool.eq_iff_iff]
  cases i
  cases j
  simp

section
variable {X : Cx} {a b c : Expr} {ta tb tc : TE} {pos : Pos}
theorem fin_bl {pins : List (Addr × Obj)} {σ : St} {H : Hp} {s : Shared} {Q : VK} {k k' : Bool} (I : Inv X pins σ H s) (q : Q (.bl k) H) (e : k = k') : EP X pins σ Q (.bool k') s := by
  subst e
  exact ⟨.bl k, H, I, rfl, q⟩
theorem op_eq : OpR X (compareOp .Eq) rEq := by
  intro pins s σ H x y v u Q I rx ry h
  obtain ⟨hs, q⟩ := h
  cases x with
  | non =>
    cases rx
    cases y with
    | non => cases ry; exact PySem.EqNone.eq_none_none (fin_bl I q (by simp))
    | bl j => cases ry; exact PySem.EqNone.eq_none_bool (fin_bl I q (by simp))
    | int j => obtain ⟨t', rfl⟩ := ry; exact PySem.EqNone.eq_none_int (fin_bl I q (by simp))
    | str j => obtain ⟨t', rfl⟩ := ry; exact PySem.EqNone.eq_none_str (fin_bl I q (by simp))
    | _ => exact absurd (show false = true from hs) Bool.false_ne_true
  | bl i =>
    cases rx
    cases y with
    | non => cases ry; exact PySem.EqNone.eq_bool_none (fin_bl I q (by simp))
    | bl j => cases ry; exact eq_bool (fin_bl I q dec_bl)
    | str j => obtain ⟨t', rfl⟩ := ry; exact PySem.EqMixed.eq_bool_str (fin_bl I q (by simp))
    | _ => exact absurd (show false = true from hs) Bool.false_ne_true
  | int i =>
    obtain ⟨t, rfl⟩ := rx
    cases y with
    | non => cases ry; exact PySem.EqNone.eq_int_none (fin_bl I q (by simp))
    | int j => obtain ⟨t', rfl⟩ := ry; exact eq_int (fin_bl I q dec_int)
    | str j => obtain ⟨t', rfl⟩ := ry; exact PySem.EqMixed.eq_int_str (fin_bl I q (by simp))
    | _ => exact absurd (show false = true from hs) Bool.false_ne_true
  | str i =>
    obtain ⟨t, rfl⟩ := rx
    cases y with
    | non => cases ry; exact PySem.EqNone.eq_str_none (fin_bl I q (by simp))
    | bl j => cases ry; exact PySem.EqMixed.eq_str_bool (fin_bl I q (by simp))
    | int j => obtain ⟨t', rfl⟩ := ry; exact PySem.EqMixed.eq_str_int (fin_bl I q (by simp))
    | str j => obtain ⟨t', rfl⟩ := ry; exact eq_str (fin_bl I q dec_str)
    | _ => exact absurd (show false = true from hs) Bool.false_ne_true
  | byt i =>
    obtain ⟨t, rfl⟩ := rx
    cases y with
    | byt j => obtain ⟨t', rfl⟩ := ry; exact PySem.W.eq_bytes (fin_bl I q dec_byt)
    | _ => exact absurd (show false = true from hs) Bool.false_ne_true
  | _ => cases y <;> exact absurd (show false = true from hs) Bool.false_ne_true
theorem op_ne : OpR X (compareOp .NotEq) rNe := by
  intro pins s σ H x y v u Q I rx ry h
  obtain ⟨hs, q⟩ := h
  cases x with
  | non =>
    cases rx
    cases y with
    | non => cases ry; exact PySem.EqNone.ne_none_none (fin_bl I q (by simp))
    | bl j => cases ry; exact PySem.EqNone.ne_none_bool (fin_bl I q (by simp))
    | int j => obtain ⟨t', rfl⟩ := ry; exact PySem.EqNone.ne_none_int (fin_bl I q (by simp))
    | str j => obtain ⟨t', rfl⟩ := ry; exact PySem.EqNone.ne_none_str (fin_bl I q (by simp))
    | _ => exact absurd (show false = true from hs) Bool.false_ne_true
  | bl i =>
    cases rx
    cases y with
    | non => cases ry; exact PySem.EqNone.ne_bool_none (fin_bl I q (by simp))
    | bl j => cases ry; exact ne_bool (fin_bl I q (congrArg not dec_bl))
    | str j => obtain ⟨t', rfl⟩ := ry; exact PySem.EqMixed.ne_bool_str (fin_bl I q (by simp))
    | _ => exact absurd (show false = true from hs) Bool.false_ne_true
  | int i =>
    obtain ⟨t, rfl⟩ := rx
    cases y with
    | non => cases ry; exact PySem.EqNone.ne_int_none (fin_bl I q (by simp))
    | int j => obtain ⟨t', rfl⟩ := ry; exact ne_int (fin_bl I q (congrArg not dec_int))
    | str j => obtain ⟨t', rfl⟩ := ry; exact PySem.EqMixed.ne_int_str (fin_bl I q (by simp))
    | _ => exact absurd (show false = true from hs) Bool.false_ne_true
  | str i =>
    obtain ⟨t, rfl⟩ := rx
    cases y with
    | non => cases ry; exact PySem.EqNone.ne_str_none (fin_bl I q (by simp))
    | bl j => cases ry; exact PySem.EqMixed.ne_str_bool (fin_bl I q (by simp))
    | int j => obtain ⟨t', rfl⟩ := ry; exact PySem.EqMixed.ne_str_int (fin_bl I q (by simp))
    | str j => obtain ⟨t', rfl⟩ := ry; exact ne_str (fin_bl I q (congrArg not dec_str))
    | _ => exact absurd (show false = true from hs) Bool.false_ne_true
  | byt i =>
    obtain ⟨t, rfl⟩ := rx
    cases y with
    | byt j => obtain ⟨t', rfl⟩ := ry; exact PySem.W.ne_bytes (fin_bl I q (congrArg not dec_byt))
    | _ => exact absurd (show false = true from hs) Bool.false_ne_true
  | _ => cases y <;> exact absurd (show false = true from hs) Bool.false_ne_true

theorem op_lt : OpR X (compareOp .Lt) (rI0 fun i j => .bl (decide (i < j))) := opB0 fun _ _ _ _ _ _ _ q => lt_int q
theorem op_le : OpR X (compareOp .LtE) (rI0 fun i j => .bl (decide (i ≤ j))) := opB0 fun _ _ _ _ _ _ _ q => le_int q
theorem op_gt : OpR X (compareOp .Gt) (rI0 fun i j => .bl (decide (j < i))) := opB0 fun _ _ _ _ _ _ _ q => gt_int q
theorem op_ge : OpR X (compareOp .GtE) (rI0 fun i j => .bl (decide (j ≤ i))) := opB0 fun _ _ _ _ _ _ _ q => ge_int q
theorem op_in_str : OpR X (compareOp .In) (fun x y H Q => ∃ i j, x = .str i ∧ y = .str j ∧ Q (.bl (!(Builtin.Str.occurrences j i 0 j.length 1).isEmpty)) H) := by
  intro pins s σ H x y v u Q I rx ry h
  obtain ⟨i, j, rfl, rfl, q⟩ := h
  obtain ⟨t, rfl⟩ := rx
  obtain ⟨t', rfl⟩ := ry
  exact in_str (fin_bl I q rfl)

theorem op_isN : OpR X (compareOp .Is) (fun x y H Q => y = .non ∧ Q (.bl (decide (x = .non))) H) := by
  intro pins s σ H x y v u Q I rx ry h
  obtain ⟨rfl, q⟩ := h
  cases ry
  refine is_none_gen (fin_bl I q ?_)
  cases x <;> first
    | (cases rx; rfl)
    | (obtain ⟨t, rfl⟩ := rx; rfl)
theorem op_notN : OpR X (compareOp .IsNot) (fun x y H Q => y = .non ∧ Q (.bl (!decide (x = .non))) H) := by
  intro pins s σ H x y v u Q I rx ry h
  obtain ⟨rfl, q⟩ := h
  cases ry
  refine isnot_none_gen (fin_bl I q ?_)
  cases x <;> first
    | (cases rx; rfl)
    | (obtain ⟨t, rfl⟩ := rx; rfl)



theorem pe_cmpR {op : CmpOp} {r : R2} (ho : OpR X (compareOp op) r) (ha : PE X a ta) (hb : PE X b tb) (hm : behindInMarks op b = false) : PE X (.Compare a [op] [b] pos) (tOp r ta tb) := by
  intro pins s σ H Q I h
  exact wpAny_Compare1 (binT ha hb I h fun v u s2 x y H2 I2 rx ry q => ho pins s2 σ H2 x y v u Q I2 rx ry q) hm
noncomputable def tTest (t : TE) : TT := fun σ H Q => t σ H fun x H' => ∃ k, x = .bl k ∧ Q k H'
theorem pt_cmpR {op : CmpOp} {r : R2} (ho : OpR X (compareOp op) r) (ha : PE X a ta) (hb : PE X b tb) (hm : behindInMarks op b = false) : PT X (.Compare a [op] [b] pos) (tTest (tOp r ta tb)) := by
  intro pins s σ H Q I h
  refine wpAny_isTrue_Compare1 (thn (ha pins s σ H _ I h) fun v s1 ⟨x, H1, I1, r1, q1⟩ => thn (hb pins s1 σ H1 _ I1 q1) fun u s2 ⟨y, H2, I2, r2, q2⟩ =>
    thn (ho pins s2 σ H2 x y v u _ I2 r1 r2 q2) fun c s3 ⟨z, H3, I3, r3, k, e, q3⟩ => ?_) hm
  subst e
  cases r3
  exact wpAny_truthy_bool ⟨H3, I3, q3⟩

theorem line63 : (sizeLine : Nat) < 2 ^ 63 := by rw [sizeLine_eq]; decide

theorem op_add_str : OpR X (binaryOp .Add) (fun x y H Q => ∃ i j, x = .str i ∧ y = .str j ∧ i.length + j.length ≤ sizeLine ∧ Q (.str (i ++ j)) H) := by
  intro pins s σ H x y v u Q I rx ry h
  obtain ⟨i, j, rfl, rfl, hz, q⟩ := h
  obtain ⟨t, rfl⟩ := rx
  obtain ⟨t', rfl⟩ := ry
  exact add_str (fun t' tk => ⟨.str (i ++ j), H, I.tok _, ⟨_, rfl⟩, q⟩) hz


theorem vals1 {x : V} {us : List Value} (r : Vals [x] us) : ∃ u, us = [u] ∧ RelV x u := by
  cases r with
  | cons r1 r2 => cases r2; exact ⟨_, rfl, r1⟩
theorem vals2 {x y : V} {us : List Value} (r : Vals [x, y] us) : ∃ u w', us = [u, w'] ∧ RelV x u ∧ RelV y w' := by
  cases r with
  | cons r1 r2 =>
    cases r2 with
    | cons r3 r4 => cases r4; exact ⟨_, _, rfl, r1, r3⟩
theorem call_max2 (hc : X.calm = true) : CallR X (.builtin "max") (fun xs H Q => ∃ i j, xs = [.int i, .int j] ∧ Q (.int (if j > i then j else i)) H) := by
  intro pins s σ H xs us Q I r h
  obtain ⟨i, j, rfl, q⟩ := h
  obtain ⟨u, w', rfl, ⟨t, rfl⟩, ⟨t', rfl⟩⟩ := vals2 r
  refine max_two_ints (I.ok.hd hc) fun h' tk k => ⟨_, H, I.kept k, ?_, q⟩
  by_cases hj : j > i
  · rw [if_pos hj, if_pos hj]; exact ⟨_, rfl⟩
  · rw [if_neg hj, if_neg hj]; exact ⟨_, rfl⟩
theorem call_min2 (hc : X.calm = true) : CallR X (.builtin "min") (fun xs H Q => ∃ i j, xs = [.int i, .int j] ∧ Q (.int (if j < i then j else i)) H) := by
  intro pins s σ H xs us Q I r h
  obtain ⟨i, j, rfl, q⟩ := h
  obtain ⟨u, w', rfl, ⟨t, rfl⟩, ⟨t', rfl⟩⟩ := vals2 r
  refine min_two_ints (I.ok.hd hc) fun h' tk k => ⟨_, H, I.kept k, ?_, q⟩
  by_cases hj : j < i
  · rw [if_pos hj, if_pos hj]; exact ⟨_, rfl⟩
  · rw [if_neg hj, if_neg hj]; exact ⟨_, rfl⟩
def LenV (K : PySem.W.Frag) (x : V) (H : Hp) (n : Nat) : Prop :=
  match x with
  | .str y => y.length ≤ sizeLine ∧ n = y.length
  | .byt y => y.size ≤ sizeLine ∧ n = y.size
  | .ref p => (∃ xs, SqL K H p xs ∧ n = xs.length) ∨ ∃ xs, SqT K H p xs ∧ n = xs.length
  | _ => False
theorem call_len : CallR X (.builtin "len") (fun xs H Q => ∃ x n, xs = [x] ∧ LenV X.K x H n ∧ Q (.int n) H) := by
  intro pins s σ H xs us Q I r h
  obtain ⟨x, n, rfl, e, q⟩ := h
  obtain ⟨u, rfl, rx⟩ := vals1 r
  have hl := line63
  have hs : sizeLine = 16777216 := sizeLine_eq
  cases x with
  | str y =>
    obtain ⟨t, rfl⟩ := rx
    obtain ⟨hy, e'⟩ : y.length ≤ sizeLine ∧ n = y.length := e
    subst e'
    exact len_str (by omega) ⟨.int _, H, I.tok _, ⟨_, rfl⟩, q⟩
  | byt y =>
    obtain ⟨t, rfl⟩ := rx
    obtain ⟨hy, e'⟩ : y.size ≤ sizeLine ∧ n = y.size := e
    subst e'
    exact PySem.W.len_bytes (by omega) ⟨.int _, H, I.tok _, ⟨_, rfl⟩, q⟩
  | ref p =>
    cases rx
    have e' : (∃ xs, SqL X.K H p xs ∧ n = xs.length) ∨ ∃ xs, SqT X.K H p xs ∧ n = xs.length := e
    rcases e' with ⟨xs, hx, e'⟩ | ⟨xs, hx, e'⟩
    · subst e'
      obtain ⟨its, r', pl, hz⟩ := I.list hx
      have hlen := r'.length
      exact Calls.call_len_list pl.isList (by simp only [List.size_toArray]; omega) ⟨.int xs.length, H, I.tok _, ⟨_, by simp only [List.size_toArray]; rw [hlen]⟩, q⟩
    · subst e'
      obtain ⟨its, r', pl, hz⟩ := I.tuple hx
      have hlen := r'.length
      exact len_tuple pl (by simp only [List.size_toArray]; omega) ⟨.int xs.length, H, I.tok _, ⟨_, by simp only [List.size_toArray]; rw [hlen]⟩, q⟩
  | _ => exact (show False from e).elim
end
end L2

namespace L2
open PySem PySem.Spec PyProof.Rows

structure ObjM (h : Heap) (x dx C : Addr) (mA : Str → Option Value) : Prop where
  obj : h.get? x = some (PySem.W.instObj C dx)
  ns : h.Ns1 dx mA
  ne : dx ≠ x

theorem lookIn_ns {h : Heap} {dx : Addr} {mA : Str → Option Value} (n : h.Ns1 dx mA) : ∃ od, h.get? dx = some od ∧ ∀ name, PySem.W.lookIn name od = some (mA name) := by
  obtain ⟨o, es, ep, ho, hd, hk, _, hm⟩ := n
  refine ⟨o, ho, fun name => ?_⟩
  have e := hm name
  unfold nsFind findBy at e
  rw [← Array.find?_toList] at e
  unfold PySem.W.lookIn
  rw [hd]
  dsimp only
  split
  · rename_i y q
    rw [q] at e
    exact congrArg some e
  · rename_i q
    rw [q] at e
    have a : es.toList.any (·.refKey) = false := by
      rw [List.any_eq_false]
      intro y hy
      obtain ⟨z, t, hkey⟩ := hk y (Array.mem_toList_iff.mp hy)
      simp [DictEntry.refKey, hkey]
    have a' : ¬ es.toList.any (·.refKey) = true := by rw [a]; exact Bool.false_ne_true
    rw [if_neg a']
    exact congrArg some e

theorem ObjM.look {h : Heap} {x dx C : Addr} {mA : Str → Option Value} (I : ObjM h x dx C mA) : ∃ od, PySem.W.InstAt h x (PySem.W.instObj C dx) C (some od) ∧ ∀ name, PySem.W.lookIn name od = some (mA name) :=
  let ⟨od, ho, hl⟩ := lookIn_ns I.ns
  ⟨od, ⟨I.obj, rfl, rfl, ho⟩, hl⟩

section
variable {prog : Program} {w : World} {A : Around} {E : Value → Shared → Prop} {s : Shared} {K : PySem.W.Frag} {x dx C f : Addr} {mA : Str → Option Value} {name : Str} {v : Value}





end


theorem RelO.some_of {v : V} {o : Option Value} (r : RelO (some v) o) : ∃ u, o = some u ∧ RelV v u := by
  cases o with
  | none => exact (show False from r).elim
  | some u => exact ⟨u, rfl, r⟩
theorem RelO.none_of {o : Option Value} (r : RelO none o) : o = none := by
  cases o with
  | none => rfl
  | some u => exact (show False from r).elim

section
variable {P : Program} {w : World} {H H' : Hp} {h h' : Heap} {a C dx : Addr} {fs fs' : List (Str × V)}
theorem ins_get (hok : HOk P w H h) (e : H a = some (.ins C dx fs)) : ∃ mA, ObjM h a dx C mA ∧ (∀ f, RelO (fs.lookup f) (mA f)) ∧ PySem.Within mA (fs.map (·.1)) ∧ fs.length ≤ 1000 ∧ H dx = some (.own a) := by
  obtain ⟨d, z, ne, ob, mA, n, r, q⟩ := (show ObjOk P w H h a (.ins C dx fs) from hok a _ e)
  exact ⟨mA, ⟨ob, n, ne⟩, r, q, z, d⟩
end

structure Cls (K : PySem.W.Frag) (C : Addr) : Prop where
  pg : PySem.W.plainGet K C Str.empty = true
  hd : PySem.W.hasDictIn K C = true
  po : PySem.W.plainOver K C = true
  sa : PySem.W.findIn K (.ref C) "__setattr__" = some (some (.builtin "object.__setattr__"))
theorem Cls.get {K : PySem.W.Frag} {C : Addr} (c : Cls K C) (f : Str) : PySem.W.plainGet K C f = true := c.pg
structure Con (K : PySem.W.Frag) (C : Addr) (f : Str) (v : V) (u : Value) : Prop where
  at_ : PySem.W.findIn K (.ref C) f = some (some u)
  rel : RelV v u
  get : PySem.W.specialIn K u "__get__" = some none
  cp : PySem.W.copiedNames.contains f = false
structure Meth (K : PySem.W.Frag) (C : Addr) (m : Str) (f : Addr) : Prop where
  at_ : PySem.W.findIn K (.ref C) m = some (some (.ref f))
  fn : PySem.W.isFn K (.ref f) = true
  kp : PySem.W.keepIn K (.ref f) = true

section
variable {X : Cx} {pins : List (Addr × Obj)} {σ : St} {H : Hp} {s : Shared} {a C dx : Addr} {fs : List (Str × V)} {f : Str} {v : V} {A : Around} {E : Value → Shared → Prop}





theorem Inv.made (I : Inv X pins σ H s) : Inv X pins σ (upd (upd H s.heap.objs.size (.own (s.heap.objs.size + 1))) (s.heap.objs.size + 1) (.ins C s.heap.objs.size []))
    { s with heap := (s.heap.push PySem.W.emptyDict).push (PySem.W.instObj C s.heap.objs.size) } := by
  have e1 : (s.heap.push PySem.W.emptyDict).get? s.heap.objs.size = some PySem.W.emptyDict := Heap.get?_push_size s.heap rfl
  have e2 : ((s.heap.push PySem.W.emptyDict).push (PySem.W.instObj C s.heap.objs.size)).get? (s.heap.objs.size + 1) = some (PySem.W.instObj C s.heap.objs.size) := by
    have := Heap.get?_push_size (s.heap.push PySem.W.emptyDict) (o := PySem.W.instObj C s.heap.objs.size) rfl
    rwa [Heap.size_push] at this
  have e3 : (s.heap.push PySem.W.emptyDict).Ns s.heap.objs.size (fun _ => none) := ⟨PySem.W.emptyDict, #[], _, e1, rfl, (fun e he => absurd he (by simp)), fun _ => rfl⟩
  have I1 := I.laid (a := s.heap.objs.size) (o := .own (s.heap.objs.size + 1)) (h' := s.heap.push PySem.W.emptyDict) (t' := s.toks) (fun b u q => Heap.get?_push_of_some _ q) (Nat.le_refl _) ⟨_, e1⟩
  refine I1.laid (a := s.heap.objs.size + 1) (o := .ins C s.heap.objs.size []) (t' := s.toks) (fun b u q => Heap.get?_push_of_some _ q) (Nat.le_of_eq (Heap.size_push _ _)) ?_
  have ne : s.heap.objs.size ≠ s.heap.objs.size + 1 := Nat.ne_of_lt (Nat.lt_succ_self _)
  refine ⟨by rw [upd_ne ne, upd_same], Nat.zero_le _, ne, e2, fun _ => none, (Heap.Ns1.of_empty e3).at fun o q => Heap.get?_push_of_some _ q, fun _ => True.intro, fun y hy => absurd rfl hy⟩

end


section
variable {X : Cx} {o e value : Expr} {f : Str} {pos pos' tpos : Pos} {ta tv : TE}

end

section
variable {X : Cx} {pins : List (Addr × Obj)} {σ : St} {H : Hp} {s : Shared} {A : Around} {E : Value → Shared → Prop} {Q : Value → Shared → Prop} {c : Value} {b : Bool}
inductive TyOf (K : PySem.W.Frag) (H : Hp) : V → Value → Prop where
  | non : TyOf K H .non (.type "NoneType")
  | bl (x : Bool) : TyOf K H (.bl x) (.type "bool")
  | int (i : Int) : TyOf K H (.int i) (.type "int")
  | str (x : Str) : TyOf K H (.str x) (.type "str")
  | flt (x : UInt64) : TyOf K H (.flt x) (.type "float")
  | lst {a : Addr} {xs : List V} (e : H a = some (.lst xs)) : TyOf K H (.ref a) (.type "list")
  | frz {a : Addr} {o : Obj} {xs : List V} (e : H a = some (.frz o (.lst xs))) : TyOf K H (.ref a) (.type "list")
  | tup {a : Addr} {xs : List V} (e : H a = some (.tup xs)) : TyOf K H (.ref a) (.type "tuple")
  | dK {a : Addr} {kvs : List (Key × V)} (e : H a = some (.dK kvs)) : TyOf K H (.ref a) (.type "dict")
  | dT {a : Addr} {kvs : List (List Key × V)} (e : H a = some (.dT kvs)) : TyOf K H (.ref a) (.type "dict")
  | ins {a C dx : Addr} {fs : List (Str × V)} (e : H a = some (.ins C dx fs)) (cl : Cls K C) (ha : PySem.W.findIn K (.ref C) "__class__" = some (some (.builtin "object.__class__")))
      (hn : PySem.W.specialIn K (.builtin "object.__class__") "__get__" = some (some (.builtin "getset_descriptor.__get__"))) (htk : PySem.W.takesIn K (.builtin "object.__class__") = some true)
      (hm : PySem.W.mroIn K C (.type "object") = some true) : TyOf K H (.ref a) (.ref C)
theorem isinst_ok {x : V} {u t : Value} (I : Inv X pins σ H s) (rx : RelV x u) (ty : TyOf X.K H x t) (e : PySem.W.kitOne X.K t c = some b) (h : ∀ tk, Q (.bool b) { s with toks := tk }) :
    wpAny (model X.prog X.w) A (call (.builtin "isinstance") [u, c]) Q E s := by
  cases ty with
  | non => cases (show u = Value.none from rx); exact PySem.W.kia_one PySem.W.kitx_none I.kIn True.intro e (fun z => nomatch z) h
  | bl y => cases (show u = Value.bool y from rx); exact PySem.W.kia_one PySem.W.kitx_bool I.kIn True.intro e (fun z => nomatch z) h
  | int i => obtain ⟨t, q⟩ := (show ∃ t, u = Value.int i t from rx); cases q; exact PySem.W.kia_one PySem.W.kitx_int I.kIn True.intro e (fun z => nomatch z) h
  | str y => obtain ⟨t, q⟩ := (show ∃ t, u = Value.str y t from rx); cases q; exact PySem.W.kia_one PySem.W.kitx_str I.kIn True.intro e (fun z => nomatch z) h
  | flt y => obtain ⟨t, q⟩ := (show ∃ t, u = Value.float y t from rx); cases q; exact PySem.W.kia_one PySem.W.kitx_float I.kIn True.intro e (fun z => nomatch z) h
  | @lst a xs ea =>
    cases (show u = Value.ref a from rx)
    obtain ⟨_, _, n, _, h1⟩ := (show ObjOk X.prog X.w H s.heap a (.lst xs) from I.hok a _ ea)
    exact PySem.W.kia_one PySem.W.kitx_list I.kIn ⟨_, h1, rfl⟩ e (fun z => nomatch z) h
  | @frz a ob xs ea =>
    cases (show u = Value.ref a from rx)
    obtain ⟨_, _, _, n, _, h1⟩ := (show ObjOk X.prog X.w H s.heap a (.frz ob (.lst xs)) from I.hok a _ ea)
    exact PySem.W.kia_one PySem.W.kitx_list I.kIn ⟨_, h1, rfl⟩ e (fun z => nomatch z) h
  | @tup a xs ea =>
    cases (show u = Value.ref a from rx)
    obtain ⟨_, _, _, p⟩ := (show ObjOk X.prog X.w H s.heap a (.tup xs) from I.hok a _ ea)
    obtain ⟨o, h1, h2, _⟩ := p
    exact PySem.W.kia_one PySem.W.kitx_tuple I.kIn ⟨o, h1, h2⟩ e (fun z => nomatch z) h
  | @dK a kvs ea =>
    cases (show u = Value.ref a from rx)
    obtain ⟨_, _, vs, _, p⟩ := (show ObjOk X.prog X.w H s.heap a (.dK kvs) from I.hok a _ ea)
    obtain ⟨o, es, ep, h1, h2, _⟩ := p
    exact PySem.W.kia_one PySem.W.kitx_dict I.kIn ⟨o, h1, h2.1⟩ e (fun z => nomatch z) h
  | @dT a kvs ea =>
    cases (show u = Value.ref a from rx)
    obtain ⟨_, _, xs, _, o, es, ep, h1, h2, _⟩ := (show ObjOk X.prog X.w H s.heap a (.dT kvs) from I.hok a _ ea)
    exact PySem.W.kia_one PySem.W.kitx_dict I.kIn ⟨o, h1, h2.1⟩ e (fun z => nomatch z) h
  | @ins a C dx fs ea cl ha hn htk hm =>
    cases (show u = Value.ref a from rx)
    obtain ⟨mA, O, _⟩ := ins_get I.hok ea
    obtain ⟨od, J, _⟩ := O.look
    exact PySem.W.kia_one (PySem.W.kitx_own (cl.get _) cl.hd ha hn htk hm) I.kIn J e (fun z => nomatch z) h
end
end L2

namespace L2
open PySem PySem.Spec PyProof.Rows

structure Room (k : Nat) (A : Around) : Prop where
  hd : A.handled = none
  dp : A.depth + 3 * k + 5 < recursionLimit
  un : A.units + 16 * k + 200 < cLine
theorem Room.deeper {k : Nat} {A : Around} (r : Room (k + 1) A) (env : Env) : Room k (A.deeper env) :=
  ⟨r.hd, by have := r.dp; show A.depth + 1 + 3 * k + 5 < _; omega, by have := r.un; show A.units + 3 + 16 * k + 200 < _; omega⟩
theorem Room.depth {k : Nat} {A : Around} (r : Room k A) : A.depth < recursionLimit := by have := r.dp; omega
theorem Room.units {k : Nat} {A : Around} (r : Room k A) : A.units + 64 < cLine := by have := r.un; omega

noncomputable def tNil : TA := fun _ H Q => Q [] H
noncomputable def tCons (ta : TE) (tr : TA) : TA := fun σ H Q => ta σ H fun x H1 => tr σ H1 fun xs H2 => Q (x :: xs) H2
section
variable {X : Cx} {e : Expr} {es : List Expr} {te : TE} {t : TA} {pos : Pos}
theorem pa_nil : PA X [] tNil := fun _ _ _ _ H Q I h => Calls.spliced_nil ⟨[], H, I, .nil, h⟩
theorem pa_cons (ha : PE X e te) (hr : PA X es t) (hs : starEach (e :: es) X.env = (false, eval e X.env) :: starEach es X.env := by rfl) : PA X (e :: es) (tCons te t) := by
  intro pos pins s σ H Q I h
  rw [hs]
  show wpAny _ _ (spliced ((false, eval e X.env) :: backTo pos (starEach es X.env))) _ _ s
  refine Calls.spliced_cons (thn (ha pins s σ H _ I h) fun u s1 ⟨x, H1, I1, r1, q1⟩ => ?_)
  exact thn (hr pos pins s1 σ H1 _ I1 q1) fun us s2 ⟨xs, H2, I2, r2, q2⟩ => ⟨x :: xs, H2, I2, .cons r1 r2, q2⟩

noncomputable def tTup (t : TA) : TE := fun σ H Q => t σ H fun xs H1 => xs.length ≤ sizeLine ∧ ∀ p, H1 p = none → Q (.ref p) (upd H1 p (.tup xs))
noncomputable def tLst (t : TA) : TE := fun σ H Q => t σ H fun xs H1 => xs.length ≤ sizeLine ∧ ∀ p, H1 p = none → Q (.ref p) (upd H1 p (.lst xs))
theorem pe_tup {x1} (h : PA X es t) : PE X (.Tuple es x1 pos) (tTup t) := by
  intro pins s σ H Q I hq
  refine wpAny_Tuple_spliced (thn (h pos pins s σ H _ I hq) fun us s1 ⟨xs, H1, I1, r, z, q⟩ => ⟨by rw [← r.length]; exact z, ?_⟩)
  have hf : H1 s1.heap.objs.size = none := I1.hok.fresh (Nat.le_refl _)
  refine ⟨.ref s1.heap.objs.size, upd H1 s1.heap.objs.size (.tup xs), I1.laid (t' := s1.toks) (fun b u e => Heap.get?_push_of_some _ e) (Nat.le_refl _) ?_, rfl, q _ hf⟩
  exact ⟨z, us, r, ⟨_, Heap.get?_push_size _ rfl, rfl, _, rfl⟩⟩
theorem pe_lst (h : PA X es t) : PE X (.List es pos) (tLst t) := by
  intro pins s σ H Q I hq
  refine wpAny_List_spliced (thn (h pos pins s σ H _ I hq) fun us s1 ⟨xs, H1, I1, r, z, q⟩ => ⟨by rw [← r.length]; exact z, ?_⟩)
  have hf : H1 s1.heap.objs.size = none := I1.hok.fresh (Nat.le_refl _)
  refine ⟨.ref s1.heap.objs.size, upd H1 s1.heap.objs.size (.lst xs), I1.laid (t' := s1.toks) (fun b u e => Heap.get?_push_of_some _ e) (Nat.le_refl _) ?_, rfl, q _ hf⟩
  exact ⟨z, us, 0, r, Heap.get?_push_size _ rfl⟩
end

abbrev Sp := List V → Hp → VK → XK → Prop
abbrev CXT := List Env → Hp → Shared → XK → Value → Shared → Prop

structure Env0 (P : Program) (w : World) (K : PySem.W.Frag) (mg : Str → Option Value) (base : Heap) (A : Around) (outer : List Env) (s : Shared) (H : Hp) : Prop where
  frames : A.frames = some outer
  mod : Mod K mg base
  bs : ∀ b o, base.get? b = some o → s.heap.get? b = some o ∧ H b = none
  bsz : base.objs.size ≤ s.heap.objs.size
  funs : s.heap.FunFrames base outer
  frf : ∀ b ∈ frs outer, H b = none
  hok : HOk P w H s.heap
  bare : AllBare s.gens
def CE (outer : List Env) (P : Program) (w : World) (H : Hp) (s : Shared) (Q : VK) (u : Value) (s' : Shared) : Prop :=
  ∃ v H', s'.os = s.os ∧ AllBare s'.gens ∧ Un (frs outer) [] H H' s.heap s'.heap ∧ HOk P w H' s'.heap ∧ RelV v u ∧ Q v H'
def CR (CX : CXT) (outer : List Env) (P : Program) (w : World) (H : Hp) (s : Shared) (Q : VK) (E : XK) (r : Result) (s' : Shared) : Prop :=
  match r with
  | .ok (.ret u) => CE outer P w H s Q u s'
  | .ok _ => False
  | .error e => CX outer H s E e s'
structure FnOk (P : Program) (w : World) (K : PySem.W.Frag) (mg : Str → Option Value) (base : Heap) (CX : CXT) (k : Nat) (f : Addr) (fd : FuncData) (ps : List Str) (sp : Sp) : Prop where
  len : ∀ vs H Q E, sp vs H Q E → vs.length = ps.length
  run : ∀ (A : Around) (outer : List Env) (s : Shared) (H : Hp) (args : Args) (us : List Value) (vs : List V) (Q : VK) (E : XK), Room k A → Env0 P w K mg base A outer s H → BindsTo s fd args (ps.zip us) → Vals vs us → sp vs H Q E →
    codeAny (model P w) A (.call (.ref f) args) (CR CX outer P w H s Q E) s


section
variable {X : Cx} {pins : List (Addr × Obj)} {σ : St} {H : Hp} {s s' : Shared}
theorem Inv.env0 (I : Inv X pins σ H s) : Env0 X.prog X.w X.K X.mg X.base X.A X.stack s H :=
  ⟨I.ok.frames, I.ok.mod, I.bs, Nat.le_trans I.ok.bsz I.sz, I.stack, I.stkFree, I.hok, I.bare⟩
theorem Inv.after {Q : VK} {u : Value} (I : Inv X pins σ H s) (h : CE X.stack X.prog X.w H s Q u s') : EP X pins σ Q u s' := by
  obtain ⟨v, H', os, bare, un, hok, r, q⟩ := h
  obtain ⟨hh, g, d, t, os'⟩ := s'
  obtain rfl : os' = s.os := os
  exact ⟨v, H', I.call (h' := hh) (g' := g) (d' := d) (t' := t) (ch := []) un hok bare (fun b z => absurd z (by simp)), r, q⟩
end

noncomputable def tCall (sp : Sp) (dvs : List V) (E : XK) (t : TA) : TE := fun σ H Q => t σ H fun vs H1 => sp (vs ++ dvs) H1 Q E

def Binds (K : PySem.W.Frag) (fd : FuncData) (ps : List Str) (ds : List Value) : Prop :=
  ∀ (s : Shared) (us : List Value), K.In s.heap → (us ++ ds).length = ps.length → BindsTo s fd ⟨us, []⟩ (ps.zip (us ++ ds))
theorem Binds.all {K : PySem.W.Frag} {fd : FuncData} {ps : List Str} (h : ∀ us : List Value, us.length = ps.length → bindArgs fd ⟨us, []⟩ = pure (ps.zip us)) : Binds K fd ps [] := fun s us _ hl => by
  rw [List.append_nil] at hl ⊢
  exact .of_eq (h us hl)

def Passes (CX : CXT) (X : Cx) (E : XK) : Prop := ∀ (pins : List (Addr × Obj)) (σ : St) (H : Hp) (s : Shared) (e : Value) (s' : Shared), Inv X pins σ H s → CX X.stack H s E e s' → X.xe e s'

section
variable {X : Cx} {CX : CXT} {k : Nat} {f C : Addr} {fd : FuncData} {ps : List Str} {sp : Sp} {dvs : List V} {ds : List Value} {E : XK} {x m : Str} {p pos apos : Pos} {e o : Expr} {es : List Expr} {ta : TE} {t : TA}

theorem run_fn {pins : List (Addr × Obj)} {σ : St} {H : Hp} {s : Shared} {Q : VK} {us : List Value} {vs : List V} (F : FnOk X.prog X.w X.K X.mg X.base CX k f fd ps sp) (hr : Room k X.A) (hb : Binds X.K fd ps ds) (hd : Vals dvs ds) (hx : Passes CX X E)
    (I : Inv X pins σ H s) (r : Vals vs us) (h : sp (vs ++ dvs) H Q E) : wpAny (model X.prog X.w) X.A (call (.ref f) us) (EP X pins σ Q) X.xe s := by
  have r2 : Vals (vs ++ dvs) (us ++ ds) := r.append hd
  have hl : (us ++ ds).length = ps.length := by rw [← r2.length]; exact F.len _ _ _ _ h
  refine wpAny_call (codeAny_mono (F.run X.A X.stack s H ⟨us, []⟩ (us ++ ds) (vs ++ dvs) Q E hr I.env0 (hb s us I.kIn hl) r2 h) fun r s' hq => ?_)
  cases r with
  | error e => exact hx pins σ H s e s' I hq
  | ok fl =>
    cases fl with
    | ret u => exact I.after hq
    | next => exact False.elim hq
    | brk => exact False.elim hq
    | cont => exact False.elim hq

theorem pe_call (F : FnOk X.prog X.w X.K X.mg X.base CX k f fd ps sp) (hr : Room k X.A) (hg : Gl X x) (hm : X.mg x = some (.ref f)) (hk : PySem.W.keepIn X.K (.ref f) = true) (hb : Binds X.K fd ps ds) (hd : Vals dvs ds) (hx : Passes CX X E)
    (ha : PA X (e :: es) t) (hdb : (x == ("__debug__" : Str)) = false := by decide) (he : starEach (e :: es) X.env = (false, eval e X.env) :: starEach es X.env := by rfl) (hpl : (backTo pos (starEach es X.env)).any (·.1) = false := by rfl) :
    PE X (.Call (.Name x p) (e :: es) [] pos) (tCall sp dvs E t) := by
  intro pins s σ H Q I h
  refine wpAny_Call_Name_kw (ld_glob I hg hm ?_ hdb)
  refine PySem.W.callWith_K (h₀ := X.base) I.ok.mod.kin hk (thn (ha pos pins s σ H _ I h) fun us s1 ⟨vs, H1, I1, r, q⟩ => ⟨I1.kIn, ?_⟩) he hpl
  exact run_fn F hr hb hd hx I1 r q
theorem pe_call0 (F : FnOk X.prog X.w X.K X.mg X.base CX k f fd ps sp) (hr : Room k X.A) (hg : Gl X x) (hm : X.mg x = some (.ref f)) (hk : PySem.W.keepIn X.K (.ref f) = true) (hb : Binds X.K fd ps ds) (hd : Vals dvs ds) (hx : Passes CX X E)
    (hdb : (x == ("__debug__" : Str)) = false := by decide) : PE X (.Call (.Name x p) [] [] pos) (tCall sp dvs E tNil) := by
  intro pins s σ H Q I h
  refine wpAny_Call_Name_kw (ld_glob I hg hm ?_ hdb)
  exact PySem.W.callWith_K0 I.kIn hk (run_fn (us := []) F hr hb hd hx I .nil h)


structure Mk (K : PySem.W.Frag) (C f : Addr) : Prop where
  makes : PySem.W.makesIn K C = true
  init : PySem.W.findIn K (.ref C) "__init__" = some (some (.ref f))
  fn : PySem.W.isFn K (.ref f) = true
  kp : PySem.W.keepIn K (.ref C) = true

end

section
variable {X : Cx} {CX : CXT} {k : Nat} {f C : Addr} {fd : FuncData} {ps ks : List Str} {sp : Sp} {E : XK} {x m : Str} {p pos apos kpos : Pos} {e o : Expr} {es : List Expr} {kws : List Keyword} {te ta : TE} {t tk : TA} {nm : Option Str}

structure KBinds (K : PySem.W.Frag) (fd : FuncData) (ps ks : List Str) (g : List Value → List Value → List Value) (gV : List V → List V → List V) : Prop where
  to : ∀ (s : Shared) (us ws : List Value), K.In s.heap → (g us ws).length = ps.length → BindsTo s fd ⟨us, ks.zip ws⟩ (ps.zip (g us ws))
  rel : ∀ {vs : List V} {us : List Value} {zs : List V} {ws : List Value}, Vals vs us → Vals zs ws → Vals (gV vs zs) (g us ws)
variable {g : List Value → List Value → List Value} {gV : List V → List V → List V}
end

structure FnScope (N P : List Str) (sc : Scope) : Prop where
  kind : sc.kind = .function
  co : sc.isCoroutine = false
  gen : sc.isGenerator = false
  nd : N.Nodup
  pre : N.take P.length = P
  par : ∀ x ∈ P, sc.names.lookup x = some .local ∨ sc.names.lookup x = some .cell
  nofree : ∀ y ∈ sc.names, y.2 ≠ .free

theorem bindL_out {kindOf : Str → Option NameKind} {x : Str} : ∀ {binds : List (Str × Value)} {m : Str → Option Value}, (∀ v, (x, v) ∉ binds) → bindL kindOf binds m x = m x
  | [], _, _ => rfl
  | (n, v) :: r, m, h => by
    unfold bindL
    rw [bindL_out fun w hw => h w (List.mem_cons_of_mem _ hw)]
    split
    · have : x ≠ n := by rintro rfl; exact h v List.mem_cons_self
      simp [this]
    · rfl
theorem bindC_out {kindOf : Str → Option NameKind} {x : Str} : ∀ {binds : List (Str × Value)} {m : Str → Option Value}, (∀ v, (x, v) ∉ binds) → bindC kindOf binds m x = m x
  | [], _, _ => rfl
  | (n, v) :: r, m, h => by
    unfold bindC
    rw [bindC_out fun w hw => h w (List.mem_cons_of_mem _ hw)]
    split
    · rfl
    · have : x ≠ n := by rintro rfl; exact h v List.mem_cons_self
      simp [this]
theorem bindL_get {kindOf : Str → Option NameKind} {x : Str} {v : Value} : ∀ {P : List Str} {vs : List Value} {i : Nat} {m : Str → Option Value}, P.Nodup → P[i]? = some x → vs[i]? = some v → kindOf x = some .local →
    bindL kindOf (P.zip vs) m x = some v
  | [], _, _, _, _, h, _, _ => by simp at h
  | _ :: _, [], _, _, _, _, h, _ => by simp at h
  | p :: P, w :: vs, 0, m, nd, h1, h2, hk => by
    simp at h1 h2; subst h1; subst h2
    show bindL kindOf ((p, w) :: P.zip vs) m p = _
    unfold bindL
    rw [bindL_out fun v hv => (List.nodup_cons.mp nd).1 (List.of_mem_zip hv).1, if_pos hk]
    simp
  | p :: P, w :: vs, i + 1, m, nd, h1, h2, hk => by
    show bindL kindOf ((p, w) :: P.zip vs) m x = _
    unfold bindL
    exact bindL_get (i := i) (List.nodup_cons.mp nd).2 (by simpa using h1) (by simpa using h2) hk
theorem bindC_get {kindOf : Str → Option NameKind} {x : Str} {v : Value} : ∀ {P : List Str} {vs : List Value} {i : Nat} {m : Str → Option Value}, P.Nodup → P[i]? = some x → vs[i]? = some v → kindOf x ≠ some .local →
    bindC kindOf (P.zip vs) m x = some v
  | [], _, _, _, _, h, _, _ => by simp at h
  | _ :: _, [], _, _, _, _, h, _ => by simp at h
  | p :: P, w :: vs, 0, m, nd, h1, h2, hk => by
    simp at h1 h2; subst h1; subst h2
    show bindC kindOf ((p, w) :: P.zip vs) m p = _
    unfold bindC
    rw [bindC_out fun v hv => (List.nodup_cons.mp nd).1 (List.of_mem_zip hv).1, if_neg hk]
    simp
  | p :: P, w :: vs, i + 1, m, nd, h1, h2, hk => by
    show bindC kindOf ((p, w) :: P.zip vs) m x = _
    unfold bindC
    exact bindC_get (i := i) (List.nodup_cons.mp nd).2 (by simpa using h1) (by simpa using h2) hk

noncomputable def start (N : List Str) (vs : List V) : St := vs.map some ++ List.replicate (N.length - vs.length) none

noncomputable def cxOf (CX : CXT) (P : Program) (w : World) (K : PySem.W.Frag) (mg : Str → Option Value) (base : Heap) (N : List Str) (qual : Str) (scope : Scope) (f : Addr) (cd : Value) (A : Around) (outer : List Env) (s : Shared) (H : Hp) (E : XK) : Cx where
  prog := P
  w := w
  K := K
  mg := mg
  base := base
  A := A.deeper (envOfC qual scope s.heap.objs.size f cd)
  N := N
  s₀ := s
  H₀ := H
  env := envOfC qual scope s.heap.objs.size f cd
  outer := outer
  stack := envOfC qual scope s.heap.objs.size f cd :: outer
  ex := []
  calm := true
  fn := fun _ => true
  pn := []
  xe := fun e s' => wpAny (model P w) (A.deeper (envOfC qual scope s.heap.objs.size f cd)) (leaving (envOfC qual scope s.heap.objs.size f cd) e) (fun _ s'' => CX outer H s E e s'') (fun e' s'' => CX outer H s E e' s'') s'

theorem cell_has {sc : Scope} {n : Nat} {x : Str} (h : sc.names.lookup x = some .cell) : ∃ c, (cellsFrom n sc.names []).lookup x = some c := by
  have q := PySem.W.cellsFrom_some sc.names n [] (.inl h)
  exact Option.isSome_iff_exists.mp q

theorem inv_start {CX : CXT} {P : Program} {w : World} {K : PySem.W.Frag} {mg : Str → Option Value} {base : Heap} {N ps : List Str} {qual : Str} {scope : Scope} {f : Addr} {cd : Value} {A : Around} {outer : List Env} {s s1 : Shared} {H : Hp} {E : XK} {us : List Value} {vs : List V}
    (S : FnScope N ps scope) (hd : A.handled = none) (e0 : Env0 P w K mg base A outer s H) (hl : vs.length = ps.length) (r : Vals vs us)
    (x : InCallC s s.heap.objs.size (bindL (envOfC qual scope s.heap.objs.size f cd).kindOf (ps.zip us) fun _ => none) (cellsFrom (s.heap.objs.size + 1) scope.names []) (bindC (envOfC qual scope s.heap.objs.size f cd).kindOf (ps.zip us) fun _ => none) s1) :
    Inv (cxOf CX P w K mg base N qual scope f cd A outer s H E) [] (start N vs) H s1 := by
  have hpl : ps.length ≤ N.length := by have := congrArg List.length S.pre; rw [List.length_take] at this; omega
  obtain ⟨h1, tk, rfl, hk⟩ := x.done
  have noA : ∀ b : Addr, b ∉ (cxOf CX P w K mg base N qual scope f cd A outer s H E).ex := fun b z => absurd (show b ∈ ([] : List Addr) from z) (by simp)
  refine ⟨⟨e0.mod, S.kind, rfl, rfl, Nat.le_refl _, fun y z c h1 h2 => ?_, fun y hy => ?_, fun y c _ h => ?_, fun _ => hd, Around.frames_deeper e0.frames, .inr ⟨rfl, rfl⟩, fun b z => absurd z (noA b), e0.bs, e0.bsz, fun b _ _ => noA b, fun b z => absurd z (noA b), e0.funs, e0.frf⟩,
    rfl, e0.bare, Un.kept hk, ⟨_, x.toInCall.ns, fun i y v h1 h2 h3 => ?_⟩, fun y c h => ⟨_, x.cell y c h⟩, e0.hok.fresh (Nat.le_refl _), fun y c h => ?_, fun p hp => absurd (show p ∈ ([] : List (Addr × Obj)) from hp) (by simp), e0.hok.kept hk, ?_⟩
  · exact name_of_addr x.apart (PySem.mem_of_lookup h1) (PySem.mem_of_lookup h2)
  · have hy : scope.names.lookup y = some .cell ∨ scope.names.lookup y = some .free := hy
    rcases hy with hy | hy
    · exact cell_has hy
    · exact absurd rfl (S.nofree _ (PySem.mem_of_lookup hy))
  · exact Nat.le_of_lt (x.above y c (PySem.mem_of_lookup h))
  · have hi : i < vs.length := by
      unfold start at h2
      by_cases hi : i < vs.length
      · exact hi
      · rw [List.getElem?_append_right (by simpa using hi)] at h2
        rw [List.getElem?_replicate] at h2
        split at h2 <;> cases h2
    have ha : vs[i]? = some v := by
      unfold start at h2
      rw [List.getElem?_append_left (by simpa using hi), List.getElem?_map] at h2
      cases e : vs[i]? with
      | none => rw [e] at h2; cases h2
      | some a => rw [e] at h2; cases h2; rfl
    obtain ⟨u, hu, rv⟩ := r.get ha
    have hp : ps[i]? = some y := by
      rw [← S.pre, List.getElem?_take_of_lt (by omega)]; exact h1
    have ndP : ps.Nodup := by rw [← S.pre]; exact S.nd.sublist (List.take_sublist _ _)
    refine ⟨u, rv, ?_⟩
    rcases S.par y (List.mem_of_getElem? hp) with k | k
    · exact .inl ⟨k, bindL_get ndP hp hu k⟩
    · obtain ⟨c, e⟩ := cell_has (n := s.heap.objs.size + 1) k
      refine .inr ⟨.inl k, c, e, ?_⟩
      have q := x.cell y c e
      rw [bindC_get ndP hp hu (by show scope.names.lookup y ≠ _; rw [k]; decide)] at q
      exact q
  · exact e0.hok.fresh (Nat.le_of_lt (x.above y c (PySem.mem_of_lookup h)))
  · unfold start
    show _ = N.length
    rw [List.length_append, List.length_map, List.length_replicate]
    omega

theorem fn_of {CX : CXT} {P : Program} {w : World} {K : PySem.W.Frag} {mg : Str → Option Value} {base : Heap} {k : Nat} {f : Addr} {name qual : Str} {params : Arguments} {body : List Stmt} {scope : Scope} {dV kV doc pm cdv ct oc : Value} {an od : Option Addr}
    {osl : Array (Option Value)} {N ps : List Str} {sp : Sp} (lk : K.lookup f = some ⟨oc, od, .func (PySem.W.fnOf name qual params body scope dV kV doc pm an cdv ct), osl⟩) (hcd : PySem.W.codeIn K cdv qual = true) (S : FnScope N ps scope)
    (len : ∀ vs H Q E, sp vs H Q E → vs.length = ps.length)
    (hbody : ∀ (A : Around) (outer : List Env) (s : Shared) (H : Hp) (vs : List V) (Q : VK) (E : XK), Room k (A.deeper (envOfC qual scope s.heap.objs.size f cdv)) → sp vs H Q E →
      ∃ t, PSs (cxOf CX P w K mg base N qual scope f cdv A outer s H E) body t ∧ t { nx := fun _ H' => Q .non H', rt := Q } (start N vs) H) :
    FnOk P w K mg base CX (k + 1) f (PySem.W.fnOf name qual params body scope dV kV doc pm an cdv ct) ps sp := by
  refine ⟨len, fun A outer s H args us vs Q E hr e0 hb r hsp => ?_⟩
  have hl := len _ _ _ _ hsp
  have KX : K.In s.heap := e0.mod.kin.keeps fun b o e => (e0.bs b o e).1
  have lim : s.heap.NoLimit := e0.mod.nolimit.keeps fun b o e => (e0.bs b o e).1
  have hkind : ∀ y ∈ ps.zip us, scope.names.lookup y.1 = some .local ∨ (scope.names.lookup y.1 = some .cell ∧ ((cellsFrom (s.heap.objs.size + 1) scope.names []).lookup y.1).isSome = true) := fun ⟨n, v⟩ hy => by
    rcases S.par n (List.of_mem_zip hy).1 with q | q
    · exact .inl q
    · exact .inr ⟨q, PySem.W.cellsFrom_some _ _ _ (.inl q)⟩
  refine codeAny_call_function hr.depth (KX _ _ lk) rfl S.co S.gen rfl (PySem.W.codeRec_of KX hcd) (hb _ _ _ _ ?_)
  refine wpAny_newFunctionEnv_cells S.kind hkind fun env he s1 x => ?_
  subst he
  refine ⟨lim.keeps x.toInCall.keep, codeAny_func ?_⟩
  obtain ⟨t, ht, hq⟩ := hbody A outer s H vs Q E (hr.deeper _) hsp
  have I : Inv (cxOf CX P w K mg base N qual scope f cdv A outer s H E) [] (start N vs) H s1 := inv_start S hr.hd e0 hl r x
  refine wpAny_mono (ht [] s1 (start N vs) H _ I hq) (fun fl s' hs => ?_) fun e s' hs => hs
  have fin : ∀ {σ' : St} {H' : Hp} {v : V} {u : Value}, Inv (cxOf CX P w K mg base N qual scope f cdv A outer s H E) [] σ' H' s' → RelV v u → Q v H' → CE outer P w H s Q u s' :=
    fun {σ' H' v u} J rv q => ⟨v, H', J.os, J.bare, J.base, J.hok, rv, q⟩
  cases fl with
  | ret u =>
    obtain ⟨v, σ', H', J, rv, q⟩ := hs
    exact fin J rv q
  | next =>
    obtain ⟨σ', H', J, q⟩ := hs
    exact fin (v := V.non) (u := Value.none) J rfl q
  | brk =>
    obtain ⟨_, _, _, q⟩ := hs
    exact False.elim q
  | cont =>
    obtain ⟨_, _, _, q⟩ := hs
    exact False.elim q
end L2

namespace L2
open PySem PySem.Spec PyProof.Rows
section
variable {X : Cx} {x : Str} {p pos : Pos} {e : Expr} {es : List Expr} {t : TA} {id T : String} {r : List V → Hp → VK → Prop}

noncomputable def tCB (r : List V → Hp → VK → Prop) (t : TA) : TE := fun σ H Q => t σ H fun vs H1 => r vs H1 Q
theorem pe_callB (hc : CallR X (.builtin id) r) (hg : Gl X x) (hm : X.mg x = none) (hv : bootBuiltins x = some (.builtin id)) (ha : PA X (e :: es) t) (hn : x ≠ "__name__" := by decide) (hdb : (x == ("__debug__" : Str)) = false := by decide)
    (he : starEach (e :: es) X.env = (false, eval e X.env) :: starEach es X.env := by rfl) (hpl : (backTo pos (starEach es X.env)).any (·.1) = false := by rfl) : PE X (.Call (.Name x p) (e :: es) [] pos) (tCB r t) := by
  intro pins s σ H Q I h
  refine wpAny_Call_Name_kw (ld_blt I hg hm hv ?_ hn hdb)
  exact PyProof.Rows.callWith_builtin1 (thn (ha pos pins s σ H _ I h) fun us s1 ⟨vs, H1, I1, r1, q1⟩ => hc pins s1 σ H1 vs us Q I1 r1 q1) he hpl
theorem pe_callTy (hc : CallR X (.type T) r) (hg : Gl X x) (hm : X.mg x = none) (hv : bootBuiltins x = some (.type T)) (ha : PA X (e :: es) t) (hn : x ≠ "__name__" := by decide) (hdb : (x == ("__debug__" : Str)) = false := by decide)
    (he : starEach (e :: es) X.env = (false, eval e X.env) :: starEach es X.env := by rfl) (hpl : (backTo pos (starEach es X.env)).any (·.1) = false := by rfl) : PE X (.Call (.Name x p) (e :: es) [] pos) (tCB r t) := by
  intro pins s σ H Q I h
  refine wpAny_Call_Name_kw (ld_blt I hg hm hv ?_ hn hdb)
  exact PyProof.Rows.callWith_type1 (thn (ha pos pins s σ H _ I h) fun us s1 ⟨vs, H1, I1, r1, q1⟩ => hc pins s1 σ H1 vs us Q I1 r1 q1) he hpl
end
end L2

namespace HT
open PySem PyProof.Rows



section
open PySem.SeqAt
open PySem.AutoSeq1 (wpAny_loadPart')
open PySem.MeetsSeq PySem.MeetsSeq2 PySem.MeetsSeq3

end

section
variable {prog : Program} {w : World} {A : Around} {E : Value → Shared → Prop} {s : Shared}


theorem cat_tup {t b : Addr} {vs ws : List Value} {Q : Value → Shared → Prop} (ht : IsTup s.heap t vs.toArray) (hb : IsTup s.heap b ws.toArray) (hv : vs ≠ [])
    (h1 : ws = [] → Q (.ref t) s) (h2 : ws ≠ [] → Q (.ref s.heap.objs.size) { s with heap := s.heap.push { cls := .type "tuple", data := .seq (vs ++ ws).toArray } })
    (hsz : vs.length + ws.length ≤ sizeLine) : wpAny (model prog w) A (binaryOp .Add (.ref t) (.ref b)) Q E s := by
  obtain ⟨⟨cls, dd, data, sl⟩, ho, hc, n, hd⟩ := id ht
  obtain ⟨⟨cls2, dd2, data2, sl2⟩, ho2, hc2, n2, hd2⟩ := id hb
  simp only at hc hd hc2 hd2
  subst hc hd hc2 hd2
  have e : vs.toArray ++ ws.toArray = (vs ++ ws).toArray := by simp
  by_cases hw : ws = []
  · exact concat_meets ⟨_, ho, rfl⟩ ⟨_, ho2, rfl⟩ noFill_tuple_add seq_tuple_add PySem.F.slot_tuple_add PySem.F.entry_tuple_add (PySem.F.args_tuple_add_2 _ _)
      (tuple_addW1 t b vs.toArray ws.toArray n n2 dd dd2 sl sl2 (by simpa using hv) (by simp [hw])) ⟨ho, ho2, h1 hw⟩
  · refine concat_meets ⟨_, ho, rfl⟩ ⟨_, ho2, rfl⟩ noFill_tuple_add seq_tuple_add PySem.F.slot_tuple_add PySem.F.entry_tuple_add (PySem.F.args_tuple_add_2 _ _)
      (tuple_addW2 t b vs.toArray ws.toArray n n2 dd dd2 sl sl2 (by simpa using hv) (by simpa using hw) (by rw [List.size_toArray, List.size_toArray]; exact hsz)) ⟨ho, ho2, ?_⟩
    rw [e]
    exact h2 hw

noncomputable def sIx (n d : Nat) : Option Int → Nat
  | none => d
  | some v => if v < 0 then (v + (n : Int)).toNat else min v.toNat n
theorem sIx_le (n d : Nat) (hd : d ≤ n) (o : Option Int) : sIx n d o ≤ n := by
  cases o with
  | none => exact hd
  | some v =>
    show (if v < 0 then (v + (n : Int)).toNat else min v.toNat n) ≤ n
    by_cases hv : v < 0
    · rw [if_pos hv]; omega
    · rw [if_neg hv]; exact Nat.min_le_right _ _
theorem clip_eq (v : Int) (n d : Nat) : (if v < 0 then max (v + (n : Int)) 0 else min v (n : Int)) = ((sIx n d (some v) : Nat) : Int) := by
  show (if v < 0 then max (v + (n : Int)) 0 else min v (n : Int)) = (((if v < 0 then (v + (n : Int)).toNat else min v.toNat n) : Nat) : Int)
  by_cases hv : v < 0
  · simp only [if_pos hv]; omega
  · simp only [if_neg hv]; omega
theorem adjust_gen (lo hi : Option Int) (n : Nat) : Builtin.Slice.sliceAdjust lo hi 1 (n : Int) = (((sIx n 0 lo : Nat) : Int), ((sIx n n hi : Nat) : Int)) := by
  have h1 : ¬ ((1 : Int) < 0) := by omega
  unfold Builtin.Slice.sliceAdjust
  simp only [h1, if_false]
  refine Prod.ext ?_ ?_
  · cases lo with
    | none => rfl
    | some v => exact clip_eq v n 0
  · cases hi with
    | none => rfl
    | some v => exact clip_eq v n n
theorem places_gen (i j : Nat) : Builtin.Slice.slicePlaces (i : Int) (j : Int) 1 = j - i := by
  unfold Builtin.Slice.slicePlaces
  have h1 : (1 : Int) > 0 := by omega
  simp only [h1, if_true, Int.ediv_one]
  split <;> omega
theorem slicePart_ {v : Value} {o : Option Int} {Q : Option Int → Shared → Prop} (p : IsPart v o) (h : Q o s) : wpAny (model prog w) A (Builtin.Slice.slicePartIndex v) Q E s := by
  cases p with
  | none => exact slicePart_none h
  | int i t => exact slicePart_int h
theorem sliceApplied_gen {sl : Addr} {vl vu : Value} {lo hi : Option Int} {n : Nat} {Q : Int × Int × Nat → Shared → Prop} (hs : s.heap.IsSliceOf sl vl vu .none) (pl : IsPart vl lo) (pu : IsPart vu hi)
    (h : Q (((sIx n 0 lo : Nat) : Int), 1, sIx n n hi - sIx n 0 lo) s) : wpAny (model prog w) A (Builtin.Slice.sliceApplied (.ref sl) (pure (n : Int))) Q E s := by
  obtain ⟨os, hos, hcs, hds⟩ := id hs
  unfold Builtin.Slice.sliceApplied Builtin.Slice.sliceFields
  refine wpAny_bind (wpAny_bind (wpAny_field hos hds (x := vl) rfl (wpAny_bind (wpAny_field hos hds (x := vu) rfl (wpAny_bind (wpAny_field hos hds (x := .none) rfl (wpAny_pure ?_)))))))
  refine wpAny_bind (slicePart_none ?_)
  show wpAny _ _ (if ((1 : Int) == 0) = true then _ else _) _ _ s
  rw [if_neg (by decide)]
  refine wpAny_bind (slicePart_ pl (wpAny_bind (slicePart_ pu (wpAny_bind (wpAny_pure ?_)))))
  show wpAny _ _ (match Builtin.Slice.sliceAdjust lo hi 1 (n : Int) with | (lo, hi) => pure (lo, (1 : Int), Builtin.Slice.slicePlaces lo hi 1)) _ _ s
  rw [adjust_gen lo hi n]
  show wpAny _ _ (pure (((sIx n 0 lo : Nat) : Int), (1 : Int), Builtin.Slice.slicePlaces ((sIx n 0 lo : Nat) : Int) ((sIx n n hi : Nat) : Int) 1)) _ _ s
  rw [places_gen]
  exact wpAny_pure h
theorem pick_gen (xs : Array Value) (i k : Nat) : ((List.range k).filterMap fun (m : Nat) => xs[((i : Int) + (m : Int) * 1).toNat]?).toArray = ((xs.toList.drop i).take k).toArray := by
  have e : (fun (m : Nat) => xs[((i : Int) + (m : Int) * 1).toNat]?) = fun m => xs[i + m]? := by
    funext m
    have : ((i : Int) + (m : Int) * 1).toNat = i + m := by omega
    rw [this]
  rw [e]
  have := pick_run xs i k
  rw [List.filterMap_map] at this
  have e2 : ((fun x => xs[x]?) ∘ fun x => i + x) = fun m => xs[i + m]? := rfl
  rw [e2] at this
  rw [this]

theorem getItem_tuple_cut {t sl : Addr} {items : Array Value} {vl vu : Value} {lo hi : Option Int} {Q : Value → Shared → Prop} (ht : IsTup s.heap t items) (hs : s.heap.IsSliceOf sl vl vu .none) (pl : IsPart vl lo) (pu : IsPart vu hi)
    (hw : ¬ (sIx items.size 0 lo = 0 ∧ sIx items.size items.size hi = items.size))
    (h : Q (.ref s.heap.objs.size) { s with heap := s.heap.push { cls := .type "tuple", data := .seq ((items.toList.drop (sIx items.size 0 lo)).take (sIx items.size items.size hi - sIx items.size 0 lo)).toArray } })
    (hsz : items.size ≤ sizeLine) : wpAny (model prog w) A (getItem (.ref t) (.ref sl)) Q E s := by
  have htake : sizeOk (.seq ((items.toList.drop (sIx items.size 0 lo)).take (sIx items.size items.size hi - sIx items.size 0 lo)).toArray) := by
    show ((items.toList.drop (sIx items.size 0 lo)).take (sIx items.size items.size hi - sIx items.size 0 lo)).toArray.size ≤ sizeLine
    rw [List.size_toArray, List.length_take, List.length_drop, Array.length_toList]
    omega
  have hj : sIx items.size items.size hi ≤ items.size := sIx_le _ _ (Nat.le_refl _) hi
  obtain ⟨os, hos, hcs, hds⟩ := id hs
  have hTs : s.TypeIs (.ref sl) "slice" := ⟨os, hos, hcs⟩
  unfold getItem
  try with_reducible refine wpAny_holding ?_
  first | refine wpAny_bind (wpAny_pure ?_) | skip
  refine wpAny_bind (wpAny_sequenceKey ht.typeIs (by decide) ?_)
  refine wpAny_bind (wpAny_callSpecial?_slot (name := Str.ofString "__getitem__") ht.typeIs PyProof.Rows.slot_tuple_getitem
    (wpAny_call_entry PyProof.Rows.slot_tuple_getitem ht.typeIs entry_tuple_getitem ?_ (args_tuple_getitem _ _)))
  show wpAny _ _ (Builtin.Tuple.tupleItemsOf (.ref t) >>= _) _ _ s
  refine wpAny_bind (tupleItemsOf_ ht ?_)
  refine wpAny_bind (wpAny_typeOf hTs ?_)
  rw [if_pos (by decide)]
  refine wpAny_bind (sliceApplied_gen hs pl pu ?_)
  have hno : ¬ ((((sIx items.size 0 lo : Nat) : Int) == 0 && (1 : Int) == 1 && (sIx items.size items.size hi - sIx items.size 0 lo) == items.size) = true) := by
    intro q
    rw [Bool.and_eq_true, Bool.and_eq_true] at q
    have q1 : ((sIx items.size 0 lo : Nat) : Int) = 0 := eq_of_beq q.1.1
    have q2 : sIx items.size items.size hi - sIx items.size 0 lo = items.size := eq_of_beq q.2
    exact hw ⟨by omega, by omega⟩
  show wpAny _ _ (if (((sIx items.size 0 lo : Nat) : Int) == 0 && (1 : Int) == 1 && (sIx items.size items.size hi - sIx items.size 0 lo) == items.size) = true then _ else _) _ _ s
  rw [if_neg hno, pick_gen]
  first
    | exact wpAny_bind (m := Builtin.Tuple.tupleExact _) (wpAny_newObj_type (wpAny_pure ⟨_, rfl, wpAny_pure h⟩) htake)
    | exact wpAny_bind (m := Builtin.Tuple.tupleExact _) (wpAny_newObj_type (wpAny_bind (wpAny_pure (wpAny_pure ⟨_, rfl, wpAny_pure h⟩))) htake)
    | exact wpAny_bind (wpAny_bind (m := Builtin.Tuple.tupleExact _) (wpAny_newObj_type (wpAny_pure (wpAny_pure ⟨_, rfl, wpAny_pure h⟩)) htake))
    | exact wpAny_bind (wpAny_bind (m := Builtin.Tuple.tupleExact _) (wpAny_newObj_type (wpAny_pure ⟨_, rfl, wpAny_pure h⟩) htake))
end
end HT

namespace L2
open PySem PySem.Spec PyProof.Rows

abbrev TO := St → Hp → (Option Int → Hp → Prop) → Prop
def PO (X : Cx) (e : Option Expr) (t : TO) : Prop :=
  ∀ (pins : List (Addr × Obj)) (s : Shared) (σ : St) (H : Hp) (Q : Option Int → Hp → Prop), Inv X pins σ H s → t σ H Q →
    wpAny (model X.prog X.w) X.A (evalPart e X.env) (fun u s' => ∃ o H', Inv X pins σ H' s' ∧ IsPart u o ∧ Q o H') X.xe s
noncomputable def tNoPart : TO := fun _ H Q => Q none H
noncomputable def tPart (t : TE) : TO := fun σ H Q => t σ H fun x H1 => ∃ i, x = .int i ∧ Q (some i) H1


section
variable {X : Cx} {e : Expr} {te : TE} {lo hi : Option Expr} {tl th : TO} {pos p2 : Pos}

theorem po_none : PO X none tNoPart := by
  intro pins s σ H Q I h
  rw [evalPart_none]
  exact wpAny_pure ⟨none, H, I, .none, h⟩
theorem po_some (h : PE X e te) : PO X (some e) (tPart te) := by
  intro pins s σ H Q I hw
  rw [evalPart_some]
  refine thn (h pins s σ H _ I hw) fun u s1 ⟨x, H1, I1, r1, q1⟩ => ?_
  obtain ⟨i, rfl, q⟩ := q1
  obtain ⟨t, rfl⟩ := r1
  exact ⟨some i, H1, I1, .int i t, q⟩

def SlR (X : Cx) (r : V → Option Int → Option Int → Hp → VK → Prop) : Prop :=
  ∀ (pins : List (Addr × Obj)) (s : Shared) (σ : St) (H : Hp) (x : V) (v vl vu : Value) (lo hi : Option Int) (sl : Addr) (Q : VK), Inv X pins σ H s → RelV x v → s.heap.IsSliceOf sl vl vu .none → IsPart vl lo → IsPart vu hi → r x lo hi H Q →
    ∃ T id, typeLookup (.type T) "__getitem__" = pure (some (.builtin id)) ∧ s.TypeIs v T ∧ wpAny (model X.prog X.w) X.A (getItem v (.ref sl)) (EP X pins σ Q) X.xe s
noncomputable def tSl (r : V → Option Int → Option Int → Hp → VK → Prop) (te : TE) (tl th : TO) : TE := fun σ H Q => te σ H fun x H1 => tl σ H1 fun l H2 => th σ H2 fun u H3 => r x l u H3 Q
theorem pe_slice {r : V → Option Int → Option Int → Hp → VK → Prop} (hr : SlR X r) (he : PE X e te) (hl : PO X lo tl) (hu : PO X hi th) : PE X (.Subscript e (.Slice lo hi none p2) pos) (tSl r te tl th) := by
  intro pins s σ H Q I h
  refine Subscript_ (thn (he pins s σ H _ I h) fun v s1 ⟨x, H1, I1, r1, q1⟩ => ?_)
  refine wpAny_Slice (thn (hl pins s1 σ H1 _ I1 q1) fun vl s2 ⟨l, H2, I2, pl, q2⟩ => thn (hu pins s2 σ H2 _ I2 q2) fun vu s3 ⟨u, H3, I3, pu, q3⟩ => ?_)
  rw [evalPart_none]
  refine wpAny_pure ?_
  have I4 : Inv X pins σ H3 { s3 with heap := s3.heap.push { cls := .type "slice", data := .fields #[vl, vu, .none] } } := I3.kept (t' := s3.toks) fun b ob q => Heap.get?_push_of_some _ q
  obtain ⟨T, id, hT, ht, hg⟩ := hr pins { s3 with heap := s3.heap.push { cls := .type "slice", data := .fields #[vl, vu, .none] } } σ H3 x v vl vu l u s3.heap.objs.size Q I4 r1 (Heap.IsSliceOf.new ..) pl pu q3
  show wpAny (model X.prog X.w) X.A (subscriptTail e (.Slice lo hi none p2) v (.ref s3.heap.objs.size)) (EP X pins σ Q) X.xe { s3 with heap := s3.heap.push { cls := .type "slice", data := .fields #[vl, vu, .none] } }
  exact tail_any (ops := [.ref s3.heap.objs.size, v]) ht hT hg (by with_unfolding_all rfl)

noncomputable def cutV (xs : List V) (lo hi : Option Int) : List V := (xs.drop (HT.sIx xs.length 0 lo)).take (HT.sIx xs.length xs.length hi - HT.sIx xs.length 0 lo)
theorem cutV_length (xs : List V) (lo hi : Option Int) : (cutV xs lo hi).length ≤ xs.length := by
  unfold cutV
  rw [List.length_take, List.length_drop]
  omega
def rSlT (K : PySem.W.Frag) : V → Option Int → Option Int → Hp → VK → Prop := fun x lo hi H Q => ∃ a xs, x = .ref a ∧ SqT K H a xs ∧
  ¬ (HT.sIx xs.length 0 lo = 0 ∧ HT.sIx xs.length xs.length hi = xs.length) ∧ ∀ p, H p = none → Q (.ref p) (upd H p (.tup (cutV xs lo hi)))
theorem sl_tup : SlR X (rSlT X.K) := by
  intro pins s σ H x v vl vu lo hi sl Q I rx hs pl pu h
  obtain ⟨a, xs, rfl, hx, hw, q⟩ := h
  cases rx
  obtain ⟨its, r, ht, hz⟩ := I.tuple hx
  have hlen : its.toArray.size = xs.length := by rw [List.size_toArray]; exact r.length.symm
  refine ⟨"tuple", _, PyProof.Rows.slot_tuple_getitem.lookup, ht.typeIs, ?_⟩
  refine HT.getItem_tuple_cut ht hs pl pu (by rw [hlen]; exact hw) ?_ (by rw [hlen]; exact hz)
  rw [hlen]
  refine ⟨.ref s.heap.objs.size, _, I.laid (t' := s.toks) (o := .tup (cutV xs lo hi)) (fun b ob q => Heap.get?_push_of_some _ q) (Nat.le_refl _) ?_, rfl, q _ (I.hok.fresh (Nat.le_refl _))⟩
  exact ⟨Nat.le_trans (cutV_length xs lo hi) hz, _, (r.drop (HT.sIx xs.length 0 lo)).take (HT.sIx xs.length xs.length hi - HT.sIx xs.length 0 lo), IsTup.new _ _⟩

noncomputable def rCatT (K : PySem.W.Frag) : R2 := fun x y H Q => ∃ a b xs ys, x = .ref a ∧ y = .ref b ∧ SqT K H a xs ∧ SqT K H b ys ∧ xs ≠ [] ∧ xs.length + ys.length ≤ sizeLine ∧
  (ys = [] → Q (.ref a) H) ∧ (ys ≠ [] → ∀ p, H p = none → Q (.ref p) (upd H p (.tup (xs ++ ys))))
theorem Vals.nil_iff {xs : List V} {us : List Value} (r : Vals xs us) : us = [] ↔ xs = [] := by
  cases r with
  | nil => simp
  | cons _ _ => simp
theorem op_catT : OpR X (binaryOp .Add) (rCatT X.K) := by
  intro pins s σ H x y v u Q I rx ry h
  obtain ⟨a, b, xs, ys, rfl, rfl, ha, hb, hx, hz, q1, q2⟩ := h
  cases rx
  cases ry
  obtain ⟨its, r1, p1, _⟩ := I.tuple ha
  obtain ⟨its2, r2, p2, _⟩ := I.tuple hb
  refine HT.cat_tup p1 p2 (fun z => hx (r1.nil_iff.mp z)) (fun z => ⟨.ref a, H, I, rfl, q1 (r2.nil_iff.mp z)⟩) (fun z => ?_) (by rw [← r1.length, ← r2.length]; exact hz)
  refine ⟨.ref s.heap.objs.size, _, I.laid (t' := s.toks) (o := .tup (xs ++ ys)) (fun b ob q => Heap.get?_push_of_some _ q) (Nat.le_refl _) ?_, rfl, q2 (fun w => z (r2.nil_iff.mpr w)) _ (I.hok.fresh (Nat.le_refl _))⟩
  exact ⟨by rw [List.length_append]; exact hz, _, r1.append r2, IsTup.new _ _⟩
end
end L2

namespace L2
open PySem PySem.Spec PyProof.Rows

noncomputable def ixN (n : Nat) (i : Int) : Option Nat := if 0 ≤ i then (if i < n then some i.toNat else none) else if -(n : Int) ≤ i then some (i + n).toNat else none
noncomputable def atI {α : Type} (xs : List α) (i : Int) : Option α := (ixN xs.length i).bind fun j => xs[j]?
theorem ixN_seq {n : Nat} {i : Int} {j : Nat} (h : ixN n i = some j) : seqIndex? i n = some j ∧ j < n ∧ -(n : Int) ≤ i ∧ i < n := by
  unfold ixN at h
  by_cases h0 : 0 ≤ i
  · rw [if_pos h0] at h
    by_cases h1 : i < n
    · rw [if_pos h1] at h
      have e : i.toNat = j := Option.some.inj h
      exact ⟨by rw [seqIndex_of h0 h1, e], by omega, by omega, h1⟩
    · rw [if_neg h1] at h; cases h
  · rw [if_neg h0] at h
    by_cases h1 : -(n : Int) ≤ i
    · rw [if_pos h1] at h
      have e : (i + n).toNat = j := Option.some.inj h
      exact ⟨by rw [seqIndex_neg (by omega) h1, e], by omega, h1, by omega⟩
    · rw [if_neg h1] at h; cases h
theorem atI_get {α : Type} {xs : List α} {i : Int} {v : α} (h : atI xs i = some v) : ∃ j, seqIndex? i xs.length = some j ∧ xs[j]? = some v ∧ j < xs.length ∧ -(xs.length : Int) ≤ i ∧ i < xs.length := by
  unfold atI at h
  cases e : ixN xs.length i with
  | none => rw [e] at h; cases h
  | some j =>
    rw [e] at h
    obtain ⟨h1, h2, h3, h4⟩ := ixN_seq e
    exact ⟨j, h1, h, h2, h3, h4⟩

def PlainIx (b : Expr) : Prop := ∀ o i, subscripted b false o i = operate [o, i] (getItem o i)
def IxR (X : Cx) (r : R2) : Prop :=
  ∀ (value slice : Expr) (pins : List (Addr × Obj)) (s : Shared) (σ : St) (H : Hp) (x y : V) (v u : Value) (Q : VK), Inv X pins σ H s → RelV x v → RelV y u → r x y H Q →
    subscripted slice false v u = operate [v, u] (getItem v u) → wpAny (model X.prog X.w) X.A (subscriptTail value slice v u) (EP X pins σ Q) X.xe s
def MtR (X : Cx) (id : String) (r : V → List V → Hp → VK → Prop) : Prop :=
  ∀ (pins : List (Addr × Obj)) (s : Shared) (σ : St) (H : Hp) (x : V) (xs : List V) (v : Value) (us : List Value) (Q : VK), Inv X pins σ H s → RelV x v → Vals xs us → r x xs H Q →
    wpAny (model X.prog X.w) X.A (call (.builtin id) (v :: us)) (EP X pins σ Q) X.xe s
section
variable {X : Cx} {a b : Expr} {ta tb : TE} {pos : Pos}
theorem pe_ix {r : R2} (hr : IxR X r) (ha : PE X a ta) (hb : PE X b tb) (hs : PlainIx b) : PE X (.Subscript a b pos) (tOp r ta tb) := by
  intro pins s σ H Q I h
  exact Subscript_ (binT ha hb I h fun v u s2 x y H2 I2 rx ry q => hr a b pins s2 σ H2 x y v u Q I2 rx ry q (hs _ _))

noncomputable def rIxL (K : PySem.W.Frag) : R2 := fun x y H Q => ∃ p xs i v, x = .ref p ∧ y = .int i ∧ SqL K H p xs ∧ atI xs i = some v ∧ Q v H
noncomputable def rIxT (K : PySem.W.Frag) : R2 := fun x y H Q => ∃ p xs i v, x = .ref p ∧ y = .int i ∧ SqT K H p xs ∧ atI xs i = some v ∧ Q v H
noncomputable def rIxS : R2 := fun x y H Q => ∃ z i c, x = .str z ∧ y = .int i ∧ z.length ≤ sizeLine ∧ atI z.cps.toList i = some c ∧ Q (.str ⟨#[c]⟩) H
theorem ix_list : IxR X (rIxL X.K) := by
  intro value slice pins s σ H x y v u Q I rx ry h hs
  obtain ⟨p, xs, i, z, rfl, rfl, hq, he, q⟩ := h
  cases rx
  obtain ⟨t, rfl⟩ := ry
  obtain ⟨its, r, pl, hz⟩ := I.list hq
  obtain ⟨j, h1, h2, h3, h4, h5⟩ := atI_get he
  obtain ⟨w, ew, rw'⟩ := r.get h2
  have hl := r.length
  have hn := line63
  have fin : EP X pins σ Q w s := ⟨z, H, I, rw', q⟩
  by_cases h0 : 0 ≤ i
  · have hj : i.toNat = j := by
      rw [seqIndex_of h0 h5] at h1
      exact Option.some.inj h1
    exact item_listR pl.isList h0 (by omega) (by rw [hj]; simpa using ew) fin hs
  · have hj : (i + (its.toArray.size : Int)).toNat = j := by
      rw [seqIndex_neg (by omega) h4] at h1
      rw [List.size_toArray, ← hl]
      exact Option.some.inj h1
    exact subscriptTail_builtinR (x := w) pl.isList.typeIs slot_list_getitem.lookup
      (wpAny_getItem_list_neg (Q := fun r s' => r = w ∧ EP X pins σ Q r s') pl.isList (by omega) (by rw [List.size_toArray] <;> omega) (by omega) (by rw [hj]; simpa using ew) ⟨rfl, fin⟩) hs
theorem ix_tup : IxR X (rIxT X.K) := by
  intro value slice pins s σ H x y v u Q I rx ry h hs
  obtain ⟨p, xs, i, z, rfl, rfl, hq, he, q⟩ := h
  cases rx
  obtain ⟨t, rfl⟩ := ry
  obtain ⟨its, r, pl, hz⟩ := I.tuple hq
  obtain ⟨j, h1, h2, h3, h4, h5⟩ := atI_get he
  obtain ⟨w, ew, rw'⟩ := r.get h2
  have hl := r.length
  have hn := line63
  have fin : EP X pins σ Q w s := ⟨z, H, I, rw', q⟩
  exact subscriptTail_builtinR (x := w) pl.typeIs slot_tuple_getitem.lookup
    (getItem_tuple (j := j) (Q := fun r s' => r = w ∧ EP X pins σ Q r s') pl (by omega) (by omega) (by rw [List.size_toArray, ← hl]; exact h1) (by simpa using ew) ⟨rfl, fin⟩) hs
theorem ix_str : IxR X rIxS := by
  intro value slice pins s σ H x y v u Q I rx ry h hs
  obtain ⟨z, i, c, rfl, rfl, hz, he, q⟩ := h
  obtain ⟨t, rfl⟩ := rx
  obtain ⟨t', rfl⟩ := ry
  obtain ⟨j, h1, h2, h3, h4, h5⟩ := atI_get he
  have hl : z.cps.toList.length = z.length := by simp [Str.length]
  rw [hl] at h1 h4 h5
  have hn := line63
  exact tail_any (typeIs_str s z t) slot_str_getitem.lookup (getItem_str (c := c) (by
    have e1 : decide (i < -(2 ^ 63 : Int)) = false := decide_eq_false (by omega)
    have e2 : decide (i ≥ 2 ^ 63) = false := decide_eq_false (by omega)
    rw [e1, e2, Bool.or_false]) (by rw [h1]; simpa using h2) ⟨.str ⟨#[c]⟩, H, I.tok _, ⟨_, rfl⟩, q⟩) hs

theorem mapSeq_set (its : List Value) (n j : Nat) (u : Value) : Obj.mapSeq (·.setIfInBounds j u) { cls := .type "list", data := .seq its.toArray n } = { cls := .type "list", data := .seq (its.set j u).toArray n } := by
  simp [Obj.mapSeq]
theorem Inv.lst {pins : List (Addr × Obj)} {σ : St} {H : Hp} {s : Shared} {p : Addr} {xs : List V} (I : Inv X pins σ H s) (h : H p = some (.lst xs)) :
    ∃ (its : List Value) (n : Nat), Vals xs its ∧ s.heap.get? p = some { cls := .type "list", data := .seq its.toArray n } ∧ xs.length ≤ sizeLine := by
  obtain ⟨z, its, n, r, e⟩ := I.hok p _ h
  exact ⟨its, n, r, e, z⟩
theorem Inv.lstUpd {pins : List (Addr × Obj)} {σ : St} {H : Hp} {s : Shared} {p : Addr} {xs ys : List V} {its its' : List Value} {n n' : Nat} {f : Obj → Obj} (I : Inv X pins σ H s) (h : H p = some (.lst xs))
    (ho : s.heap.get? p = some { cls := .type "list", data := .seq its.toArray n }) (hf : f { cls := .type "list", data := .seq its.toArray n } = { cls := .type "list", data := .seq its'.toArray n' }) (r : Vals ys its') (hz : ys.length ≤ sizeLine) (t : Nat) :
    Inv X pins σ (upd H p (.lst ys)) { s with heap := s.heap.update p f, toks := t } := by
  have e : (s.heap.update p f).get? p = some { cls := .type "list", data := .seq its'.toArray n' } := by
    rw [Heap.get?_update_self f ho (by rw [hf] <;> rfl), hf]
  refine I.write (x := p) (e := p) (by rw [h]; trivial) (.inl rfl) (fun b u hb q => (Heap.get?_update_other _ _ (Ne.symm hb)).trans q) ⟨_, e⟩ ?_
  exact ⟨hz, its', n', r, e⟩
def rSetL : V → V → V → Hp → (Hp → Prop) → Prop := fun o i v H Q => ∃ p xs k j, o = .ref p ∧ i = .int k ∧ H p = some (.lst xs) ∧ ixN xs.length k = some j ∧ Q (upd H p (.lst (xs.set j v)))
theorem set_list : PSet X rSetL := by
  intro pins s σ H o i v ov iv u Q I ro ri rv h
  obtain ⟨p, xs, k, j, rfl, rfl, hp, hj, q⟩ := h
  cases ro
  obtain ⟨t, rfl⟩ := ri
  obtain ⟨its, n, r, ho, hz⟩ := I.lst hp
  obtain ⟨h1, h2, h3, h4⟩ := ixN_seq hj
  have hl := r.length
  have hn := line63
  have I' : Inv X pins σ (upd H p (.lst (xs.set j v))) { s with heap := s.heap.update p (Obj.mapSeq (·.setIfInBounds j u)) } :=
    I.lstUpd hp ho (mapSeq_set its n j u) (r.set rv j) (by rw [List.length_set]; exact hz) s.toks
  by_cases h0 : 0 ≤ k
  · have hk : k.toNat = j := by
      rw [seqIndex_of h0 h4] at h1
      exact Option.some.inj h1
    exact PySem.W.ki_setAt ho h0 (by omega) (by rw [List.size_toArray, ← hl]; exact h4) (by rw [hk]; exact ⟨_, I', q⟩)
  · have hk : (k + (its.toArray.size : Int)).toNat = j := by
      rw [seqIndex_neg (by omega) h3] at h1
      rw [List.size_toArray, ← hl]
      exact Option.some.inj h1
    exact PySem.W.ki_setBack ho (by omega) (by rw [List.size_toArray, ← hl]; exact h3) (by omega) (by rw [hk]; exact ⟨_, I', q⟩)

theorem slice_bounds (lo hi : Option Int) (n : Nat) : (sliceBounds lo hi none n).1 = ((HT.sIx n 0 lo : Nat) : Int) ∧ (sliceBounds lo hi none n).2.1 = ((HT.sIx n n hi : Nat) : Int) ∧ (sliceBounds lo hi none n).2.2 = 1 := by
  refine ⟨?_, ?_, rfl⟩
  · cases lo with
    | none => simp [sliceBounds, HT.sIx]
    | some i =>
      simp only [sliceBounds, HT.sIx, Option.getD_none, show (1 : Int) > 0 by decide, if_true]
      by_cases h : i < 0
      · simp only [h, if_true] <;> omega
      · simp only [h, if_false] <;> omega
  · cases hi with
    | none => simp [sliceBounds, HT.sIx]
    | some i =>
      simp only [sliceBounds, HT.sIx, Option.getD_none, show (1 : Int) > 0 by decide, if_true]
      by_cases h : i < 0
      · simp only [h, if_true] <;> omega
      · simp only [h, if_false] <;> omega
theorem slicePick_cut (its : List Value) (lo hi : Option Int) : slicePick its.toArray lo hi none = ((its.drop (HT.sIx its.length 0 lo)).take (HT.sIx its.length its.length hi - HT.sIx its.length 0 lo)).toArray := by
  obtain ⟨h1, h2, h3⟩ := slice_bounds lo hi its.toArray.size
  unfold slicePick
  rw [h1, h2, h3]
  simp only [sliceRange_one, pick_run, List.size_toArray] <;> rfl
def rSlL (K : PySem.W.Frag) : V → Option Int → Option Int → Hp → VK → Prop := fun x lo hi H Q => ∃ a xs, x = .ref a ∧ SqL K H a xs ∧ ∀ p, H p = none → Q (.ref p) (upd H p (.lst (cutV xs lo hi)))
theorem sl_list : SlR X (rSlL X.K) := by
  intro pins s σ H x v vl vu lo hi sl Q I rx hs pl pu h
  obtain ⟨a, xs, rfl, hx, q⟩ := h
  cases rx
  obtain ⟨its, r, ht, hz⟩ := I.list hx
  have hlen := r.length
  refine ⟨"list", _, slot_list_getitem.lookup, ht.isList.typeIs, ?_⟩
  refine wpAny_getItem_list_slice ht.isList hs pl pu .none (by simp) ?_ (by rw [List.size_toArray] <;> omega)
  rw [slicePick_cut, ← hlen]
  refine ⟨.ref s.heap.objs.size, _, I.laid (t' := s.toks) (o := .lst (cutV xs lo hi)) (fun b ob q => Heap.get?_push_of_some _ q) (Nat.le_refl _) ?_, rfl, q _ (I.hok.fresh (Nat.le_refl _))⟩
  exact ⟨Nat.le_trans (cutV_length xs lo hi) hz, _, 0, (r.drop (HT.sIx xs.length 0 lo)).take (HT.sIx xs.length xs.length hi - HT.sIx xs.length 0 lo), Heap.get?_push_size _ rfl⟩

noncomputable def flatV : V → Bool
  | .non => true
  | .bl _ => true
  | .int _ => true
  | .str _ => true
  | _ => false
noncomputable def eqV : V → V → Bool
  | .non, .non => true
  | .bl a, .bl b => a == b
  | .bl a, .int b => (if a then 1 else 0) == b
  | .int a, .bl b => a == (if b then 1 else 0)
  | .int a, .int b => a == b
  | .str a, .str b => a == b
  | _, _ => false
theorem eqAt_V {A : Around} {s : Shared} {y x : V} {u v : Value} (ry : RelV y u) (rx : RelV x v) (fy : flatV y = true) (fx : flatV x = true) : SeqAt.EqAt A s u v (eqV y x) := by
  cases y with
  | non =>
    cases ry
    cases x with
    | non => cases rx; exact SeqAt.EqAt.same _
    | bl b => cases rx; exact SeqAt.EqAt.none_bool b
    | int b => obtain ⟨t, rfl⟩ := rx; exact SeqAt.EqAt.none_int b t
    | str b => obtain ⟨t, rfl⟩ := rx; exact SeqAt.EqAt.none_str b t
    | _ => exact absurd (show false = true from fx) Bool.false_ne_true
  | bl a =>
    cases ry
    cases x with
    | non => cases rx; exact SeqAt.EqAt.bool_none a
    | bl b => cases rx; exact SeqAt.EqAt.bool_bool a b
    | int b => obtain ⟨t, rfl⟩ := rx; exact SeqAt.EqAt.bool_int a b t
    | str b => obtain ⟨t, rfl⟩ := rx; exact SeqAt.EqAt.bool_str a b t
    | _ => exact absurd (show false = true from fx) Bool.false_ne_true
  | int a =>
    obtain ⟨t', rfl⟩ := ry
    cases x with
    | non => cases rx; exact SeqAt.EqAt.int_none a t'
    | bl b => cases rx; exact SeqAt.EqAt.int_bool a t' b
    | int b => obtain ⟨t, rfl⟩ := rx; exact SeqAt.EqAt.int_int a t' b t
    | str b => obtain ⟨t, rfl⟩ := rx; exact SeqAt.EqAt.int_str a t' b t
    | _ => exact absurd (show false = true from fx) Bool.false_ne_true
  | str a =>
    obtain ⟨t', rfl⟩ := ry
    cases x with
    | non => cases rx; exact SeqAt.EqAt.str_none a t'
    | bl b => cases rx; exact SeqAt.EqAt.str_bool a t' b
    | int b => obtain ⟨t, rfl⟩ := rx; exact SeqAt.EqAt.str_int a t' b t
    | str b => obtain ⟨t, rfl⟩ := rx; exact SeqAt.EqAt.str_str a t' b t
    | _ => exact absurd (show false = true from fx) Bool.false_ne_true
  | _ => exact absurd (show false = true from fy) Bool.false_ne_true
noncomputable def eqU (x : V) (u : Value) : Bool := match u with
  | .none => eqV .non x
  | .bool b => eqV (.bl b) x
  | .int i _ => eqV (.int i) x
  | .str z _ => eqV (.str z) x
  | _ => false
theorem eqU_of {x y : V} {u : Value} (r : RelV y u) (f : flatV y = true) : eqU x u = eqV y x := by
  cases y with
  | non => cases r; rfl
  | bl b => cases r; rfl
  | int i => obtain ⟨t, rfl⟩ := r; rfl
  | str z => obtain ⟨t, rfl⟩ := r; rfl
  | _ => exact absurd (show false = true from f) Bool.false_ne_true
theorem any_eqU {x : V} : ∀ {xs : List V} {us : List Value}, Vals xs us → xs.all flatV = true → us.any (eqU x) = xs.any fun y => eqV y x
  | _, _, .nil, _ => rfl
  | y :: xs, u :: us, .cons r t, f => by
    rw [List.all_cons, Bool.and_eq_true] at f
    rw [List.any_cons, List.any_cons, eqU_of r f.1, any_eqU t f.2]
theorem mem_eqAt {A : Around} {s : Shared} {x : V} {v : Value} (rx : RelV x v) (fx : flatV x = true) : ∀ {xs : List V} {us : List Value}, Vals xs us → xs.all flatV = true → ∀ u ∈ us, SeqAt.EqAt A s u v (eqU x u)
  | _, _, .nil, _ => fun u hu => by cases hu
  | y :: xs, u :: us, .cons r t, f => fun u' hu => by
    rw [List.all_cons, Bool.and_eq_true] at f
    rcases List.mem_cons.mp hu with rfl | hu
    · rw [eqU_of r f.1]; exact eqAt_V r rx f.1 fx
    · exact mem_eqAt rx fx t f.2 u' hu
noncomputable def inV (x : V) (xs : List V) : Bool := xs.any fun y => eqV y x
noncomputable def rIn (K : PySem.W.Frag) (neg : Bool) : R2 := fun x y H Q => ∃ p xs, y = .ref p ∧ (SqL K H p xs ∨ SqT K H p xs) ∧ flatV x = true ∧ xs.all flatV = true ∧ Q (.bl (if neg then !inV x xs else inV x xs)) H
theorem op_in_seq : OpR X (compareOp .In) (rIn X.K false) := by
  intro pins s σ H x y v u Q I rx ry h
  obtain ⟨p, xs, rfl, hq, fx, fs, q⟩ := h
  cases ry
  rcases hq with hq | hq
  · obtain ⟨its, r, pl, hz⟩ := I.list hq
    refine SeqAt.in_listAt (eqU x) pl.isList (fun w hw => mem_eqAt rx fx r fs w (by simpa using hw)) ⟨.bl _, H, I, rfl, ?_⟩
    rw [show its.toArray.any (eqU x) = its.any (eqU x) by simp, any_eqU r fs]
    exact q
  · obtain ⟨its, r, pl, hz⟩ := I.tuple hq
    refine SeqAt.in_tupleAt (eqU x) pl (fun w hw => mem_eqAt rx fx r fs w (by simpa using hw)) ⟨.bl _, H, I, rfl, ?_⟩
    rw [show its.toArray.any (eqU x) = its.any (eqU x) by simp, any_eqU r fs]
    exact q
theorem op_notIn_seq : OpR X (compareOp .NotIn) (rIn X.K true) := by
  intro pins s σ H x y v u Q I rx ry h
  obtain ⟨p, xs, rfl, hq, fx, fs, q⟩ := h
  cases ry
  rcases hq with hq | hq
  · obtain ⟨its, r, pl, hz⟩ := I.list hq
    refine SeqAt.notIn_listAt (eqU x) pl.isList (fun w hw => mem_eqAt rx fx r fs w (by simpa using hw)) ⟨.bl _, H, I, rfl, ?_⟩
    rw [show its.toArray.any (eqU x) = its.any (eqU x) by simp, any_eqU r fs]
    exact q
  · obtain ⟨its, r, pl, hz⟩ := I.tuple hq
    refine SeqAt.notIn_tupleAt (eqU x) pl (fun w hw => mem_eqAt rx fx r fs w (by simpa using hw)) ⟨.bl _, H, I, rfl, ?_⟩
    rw [show its.toArray.any (eqU x) = its.any (eqU x) by simp, any_eqU r fs]
    exact q
theorem op_notIn_str : OpR X (compareOp .NotIn) (fun x y H Q => ∃ i j, x = .str i ∧ y = .str j ∧ Q (.bl (!(!(Builtin.Str.occurrences j i 0 j.length 1).isEmpty))) H) := by
  intro pins s σ H x y v u Q I rx ry h
  obtain ⟨i, j, rfl, rfl, q⟩ := h
  obtain ⟨t, rfl⟩ := rx
  obtain ⟨t', rfl⟩ := ry
  exact notIn_str ⟨.bl _, H, I, rfl, q⟩

theorem call_len_seq : CallR X (.builtin "len") (fun xs H Q => ∃ p ys, xs = [.ref p] ∧ (SqL X.K H p ys ∨ SqT X.K H p ys) ∧ Q (.int ys.length) H) := by
  intro pins s σ H xs us Q I r h
  obtain ⟨p, ys, rfl, hq, q⟩ := h
  obtain ⟨u, rfl, rx⟩ := vals1 r
  cases rx
  have hn := line63
  rcases hq with hq | hq
  · obtain ⟨its, r', pl, hz⟩ := I.list hq
    have hlen := r'.length
    exact Calls.call_len_list pl.isList (by simp only [List.size_toArray] <;> omega) ⟨.int ys.length, H, I.tok _, ⟨s.toks + 1, by rw [List.size_toArray, hlen]⟩, q⟩
  · obtain ⟨its, r', pl, hz⟩ := I.tuple hq
    have hlen := r'.length
    exact len_tuple pl (by simp only [List.size_toArray] <;> omega) ⟨.int ys.length, H, I.tok _, ⟨s.toks + 1, by rw [List.size_toArray, hlen]⟩, q⟩
theorem call_list_of : CallR X (.type "list") (fun xs H Q => ∃ p ys, xs = [.ref p] ∧ (SqL X.K H p ys ∨ SqT X.K H p ys) ∧ ∀ l, H l = none → Q (.ref l) (upd H l (.lst ys))) := by
  intro pins s σ H xs us Q I r h
  obtain ⟨p, ys, rfl, hq, q⟩ := h
  obtain ⟨u, rfl, rx⟩ := vals1 r
  cases rx
  have fin : ∀ (its : List Value), Vals ys its → ys.length ≤ sizeLine → ∀ (h' : Heap) (c' : Nat), (∀ b o', s.heap.get? b = some o' → h'.get? b = some o') →
      h'.get? s.heap.objs.size = some { cls := .type "list", dict := none, data := .seq its.toArray c', slots := #[] } → EP X pins σ Q (.ref s.heap.objs.size) { s with heap := h' } := fun its r' hz h' c' kp e =>
    ⟨.ref s.heap.objs.size, _, I.laid (t' := s.toks) kp (Nat.le_refl _) (show ObjOk X.prog X.w _ h' _ (.lst ys) from ⟨hz, its, c', r', e⟩), rfl, q _ (I.hok.fresh (Nat.le_refl _))⟩
  rcases hq with hq | hq
  · obtain ⟨its, r', pl, hz⟩ := I.list hq
    have hlen := r'.length
    obtain ⟨o, ho, hc, n, hd⟩ := pl.isList
    exact call_list_seq p (.inl rfl) ho hc hd (fun h' c' kp e => fin its r' hz h' c' kp e) (by simp only [List.size_toArray] <;> omega)
  · obtain ⟨its, r', pl, hz⟩ := I.tuple hq
    have hlen := r'.length
    obtain ⟨o, ho, hc, n, hd⟩ := pl
    exact call_list_seq p (.inr rfl) ho hc hd (fun h' c' kp e => fin its r' hz h' c' kp e) (by simp only [List.size_toArray] <;> omega)
theorem call_tuple_of : CallR X (.type "tuple") (fun xs H Q => ∃ p ys, xs = [.ref p] ∧ ((SqL X.K H p ys ∧ ∀ l, H l = none → Q (.ref l) (upd H l (.tup ys))) ∨ (SqT X.K H p ys ∧ Q (.ref p) H))) := by
  intro pins s σ H xs us Q I r h
  obtain ⟨p, ys, rfl, h⟩ := h
  obtain ⟨u, rfl, rx⟩ := vals1 r
  cases rx
  rcases h with ⟨hq, q⟩ | ⟨hq, q⟩
  · obtain ⟨its, r', pl, hz⟩ := I.list hq
    have hlen := r'.length
    refine call_tuple_list pl.isList (fun h' kp => ?_) (by simp only [List.size_toArray] <;> omega)
    have I1 : Inv X pins σ H { s with heap := h' } := I.kept (t' := s.toks) kp
    have I2 : Inv X pins σ (upd H h'.objs.size (.tup ys)) { s with heap := h'.push { cls := .type "tuple", data := .seq its.toArray } } :=
      I1.laid (t' := s.toks) (fun b o e => Heap.get?_push_of_some _ e) (Nat.le_refl _) (show ObjOk X.prog X.w _ _ _ (.tup ys) from ⟨hz, its, r', IsTup.new _ _⟩)
    exact ⟨.ref h'.objs.size, _, I2, rfl, q _ (I1.hok.fresh (Nat.le_refl _))⟩
  · obtain ⟨its, r', pl, hz⟩ := I.tuple hq
    exact call_tuple_same pl ⟨.ref p, H, I, rfl, q⟩

def tyV (K : PySem.W.Frag) (T : String) (x : V) (H : Hp) : Prop := match x with
  | .str _ => T = "str"
  | .int _ => T = "int"
  | .ref p => (T = "list" ∧ ∃ xs, SqL K H p xs) ∨ (T = "tuple" ∧ ∃ o, K.lookup p = some o ∧ o.cls = .type "tuple" ∧ o.dict = none) ∨
      (T = "dict" ∧ ((∃ kvs, H p = some (.dK kvs)) ∨ ∃ kvs, H p = some (.dT kvs))) ∨ (T = "set" ∧ ∃ S n, H p = some (.set S n))
  | _ => False
theorem tyV_is {pins : List (Addr × Obj)} {σ : St} {H : Hp} {s : Shared} {T : String} {x : V} {v : Value} (I : Inv X pins σ H s) (r : RelV x v) (ty : tyV X.K T x H) :
    s.TypeIs v T ∧ ∀ a, v = .ref a → ∃ ob, s.heap.get? a = some ob ∧ ob.dict = none := by
  cases x with
  | str z =>
    obtain ⟨t, rfl⟩ := r
    cases (show T = "str" from ty)
    exact ⟨typeIs_str s z t, fun _ e => nomatch e⟩
  | int i =>
    obtain ⟨t, rfl⟩ := r
    cases (show T = "int" from ty)
    exact ⟨typeIs_int s i t, fun _ e => nomatch e⟩
  | ref p =>
    cases r
    rcases ty with ⟨rfl, xs, hq⟩ | ⟨rfl, o, hk, hc, hd⟩ | ⟨rfl, hk⟩ | ⟨rfl, S, n, hk⟩
    · obtain ⟨its, _, pl, _⟩ := I.list hq
      refine ⟨pl.isList.typeIs, fun a e => ?_⟩
      cases e
      obtain ⟨o, n, e, c, hd, _⟩ := pl
      exact ⟨o, e, hd⟩
    · refine ⟨⟨o, I.kIn p o hk, hc⟩, fun a e => ?_⟩
      cases e
      exact ⟨o, I.kIn _ o hk, hd⟩
    · have z : ∃ o, s.heap.get? p = some o ∧ o.ExactDict := by
        rcases hk with ⟨kvs, hk⟩ | ⟨kvs, hk⟩
        · obtain ⟨_, _, _, _, o, _, _, e, ex, _⟩ := I.hok p _ hk
          exact ⟨o, e, ex⟩
        · obtain ⟨_, _, _, _, o, _, _, e, ex, _⟩ := I.hok p _ hk
          exact ⟨o, e, ex⟩
      obtain ⟨o, e, ex⟩ := z
      refine ⟨⟨o, e, ex.1⟩, fun a e2 => ?_⟩
      cases e2
      exact ⟨o, e, ex.2.1⟩
    · obtain ⟨o, _, _, _, e, ex, _⟩ := I.hok p _ hk
      refine ⟨⟨o, e, ex.1⟩, fun a e2 => ?_⟩
      cases e2
      exact ⟨o, e, ex.2.1⟩
  | _ => exact False.elim ty
noncomputable def tBM (K : PySem.W.Frag) (T : String) (r : V → List V → Hp → VK → Prop) (to : TE) (t : TA) : TE := fun σ H Q => to σ H fun x H1 => tyV K T x H1 ∧ t σ H1 fun xs H2 => r x xs H2 Q
variable {o e : Expr} {es : List Expr} {to : TE} {t : TA} {name : Str} {apos cpos : Pos} {T id : String} {r : V → List V → Hp → VK → Prop}
theorem pe_bm (pa : PlainAttrs T) (slot : Slot T name id) (hty : typeOf (.builtin id) = pure (.type "method_descriptor")) (hm : MtR X id r) (ho : PE X o to) (ha : PA X (e :: es) t)
    (hbase : attributeBase o name X.env (eval o X.env) = eval o X.env := by rfl)
    (hfew : ((backTo cpos (starEach (e :: es) X.env)).all (fun x => !x.1) && (backToKw cpos (keywordEach [] X.env)).all (fun x => x.1.isSome)
      && decide ((e :: es).length + ([] : List Keyword).length + (if ([] : List Keyword).isEmpty then 0 else 1) < 30)) = true := by rfl)
    (hline : (apos.endLine == cpos.line) = true := by rfl) (hs : starEach (e :: es) X.env = (false, eval e X.env) :: starEach es X.env := by rfl) (hplain : (backTo cpos (starEach es X.env)).any (·.1) = false := by rfl) :
    PE X (.Call (.Attribute o name apos) (e :: es) [] cpos) (tBM X.K T r to t) := by
  intro pins s σ H Q I h
  refine wpAny_Call_method_late hbase hfew hline rfl (thn (ho pins s σ H _ I h) fun v s1 ⟨x, H1, I1, r1, ty, q1⟩ => ?_)
  obtain ⟨h1, h2⟩ := tyV_is I1 r1 ty
  refine ⟨T, id, pa, slot, hty, h1, h2, ?_⟩
  have hA := ha cpos pins s1 σ H1 _ I1 q1
  rw [hs] at hA ⊢
  refine Calls.callWith_builtin (by show (false || (backTo cpos (starEach es X.env)).any (·.1)) = false; rw [hplain] <;> rfl) (Calls.evalArgs_plain ?_)
  exact thn hA fun us s2 ⟨vs, H2, I2, r2, q2⟩ => hm pins s2 σ H2 x vs v us Q I2 r1 r2 q2
end
end L2

namespace L2
open PySem PySem.Spec PyProof.Rows

def MtM (X : Cx) (id : String) (r : V → List V → Hp → VK → Prop) : Prop :=
  ∀ (pins : List (Addr × Obj)) (s : Shared) (σ : St) (H : Hp) (x : V) (xs : List V) (v : Value) (us : List Value) (Q : VK), Inv X pins σ H s → RelV x v → Vals xs us → r x xs H Q →
    wpAny (model X.prog X.w) X.A (call (.builtin id) (v :: us)) (EP X pins σ Q) X.xe s

theorem Vals.one {x : V} {us : List Value} (h : Vals [x] us) : ∃ u, us = [u] ∧ RelV x u := by
  cases h with
  | cons r h => cases h; exact ⟨_, rfl, r⟩
theorem Vals.two {x y : V} {us : List Value} (h : Vals [x, y] us) : ∃ u v, us = [u, v] ∧ RelV x u ∧ RelV y v := by
  cases h with
  | cons r h => cases h with
    | cons q h => cases h; exact ⟨_, _, rfl, r, q⟩
theorem Vals.rep {xs : List V} {us : List Value} (h : Vals xs us) : ∀ k : Nat, Vals (List.replicate k xs).flatten (List.replicate k us).flatten
  | 0 => .nil
  | k + 1 => by
    rw [List.replicate_succ, List.replicate_succ, List.flatten_cons, List.flatten_cons]
    exact Vals.append h (Vals.rep h k)
theorem foldl_rep (its : List Value) : ∀ (k : Nat) (acc : List Value),
    List.foldl (fun x1 x2 => x1 ++ x2) acc.toArray (List.replicate k its.toArray) = (acc ++ (List.replicate k its).flatten).toArray
  | 0, acc => by simp
  | k + 1, acc => by
    have e : acc.toArray ++ its.toArray = (acc ++ its).toArray := by simp
    have e2 : (acc ++ its) ++ (List.replicate k its).flatten = acc ++ (List.replicate (k + 1) its).flatten := by
      rw [List.replicate_succ, List.flatten_cons, List.append_assoc]
    rw [← e2, ← foldl_rep its k (acc ++ its), ← e, List.replicate_succ, List.foldl_cons]

section
variable {X : Cx} {pins : List (Addr × Obj)} {σ : St} {H : Hp} {s : Shared} {l b : Addr} {xs ys zs : List V}

theorem Inv.lset {its its' : List Value} {n : Nat} {f : Array Value → Array Value} {t' : Nat} (I : Inv X pins σ H s) (hH : H l = some (.lst xs))
    (e : s.heap.get? l = some { cls := .type "list", data := .seq its.toArray n }) (hf : f its.toArray = its'.toArray) (hv : Vals ys its') (hz : ys.length ≤ sizeLine) :
    Inv X pins σ (upd H l (.lst ys)) { s with heap := s.heap.update l (Obj.mapSeq f), toks := t' } := by
  have q := PySem.IsL.update e f
  rw [hf] at q
  refine I.write (x := l) (e := l) (by rw [hH]; exact trivial) (.inl rfl) (fun b' u hb hu => (Heap.get?_update_other s.heap (Obj.mapSeq f) (Ne.symm hb)).trans hu) ⟨_, q⟩ ?_
  exact ⟨hz, its', _, hv, q⟩
theorem Inv.lnew {its : List Value} {t' : Nat} (I : Inv X pins σ H s) (hv : Vals ys its) (hz : ys.length ≤ sizeLine) :
    Inv X pins σ (upd H s.heap.objs.size (.lst ys)) { s with heap := s.heap.push { cls := .type "list", data := .seq its.toArray }, toks := t' } :=
  I.laid (fun _ _ q => Heap.get?_push_of_some _ q) (Nat.le_refl _) ⟨hz, its, 0, hv, Heap.get?_push_size _ rfl⟩
theorem Inv.fresh (I : Inv X pins σ H s) : H s.heap.objs.size = none := I.hok.fresh (Nat.le_refl _)
theorem Inv.lstM (I : Inv X pins σ H s) (hH : H l = some (.lst xs)) : xs.length ≤ sizeLine ∧ ∃ (its : List Value) (n : Nat), Vals xs its ∧ xs.length = its.length ∧ s.heap.get? l = some { cls := .type "list", data := .seq its.toArray n } := by
  obtain ⟨z, its, n, r, e⟩ := I.hok l _ hH
  exact ⟨z, its, n, r, r.length, e⟩

theorem notLongL {n : Nat} (h : n ≤ sizeLine) : Builtin.List.listTooLong n = false := by
  unfold Builtin.List.listTooLong
  exact decide_eq_false (by omega)
end

section
variable {X : Cx}

def rAppend : V → List V → Hp → VK → Prop := fun x vs H Q => ∃ l xs y, x = .ref l ∧ vs = [y] ∧ H l = some (.lst xs) ∧ xs.length < sizeLine ∧ Q .non (upd H l (.lst (xs ++ [y])))
theorem mt_append : MtM X "list.append" rAppend := by
  intro pins s σ H x vs v us Q I rx rv h
  obtain ⟨l, xs, y, rfl, rfl, hH, hz, q⟩ := h
  cases rx
  obtain ⟨u, rfl, ru⟩ := rv.one
  obtain ⟨z, its, n, r, hl, e⟩ := I.lstM hH
  refine call_meets F.slot_list_append ⟨_, e, rfl⟩ F.entry_list_append (F.args_list_append_2 _ _) (PySem.list_append l its.toArray n u (by rw [List.size_toArray]; omega)) ⟨e, ?_⟩
  refine ⟨.non, _, I.lset (its' := its ++ [u]) hH e (by simp) (r.append (.cons ru .nil)) ?_, rfl, q⟩
  rw [List.length_append, List.length_singleton]
  omega

def rExtend : V → List V → Hp → VK → Prop := fun x vs H Q => ∃ l b xs zs, x = .ref l ∧ vs = [.ref b] ∧ H l = some (.lst xs) ∧ H b = some (.lst zs) ∧ xs.length + zs.length ≤ sizeLine ∧ Q .non (upd H l (.lst (xs ++ zs)))
theorem mt_extend : MtM X "list.extend" rExtend := by
  intro pins s σ H x vs v us Q I rx rv h
  obtain ⟨l, b, xs, zs, rfl, rfl, hH, hB, hz, q⟩ := h
  cases rx
  obtain ⟨u, rfl, ru⟩ := rv.one
  cases ru
  obtain ⟨z, its, n, r, hl, e⟩ := I.lstM hH
  obtain ⟨z2, its2, n2, r2, hl2, e2⟩ := I.lstM hB
  have hsz : its.toArray.size + its2.toArray.size ≤ sizeLine := by rw [List.size_toArray, List.size_toArray]; omega
  have hlong : ¬ (!its.toArray.isEmpty && Builtin.List.listTooLong (its.toArray.size + its2.toArray.size)) = true := by
    rw [notLongL hsz, Bool.and_false]
    exact Bool.false_ne_true
  refine call_meets F.slot_list_extend ⟨_, e, rfl⟩ F.entry_list_extend (F.args_list_extend_2 _ _)
    (AutoSeq1.list_extend_list_list_0 l its.toArray n b its2.toArray n2 hlong (by rw [List.size_toArray]; omega) (by omega)) ⟨e, e2, ?_⟩
  refine ⟨.non, _, I.lset (its' := its ++ its2) hH e (by simp) (r.append r2) ?_, rfl, q⟩
  rw [List.length_append]
  omega





noncomputable def rRep : R2 := fun x y H Q => ∃ l k xs, x = .ref l ∧ y = .int k ∧ H l = some (.lst xs) ∧ -(2 ^ 63) ≤ k ∧ k < 2 ^ 63 ∧ xs.length * k.toNat ≤ sizeLine ∧
  ∀ p, H p = none → Q (.ref p) (upd H p (.lst (List.replicate k.toNat xs).flatten))
theorem len_rep {α : Type} (xs : List α) (k : Nat) : (List.replicate k xs).flatten.length = k * xs.length := by
  induction k with
  | zero => simp
  | succ k ih => rw [List.replicate_succ, List.flatten_cons, List.length_append, ih, Nat.succ_mul, Nat.add_comm]
theorem op_rep : OpR X (binaryOp .Mult) rRep := by
  intro pins s σ H x y v u Q I rx ry h
  obtain ⟨l, k, xs, rfl, rfl, hH, h1, h2, hz, q⟩ := h
  cases rx
  obtain ⟨t, rfl⟩ := ry
  obtain ⟨z, its, n, r, hl, e⟩ := I.lstM hH
  have hlen : its.toArray.size * k.toNat ≤ sizeLine := by rw [List.size_toArray, ← hl]; exact hz
  have hcap : ¬ its.toArray.size * k.toNat > (2 ^ 63 - 1) / 8 := by
    have : (sizeLine : Nat) ≤ (2 ^ 63 - 1) / 8 := by decide
    omega
  have hfit : ¬ (!Builtin.List.listFitsIndex k) = true := by
    rw [fitsIndex_both h1 h2]
    exact Bool.false_ne_true
  have hlong : ¬ Builtin.List.listTooLong (its.toArray.size * k.toNat) = true := by
    rw [notLongL hlen]
    exact Bool.false_ne_true
  have hnew : List.foldl (fun x1 x2 => x1 ++ x2) #[] (List.replicate (if its.toArray.isEmpty = true then 0 else k.toNat) its.toArray) = (List.replicate k.toNat its).flatten.toArray := by
    have f0 : ∀ m : Nat, List.foldl (fun x1 x2 => x1 ++ x2) #[] (List.replicate m its.toArray) = (List.replicate m its).flatten.toArray := fun m => by
      have := foldl_rep its m []
      rw [List.nil_append] at this
      exact this
    rw [f0]
    cases its with
    | nil => simp
    | cons a r' => rw [if_neg (by simp)]
  refine wpAny_binaryOp_repeat_ref (T := "list") (U := "int") (by decide) ⟨_, e, rfl⟩ (fun s' => typeIs_int s' k t) noFill_list_mul F.fills_int_mul F.slot_int_rmul repeat_list F.slot_int_index.lookup
    (call_meets F.slot_int_rmul (typeIs_int s k t) F.entry_int_rmul (F.args_int_rmul_2 _ _) (int___rmul___int_list k t l its.toArray n)
      ⟨e, rfl, ⟨_, e, rfl⟩, call_meets F.slot_list_mul ⟨_, e, rfl⟩ F.entry_list_mul (F.args_list_mul_2 _ _) (AutoListH.list___mul___list_int_3 l its.toArray n k t hfit hcap hlong) ⟨e, ?_⟩⟩)
  rw [hnew]
  exact ⟨.ref _, _, I.lnew (t' := s.toks) (r.rep k.toNat) (by rw [len_rep, Nat.mul_comm]; exact hz), rfl, q _ I.fresh⟩

end

section
variable {prog : Program} {w : World} {A : Around} {E : Value → Shared → Prop} {s : Shared}
end

section
variable {X : Cx}
end
end L2

namespace Att
open PySem PySem.W PySem.Calls PyProof.Rows

theorem ints_of_wellAll {P : Params} {h : Heap} : ∀ (ns : List Int) (vs : List Value), WellAll P h vs (ns.map WData.int) → IntsAre vs ns := by
  intro ns
  induction ns with
  | nil =>
    intro vs w
    rw [List.map_nil] at w
    cases w
    exact .nil
  | cons n ns ih =>
    intro vs w
    rw [List.map_cons] at w
    cases w with
    | cons a b =>
      cases a
      exact .cons _ _ (ih _ b)

theorem script_of {l : OpenLaw} {n : Nat} (hn : l.most = some n) {P : Params} {h : Heap} {args : List WData} {vals : List Value}
    (hpre : l.row.toRowW.claim.pre args = true) (hwl : WellAll P h vals args) :
    ∃ a vs ns, vals = [Value.ref a] ∧ args = [WData.list (ns.map WData.int)] ∧ h.get? a = some { cls := .type "list", data := .seq vs.toArray } ∧ IntsAre vs ns ∧ ns.length ≤ n := by
  have hsh : WShape.hasAll [] args [.list .int] = true := (pre_splitW hpre).1
  have hc : l.pre.holds [] { args := args } = true := (pre_splitW hpre).2
  obtain ⟨d, r, rfl, h1, h2⟩ := hasAllW_cons hsh
  obtain rfl := hasAllW_nil h2
  obtain ⟨xs, rfl, h3⟩ := hasW_list h1
  obtain ⟨ns, rfl⟩ := items_int h3
  have hlen : ns.length ≤ n := by
    unfold OpenLaw.pre at hc
    have h4 : (WTm.not (.lt (.lit (.int (n : Int))) (.len (.arg 0)))).holds [] { args := [.list (ns.map .int)] } = true := by
      have h4 := (holds_andW hc).1
      rw [hn] at h4
      exact h4
    have h5 := condW_of h4 (w_not (w_lt w_lit (w_len_list (w_arg rfl))))
    rw [List.length_map] at h5
    refine Nat.le_of_not_lt fun q => ?_
    have q' : (n : Int) < ((ns.length : Nat) : Int) := by omega
    first
      | (rw [decide_eq_true q'] at h5; exact absurd h5 (by decide))
      | (simp at h5; omega)
  cases hwl with
  | cons w1 w2 =>
    cases w2
    cases w1 with
    | list ho hall => exact ⟨_, _, ns, rfl, rfl, ho, ints_of_wellAll ns _ hall, hlen⟩

theorem post_true (l : OpenLaw) (args : List WData) : l.row.toRowW.claim.post args (.bool true) args = true :=
  postW_of (r := l.row.toRowW) (X := (true == true))
    (show WShape.has [] (.bool true) .bool = true by first | rfl | decide | simp [WShape.has, WShape.arms, WShape.armsAll])
    (show (WTm.eq .res (.lit (.bool true))).value [] { args := args, res := some (.bool true), after := args } = some (.bool (true == true)) from w_eq_bool (w_res rfl) w_lit) rfl


theorem attach_call {l : OpenLaw} {n : Nat} {q : Program} {loose : List Str} {XP : (Str → Option Value) → Heap → Prop} {YP : World → Heap → Prop} {d : DefRec}
    (hn : l.most = some n) (hdf : d.params.defaults = [])
    (call : ∀ (w : World) (s₀ s₁ : Shared) (mg mb : Str → Option Value) (fa : Addr) (o : Obj) (pm cd doc : Value) (a : Addr) (vs : List Value) (ns : List Int),
      Ground q loose [] XP w s₀ mg mb s₁.heap → YP w s₁.heap →
      s₁.heap.get? fa = some o → o.data = .func (docDef d.name d.params d.body d.scope pm cd doc) → s₁.heap.CodeRec cd d.name → mg d.name = some (.ref fa) →
      s₁.heap.get? a = some { cls := .type "list", data := .seq vs.toArray } → IntsAre vs ns → ns.length ≤ n → s₁.gens = #[] →
      codeAny (model l.prog w) callerA (.call (.ref fa) ⟨[.ref a], []⟩) (fun r s' => r = .ok (.ret (.bool true)) ∧ OldK s₁.heap s'.heap ∧ s'.os = s₁.os ∧ AllBare s'.gens) s₁) :
    WalkO q loose XP YP l.row.toRowW d [] (fun f vs => PySem.call f vs) := by
  intro w s₀ s₁ mg mb G Y fa o pm cd doc dV kV ho hd hcd hD hmg hg args vals as hpre hlay hrd hwl hlo
  obtain rfl : dV = .none := Dflts.none hD hdf
  obtain rfl : kV = .none := Dflts.noKw hD
  obtain ⟨a, vs, ns, rfl, rfl, hobj, hints, hlen⟩ := script_of hn hpre hwl
  refine enter_call (codeAny_mono (call w s₀ s₁ mg mb fa o pm cd doc a vs ns G Y ho (fd_plain hd) hcd hmg hobj hints hlen hg) fun r s' hq => ?_)
  obtain ⟨rfl, h2, h3, h4⟩ := hq
  exact ⟨.inl ⟨.bool true, .bool true, [], rfl, fun _ => rfl, .bool true, post_true l _, fun _ => ⟨List.Pairwise.nil, fun _ hm => (nomatch hm)⟩⟩, h2, h3, h4⟩


section
variable {prog : Program} {w : World} {A : Around} {E : Value → Shared → Prop} {s : Shared} {K : Frag}






end
end Att

namespace L2
open PySem PySem.Spec PyProof.Rows

theorem vals_ints : ∀ {vs : List Value} {ns : List Int}, IntsAre vs ns → Vals (ns.map V.int) vs
  | _, _, .nil => .nil
  | _, _, .cons n t h => .cons ⟨t, rfl⟩ (vals_ints h)

def Only (H : Hp) : Prop := ∀ b, H b = none ∨ ∃ o xs, H b = some (.frz o (.lst xs))

theorem law_call {P : Program} {w : World} {K : PySem.W.Frag} {mg mb : Str → Option Value} {CX : CXT} {k : Nat} {fa a : Addr} {fd : FuncData} {x : Str} {sp : Sp} {s₁ : Shared} {vs : List Value} {ns : List Int}
    (KX : K.In s₁.heap) (hns : s₁.heap.Ns mainGlobals mg) (hb : s₁.heap.Ns builtinsNs mb) (hbb : ∀ x : Str, x ≠ "__name__" → mb x = bootBuiltins x) (hlim : s₁.heap.NoLimit) (hg : s₁.gens = #[])
    (ha : s₁.heap.get? a = some { cls := .type "list", data := .seq vs.toArray }) (hi : IntsAre vs ns) (hl : ns.length ≤ sizeLine) (hr : Room k callerA)
    (F : ∀ base : Heap, K.In base → base.Ns mainGlobals mg → FnOk P w K mg base CX k fa fd [x] sp) (hbind : ∀ (s : Shared) (u : Value), BindsTo s fd ⟨[u], []⟩ [(x, u)])
    (hsp : ∀ H : Hp, Only H → SqL K H a (ns.map V.int) → sp [.ref a] H (fun v _ => v = .bl true) fun _ _ _ => False)
    (hCX : ∀ H e s', CX [] H s₁ (fun _ _ _ => False) e s' → False) :
    codeAny (model P w) callerA (.call (.ref fa) ⟨[.ref a], []⟩) (fun r s' => r = .ok (.ret (.bool true)) ∧ OldK s₁.heap s'.heap ∧ s'.os = s₁.os ∧ AllBare s'.gens) s₁ := by
  have rv := vals_ints hi
  have lenV := hi.length
  -- from an abstract heap in which nothing but the script may be tracked
  have core : ∀ H : Hp, Only H → SqL K H a (ns.map V.int) → HOk P w H s₁.heap → (∀ b, H b ≠ none → b = a) → (H a ≠ none → K.lookup a = none) →
      codeAny (model P w) callerA (.call (.ref fa) ⟨[.ref a], []⟩) (fun r s' => r = .ok (.ret (.bool true)) ∧ OldK s₁.heap s'.heap ∧ s'.os = s₁.os ∧ AllBare s'.gens) s₁ := by
    intro H hO hS hok hA hK
    have base_of : ∀ {b : Addr} {o : Obj}, s₁.heap.get? b = some o → H b = none → (hidT s₁.heap H).get? b = some o := fun e n => hidT_get e n
    have noA : ∀ {b : Addr} {o : Obj} {es : Array DictEntry} {ep : Nat}, s₁.heap.get? b = some o → o.data = .dict es ep → H b = none := fun {b o es ep} e d => by
      cases q : H b with
      | none => rfl
      | some u =>
        have e' : b = a := hA b (by rw [q]; simp)
        subst e'
        rw [ha] at e; cases e
        have d' : Data.seq vs.toArray _ = Data.dict es ep := d
        cases d'
    have nsK : ∀ {b : Addr} {m : Str → Option Value}, s₁.heap.Ns b m → (hidT s₁.heap H).Ns b m := fun {b m} ⟨o, es, ep, e, d, r⟩ => ⟨o, es, ep, base_of e (noA e d), d, r⟩
    have hKb : K.In (hidT s₁.heap H) := fun b o e => base_of (KX b o e) (by
      cases q : H b with
      | none => rfl
      | some u =>
        have e' : b = a := hA b (by rw [q]; simp)
        subst e'
        rw [hK (by rw [q]; simp)] at e; cases e)
    have hM : Mod K mg (hidT s₁.heap H) := ⟨hKb, nsK hns, ⟨mb, nsK hb, hbb⟩, let ⟨mc, h1, h2⟩ := hlim; ⟨mc, nsK h1, h2⟩⟩
    have e0 : Env0 P w K mg (hidT s₁.heap H) callerA [] s₁ H := ⟨rfl, hM, fun b o e => of_hidT e, Nat.le_of_eq (hidT_size _ _), trivial, fun b hb => absurd (show b ∈ ([] : List Addr) from hb) (by simp), hok, .of_eq hg⟩
    refine codeAny_mono ((F _ hKb (nsK hns)).run callerA [] s₁ H ⟨[.ref a], []⟩ [.ref a] [.ref a] _ _ hr e0 (hbind s₁ (.ref a)) (.cons rfl .nil) (hsp H hO hS)) fun r s' h => ?_
    cases r with
    | error e => exact (hCX H e s' h).elim
    | ok fl =>
      cases fl with
      | next => exact False.elim h
      | brk => exact False.elim h
      | cont => exact False.elim h
      | ret u =>
        obtain ⟨v, H', os, bare, un, hok', r', q⟩ := h
        have q' : v = .bl true := q
        subst q'
        obtain rfl : u = Value.bool true := r'
        refine ⟨rfl, OldK.of_keep fun b o e => ?_, os, bare⟩
        cases q : H b with
        | none => exact un.keep b o e q (by intro z; exact absurd (show b ∈ ([] : List Addr) from z) (by simp)) (by simp)
        | some u =>
          rcases hO b with z | ⟨ob, xs, z⟩
          · rw [q] at z; cases z
          · have z2 := un.frzs b ob _ z
            obtain ⟨e1, _⟩ := hok b _ z
            obtain ⟨e2, _⟩ := hok' b _ z2
            rw [e] at e1; cases e1
            exact e2
  cases hk : K.lookup a with
  | some o =>
    -- the script is one of the module's own objects
    have e := KX a o hk
    rw [ha] at e
    cases e
    refine core (fun _ => none) (fun _ => .inl rfl) (.inr ⟨_, vs.toArray, _, hk, rfl, rfl, rfl, by rw [List.size_toArray, lenV]; exact hl, by simpa using rv⟩) (fun b u z => by have z' : (none : Option HO) = some u := z; cases z') (fun b z => absurd rfl z) fun z => absurd rfl z
  | none =>
    refine core (fun b => if b = a then some (.frz { cls := .type "list", data := .seq vs.toArray } (.lst (ns.map V.int))) else none) (fun b => ?_) (.inl (.inr ⟨{ cls := .type "list", data := .seq vs.toArray }, if_pos rfl⟩)) (fun b u z => ?_) (fun b z => ?_) fun _ => hk
    · by_cases hb : b = a
      · exact .inr ⟨_, _, if_pos hb⟩
      · exact .inl (if_neg hb)
    · by_cases hb : b = a
      · have z' := (if_pos hb).symm.trans z
        cases z'
        subst hb
        exact ⟨ha, by rw [List.length_map]; exact hl, vs, _, rv, ha⟩
      · have z' := (if_neg hb).symm.trans z
        cases z'
    · by_cases hb : b = a
      · exact hb
      · exact absurd (if_neg hb) z
end L2

namespace L2
open PySem PySem.Spec PyProof.Rows


theorem walk_of {l : PySem.W.OpenLaw} {n k : Nat} {q : Program} {loose : List Str} {XP : (Str → Option Value) → Heap → Prop} {YP : World → Heap → Prop} {d : DefRec} {K : Params → PySem.W.Frag} {CX : World → CXT} {sp : World → Sp} {x : Str}
    (hn : l.most = some n) (hn2 : n ≤ sizeLine) (hdf : d.params.defaults = []) (hr : Room k callerA)
    (hY : ∀ (w : World) (h : Heap), YP w h → (K w.params).In h)
    (F : ∀ (w : World) (mg : Str → Option Value) (fa : Addr) (h : Heap), (K w.params).In h → h.Ns mainGlobals mg → mg d.name = some (.ref fa) →
      ∃ fd : FuncData, (∀ (s : Shared) (u : Value), BindsTo s fd ⟨[u], []⟩ [(x, u)]) ∧
        ∀ base : Heap, (K w.params).In base → base.Ns mainGlobals mg → FnOk l.prog w (K w.params) mg base (CX w) k fa fd [x] (sp w))
    (hsp : ∀ (w : World) (H : Hp) (a : Addr) (ns : List Int), ns.length ≤ n → Only H → SqL (K w.params) H a (ns.map V.int) → sp w [.ref a] H (fun v _ => v = .bl true) fun _ _ _ => False)
    (hCX : ∀ (w : World) (H : Hp) (s : Shared) (e : Value) (s' : Shared), CX w [] H s (fun _ _ _ => False) e s' → False) :
    PySem.W.WalkO q loose XP YP l.row.toRowW d [] (fun f vs => PySem.call f vs) := by
  refine Att.attach_call hn hdf fun w s₀ s₁ mg mb fa o pm cd doc a vs ns G Y ho hd hcd hmg hobj hints hlen hg => ?_
  have KX := hY w _ Y
  obtain ⟨fd, hb, hF⟩ := F w mg fa _ KX G.T.g hmg
  exact law_call KX G.T.g G.T.b G.T.builtins G.T.nolimit hg hobj hints (Nat.le_trans hlen hn2) hr hF hb (fun H hO hS => hsp w H a ns hlen hO hS) fun H e s' => hCX w H s₁ e s'
end L2


namespace L2
open PySem PySem.Spec PyProof.Rows

noncomputable def defArgs (s : Stmt) : Arguments := match s with
  | .FunctionDef _ a _ _ _ _ _ _ _ _ => a
  | _ => { posonlyargs := [], args := [], vararg := none, kwonlyargs := [], kw_defaults := [], kwarg := none, defaults := [] }
noncomputable def defBody (s : Stmt) : List Stmt := match s with
  | .FunctionDef _ _ b _ _ _ _ _ _ _ => b
  | _ => []
noncomputable def defScope (s : Stmt) : Scope := match s with
  | .FunctionDef _ _ _ _ _ _ sc _ _ _ => sc
  | _ => { kind := .function, names := [], isGenerator := false, isCoroutine := false }

noncomputable abbrev CX0 : CXT := fun _ _ _ _ _ _ => False
noncomputable abbrev E0 : XK := fun _ _ _ => False
theorem pass0 {X : Cx} : Passes CX0 X E0 := fun _ _ _ _ _ _ _ h => h.elim

structure Fun (K : PySem.W.Frag) (x qual : Str) (st : Stmt) (f : Addr) (fd : FuncData) : Prop where
  ex : ∃ (oc : Value) (od : Option Addr) (kV doc pm : Value) (an : Option Addr) (cdv ct : Value) (osl : Array (Option Value)),
    fd = PySem.W.fnOf x qual (defArgs st) (defBody st) (defScope st) .none kV doc pm an cdv ct ∧ K.lookup f = some ⟨oc, od, .func fd, osl⟩ ∧ PySem.W.codeIn K cdv qual = true
  kp : PySem.W.keepIn K (.ref f) = true
section
variable {P : Program} {w : World} {K : PySem.W.Frag} {mg : Str → Option Value} {base : Heap}
end

section
variable {X : Cx}
end



end L2



namespace L2
open PySem PySem.Spec PyProof.Rows
section
variable {κ : Type} [DecidableEq κ]
noncomputable def valV (kvs : List (κ × V)) (k : κ) : Option V := (kvs.find? fun kv => decide (kv.1 = k)).map (·.2)
noncomputable def putK (kvs : List (κ × V)) (k : κ) (v : V) : List (κ × V) :=
 if (kvs.any fun kv => decide (kv.1 = k)) = true then kvs.map (fun kv => if kv.1 = k then (kv.1, v) else kv) else kvs ++ [(k, v)]
theorem valV_pos {p : κ × V} {r : List (κ × V)} {k : κ} (e : p.1 = k) : valV (p :: r) k = some p.2 := by simp [valV, List.find?_cons, e]
theorem valV_neg {p : κ × V} {r : List (κ × V)} {k : κ} (e : ¬ p.1 = k) : valV (p :: r) k = valV r k := by simp [valV, List.find?_cons, e]
theorem RelO.isSome_eq {o : Option V} {u : Option Value} (r : RelO o u) : o.isSome = u.isSome := by
 cases o with
 | none => cases u with
  | none => rfl
  | some _ => exact (show False from r).elim
 | some _ => cases u with
  | none => exact (show False from r).elim
  | some _ => rfl
theorem KV.val {kvs : List (κ × V)} {vs : List (κ × Value)} (r : KV kvs vs) (k : κ) : RelO (valV kvs k) (valueAt vs k) := by
 unfold KV at r
 induction r with
 | nil => exact True.intro
 | @cons p q ps qs h t ih =>
  obtain ⟨h1, h2⟩ := h
  by_cases e : p.1 = k
  ·have e' : q.1 = k := h1.symm.trans e
   have b : valueAt (q :: qs) k = some q.2 := by simp [valueAt, List.find?_cons, e']
   rw [valV_pos e, b]; exact h2
  ·have e' : ¬ q.1 = k := fun z => e (h1.trans z)
   have b : valueAt (q :: qs) k = valueAt qs k := by simp [valueAt, List.find?_cons, e']
   rw [valV_neg e, b]; exact ih
theorem KV.any {kvs : List (κ × V)} {vs : List (κ × Value)} (r : KV kvs vs) (k : κ) : (kvs.any fun kv => decide (kv.1 = k)) = vs.any fun kv => decide (kv.1 = k) := by
 unfold KV at r
 induction r with
 | nil => rfl
 | cons h t ih => rw [List.any_cons, List.any_cons, ih, h.1]
theorem KV.repl {kvs : List (κ × V)} {vs : List (κ × Value)} (r : KV kvs vs) (k : κ) {y : V} {u : Value} (ry : RelV y u) :
  KV (kvs.map fun kv => if kv.1 = k then (kv.1, y) else kv) (vs.map fun kv => if kv.1 = k then (kv.1, u) else kv) := by
 unfold KV at r ⊢
 induction r with
 | nil => exact .nil
 | @cons p q ps qs h t ih =>
  rw [List.map_cons, List.map_cons]
  refine .cons ?_ ih
  obtain ⟨h1, h2⟩ := h
  by_cases e : p.1 = k
  ·rw [if_pos e, if_pos (h1.symm.trans e)]; exact ⟨h1, ry⟩
  ·rw [if_neg e, if_neg (fun z => e (h1.trans z))]; exact ⟨h1, h2⟩
theorem KV.put {kvs : List (κ × V)} {vs : List (κ × Value)} (r : KV kvs vs) (k : κ) {y : V} {u : Value} (ry : RelV y u) : KV (putK kvs k y) (stored vs k u) := by
 unfold putK stored
 rw [r.any k]
 by_cases e : (vs.any fun kv => decide (kv.1 = k)) = true
 ·rw [if_pos e, if_pos e]; exact r.repl k ry
 ·rw [if_neg e, if_neg e]; exact Paired.snoc r ⟨rfl, ry⟩
end
theorem kV_is {P : Program} {w : World} {k : Key} {u : Value} (r : RelV (kV k) u) : (mixKind P w).is k u = true := by
 cases k with
 | inl i => obtain ⟨t, e⟩ := (show ∃ t, u = Value.int i t from r); subst e; exact mixKind_int P w i t
 | inr x => obtain ⟨t, e⟩ := (show ∃ t, u = Value.str x t from r); subst e; exact mixKind_str P w x t
section
variable {P : Program} {w : World} {H : Hp} {h : Heap} {a : Addr}
theorem rd_of {u : HO} (ok : HOk P w H h) (e : Rd H a u) : ObjOk P w H h a u := e.ok ok
theorem dk_rd {kvs : List (Key × V)} (ok : HOk P w H h) (e : Rd H a (.dK kvs)) : kvs.length ≤ sizeLine ∧ (a == sysModules) = false ∧ ∃ vs, KV kvs vs ∧ h.DictOf (mixKind P w) a vs :=
 show ObjOk P w H h a (.dK kvs) from rd_of ok e
theorem dk_of {kvs : List (Key × V)} (ok : HOk P w H h) (e : H a = some (.dK kvs)) : kvs.length ≤ sizeLine ∧ (a == sysModules) = false ∧ ∃ vs, KV kvs vs ∧ h.DictOf (mixKind P w) a vs := dk_rd ok (.inl e)
end
section
variable {X : Cx} {pins : List (Addr × Obj)} {σ : St} {H : Hp} {s : Shared} {a : Addr} {y v : V} {u r : Value} {o : Option V} {A : Around} {E : Value → Shared → Prop}
end
section
variable {X : Cx}
noncomputable def rIxD : R2 := fun x y H Q => ∃ p kvs k v, x = .ref p ∧ y = kV k ∧ H p = some (.dK kvs) ∧ valV kvs k = some v ∧ Q v H
theorem ix_dct : IxR X rIxD := by
 intro value slice pins s σ H x y v u Q I rx ry h hs
 obtain ⟨p, kvs, k, z, rfl, rfl, hq, he, q⟩ := h
 cases rx
 obtain ⟨zz, hd, vs, rel, dd⟩ := dk_of I.hok hq
 obtain ⟨w', hw, rw'⟩ := RelO.some_of (v := z) (o := valueAt vs k) (by rw [← he]; exact rel.val k)
 exact tail_any dd.typeIs PySem.F.slot_dict_getitem.lookup (wpAny_getItem_of (kV_is ry) dd.mapOf hw ⟨z, H, I.tok _, rw', q⟩) hs
noncomputable def rInD : R2 := fun x y H Q => ∃ p kvs k, y = .ref p ∧ x = kV k ∧ H p = some (.dK kvs) ∧ Q (.bl (valV kvs k).isSome) H
theorem op_in_dct : OpR X (compareOp .In) rInD := by
 intro pins s σ H x y v u Q I rx ry h
 obtain ⟨p, kvs, k, rfl, rfl, hq, q⟩ := h
 cases ry
 obtain ⟨zz, hd, vs, rel, dd⟩ := dk_of I.hok hq
 refine wpAny_in_of (kV_is rx) hd dd.mapOf ?_
 rw [← (rel.val k).isSome_eq]
 exact ⟨.bl (valV kvs k).isSome, H, I.tok _, rfl, q⟩
end
section
variable {κ : Type} [DecidableEq κ]
theorem valV_any (k : κ) : ∀ kvs : List (κ × V), (kvs.any fun kv => decide (kv.1 = k)) = (valV kvs k).isSome
 | [] => rfl
 | p :: r => by
  rw [List.any_cons]
  by_cases e : p.1 = k
  ·simp only [valV_pos e, decide_eq_true e, Bool.true_or, Option.isSome_some]
  ·rw [valV_neg e, decide_eq_false e, Bool.false_or]; exact valV_any k r
end
abbrev KTp (H : Hp) : List (List Key × V) → List (List Key × Addr × Value) → Prop := Paired fun p q => p.1 = q.1 ∧ H q.2.1 = some (.tup (p.1.map kV)) ∧ RelV p.2 q.2.2
theorem KTp.val {H : Hp} {kvs : List (List Key × V)} {xs : List (List Key × Addr × Value)} (r : KTp H kvs xs) (k : List Key) : RelO (valV kvs k) ((atKey xs k).map (·.2)) := by
 induction r with
 | nil => exact True.intro
 | @cons p q ps qs h t ih =>
  obtain ⟨h1, _, h2⟩ := h
  by_cases e : p.1 = k
  ·have e' : q.1 = k := h1.symm.trans e
   have b : atKey (q :: qs) k = some q.2 := by simp [atKey, List.find?_cons, e']
   rw [valV_pos e, b]; exact h2
  ·have e' : ¬ q.1 = k := fun z => e (h1.trans z)
   have b : atKey (q :: qs) k = atKey qs k := by simp [atKey, List.find?_cons, e']
   rw [valV_neg e, b]; exact ih
theorem KTp.repl {H : Hp} {kvs : List (List Key × V)} {xs : List (List Key × Addr × Value)} (r : KTp H kvs xs) (k : List Key) {y : V} {u : Value} (ry : RelV y u) :
  KTp H (kvs.map fun kv => if kv.1 = k then (kv.1, y) else kv) (xs.map (putAt k u)) := by
 induction r with
 | nil => exact .nil
 | @cons p q ps qs h t ih =>
  rw [List.map_cons, List.map_cons]
  refine .cons ?_ ih
  obtain ⟨h1, h2, h3⟩ := h
  unfold putAt
  by_cases e : p.1 = k
  ·rw [if_pos e, if_pos (h1.symm.trans e)]; exact ⟨h1, h2, ry⟩
  ·rw [if_neg e, if_neg (fun z => e (h1.trans z))]; exact ⟨h1, h2, h3⟩
theorem KTp.put {H : Hp} {kvs : List (List Key × V)} {xs : List (List Key × Addr × Value)} (r : KTp H kvs xs) (k : List Key) {b : Addr} {y : V} {u : Value} (hb : H b = some (.tup (k.map kV))) (ry : RelV y u) :
  KTp H (putK kvs k y) (storedH xs k b u) := by
 have e : (kvs.any fun kv => decide (kv.1 = k)) = (atKey xs k).isSome := by
  rw [valV_any, (r.val k).isSome_eq, Option.isSome_map]
 unfold putK storedH
 rw [e]
 by_cases q : (atKey xs k).isSome = true
 ·rw [if_pos q, if_pos q]; exact r.repl k ry
 ·rw [if_neg q, if_neg q]; exact Paired.snoc r ⟨rfl, hb, ry⟩
theorem KTp.keeps {H H' : Hp} {kvs : List (List Key × V)} {xs : List (List Key × Addr × Value)} (r : KTp H kvs xs) (ht : ∀ b ys, H b = some (.tup ys) → H' b = some (.tup ys)) : KTp H' kvs xs :=
 Paired.mapP r fun _ _ z => ⟨z.1, ht _ _ z.2.1, z.2.2⟩
section
variable {P : Program} {w : World} {H : Hp} {h : Heap} {a : Addr}
end
section
variable {X : Cx}
end
end L2


namespace Dp
open PySem
noncomputable abbrev S (x : String) : Str := Str.ofString x

inductive D where
 | non | bl (b : Bool) | int (i : Int) | str (x : Str) | tup (xs : List D) | lst (id : Nat) | dct (ks : List Str) (vs : List D) | obj (i : Nat) | kt (ks : List Str) | dic (id : Nat)

noncomputable abbrev Env := List (Option D)
noncomputable abbrev Cell := Bool × List D
noncomputable abbrev Store := List Cell
noncomputable abbrev Res := Option (D × Store)
noncomputable abbrev Fn := List D → Store → Res

noncomputable def o2 {α β γ : Type} (f : α → β → γ) : Option α → Option β → Option γ
 | some x, some y => some (f x y)
 | _, _ => none
noncomputable def og {α : Type} (p : Prop) [Decidable p] (o : Option α) : Option α := if p then o else none
mutual
noncomputable def beqD : D → D → Bool
 | .non, .non => true
 | .bl a, .bl b => a == b
 | .int a, .int b => decide (a = b)
 | .str a, .str b => decide (a = b)
 | .tup a, .tup b => beqDs a b
 | _, _ => false
noncomputable def beqDs : List D → List D → Bool
 | [], [] => true
 | x :: xs, y :: ys => beqD x y && beqDs xs ys
 | _, _ => false
end
mutual
noncomputable def okD : Nat → D → Bool
 | _, .non => true
 | _, .int _ => true
 | _, .str _ => true
 | n + 1, .tup xs => okDs n xs
 | _, _ => false
noncomputable def okDs : Nat → List D → Bool
 | _, [] => true
 | n, x :: xs => okD n x && okDs n xs
end
inductive Sc where
 | non | bl (b : Bool) | int (i : Int) | str (x : Str)
noncomputable def scD : D → Option Sc
 | .non => some .non
 | .bl b => some (.bl b)
 | .int i => some (.int i)
 | .str x => some (.str x)
 | _ => none
noncomputable def eqSc : Sc → Sc → Option Bool
 | .non, .non => some true
 | .non, .bl _ => some false
 | .non, .int _ => some false
 | .non, .str _ => some false
 | .bl _, .non => some false
 | .bl a, .bl b => some (a == b)
 | .bl _, .int _ => none
 | .bl _, .str _ => some false
 | .int _, .non => some false
 | .int _, .bl _ => none
 | .int a, .int b => some (decide (a = b))
 | .int _, .str _ => some false
 | .str _, .non => some false
 | .str _, .bl _ => some false
 | .str _, .int _ => some false
 | .str a, .str b => some (decide (a = b))
noncomputable def eqT (xs : List D) : D → Option Bool
 | .tup ys => if okD 8 (.tup xs) && okD 8 (.tup ys) then some (beqDs xs ys) else none
 | _ => none
noncomputable def eqD (x y : D) : Option Bool := match x with
 | .tup xs => eqT xs y
 | x => (o2 eqSc (scD x) (scD y)).join

inductive Ty where
 | int | bool | str | tuple
 deriving DecidableEq

set_option genInjectivity false in
inductive CE where
 | var (i : Nat) | cst (d : D)
 | bin (op : Operator) (a b : CE) | neg (a : CE)
 | cmp (op : CmpOp) (a b : CE)
 | not (a : CE) | and (a b : CE) | or (a b : CE) | ife (c a b : CE)
 | tupE (a : CE) | lstE (a : CE) | anil | acons (a r : CE)
 | ix (a b : CE) | slice (a lo hi : CE) | nop | part (a : CE)
 | call (f : Nat) (args : CE) (ds : List D)
 | len (a : CE) | tupleOf (a : CE) | listOf (a : CE) | intOf (a : CE) | min (a b : CE) | max (a b : CE) | isi (T : Ty) (a : CE)
 | comp (rng : Bool) (fr : List Nat) (it elt cond : CE) | comp2 (fr : List Nat) (it elt cond : CE) | compT (fr : List Nat) (it elt cond : CE) | lstR (a b : CE) | new (i : Nat) | meth (tab : List (Nat × Nat)) (o a : CE) | isc (l : List Nat) (a : CE) | tix (o a : CE)
 | rs (k : Bool) (a : CE)
 | inv (a : CE) | tupR (a : CE) | look (ks : List Str) (ds : List D) (a : CE) | dget (a k d : CE) | all (a : CE) | any (a : CE) | inR (ng : Bool) (a b : CE)
 | dict (ks : List Str) (a : CE) | dnew | strOf (a : CE) | joinE (a b : CE) | starts (a b : CE) | rng2 (a b : CE)

set_option genInjectivity false in
inductive CS where
 | skip | seq (a b : CS) | ret (e : CE) | set (i : Nat) (e : CE) | app (i : Nat) (e : CE) | ext (i : Nat) (e : CE) | put (i : Nat) (k e : CE)
 | ite (c : CE) (a b : CS) | for1 (i : Nat) (rng : Bool) (it : CE) (b : CS) | for3 (i : Nat) (it : CE) (b : CS) | forP (i j : Nat) (it : CE) (b : CS) | forE (i j : Nat) (it : CE) (b : CS) | set2 (i j : Nat) (e : CE) | for4 (i j l : Nat) (it : CE) (b : CS) | for2 (i j : Nat) (it : CE) (b : CS) | whl (c : CE) (b : CS) | brk | cont | stop | set3 (i j l : Nat) (e : CE) | act (e : CE) | dput (i : Nat) (a b e : CE) | app2 (o e : CE)

noncomputable def lim64 (i : Int) : Bool := decide (-(2 ^ 64) < i) && decide (i < 2 ^ 64)
noncomputable def sizeMax : Nat := 1000000

noncomputable def binI (op : Operator) (i j : Int) : Option Int :=
 match op with
 | .Add => some (i + j)
 | .Sub => some (i - j)
 | .Mult => if lim64 i || lim64 j then some (i * j) else none
 | .FloorDiv => if 0 < j ∧ j < 1073741824 then some (i / j) else if j < 0 ∧ -1073741824 < j then some (i.fdiv j) else none
 | .Mod => if 0 < j then some (i % j) else if j < 0 then some (i.fmod j) else none
 | _ => none
noncomputable def isAdd : Operator → Bool
 | .Add => true
 | _ => false
noncomputable def isMul : Operator → Bool
 | .Mult => true
 | _ => false
noncomputable def catD (a b : Nat) (st : Store) : Res := match st[a]?, st[b]? with
 | some (_, xs), some (_, ys) => if xs.length + ys.length ≤ sizeMax then some (.lst st.length, st ++ [(true, xs ++ ys)]) else none
 | _, _ => none
noncomputable def repD (a : Nat) (j : Int) (st : Store) : Res := match st[a]? with
 | some (true, [x]) => if j ≤ 1000 ∧ -1000 ≤ j then some (.lst st.length, st ++ [(true, List.replicate j.toNat x)]) else none
 | _ => none
noncomputable def repT (xs : List D) (j : Int) (st : Store) : Res := match xs with
 | [x] => if j ≤ 1000 ∧ -1000 ≤ j then some (.tup (List.replicate j.toNat x), st) else none
 | _ => none
noncomputable def binD (op : Operator) (x y : D) (st : Store) : Res :=
 match x, y with
 | .int i, .int j => match binI op i j with
  | some k => some (.int k, st)
  | none => none
 | .tup xs, .tup ys => if isAdd op = true ∧ xs.length + ys.length ≤ sizeMax then some (.tup (xs ++ ys), st) else none
 | .tup xs, .int j => if isMul op = true then repT xs j st else none
 | .lst a, .lst b => if isAdd op = true then catD a b st else none
 | .lst a, .int j => if isMul op = true then repD a j st else none
 | .str x, .str y => if isAdd op = true ∧ x.length + y.length ≤ sizeMax then some (.str (x ++ y), st) else none
 | _, _ => none

noncomputable def occB (x k : Str) : Bool := !(PySem.Builtin.Str.occurrences x k 0 x.length 1).isEmpty
noncomputable def chS (x : Str) : List Str := x.cps.toList.map fun c => ⟨#[c]⟩
noncomputable def isDg (c : Nat) : Bool := decide (48 ≤ c) && decide (c ≤ 57)
noncomputable def dgV (l : List Nat) : Nat := l.foldl (fun a c => a * 10 + (c - 48)) 0
noncomputable def isFg (l : List Nat) : Bool := !l.isEmpty && l.all isDg && decide (l.length ≤ 600)
noncomputable def intS (x : Str) : Option Int := match x.cps.toList with
 | 45 :: r => if isFg r = true then some (-(dgV r : Int)) else none
 | l => if isFg l = true then some (dgV l : Int) else none
noncomputable def stW (x y : Str) : Bool := x.cps.toList.take y.cps.toList.length == y.cps.toList
noncomputable def catS : List Str → List Nat
 | [] => []
 | x :: r => x.cps.toList ++ catS r
noncomputable def gluR (s : Str) : List Str → List Nat
 | [] => []
 | x :: r => (s.cps.toList ++ x.cps.toList) ++ gluR s r
noncomputable def gluL (s : Str) : List Str → List Nat
 | [] => []
 | x :: r => x.cps.toList ++ gluR s r
noncomputable def strsD : List D → Option (List Str)
 | [] => some []
 | .str x :: r => (strsD r).map (x :: ·)
 | _ => none
noncomputable def pairS (_ : Store) (_ _ : List D) : Option Bool := none
noncomputable def eqLD (xs ys : List D) : Option Bool := if (xs.isEmpty || ys.isEmpty) = true then some (xs.isEmpty && ys.isEmpty) else if okDs 7 xs && okDs 7 ys then some (beqDs xs ys) else none
noncomputable def eqTS (st : Store) (xs : List D) : D → Option Bool
 | .tup ys => (match eqT xs (.tup ys) with
  | some k => some k
  | none => pairS st xs ys)
 | _ => none
noncomputable def eqLS (st : Store) (a : Nat) : D → Option Bool
 | .lst b => (o2 (fun (c d : Cell) => eqLD c.2 d.2) st[a]? st[b]?).join
 | _ => none
noncomputable def eqS (st : Store) (x y : D) : Option Bool := match x with
 | .lst a => eqLS st a y
 | .tup xs => eqTS st xs y
 | x => eqD x y

noncomputable def inInts : Int → List D → Option Bool
 | _, [] => some false
 | k, .int i :: r => (inInts k r).map fun b => decide (i = k) || b
 | _, _ => none
noncomputable def inStrs : Str → List D → Option Bool
 | _, [] => some false
 | k, .str i :: r => (inStrs k r).map fun b => decide (i = k) || b
 | _, _ => none

noncomputable def lookD : List Str → List D → Str → Option D
 | k :: ks, v :: vs, x => if k = x then some v else lookD ks vs x
 | _, _, _ => none
noncomputable def ordD (f : Int → Int → Bool) : D → D → Option Bool
 | .int i, .int j => some (f i j)
 | _, _ => none
noncomputable def ltD (x y : D) : Option Bool := ordD (fun i j => decide (i < j)) x y
noncomputable def ltS (_ : Store) (x y : D) : Option Bool := ltD x y
noncomputable def inS (st : Store) (x y : D) : Option Bool := match x, y with
 | .int k, .lst a => match st[a]? with
  | some (_, xs) => inInts k xs
  | none => none
 | .str k, .lst a => match st[a]? with
  | some (_, xs) => inStrs k xs
  | none => none
 | .int k, .tup xs => inInts k xs
 | .str k, .tup xs => inStrs k xs
 | .str k, .dct ks vs => some (lookD ks vs k).isSome
 | .str k, .str x => some (occB x k)
 | _, _ => none
noncomputable def niS (st : Store) (x y : D) : Option Bool := match y with
 | .dct _ _ => none
 | y => (inS st x y).map not
noncomputable def isN : D → Option Bool
 | .non => some true
 | .int _ => some false
 | .str _ => some false
 | .bl _ => some false
 | .tup _ => some false
 | .lst _ => some false
 | .dct _ _ => none
 | .obj _ => none
 | .kt _ => none
 | .dic _ => none
noncomputable def isB (b : Bool) : D → Option Bool
 | .bl a => some (a == b)
 | _ => none
noncomputable def isD (x : D) : D → Option Bool
 | .non => isN x
 | .bl b => isB b x
 | _ => none
noncomputable def cmpD (op : CmpOp) (x y : D) (st : Store) : Option Bool :=
 match op with
 | .Lt => ltS st x y
 | .LtE => ordD (fun i j => decide (i ≤ j)) x y
 | .Gt => ordD (fun i j => decide (j < i)) x y
 | .GtE => ordD (fun i j => decide (j ≤ i)) x y
 | .Eq => eqS st x y
 | .NotEq => (eqS st x y).map not
 | .In => inS st x y
 | .NotIn => niS st x y
 | .Is => isD x y
 | .IsNot => (isD x y).map not

noncomputable def ixN (n : Nat) (i : Int) : Option Nat := if 0 ≤ i then (if i < n then some i.toNat else none) else if -(n : Int) ≤ i then some (i + n).toNat else none
noncomputable def atD (xs : List D) (i : Int) : Option D := (ixN xs.length i).bind fun j => xs[j]?
noncomputable def ixD (x y : D) (st : Store) : Option D :=
 match x, y with
 | .tup xs, .int i => atD xs i
 | .lst a, .int i => match st[a]? with
  | some (_, xs) => atD xs i
  | none => none
 | .dct ks vs, .str k => lookD ks vs k
 | .kt ks, .int i => atD (ks.map .str) i
 | .str x, .int i => if x.length ≤ sizeMax then atD ((chS x).map .str) i else none
 | _, _ => none

noncomputable def sIx (n d : Nat) : Option Int → Nat
 | none => d
 | some i => if i < 0 then (i + n).toNat else Nat.min i.toNat n
noncomputable def cutS (x : Str) (lo hi : Option Int) : Str := ⟨((x.cps.toList.drop (sIx x.length 0 lo)).take (sIx x.length x.length hi - sIx x.length 0 lo)).toArray⟩
noncomputable def cutD (xs : List D) (lo hi : Option Int) : List D := (xs.drop (sIx xs.length 0 lo)).take (sIx xs.length xs.length hi - sIx xs.length 0 lo)
noncomputable def sliceD (x : D) (lo hi : Option Int) (st : Store) : Res :=
 match x with
 | .tup xs => if sIx xs.length 0 lo = 0 ∧ sIx xs.length xs.length hi = xs.length then some (.tup xs, st) else some (.tup (cutD xs lo hi), st)
 | .lst a => match st[a]? with
  | some (_, xs) => some (.lst st.length, st ++ [(true, cutD xs lo hi)])
  | none => none
 | .str x => if x.length ≤ sizeMax then some (.str (cutS x lo hi), st) else none
 | _ => none

noncomputable def lenD (x : D) (st : Store) : Option Int :=
 match x with
 | .tup xs => some xs.length
 | .lst a => match st[a]? with
  | some (_, xs) => some xs.length
  | none => none
 | .kt ks => some ks.length
 | .str x => if x.length ≤ sizeMax then some x.length else none
 | _ => none

noncomputable def isiD (T : Ty) : D → Option Bool
 | .int _ => some (decide (T = .int))
 | .bl _ => some (decide (T = .int) || decide (T = .bool))
 | .str _ => some (decide (T = .str))
 | .tup _ => some (decide (T = .tuple))
 | .non => some false
 | _ => none

noncomputable def itemsD (rng : Bool) (x : D) : Option (List D) :=
 match rng, x with
 | true, .int n => if n < 2 ^ 62 ∧ -(2 ^ 62) ≤ n then some ((List.range n.toNat).map fun (k : Nat) => D.int (k : Int)) else none
 | false, .tup xs => some xs
 | _, _ => none

noncomputable def rangeN (a b c : Int) : Nat := if 0 < c then (if a < b then ((b - a - 1) / c + 1).toNat else 0) else (if b < a then ((a - b - 1) / (-c) + 1).toNat else 0)
noncomputable def rangeOk (a b c : Int) : Bool := decide ((-(2 ^ 30) < a ∧ a < 2 ^ 30) ∧ (-(2 ^ 30) < b ∧ b < 2 ^ 30) ∧ (c = 1 ∨ c = -1 ∨ c = 2 ∨ c = 3 ∨ c = 4))
noncomputable def rangeL (a b c : Int) : List Int := (List.range (rangeN a b c)).map fun (k : Nat) => a + k * c
noncomputable def compD (ok : Store → Prop) (f : D → Store → Res) (c : D → Store → Res) : List D → Store → Option (List D × Store)
 | [], st => open Classical in if ok st then some ([], st) else none
 | x :: xs, st => open Classical in if ok st then (match c x st with
  | some (.bl true, st1) => match f x st1 with
   | some (y, st2) => match compD ok f c xs st2 with
    | some (ys, st3) => some (y :: ys, st3)
    | none => none
   | none => none
  | some (.bl false, st1) => compD ok f c xs st1
  | _ => none) else none
noncomputable def walkD (rng : Bool) (x : D) (st : Store) : Option (List D × (Store → Prop)) := match itemsD rng x with
 | some xs => some (xs, fun _ => True)
 | none => match rng, x with
  | false, .lst a => match st[a]? with
   | some c => some (c.2, fun s => s[a]? = some c)
   | none => none
  | false, .str x => if x.cps.all (fun c => decide (c < 128)) = true then some ((chS x).map .str, fun _ => True) else none
  | false, .dct [] [.int a, .int b] => some ((rangeL a b 1).map .int, fun _ => True)
  | _, _ => none



noncomputable abbrev Ev := Env → Store → Res
noncomputable def seq1 (fa : Ev) (g : D → Store → Res) : Ev := fun ρ st => match fa ρ st with
 | some (x, st1) => g x st1
 | none => none
noncomputable def seq2 (fa fb : Ev) (g : D → D → Store → Res) : Ev := fun ρ st => match fa ρ st with
 | some (x, st1) => match fb ρ st1 with
  | some (y, st2) => g x y st2
  | none => none
 | none => none
noncomputable def seq3 (fa fb fc : Ev) (g : D → D → D → Store → Res) : Ev := fun ρ st => match fa ρ st with
 | some (x, st1) => match fb ρ st1 with
  | some (y, st2) => match fc ρ st2 with
   | some (z, st3) => g x y z st3
   | none => none
  | none => none
 | none => none
noncomputable def cond (fc ft ff : Ev) : Ev := fun ρ st => match fc ρ st with
 | some (.bl true, st1) => ft ρ st1
 | some (.bl false, st1) => ff ρ st1
 | _ => none
noncomputable def evVar (i : Nat) : Ev := fun ρ st => match ρ[i]? with
 | some (some d) => some (d, st)
 | _ => none
noncomputable def evC (d : D) : Ev := fun _ st => some (d, st)
noncomputable def negD : D → Store → Res
 | .int i, st => some (.int (-i), st)
 | _, _ => none
noncomputable def notD : D → Store → Res
 | .bl k, st => some (.bl (!k), st)
 | _, _ => none
noncomputable def cmpR (op : CmpOp) (x y : D) (st : Store) : Res := match cmpD op x y st with
 | some k => some (.bl k, st)
 | none => none
noncomputable def lstD : D → Store → Res
 | .tup xs, st => some (.lst st.length, st ++ [(true, xs)])
 | _, _ => none
noncomputable def consD : D → D → Store → Res
 | x, .tup xs, st => if xs.length < 1000 then some (.tup (x :: xs), st) else none
 | _, _, _ => none
noncomputable def ixR (x y : D) (st : Store) : Res := match ixD x y st with
 | some d => some (d, st)
 | none => none
noncomputable def sliceR : D → D → D → Store → Res
 | x, .non, .non, st => sliceD x none none st
 | x, .int i, .non, st => sliceD x (some i) none st
 | x, .non, .int j, st => sliceD x none (some j) st
 | x, .int i, .int j, st => sliceD x (some i) (some j) st
 | _, _, _, _ => none
noncomputable def partD : D → Store → Res
 | .int i, st => some (.int i, st)
 | _, _ => none
noncomputable def callR (g : Fn) (ds : List D) : D → Store → Res
 | .tup xs, st => g (xs ++ ds) st
 | _, _ => none
noncomputable def lenR (x : D) (st : Store) : Res := match lenD x st with
 | some n => some (.int n, st)
 | none => none
noncomputable def tupleD : D → Store → Res
 | .tup xs, st => some (.tup xs, st)
 | .lst l, st => match st[l]? with
  | some (_, xs) => some (.tup xs, st)
  | none => none
 | _, _ => none
noncomputable def listD : D → Store → Res
 | .tup xs, st => some (.lst st.length, st ++ [(true, xs)])
 | .lst l, st => match st[l]? with
  | some (_, xs) => some (.lst st.length, st ++ [(true, xs)])
  | none => none
 | _, _ => none
noncomputable def strOD : D → Store → Res
 | .int i, st => if lim64 i = true then some (.str (Str.ofString (toString i)), st) else none
 | _, _ => none
noncomputable def joinL (ds : List D) (st : Store) : Res := match strsD ds with
 | some xs => if (catS xs).length ≤ sizeMax then some (.str ⟨(catS xs).toArray⟩, st) else none
 | none => none
noncomputable def joinG (s : Str) (ds : List D) (st : Store) : Res := match strsD ds with
 | some xs => if (gluR s xs).length ≤ sizeMax then some (.str ⟨(gluL s xs).toArray⟩, st) else none
 | none => none
noncomputable def joinD : D → D → Store → Res
 | .str s, .lst a, st => match st[a]? with
  | some (_, ds) => if s.length = 0 then joinL ds st else joinG s ds st
  | none => none
 | _, _, _ => none
noncomputable def rng2D : D → D → Store → Res
 | .int a, .int b, st => if rangeOk a b 1 = true then some (.dct [] [.int a, .int b], st) else none
 | _, _, _ => none
noncomputable def startsD : D → D → Store → Res
 | .str x, .tup [.str y], st => some (.bl (stW x y), st)
 | _, _, _ => none
noncomputable def minD : D → D → Store → Res
 | .int i, .int j, st => some (.int (if j < i then j else i), st)
 | _, _, _ => none
noncomputable def maxD : D → D → Store → Res
 | .int i, .int j, st => some (.int (if j > i then j else i), st)
 | _, _, _ => none
noncomputable def isiR (T : Ty) (x : D) (st : Store) : Res := match isiD T x with
 | some k => some (.bl k, st)
 | none => none
noncomputable def getD : D → D → D → Store → Res
 | .dct ks vs, .str k, d, st => some ((lookD ks vs k).getD d, st)
 | _, _, _, _ => none
noncomputable def inRD (ng : Bool) : D → D → Store → Res
 | .int x, .int n, st => if -(2 ^ 62) ≤ n ∧ n < 2 ^ 62 then some (.bl (ng != decide (0 ≤ x ∧ x < n)), st) else none
 | _, _, _ => none
noncomputable def one (d : D) : List (Option D) := [some d]
noncomputable def two : D → List (Option D)
 | .tup [a, b] => [some a, some b]
 | _ => []
noncomputable def envC (b : D → List (Option D)) (ρ : Env) (fr : List Nat) (d : D) : Env := b d ++ fr.map fun i => (ρ[i]?).join
noncomputable def compR (b : D → List (Option D)) (w : D → Store → Option (List D × (Store → Prop))) (fr : List Nat) (fi fe fc : Ev) : Ev := fun ρ st => match fi ρ st with
 | some (x, st1) => match w x st1 with
  | some (xs, ok) => if xs.length ≤ 1000 then
    match compD ok (fun d s => fe (envC b ρ fr d) s) (fun d s => fc (envC b ρ fr d) s) xs st1 with
    | some (ys, st2) => some (.lst st2.length, st2 ++ [(true, ys)])
    | none => none
   else none
  | none => none
 | none => none

noncomputable def ev (F : Nat → Fn) : CE → Ev
 | .var i => evVar i
 | .cst d => evC d
 | .bin op a b => seq2 (ev F a) (ev F b) (binD op)
 | .neg a => seq1 (ev F a) negD
 | .cmp op a b => seq2 (ev F a) (ev F b) (cmpR op)
 | .not a => seq1 (ev F a) notD
 | .and a b => cond (ev F a) (ev F b) (evC (.bl false))
 | .or a b => cond (ev F a) (evC (.bl true)) (ev F b)
 | .ife c a b => cond (ev F c) (ev F a) (ev F b)
 | .tupE a => ev F a
 | .lstE a => seq1 (ev F a) lstD
 | .anil => evC (.tup [])
 | .acons a r => seq2 (ev F a) (ev F r) consD
 | .ix a b => seq2 (ev F a) (ev F b) ixR
 | .slice a lo hi => seq3 (ev F a) (ev F lo) (ev F hi) sliceR
 | .nop => evC .non
 | .part a => seq1 (ev F a) partD
 | .call f a ds => seq1 (ev F a) (callR (F f) ds)
 | .len a => seq1 (ev F a) lenR
 | .tupleOf a => seq1 (ev F a) tupleD
 | .listOf a => seq1 (ev F a) listD
 | .intOf _ => fun _ _ => none
 | .min a b => seq2 (ev F a) (ev F b) minD
 | .max a b => seq2 (ev F a) (ev F b) maxD
 | .isi T a => seq1 (ev F a) (isiR T)
 | .rs _ _ => fun _ _ => none
 | .inv _ => fun _ _ => none
 | .tupR _ => fun _ _ => none
 | .look _ _ _ => fun _ _ => none
 | .dget _ _ _ => fun _ _ => none
 | .inR ng a b => seq2 (ev F a) (ev F b) (inRD ng)
 | .all _ => fun _ _ => none
 | .any _ => fun _ _ => none
 | .comp rng fr it elt cnd => compR one (walkD rng) fr (ev F it) (ev F elt) (ev F cnd)
 | .comp2 _ _ _ _ => fun _ _ => none
 | .compT _ _ _ _ => fun _ _ => none
 | .lstR _ _ => fun _ _ => none
 | .new _ => fun _ _ => none
 | .meth _ _ _ => fun _ _ => none
 | .isc _ _ => fun _ _ => none
 | .tix _ _ => fun _ _ => none
 | .dict _ _ => fun _ _ => none
 | .dnew => fun _ _ => none
 | .strOf a => seq1 (ev F a) strOD
 | .joinE a b => seq2 (ev F a) (ev F b) joinD
 | .starts a b => seq2 (ev F a) (ev F b) startsD
 | .rng2 a b => seq2 (ev F a) (ev F b) rng2D

inductive Fl where
 | nx (ρ : Env) | rt (d : D) | bk (ρ : Env) | ct (ρ : Env)

noncomputable def setE (ρ : Env) (i : Nat) (d : D) : Env := ρ.set i (some d)

noncomputable def loopD (body : D → Env → Store → Option (Fl × Store)) : List D → Env → Store → Option (Fl × Store)
 | [], ρ, st => some (.nx ρ, st)
 | d :: ds, ρ, st => match body d ρ st with
  | some (.nx ρ', st') => loopD body ds ρ' st'
  | some (.ct ρ', st') => loopD body ds ρ' st'
  | some (.bk ρ', st') => some (.nx ρ', st')
  | some (.rt v, st') => some (.rt v, st')
  | none => none
noncomputable def loopL (body : D → Env → Store → Option (Fl × Store)) (a : Nat) : Nat → Nat → Env → Store → Option (Fl × Store)
 | 0, i, ρ, st => match st[a]? with
  | some (_, xs) => if xs.length ≤ i then some (.nx ρ, st) else none
  | none => none
 | n + 1, i, ρ, st => match st[a]? with
  | some (_, xs) => match xs[i]? with
   | none => some (.nx ρ, st)
   | some d => match body d ρ st with
    | some (.nx ρ', st') => loopL body a n (i + 1) ρ' st'
    | some (.ct ρ', st') => loopL body a n (i + 1) ρ' st'
    | some (.bk ρ', st') => some (.nx ρ', st')
    | some (.rt v, st') => some (.rt v, st')
    | none => none
  | none => none

noncomputable abbrev Ex := Env → Store → Option (Fl × Store)
noncomputable def seqS (f g : Ex) : Ex := fun ρ st => match f ρ st with
 | some (.nx ρ', st') => g ρ' st'
 | r => r
noncomputable def retS (f : Ev) : Ex := fun ρ st => match f ρ st with
 | some (d, st') => some (.rt d, st')
 | none => none
noncomputable def setS (i : Nat) (f : Ev) : Ex := fun ρ st => match f ρ st with
 | some (d, st') => some (.nx (setE ρ i d), st')
 | none => none
noncomputable def set2S (i j : Nat) (f : Ev) : Ex := fun ρ st => match f ρ st with
 | some (.tup [x, y], st') => some (.nx (setE (setE ρ i x) j y), st')
 | _ => none
noncomputable def set3S (i j l : Nat) (f : Ev) : Ex := fun ρ st => match f ρ st with
 | some (.tup [x, y, z], st') => some (.nx (setE (setE (setE ρ i x) j y) l z), st')
 | _ => none
noncomputable def actS (f : Ev) : Ex := fun ρ st => match f ρ st with
 | some (_, st') => some (.nx ρ, st')
 | none => none
noncomputable def apnd (a : Nat) (d : D) (st : Store) : Option Store := match st[a]? with
 | some (true, xs) => if xs.length < sizeMax then some (st.set a (true, xs ++ [d])) else none
 | _ => none
noncomputable def storeAt (a : Nat) (j : Int) (d : D) (st : Store) : Option Store := match st[a]? with
 | some (true, xs) => match ixN xs.length j with
  | some p => some (st.set a (true, xs.set p d))
  | none => none
 | _ => none
noncomputable def appS (i : Nat) (f : Ev) : Ex := fun ρ st => match ρ[i]? with
 | some (some (.lst a)) => match f ρ st with
  | some (d, st') => match apnd a d st' with
   | some st2 => some (.nx ρ, st2)
   | none => none
  | none => none
 | _ => none
noncomputable def app2S (o f : Ev) : Ex := fun ρ st => match o ρ st with
 | some (.lst a, st1) => match f ρ st1 with
  | some (d, st2) => match apnd a d st2 with
   | some st3 => some (.nx ρ, st3)
   | none => none
  | none => none
 | _ => none
noncomputable def exnd (a b : Nat) (st : Store) : Option Store := match st[a]?, st[b]? with
 | some (true, xs), some (true, ys) => if xs.length + ys.length ≤ sizeMax then some (st.set a (true, xs ++ ys)) else none
 | _, _ => none
noncomputable def extS (i : Nat) (f : Ev) : Ex := fun ρ st => match ρ[i]? with
 | some (some (.lst a)) => match f ρ st with
  | some (.lst b, st') => match exnd a b st' with
   | some st2 => some (.nx ρ, st2)
   | none => none
  | _ => none
 | _ => none
noncomputable def putS (i : Nat) (k f : Ev) : Ex := fun ρ st => match f ρ st with
 | some (d, st1) => match ρ[i]? with
  | some (some (.lst a)) => match k ρ st1 with
   | some (.int j, st2) => match storeAt a j d st2 with
    | some st3 => some (.nx ρ, st3)
    | none => none
   | _ => none
  | _ => none
 | none => none
noncomputable def iteS (c : Ev) (f g : Ex) : Ex := fun ρ st => match c ρ st with
 | some (.bl true, st1) => f ρ st1
 | some (.bl false, st1) => g ρ st1
 | _ => none
noncomputable def forS (i : Nat) (rng : Bool) (it : Ev) (b : Ex) : Ex := fun ρ st => match it ρ st with
 | some (x, st1) => match itemsD rng x with
  | some xs => loopD (fun d ρ s => b (setE ρ i d) s) xs ρ st1
  | none => match rng, x with
   | false, .lst a => match st1[a]? with
    | some (_, xs) => loopL (fun d ρ s => b (setE ρ i d) s) a xs.length 0 ρ st1
    | none => none
   | _, _ => none
 | none => none
noncomputable def loopK (ok : Store → Prop) (body : D → D → Env → Store → Option (Fl × Store)) : List (D × D) → Env → Store → Option (Fl × Store)
 | [], ρ, st => open Classical in if ok st then some (.nx ρ, st) else none
 | p :: ps, ρ, st => open Classical in if ok st then (match body p.1 p.2 ρ st with
  | some (.nx ρ', st') => loopK ok body ps ρ' st'
  | some (.ct ρ', st') => loopK ok body ps ρ' st'
  | some (.bk ρ', st') => some (.nx ρ', st')
  | some (.rt v, st') => some (.rt v, st')
  | none => none) else none
noncomputable def forPS (i j : Nat) (it : Ev) (b : Ex) : Ex := fun ρ st => match it ρ st with
 | some (.tup [.lst la, .lst lb], st1) => match st1[la]?, st1[lb]? with
  | some ca, some cb => loopK (fun s => s[la]? = some ca ∧ s[lb]? = some cb) (fun x y ρ s => b (setE (setE ρ i x) j y) s) (ca.2.zip cb.2) ρ st1
  | _, _ => none
 | _ => none
noncomputable def enumQ : Nat → List D → List (D × D)
 | _, [] => []
 | k, x :: xs => (.int (k : Int), x) :: enumQ (k + 1) xs
noncomputable def walkQ (x : D) (st : Store) : Option (List D × (Store → Prop)) := match x with
 | .tup xs => some (xs, fun _ => True)
 | .lst a => match st[a]? with
  | some c => some (c.2, fun s => s[a]? = some c)
  | none => none
 | _ => none
noncomputable def forES (i j : Nat) (it : Ev) (b : Ex) : Ex := fun ρ st => match it ρ st with
 | some (x, st1) => match walkQ x st1 with
  | some (xs, ok) => loopK ok (fun x y ρ s => b (setE (setE ρ i x) j y) s) (enumQ 0 xs) ρ st1
  | none => none
 | none => none


noncomputable def ex (F : Nat → Fn) : CS → Ex
 | .skip => fun ρ st => some (.nx ρ, st)
 | .seq a b => seqS (ex F a) (ex F b)
 | .ret e => retS (ev F e)
 | .set i e => setS i (ev F e)
 | .app i e => appS i (ev F e)
 | .ext i e => extS i (ev F e)
 | .put i k e => putS i (ev F k) (ev F e)
 | .ite c a b => iteS (ev F c) (ex F a) (ex F b)
 | .for1 i rng it b => forS i rng (ev F it) (ex F b)
 | .forP _ _ _ _ => fun _ _ => none
 | .forE _ _ _ _ => fun _ _ => none
 | .for3 _ _ _ => fun _ _ => none
 | .set2 i j e => set2S i j (ev F e)
 | .for4 _ _ _ _ _ => fun _ _ => none
 | .for2 _ _ _ _ => fun _ _ => none
 | .whl _ _ => fun _ _ => none
 | .brk => fun ρ st => some (.bk ρ, st)
 | .cont => fun ρ st => some (.ct ρ, st)
 | .stop => fun _ _ => none
 | .set3 i j l e => set3S i j l (ev F e)
 | .act e => actS (ev F e)
 | .dput _ _ _ _ => fun _ _ => none
 | .app2 o e => app2S (ev F o) (ev F e)

structure FD where
 ps : Nat
 ns : Nat
 body : CS
noncomputable def fnD (F : Nat → Fn) (f : FD) : Fn := fun ds st =>
 if ds.length = f.ps then
  match ex F f.body (ds.map some ++ List.replicate (f.ns - ds.length) none) st with
  | some (.rt d, st') => some (d, st')
  | some (.nx _, st') => some (.non, st')
  | _ => none
 else none
noncomputable def run (T : Nat → Option FD) : Nat → Nat → Fn
 | 0, _ => fun _ _ => none
 | n + 1, i => match T i with
  | some f => fnD (run T n) f
  | none => fun _ _ => none

inductive GV where
 | fn (i : Nat) (ps : Nat) (ds : List D) | cst (d : D) | blt | dct (ks : List Str) (ds : List D) | cls (i : Nat) (ms : List (Str × Nat × Nat)) (subs : List Nat)
noncomputable abbrev Gs := List (Str × GV)

noncomputable def CE.ofConst : Const → Option CE
 | .none => some (.cst .non)
 | .bool b => some (.cst (.bl b))
 | .int i => some (.cst (.int i))
 | .str x => some (.cst (.str x))
 | _ => none
noncomputable def isLoc (sc : Scope) (x : Str) : Bool := !(x == ("__debug__" : Str)) && !(x == ("__classdict__" : Str)) && match sc.names.lookup x with
 | some .local => true
 | some .cell => true
 | some .free => true
 | _ => false
noncomputable def isGlob (sc : Scope) (x : Str) : Bool := !(x == ("__debug__" : Str)) && match sc.names.lookup x with
 | some .globalImplicit => true
 | _ => false
noncomputable def tyOf (x : Str) : Option Ty :=
 if x = "int" then some .int else if x = "bool" then some .bool else if x = "str" then some .str else if x = "tuple" then some .tuple else none
noncomputable def frees (sc : Scope) : List Str := (sc.names.filter fun p => decide (p.2 = .free)).map (·.1)

noncomputable def blt1 (f : Str) (x : CE) : Option CE :=
 if f = "len" then some (.len x) else if f = "tuple" then some (.tupleOf x) else if f = "list" then some (.listOf x) else if f = "str" then some (.strOf x) else none
noncomputable def blt2 (f : Str) (x y : CE) : Option CE := if f = "min" then some (.min x y) else if f = "max" then some (.max x y) else none
noncomputable def isBlt (G : Gs) (x : Str) : Bool := match G.lookup x with
 | some .blt => true
 | _ => false
noncomputable def tyN0 (G : Gs) (sc : Scope) (t : Str) : Option Ty := if isGlob sc t && isBlt G t then tyOf t else none
noncomputable def tyArg (G : Gs) (sc : Scope) : Expr → Option Ty
 | .Name t _ => tyN0 G sc t
 | _ => none
noncomputable def clsArg (_ : Gs) (_ : Scope) (_ : Expr) : Option (List Nat) := none
noncomputable def callN : Expr → Option (Str × List Expr)
 | .Call (.Name f _) as [] _ => some (f, as)
 | _ => none
noncomputable def fnA (G : Gs) (sc : Scope) (nm : Str) (e : Expr) : Option (List Expr) := (callN e).bind fun p => og (p.1 = nm ∧ isGlob sc p.1 = true ∧ isBlt G p.1 = true) (some p.2)
noncomputable def oneA : List Expr → Option Expr
 | [a] => some a
 | _ => none
noncomputable def rangeArg (G : Gs) (sc : Scope) (e : Expr) : Option Expr := (fnA G sc "range" e).bind oneA
noncomputable def tupArg (_ : Gs) (_ : Scope) (_ : Str) (_ : Expr) : Option Expr := none
noncomputable def twoA : List Expr → Option (Expr × Expr)
 | [a, b] => some (a, b)
 | _ => none
noncomputable def lstArg (_ : Gs) (_ : Scope) (_ : Str) (_ : Expr) : Option (Expr × Expr) := none
noncomputable def o3 {α β γ δ : Type} (f : α → β → γ → δ) : Option α → Option β → Option γ → Option δ
 | some x, b, c => o2 (f x) b c
 | none, _, _ => none
theorem o1_e {α γ : Type} {P : γ → Prop} {f : α → γ} {a : Option α} {c : γ} (h : a.map f = some c) (k : ∀ x, a = some x → P (f x)) : P c := by
 cases a with
 | none => cases h
 | some x => cases h; exact k x rfl
theorem o2_e {α β γ : Type} {P : γ → Prop} {f : α → β → γ} {a : Option α} {b : Option β} {c : γ} (h : o2 f a b = some c) (k : ∀ x y, a = some x → b = some y → P (f x y)) : P c := by
 cases a with
 | none => cases h
 | some x => cases b with
  | none => cases h
  | some y => cases h; exact k x y rfl rfl
theorem o3_e {α β γ δ : Type} {P : δ → Prop} {f : α → β → γ → δ} {a : Option α} {b : Option β} {d : Option γ} {c : δ} (h : o3 f a b d = some c) (k : ∀ x y z, a = some x → b = some y → d = some z → P (f x y z)) : P c := by
 cases a with
 | none => cases h
 | some x => exact o2_e (P := P) h fun y z e e' => k x y z rfl e e'
theorem og_e {α : Type} {P : Prop} {p : Prop} [Decidable p] {o : Option α} {c : α} (h : og p o = some c) (k : p → o = some c → P) : P := by
 unfold og at h
 by_cases hp : p
 ·rw [if_pos hp] at h; exact k hp h
 ·rw [if_neg hp] at h; cases h
theorem j_e {α : Type} {P : Prop} {o : Option (Option α)} {c : α} (h : o.join = some c) (k : o = some (some c) → P) : P := by
 cases o with
 | none => cases h
 | some x => cases h; exact k rfl
noncomputable def bltC1 (G : Gs) (sc : Scope) (f : Str) (a : Expr) (r : Expr → Option CE) : Option CE := match tupArg G sc f a with
 | some e => (r e).map .tupR
 | none => match lstArg G sc f a with
  | some (u, v) => o2 .lstR (r u) (r v)
  | none => ((r a).map (blt1 f)).join
noncomputable def bltC2 (G : Gs) (sc : Scope) (f : Str) (a b : Expr) (r : Expr → Option CE) : Option CE := if f = "isinstance" then (match clsArg G sc b with
  | some l => (r a).map (.isc l)
  | none => o2 (fun x T => .isi T x) (r a) (tyArg G sc b)) else (o2 (blt2 f) (r a) (r b)).join
noncomputable def callC (G : Gs) (sc : Scope) (f : Str) (as : List Expr) (cs : Option CE) (r : Expr → Option CE) : Option CE :=
 if isGlob sc f then (match G.lookup f with
   | some (.fn i ps ds) => og (as.length ≤ ps ∧ ps ≤ as.length + ds.length) (cs.map fun c => .call i c (ds.drop (as.length + ds.length - ps)))
   | some .blt => match as with
    | [a] => bltC1 G sc f a r
    | [a, b] => bltC2 G sc f a b r
    | _ => none
   | _ => none) else none
noncomputable def attrC (G : Gs) (ob : Expr) (m : Str) (ap : Pos) (as : List Expr) (cp : Pos) (cs : Option CE) (r : Expr → Option CE) : Option CE := match ob with
 | .Constant _ _ _ => (match as with
  | [a] => og (m = "join" ∧ (ap.endLine == cp.line) = true) (o2 .joinE (r ob) (r a))
  | _ => none)
 | _ => none
noncomputable def callE (G : Gs) (sc : Scope) (f : Expr) (as : List Expr) (cp : Pos) (cs : Option CE) (r : Expr → Option CE) : Option CE := match f with
 | .Name f _ => callC G sc f as cs r
 | .Attribute ob m ap => attrC G ob m ap as cp cs r
 | _ => none
noncomputable def isSl : Expr → Bool
 | .Slice .. => true
 | _ => false
noncomputable def rangeArgs (_ : Gs) (_ : Scope) (_ : Expr) : Option (List Expr) := none
noncomputable def zipArgs (_ : Gs) (_ : Scope) (_ : Expr) : Option (List Expr) := none
noncomputable def enumArg (G : Gs) (sc : Scope) (e : Expr) : Option Expr := (fnA G sc "enumerate" e).bind oneA
noncomputable def enumFor (_ : Gs) (_ : Scope) (_ : Expr) : Option Expr := none
noncomputable def tgN : Expr → Option (List Str)
 | .Name x _ => some [x]
 | _ => none
noncomputable def mkC (r : Option (Option Bool)) (fr : List Nat) (ci ce cc : CE) : CE := match r with
 | some (some b) => .comp b fr ci ce cc
 | some none => .comp2 fr ci ce cc
 | none => .compT fr ci ce cc
noncomputable def optIdx (N : List Str) : List Str → Option (List Nat)
 | [] => some []
 | x :: r => match N.idxOf? x, optIdx N r with
  | some i, some is => some (i :: is)
  | _, _ => none

noncomputable def nameC (G : Gs) (sc : Scope) (N : List Str) (x : Str) : Option CE :=
 if isLoc sc x then (N.idxOf? x).map .var else if isGlob sc x then (match G.lookup x with
  | some (.cst d) => some (.cst d)
  | _ => none) else none
noncomputable def lookN (_ : Gs) (_ : Scope) (_ : Expr) : Option (List Str × List D) := none
noncomputable def sliceOf : Expr → Option (Option Expr × Option Expr)
 | .Slice lo hi none _ => some (lo, hi)
 | _ => none
noncomputable def revOf (_ : Expr) : Option Expr := none
noncomputable def isM1 : CE → Bool
 | .neg (.cst (.int 1)) => true
 | _ => false
noncomputable def isCell (sc : Scope) (x : Str) : Bool := match sc.names.lookup x with
 | some .cell => true
 | some .free => true
 | _ => false
noncomputable def compSc (sc sc2 : Scope) (xs : List Str) : Bool :=
 decide (sc2.kind = .function) && (sc2.names.all fun p => decide (p.2 ≠ .cell)) && (xs.all fun x => decide (sc2.names.lookup x = some .local)) && (sc2.names.all fun p => !decide (p.2 = .local) || decide (sc2.names.lookup p.1 = some .local)) &&
 decide (xs ++ frees sc2).Nodup && (frees sc2).all (fun y => isCell sc y && decide (sc2.names.lookup y = some .free))
noncomputable def inOp (_ : CmpOp) : Option Bool := none
noncomputable def unC (op : UnaryOp) (a : Option CE) : Option CE := match op with
 | .Not => a.map .not
 | .USub => a.map .neg
 | _ => none
noncomputable def cmpC (G : Gs) (sc : Scope) (f : Expr → Option CE) (a : Option CE) : List CmpOp → List Expr → Option CE
 | [op], [b] => (match rangeArg G sc b with
  | some e => o3 .inR (inOp op) a (f e)
  | none => o2 (.cmp op) a (f b))
 | _, _ => none
noncomputable def boolC (f : Expr → Option CE) (op : BoolOp) (pos : Pos) : List Expr → Option CE
 | [] => none
 | [a] => f a
 | a :: b :: r => match op with
  | .And => o2 .and (f a) (f (.BoolOp .And (b :: r) pos))
  | .Or => o2 .or (f a) (f (.BoolOp .Or (b :: r) pos))
noncomputable def subC (G : Gs) (sc : Scope) (f : Expr → Option CE) (fo : Option Expr → Option CE) (a b : Expr) : Option CE := match sliceOf b with
 | some (lo, hi) => o3 .slice (f a) (fo lo) (fo hi)
 | none => match revOf b with
  | some s => (o2 (fun x y => og (isM1 y = true) (some (.rs false x))) (f a) (f s)).join
  | none => match lookN G sc a with
   | some (ks, ds) => (f b).map (.look ks ds)
   | none => o2 .ix (f a) (f b)
noncomputable def itC (G : Gs) (sc : Scope) (it : Expr) (f : Expr → Option CE) : List Str → Option (Option (Option Bool) × CE)
 | [_] => (match rangeArg G sc it with
  | some a => (f a).map fun c => (some (some true), c)
  | none => match (fnA G sc "range" it).bind twoA with
   | some p => o2 (fun x y => (some (some false), .rng2 x y)) (f p.1) (f p.2)
   | none => (f it).map fun c => (some (some false), c))
 | _ => (match enumArg G sc it with
  | some a => (f a).map fun c => (some none, c)
  | none => (f it).map fun c => (none, c))
noncomputable def ifC (f : Expr → Option CE) : List Expr → Option CE
 | [] => some (CE.cst (.bl true))
 | [c] => f c
 | _ => none
noncomputable def compC (G : Gs) (sc sc2 : Scope) (N : List Str) (f : Expr → Option CE) (g : List Str → Expr → Option CE) (elt : Expr) : List Comprehension → Option CE
 | [⟨tg, it, ifs, 0⟩] => (match tgN tg with
  | none => none
  | some xs => og (compSc sc sc2 xs = true) (o3 (fun fr p (q : CE × CE) => mkC p.1 fr p.2 q.1 q.2) (optIdx N (frees sc2)) (itC G sc it f xs) (o2 Prod.mk (g (xs ++ frees sc2) elt) (ifC (g (xs ++ frees sc2)) ifs))))
 | _ => none
mutual
noncomputable def cE (G : Gs) : Nat → Scope → List Str → Expr → Option CE
 | 0, _, _, _ => none
 | n + 1, sc, N, e => match e with
  | .Constant c _ _ => CE.ofConst c
  | .Name x _ => nameC G sc N x
  | .BinOp a op b _ => o2 (.bin op) (cE G n sc N a) (cE G n sc N b)
  | .UnaryOp op a _ => unC op (cE G n sc N a)
  | .Compare a ops bs _ => cmpC G sc (cE G n sc N) (cE G n sc N a) ops bs
  | .BoolOp op vs pos => boolC (cE G n sc N) op pos vs
  | .IfExp c a b _ => o3 .ife (cE G n sc N c) (cE G n sc N a) (cE G n sc N b)
  | .Tuple es _ _ => (cEs G n sc N es).map .tupE
  | .List es _ => (cEs G n sc N es).map .lstE
  | .Subscript a b _ => subC G sc (cE G n sc N) (cO G n sc N) a b
  | .Call f as [] cp => callE G sc f as cp (cEs G n sc N as) (cE G n sc N)
  | .ListComp elt gens sc2 _ => compC G sc sc2 N (cE G n sc N) (cE G n sc2) elt gens
  | _ => none
noncomputable def cEs (G : Gs) : Nat → Scope → List Str → List Expr → Option CE
 | 0, _, _, _ => none
 | _ + 1, _, _, [] => some .anil
 | n + 1, sc, N, e :: es => o2 .acons (cE G n sc N e) (cEs G n sc N es)
noncomputable def cO (G : Gs) : Nat → Scope → List Str → Option Expr → Option CE
 | 0, _, _, _ => none
 | _ + 1, _, _, none => some .nop
 | n + 1, sc, N, some e => (cE G n sc N e).map .part
end

noncomputable def isComp : Expr → Bool
 | .ListComp .. => true
 | .SetComp .. => true
 | .DictComp .. => true
 | _ => false
noncomputable def isTup : Expr → Bool
 | .Tuple .. => true
 | _ => false
noncomputable def asgC (N : List Str) (tg e : Expr) (c : Option CE) : Option CS := match tg with
 | .Name x _ => o2 .set (N.idxOf? x) c
 | .Tuple [.Name x _, .Name y _] _ _ => og ((isComp e || isTup e) = false) (o3 (fun i j c => og (i ≠ j) (some (.set2 i j c))) (N.idxOf? x) (N.idxOf? y) c).join
 | .Tuple [.Name x _, .Name y _, .Name z _] _ _ => og ((isComp e || isTup e) = false) (o3 (fun i j (p : Nat × CE) => .set3 i j p.1 p.2) (N.idxOf? x) (N.idxOf? y) (o2 Prod.mk (N.idxOf? z) c))
 | _ => none
noncomputable def pairE (_ : Expr) : Option (Expr × Expr) := none
noncomputable def putC (sc : Scope) (N : List Str) (x : Str) (k e : Expr) (f : Expr → Option CE) : Option CS := og (isComp e = false ∧ isSl k = false ∧ isLoc sc x = true) (match pairE k with
 | some (a, b) => o3 (fun i (p : CE × CE) c => .dput i p.1 p.2 c) (N.idxOf? x) (o2 Prod.mk (f a) (f b)) (f e)
 | none => o3 .put (N.idxOf? x) (f k) (f e))
noncomputable def forC (G : Gs) (sc : Scope) (N : List Str) (f : Expr → Option CE) (fs : List Expr → Option CE) (tg it : Expr) (b : Option CS) : Option CS := match tg with
 | .Name x _ => (match rangeArgs G sc it with
  | some as => o3 .for3 (N.idxOf? x) (fs as) b
  | none => match rangeArg G sc it with
   | some a => o3 (fun i c b => .for1 i true c b) (N.idxOf? x) (f a) b
   | none => o3 (fun i c b => .for1 i false c b) (N.idxOf? x) (f it) b)
 | .Tuple [.Name x _, .Name y _] _ _ => (o2 (fun i j => og (i ≠ j) (some (i, j))) (N.idxOf? x) (N.idxOf? y)).join.bind fun p => (match zipArgs G sc it with
  | some as => o2 (.forP p.1 p.2) (fs as) b
  | none => match enumFor G sc it with
   | some e => o2 (.forE p.1 p.2) (f e) b
   | none => o2 (.for2 p.1 p.2) (f it) b)
 | .Tuple [.Name x _, .Name y _, .Name z _] _ _ => o3 (fun (p : Nat × Nat) (q : Nat × CE) b => .for4 p.1 p.2 q.1 q.2 b) (o2 Prod.mk (N.idxOf? x) (N.idxOf? y)) (o2 Prod.mk (N.idxOf? z) (f it)) b
 | _ => none
noncomputable def appC (sc : Scope) (N : List Str) (x m : Str) (ap cp : Pos) (c : Option CE) : Option CS := og (isLoc sc x = true ∧ (ap.endLine == cp.line) = true) (if m = "append" then o2 .app (N.idxOf? x) c else if m = "extend" then o2 .ext (N.idxOf? x) c else none)
noncomputable def actC (sc : Scope) (N : List Str) (f : Expr → Option CE) : Expr → Option CS
 | .Call (.Name g fp) as kw cp => (f (.Call (.Name g fp) as kw cp)).map .act
 | .Call (.Attribute (.Name x _) m ap) [e] [] cp => appC sc N x m ap cp (f e)
 | .Call (.Attribute (.Subscript o k p) m ap) [e] [] cp => og (m = "append" ∧ (ap.endLine == cp.line) = true) (o2 .app2 (f (.Subscript o k p)) (f e))
 | _ => none
mutual
noncomputable def cS (G : Gs) : Nat → Scope → List Str → Stmt → Option CS
 | 0, _, _, _ => none
 | n + 1, sc, N, s => match s with
  | .Assign [.Subscript (.Name x _) k _] e _ => putC sc N x k e (cE G n sc N)
  | .Assign [tg] e _ => asgC N tg e (cE G n sc N e)
  | .Expr e _ => actC sc N (cE G n sc N) e
  | .Return (some e) _ => (cE G n sc N e).map .ret
  | .If c a b _ => o3 .ite (cE G n sc N c) (cSs G n sc N a) (cSs G n sc N b)
  | .For tg it b [] _ => forC G sc N (cE G n sc N) (cEs G n sc N) tg it (cSs G n sc N b)
  | .Pass _ => some .skip
  | .Break _ => some .brk
  | .Continue _ => some .cont
  | .Raise _ _ _ => some .stop
  | _ => none
noncomputable def cSs (G : Gs) : Nat → Scope → List Str → List Stmt → Option CS
 | 0, _, _, _ => none
 | _ + 1, _, _, [] => some .skip
 | n + 1, sc, N, s :: r => o2 .seq (cS G n sc N s) (cSs G n sc N r)
end
end Dp


namespace Dp
open PySem PySem.Spec PyProof.Rows L2
class ClsTab where
 ca : Nat → Addr
variable [ClsTab]

theorem pe_imp {X : Cx} {e : Expr} {t t' : TE} (h : PE X e t) (i : ∀ σ H Q, t' σ H Q → t σ H Q) : PE X e t' := fun pins s σ H Q I q => h pins s σ H Q I (i σ H Q q)
theorem pt_imp {X : Cx} {e : Expr} {t t' : TT} (h : PT X e t) (i : ∀ σ H Q, t' σ H Q → t σ H Q) : PT X e t' := fun pins s σ H Q I q => h pins s σ H Q I (i σ H Q q)
theorem pa_imp {X : Cx} {e : List Expr} {t t' : TA} (h : PA X e t) (i : ∀ σ H Q, t' σ H Q → t σ H Q) : PA X e t' := fun pos pins s σ H Q I q => h pos pins s σ H Q I (i σ H Q q)
theorem po_imp {X : Cx} {e : Option Expr} {t t' : TO} (h : PO X e t) (i : ∀ σ H Q, t' σ H Q → t σ H Q) : PO X e t' := fun pins s σ H Q I q => h pins s σ H Q I (i σ H Q q)
theorem ps_imp {X : Cx} {e : Stmt} {t t' : TS} (h : PS X e t) (i : ∀ D σ H, t' D σ H → t D σ H) : PS X e t' := fun pins s σ H D I q => h pins s σ H D I (i D σ H q)
theorem pss_imp {X : Cx} {e : List Stmt} {t t' : TS} (h : PSs X e t) (i : ∀ D σ H, t' D σ H → t D σ H) : PSs X e t' := fun pins s σ H D I q => h pins s σ H D I (i D σ H q)

def KT (K : PySem.W.Frag) (a : Addr) (xs : List V) : Prop :=
 ∃ (o : Obj) (its : Array Value) (n : Nat), K.lookup a = some o ∧ o.cls = .type "tuple" ∧ o.data = .seq its n ∧ its.size ≤ sizeLine ∧ Vals xs its.toList
def TupAt (K : PySem.W.Frag) (H : Hp) (a : Addr) (xs : List V) : Prop := H a = some (.tup xs) ∨ KT K a xs
theorem TupAt.sq {K : PySem.W.Frag} {H : Hp} {a : Addr} {xs : List V} (h : TupAt K H a xs) : SqT K H a xs := by
 rcases h with h | h
 ·exact .inl (.inl h)
 ·exact .inr h
def IsDT (H : Hp) (a : Addr) : Prop := ∃ kvs, H a = some (.dT kvs)
def LA (ad : List Addr) (H : Hp) (i : Nat) (a : Addr) : Prop := ad[i]? = some a ∧ ¬ IsDT H a
theorem noDT {H : Hp} {a : Addr} {o : HO} (h : H a = some o) (n : ∀ kvs, o ≠ .dT kvs) : ¬ IsDT H a := fun ⟨kvs, z⟩ => n kvs (Option.some.inj (h.symm.trans z))
mutual
inductive Den (K : PySem.W.Frag) (ad : List Addr) (H : Hp) : V → D → Prop where
 | non : Den K ad H .non .non
 | bl (b : Bool) : Den K ad H (.bl b) (.bl b)
 | int (i : Int) : Den K ad H (.int i) (.int i)
 | str (x : Str) : Den K ad H (.str x) (.str x)
 | tup {a : Addr} {xs : List V} {ds : List D} (h : TupAt K H a xs) (r : Dens K ad H xs ds) : Den K ad H (.ref a) (.tup ds)
 | lst {a : Addr} {i : Nat} (h : LA ad H i a) : Den K ad H (.ref a) (.lst i)
 | dic {a : Addr} {i : Nat} (h : ad[i]? = some a) (n : IsDT H a) : Den K ad H (.ref a) (.dic i)
 | dct {a : Addr} {kvs : List (Key × V)} {ks : List Str} {vs : List V} {ds : List D} (h : H a = some (.dK kvs)) (hk : kvs = (ks.zip vs).map fun p => (Sum.inr p.1, p.2)) (nd : ks.Nodup ∧ ks ≠ []) (hl : ks.length = vs.length) (r : Dens K ad H vs ds) : Den K ad H (.ref a) (.dct ks ds)
 | obj {a dx : Addr} {i : Nat} (h : H a = some (.ins (ClsTab.ca i) dx [])) (n : a ∉ ad) : Den K ad H (.ref a) (.obj i)
 | kt {a : Addr} {ks : List Str} {o : Obj} {its : Array Value} {n : Nat} (l : K.lookup a = some o) (c : o.cls = .type "tuple") (g : o.dict = none) (e : o.data = .seq its n) (z : its.size ≤ sizeLine) (r : Vals (ks.map V.str) its.toList) : Den K ad H (.ref a) (.kt ks)
inductive Dens (K : PySem.W.Frag) (ad : List Addr) (H : Hp) : List V → List D → Prop where
 | nil : Dens K ad H [] []
 | cons {v : V} {d : D} {vs : List V} {ds : List D} (h : Den K ad H v d) (r : Dens K ad H vs ds) : Dens K ad H (v :: vs) (d :: ds)
end

structure Ext (ad : List Addr) (H : Hp) (ad' : List Addr) (H' : Hp) : Prop where
 pre : ∀ (i : Nat) (a : Addr), ad[i]? = some a → ad'[i]? = some a
 tup : ∀ b xs, H b = some (.tup xs) → H' b = some (.tup xs)
 dk : ∀ b kvs, H b = some (.dK kvs) → H' b = some (.dK kvs)
 keep : ∀ b o, H b = some o → b ∉ ad → H' b = some o
 new : ∀ b, b ∈ ad' → b ∈ ad ∨ H b = none
 kd : ∀ (i : Nat) (a : Addr), ad[i]? = some a → (IsDT H a ↔ IsDT H' a)
theorem Ext.refl (ad : List Addr) (H : Hp) : Ext ad H ad H := ⟨fun _ _ h => h, fun _ _ h => h, fun _ _ h => h, fun _ _ h _ => h, fun _ h => .inl h, fun _ _ _ => Iff.rfl⟩
theorem Ext.trans {a1 a2 a3 : List Addr} {H1 H2 H3 : Hp} (x : Ext a1 H1 a2 H2) (y : Ext a2 H2 a3 H3) : Ext a1 H1 a3 H3 := by
 refine ⟨fun i a h => y.pre i a (x.pre i a h), fun b xs h => y.tup b xs (x.tup b xs h), fun b xs h => y.dk b xs (x.dk b xs h), fun b o h n => ?_, fun b h => ?_, fun i a h => (x.kd i a h).trans (y.kd i a (x.pre i a h))⟩
 ·refine y.keep b o (x.keep b o h n) fun z => ?_
  rcases x.new b z with z | z
  ·exact n z
  ·rw [h] at z; cases z
 ·rcases y.new b h with z | z
  ·exact x.new b z
  ·cases e : H1 b with
   | none => exact .inr rfl
   | some o =>
    by_cases q : b ∈ a1
    ·exact .inl q
    ·rw [x.keep b o e q] at z; cases z

theorem TupAt.mono {K : PySem.W.Frag} {ad ad' : List Addr} {H H' : Hp} {a : Addr} {xs : List V} (x : Ext ad H ad' H') (h : TupAt K H a xs) : TupAt K H' a xs := h.imp (x.tup _ _) id
theorem TupAt.upd {K : PySem.W.Frag} {H : Hp} {a p : Addr} {xs : List V} {o o' : HO} (hp : H p = some o) (ho : ∀ xs, o ≠ .tup xs) (h : TupAt K H a xs) : TupAt K (upd H p o') a xs := by
 rcases h with h | h
 ·refine .inl ?_
  have n : a ≠ p := fun z => by subst z; rw [h] at hp; cases hp; exact ho _ rfl
  rw [upd_ne n]; exact h
 ·exact .inr h
section
variable {K : PySem.W.Frag} {ad ad' : List Addr} {H H' : Hp}
theorem zip_ne {ks : List Str} {vs : List V} (h : ks ≠ []) (hl : ks.length = vs.length) : (ks.zip vs).map (fun p => ((Sum.inr p.1 : Key), p.2)) ≠ [] := by
 cases ks with
 | nil => exact absurd rfl h
 | cons k ks => cases vs with
  | nil => cases hl
  | cons v vs => exact List.cons_ne_nil _ _
structure Keeps (K : PySem.W.Frag) (ad ad' : List Addr) (H H' : Hp) : Prop where
 t : ∀ {a xs}, TupAt K H a xs → TupAt K H' a xs
 l : ∀ {i : Nat} {a : Addr}, ad[i]? = some a → ad'[i]? = some a ∧ (IsDT H a ↔ IsDT H' a)
 k : ∀ {a kvs}, kvs ≠ [] → H a = some (.dK kvs) → H' a = some (.dK kvs)
 o : ∀ {a C dx}, H a = some (.ins C dx []) → a ∉ ad → H' a = some (.ins C dx []) ∧ a ∉ ad'
theorem Den.map (x : Keeps K ad ad' H H') {v : V} {d : D} (h : Den K ad H v d) : Den K ad' H' v d :=
 Den.rec (motive_1 := fun v d _ => Den K ad' H' v d) (motive_2 := fun vs ds _ => Dens K ad' H' vs ds) .non .bl .int .str (fun h _ r => .tup (x.t h) r) (fun h => .lst ⟨(x.l h.1).1, fun z => h.2 ((x.l h.1).2.mpr z)⟩) (fun h n => .dic (x.l h).1 ((x.l h).2.mp n)) (fun h hk nd hl _ r => .dct (x.k (fun z => zip_ne nd.2 hl (hk.symm.trans z)) h) hk nd hl r) (fun h n => .obj (x.o h n).1 (x.o h n).2) .kt .nil (fun _ _ a b => .cons a b) h
theorem Dens.map (x : Keeps K ad ad' H H') {vs : List V} {ds : List D} (h : Dens K ad H vs ds) : Dens K ad' H' vs ds :=
 Dens.rec (motive_1 := fun _ _ _ => True) (motive_2 := fun vs ds _ => Dens K ad' H' vs ds) trivial (fun _ => trivial) (fun _ => trivial) (fun _ => trivial) (fun _ _ _ => trivial) (fun _ => trivial) (fun _ _ => trivial) (fun _ _ _ _ _ _ => trivial) (fun _ _ => trivial) (fun _ _ _ _ _ _ => trivial) .nil (fun a _ _ b => .cons (a.map x) b) h
theorem Ext.keeps (x : Ext ad H ad' H') : Keeps K ad ad' H H' := ⟨fun h => h.mono x, fun h => ⟨x.pre _ _ h, x.kd _ _ h⟩, fun _ h => x.dk _ _ h, fun h n => ⟨x.keep _ _ h n, fun z => (x.new _ z).elim n fun q => by rw [h] at q; cases q⟩⟩
theorem Den.mono (x : Ext ad H ad' H') {v : V} {d : D} (h : Den K ad H v d) : Den K ad' H' v d := h.map x.keeps
theorem Dens.mono (x : Ext ad H ad' H') {vs : List V} {ds : List D} (h : Dens K ad H vs ds) : Dens K ad' H' vs ds := h.map x.keeps
theorem keeps' (x : ∀ (i : Nat) (a : Addr), ad[i]? = some a → ad'[i]? = some a) (y : ∀ b, b ∈ ad' → b ∈ ad ∨ ∃ xs, H b = some (.lst xs)) : Keeps K ad ad' H H := ⟨id, fun h => ⟨x _ _ h, Iff.rfl⟩, fun _ h => h, fun h n => ⟨h, fun z => (y _ z).elim n fun ⟨xs, q⟩ => by rw [h] at q; cases q⟩⟩
theorem Dens.length : ∀ {vs : List V} {ds : List D}, Dens K ad H vs ds → vs.length = ds.length
 | _, _, .nil => rfl
 | _, _, .cons _ r => congrArg (· + 1) (Dens.length r)
theorem Dens.get : ∀ {vs : List V} {ds : List D} {i : Nat} {d : D}, Dens K ad H vs ds → ds[i]? = some d → ∃ v, vs[i]? = some v ∧ Den K ad H v d
 | _, _, _, _, .nil, e => by simp at e
 | _, _, 0, _, .cons h _, e => by simp at e; subst e; exact ⟨_, rfl, h⟩
 | _, _, i + 1, d, .cons _ r, e => by
  obtain ⟨v, h1, h2⟩ := Dens.get (i := i) (d := d) r (by simpa using e)
  exact ⟨v, by simpa using h1, h2⟩
theorem Dens.append : ∀ {vs ws : List V} {ds es : List D}, Dens K ad H vs ds → Dens K ad H ws es → Dens K ad H (vs ++ ws) (ds ++ es)
 | _, _, _, _, .nil, s => s
 | _, _, _, _, .cons h r, s => .cons h (Dens.append r s)
theorem Dens.take : ∀ {vs : List V} {ds : List D} (n : Nat), Dens K ad H vs ds → Dens K ad H (vs.take n) (ds.take n)
 | _, _, 0, _ => .nil
 | _, _, _ + 1, .nil => .nil
 | _, _, n + 1, .cons h r => .cons h (Dens.take n r)
theorem Dens.drop : ∀ {vs : List V} {ds : List D} (n : Nat), Dens K ad H vs ds → Dens K ad H (vs.drop n) (ds.drop n)
 | _, _, 0, r => r
 | _, _, _ + 1, .nil => .nil
 | _, _, n + 1, .cons _ r => Dens.drop n r
theorem Dens.set {v : V} {d : D} (h : Den K ad H v d) : ∀ {vs : List V} {ds : List D} (n : Nat), Dens K ad H vs ds → Dens K ad H (vs.set n v) (ds.set n d)
 | _, _, _, .nil => .nil
 | _, _, 0, .cons _ r => .cons h r
 | _, _, n + 1, .cons q r => .cons q (Dens.set h n r)
theorem Dens.rep {v : V} {d : D} (h : Den K ad H v d) : ∀ n : Nat, Dens K ad H (List.replicate n v) (List.replicate n d)
 | 0 => .nil
 | n + 1 => .cons h (Dens.rep h n)
theorem Den.ofInt {v : V} {i : Int} (h : Den K ad H v (.int i)) : v = .int i := by cases h; rfl
theorem Den.ofBl {v : V} {b : Bool} (h : Den K ad H v (.bl b)) : v = .bl b := by cases h; rfl
theorem Den.ofDct {v : V} {ks : List Str} {ds : List D} (h : Den K ad H v (.dct ks ds)) : ∃ a vs, v = .ref a ∧ H a = some (.dK ((ks.zip vs).map fun p => (Sum.inr p.1, p.2))) ∧ ks.length = vs.length ∧ Dens K ad H vs ds := by
 cases h with
 | dct h hk nd hl r => subst hk; exact ⟨_, _, rfl, h, hl, r⟩
theorem Den.ofTup {v : V} {ds : List D} (h : Den K ad H v (.tup ds)) : ∃ a xs, v = .ref a ∧ TupAt K H a xs ∧ Dens K ad H xs ds := by
 cases h with
 | tup h r => exact ⟨_, _, rfl, h, r⟩
theorem Den.ofLst {v : V} {i : Nat} (h : Den K ad H v (.lst i)) : ∃ a, v = .ref a ∧ LA ad H i a := by
 cases h with
 | lst h => exact ⟨_, rfl, h⟩
theorem Den.newL {a : Addr} {i : Nat} {xs : List V} (h : ad[i]? = some a) : Den K ad (upd H a (.lst xs)) (.ref a) (.lst i) := .lst ⟨h, noDT upd_same fun _ z => nomatch z⟩
theorem LA.mono {i : Nat} {a : Addr} (x : Ext ad H ad' H') (h : LA ad H i a) : LA ad' H' i a := ⟨x.pre _ _ h.1, fun z => h.2 ((x.kd _ _ h.1).mpr z)⟩

theorem Den.ofKt {v : V} {ks : List Str} (h : Den K ad H v (.kt ks)) : ∃ a o its n, v = .ref a ∧ K.lookup a = some o ∧ (o.cls = .type "tuple" ∧ o.dict = none) ∧ o.data = .seq its n ∧ its.size ≤ sizeLine ∧ Vals (ks.map V.str) its.toList := by
 cases h with
 | kt l c g e z r => exact ⟨_, _, _, _, rfl, l, ⟨c, g⟩, e, z, r⟩
theorem strs_dens : ∀ ks : List Str, Dens K ad H (ks.map V.str) (ks.map D.str)
 | [] => .nil
 | k :: ks => .cons (.str k) (strs_dens ks)

def KL (K : PySem.W.Frag) (a : Addr) (xs : List V) : Prop :=
 ∃ (o : Obj) (its : Array Value) (n : Nat), (K.lookup a = some o ∧ o.cls = .type "list") ∧ (o.dict = none ∧ o.data = .seq its n) ∧ its.size ≤ sizeLine ∧ Vals xs its.toList
inductive Ents (K : PySem.W.Frag) (ad : List Addr) (H : Hp) : List (List Key × V) → List D → Prop where
 | nil : Ents K ad H [] []
 | cons {i j : Int} {v : V} {d : D} {kvs : List (List Key × V)} {ds : List D} (h : Den K ad H v d) (r : Ents K ad H kvs ds) : Ents K ad H (([.inl i, .inl j], v) :: kvs) (.tup [.int i, .int j, d] :: ds)
theorem Ents.map (x : Keeps K ad ad' H H') {kvs : List (List Key × V)} {ds : List D} (h : Ents K ad H kvs ds) : Ents K ad' H' kvs ds := by
 induction h with
 | nil => exact .nil
 | cons h _ ih => exact .cons (h.map x) ih
theorem Ents.mono (x : Ext ad H ad' H') {kvs : List (List Key × V)} {ds : List D} (h : Ents K ad H kvs ds) : Ents K ad' H' kvs ds := h.map x.keeps
inductive CellOk (K : PySem.W.Frag) (ad : List Addr) (H : Hp) (a : Addr) (c : Cell) : Prop where
 | l {xs : List V} (n : ¬ IsDT H a) (r : Dens K ad H xs c.2) (h : (c.1 = true ∧ H a = some (.lst xs)) ∨ (c.1 = false ∧ ((∃ o, H a = some (.frz o (.lst xs))) ∨ KL K a xs)))
 | d {kvs : List (List Key × V)} (r : Ents K ad H kvs c.2) (e : c.1 = true) (h : H a = some (.dT kvs))
structure StOk (K : PySem.W.Frag) (ad : List Addr) (H : Hp) (st : Store) : Prop where
 len : ad.length = st.length
 nd : ∀ (i j : Nat) (a : Addr) (c d : List D), ad[i]? = some a → ad[j]? = some a → st[i]? = some (true, c) → st[j]? = some (true, d) → i = j
 cell : ∀ (i : Nat) (c : Cell), st[i]? = some c → ∃ a, ad[i]? = some a ∧ CellOk K ad H a c

theorem CellOk.sq {a : Addr} {c : Cell} (h : CellOk K ad H a c) (n : ¬ IsDT H a) : ∃ xs, Dens K ad H xs c.2 ∧ SqL K H a xs := by
 cases h with
 | l _ r h =>
  obtain ⟨_, e⟩ | ⟨_, ⟨o, e⟩ | ⟨o, its, n, ⟨h1, h2⟩, ⟨h3, h4⟩, h5, h6⟩⟩ := h
  ·exact ⟨_, r, .inl (.inl e)⟩
  ·exact ⟨_, r, .inl (.inr ⟨o, e⟩)⟩
  ·exact ⟨_, r, .inr ⟨o, its, n, h1, h2, h3, h4, h5, h6⟩⟩
 | d r e h => exact absurd ⟨_, h⟩ n
theorem StOk.list {st : Store} {a : Addr} {i : Nat} {b : Bool} {ds : List D} (S : StOk K ad H st) (h : LA ad H i a) (e : st[i]? = some (b, ds)) : ∃ xs, Dens K ad H xs ds ∧ SqL K H a xs := by
 obtain ⟨a', e', c⟩ := S.cell i _ e
 rw [h.1] at e'; cases e'
 exact c.sq h.2
theorem StOk.listM {st : Store} {a : Addr} {i : Nat} {ds : List D} (S : StOk K ad H st) (h : LA ad H i a) (e : st[i]? = some (true, ds)) : ∃ xs, Dens K ad H xs ds ∧ H a = some (.lst xs) := by
 obtain ⟨a', e', c⟩ := S.cell i _ e
 rw [h.1] at e'; cases e'
 cases c with
 | l _ r q =>
  obtain ⟨_, q⟩ | ⟨q, _⟩ := q
  ·exact ⟨_, r, q⟩
  ·cases q
 | d r _ q => exact absurd ⟨_, q⟩ h.2
theorem StOk.dict {st : Store} {a : Addr} {i : Nat} {b : Bool} {ds : List D} (S : StOk K ad H st) (h : ad[i]? = some a) (n : IsDT H a) (e : st[i]? = some (b, ds)) : ∃ kvs, Ents K ad H kvs ds ∧ H a = some (.dT kvs) ∧ b = true := by
 obtain ⟨a', e', c⟩ := S.cell i _ e
 rw [h] at e'; cases e'
 cases c with
 | l z => exact absurd n z
 | d r e q => exact ⟨_, r, q, e⟩
theorem upd_DT {p a : Addr} {o : HO} (hp : ¬ IsDT H p) (ho : ∀ kvs, o ≠ .dT kvs) : IsDT H a ↔ IsDT (upd H p o) a := by
 by_cases z : a = p
 ·subst z
  exact ⟨fun q => absurd q hp, fun q => absurd q (noDT upd_same ho)⟩
 ·unfold IsDT
  rw [upd_ne z]
theorem none_DT {p : Addr} (hp : H p = none) : ¬ IsDT H p := fun ⟨_, z⟩ => by rw [hp] at z; cases z
theorem Ext.laid {p : Addr} {o : HO} (hp : H p = none) (ho : ∀ kvs, o ≠ .dT kvs := by intro _ z; cases z) : Ext ad H ad (upd H p o) :=
 ⟨fun _ _ h => h, fun b xs h => by rw [upd_ne (ne_of_none h hp)]; exact h, fun b xs h => by rw [upd_ne (ne_of_none h hp)]; exact h, fun b o h _ => by rw [upd_ne (ne_of_none h hp)]; exact h, fun _ h => .inl h, fun _ _ _ => upd_DT (none_DT hp) ho⟩
theorem CellOk.laid {i : Nat} {p a : Addr} {o : HO} {c : Cell} {ad' : List Addr} (ha : ad[i]? = some a) (hp : H p = none) (x : Ext ad H ad' (upd H p o)) (h : CellOk K ad H a c) : CellOk K ad' (upd H p o) a c := by
 cases h with
 | l n r h =>
  refine .l (fun z => n ((x.kd i a ha).mpr z)) (r.mono x) ?_
  rcases h with ⟨b, e⟩ | ⟨b, ⟨o, e⟩ | e⟩
  ·exact .inl ⟨b, by rw [upd_ne (ne_of_none e hp)]; exact e⟩
  ·exact .inr ⟨b, .inl ⟨o, by rw [upd_ne (ne_of_none e hp)]; exact e⟩⟩
  ·exact .inr ⟨b, .inr e⟩
 | d r e h => exact .d (r.mono x) e (by rw [upd_ne (ne_of_none h hp)]; exact h)
theorem StOk.laid {st : Store} {p : Addr} {o : HO} (S : StOk K ad H st) (hp : H p = none) (ho : ∀ kvs, o ≠ .dT kvs := by intro _ z; cases z) : StOk K ad (upd H p o) st :=
 ⟨S.len, S.nd, fun i c e => let ⟨a, h, q⟩ := S.cell i c e; ⟨a, h, q.laid h hp (Ext.laid hp ho)⟩⟩
theorem get_snoc {α : Type} {l : List α} {x y : α} {i : Nat} (h : (l ++ [x])[i]? = some y) : l[i]? = some y ∨ (i = l.length ∧ y = x) := by
 by_cases hi : i < l.length
 ·rw [List.getElem?_append_left hi] at h
  exact .inl h
 ·rw [List.getElem?_append_right (by omega)] at h
  have : i - l.length = 0 := by
   cases e : i - l.length with
   | zero => rfl
   | succ k => rw [e] at h; simp at h
  rw [this] at h
  simp at h
  exact .inr ⟨by omega, h.symm⟩
theorem snoc_pre {α : Type} {l : List α} {x y : α} {i : Nat} (h : l[i]? = some y) : (l ++ [x])[i]? = some y := by
 rw [List.getElem?_append_left (List.getElem?_eq_some_iff.mp h).1]
 exact h
theorem snoc_last {α : Type} {l : List α} {x : α} : (l ++ [x])[l.length]? = some x := by simp
theorem Ext.pushG {p : Addr} {o : HO} (hp : H p = none) (hk : ∀ (i : Nat) (a : Addr), ad[i]? = some a → (IsDT H a ↔ IsDT (upd H p o) a)) : Ext ad H (ad ++ [p]) (upd H p o) :=
 ⟨fun _ _ h => snoc_pre h, fun b xs h => by rw [upd_ne (ne_of_none h hp)]; exact h, fun b xs h => by rw [upd_ne (ne_of_none h hp)]; exact h, fun b o h _ => by rw [upd_ne (ne_of_none h hp)]; exact h, fun b h => (List.mem_append.mp h).elim .inl fun z => .inr (by rw [List.mem_singleton.mp z]; exact hp), hk⟩
theorem Ext.push {p : Addr} {xs : List V} (hp : H p = none) : Ext ad H (ad ++ [p]) (upd H p (.lst xs)) := Ext.pushG hp fun _ _ _ => upd_DT (none_DT hp) fun _ z => nomatch z
theorem StOk.more {st : Store} {p : Addr} {H' : Hp} {ds : List D} (S : StOk K ad H st) (hn : ∀ (i : Nat) (c : List D), ad[i]? = some p → st[i]? = some (true, c) → False) (hc : ∀ (i : Nat) (c : Cell) (a : Addr), ad[i]? = some a → CellOk K ad H a c → CellOk K (ad ++ [p]) H' a c) (hp : CellOk K (ad ++ [p]) H' p (true, ds)) : StOk K (ad ++ [p]) H' (st ++ [(true, ds)]) := by
 have old : ∀ (i : Nat) (c : List D) (a : Addr), (ad ++ [p])[i]? = some a → st[i]? = some (true, c) → ad[i]? = some a := fun i c a h e => by
  obtain ⟨a1, q1, _⟩ := S.cell i _ e
  have z1 := snoc_pre (x := p) q1
  rw [h] at z1; cases z1; exact q1
 refine ⟨by rw [List.length_append, List.length_append, S.len]; rfl, fun i j a c d h1 h2 h3 h4 => ?_, fun i c e => ?_⟩
 ·rcases get_snoc h3 with h3 | ⟨e3, _⟩
  ·rcases get_snoc h4 with h4 | ⟨e4, _⟩
   ·exact S.nd i j a c d (old i c a h1 h3) (old j d a h2 h4) h3 h4
   ·have q1 := old i c a h1 h3
    rw [e4, ← S.len, snoc_last] at h2
    cases h2
    exact (hn i c q1 h3).elim
  ·rcases get_snoc h4 with h4 | ⟨e4, _⟩
   ·have q2 := old j d a h2 h4
    rw [e3, ← S.len, snoc_last] at h1
    cases h1
    exact (hn j d q2 h4).elim
   ·omega
 ·rcases get_snoc e with e | ⟨e1, e2⟩
  ·obtain ⟨a, h, q⟩ := S.cell i c e
   exact ⟨a, snoc_pre h, hc i c a h q⟩
  ·subst e2
   exact ⟨p, by rw [e1, ← S.len]; exact snoc_last, hp⟩
theorem StOk.noNew {st : Store} {p : Addr} (S : StOk K ad H st) (hp : H p = none) (i : Nat) (c : List D) (h : ad[i]? = some p) (e : st[i]? = some (true, c)) : False := by
 obtain ⟨a', e', q⟩ := S.cell i _ e
 rw [h] at e'; cases e'
 cases q with
 | l _ _ q =>
  obtain ⟨_, q⟩ | ⟨q, _⟩ := q
  ·rw [hp] at q; cases q
  ·cases q
 | d _ _ q => rw [hp] at q; cases q
theorem StOk.push {st : Store} {p : Addr} {xs : List V} {ds : List D} (S : StOk K ad H st) (hp : H p = none) (r : Dens K ad H xs ds) : StOk K (ad ++ [p]) (upd H p (.lst xs)) (st ++ [(true, ds)]) :=
 S.more (S.noNew hp) (fun _ _ _ h q => q.laid h hp (Ext.push hp)) (.l (noDT upd_same fun _ z => nomatch z) (r.mono (Ext.push hp)) (.inl ⟨rfl, upd_same⟩))
theorem StOk.wrG {st : Store} {p : Addr} {o : HO} (S : StOk K ad H st) (kp : Keeps K ad ad H (upd H p o)) (hn : p ∉ ad) : StOk K ad (upd H p o) st :=
 ⟨S.len, S.nd, fun i c e => by
  obtain ⟨a, h, q⟩ := S.cell i c e
  have ne : a ≠ p := fun z => hn (by rw [← z]; exact List.mem_of_getElem? h)
  refine ⟨a, h, ?_⟩
  cases q with
  | l n r q =>
   refine .l (fun z => n ((kp.l h).2.mpr z)) (r.map kp) ?_
   rcases q with ⟨b, q⟩ | ⟨b, ⟨o, q⟩ | q⟩
   ·exact .inl ⟨b, by rw [upd_ne ne]; exact q⟩
   ·exact .inr ⟨b, .inl ⟨o, by rw [upd_ne ne]; exact q⟩⟩
   ·exact .inr ⟨b, .inr q⟩
  | d r t q => exact .d (r.map kp) t (by rw [upd_ne ne]; exact q)⟩
theorem StOk.has {st : Store} {i : Nat} {a : Addr} (S : StOk K ad H st) (hi : ad[i]? = some a) : (∃ o, H a = some o) ∨ ∃ o, K.lookup a = some o := by
 obtain ⟨a', e', q⟩ := S.cell i _ (List.getElem?_eq_getElem (show i < st.length by rw [← S.len]; exact (List.getElem?_eq_some_iff.mp hi).1))
 rw [hi] at e'; cases e'
 cases q with
 | l _ _ q =>
  obtain ⟨_, q⟩ | ⟨_, ⟨o, q⟩ | ⟨o, its, m, ⟨h1, h2⟩, _⟩⟩ := q
  ·exact .inl ⟨_, q⟩
  ·exact .inl ⟨_, q⟩
  ·exact .inr ⟨_, h1⟩
 | d _ _ q => exact .inl ⟨_, q⟩
theorem StOk.adopt {st : Store} {p : Addr} {xs : List V} {ds : List D} (S : StOk K ad H st) (hp : H p = some (.lst xs)) (hn : p ∉ ad) (r : Dens K ad H xs ds) : StOk K (ad ++ [p]) H (st ++ [(true, ds)]) := by
 have kp : Keeps K ad (ad ++ [p]) H H := keeps' (fun _ _ h => snoc_pre h) (fun b hb => (List.mem_append.mp hb).imp id fun z => ⟨xs, by rw [List.mem_singleton.mp z]; exact hp⟩)
 exact S.more (fun i _ h _ => hn (List.mem_of_getElem? h)) (fun _ _ _ _ q => by
  cases q with
  | l n r h => exact .l n (r.map kp) h
  | d r e h => exact .d (r.map kp) e h) (.l (noDT hp fun _ z => nomatch z) (r.map kp) (.inl ⟨rfl, hp⟩))
theorem Ext.writeG {a : Addr} {o o' : HO} (h : H a = some o) (ha : a ∈ ad) (h1 : ∀ xs, o ≠ .tup xs) (h2 : ∀ xs, o ≠ .dK xs) (hk : IsDT H a ↔ IsDT (upd H a o') a) : Ext ad H ad (upd H a o') :=
 ⟨fun _ _ h => h, fun b zs e => by rw [upd_ne (ne_of e h (fun z => h1 _ z.symm))]; exact e, fun b zs e => by rw [upd_ne (ne_of e h (fun z => h2 _ z.symm))]; exact e, fun b o e n => by rw [upd_ne (show b ≠ a from fun z => n (by rw [z]; exact ha))]; exact e, fun _ h => .inl h, fun _ b _ => by
  by_cases z : b = a
  ·rw [z]; exact hk
  ·unfold IsDT; rw [upd_ne z]⟩
theorem Ext.write {a : Addr} {xs ys : List V} (h : H a = some (.lst xs)) (ha : a ∈ ad) : Ext ad H ad (upd H a (.lst ys)) :=
 Ext.writeG h ha (fun _ z => nomatch z) (fun _ z => nomatch z) ⟨fun z => absurd z (noDT h fun _ z => nomatch z), fun z => absurd z (noDT upd_same fun _ z => nomatch z)⟩
theorem StOk.writeG {st : Store} {a : Addr} {i : Nat} {ds es : List D} {o o' : HO} (S : StOk K ad H st) (h : ad[i]? = some a) (e : st[i]? = some (true, ds)) (hx : H a = some o) (hf : ∀ q u, o ≠ .frz q u) (x : Ext ad H ad (upd H a o')) (r : CellOk K ad (upd H a o') a (true, es)) :
  StOk K ad (upd H a o') (st.set i (true, es)) := by
 have hi : i < st.length := (List.getElem?_eq_some_iff.mp e).1
 refine ⟨by rw [List.length_set]; exact S.len, fun j k b c d h1 h2 h3 h4 => ?_, fun j c q => ?_⟩
 ·have up : ∀ (j : Nat) (c : List D), (st.set i (true, es))[j]? = some (true, c) → ∃ c', st[j]? = some (true, c') := fun j c q => by
   by_cases z : i = j
   ·subst z; exact ⟨_, e⟩
   ·rw [List.getElem?_set_ne z] at q; exact ⟨_, q⟩
  obtain ⟨c', h3⟩ := up j c h3
  obtain ⟨d', h4⟩ := up k d h4
  exact S.nd j k b c' d' h1 h2 h3 h4
 ·by_cases z : i = j
  ·subst z
   rw [List.getElem?_set_self hi] at q
   cases q
   exact ⟨a, h, r⟩
  ·rw [List.getElem?_set_ne z] at q
   obtain ⟨b, hb, hz⟩ := S.cell j c q
   refine ⟨b, hb, ?_⟩
   have ne : c.1 = true → b ≠ a := fun t w => by
    obtain ⟨cb, cl⟩ := c
    cases (show cb = true from t)
    exact z (S.nd i j a ds cl h (w ▸ hb) e q)
   cases hz with
   | l n rz hz =>
    refine .l (fun z => n ((x.kd j b hb).mpr z)) (rz.mono x) ?_
    rcases hz with ⟨t, hz⟩ | ⟨t, ⟨o, hz⟩ | hz⟩
    ·exact .inl ⟨t, by rw [upd_ne (ne t)]; exact hz⟩
    ·exact .inr ⟨t, .inl ⟨o, by rw [upd_ne (ne_of hz hx (fun z => hf _ _ z.symm))]; exact hz⟩⟩
    ·exact .inr ⟨t, .inr hz⟩
   | d rz t hz => exact .d (rz.mono x) t (by rw [upd_ne (ne t)]; exact hz)
theorem StOk.write {st : Store} {a : Addr} {i : Nat} {ds es : List D} {xs ys : List V} (S : StOk K ad H st) (h : LA ad H i a) (e : st[i]? = some (true, ds)) (hx : H a = some (.lst xs)) (r : Dens K ad H ys es) :
  StOk K ad (upd H a (.lst ys)) (st.set i (true, es)) :=
 S.writeG h.1 e hx (fun _ _ z => nomatch z) (Ext.write hx (List.mem_of_getElem? h.1)) (.l (noDT upd_same fun _ z => nomatch z) (r.mono (Ext.write hx (List.mem_of_getElem? h.1))) (.inl ⟨rfl, upd_same⟩))

structure EnvOk (K : PySem.W.Frag) (ad : List Addr) (H : Hp) (σ : L2.St) (ρ : Env) : Prop where
 len : σ.length = ρ.length
 at_ : ∀ (i : Nat) (d : D), ρ[i]? = some (some d) → ∃ v, σ[i]? = some (some v) ∧ Den K ad H v d
theorem EnvOk.mono {σ : L2.St} {ρ : Env} (x : Ext ad H ad' H') (h : EnvOk K ad H σ ρ) : EnvOk K ad' H' σ ρ := ⟨h.len, fun i d e => let ⟨v, e1, e2⟩ := h.at_ i d e; ⟨v, e1, e2.mono x⟩⟩
theorem EnvOk.set {σ : L2.St} {ρ : Env} {v : V} {d : D} (h : EnvOk K ad H σ ρ) (i : Nat) (r : Den K ad H v d) : EnvOk K ad H (σ.set i (some v)) (setE ρ i d) := by
 refine ⟨by unfold setE; rw [List.length_set, List.length_set]; exact h.len, fun j e q => ?_⟩
 unfold setE at q
 by_cases z : i = j
 ·subst z
  by_cases hi : i < ρ.length
  ·rw [List.getElem?_set_self hi] at q
   cases q
   exact ⟨v, by rw [List.getElem?_set_self (by rw [h.len]; exact hi)], r⟩
  ·rw [List.getElem?_eq_none (by rw [List.length_set]; omega)] at q
   cases q
 ·rw [List.getElem?_set_ne z] at q
  obtain ⟨w, e1, e2⟩ := h.at_ j e q
  exact ⟨w, by rw [List.getElem?_set_ne z]; exact e1, e2⟩
end

def Post (K : PySem.W.Frag) (ad : List Addr) (H : Hp) (d : D) (st' : Store) (Q : VK) : Prop := ∀ v ad' H', Ext ad H ad' H' → StOk K ad' H' st' → Den K ad' H' v d → Q v H'
noncomputable def tE (K : PySem.W.Frag) (f : Env → Store → Res) : TE := fun σ H Q => ∃ ad ρ st d st', EnvOk K ad H σ ρ ∧ StOk K ad H st ∧ f ρ st = some (d, st') ∧ Post K ad H d st' Q
noncomputable def tT (K : PySem.W.Frag) (f : Env → Store → Res) : TT := fun σ H Q => ∃ ad ρ st k st', EnvOk K ad H σ ρ ∧ StOk K ad H st ∧ f ρ st = some (.bl k, st') ∧ ∀ ad' H', Ext ad H ad' H' → StOk K ad' H' st' → Q k H'
noncomputable def tA (K : PySem.W.Frag) (f : Env → Store → Res) : TA := fun σ H Q => ∃ ad ρ st ds st', EnvOk K ad H σ ρ ∧ StOk K ad H st ∧ f ρ st = some (.tup ds, st') ∧ ∀ vs ad' H', Ext ad H ad' H' → StOk K ad' H' st' → Dens K ad' H' vs ds → Q vs H'
noncomputable def rD (K : PySem.W.Frag) (f : D → D → Store → Res) : R2 := fun x y H Q => ∃ ad st dx dy d st', StOk K ad H st ∧ Den K ad H x dx ∧ Den K ad H y dy ∧ f dx dy st = some (d, st') ∧ Post K ad H d st' Q
noncomputable def spD (K : PySem.W.Frag) (g : Fn) : Sp := fun vs H Q _ => ∃ ad ds st d st', StOk K ad H st ∧ Dens K ad H vs ds ∧ g ds st = some (d, st') ∧ Post K ad H d st' Q
noncomputable def tS (K : PySem.W.Frag) (f : Env → Store → Option (Fl × Store)) : TS := fun D σ H => ∃ ad ρ st r st', EnvOk K ad H σ ρ ∧ StOk K ad H st ∧ f ρ st = some (r, st') ∧
 match r with
 | .nx ρ' => ∀ σ' ad' H', Ext ad H ad' H' → StOk K ad' H' st' → EnvOk K ad' H' σ' ρ' → D.nx σ' H'
 | .bk ρ' => ∀ σ' ad' H', Ext ad H ad' H' → StOk K ad' H' st' → EnvOk K ad' H' σ' ρ' → D.bk σ' H'
 | .ct ρ' => ∀ σ' ad' H', Ext ad H ad' H' → StOk K ad' H' st' → EnvOk K ad' H' σ' ρ' → D.ct σ' H'
 | .rt d => Post K ad H d st' D.rt
theorem Post.at {K : PySem.W.Frag} {ad : List Addr} {H : Hp} {d : D} {st : Store} {Q : VK} (p : Post K ad H d st Q) (S : StOk K ad H st) {v : V} (h : Den K ad H v d) : Q v H := p v ad H (Ext.refl _ _) S h
theorem Post.later {K : PySem.W.Frag} {ad ad' : List Addr} {H H' : Hp} {d : D} {st : Store} {Q : VK} (p : Post K ad H d st Q) (x : Ext ad H ad' H') : Post K ad' H' d st Q := fun v a2 H2 y S h => p v a2 H2 (x.trans y) S h
end Dp



namespace Dp
open PySem PySem.Spec PyProof.Rows L2
variable [ClsTab]
section
variable {X : Cx} {a b c : Expr} {fa fb fc : Ev} {pos : Pos}

theorem imp_var {K : PySem.W.Frag} {i : Nat} (σ : L2.St) (H : Hp) (Q : VK) (h : tE K (evVar i) σ H Q) : tVar i σ H Q := by
 obtain ⟨ad, ρ, st, d, st', E, S, e, p⟩ := h
 unfold evVar at e
 split at e
 ·rename_i q
  obtain ⟨v, e1, e2⟩ := E.at_ i _ q
  cases e
  exact ⟨v, e1, p.at S e2⟩
 ·cases e
theorem imp_c {K : PySem.W.Frag} {v : V} {d : D} (hd : ∀ ad H, Den K ad H v d) (σ : L2.St) (H : Hp) (Q : VK) (h : tE K (evC d) σ H Q) : tC v σ H Q := by
 obtain ⟨ad, ρ, st, d', st', E, S, e, p⟩ := h
 cases e
 exact p.at S (hd _ _)
theorem imp_op {K : PySem.W.Frag} {g : D → D → Store → Res} (σ : L2.St) (H : Hp) (Q : VK) (h : tE K (seq2 fa fb g) σ H Q) : tOp (rD K g) (tE K fa) (tE K fb) σ H Q := by
 obtain ⟨ad, ρ, st, d, st', E, S, e, p⟩ := h
 unfold seq2 at e
 split at e
 ·rename_i x st1 q1
  split at e
  ·rename_i y st2 q2
   refine ⟨ad, ρ, st, x, st1, E, S, q1, fun v1 ad1 H1 x1 S1 d1 => ⟨ad1, ρ, st1, y, st2, E.mono x1, S1, q2, fun v2 ad2 H2 x2 S2 d2 => ?_⟩⟩
   exact ⟨ad2, st2, x, y, d, st', S2, d1.mono x2, d2, e, p.later (x1.trans x2)⟩
  ·cases e
 ·cases e
def rU1 (K : PySem.W.Frag) (g : D → Store → Res) : V → Hp → VK → Prop := fun x H Q => ∃ ad st dx d st', StOk K ad H st ∧ Den K ad H x dx ∧ g dx st = some (d, st') ∧ Post K ad H d st' Q
theorem imp_un {K : PySem.W.Frag} {g : D → Store → Res} (σ : L2.St) (H : Hp) (Q : VK) (h : tE K (seq1 fa g) σ H Q) : tUn (rU1 K g) (tE K fa) σ H Q := by
 obtain ⟨ad, ρ, st, d, st', E, S, e, p⟩ := h
 unfold seq1 at e
 split at e
 ·rename_i x st1 q1
  exact ⟨ad, ρ, st, x, st1, E, S, q1, fun v1 ad1 H1 x1 S1 d1 => ⟨ad1, st1, x, d, st', S1, d1, e, p.later x1⟩⟩
 ·cases e
theorem imp_tB {K : PySem.W.Frag} (σ : L2.St) (H : Hp) (Q : Bool → Hp → Prop) (h : tT K fa σ H Q) : tE K fa σ H fun x H1 => ∃ c, x = .bl c ∧ Q c H1 := by
 obtain ⟨ad, ρ, st, k, st', E, S, e, p⟩ := h
 exact ⟨ad, ρ, st, .bl k, st', E, S, e, fun v ad' H' x S' d' => ⟨k, d'.ofBl, p ad' H' x S'⟩⟩
theorem cond_cases {fc ft ff : Ev} {ρ : Env} {st : Store} {r : D × Store} (h : cond fc ft ff ρ st = some r) : ∃ k st1, fc ρ st = some (.bl k, st1) ∧ (if k = true then ft ρ st1 else ff ρ st1) = some r := by
 unfold cond at h
 split at h
 ·rename_i st1 q
  exact ⟨true, st1, q, by rw [if_pos rfl]; exact h⟩
 ·rename_i st1 q
  exact ⟨false, st1, q, by rw [if_neg Bool.false_ne_true]; exact h⟩
 ·cases h
theorem imp_if {K : PySem.W.Frag} (σ : L2.St) (H : Hp) (Q : VK) (h : tE K (cond fc fa fb) σ H Q) : tIf (tT K fc) (tE K fa) (tE K fb) σ H Q := by
 obtain ⟨ad, ρ, st, d, st', E, S, e, p⟩ := h
 obtain ⟨k, st1, q, e⟩ := cond_cases e
 refine ⟨ad, ρ, st, k, st1, E, S, q, fun ad1 H1 x1 S1 => ?_⟩
 cases k with
 | true =>
  rw [if_pos rfl] at e ⊢
  exact ⟨ad1, ρ, st1, d, st', E.mono x1, S1, e, p.later x1⟩
 | false =>
  rw [if_neg Bool.false_ne_true] at e ⊢
  exact ⟨ad1, ρ, st1, d, st', E.mono x1, S1, e, p.later x1⟩
theorem imp_andV {K : PySem.W.Frag} (σ : L2.St) (H : Hp) (Q : VK) (h : tE K (cond fa fb (evC (.bl false))) σ H Q) : tAndV (tE K fa) (tE K fb) σ H Q := by
 obtain ⟨ad, ρ, st, d, st', E, S, e, p⟩ := h
 obtain ⟨k, st1, q, e⟩ := cond_cases e
 refine ⟨ad, ρ, st, .bl k, st1, E, S, q, fun v1 ad1 H1 x1 S1 d1 => ⟨k, d1.ofBl, ?_⟩⟩
 cases k with
 | true =>
  rw [if_pos rfl] at e ⊢
  exact ⟨ad1, ρ, st1, d, st', E.mono x1, S1, e, p.later x1⟩
 | false =>
  rw [if_neg Bool.false_ne_true] at e ⊢
  cases e
  exact (p.later x1).at S1 (.bl false)
theorem imp_orV {K : PySem.W.Frag} (σ : L2.St) (H : Hp) (Q : VK) (h : tE K (cond fa (evC (.bl true)) fb) σ H Q) : tOrV (tE K fa) (tE K fb) σ H Q := by
 obtain ⟨ad, ρ, st, d, st', E, S, e, p⟩ := h
 obtain ⟨k, st1, q, e⟩ := cond_cases e
 refine ⟨ad, ρ, st, .bl k, st1, E, S, q, fun v1 ad1 H1 x1 S1 d1 => ⟨k, d1.ofBl, ?_⟩⟩
 cases k with
 | true =>
  rw [if_pos rfl] at e ⊢
  cases e
  exact (p.later x1).at S1 (.bl true)
 | false =>
  rw [if_neg Bool.false_ne_true] at e ⊢
  exact ⟨ad1, ρ, st1, d, st', E.mono x1, S1, e, p.later x1⟩
theorem imp_andT {K : PySem.W.Frag} (σ : L2.St) (H : Hp) (Q : Bool → Hp → Prop) (h : tT K (cond fa fb (evC (.bl false))) σ H Q) : tAnd (tT K fa) (tT K fb) σ H Q := by
 obtain ⟨ad, ρ, st, d, st', E, S, e, p⟩ := h
 obtain ⟨k, st1, q, e⟩ := cond_cases e
 refine ⟨ad, ρ, st, k, st1, E, S, q, fun ad1 H1 x1 S1 => ?_⟩
 cases k with
 | true =>
  rw [if_pos rfl] at e ⊢
  exact ⟨ad1, ρ, st1, d, st', E.mono x1, S1, e, fun ad2 H2 x2 S2 => p ad2 H2 (x1.trans x2) S2⟩
 | false =>
  rw [if_neg Bool.false_ne_true] at e ⊢
  cases e
  exact p ad1 H1 x1 S1
theorem imp_orT {K : PySem.W.Frag} (σ : L2.St) (H : Hp) (Q : Bool → Hp → Prop) (h : tT K (cond fa (evC (.bl true)) fb) σ H Q) : tOr (tT K fa) (tT K fb) σ H Q := by
 obtain ⟨ad, ρ, st, d, st', E, S, e, p⟩ := h
 obtain ⟨k, st1, q, e⟩ := cond_cases e
 refine ⟨ad, ρ, st, k, st1, E, S, q, fun ad1 H1 x1 S1 => ?_⟩
 cases k with
 | true =>
  rw [if_pos rfl] at e ⊢
  cases e
  exact p ad1 H1 x1 S1
 | false =>
  rw [if_neg Bool.false_ne_true] at e ⊢
  exact ⟨ad1, ρ, st1, d, st', E.mono x1, S1, e, fun ad2 H2 x2 S2 => p ad2 H2 (x1.trans x2) S2⟩
theorem imp_notT {K : PySem.W.Frag} (σ : L2.St) (H : Hp) (Q : Bool → Hp → Prop) (h : tT K (seq1 fa notD) σ H Q) : tNot (tT K fa) σ H Q := by
 obtain ⟨ad, ρ, st, d, st', E, S, e, p⟩ := h
 unfold seq1 at e
 split at e
 ·rename_i x st1 q1
  cases x with
  | bl k =>
   cases (show some (D.bl (!k), st1) = _ from e)
   exact ⟨ad, ρ, st, k, _, E, S, q1, fun ad1 H1 x1 S1 => p ad1 H1 x1 S1⟩
  | _ => simp [notD] at e
 ·cases e
theorem imp_notV {K : PySem.W.Frag} (σ : L2.St) (H : Hp) (Q : VK) (h : tE K (seq1 fa notD) σ H Q) : tNotV (tE K fa) σ H Q := by
 obtain ⟨ad, ρ, st, d, st', E, S, e, p⟩ := h
 unfold seq1 at e
 split at e
 ·rename_i x st1 q1
  cases x with
  | bl k =>
   cases (show some (D.bl (!k), st1) = _ from e)
   exact ⟨ad, ρ, st, .bl k, _, E, S, q1, fun v1 ad1 H1 x1 S1 d1 => ⟨k, d1.ofBl, (p.later x1).at S1 (.bl _)⟩⟩
  | _ => simp [notD] at e
 ·cases e
theorem imp_anil {K : PySem.W.Frag} (σ : L2.St) (H : Hp) (Q : List V → Hp → Prop) (h : tA K (evC (.tup [])) σ H Q) : tNil σ H Q := by
 obtain ⟨ad, ρ, st, d, st', E, S, e, p⟩ := h
 cases e
 exact p [] ad H (Ext.refl _ _) S .nil
theorem imp_acons {K : PySem.W.Frag} (σ : L2.St) (H : Hp) (Q : List V → Hp → Prop) (h : tA K (seq2 fa fb consD) σ H Q) : tCons (tE K fa) (tA K fb) σ H Q := by
 obtain ⟨ad, ρ, st, d, st', E, S, e, p⟩ := h
 unfold seq2 at e
 split at e
 ·rename_i x st1 q1
  split at e
  ·rename_i y st2 q2
   cases y with
   | tup zs =>
    have e : (if zs.length < 1000 then some (D.tup (x :: zs), st2) else none) = some (D.tup d, st') := e
    split at e
    ·cases e
     refine ⟨ad, ρ, st, _, st1, E, S, q1, fun v1 ad1 H1 x1 S1 d1 => ⟨ad1, ρ, st1, zs, _, E.mono x1, S1, q2, fun v2 ad2 H2 x2 S2 d2 => ?_⟩⟩
     exact p _ ad2 H2 (x1.trans x2) S2 (.cons (d1.mono x2) d2)
    ·cases e
   | _ => simp [consD] at e
  ·cases e
 ·cases e
theorem imp_tup {K : PySem.W.Frag} (hb : ∀ ρ st ds st', fa ρ st = some (.tup ds, st') → ds.length ≤ 1000) (ht : ∀ ρ st d st', fa ρ st = some (d, st') → ∃ ds, d = .tup ds) (σ : L2.St) (H : Hp) (Q : VK) (h : tE K fa σ H Q) : tTup (tA K fa) σ H Q := by
 obtain ⟨ad, ρ, st, d, st', E, S, e, p⟩ := h
 obtain ⟨ds, rfl⟩ := ht _ _ _ _ e
 refine ⟨ad, ρ, st, ds, st', E, S, e, fun vs ad1 H1 x1 S1 d1 => ⟨?_, fun q hq => ?_⟩⟩
 ·rw [d1.length]
  exact Nat.le_trans (hb _ _ _ _ e) (by decide)
 ·exact p _ ad1 _ (x1.trans (Ext.laid hq)) (S1.laid hq) (.tup (.inl upd_same) (d1.mono (Ext.laid hq)))
theorem imp_lst {K : PySem.W.Frag} (hb : ∀ ρ st ds st', fa ρ st = some (.tup ds, st') → ds.length ≤ 1000) (σ : L2.St) (H : Hp) (Q : VK) (h : tE K (seq1 fa lstD) σ H Q) : tLst (tA K fa) σ H Q := by
 obtain ⟨ad, ρ, st, d, st', E, S, e, p⟩ := h
 unfold seq1 at e
 split at e
 ·rename_i x st1 q1
  cases x with
  | tup ds =>
   cases (show some (D.lst st1.length, st1 ++ [(true, ds)]) = _ from e)
   refine ⟨ad, ρ, st, ds, _, E, S, q1, fun vs ad1 H1 x1 S1 d1 => ⟨?_, fun q hq => ?_⟩⟩
   ·rw [d1.length]
    exact Nat.le_trans (hb _ _ _ _ q1) (by decide)
   ·refine p _ (ad1 ++ [q]) _ (x1.trans (Ext.push hq)) (S1.push hq d1) (.newL ?_)
    rw [← S1.len]
    exact snoc_last
  | _ => simp [lstD] at e
 ·cases e
theorem imp_call {K : PySem.W.Frag} {g : Fn} {ds : List D} {dvs : List V} {E : XK} (hd : ∀ ad H, Dens K ad H dvs ds) (σ : L2.St) (H : Hp) (Q : VK) (h : tE K (seq1 fa (callR g ds)) σ H Q) : tCall (spD K g) dvs E (tA K fa) σ H Q := by
 obtain ⟨ad, ρ, st, d, st', E, S, e, p⟩ := h
 unfold seq1 at e
 split at e
 ·rename_i x st1 q1
  cases x with
  | tup xs => exact ⟨ad, ρ, st, xs, _, E, S, q1, fun vs ad1 H1 x1 S1 d1 => ⟨ad1, xs ++ ds, _, d, st', S1, d1.append (hd _ _), e, p.later x1⟩⟩
  | _ => simp [callR] at e
 ·cases e
def rC (K : PySem.W.Frag) (g : List D → Store → Res) : List V → Hp → VK → Prop := fun vs H Q => ∃ ad st ds d st', StOk K ad H st ∧ Dens K ad H vs ds ∧ g ds st = some (d, st') ∧ Post K ad H d st' Q
noncomputable def on1 (g : D → Store → Res) : List D → Store → Res
 | [x], st => g x st
 | _, _ => none
noncomputable def on2 (g : D → D → Store → Res) : List D → Store → Res
 | [x, y], st => g x y st
 | _, _ => none
theorem imp_blt1 {K : PySem.W.Frag} {g : D → Store → Res} (σ : L2.St) (H : Hp) (Q : VK) (h : tE K (seq1 fa g) σ H Q) : tCB (rC K (on1 g)) (tCons (tE K fa) tNil) σ H Q := by
 obtain ⟨ad, ρ, st, d, st', E, S, e, p⟩ := h
 unfold seq1 at e
 split at e
 ·rename_i x st1 q1
  exact ⟨ad, ρ, st, x, st1, E, S, q1, fun v1 ad1 H1 x1 S1 d1 => ⟨ad1, st1, [x], d, st', S1, .cons d1 .nil, e, p.later x1⟩⟩
 ·cases e
theorem imp_blt2 {K : PySem.W.Frag} {g : D → D → Store → Res} (σ : L2.St) (H : Hp) (Q : VK) (h : tE K (seq2 fa fb g) σ H Q) : tCB (rC K (on2 g)) (tCons (tE K fa) (tCons (tE K fb) tNil)) σ H Q := by
 obtain ⟨ad, ρ, st, d, st', E, S, e, p⟩ := h
 unfold seq2 at e
 split at e
 ·rename_i x st1 q1
  split at e
  ·rename_i y st2 q2
   refine ⟨ad, ρ, st, x, st1, E, S, q1, fun v1 ad1 H1 x1 S1 d1 => ⟨ad1, ρ, st1, y, st2, E.mono x1, S1, q2, fun v2 ad2 H2 x2 S2 d2 => ?_⟩⟩
   exact ⟨ad2, st2, [x, y], d, st', S2, .cons (d1.mono x2) (.cons d2 .nil), e, p.later (x1.trans x2)⟩
  ·cases e
 ·cases e
noncomputable def tO (K : PySem.W.Frag) (f : Ev) : TO := fun σ H Q => ∃ ad ρ st d st', EnvOk K ad H σ ρ ∧ StOk K ad H st ∧ f ρ st = some (d, st') ∧
 ((d = .non ∧ ∀ ad' H', Ext ad H ad' H' → StOk K ad' H' st' → Q none H') ∨ ∃ i, d = .int i ∧ ∀ ad' H', Ext ad H ad' H' → StOk K ad' H' st' → Q (some i) H')
def rSl (K : PySem.W.Frag) : V → Option Int → Option Int → Hp → VK → Prop := fun x lo hi H Q => ∃ ad st dx d st', StOk K ad H st ∧ Den K ad H x dx ∧ sliceD dx lo hi st = some (d, st') ∧ Post K ad H d st' Q
noncomputable def part : D → Option (Option Int)
 | .non => some none
 | .int i => some (some i)
 | _ => none
theorem sliceR_cases {x l h : D} {st : Store} {r : D × Store} (e : sliceR x l h st = some r) : ∃ lo hi, part l = some lo ∧ part h = some hi ∧ sliceD x lo hi st = some r := by
 unfold sliceR at e
 split at e
 ·exact ⟨_, _, rfl, rfl, e⟩
 ·exact ⟨_, _, rfl, rfl, e⟩
 ·exact ⟨_, _, rfl, rfl, e⟩
 ·exact ⟨_, _, rfl, rfl, e⟩
 ·cases e
theorem tO_of {K : PySem.W.Frag} {f : Ev} {σ : L2.St} {H : Hp} {Q : Option Int → Hp → Prop} {ad : List Addr} {ρ : Env} {st st' : Store} {d : D} {o : Option Int} (E : EnvOk K ad H σ ρ) (S : StOk K ad H st) (e : f ρ st = some (d, st')) (po : part d = some o)
  (q : ∀ ad' H', Ext ad H ad' H' → StOk K ad' H' st' → Q o H') : tO K f σ H Q := by
 refine ⟨ad, ρ, st, d, st', E, S, e, ?_⟩
 cases d with
 | non => cases po; exact .inl ⟨rfl, q⟩
 | int i => cases po; exact .inr ⟨i, rfl, q⟩
 | _ => cases po
theorem imp_slice {K : PySem.W.Frag} (σ : L2.St) (H : Hp) (Q : VK) (h : tE K (seq3 fa fb fc sliceR) σ H Q) : tSl (rSl K) (tE K fa) (tO K fb) (tO K fc) σ H Q := by
 obtain ⟨ad, ρ, st, d, st', E, S, e, p⟩ := h
 unfold seq3 at e
 split at e
 ·rename_i x st1 q1
  split at e
  ·rename_i y st2 q2
   split at e
   ·rename_i z st3 q3
    obtain ⟨lo, hi, pl, ph, e⟩ := sliceR_cases e
    refine ⟨ad, ρ, st, x, st1, E, S, q1, fun v1 ad1 H1 x1 S1 d1 => tO_of (E.mono x1) S1 q2 pl fun ad2 H2 x2 S2 => tO_of (E.mono (x1.trans x2)) S2 q3 ph fun ad3 H3 x3 S3 => ?_⟩
    exact ⟨ad3, st3, x, d, st', S3, d1.mono (x2.trans x3), e, p.later (x1.trans (x2.trans x3))⟩
   ·cases e
  ·cases e
 ·cases e
theorem imp_nop {K : PySem.W.Frag} (σ : L2.St) (H : Hp) (Q : Option Int → Hp → Prop) (h : tO K (evC .non) σ H Q) : tNoPart σ H Q := by
 obtain ⟨ad, ρ, st, d, st', E, S, e, p⟩ := h
 cases e
 rcases p with ⟨_, p⟩ | ⟨i, z, _⟩
 ·exact p ad H (Ext.refl _ _) S
 ·cases z
end
end Dp



namespace Dp
open PySem PySem.Spec PyProof.Rows L2
variable [ClsTab]
def PostS (K : PySem.W.Frag) (ad : List Addr) (H : Hp) (r : Fl) (st' : Store) (D : Ends) : Prop := match r with
 | .nx ρ' => ∀ σ' ad' H', Ext ad H ad' H' → StOk K ad' H' st' → EnvOk K ad' H' σ' ρ' → D.nx σ' H'
 | .bk ρ' => ∀ σ' ad' H', Ext ad H ad' H' → StOk K ad' H' st' → EnvOk K ad' H' σ' ρ' → D.bk σ' H'
 | .ct ρ' => ∀ σ' ad' H', Ext ad H ad' H' → StOk K ad' H' st' → EnvOk K ad' H' σ' ρ' → D.ct σ' H'
 | .rt d => Post K ad H d st' D.rt
theorem PostS.later {K : PySem.W.Frag} {ad ad' : List Addr} {H H' : Hp} {r : Fl} {st : Store} {D : Ends} (x : Ext ad H ad' H') (p : PostS K ad H r st D) : PostS K ad' H' r st D := by
 cases r with
 | nx ρ => exact fun σ2 a2 H2 y S E => p σ2 a2 H2 (x.trans y) S E
 | bk ρ => exact fun σ2 a2 H2 y S E => p σ2 a2 H2 (x.trans y) S E
 | ct ρ => exact fun σ2 a2 H2 y S E => p σ2 a2 H2 (x.trans y) S E
 | rt d => exact Post.later p x
theorem tS_of {K : PySem.W.Frag} {f : Ex} {D : Ends} {σ : L2.St} {H : Hp} {ad : List Addr} {ρ : Env} {st st' : Store} {r : Fl} (E : EnvOk K ad H σ ρ) (S : StOk K ad H st) (e : f ρ st = some (r, st')) (p : PostS K ad H r st' D) : tS K f D σ H := by
 refine ⟨ad, ρ, st, r, st', E, S, e, ?_⟩
 cases r <;> exact p
theorem of_tS {K : PySem.W.Frag} {f : Ex} {D : Ends} {σ : L2.St} {H : Hp} (h : tS K f D σ H) : ∃ ad ρ st r st', EnvOk K ad H σ ρ ∧ StOk K ad H st ∧ f ρ st = some (r, st') ∧ PostS K ad H r st' D := by
 obtain ⟨ad, ρ, st, r, st', E, S, e, p⟩ := h
 refine ⟨ad, ρ, st, r, st', E, S, e, ?_⟩
 cases r <;> exact p
section
variable {K : PySem.W.Frag} {f g : Ex} {fe fi fk : Ev}
theorem imp_skip (D : Ends) (σ : L2.St) (H : Hp) (h : tS K (fun ρ st => some (.nx ρ, st)) D σ H) : tNext D σ H := by
 obtain ⟨ad, ρ, st, r, st', E, S, e, p⟩ := of_tS h
 cases e
 exact p σ ad H (Ext.refl _ _) S E
theorem imp_brk (D : Ends) (σ : L2.St) (H : Hp) (h : tS K (fun ρ st => some (.bk ρ, st)) D σ H) : tBreak D σ H := by
 obtain ⟨ad, ρ, st, r, st', E, S, e, p⟩ := of_tS h
 cases e
 exact p σ ad H (Ext.refl _ _) S E
theorem imp_cont (D : Ends) (σ : L2.St) (H : Hp) (h : tS K (fun ρ st => some (.ct ρ, st)) D σ H) : tCont D σ H := by
 obtain ⟨ad, ρ, st, r, st', E, S, e, p⟩ := of_tS h
 cases e
 exact p σ ad H (Ext.refl _ _) S E
theorem imp_seq (D : Ends) (σ : L2.St) (H : Hp) (h : tS K (seqS f g) D σ H) : tSeq (tS K f) (tS K g) D σ H := by
 obtain ⟨ad, ρ, st, r, st', E, S, e, p⟩ := of_tS h
 unfold seqS at e
 split at e
 ·rename_i ρ1 st1 q
  exact tS_of E S q fun σ1 ad1 H1 x1 S1 E1 => tS_of E1 S1 e (p.later x1)
 ·rename_i q
  refine tS_of E S e ?_
  cases r with
  | nx ρ1 => exact absurd e (q ρ1 st')
  | bk ρ1 => exact p
  | ct ρ1 => exact p
  | rt d => exact p
theorem imp_ret (D : Ends) (σ : L2.St) (H : Hp) (h : tS K (retS fe) D σ H) : tRet (tE K fe) D σ H := by
 obtain ⟨ad, ρ, st, r, st', E, S, e, p⟩ := of_tS h
 unfold retS at e
 split at e
 ·rename_i d st1 q
  cases e
  exact ⟨ad, ρ, st, d, _, E, S, q, p⟩
 ·cases e
theorem imp_set {i : Nat} (D : Ends) (σ : L2.St) (H : Hp) (h : tS K (setS i fe) D σ H) : tAsg (tE K fe) (gName i) D σ H := by
 obtain ⟨ad, ρ, st, r, st', E, S, e, p⟩ := of_tS h
 unfold setS at e
 split at e
 ·rename_i d st1 q
  cases e
  exact ⟨ad, ρ, st, d, _, E, S, q, fun v ad1 H1 x1 S1 d1 => p _ ad1 H1 x1 S1 ((E.mono x1).set i d1)⟩
 ·cases e
theorem imp_set2 {i j : Nat} (D : Ends) (σ : L2.St) (H : Hp) (h : tS K (set2S i j fe) D σ H) : tAsg (tE K fe) (gTup K 2 (gCons (gName i) (gCons (gName j) gNil))) D σ H := by
 obtain ⟨ad, ρ, st, r, st', E, S, e, p⟩ := of_tS h
 unfold set2S at e
 split at e
 ·rename_i x y st1 q
  cases e
  refine ⟨ad, ρ, st, _, _, E, S, q, fun v ad1 H1 x1 S1 d1 => ?_⟩
  obtain ⟨a, vs, rfl, ha, rv⟩ := d1.ofTup
  cases rv with
  | cons d1 rv =>
   cases rv with
   | cons d2 rv =>
    cases rv
    exact ⟨a, _, rfl, (ha).sq, rfl, _, _, rfl, _, _, rfl, rfl, p _ ad1 H1 x1 S1 (((E.mono x1).set i d1).set j d2)⟩
 ·cases e
theorem imp_set3 {i j l : Nat} (D : Ends) (σ : L2.St) (H : Hp) (h : tS K (set3S i j l fe) D σ H) : tAsg (tE K fe) (gTup K 3 (gCons (gName i) (gCons (gName j) (gCons (gName l) gNil)))) D σ H := by
 obtain ⟨ad, ρ, st, r, st', E, S, e, p⟩ := of_tS h
 unfold set3S at e
 split at e
 ·rename_i x y z st1 q
  cases e
  refine ⟨ad, ρ, st, _, _, E, S, q, fun v ad1 H1 x1 S1 d1 => ?_⟩
  obtain ⟨a, vs, rfl, ha, rv⟩ := d1.ofTup
  cases rv with
  | cons d1 rv =>
   cases rv with
   | cons d2 rv =>
    cases rv with
    | cons d3 rv =>
     cases rv
     exact ⟨a, _, rfl, (ha).sq, rfl, _, _, rfl, _, _, rfl, _, _, rfl, rfl, p _ ad1 H1 x1 S1 ((((E.mono x1).set i d1).set j d2).set l d3)⟩
 ·cases e
theorem imp_act (D : Ends) (σ : L2.St) (H : Hp) (h : tS K (actS fe) D σ H) : tDrop (tE K fe) D σ H := by
 obtain ⟨ad, ρ, st, r, st', E, S, e, p⟩ := of_tS h
 unfold actS at e
 split at e
 ·rename_i d st1 q
  cases e
  exact ⟨ad, ρ, st, d, _, E, S, q, fun v ad1 H1 x1 S1 d1 => p _ ad1 H1 x1 S1 (E.mono x1)⟩
 ·cases e
theorem imp_ite (D : Ends) (σ : L2.St) (H : Hp) (h : tS K (iteS fe f g) D σ H) : tIfS (tT K fe) (tS K f) (tS K g) D σ H := by
 obtain ⟨ad, ρ, st, r, st', E, S, e, p⟩ := of_tS h
 unfold iteS at e
 split at e
 ·rename_i st1 q
  refine ⟨ad, ρ, st, true, st1, E, S, q, fun ad1 H1 x1 S1 => ?_⟩
  dsimp only
  rw [if_pos rfl]
  exact tS_of (E.mono x1) S1 e (p.later x1)
 ·rename_i st1 q
  refine ⟨ad, ρ, st, false, st1, E, S, q, fun ad1 H1 x1 S1 => ?_⟩
  dsimp only
  rw [if_neg Bool.false_ne_true]
  exact tS_of (E.mono x1) S1 e (p.later x1)
 ·cases e
theorem st_has {ad : List Addr} {H : Hp} {st : Store} {i : Nat} {a : Addr} (S : StOk K ad H st) (h : LA ad H i a) : ∃ b ds, st[i]? = some (b, ds) := by
 have hi : i < st.length := by rw [← S.len]; exact (List.getElem?_eq_some_iff.mp h.1).1
 exact ⟨st[i].1, st[i].2, by rw [List.getElem?_eq_getElem hi]⟩
theorem apnd_ok {ad : List Addr} {H : Hp} {st st2 : Store} {i : Nat} {a : Addr} {v : V} {d : D} (S : StOk K ad H st) (h : LA ad H i a) (hd : Den K ad H v d) (e : apnd i d st = some st2) :
  ∃ xs, H a = some (.lst xs) ∧ xs.length < sizeLine ∧ Ext ad H ad (upd H a (.lst (xs ++ [v]))) ∧ StOk K ad (upd H a (.lst (xs ++ [v]))) st2 := by
 unfold apnd at e
 split at e
 ·rename_i ds q
  split at e
  ·rename_i hz
   cases e
   obtain ⟨xs, r, hx⟩ := S.listM h q
   refine ⟨xs, hx, ?_, Ext.write hx (List.mem_of_getElem? h.1), S.write h q hx (r.append (.cons hd .nil))⟩
   rw [r.length]
   exact Nat.lt_of_lt_of_le hz (by decide)
  ·cases e
 ·cases e
theorem imp_app {i : Nat} (D : Ends) (σ : L2.St) (H : Hp) (h : tS K (appS i fe) D σ H) : tDrop (tBM K "list" rAppend (tVar i) (tCons (tE K fe) tNil)) D σ H := by
 obtain ⟨ad, ρ, st, r, st', E, S, e, p⟩ := of_tS h
 unfold appS at e
 split at e
 ·rename_i a q0
  split at e
  ·rename_i d st1 q1
   split at e
   ·rename_i st2 q2
    cases e
    obtain ⟨v, e1, e2⟩ := E.at_ i _ q0
    obtain ⟨l, rfl, hl⟩ := e2.ofLst
    obtain ⟨b, ds, hc⟩ := st_has S hl
    obtain ⟨xs, _, sq⟩ := S.list hl hc
    refine ⟨_, e1, .inl ⟨rfl, xs, sq⟩, ad, ρ, st, d, st1, E, S, q1, fun w ad1 H1 x1 S1 d1 => ?_⟩
    obtain ⟨ys, hy, hz, x2, S2⟩ := apnd_ok S1 (hl.mono x1) d1 q2
    exact ⟨l, ys, w, rfl, rfl, hy, hz, p _ ad1 _ (x1.trans x2) S2 (E.mono (x1.trans x2))⟩
   ·cases e
  ·cases e
 ·cases e
theorem imp_app2 {fo : Ev} (D : Ends) (σ : L2.St) (H : Hp) (h : tS K (app2S fo fe) D σ H) : tDrop (tBM K "list" rAppend (tE K fo) (tCons (tE K fe) tNil)) D σ H := by
 obtain ⟨ad, ρ, st, r, st', E, S, e, p⟩ := of_tS h
 unfold app2S at e
 split at e
 ·rename_i a st0 q0
  split at e
  ·rename_i d st1 q1
   split at e
   ·rename_i st2 q2
    cases e
    refine ⟨ad, ρ, st, .lst a, st0, E, S, q0, fun v ad0 H0 x0 S0 d0 => ?_⟩
    obtain ⟨l, rfl, hl⟩ := d0.ofLst
    obtain ⟨b, ds, hc⟩ := st_has S0 hl
    obtain ⟨xs, _, sq⟩ := S0.list hl hc
    refine ⟨.inl ⟨rfl, xs, sq⟩, ad0, ρ, st0, d, st1, E.mono x0, S0, q1, fun w ad1 H1 x1 S1 d1 => ?_⟩
    obtain ⟨ys, hy, hz, x2, S2⟩ := apnd_ok S1 (hl.mono x1) d1 q2
    exact ⟨l, ys, w, rfl, rfl, hy, hz, p _ ad1 _ ((x0.trans x1).trans x2) S2 (E.mono ((x0.trans x1).trans x2))⟩
   ·cases e
  ·cases e
 ·cases e
theorem imp_ext {i : Nat} (D : Ends) (σ : L2.St) (H : Hp) (h : tS K (extS i fe) D σ H) : tDrop (tBM K "list" rExtend (tVar i) (tCons (tE K fe) tNil)) D σ H := by
 obtain ⟨ad, ρ, st, r, st', E, S, e, p⟩ := of_tS h
 unfold extS at e
 split at e
 ·rename_i a q0
  split at e
  ·rename_i b st1 q1
   split at e
   ·rename_i st2 q2
    cases e
    obtain ⟨v, e1, e2⟩ := E.at_ i _ q0
    obtain ⟨l, rfl, hl⟩ := e2.ofLst
    obtain ⟨bb, ds, hc⟩ := st_has S hl
    obtain ⟨xs, _, sq⟩ := S.list hl hc
    refine ⟨_, e1, .inl ⟨rfl, xs, sq⟩, ad, ρ, st, .lst b, st1, E, S, q1, fun w ad1 H1 x1 S1 d1 => ?_⟩
    obtain ⟨m, rfl, hm⟩ := d1.ofLst
    unfold exnd at q2
    split at q2
    ·rename_i cs es f1 f2
     split at q2
     ·rename_i hz
      cases q2
      have hl1 := hl.mono x1
      obtain ⟨ys, ry, hy⟩ := S1.listM hl1 f1
      obtain ⟨zs, rz, hzz⟩ := S1.listM hm f2
      have x2 := Ext.write (ys := ys ++ zs) hy (List.mem_of_getElem? hl1.1)
      refine ⟨l, m, ys, zs, rfl, rfl, hy, hzz, ?_, p _ ad1 _ (x1.trans x2) (S1.write hl1 f1 hy (ry.append rz)) (E.mono (x1.trans x2))⟩
      rw [ry.length, rz.length]
      exact Nat.le_trans hz (by decide)
     ·cases q2
    ·cases q2
   ·cases e
  ·cases e
 ·cases e
theorem imp_put {i : Nat} (D : Ends) (σ : L2.St) (H : Hp) (h : tS K (putS i fk fe) D σ H) : tAsg (tE K fe) (gSub (tVar i) (tE K fk) rSetL) D σ H := by
 obtain ⟨ad, ρ, st, r, st', E, S, e, p⟩ := of_tS h
 unfold putS at e
 split at e
 ·rename_i d st1 q1
  split at e
  ·rename_i a q0
   split at e
   ·rename_i j st2 q2
    split at e
    ·rename_i st3 q3
     cases e
     obtain ⟨v, e1, e2⟩ := E.at_ i _ q0
     obtain ⟨l, rfl, hl⟩ := e2.ofLst
     refine ⟨ad, ρ, st, d, st1, E, S, q1, fun w ad1 H1 x1 S1 d1 => ⟨_, e1, ad1, ρ, st1, .int j, st2, E.mono x1, S1, q2, fun w2 ad2 H2 x2 S2 d2 => ?_⟩⟩
     cases d2.ofInt
     unfold storeAt at q3
     split at q3
     ·rename_i ds q4
      split at q3
      ·rename_i k q5
       cases q3
       have hl2 := hl.mono (x1.trans x2)
       obtain ⟨xs, r, hx⟩ := S2.listM hl2 q4
       have x3 : Ext ad2 H2 ad2 (upd H2 l (.lst (xs.set k w))) := Ext.write hx (List.mem_of_getElem? hl2.1)
       refine ⟨l, xs, j, k, rfl, rfl, hx, ?_, p _ ad2 _ (x1.trans (x2.trans x3)) (S2.write hl2 q4 hx (r.set (d1.mono x2) k)) (E.mono (x1.trans (x2.trans x3)))⟩
       rw [r.length]
       exact q5
      ·cases q3
     ·cases q3
    ·cases e
   ·cases e
  ·cases e
 ·cases e
def Left (K : PySem.W.Frag) (b : D → Env → Store → Option (Fl × Store)) (E : Ends) (xs : List D) (σ : L2.St) (H : Hp) : Prop := ∃ ad ρ st r st', EnvOk K ad H σ ρ ∧ StOk K ad H st ∧ loopD b xs ρ st = some (r, st') ∧ PostS K ad H r st' E
theorem Left.turn {i : Nat} {b : Ex} {E : Ends} {x : D} {xs : List D} {σ : L2.St} {H : Hp} {v : V} (hv : ∀ ad H, Den K ad H v x) (h : Left K (fun d ρ s => b (setE ρ i d) s) E (x :: xs) σ H) :
  tS K b { E with nx := Left K (fun d ρ s => b (setE ρ i d) s) E xs, ct := Left K (fun d ρ s => b (setE ρ i d) s) E xs, bk := E.nx } (σ.set i (some v)) H := by
 obtain ⟨ad, ρ, st, r, st', En, S, e, p⟩ := h
 unfold loopD at e
 have En2 := En.set i (hv ad H)
 split at e
 ·rename_i ρ1 st1 q
  exact tS_of En2 S q fun σ1 ad1 H1 x1 S1 E1 => ⟨ad1, ρ1, st1, r, st', E1, S1, e, p.later x1⟩
 ·rename_i ρ1 st1 q
  exact tS_of En2 S q fun σ1 ad1 H1 x1 S1 E1 => ⟨ad1, ρ1, st1, r, st', E1, S1, e, p.later x1⟩
 ·rename_i ρ1 st1 q
  cases e
  exact tS_of En2 S q fun σ1 ad1 H1 x1 S1 E1 => p σ1 ad1 H1 x1 S1 E1
 ·rename_i d st1 q
  cases e
  exact tS_of En2 S q p
 ·cases e
theorem Left.turnD {i : Nat} {b : Ex} {E : Ends} {x : D} {xs : List D} {σ : L2.St} {H : Hp} {ad : List Addr} {ρ : Env} {st st' : Store} {r : Fl} {v : V} (En : EnvOk K ad H σ ρ) (S : StOk K ad H st) (hv : Den K ad H v x)
  (e : loopD (fun d ρ s => b (setE ρ i d) s) (x :: xs) ρ st = some (r, st')) (p : PostS K ad H r st' E) (L : L2.St → Hp → Prop)
  (hL : ∀ σ1 ad1 H1 ρ1 st1, Ext ad H ad1 H1 → StOk K ad1 H1 st1 → EnvOk K ad1 H1 σ1 ρ1 → loopD (fun d ρ s => b (setE ρ i d) s) xs ρ1 st1 = some (r, st') → L σ1 H1) :
  tS K b { E with nx := L, ct := L, bk := E.nx } (σ.set i (some v)) H := by
 unfold loopD at e
 have En2 := En.set i hv
 split at e
 ·rename_i ρ1 st1 q
  exact tS_of En2 S q fun σ1 ad1 H1 x1 S1 E1 => hL σ1 ad1 H1 ρ1 st1 x1 S1 E1 e
 ·rename_i ρ1 st1 q
  exact tS_of En2 S q fun σ1 ad1 H1 x1 S1 E1 => hL σ1 ad1 H1 ρ1 st1 x1 S1 E1 e
 ·rename_i ρ1 st1 q
  cases e
  exact tS_of En2 S q fun σ1 ad1 H1 x1 S1 E1 => p σ1 ad1 H1 x1 S1 E1
 ·rename_i d st1 q
  cases e
  exact tS_of En2 S q p
 ·cases e
theorem Left.done {b : D → Env → Store → Option (Fl × Store)} {E : Ends} {σ : L2.St} {H : Hp} (h : Left K b E [] σ H) : E.nx σ H := by
 obtain ⟨ad, ρ, st, r, st', En, S, e, p⟩ := h
 cases e
 exact p σ ad H (Ext.refl _ _) S En
theorem range_drop (n k : Nat) (h : k < n) : ((List.range n).map fun (j : Nat) => D.int (j : Int)).drop k = D.int (k : Int) :: ((List.range n).map fun (j : Nat) => D.int (j : Int)).drop (k + 1) := by
 rw [List.drop_eq_getElem_cons (by simpa using h)]
 simp
theorem imp_forR {i : Nat} (E : Ends) (σ : L2.St) (H : Hp) (h : tS K (forS i true fi f) E σ H) : tFor (iRng1 (tCons (tE K fi) tNil)) (gName i) (tS K f) E σ H := by
 obtain ⟨ad, ρ, st, r, st', En, S, e, p⟩ := of_tS h
 unfold forS at e
 split at e
 ·rename_i x st1 q1
  cases x with
  | int n =>
   have e : (match (if n < 2 ^ 62 ∧ -(2 ^ 62) ≤ n then some ((List.range n.toNat).map fun (k : Nat) => D.int (k : Int)) else none) with
    | some xs => loopD (fun d ρ s => f (setE ρ i d) s) xs ρ st1
    | none => none) = some (r, st') := e
   by_cases hn : n < 2 ^ 62 ∧ -(2 ^ 62) ≤ n
   ·rw [if_pos hn] at e
    refine ⟨ad, ρ, st, .int n, st1, En, S, q1, fun v ad1 H1 x1 S1 d1 => ⟨n, by rw [d1.ofInt], hn.2, hn.1, ?_⟩⟩
    refine for_range (fun k σ' H' => Left K (fun d ρ s => f (setE ρ i d) s) E (((List.range n.toNat).map fun (k : Nat) => D.int (k : Int)).drop k) σ' H') ⟨ad1, ρ, st1, r, st', En.mono x1, S1, e, p.later x1⟩ (fun k σ' H' hk L => ?_) fun σ' H' L => ?_
    ·rw [range_drop _ _ hk] at L
     have z : (0 : Int) + (k : Int) = (k : Int) := Int.zero_add _
     rw [z]
     exact L.turn fun _ _ => .int _
    ·rw [List.drop_eq_nil_of_le (by simp)] at L
     exact L.done
   ·rw [if_neg hn] at e
    cases e
  | _ => simp [itemsD] at e
 ·cases e
def LeftT (K : PySem.W.Frag) (b : D → Env → Store → Option (Fl × Store)) (E : Ends) (a : Addr) (vs : List V) (xs : List D) (k : Nat) (σ : L2.St) (H : Hp) : Prop :=
 ∃ ad ρ st r st', EnvOk K ad H σ ρ ∧ StOk K ad H st ∧ (TupAt K H a vs ∧ Dens K ad H vs xs) ∧ loopD b (xs.drop k) ρ st = some (r, st') ∧ PostS K ad H r st' E
theorem imp_forT {i : Nat} (E : Ends) (σ : L2.St) (H : Hp) {ad : List Addr} {ρ : Env} {st st1 st' : Store} {r : Fl} {xs : List D} (En : EnvOk K ad H σ ρ) (S : StOk K ad H st) (q1 : fi ρ st = some (.tup xs, st1))
  (e : loopD (fun d ρ s => f (setE ρ i d) s) xs ρ st1 = some (r, st')) (p : PostS K ad H r st' E) : tFor (iTup K (tE K fi)) (gName i) (tS K f) E σ H := by
 refine ⟨ad, ρ, st, .tup xs, st1, En, S, q1, fun v ad1 H1 x1 S1 d1 => ?_⟩
 obtain ⟨a, vs, rfl, ha, rv⟩ := d1.ofTup
 refine ⟨a, rfl, ⟨vs, (ha).sq⟩, ?_⟩
 refine for_tup (xs := vs) (fun k σ' H' => LeftT K (fun d ρ s => f (setE ρ i d) s) E a vs xs k σ' H') ⟨ad1, ρ, st1, r, st', En.mono x1, S1, ⟨ha, rv⟩, by rw [List.drop_zero]; exact e, p.later x1⟩ (fun k σ' H' _ L => ?_) (fun k y σ' H' hk L => ?_) fun σ' H' L => ?_
 ·obtain ⟨_, _, _, _, _, _, _, ⟨h, _⟩, _⟩ := L
  exact (h).sq
 ·obtain ⟨ad2, ρ2, st2, r2, st2', En2, S2, ⟨h2, rv2⟩, e2, p2⟩ := L
  have hk' : k < xs.length := by rw [← rv2.length]; exact (List.getElem?_eq_some_iff.mp hk).1
  have hx : xs[k]? = some xs[k] := List.getElem?_eq_getElem hk'
  obtain ⟨w, ew, dw⟩ := rv2.get hx
  rw [hk] at ew; cases ew
  rw [List.drop_eq_getElem_cons hk'] at e2
  exact Left.turnD En2 S2 dw e2 p2 _ fun σ3 ad3 H3 ρ3 st3 x3 S3 E3 e3 => ⟨ad3, ρ3, st3, r2, st2', E3, S3, ⟨h2.mono x3, rv2.mono x3⟩, e3, p2.later x3⟩
 ·obtain ⟨ad2, ρ2, st2, r2, st2', En2, S2, ⟨h2, rv2⟩, e2, p2⟩ := L
  rw [rv2.length, List.drop_length] at e2
  exact Left.done ⟨ad2, ρ2, st2, r2, st2', En2, S2, e2, p2⟩
theorem imp_forL {G : TG} {B : D → Env → Store → Option (Fl × Store)} (E : Ends) (σ : L2.St) (H : Hp) {ad : List Addr} {ρ : Env} {st st1 st' : Store} {r : Fl} {l : Nat} {bb : Bool} {xs : List D} (En : EnvOk K ad H σ ρ) (S : StOk K ad H st) (q1 : fi ρ st = some (.lst l, st1))
  (q2 : st1[l]? = some (bb, xs)) (e : loopL B l xs.length 0 ρ st1 = some (r, st')) (p : PostS K ad H r st' E)
  (hG : ∀ (x : D) (v : V) (σ : L2.St) (H : Hp) (ad : List Addr) (ρ : Env) (st st1 : Store) (r1 : Fl) (E' : Ends), EnvOk K ad H σ ρ → StOk K ad H st → Den K ad H v x → B x ρ st = some (r1, st1) → PostS K ad H r1 st1 E' → G v σ H fun σ2 H2 => tS K f E' σ2 H2) :
  tFor (iList K (tE K fi)) G (tS K f) E σ H := by
 refine ⟨ad, ρ, st, .lst l, st1, En, S, q1, fun v ad1 H1 x1 S1 d1 => ?_⟩
 obtain ⟨a, rfl, ha⟩ := d1.ofLst
 obtain ⟨vs, rv, sq⟩ := S1.list ha q2
 refine ⟨a, rfl, ⟨vs, sq⟩, ?_⟩
 refine ⟨fun k m σ' H' => ∃ ad2 ρ2 st2, (EnvOk K ad2 H' σ' ρ2 ∧ StOk K ad2 H' st2 ∧ LA ad2 H' l a) ∧ loopL B l m k ρ2 st2 = some (r, st') ∧ PostS K ad2 H' r st' E, ⟨xs.length, ad1, ρ, st1, ⟨En.mono x1, S1, ha⟩, e, p.later x1⟩, ?_⟩
 rintro k m σ' H' ⟨ad2, ρ2, st2, ⟨En2, S2, ha2⟩, e2, p2⟩
 obtain ⟨b2, ys, hc⟩ := st_has S2 ha2
 obtain ⟨ws, rw', sq2⟩ := S2.list ha2 hc
 have stop : ys.length ≤ k → loopL B l m k ρ2 st2 = some (.nx ρ2, st2) := fun hk => by
  cases m with
  | zero => unfold loopL; simp only [hc]; rw [if_pos hk]
  | succ m => unfold loopL; simp only [hc, List.getElem?_eq_none hk]
 by_cases hk : ys.length ≤ k
 ·refine .inl ⟨⟨ws, sq2, by rw [rw'.length]; exact hk⟩, ?_⟩
  rw [stop hk] at e2
  cases e2
  exact p2 σ' ad2 H' (Ext.refl _ _) S2 En2
 ·have hk' : k < ys.length := by omega
  have hy : ys[k]? = some ys[k] := List.getElem?_eq_getElem hk'
  obtain ⟨w, ew, dw⟩ := rw'.get hy
  cases m with
  | zero =>
   unfold loopL at e2
   simp only [hc] at e2
   rw [if_neg hk] at e2
   cases e2
  | succ m =>
   unfold loopL at e2
   simp only [hc, hy] at e2
   refine .inr ⟨⟨ws, w, sq2, ew⟩, fun σ3 H3 => ∃ ad3 ρ3 st3, (EnvOk K ad3 H3 σ3 ρ3 ∧ StOk K ad3 H3 st3 ∧ LA ad3 H3 l a) ∧ loopL B l m (k + 1) ρ3 st3 = some (r, st') ∧ PostS K ad3 H3 r st' E, fun σ3 H3 h3 => ⟨m, Nat.lt_succ_self m, h3⟩, fun x H3 hx => ?_⟩
   obtain ⟨rfl, hx⟩ := hx
   have ex := hx ws sq2
   rw [ew] at ex; cases ex
   split at e2
   ·rename_i ρ3 st3 q
    exact hG _ _ _ _ ad2 ρ2 st2 _ _ _ En2 S2 dw q fun σ4 ad4 H4 x4 S4 E4 => ⟨ad4, ρ3, st3, ⟨E4, S4, ha2.mono x4⟩, e2, p2.later x4⟩
   ·rename_i ρ3 st3 q
    exact hG _ _ _ _ ad2 ρ2 st2 _ _ _ En2 S2 dw q fun σ4 ad4 H4 x4 S4 E4 => ⟨ad4, ρ3, st3, ⟨E4, S4, ha2.mono x4⟩, e2, p2.later x4⟩
   ·rename_i ρ3 st3 q
    cases e2
    exact hG _ _ _ _ ad2 ρ2 st2 _ _ _ En2 S2 dw q fun σ4 ad4 H4 x4 S4 E4 => p2 σ4 ad4 H4 x4 S4 E4
   ·rename_i d st3 q
    cases e2
    exact hG _ _ _ _ ad2 ρ2 st2 _ _ _ En2 S2 dw q p2
   ·cases e2
theorem imp_forN {i : Nat} (E : Ends) (σ : L2.St) (H : Hp) (h : tS K (forS i false fi f) E σ H) : tFor (iTup K (tE K fi)) (gName i) (tS K f) E σ H ∨ tFor (iList K (tE K fi)) (gName i) (tS K f) E σ H := by
 obtain ⟨ad, ρ, st, r, st', En, S, e, p⟩ := of_tS h
 unfold forS at e
 split at e
 ·rename_i x st1 q1
  cases x with
  | tup xs => exact .inl (imp_forT E σ H En S q1 e p)
  | lst l =>
   have e : (match st1[l]? with
    | some (_, xs) => loopL (fun d ρ s => f (setE ρ i d) s) l xs.length 0 ρ st1
    | none => none) = some (r, st') := e
   split at e
   ·rename_i bb xs q2
    refine .inr (imp_forL E σ H En S q1 q2 e p fun x v σ H ad ρ st st1 r1 E' En S dv e1 p1 => ?_)
    exact tS_of (En.set i dv) S e1 p1
   ·cases e
  | _ => simp [itemsD] at e
 ·cases e
inductive LK (K : PySem.W.Frag) (ok : Store → Prop) (B : D → D → Env → Store → Option (Fl × Store)) (qs : List (D × D)) (Good : List Addr → Hp → Prop) (r : Fl) (st' : Store) (E : Ends) (k m : Nat) (σ : L2.St) (H : Hp) : Prop
 | mk {ad : List Addr} {ρ : Env} {st : Store} (hk : k + m = qs.length) (En : EnvOk K ad H σ ρ) (S : StOk K ad H st) (g : Good ad H) (e : loopK ok B (qs.drop k) ρ st = some (r, st')) (p : PostS K ad H r st' E) : LK K ok B qs Good r st' E k m σ H
end
end Dp



namespace Dp
open PySem PySem.Spec PyProof.Rows L2
variable [ClsTab]
mutual
theorem beqD_eq : ∀ {x y : D}, beqD x y = true → x = y
 | .non, y, h => by cases y <;> simp [beqD] at h ⊢
 | .bl a, y, h => by cases y <;> simp [beqD] at h ⊢; exact h
 | .int a, y, h => by cases y <;> simp [beqD] at h ⊢; exact h
 | .str a, y, h => by cases y <;> simp [beqD] at h ⊢; exact h
 | .tup a, y, h => by
  cases y with
  | tup b => rw [beqDs_eq (x := a) (y := b) (by simpa [beqD] using h)]
  | _ => simp [beqD] at h
 | .lst a, y, h => by cases y <;> simp [beqD] at h
 | .dct a b, y, h => by cases y <;> simp [beqD] at h
 | .obj a, y, h => by cases y <;> simp [beqD] at h
 | .kt a, y, h => by cases y <;> simp [beqD] at h
 | .dic a, y, h => by cases y <;> simp [beqD] at h
theorem beqDs_eq : ∀ {x y : List D}, beqDs x y = true → x = y
 | [], y, h => by cases y <;> simp [beqDs] at h ⊢
 | a :: x, y, h => by
  cases y with
  | nil => simp [beqDs] at h
  | cons b y =>
   have h : (beqD a b && beqDs x y) = true := h
   rw [Bool.and_eq_true] at h
   rw [beqD_eq h.1, beqDs_eq h.2]
end
mutual
theorem beqD_self : ∀ {n : Nat} {x : D}, okD n x = true → beqD x x = true
 | _, .non, _ => rfl
 | _, .bl a, _ => by simp [beqD]
 | _, .int a, _ => by simp [beqD]
 | _, .str a, _ => by simp [beqD]
 | 0, .tup a, h => by simp [okD] at h
 | n + 1, .tup a, h => beqDs_self (n := n) (x := a) h
 | _, .lst a, h => by simp [okD] at h
 | _, .dct a b, h => by simp [okD] at h
 | _, .obj a, h => by simp [okD] at h
 | _, .kt a, h => by simp [okD] at h
 | _, .dic a, h => by simp [okD] at h
theorem beqDs_self : ∀ {n : Nat} {x : List D}, okDs n x = true → beqDs x x = true
 | _, [], _ => rfl
 | n, a :: x, h => by
  have h : (okD n a && okDs n x) = true := h
  rw [Bool.and_eq_true] at h
  show (beqD a a && beqDs x x) = true
  rw [beqD_self h.1, beqDs_self h.2]
  rfl
end
theorem okDs_get : ∀ {n : Nat} {xs : List D} {i : Nat} {d : D}, okDs n xs = true → xs[i]? = some d → okD n d = true
 | _, [], _, _, _, e => by simp at e
 | n, x :: xs, i, d, h, e => by
  have h : (okD n x && okDs n xs) = true := h
  rw [Bool.and_eq_true] at h
  cases i with
  | zero => simp at e; subst e; exact h.1
  | succ i => exact okDs_get (i := i) h.2 (by simpa using e)
theorem beqDs_all : ∀ {xs ys : List D}, beqDs xs ys = ((List.range (min xs.length ys.length)).all (fun i => beqD ((xs[i]?).getD .non) ((ys[i]?).getD .non)) && xs.length == ys.length)
 | [], [] => rfl
 | [], _ :: _ => by simp [beqDs]
 | _ :: _, [] => by simp [beqDs]
 | x :: xs, y :: ys => by
  have ih := @beqDs_all xs ys
  show (beqD x y && beqDs xs ys) = _
  rw [ih]
  have e : min (x :: xs).length (y :: ys).length = min xs.length ys.length + 1 := by simp only [List.length_cons]; omega
  rw [e, List.range_succ_eq_map, List.all_cons, List.all_map]
  simp only [List.length_cons]
  have z : (xs.length + 1 == ys.length + 1) = (xs.length == ys.length) := by
   rw [Bool.eq_iff_iff]; simp
  rw [z, Bool.and_assoc]
  rfl
section
variable {X : Cx} {ad : List Addr} {H : Hp}
def InjP (X : Cx) (ad : List Addr) (H : Hp) (v : V) (x : D) : Prop := ∀ n m y, okD n x = true → okD m y = true → Den X.K ad H v y → x = y
theorem no_ok {n : Nat} {x : D} {P : Prop} (h : okD n x = true) (h0 : ∀ n, okD n x = false) : P := by rw [h0] at h; cases h
theorem ok_lst (i n : Nat) : okD n (.lst i) = false := by cases n <;> rfl
theorem ok_dct (ks : List Str) (vs : List D) (n : Nat) : okD n (.dct ks vs) = false := by cases n <;> rfl
theorem ok_dic (i n : Nat) : okD n (.dic i) = false := by cases n <;> rfl
theorem ok_obj (i n : Nat) : okD n (.obj i) = false := by cases n <;> rfl
theorem ok_kt (ks : List Str) (n : Nat) : okD n (.kt ks) = false := by cases n <;> rfl
theorem ok_tup {n : Nat} {xs : List D} (h : okD n (.tup xs) = true) : ∃ m, okDs m xs = true := by
 cases n with
 | zero => cases h
 | succ n => exact ⟨n, h⟩
theorem Den.injP (J : ∀ (a : Addr) (xs ys : List V), TupAt X.K H a xs → TupAt X.K H a ys → xs = ys) {v : V} {x : D} (h : Den X.K ad H v x) : InjP X ad H v x :=
 Den.rec (motive_1 := fun v x _ => InjP X ad H v x) (motive_2 := fun vs xs _ => ∀ n m ys, okDs n xs = true → okDs m ys = true → Dens X.K ad H vs ys → xs = ys)
  (fun _ _ _ _ _ h => by cases h; rfl) (fun _ _ _ _ _ _ h => by cases h; rfl) (fun _ _ _ _ _ _ h => by cases h; rfl) (fun _ _ _ _ _ _ h => by cases h; rfl)
  (fun e _ ih n m y hx hy h => by
   obtain ⟨n', hx⟩ := ok_tup hx
   cases h with
   | tup e' r' =>
    cases J _ _ _ e e'
    obtain ⟨m', hy⟩ := ok_tup hy
    rw [ih n' m' _ hx hy r']
   | lst _ => exact no_ok hy (ok_lst _)
   | dic _ _ => exact no_ok hy (ok_dic _)
   | dct _ _ _ _ _ => exact no_ok hy (ok_dct _ _)
   | obj _ _ => exact no_ok hy (ok_obj _)
   | kt _ _ _ _ _ _ => exact no_ok hy (ok_kt _))
  (fun _ _ _ _ hx _ _ => no_ok hx (ok_lst _)) (fun _ _ _ _ _ hx _ _ => no_ok hx (ok_dic _)) (fun _ _ _ _ _ _ _ _ _ hx _ _ => no_ok hx (ok_dct _ _)) (fun _ _ _ _ _ hx _ _ => no_ok hx (ok_obj _)) (fun _ _ _ _ _ _ _ _ _ hx _ _ => no_ok hx (ok_kt _))
  (fun _ _ _ _ _ h => by cases h; rfl)
  (fun _ _ i1 i2 n m ys hx hy h => by
   cases h with
   | cons a' r' =>
    have hx := Bool.and_eq_true_iff.mp hx
    have hy := Bool.and_eq_true_iff.mp hy
    rw [i1 n m _ hx.1 hy.1 a', i2 n m _ hx.2 hy.2 r']) h
theorem Den.inj (J : ∀ (a : Addr) (xs ys : List V), TupAt X.K H a xs → TupAt X.K H a ys → xs = ys) {n m : Nat} {v : V} {x y : D} (hx : okD n x = true) (hy : okD m y = true) (h : Den X.K ad H v x) (h' : Den X.K ad H v y) : x = y := h.injP J n m y hx hy h'
theorem Dens.inj (J : ∀ (a : Addr) (xs ys : List V), TupAt X.K H a xs → TupAt X.K H a ys → xs = ys) {n m : Nat} {vs : List V} {xs ys : List D} (hx : okDs n xs = true) (hy : okDs m ys = true) (h : Dens X.K ad H vs xs) (h' : Dens X.K ad H vs ys) : xs = ys := by
 induction vs generalizing xs ys with
 | nil => cases h; cases h'; rfl
 | cons v vs ih =>
  cases h with
  | cons a r => cases h' with
   | cons a' r' =>
    have hx := Bool.and_eq_true_iff.mp hx
    have hy := Bool.and_eq_true_iff.mp hy
    rw [a.inj J hx.1 hy.1 a', ih hx.2 hy.2 r r']
open PySem.SeqAt in
theorem eqAt_D {pins : List (Addr × Obj)} {σ : L2.St} {s : Shared} (I : Inv X pins σ H s) : ∀ (n : Nat) (x y : D) (A : Around) (vx vy : V) (ux uy : Value), okD n x = true → okD n y = true → A.units + n < cLine → Den X.K ad H vx x → Den X.K ad H vy y → RelV vx ux → RelV vy uy → EqAt A s ux uy (beqD x y) := by
 intro n
 induction n with
 | zero =>
  intro x y A vx vy ux uy hx hy hu dx dy rx ry
  cases dx with
  | non =>
   cases rx
   cases dy with
   | non => cases ry; exact EqAt.same _
   | int j => obtain ⟨t', rfl⟩ := ry; exact EqAt.none_int j t'
   | str j => obtain ⟨t', rfl⟩ := ry; exact EqAt.none_str j t'
   | _ => simp [okD] at hy
  | int i =>
   obtain ⟨t, rfl⟩ := rx
   cases dy with
   | non => cases ry; exact EqAt.int_none i t
   | int j => obtain ⟨t', rfl⟩ := ry; exact (show beqD (.int i) (.int j) = (i == j) from by rw [Bool.eq_iff_iff]; simp [beqD]) ▸ EqAt.int_int i t j t'
   | str j => obtain ⟨t', rfl⟩ := ry; exact EqAt.int_str i t j t'
   | _ => simp [okD] at hy
  | str i =>
   obtain ⟨t, rfl⟩ := rx
   cases dy with
   | non => cases ry; exact EqAt.str_none i t
   | int j => obtain ⟨t', rfl⟩ := ry; exact EqAt.str_int i t j t'
   | str j => obtain ⟨t', rfl⟩ := ry; exact (show beqD (.str i) (.str j) = (i == j) from by rw [Bool.eq_iff_iff]; simp [beqD]) ▸ EqAt.str_str i t j t'
   | _ => simp [okD] at hy
  | _ => simp [okD] at hx
 | succ n ih =>
  intro x y A vx vy ux uy hx hy hu dx dy rx ry
  cases dx with
  | non =>
   cases rx
   cases dy with
   | non => cases ry; exact EqAt.same _
   | int j => obtain ⟨t', rfl⟩ := ry; exact EqAt.none_int j t'
   | str j => obtain ⟨t', rfl⟩ := ry; exact EqAt.none_str j t'
   | tup e r =>
    cases ry
    obtain ⟨its, _, p, _⟩ := I.tuple ((e).sq)
    exact EqAt.none_tuple p (by omega)
   | _ => simp [okD] at hy
  | int i =>
   obtain ⟨t, rfl⟩ := rx
   cases dy with
   | non => cases ry; exact EqAt.int_none i t
   | int j => obtain ⟨t', rfl⟩ := ry; exact (show beqD (.int i) (.int j) = (i == j) from by rw [Bool.eq_iff_iff]; simp [beqD]) ▸ EqAt.int_int i t j t'
   | str j => obtain ⟨t', rfl⟩ := ry; exact EqAt.int_str i t j t'
   | tup e r =>
    cases ry
    obtain ⟨its, _, p, _⟩ := I.tuple ((e).sq)
    exact EqAt.int_tuple i t p (by omega)
   | _ => simp [okD] at hy
  | str i =>
   obtain ⟨t, rfl⟩ := rx
   cases dy with
   | non => cases ry; exact EqAt.str_none i t
   | int j => obtain ⟨t', rfl⟩ := ry; exact EqAt.str_int i t j t'
   | str j => obtain ⟨t', rfl⟩ := ry; exact (show beqD (.str i) (.str j) = (i == j) from by rw [Bool.eq_iff_iff]; simp [beqD]) ▸ EqAt.str_str i t j t'
   | tup e r =>
    cases ry
    obtain ⟨its, _, p, _⟩ := I.tuple ((e).sq)
    exact EqAt.str_tuple i t p (by omega)
   | _ => simp [okD] at hy
  | @tup a xs ds e r =>
   cases rx
   obtain ⟨its, rv, p, _⟩ := I.tuple ((e).sq)
   cases dy with
   | non => cases ry; exact EqAt.tuple_none p (by omega)
   | int j => obtain ⟨t', rfl⟩ := ry; exact EqAt.tuple_int j t' p (by omega)
   | str j => obtain ⟨t', rfl⟩ := ry; exact EqAt.tuple_str j t' p (by omega)
   | @tup b ys es e' r' =>
    cases ry
    by_cases hab : a = b
    ·subst hab
     have z := Den.inj (fun _ _ _ e e2 => I.tuple_inj e.sq e2.sq) (n := n + 1) (m := n + 1) hx hy (Den.tup e r) (Den.tup e' r')
     cases z
     rw [beqD_self hx]
     exact EqAt.same _
    ·obtain ⟨its', rv', p', _⟩ := I.tuple ((e').sq)
     refine EqAt.of_refs hab ?_
     have q := RcAt.tuples (A := A) (s := s) (e := fun i => beqD ((ds[i]?).getD .non) ((es[i]?).getD .non)) p p' (by omega) fun j h1 h2 => ?_
     ·have e1 : its.toArray.size = ds.length := by rw [List.size_toArray, ← rv.length, r.length]
      have e2 : its'.toArray.size = es.length := by rw [List.size_toArray, ← rv'.length, r'.length]
      rw [e1, e2] at q
      show RcAt A s (.ref a) (.ref b) (beqDs ds es)
      rw [beqDs_all]
      exact q
     ·have l1 : j < ds.length := by rw [← r.length, rv.length]; simpa using h1
      have l2 : j < es.length := by rw [← r'.length, rv'.length]; simpa using h2
      have g1 : ds[j]? = some ds[j] := List.getElem?_eq_getElem l1
      have g2 : es[j]? = some es[j] := List.getElem?_eq_getElem l2
      obtain ⟨v1, q1, d1⟩ := r.get g1
      obtain ⟨v2, q2, d2⟩ := r'.get g2
      obtain ⟨u1, w1, r1⟩ := rv.get q1
      obtain ⟨u2, w2, r2⟩ := rv'.get q2
      have f1 : its.toArray[j] = u1 := by
       have : its[j]? = some (its[j]'(by simpa using h1)) := List.getElem?_eq_getElem _
       rw [w1] at this
       simpa using (Option.some.inj this).symm
      have f2 : its'.toArray[j] = u2 := by
       have : its'[j]? = some (its'[j]'(by simpa using h2)) := List.getElem?_eq_getElem _
       rw [w2] at this
       simpa using (Option.some.inj this).symm
      rw [f1, f2, g1, g2]
      exact ih ds[j] es[j] A.in1 v1 v2 u1 u2 (okDs_get hx g1) (okDs_get hy g2) (by show A.units + 1 + n < cLine; omega) d1 d2 r1 r2
   | _ => simp [okD] at hy
  | _ => simp [okD] at hx
open PySem.SeqAt in
theorem item_D {pins : List (Addr × Obj)} {σ : L2.St} {s : Shared} (I : Inv X pins σ H s) {n : Nat} {A : Around} {a b : Addr} {xs ys : List V} {ds es : List D} {its its' : List Value} (hx : okDs n ds = true) (hy : okDs n es = true) (hu : A.units + n + 1 < cLine)
  (r : Dens X.K ad H xs ds) (r' : Dens X.K ad H ys es) (rv : Vals xs its) (rv' : Vals ys its') (j : Nat) (h1 : j < its.toArray.size) (h2 : j < its'.toArray.size) : EqAt A.in1 s its.toArray[j] its'.toArray[j] (beqD ((ds[j]?).getD .non) ((es[j]?).getD .non)) := by
 have l1 : j < ds.length := by rw [← r.length, rv.length]; simpa using h1
 have l2 : j < es.length := by rw [← r'.length, rv'.length]; simpa using h2
 have g1 : ds[j]? = some ds[j] := List.getElem?_eq_getElem l1
 have g2 : es[j]? = some es[j] := List.getElem?_eq_getElem l2
 obtain ⟨v1, q1, d1⟩ := r.get g1
 obtain ⟨v2, q2, d2⟩ := r'.get g2
 obtain ⟨u1, w1, r1⟩ := rv.get q1
 obtain ⟨u2, w2, r2⟩ := rv'.get q2
 have f1 : its.toArray[j] = u1 := by
  have : its[j]? = some (its[j]'(by simpa using h1)) := List.getElem?_eq_getElem _
  rw [w1] at this
  simpa using (Option.some.inj this).symm
 have f2 : its'.toArray[j] = u2 := by
  have : its'[j]? = some (its'[j]'(by simpa using h2)) := List.getElem?_eq_getElem _
  rw [w2] at this
  simpa using (Option.some.inj this).symm
 rw [f1, f2, g1, g2]
 exact eqAt_D I n ds[j] es[j] A.in1 v1 v2 u1 u2 (okDs_get hx g1) (okDs_get hy g2) (by show A.units + 1 + n < cLine; omega) d1 d2 r1 r2
open PySem.SeqAt in
theorem rc_tups {pins : List (Addr × Obj)} {σ : L2.St} {s : Shared} (I : Inv X pins σ H s) {n : Nat} {A : Around} {a b : Addr} {xs ys : List V} {ds es : List D} (hx : okDs n ds = true) (hy : okDs n es = true) (hu : A.units + n + 1 < cLine)
  (e : TupAt X.K H a xs) (r : Dens X.K ad H xs ds) (e' : TupAt X.K H b ys) (r' : Dens X.K ad H ys es) : RcAt A s (.ref a) (.ref b) (beqDs ds es) ∧ RcNeAt A s (.ref a) (.ref b) (!beqDs ds es) := by
 obtain ⟨its, rv, p, _⟩ := I.tuple (e.sq)
 obtain ⟨its', rv', p', _⟩ := I.tuple (e'.sq)
 have e1 : its.toArray.size = ds.length := by rw [List.size_toArray, ← rv.length, r.length]
 have e2 : its'.toArray.size = es.length := by rw [List.size_toArray, ← rv'.length, r'.length]
 have q := RcAt.tuples (A := A) (s := s) (e := fun i => beqD ((ds[i]?).getD .non) ((es[i]?).getD .non)) p p' (by omega) fun j h1 h2 => item_D (a := a) (b := b) I hx hy hu r r' rv rv' j h1 h2
 have q' := RcNeAt.tuples (A := A) (s := s) (e := fun i => beqD ((ds[i]?).getD .non) ((es[i]?).getD .non)) p p' (by omega) fun j h1 h2 => item_D (a := a) (b := b) I hx hy hu r r' rv rv' j h1 h2
 rw [e1, e2] at q q'
 rw [beqDs_all]
 exact ⟨q, q'⟩
end
end Dp



namespace Dp
open PySem PySem.Spec PyProof.Rows L2 Builtin Builtin.Str
variable [ClsTab]
section
variable {X : Cx} {tg : Expr}
noncomputable def Itx (x : Str) : It := ⟨fun i _ => i < x.cps.size, fun i H v H' => H' = H ∧ ∃ c, x.cps[i]? = some c ∧ v = .str ⟨#[c]⟩, fun i _ => x.cps.size ≤ i⟩
theorem turn_str {P : Program} {w : World} {K : PySem.W.Frag} (x : Str) (t : Tok) (it : Addr) : Turn P w K tg (Itx x) [it] it (fun i h => h.IsStrIter it "str_ascii_iterator" x t i) where
 mem := by simp
 obj := fun i h st b hb => by
  have e : b = it := by simpa using hb
  subst e
  obtain ⟨o, e, c, d⟩ := st
  exact ⟨o, e, fun v z => by rw [d] at z; cases z⟩
 keep := fun i h h' st k => by
  obtain ⟨o, e, c⟩ := st
  exact ⟨o, k it (by simp) o e, c⟩
 item := by
  intro X hP hw hK hc i pins s σ H E I hf st hg
  subst hP hw hK
  have hg : i < x.cps.size := hg
  have hx : x.cps[i]? = some x.cps[i] := Array.getElem?_eq_getElem hg
  obtain ⟨f0, f1, f2, f3, f4, f5⟩ := hf it (by simp)
  refine wpAny_pyNext_ascii_item st hx fun h' st' sb => ?_
  have I1 : Inv X pins σ H { s with heap := h', toks := s.toks + 1 } := I.turned (t' := s.toks + 1) (fun b o hb e => (sb.2 b hb).trans e) f0 f1 f3 f4 f5
  obtain ⟨o, e, c, d⟩ := id st'
  exact ⟨_, rfl, go_of (s := { s with heap := h', toks := s.toks + 1 }) e c d (by decide) ⟨.str ⟨#[x.cps[i]]⟩, H, I1, ⟨_, rfl⟩, ⟨rfl, _, hx, rfl⟩, st', fun b hb => (hf b hb).1⟩⟩
 done := by
  intro X hP hw hK hc i pins s σ H E I hf st hg
  subst hP hw hK
  have hg : x.cps.size ≤ i := hg
  obtain ⟨f0, f1, f2, f3, f4, f5⟩ := hf it (by simp)
  exact wpAny_pyNext_ascii_end (I.ok.hd hc) st (Array.getElem?_eq_none hg) fun h' eb => ⟨rfl, I.turned (t' := s.toks) (fun b o hb e => eb b o hb e) f0 f1 f3 f4 f5⟩
 self := fun _ _ _ _ _ st h => wpAny_pyIter_striter_ascii st h
noncomputable def iStr (tl : TE) : TI := fun σ H R => tl σ H fun x H1 => ∃ z, x = .str z ∧ z.cps.all (fun c => decide (c < 128)) = true ∧ R (Itx z) H1
theorem pi_str {l : Expr} {tl : TE} (hl : PE X l tl) : PI X tg l (iStr tl) := by
 intro pins s σ H R I h
 refine thn (hl pins s σ H _ I h) fun v s1 ⟨x, H1, I1, r1, q1⟩ => ?_
 obtain ⟨z, e, hz, q⟩ := q1
 subst e
 obtain ⟨t, rfl⟩ := r1
 refine wpAny_pyIter_ascii hz ?_
 refine ⟨s1.heap.objs.size, [s1.heap.objs.size], _, _, H1, rfl, I1.kept (t' := s1.toks) fun b o e => Heap.get?_push_of_some _ e, turn_str z t _, ⟨_, Heap.get?_push_size _ rfl, rfl, rfl⟩, fun b hb => ?_, q⟩
 have e : b = s1.heap.objs.size := by simpa using hb
 subst e
 exact I1.fpOk (Nat.le_refl _) (I1.hok.fresh (Nat.le_refl _))
theorem range_map {xs : List Nat} {a m : Nat} (h : a + m ≤ xs.length) : ((List.range m).map fun k => a + k).filterMap (xs[·]?) = (xs.drop a).take m := by
 apply List.ext_getElem?
 intro i
 induction m generalizing a i with
 | zero => simp
 | succ m ih =>
  have ha : a < xs.length := by omega
  rw [List.range_succ_eq_map, List.map_cons, List.map_map, List.filterMap_cons_some (b := xs[a]) (by simp [ha]), List.drop_eq_getElem_cons ha, List.take_succ_cons]
  cases i with
  | zero => rfl
  | succ i =>
   rw [List.getElem?_cons_succ, List.getElem?_cons_succ, ← ih (a := a + 1) (by omega) i]
   congr 2
   apply List.map_congr_left
   intro k _
   show a + (k + 1) = a + 1 + k
   omega
theorem clip_eq (n d : Nat) (o : Option Int) (hd : d ≤ n) : (match o with
  | none => (d : Int)
  | some i => max 0 (min (if i < 0 then i + (n : Int) else i) (n : Int))) = ((Dp.sIx n d o : Nat) : Int) ∧ Dp.sIx n d o ≤ n := by
 cases o with
 | none => exact ⟨rfl, hd⟩
 | some i =>
  show max 0 (min (if i < 0 then i + (n : Int) else i) (n : Int)) = ((if i < 0 then (i + n).toNat else Nat.min i.toNat n : Nat) : Int) ∧ (if i < 0 then (i + n).toNat else Nat.min i.toNat n) ≤ n
  by_cases h : i < 0
  ·rw [if_pos h, if_pos h]; omega
  ·rw [if_neg h, if_neg h]
   show max 0 (min i (n : Int)) = ((min i.toNat n : Nat) : Int) ∧ min i.toNat n ≤ n
   omega
theorem sl_ind (x : Str) (lo hi : Option Int) : ((strSliceIndices lo hi 1 x.length).filterMap (x.cps[·]?)) = (x.cps.toList.drop (Dp.sIx x.length 0 lo)).take (Dp.sIx x.length x.length hi - Dp.sIx x.length 0 lo) := by
 obtain ⟨e1, l1⟩ := clip_eq x.length 0 lo (Nat.zero_le _)
 obtain ⟨e2, l2⟩ := clip_eq x.length x.length hi (Nat.le_refl _)
 have hl : x.cps.toList.length = x.length := Array.length_toList
 generalize Dp.sIx x.length 0 lo = a at *
 generalize Dp.sIx x.length x.length hi = b at *
 have e : strSliceIndices lo hi 1 x.length = sliceRange (a : Int) (b : Int) 1 := by
  rw [← e1, ← e2]
  rfl
 rw [e]
 have er : sliceRange (a : Int) (b : Int) 1 = (List.range (b - a)).map fun k => a + k := by
  have ec : (if (a : Int) < (b : Int) then ((b : Int) - (a : Int) + 1 - 1) / 1 else 0).toNat = b - a := by
   split
   ·rw [Int.ediv_one]; omega
   ·show 0 = b - a; omega
  show (List.range (if (a : Int) < (b : Int) then ((b : Int) - (a : Int) + 1 - 1) / 1 else 0).toNat).map (fun (k : Nat) => ((a : Int) + 1 * (k : Int)).toNat) = _
  rw [ec]
  apply List.map_congr_left
  intro k _
  omega
 have ea : (fun i : Nat => x.cps[i]?) = fun i => x.cps.toList[i]? := by funext i; simp
 rw [er, ea]
 by_cases hab : a ≤ b
 ·exact range_map (by omega)
 ·rw [show b - a = 0 by omega]; simp
theorem cutS_all {x : Str} {lo hi : Option Int} (h : (strSliceIndices lo hi 1 x.length).length = x.length) : cutS x lo hi = x := by
 obtain ⟨e1, l1⟩ := clip_eq x.length 0 lo (Nat.zero_le _)
 obtain ⟨e2, l2⟩ := clip_eq x.length x.length hi (Nat.le_refl _)
 have hl : x.cps.toList.length = x.length := Array.length_toList
 unfold cutS
 generalize Dp.sIx x.length 0 lo = a at *
 generalize Dp.sIx x.length x.length hi = b at *
 have e : strSliceIndices lo hi 1 x.length = sliceRange (a : Int) (b : Int) 1 := by
  rw [← e1, ← e2]
  rfl
 rw [e] at h
 have h : ((List.range (if (a : Int) < (b : Int) then ((b : Int) - (a : Int) + 1 - 1) / 1 else 0).toNat).map (fun (k : Nat) => ((a : Int) + 1 * (k : Int)).toNat)).length = x.length := h
 rw [List.length_map, List.length_range] at h
 have hk : (x.cps.toList.drop a).take (b - a) = x.cps.toList := by
  split at h
  ·rw [Int.ediv_one] at h
   have : a = 0 := by omega
   subst this
   rw [List.drop_zero, List.take_of_length_le (by omega)]
  ·have : x.cps.toList = [] := List.eq_nil_of_length_eq_zero (by have : (0 : Int).toNat = 0 := rfl; omega)
   rw [this]; simp
 rw [hk]
theorem sl_str : SlR X (fun x lo hi H Q => ∃ z, x = .str z ∧ z.length ≤ sizeLine ∧ Q (.str (cutS z lo hi)) H) := by
 intro pins s σ H x v vl vu lo hi sl Q I rx hs pl pu h
 obtain ⟨z, rfl, hz, q⟩ := h
 obtain ⟨t, rfl⟩ := rx
 have pv : ∀ {v : Value} {o : Option Int}, IsPart v o → ∃ l : Option (Int × Tok), v = partValue l ∧ l.map (·.1) = o := fun {v o} p => by
  cases p with
  | none => exact ⟨none, rfl, rfl⟩
  | int i t => exact ⟨some (i, t), rfl, rfl⟩
 obtain ⟨l, rfl, el⟩ := pv pl
 obtain ⟨u, rfl, eu⟩ := pv pu
 refine ⟨"str", _, slot_str_getitem.lookup, typeIs_str s z t, wpAny_getItem_str_slice (l := l) (u := u) (st := none) hs rfl ?_⟩
 unfold sliceMade slicePicked
 rw [el, eu]
 show (if ((1 : Int) == 1 && (strSliceIndices lo hi 1 z.length).length == z.length) = true then Made.val (.str z t) else Made.str ⟨((strSliceIndices lo hi 1 z.length).filterMap (z.cps[·]?)).toArray⟩).post _ s
 by_cases hw : ((1 : Int) == 1 && (strSliceIndices lo hi 1 z.length).length == z.length) = true
 ·rw [if_pos hw]
  have hw' : (strSliceIndices lo hi 1 z.length).length = z.length := by simpa using hw
  rw [cutS_all hw'] at q
  exact ⟨.str z, H, I, ⟨t, rfl⟩, q⟩
 ·rw [if_neg hw, sl_ind]
  refine ⟨?_, .str (cutS z lo hi), H, I.tok _, ⟨_, rfl⟩, q⟩
  have : ((z.cps.toList.drop (Dp.sIx z.length 0 lo)).take (Dp.sIx z.length z.length hi - Dp.sIx z.length 0 lo)).length ≤ z.cps.toList.length := by
   rw [List.length_take, List.length_drop]; omega
  have hl : z.cps.toList.length = z.length := Array.length_toList
  show (List.toArray _).size ≤ _
  rw [List.size_toArray]
  omega
theorem call_strT : CallR X (.type "str") (fun xs H Q => ∃ i, xs = [.int i] ∧ lim64 i = true ∧ Q (.str (Str.ofString (toString i))) H) := by
 intro pins s σ H xs us Q I r h
 obtain ⟨i, rfl, hi, q⟩ := h
 obtain ⟨u, rfl, t, rfl⟩ := vals1 r
 refine PySem.P.str_of_int ?_ ⟨.str (Str.ofString (toString i)), H, I.tok _, ⟨_, rfl⟩, q⟩
 unfold lim64 at hi
 simp only [Bool.and_eq_true, decide_eq_true_eq] at hi
 by_cases h0 : i.natAbs = 0
 ·rw [h0]; decide
 ·have : i.natAbs < 2 ^ 64 := by omega
  have := (Nat.log2_lt h0).mpr this
  omega
theorem join_fitsG {s : Str} : ∀ (xs : List Str) (n : Nat), xs.foldl (fun a p => a + p.length + s.length) n = n + (gluR s xs).length
 | [], n => rfl
 | x :: xs, n => by
  rw [List.foldl_cons, join_fitsG xs]
  show _ = n + ((s.cps.toList ++ x.cps.toList) ++ gluR s xs).length
  have hx : x.cps.toList.length = x.length := Array.length_toList
  have hs : s.cps.toList.length = s.length := Array.length_toList
  rw [List.length_append, List.length_append, hx, hs]
  omega
theorem glue_foldG {s : Str} : ∀ (xs : List Str) (acc : Array Nat), xs.foldl (fun acc p => acc ++ s.cps ++ p.cps) acc = (acc.toList ++ gluR s xs).toArray
 | [], acc => by simp [gluR]
 | x :: xs, acc => by
  rw [List.foldl_cons, glue_foldG xs]
  simp [gluR]
theorem glued_gen {s : Str} (xs : List Str) : glued s xs = ⟨(gluL s xs).toArray⟩ := by
 cases xs with
 | nil => rfl
 | cons x xs =>
  unfold glued
  rw [List.drop_one, List.tail_cons, List.headD_cons, glue_foldG]
  rfl
theorem gluR_nil {s : Str} (h : s.length = 0) : ∀ (xs : List Str), gluR s xs = catS xs
 | [] => rfl
 | x :: xs => by
  have hs : s.cps.toList = [] := List.eq_nil_of_length_eq_zero (Array.length_toList.trans h)
  show (s.cps.toList ++ x.cps.toList) ++ gluR s xs = x.cps.toList ++ catS xs
  rw [hs, gluR_nil h xs]; rfl
theorem gluL_nil {s : Str} (h : s.length = 0) (xs : List Str) : gluL s xs = catS xs := by
 cases xs with
 | nil => rfl
 | cons x xs => show x.cps.toList ++ gluR s xs = x.cps.toList ++ catS xs; rw [gluR_nil h]
theorem strs_vals : ∀ {ys : List Str} {its : List Value}, Vals (ys.map V.str) its → ∃ l : List (Str × Tok), its = strValues l ∧ l.map (·.1) = ys
 | [], _, .nil => ⟨[], rfl, rfl⟩
 | y :: ys, _, .cons ⟨t, e⟩ r => by
  obtain ⟨l, rfl, h⟩ := strs_vals r
  exact ⟨(y, t) :: l, by rw [e]; rfl, by rw [List.map_cons, h]⟩
theorem mt_join : MtR X "str.join" (fun x xs H Q => ∃ z a ys, x = .str z ∧ xs = [.ref a] ∧ SqL X.K H a (ys.map V.str) ∧ (gluR z ys).length ≤ sizeMax ∧ Q (.str ⟨(gluL z ys).toArray⟩) H) := by
 intro pins s σ H x xs v us Q I rx r h
 obtain ⟨z, a, ys, rfl, rfl, sq, hl, q⟩ := h
 obtain ⟨t, rfl⟩ := rx
 obtain ⟨u, rfl, r1⟩ := vals1 r
 cases r1
 obtain ⟨its, rv, p, hn⟩ := I.list sq
 obtain ⟨l, rfl, el⟩ := strs_vals rv
 refine PySem.SC.join p.isList el ?_ fun t' k => ⟨.str ⟨(gluL z ys).toArray⟩, H, I.tok _, ⟨t', ?_⟩, q⟩
 ·unfold JoinOk tooLong
  rw [List.foldl_toArray, join_fitsG]
  have : sizeMax ≤ sizeLine := by decide
  simp
  omega
 ·show Value.str (glued z ys) t' = _
  rw [glued_gen]
end
end Dp



namespace Dp
open PySem PySem.Spec PyProof.Rows L2
variable [ClsTab]
section
open Builtin
open AutoSeq1 (wpAny_loadPart')
theorem noFill_tuple_mul : fillsNumberSlot (.type "tuple") "mul" = pure false :=
 PySem.fillsNumberSlot_seq (id := "tuple.__mul__") (r := some (.builtin "tuple.__rmul__")) F.slot_tuple_mul.lookup (by decide +kernel) F.slot_tuple_rmul.lookup (by decide +kernel)
theorem repeat_tuple : seqRepeat? (.type "tuple") = pure (some (.builtin "tuple.__mul__")) := by
 unfold seqRepeat?
 rw [PySem.seqSlot_of (T := "tuple") (name := "__mul__") (id := "tuple.__mul__") F.slot_tuple_mul.lookup (by decide +kernel), PySem.seqSlot_of (T := "tuple") (name := "__rmul__") (id := "tuple.__rmul__") F.slot_tuple_rmul.lookup (by decide +kernel)]
 rfl
theorem rmul_tuple (a : Int) (t : Tok) (l : Addr) (items : Array Value) (n : Nat) (dd : Option Addr) (sl : Array (Option Value)) : Meets (Builtin.«int.__rmul__» ⟨[.int a t, .ref l], []⟩) (fun _ R s => s.heap.get? l = some { cls := .type "tuple", dict := dd, data := .seq items n, slots := sl } ∧ R (.ok (.ret Value.notImplemented)) s) :=
 .of_wp fun prog w A R s h => by obtain ⟨hp, g, d, tk, os⟩ := s; obtain ⟨hl, h⟩ := h; wp_walk; exact ⟨_, rfl, h⟩
theorem tup_mul1 (l : Addr) (items : Array Value) (n : Nat) (dd : Option Addr) (sl : Array (Option Value)) (u : Tok) :
  Meets (Builtin.«tuple.__mul__» ⟨[.ref l, .int 1 u], []⟩) (fun _ R s => s.heap.get? l = some { cls := .type "tuple", dict := dd, data := .seq items n, slots := sl } ∧ R (.ok (.ret (Value.ref l))) s) :=
 .of_wp fun prog w A R s h => by
  obtain ⟨hp, g, d, tk, os⟩ := s; obtain ⟨hl, h⟩ := h; have f1 := AutoSeq1.idx_int; wp_walk using wpAny_loadPart' hl
  exact ⟨_, rfl, h⟩
theorem tup_mul0 (l : Addr) (items : Array Value) (n : Nat) (dd : Option Addr) (sl : Array (Option Value)) (k : Int) (u : Tok) (h0 : ¬ items.isEmpty = true) (h1 : k ≤ 0) (h2 : -1000 ≤ k) :
  Meets (Builtin.«tuple.__mul__» ⟨[.ref l, .int k u], []⟩) (fun _ R s => s.heap.get? l = some { cls := .type "tuple", dict := dd, data := .seq items n, slots := sl } ∧ R (.ok (.ret (Value.ref s.heap.objs.size))) { s with heap := s.heap.push { cls := .type "tuple", data := .seq #[] } }) :=
 .of_wp fun prog w A R s h => by
  obtain ⟨hp, g, d, tk, os⟩ := s; obtain ⟨hl, h⟩ := h; have f1 := AutoSeq1.idx_int
  have a1 : (decide (k < -(2 ^ 63)) || decide (k ≥ 2 ^ 63)) = false := by rw [decide_eq_false (by omega), decide_eq_false (by omega)]; rfl
  have a2 : (items.isEmpty || k == 1) = false := by
   have : (k == 1) = false := by rw [beq_eq_false_iff_ne]; omega
   rw [this, Bool.or_false]; simpa using h0
  have a3 : (decide (k ≤ 0) || items.isEmpty) = true := by rw [decide_eq_true h1]; rfl
  wp_walk using wpAny_loadPart' hl
  refine wpAny_ite_false (by rw [a1]; rfl) ?_
  wp_walk using wpAny_loadPart' hl
  refine wpAny_ite_false (by rw [a2]; rfl) ?_
  wp_walk using wpAny_loadPart' hl
  exact ⟨_, rfl, h⟩
theorem tup_mulN (l : Addr) (items : Array Value) (n : Nat) (dd : Option Addr) (sl : Array (Option Value)) (k : Int) (u : Tok) (h0 : items.size = 1) (h1 : 2 ≤ k) (h2 : k ≤ 1000) :
  Meets (Builtin.«tuple.__mul__» ⟨[.ref l, .int k u], []⟩) (fun _ R s => s.heap.get? l = some { cls := .type "tuple", dict := dd, data := .seq items n, slots := sl } ∧ R (.ok (.ret (Value.ref s.heap.objs.size))) { s with heap := s.heap.push { cls := .type "tuple", data := .seq ((List.replicate k.toNat items).foldl (fun x1 x2 => x1 ++ x2) #[]) } }) :=
 .of_wp fun prog w A R s h => by
  obtain ⟨hp, g, d, tk, os⟩ := s; obtain ⟨hl, h⟩ := h; have f1 := AutoSeq1.idx_int
  have a1 : (decide (k < -(2 ^ 63)) || decide (k ≥ 2 ^ 63)) = false := by rw [decide_eq_false (by omega), decide_eq_false (by omega)]; rfl
  have ae : items.isEmpty = false := by
   rw [Array.isEmpty_eq_false_iff]; intro z; rw [z] at h0; simp at h0
  have a2 : (items.isEmpty || k == 1) = false := by
   have : (k == 1) = false := by rw [beq_eq_false_iff_ne]; omega
   rw [this, Bool.or_false]; exact ae
  have a3 : (decide (k ≤ 0) || items.isEmpty) = false := by rw [decide_eq_false (by omega), ae]; rfl
  have a4 : decide ((items.size : Int) * k > (2 ^ 63 - 1) / 8) = false := by rw [h0]; exact decide_eq_false (by omega)
  have a5 : Tuple.tupleTooMany ((items.size : Int) * k) = false := by
   unfold Tuple.tupleTooMany
   rw [h0]
   exact decide_eq_false (by have : (sizeLine : Int) ≥ 1000 := (by decide); omega)
  have a6 : decide (((List.replicate k.toNat items).foldl (fun x1 x2 => x1 ++ x2) #[]).size > sizeLine) = false := by
   rw [AutoListH.size_joined]
   refine decide_eq_false ?_
   have : sizeLine ≥ 1000 := by decide
   simp only [h0, Array.size_empty]
   omega
  wp_walk using wpAny_loadPart' hl
  refine wpAny_ite_false (by rw [a1]; rfl) ?_
  wp_walk using wpAny_loadPart' hl
  refine wpAny_ite_false (by rw [a2]; rfl) ?_
  wp_walk using wpAny_loadPart' hl
  refine wpAny_ite_false (by rw [a3]; rfl) ?_
  wp_walk using wpAny_loadPart' hl
  refine wpAny_ite_false a4 ?_
  wp_walk using wpAny_loadPart' hl
  refine wpAny_ite_false (by rw [a5]; rfl) ?_
  wp_walk using wpAny_loadPart' hl
  exact ⟨_, rfl, h⟩
theorem rep_any {X : Cx} {pins : List (Addr × Obj)} {s : Shared} {σ : L2.St} {H : Hp} {a : Addr} {v : V} {k : Int} {t : Tok} {Q : VK} (I : L2.Inv X pins σ H s) (ha : TupAt X.K H a [v]) (h1 : k ≤ 1000) (h2 : -1000 ≤ k) (q1 : k = 1 → Q (.ref a) H)
  (q2 : ∀ p, H p = none → Q (.ref p) (upd H p (.tup (List.replicate k.toNat v)))) : wpAny (model X.prog X.w) X.A (binaryOp .Mult (.ref a) (.int k t)) (EP X pins σ Q) X.xe s := by
 obtain ⟨its, r, p1, _⟩ := I.tuple (ha.sq)
 obtain ⟨u, rfl, ru⟩ := r.one
 obtain ⟨⟨c1, dd, dt, sl⟩, ho, hc, n, hd⟩ := id p1
 simp only at hc hd
 subst hc hd
 have fin : ∀ its' : List Value, Vals (List.replicate k.toNat v) its' → EP X pins σ Q (.ref s.heap.objs.size) { s with heap := s.heap.push { cls := .type "tuple", data := .seq its'.toArray } } := fun its' r' =>
  ⟨.ref s.heap.objs.size, _, I.laid (t' := s.toks) (o := .tup (List.replicate k.toNat v)) (fun b ob q => Heap.get?_push_of_some _ q) (Nat.le_refl _) ⟨by rw [List.length_replicate]; exact Nat.le_trans (show k.toNat ≤ 1000 by omega) (by decide), its', r', IsTup.new _ _⟩, rfl, q2 _ (I.hok.fresh (Nat.le_refl _))⟩
 refine wpAny_binaryOp_repeat_ref (T := "tuple") (U := "int") (by decide) ⟨_, ho, rfl⟩ (fun s' => typeIs_int s' k t) noFill_tuple_mul F.fills_int_mul F.slot_int_rmul repeat_tuple F.slot_int_index.lookup
  (call_meets F.slot_int_rmul (typeIs_int s k t) F.entry_int_rmul (F.args_int_rmul_2 _ _) (rmul_tuple k t a _ n dd sl) ⟨ho, rfl, ⟨_, ho, rfl⟩, ?_⟩)
 by_cases e1 : k = 1
 ·subst e1
  exact call_meets F.slot_tuple_mul ⟨_, ho, rfl⟩ F.entry_tuple_mul (F.args_tuple_mul_2 _ _) (tup_mul1 a _ n dd sl t) ⟨ho, ⟨.ref a, H, I, rfl, q1 rfl⟩⟩
 ·by_cases e0 : k ≤ 0
  ·refine call_meets F.slot_tuple_mul ⟨_, ho, rfl⟩ F.entry_tuple_mul (F.args_tuple_mul_2 _ _) (tup_mul0 a _ n dd sl k t (by simp) e0 h2) ⟨ho, ?_⟩
   have z : k.toNat = 0 := by omega
   exact fin [] (by rw [z]; exact .nil)
  ·refine call_meets F.slot_tuple_mul ⟨_, ho, rfl⟩ F.entry_tuple_mul (F.args_tuple_mul_2 _ _) (tup_mulN a _ n dd sl k t (by simp) (by omega) h1) ⟨ho, ?_⟩
   have e : List.foldl (fun x1 x2 => x1 ++ x2) #[] (List.replicate k.toNat [u].toArray) = (List.replicate k.toNat u).toArray := by
    have e2 := foldl_rep [u] k.toNat []
    rw [List.nil_append] at e2
    rw [show ([] : List Value).toArray = #[] from rfl] at e2
    rw [e2]
    congr 1
    generalize k.toNat = j
    induction j with
    | zero => rfl
    | succ j ih => rw [List.replicate_succ, List.flatten_cons, ih, List.replicate_succ]; rfl
   rw [e]
   refine fin _ ?_
   generalize k.toNat = j
   induction j with
   | zero => exact .nil
   | succ j ih => exact .cons ru ih
end
theorem sizeMax_le : sizeMax ≤ sizeLine := by decide
section
variable {X : Cx}
theorem lim_of {i : Int} (h : lim64 i = true) : -(2 ^ 64) < i ∧ i < 2 ^ 64 := by
 unfold lim64 at h
 rw [Bool.and_eq_true] at h
 exact ⟨of_decide_eq_true h.1, of_decide_eq_true h.2⟩
theorem cat_any {pins : List (Addr × Obj)} {s : Shared} {σ : L2.St} {H : Hp} {a b : Addr} {xs ys : List V} {Q : VK} (I : Inv X pins σ H s) (ha : TupAt X.K H a xs) (hb : TupAt X.K H b ys) (hz : xs.length + ys.length ≤ sizeLine)
  (q0 : xs = [] → Q (.ref b) H) (q1 : ys = [] → Q (.ref a) H) (q2 : ∀ p, H p = none → Q (.ref p) (upd H p (.tup (xs ++ ys)))) : wpAny (model X.prog X.w) X.A (binaryOp .Add (.ref a) (.ref b)) (EP X pins σ Q) X.xe s := by
 by_cases hx : xs = []
 ·obtain ⟨its, r1, p1, _⟩ := I.tuple (ha.sq)
  obtain ⟨its2, r2, p2, _⟩ := I.tuple (hb.sq)
  have e1 : its = [] := r1.nil_iff.mpr hx
  subst e1
  obtain ⟨⟨c1, dd, dt, sl⟩, ho, hc, n, hd⟩ := id p1
  obtain ⟨⟨c2, dd2, dt2, sl2⟩, ho2, hc2, n2, hd2⟩ := id p2
  simp only at hc hd hc2 hd2
  subst hc hd hc2 hd2
  exact concat_meets ⟨_, ho, rfl⟩ ⟨_, ho2, rfl⟩ noFill_tuple_add seq_tuple_add PySem.F.slot_tuple_add PySem.F.entry_tuple_add (PySem.F.args_tuple_add_2 _ _)
   (tuple_addW0 a b #[] its2.toArray n n2 dd dd2 sl sl2 rfl) ⟨ho, ho2, ⟨.ref b, H, I, rfl, q0 hx⟩⟩
 ·exact op_catT pins s σ H (.ref a) (.ref b) _ _ Q I rfl rfl ⟨a, b, xs, ys, rfl, rfl, (ha).sq, (hb).sq, hx, hz, q1, fun _ => q2⟩
theorem op_binI {op : Operator} {i j k : Int} {pins : List (Addr × Obj)} {s : Shared} {σ : L2.St} {H : Hp} {v u : Value} {Q : VK} (I : L2.Inv X pins σ H s) (rx : RelV (.int i) v) (ry : RelV (.int j) u) (e : binI op i j = some k) (p : Q (.int k) H) :
  wpAny (model X.prog X.w) X.A (binaryOp op v u) (EP X pins σ Q) X.xe s := by
 unfold binI at e
 split at e
 ·cases e
  exact op_add pins s σ H _ _ v u Q I rx ry ⟨_, _, rfl, rfl, p⟩
 ·cases e
  exact op_sub pins s σ H _ _ v u Q I rx ry ⟨_, _, rfl, rfl, p⟩
 ·split at e
  ·rename_i hl
   cases e
   refine op_mul pins s σ H _ _ v u Q I rx ry ⟨_, _, rfl, rfl, ?_, p⟩
   rw [Bool.or_eq_true] at hl
   exact hl.elim (fun z => .inl (lim_of z)) fun z => .inr (lim_of z)
  ·cases e
 ·split at e
  ·rename_i hl
   cases e
   exact op_fdiv pins s σ H _ _ v u Q I rx ry ⟨_, _, rfl, rfl, hl, p⟩
  ·split at e
   ·rename_i hl
    cases e
    exact op_fdivN pins s σ H _ _ v u Q I rx ry ⟨_, _, rfl, rfl, ⟨by omega, by omega⟩, p⟩
   ·cases e
 ·split at e
  ·rename_i hl
   cases e
   exact op_mod pins s σ H _ _ v u Q I rx ry ⟨_, _, rfl, rfl, hl, p⟩
  ·split at e
   ·rename_i hl
    cases e
    exact op_modN pins s σ H _ _ v u Q I rx ry ⟨_, _, rfl, rfl, (by omega), p⟩
   ·cases e
 ·cases e
theorem cat_lists {pins : List (Addr × Obj)} {s : Shared} {σ : L2.St} {H : Hp} {a b : Addr} {xs ys : List V} {Q : VK} (I : L2.Inv X pins σ H s) (ha : SqL X.K H a xs) (hb : SqL X.K H b ys) (hz : xs.length + ys.length ≤ sizeLine)
  (q : ∀ p, H p = none → Q (.ref p) (upd H p (.lst (xs ++ ys)))) : wpAny (model X.prog X.w) X.A (binaryOp .Add (.ref a) (.ref b)) (EP X pins σ Q) X.xe s := by
 obtain ⟨its, r, p1, _⟩ := I.list ha
 obtain ⟨its2, r2, p2, _⟩ := I.list hb
 obtain ⟨⟨cls, dd, data, sl⟩, ho, hc, n, hd⟩ := id p1.isList
 obtain ⟨⟨cls2, dd2, data2, sl2⟩, ho2, hc2, n2, hd2⟩ := id p2.isList
 simp only at hc hd hc2 hd2
 subst hc hd hc2 hd2
 have e : its.toArray ++ its2.toArray = (its ++ its2).toArray := by simp
 have l1 := r.length
 have l2 := r2.length
 refine concat_meets ⟨_, ho, rfl⟩ ⟨_, ho2, rfl⟩ noFill_list_add seq_list_add PySem.F.slot_list_add PySem.F.entry_list_add (PySem.F.args_list_add_2 _ _) (list_addW a b its.toArray its2.toArray n n2 dd dd2 sl sl2 (by simp; omega)) ⟨ho, ho2, ?_⟩
 rw [e]
 exact ⟨.ref _, _, I.lnew (t' := s.toks) (r.append r2) (by rw [List.length_append]; omega), rfl, q _ I.fresh⟩
theorem add_of {op : Operator} (h : isAdd op = true) : op = .Add := by cases op <;> first | rfl | cases h
theorem mul_of {op : Operator} (h : isMul op = true) : op = .Mult := by cases op <;> first | rfl | cases h
theorem op_binD {op : Operator} : OpR X (binaryOp op) (rD X.K (binD op)) := by
 intro pins s σ H x y v u Q I rx ry h
 obtain ⟨ad, st, dx, dy, d, st', S, hx, hy, e, p⟩ := h
 unfold binD at e
 split at e
 ·split at e
  ·rename_i k q
   cases e; cases hx; cases hy
   exact op_binI I rx ry q (p.at S (.int _))
  ·cases e
 ·split at e
  ·rename_i hz0
   cases add_of hz0.1
   have hz := hz0.2
   cases e
   obtain ⟨a, xs, rfl, ha, r1⟩ := hx.ofTup
   obtain ⟨b, ys, rfl, hb, r2⟩ := hy.ofTup
   cases rx; cases ry
   refine cat_any I ha hb (by rw [r1.length, r2.length]; exact Nat.le_trans hz sizeMax_le) (fun z => ?_) (fun z => ?_) fun q hq => ?_
   ·subst z; cases r1
    exact p.at S hy
   ·subst z; cases r2
    rw [List.append_nil] at p
    exact p.at S hx
   ·exact p _ ad _ (Ext.laid hq) (S.laid hq) (.tup (.inl upd_same) ((r1.append r2).mono (Ext.laid hq)))
  ·cases e
 ·split at e
  ·rename_i hz0
   cases mul_of hz0
   obtain ⟨a, xs, rfl, ha, r1⟩ := hx.ofTup
   cases hy
   cases rx
   obtain ⟨t, rfl⟩ := ry
   cases r1 with
   | nil => cases e
   | cons d1 r1 => cases r1 with
    | cons _ _ => cases e
    | nil =>
     have e : (if _ ∧ _ then some (D.tup (List.replicate _ _), st) else none) = some (d, st') := e
     split at e
     ·rename_i hz
      cases e
      refine rep_any I ha hz.1 hz.2 (fun z => ?_) fun q hq => p _ ad _ (Ext.laid hq) (S.laid hq) (.tup (.inl upd_same) ((Dens.rep d1 _).mono (Ext.laid hq)))
      subst z
      exact p.at S (.tup ha (.cons d1 .nil))
     ·cases e
  ·cases e
 ·split at e
  ·rename_i hop
   cases add_of hop
   unfold catD at e
   split at e
   ·rename_i xs ys q1 q2
    split at e
    ·rename_i hz
     cases e
     obtain ⟨a, rfl, ha⟩ := hx.ofLst
     obtain ⟨b, rfl, hb⟩ := hy.ofLst
     obtain ⟨vs, r1, h1⟩ := S.list ha q1
     obtain ⟨ws, r2, h2⟩ := S.list hb q2
     cases rx; cases ry
     refine cat_lists I h1 h2 (by rw [r1.length, r2.length]; exact Nat.le_trans hz sizeMax_le) fun q hq => ?_
     refine p _ (ad ++ [q]) _ (Ext.push hq) (S.push hq (r1.append r2)) (.newL ?_)
     rw [← S.len]
     exact snoc_last
    ·cases e
   ·cases e
  ·cases e
 ·split at e
  ·rename_i hop
   cases mul_of hop
   unfold repD at e
   split at e
   ·rename_i z q1
    split at e
    ·rename_i hz
     cases e
     obtain ⟨a, rfl, ha⟩ := hx.ofLst
     obtain ⟨vs, r1, h1⟩ := S.listM ha q1
     cases hy
     cases r1 with
     | cons d1 r1 =>
      cases r1
      rename_i w
      refine op_rep pins s σ H _ _ v u Q I rx ry ⟨a, _, [w], rfl, rfl, h1, by omega, by omega, ?_, fun q hq => ?_⟩
      ·rw [List.length_singleton, Nat.one_mul]
       exact Nat.le_trans (show _ ≤ 1000 by omega) (by decide)
      ·have e1 : ∀ k : Nat, (List.replicate k [w]).flatten = List.replicate k w := fun k => by
        induction k with
        | zero => rfl
        | succ k ih => rw [List.replicate_succ, List.flatten_cons, ih, List.replicate_succ]; rfl
       rw [e1]
       refine p _ (ad ++ [q]) _ (Ext.push hq) (S.push hq (Dens.rep d1 _)) (.newL ?_)
       rw [← S.len]
       exact snoc_last
    ·cases e
   ·cases e
  ·cases e
 ·split at e
  ·rename_i hz
   cases add_of hz.1
   cases e; cases hx; cases hy
   exact op_add_str pins s σ H _ _ v u Q I rx ry ⟨_, _, rfl, rfl, Nat.le_trans hz.2 sizeMax_le, p.at S (.str _)⟩
  ·cases e
 ·cases e
theorem un_negD : UnR X (unaryOp .USub) (rU1 X.K negD) := by
 intro pins s σ H x v Q I rx h
 obtain ⟨ad, st, dx, d, st', S, hx, e, p⟩ := h
 unfold negD at e
 split at e
 ·cases e; cases hx
  exact un_neg pins s σ H _ v Q I rx ⟨_, rfl, p.at S (.int _)⟩
 ·cases e
theorem atI_of {xs : List V} {ds : List D} {ad : List Addr} {H : Hp} {i : Int} {d : D} (r : Dens X.K ad H xs ds) (e : atD ds i = some d) : ∃ v, atI xs i = some v ∧ Den X.K ad H v d := by
 unfold atD at e
 have hl : L2.ixN xs.length i = Dp.ixN ds.length i := by rw [r.length]; rfl
 cases q : Dp.ixN ds.length i with
 | none => rw [q] at e; cases e
 | some j =>
  rw [q] at e
  obtain ⟨v, e1, e2⟩ := r.get (i := j) e
  refine ⟨v, ?_, e2⟩
  unfold atI
  rw [hl, q]
  exact e1
theorem look_rel {ad : List Addr} {H : Hp} {k : Str} : ∀ {ks : List Str} {vs : List V} {ds : List D}, Dens X.K ad H vs ds → ks.length = vs.length →
  (∃ v d, valV ((ks.zip vs).map fun p => ((Sum.inr p.1 : Key), p.2)) (Sum.inr k) = some v ∧ lookD ks ds k = some d ∧ Den X.K ad H v d) ∨ (valV ((ks.zip vs).map fun p => ((Sum.inr p.1 : Key), p.2)) (Sum.inr k) = none ∧ lookD ks ds k = none)
 | [], _, _, .nil, _ => .inr ⟨rfl, rfl⟩
 | [], _, _, .cons _ _, h => by simp at h
 | _ :: _, _, _, .nil, h => by simp at h
 | x :: ks, v :: vs, d :: ds, .cons hd r, h => by
  by_cases e : x = k
  ·subst e
   exact .inl ⟨v, d, valV_pos rfl, by simp [lookD], hd⟩
  ·have ih := look_rel (k := k) r (by simpa using h)
   have e1 : valV (((x :: ks).zip (v :: vs)).map fun p => ((Sum.inr p.1 : Key), p.2)) (Sum.inr k) = valV ((ks.zip vs).map fun p => ((Sum.inr p.1 : Key), p.2)) (Sum.inr k) := valV_neg (p := (Sum.inr x, v)) (by intro z; exact e (Sum.inr.inj z))
   have e2 : lookD (x :: ks) (d :: ds) k = lookD ks ds k := by simp [lookD, e]
   rw [e1, e2]; exact ih
theorem ch_at {x : Str} {i : Int} {d : D} (q : atD ((chS x).map D.str) i = some d) : ∃ c, atI x.cps.toList i = some c ∧ d = .str ⟨#[c]⟩ := by
 unfold atD at q
 unfold atI
 have hl : ((chS x).map D.str).length = x.cps.toList.length := by simp [chS]
 rw [hl] at q
 show ∃ c, (Dp.ixN x.cps.toList.length i).bind (fun j => x.cps.toList[j]?) = some c ∧ _
 cases e : Dp.ixN x.cps.toList.length i with
 | none => rw [e] at q; cases q
 | some j =>
  rw [e] at q
  have q : ((chS x).map D.str)[j]? = some d := q
  unfold chS at q
  rw [List.getElem?_map, List.getElem?_map] at q
  show ∃ c, x.cps.toList[j]? = some c ∧ _
  cases e2 : x.cps.toList[j]? with
  | none => rw [e2] at q; cases q
  | some c => rw [e2] at q; cases q; exact ⟨c, rfl, rfl⟩
theorem ix_D (hu : X.A.units + 64 < cLine) : IxR X (rD X.K ixR) := by
 intro value slice pins s σ H x y v u Q I rx ry h hs
 obtain ⟨ad, st, dx, dy, d, st', S, hx, hy, e, p⟩ := h
 unfold ixR at e
 split at e
 ·rename_i d' q
  cases e
  unfold ixD at q
  split at q
  ·obtain ⟨a, xs, rfl, ha, r⟩ := hx.ofTup
   cases hy
   obtain ⟨w, e1, e2⟩ := atI_of r q
   exact ix_tup value slice pins s σ H _ _ v u Q I rx ry ⟨a, xs, _, w, rfl, rfl, (ha).sq, e1, p.at S e2⟩ hs
  ·split at q
   ·rename_i q0
    obtain ⟨a, rfl, ha⟩ := hx.ofLst
    cases hy
    obtain ⟨xs, r, sq⟩ := S.list ha q0
    obtain ⟨w, e1, e2⟩ := atI_of r q
    exact ix_list value slice pins s σ H _ _ v u Q I rx ry ⟨a, xs, _, w, rfl, rfl, sq, e1, p.at S e2⟩ hs
   ·cases q
  ·obtain ⟨a, vs, rfl, ha, hl, r⟩ := hx.ofDct
   cases hy
   rcases look_rel r hl with ⟨w, d0, e1, e2, e3⟩ | ⟨_, e2⟩
   ·rw [e2] at q
    cases q
    exact ix_dct value slice pins s σ H _ _ v u Q I rx ry ⟨a, _, Sum.inr _, w, rfl, rfl, ha, e1, p.at S e3⟩ hs
   ·rw [e2] at q; cases q
  ·obtain ⟨a, o, its, n, rfl, h1, h2, h3, h4, h5⟩ := hx.ofKt
   cases hy
   obtain ⟨w, e1, e2⟩ := atI_of (strs_dens _) q
   exact ix_tup value slice pins s σ H _ _ v u Q I rx ry ⟨a, _, _, w, rfl, rfl, .inr ⟨o, its, n, h1, h2.1, h3, h4, h5⟩, e1, p.at S e2⟩ hs
  ·split at q
   ·rename_i hz
    cases hx; cases hy
    obtain ⟨c, e1, rfl⟩ := ch_at q
    exact ix_str value slice pins s σ H _ _ v u Q I rx ry ⟨_, _, c, rfl, rfl, Nat.le_trans hz sizeMax_le, e1, p.at S (.str _)⟩ hs
   ·cases q
  ·cases q
 ·cases e
theorem sIx_same (n d : Nat) (o : Option Int) : Dp.sIx n d o = HT.sIx n d o := by cases o <;> rfl
theorem cut_of {xs : List V} {ds : List D} {ad : List Addr} {H : Hp} {lo hi : Option Int} (r : Dens X.K ad H xs ds) : Dens X.K ad H (cutV xs lo hi) (cutD ds lo hi) := by
 unfold cutV cutD
 rw [← r.length, sIx_same, sIx_same]
 exact (r.drop _).take _
theorem getItem_whole {prog : Program} {w : World} {A : Around} {E : Value → Shared → Prop} {s : Shared} {t sl : Addr} {items : Array Value} {vl vu : Value} {lo hi : Option Int} {Q : Value → Shared → Prop} (ht : IsTup s.heap t items) (hs : s.heap.IsSliceOf sl vl vu .none) (pl : IsPart vl lo) (pu : IsPart vu hi)
  (hw : HT.sIx items.size 0 lo = 0 ∧ HT.sIx items.size items.size hi = items.size) (h : Q (.ref t) s) : wpAny (model prog w) A (getItem (.ref t) (.ref sl)) Q E s := by
 obtain ⟨os, hos, hcs, hds⟩ := id hs
 have hTs : s.TypeIs (.ref sl) "slice" := ⟨os, hos, hcs⟩
 unfold getItem
 try with_reducible refine wpAny_holding ?_
 first | refine wpAny_bind (wpAny_pure ?_) | skip
 refine wpAny_bind (wpAny_sequenceKey ht.typeIs (by decide) ?_)
 refine wpAny_bind (wpAny_callSpecial?_slot (name := Str.ofString "__getitem__") ht.typeIs PyProof.Rows.slot_tuple_getitem
  (wpAny_call_entry PyProof.Rows.slot_tuple_getitem ht.typeIs PyProof.Rows.entry_tuple_getitem ?_ (PyProof.Rows.args_tuple_getitem _ _)))
 show wpAny _ _ (Builtin.Tuple.tupleItemsOf (.ref t) >>= _) _ _ s
 refine wpAny_bind (tupleItemsOf_ ht ?_)
 refine wpAny_bind (wpAny_typeOf hTs ?_)
 rw [if_pos (by decide)]
 refine wpAny_bind (HT.sliceApplied_gen hs pl pu ?_)
 rw [hw.1, hw.2]
 have hyes : (((0 : Nat) : Int) == 0 && (1 : Int) == 1 && (items.size - 0) == items.size) = true := by simp
 show wpAny _ _ (if (((0 : Nat) : Int) == 0 && (1 : Int) == 1 && (items.size - 0) == items.size) = true then _ else _) _ _ s
 rw [if_pos hyes]
 unfold Builtin.Tuple.tupleIsExact
 wp_walk using wpAny_typeOf ht.typeIs

 exact ⟨_, rfl, wpAny_pure h⟩
theorem sl_whole : SlR X (fun x lo hi H Q => ∃ a xs, x = .ref a ∧ SqT X.K H a xs ∧ (HT.sIx xs.length 0 lo = 0 ∧ HT.sIx xs.length xs.length hi = xs.length) ∧ Q (.ref a) H) := by
 intro pins s σ H x v vl vu lo hi sl Q I rx hs pl pu h
 obtain ⟨a, xs, rfl, hx, hw, q⟩ := h
 cases rx
 obtain ⟨its, r, ht, hz⟩ := I.tuple hx
 have hlen : its.toArray.size = xs.length := by rw [List.size_toArray]; exact r.length.symm
 refine ⟨"tuple", _, PyProof.Rows.slot_tuple_getitem.lookup, ht.typeIs, ?_⟩
 exact getItem_whole ht hs pl pu (by rw [hlen]; exact hw) ⟨.ref a, H, I, rfl, q⟩
theorem sl_D : SlR X (rSl X.K) := by
 intro pins s σ H x v vl vu lo hi sl Q I rx hs pl pu h
 obtain ⟨ad, st, dx, d, st', S, hx, e, p⟩ := h
 unfold sliceD at e
 split at e
 ·rename_i ds
  split at e
  ·rename_i hw
   cases e
   obtain ⟨a, xs, rfl, ha, r⟩ := hx.ofTup
   refine sl_whole pins s σ H _ v vl vu lo hi sl Q I rx hs pl pu ⟨a, xs, rfl, ha.sq, ?_, p.at S hx⟩
   rw [r.length, ← sIx_same, ← sIx_same]
   exact hw
  ·rename_i hw
   cases e
   obtain ⟨a, xs, rfl, ha, r⟩ := hx.ofTup
   refine sl_tup pins s σ H _ v vl vu lo hi sl Q I rx hs pl pu ⟨a, xs, rfl, (ha).sq, ?_, fun q hq => p _ ad _ (Ext.laid hq) (S.laid hq) (.tup (.inl upd_same) ((cut_of r).mono (Ext.laid hq)))⟩
   rw [r.length, ← sIx_same, ← sIx_same]
   exact hw
 ·split at e
  ·rename_i q0
   cases e
   obtain ⟨a, rfl, ha⟩ := hx.ofLst
   obtain ⟨xs, r, sq⟩ := S.list ha q0
   refine sl_list pins s σ H _ v vl vu lo hi sl Q I rx hs pl pu ⟨a, xs, rfl, sq, fun q hq => p _ (ad ++ [q]) _ (Ext.push hq) (S.push hq (cut_of r)) (.newL ?_)⟩
   rw [← S.len]
   exact snoc_last
  ·cases e
 ·split at e
  ·rename_i hz
   cases e; cases hx
   exact sl_str pins s σ H _ v vl vu lo hi sl Q I rx hs pl pu ⟨_, rfl, Nat.le_trans hz sizeMax_le, p.at S (.str _)⟩
  ·cases e
 ·cases e
theorem dens1 {ad : List Addr} {H : Hp} {vs : List V} {d : D} (h : Dens X.K ad H vs [d]) : ∃ v, vs = [v] ∧ Den X.K ad H v d := by
 cases h with
 | cons h r => cases r; exact ⟨_, rfl, h⟩
theorem dens2 {ad : List Addr} {H : Hp} {vs : List V} {d e : D} (h : Dens X.K ad H vs [d, e]) : ∃ v w, vs = [v, w] ∧ Den X.K ad H v d ∧ Den X.K ad H w e := by
 cases h with
 | cons h r =>
  cases r with
  | cons h' r => cases r; exact ⟨_, _, rfl, h, h'⟩
theorem on1_cases {g : D → Store → Res} {ds : List D} {st : Store} {r : D × Store} (h : on1 g ds st = some r) : ∃ d, ds = [d] ∧ g d st = some r := by
 unfold on1 at h
 split at h
 ·exact ⟨_, rfl, h⟩
 ·cases h
theorem on2_cases {g : D → D → Store → Res} {ds : List D} {st : Store} {r : D × Store} (h : on2 g ds st = some r) : ∃ d e, ds = [d, e] ∧ g d e st = some r := by
 unfold on2 at h
 split at h
 ·exact ⟨_, _, rfl, h⟩
 ·cases h
theorem call_lenR : CallR X (.builtin "len") (rC X.K (on1 lenR)) := by
 intro pins s σ H xs us Q I r h
 obtain ⟨ad, st, ds, d, st', S, hd, e, p⟩ := h
 obtain ⟨x, rfl, e1⟩ := on1_cases e
 have e := e1
 obtain ⟨v, rfl, hv⟩ := dens1 hd
 unfold lenR at e
 split at e
 ·rename_i n q
  cases e
  unfold lenD at q
  split at q
  ·cases q
   obtain ⟨a, ys, rfl, ha, rr⟩ := hv.ofTup
   refine call_len_seq pins s σ H _ us Q I r ⟨a, ys, rfl, .inr ((ha).sq), ?_⟩
   rw [rr.length]
   exact p.at S (.int _)
  ·split at q
   ·rename_i q0
    cases q
    obtain ⟨a, rfl, ha⟩ := hv.ofLst
    obtain ⟨ys, rr, sq⟩ := S.list ha q0
    refine call_len_seq pins s σ H _ us Q I r ⟨a, ys, rfl, .inl sq, ?_⟩
    rw [rr.length]
    exact p.at S (.int _)
   ·cases q
  ·cases q
   obtain ⟨a, o, its, n, rfl, h1, h2, h3, h4, h5⟩ := hv.ofKt
   refine call_len_seq pins s σ H _ us Q I r ⟨a, _, rfl, .inr (.inr ⟨o, its, n, h1, h2.1, h3, h4, h5⟩), ?_⟩
   rw [List.length_map]
   exact p.at S (.int _)
  ·split at q
   ·rename_i hz
    cases q; cases hv
    exact call_len pins s σ H _ us Q I r ⟨_, _, rfl, ⟨Nat.le_trans hz sizeMax_le, rfl⟩, p.at S (.int _)⟩
   ·cases q
  ·cases q
 ·cases e
theorem call_tupleR : CallR X (.type "tuple") (rC X.K (on1 tupleD)) := by
 intro pins s σ H xs us Q I r h
 obtain ⟨ad, st, ds, d, st', S, hd, e, p⟩ := h
 obtain ⟨x, rfl, e1⟩ := on1_cases e
 have e := e1
 obtain ⟨v, rfl, hv⟩ := dens1 hd
 unfold tupleD at e
 split at e
 ·cases e
  obtain ⟨a, ys, rfl, ha, rr⟩ := hv.ofTup
  exact call_tuple_of pins s σ H _ us Q I r ⟨a, ys, rfl, .inr ⟨(ha).sq, p.at S hv⟩⟩
 ·split at e
  ·rename_i q0
   cases e
   obtain ⟨a, rfl, ha⟩ := hv.ofLst
   obtain ⟨ys, rr, sq⟩ := S.list ha q0
   exact call_tuple_of pins s σ H _ us Q I r ⟨a, ys, rfl, .inl ⟨sq, fun l hl => p _ ad _ (Ext.laid hl) (S.laid hl) (.tup (.inl upd_same) (rr.mono (Ext.laid hl)))⟩⟩
  ·cases e
 ·cases e
theorem call_listR : CallR X (.type "list") (rC X.K (on1 listD)) := by
 intro pins s σ H xs us Q I r h
 obtain ⟨ad, st, ds, d, st', S, hd, e, p⟩ := h
 obtain ⟨x, rfl, e1⟩ := on1_cases e
 have e := e1
 obtain ⟨v, rfl, hv⟩ := dens1 hd
 unfold listD at e
 split at e
 ·cases e
  obtain ⟨a, ys, rfl, ha, rr⟩ := hv.ofTup
  refine call_list_of pins s σ H _ us Q I r ⟨a, ys, rfl, .inr ((ha).sq), fun l hl => p _ (ad ++ [l]) _ (Ext.push hl) (S.push hl rr) (.newL ?_)⟩
  rw [← S.len]
  exact snoc_last
 ·split at e
  ·rename_i q0
   cases e
   obtain ⟨a, rfl, ha⟩ := hv.ofLst
   obtain ⟨ys, rr, sq⟩ := S.list ha q0
   refine call_list_of pins s σ H _ us Q I r ⟨a, ys, rfl, .inl sq, fun l hl => p _ (ad ++ [l]) _ (Ext.push hl) (S.push hl rr) (.newL ?_)⟩
   rw [← S.len]
   exact snoc_last
  ·cases e
 ·cases e
theorem call_strR : CallR X (.type "str") (rC X.K (on1 strOD)) := by
 intro pins s σ H xs us Q I r h
 obtain ⟨ad, st, ds, d, st', S, hd, e, p⟩ := h
 obtain ⟨x, rfl, e1⟩ := on1_cases e
 have e := e1
 obtain ⟨v, rfl, hv⟩ := dens1 hd
 unfold strOD at e
 split at e
 ·split at e
  ·rename_i hi
   cases e; cases hv
   exact call_strT pins s σ H _ us Q I r ⟨_, rfl, hi, p.at S (.str _)⟩
  ·cases e
 ·cases e
theorem call_minR (hc : X.calm = true) : CallR X (.builtin "min") (rC X.K (on2 minD)) := by
 intro pins s σ H xs us Q I r h
 obtain ⟨ad, st, ds, d, st', S, hd, e, p⟩ := h
 obtain ⟨x, y, rfl, e1⟩ := on2_cases e
 have e := e1
 obtain ⟨v, w, rfl, hv, hw⟩ := dens2 hd
 unfold minD at e
 split at e
 ·cases e; cases hv; cases hw
  exact call_min2 hc pins s σ H _ us Q I r ⟨_, _, rfl, p.at S (.int _)⟩
 ·cases e
theorem call_maxR (hc : X.calm = true) : CallR X (.builtin "max") (rC X.K (on2 maxD)) := by
 intro pins s σ H xs us Q I r h
 obtain ⟨ad, st, ds, d, st', S, hd, e, p⟩ := h
 obtain ⟨x, y, rfl, e1⟩ := on2_cases e
 have e := e1
 obtain ⟨v, w, rfl, hv, hw⟩ := dens2 hd
 unfold maxD at e
 split at e
 ·cases e; cases hv; cases hw
  exact call_max2 hc pins s σ H _ us Q I r ⟨_, _, rfl, p.at S (.int _)⟩
 ·cases e
noncomputable def tyN : Ty → String
 | .int => "int"
 | .bool => "bool"
 | .str => "str"
 | .tuple => "tuple"
noncomputable def kindN : D → String
 | .int _ => "int"
 | .bl _ => "bool"
 | .str _ => "str"
 | .tup _ => "tuple"
 | .non => "NoneType"
 | _ => "list"
theorem kit_of (K : PySem.W.Frag) {T : Ty} {d : D} {k : Bool} (h : isiD T d = some k) : PySem.W.kitOne K (.type (kindN d)) (.type (tyN T)) = some k := by
 cases d <;> first | (cases h; done) | (cases T <;> (cases h; rfl))
theorem ty_of {K : PySem.W.Frag} {ad : List Addr} {H : Hp} {v : V} {d : D} {T : Ty} {k : Bool} (h : isiD T d = some k) (hv : Den K ad H v d) : TyOf K H v (.type (kindN d)) ∨ ∃ a xs, v = .ref a ∧ SqT K H a xs ∧ kindN d = "tuple" := by
 cases hv with
 | non => exact .inl .non
 | bl b => exact .inl (.bl b)
 | int i => exact .inl (.int i)
 | str x => exact .inl (.str x)
 | tup e r => exact .inr ⟨_, _, rfl, e.sq, rfl⟩
 | lst e => cases h
 | dic _ _ => cases h
 | dct _ _ _ _ _ => cases h
 | obj _ _ => cases h
 | kt _ _ _ _ _ _ => cases h
theorem call_isi {T : Ty} : CallR X (.builtin "isinstance") (fun vs H Q => ∃ v, vs = [v, .ty (tyN T)] ∧ rC X.K (on1 (isiR T)) [v] H Q) := by
 intro pins s σ H xs us Q I r h
 obtain ⟨v, rfl, ad, st, ds, d, st', S, hd, e, p⟩ := h
 obtain ⟨x, rfl, e1⟩ := on1_cases e
 have e := e1
 obtain ⟨w, hw, hv⟩ := dens1 hd
 cases hw
 unfold isiR at e
 split at e
 ·rename_i k q
  cases e
  cases r with
  | cons r1 r2 =>
   cases r2 with
   | cons r3 r4 =>
    cases r4
    cases r3
    rcases ty_of q hv with ty | ⟨a, zs, rfl, sq, kd⟩
    ·exact isinst_ok I r1 ty (kit_of X.K q) fun tk => ⟨.bl k, H, I.tok _, rfl, p.at S (.bl k)⟩
    ·have kt := kit_of X.K q
     rw [kd] at kt
     cases r1
     obtain ⟨its, _, pp, _⟩ := I.tuple sq
     obtain ⟨o, h1, h2, _⟩ := pp
     exact PySem.W.kia_one PySem.W.kitx_tuple I.kIn ⟨o, h1, h2⟩ kt (fun z => nomatch z) fun tk => ⟨.bl k, H, I.tok _, rfl, p.at S (.bl k)⟩
 ·cases e
end
section
variable {X : Cx}
end
end Dp



namespace Dp
open PySem PySem.Spec PyProof.Rows L2
variable [ClsTab]
section
open PySem.SeqAt PySem.MeetsSeq PySem.MeetsSeq2 PySem.MeetsSeq3 PySem.SeqRoads2
open AutoSeq1 (wpAny_loadPart')
def LtAt (A : Around) (s : Shared) (y x : Value) (b : Bool) : Prop :=
 ∀ (prog : Program) (w : World) (E : Value → Shared → Prop) (Q : Value → Shared → Prop), Q (.bool b) s → wpAny (model prog w) A (richCompare .Lt y x) Q E s
noncomputable def ltR (e lt : Nat → Bool) (f : Bool) : List Nat → Bool
 | [] => f
 | j :: r => if e j = true then ltR e lt f r else lt j
theorem tuple_ltAt (l b : Addr) (items items2 : Array Value) (n n2 : Nat) (dd dd2 : Option Addr) (sl sl2 : Array (Option Value)) (e lt : Nat → Bool) :
  Meets (Builtin.«tuple.__lt__» ⟨[.ref l, .ref b], []⟩)
   (fun A R s => s.heap.get? l = some { cls := .type "tuple", dict := dd, data := .seq items n, slots := sl } ∧ s.heap.get? b = some { cls := .type "tuple", dict := dd2, data := .seq items2 n2, slots := sl2 } ∧
    (∀ j (h1 : j < items.size) (h2 : j < items2.size), EqAt A.in1 s items[j] items2[j] (e j)) ∧ (∀ j (h1 : j < items.size) (h2 : j < items2.size), (∀ i, i < j → e i = true) → e j = false → LtAt A.in1 s items[j] items2[j] (lt j)) ∧
    R (.ok (.ret (.bool (ltR e lt (decide (items.size < items2.size)) (List.range (min items.size items2.size)))))) s) :=
 .of_wp fun prog w A R s h => by
  obtain ⟨hp, g, d, tk, os⟩ := s; obtain ⟨hl, hb, he, hq, h⟩ := h
  have f2 := AutoSeq1.sub_tuple_tuple
  have hZ : (items.toList.zip items2.toList).length = min items.size items2.size := by simp
  wp_walk using wpAny_loadPart' hl, wpAny_loadPart' hb, wpAny_forIn_list _ (fun rest b s' => b.1 = none ∧ s' = ⟨hp, g, d, tk, os⟩ ∧ ∃ i, rest = (items.toList.zip items2.toList).drop i ∧ (∀ k, k < i → e k = true) ∧
   R (.ok (.ret (.bool (ltR e lt (decide (items.size < items2.size)) ((List.range (min items.size items2.size)).drop i))))) ⟨hp, g, d, tk, os⟩) _
  case turn =>
   rintro ⟨y, x⟩ rest b s' ⟨hb', rfl, i, hz, hk, hR⟩
   have hlt : i < (items.toList.zip items2.toList).length := by
    rcases Nat.lt_or_ge i (items.toList.zip items2.toList).length with h' | h'
    ·exact h'
    ·rw [List.drop_of_length_le h'] at hz; cases hz
   have hm : i < min items.size items2.size := hZ ▸ hlt
   have h1 : i < items.size := Nat.lt_of_lt_of_le hm (Nat.min_le_left _ _)
   have h2 : i < items2.size := Nat.lt_of_lt_of_le hm (Nat.min_le_right _ _)
   rw [List.drop_eq_getElem_cons hlt] at hz
   injection hz with hyx hrest
   have hy : y = items[i] := by have := congrArg Prod.fst hyx; simpa using this
   have hx : x = items2[i] := by have := congrArg Prod.snd hyx; simpa using this
   subst hy hx
   have hd : (List.range (min items.size items2.size)).drop i = i :: (List.range (min items.size items2.size)).drop (i + 1) := by simp [List.drop_eq_getElem_cons, hm]
   rw [hd] at hR
   have hR : R (.ok (.ret (.bool (if e i = true then ltR e lt (decide (items.size < items2.size)) ((List.range (min items.size items2.size)).drop (i + 1)) else lt i)))) ⟨hp, g, d, tk, os⟩ := hR
   refine wpAny_bind (he i h1 h2 prog w _ _ ?_)
   cases hy : e i with
   | true =>
    rw [hy] at hR
    wp_walk
    refine ⟨rfl, rfl, i + 1, hrest, fun k hk' => ?_, by simpa using hR⟩
    rcases Nat.lt_or_ge k i with h | h
    ·exact hk k h
    ·rw [show k = i by omega]; exact hy
   | false =>
    rw [hy] at hR
    have hz : ∀ (E : Value → Shared → Prop) (Q : Value → Shared → Prop), Q (.bool (lt i)) ⟨hp, g, d, tk, os⟩ → wpAny (model prog w) A.in1 (richCompare .Lt items[i] items2[i]) Q E ⟨hp, g, d, tk, os⟩ := fun E Q => hq i h1 h2 hk hy prog w E Q
    generalize richCompare .Lt items[i] items2[i] = rc at hz ⊢
    wp_walk using hz _ _
    exact ⟨_, rfl, by simpa using hR⟩
  case fin =>
   rintro ⟨b1, b2⟩ s' ⟨hb', rfl, i, hz, _, hR⟩
   simp only at hb'
   subst hb'
   have hge : min items.size items2.size ≤ i := by
    rcases Nat.lt_or_ge i (items.toList.zip items2.toList).length with h' | h'
    ·rw [List.drop_eq_getElem_cons h'] at hz; cases hz
    ·exact hZ ▸ h'
   rw [List.drop_of_length_le (by simpa using hge)] at hR
   wp_walk
   exact ⟨_, rfl, by simpa [Builtin.Tuple.tupleCompareSizes, ltR] using hR⟩
  case h =>
   exact ⟨rfl, rfl, 0, rfl, fun k hk => absurd hk (by omega), by simpa using h⟩
theorem LtAt.tuples {A : Around} {s : Shared} {l b : Addr} {items items2 : Array Value} {e lt : Nat → Bool} (hl : s.heap.IsTuple l items) (hb : s.heap.IsTuple b items2) (hu : A.units < cLine)
  (he : ∀ j (h1 : j < items.size) (h2 : j < items2.size), EqAt A.in1 s items[j] items2[j] (e j)) (hq : ∀ j (h1 : j < items.size) (h2 : j < items2.size), (∀ i, i < j → e i = true) → e j = false → LtAt A.in1 s items[j] items2[j] (lt j)) : LtAt A s (.ref l) (.ref b) (ltR e lt (decide (items.size < items2.size)) (List.range (min items.size items2.size))) := fun prog w E Q h => by
 obtain ⟨⟨cls, dd, data, sl⟩, ho, hc, n, hd⟩ := id hl
 obtain ⟨⟨cls2, dd2, data2, sl2⟩, ho2, hc2, n2, hd2⟩ := id hb
 simp only at hc hd hc2 hd2
 subst hc hd hc2 hd2
 exact richCompare_meets_room (op := .Lt) ⟨_, ho, rfl⟩ ⟨_, ho2, rfl⟩ F.slot_tuple_lt F.entry_tuple_lt (F.args_tuple_lt_2 _ _) (tuple_ltAt l b items items2 n n2 dd dd2 sl sl2 e lt)
  ⟨ho, ho2, he, hq, show Value.bool (ltR e lt (decide (items.size < items2.size)) (List.range (min items.size items2.size))) ≠ Value.notImplemented ∧ Q (.bool (ltR e lt (decide (items.size < items2.size)) (List.range (min items.size items2.size)))) s from ⟨(fun x => nomatch x), h⟩⟩ hu
theorem lt_loopAt (l b : Addr) (items items2 : Array Value) (n n2 : Nat) (dd dd2 : Option Addr) (sl sl2 : Array (Option Value)) (e lt : Nat → Bool) (k : Nat) :
  ∀ i : Nat, min items.size items2.size - i = k → Meets (Builtin.«list.__eq__.loop» ⟨[.ref l, .ref b, rawInt i, rawInt 0], []⟩)
   (fun A R s => s.heap.get? l = some { cls := .type "list", dict := dd, data := .seq items n, slots := sl } ∧ s.heap.get? b = some { cls := .type "list", dict := dd2, data := .seq items2 n2, slots := sl2 } ∧
    (∀ j (h1 : j < items.size) (h2 : j < items2.size), EqAt A.in1 s items[j] items2[j] (e j)) ∧ (∀ j (h1 : j < items.size) (h2 : j < items2.size), (∀ i, i < j → e i = true) → e j = false → LtAt A.in1 s items[j] items2[j] (lt j)) ∧ (∀ j, j < i → e j = true) ∧
    R (.ok (.ret (.bool (ltR e lt (decide (items.size < items2.size)) ((List.range (min items.size items2.size)).drop i))))) s) := by
 induction k with
 | zero =>
  intro i hk prog w A R s h
  obtain ⟨hp, g, d, tk, os⟩ := s; obtain ⟨hl, hb, he, hq, hi, h⟩ := h
  wp_walk using wpAny_loadPart' hl, wpAny_loadPart' hb
  have hd : (List.range (min items.size items2.size)).drop i = [] := by simp; omega
  rw [hd] at h
  have hz : items[((i : Nat) : Int).toNat]? = none ∨ items2[((i : Nat) : Int).toNat]? = none := by
   by_cases c : items.size ≤ i
   ·left; simp; omega
   ·right; simp; omega
  rcases hz with hz | hz
  ·rw [hz]
   wp_walk using wpAny_loadPart' hl, wpAny_loadPart' hb
   exact h
  ·rw [hz]
   cases items[((i : Nat) : Int).toNat]? with
   | none =>
    wp_walk using wpAny_loadPart' hl, wpAny_loadPart' hb
    exact h
   | some x =>
    wp_walk using wpAny_loadPart' hl, wpAny_loadPart' hb
    exact h
 | succ k ih =>
  intro i hk prog w A R s h
  obtain ⟨hp, g, d, tk, os⟩ := s; obtain ⟨hl, hb, he, hq, hi, h⟩ := h
  wp_walk using wpAny_loadPart' hl, wpAny_loadPart' hb
  have hlt : i < items.size := by omega
  have hlt2 : i < items2.size := by omega
  have hm : i < min items.size items2.size := by omega
  have hi1 : items[((i : Nat) : Int).toNat]? = some items[i] := by simp [hlt]
  have hi2 : items2[((i : Nat) : Int).toNat]? = some items2[i] := by simp [hlt2]
  have hd : (List.range (min items.size items2.size)).drop i = i :: (List.range (min items.size items2.size)).drop (i + 1) := by simp [List.drop_eq_getElem_cons, hm]
  have hc : ((i : Int) + 1) = ((i + 1 : Nat) : Int) := by push_cast; rfl
  rw [hd] at h
  have h : R (.ok (.ret (.bool (if e i = true then ltR e lt (decide (items.size < items2.size)) ((List.range (min items.size items2.size)).drop (i + 1)) else lt i)))) ⟨hp, g, d, tk, os⟩ := h
  rw [hi1, hi2]
  refine wpAny_bind (he i hlt hlt2 prog w _ _ ?_)
  cases hb' : e i with
  | true =>
   rw [hb'] at h
   wp_walk
   rw [hc]
   exact ⟨plainId_quiet plain_eq_loop _, codeAny_builtin entry_eq_loop (by
    rw [Around.under_plainId plain_eq_loop _]
    refine ih (i + 1) (by omega) prog w A R _ ⟨hl, hb, he, hq, fun j hj => ?_, by simpa using h⟩
    rcases Nat.lt_or_ge j i with z | z
    ·exact hi j z
    ·rw [show j = i by omega]; exact hb')⟩
  | false =>
   rw [hb'] at h
   have hz : ∀ (E : Value → Shared → Prop) (Q : Value → Shared → Prop), Q (.bool (lt i)) ⟨hp, g, d, tk, os⟩ → wpAny (model prog w) A.in1 (richCompare .Lt items[i] items2[i]) Q E ⟨hp, g, d, tk, os⟩ := fun E Q => hq i hlt hlt2 hi hb' prog w E Q
   wp_walk using wpAny_loadPart' hl, wpAny_loadPart' hb
   rw [hi1, hi2]
   refine wpAny_bind (hz _ _ ?_)
   wp_walk
   simpa using h
theorem list_ltAt (l b : Addr) (items items2 : Array Value) (n n2 : Nat) (dd dd2 : Option Addr) (sl sl2 : Array (Option Value)) (e lt : Nat → Bool) :
  Meets (Builtin.«list.__lt__» ⟨[.ref l, .ref b], []⟩)
   (fun A R s => s.heap.get? l = some { cls := .type "list", dict := dd, data := .seq items n, slots := sl } ∧ s.heap.get? b = some { cls := .type "list", dict := dd2, data := .seq items2 n2, slots := sl2 } ∧
    (∀ j (h1 : j < items.size) (h2 : j < items2.size), EqAt A.in1 s items[j] items2[j] (e j)) ∧ (∀ j (h1 : j < items.size) (h2 : j < items2.size), (∀ i, i < j → e i = true) → e j = false → LtAt A.in1 s items[j] items2[j] (lt j)) ∧
    R (.ok (.ret (.bool (ltR e lt (decide (items.size < items2.size)) (List.range (min items.size items2.size)))))) s) := by
 intro prog w A R s h
 obtain ⟨hp, g, d, tk, os⟩ := s; obtain ⟨hl, hb, he, hq, h⟩ := h
 have f3 := AutoSeq1.sub_list_list
 wp_walk using wpAny_loadPart' hl, wpAny_loadPart' hb
 exact ⟨plainId_quiet plain_eq_loop _, codeAny_builtin entry_eq_loop (by
  rw [Around.under_plainId plain_eq_loop _]
  exact lt_loopAt l b items items2 n n2 dd dd2 sl sl2 e lt _ 0 rfl prog w A R _ ⟨hl, hb, he, hq, fun j hj => absurd hj (by omega), by simpa using h⟩)⟩
theorem LtAt.lists {A : Around} {s : Shared} {l b : Addr} {items items2 : Array Value} {e lt : Nat → Bool} (hl : s.heap.IsList l items) (hb : s.heap.IsList b items2) (hu : A.units < cLine)
  (he : ∀ j (h1 : j < items.size) (h2 : j < items2.size), EqAt A.in1 s items[j] items2[j] (e j)) (hq : ∀ j (h1 : j < items.size) (h2 : j < items2.size), (∀ i, i < j → e i = true) → e j = false → LtAt A.in1 s items[j] items2[j] (lt j)) : LtAt A s (.ref l) (.ref b) (ltR e lt (decide (items.size < items2.size)) (List.range (min items.size items2.size))) := fun prog w E Q h => by
 obtain ⟨⟨cls, dd, data, sl⟩, ho, hc, n, hd⟩ := id hl
 obtain ⟨⟨cls2, dd2, data2, sl2⟩, ho2, hc2, n2, hd2⟩ := id hb
 simp only at hc hd hc2 hd2
 subst hc hd hc2 hd2
 exact richCompare_meets_room (op := .Lt) ⟨_, ho, rfl⟩ ⟨_, ho2, rfl⟩ F.slot_list_lt F.entry_list_lt (F.args_list_lt_2 _ _) (list_ltAt l b items items2 n n2 dd dd2 sl sl2 e lt)
  ⟨ho, ho2, he, hq, show Value.bool (ltR e lt (decide (items.size < items2.size)) (List.range (min items.size items2.size))) ≠ Value.notImplemented ∧ Q (.bool (ltR e lt (decide (items.size < items2.size)) (List.range (min items.size items2.size)))) s from ⟨(fun x => nomatch x), h⟩⟩ hu
end
section
variable {X : Cx}
theorem in_of {ad : List Addr} {H : Hp} {k : Int} : ∀ {xs : List V} {ds : List D} {b : Bool}, Dens X.K ad H xs ds → inInts k ds = some b → xs.all flatV = true ∧ inV (.int k) xs = b
 | _, _, _, .nil, e => by cases e; exact ⟨rfl, rfl⟩
 | _, _, b, .cons (d := d) h r, e => by
  cases d with
  | int i =>
   cases h
   unfold inInts at e
   cases q : inInts k _ with
   | none => rw [q] at e; cases e
   | some b' =>
    rw [q] at e
    cases e
    obtain ⟨h1, h2⟩ := in_of r q
    refine ⟨by rw [List.all_cons, h1]; rfl, ?_⟩
    show ((i == k) || inV (.int k) _) = (decide (i = k) || b')
    rw [h2]
    rfl
  | _ => simp [inInts] at e
theorem in_ofS {ad : List Addr} {H : Hp} {k : Str} : ∀ {xs : List V} {ds : List D} {b : Bool}, Dens X.K ad H xs ds → inStrs k ds = some b → xs.all flatV = true ∧ inV (.str k) xs = b
 | _, _, _, .nil, e => by cases e; exact ⟨rfl, rfl⟩
 | _, _, b, .cons (d := d) h r, e => by
  cases d with
  | str i =>
   cases h
   unfold inStrs at e
   cases q : inStrs k _ with
   | none => rw [q] at e; cases e
   | some b' =>
    rw [q] at e
    cases e
    obtain ⟨h1, h2⟩ := in_ofS r q
    refine ⟨by rw [List.all_cons, h1]; rfl, ?_⟩
    show ((i == k) || inV (.str k) _) = (decide (i = k) || b')
    rw [h2]
    congr 1
  | _ => simp [inStrs] at e
def CW (X : Cx) (pins : List (Addr × Obj)) (σ : L2.St) (Q : VK) (s : Shared) (op : CmpOp) (v u : Value) : Prop := wpAny (model X.prog X.w) X.A (compareOp op v u) (EP X pins σ Q) X.xe s
def CW2 (X : Cx) (pins : List (Addr × Obj)) (σ : L2.St) (Q : VK) (s : Shared) (H : Hp) (op op' : CmpOp) (v u : Value) (k : Bool) : Prop := (Q (.bl k) H → CW X pins σ Q s op v u) ∧ (Q (.bl (!k)) H → CW X pins σ Q s op' v u)
noncomputable def vSc : Sc → V
 | .non => .non
 | .bl b => .bl b
 | .int i => .int i
 | .str x => .str x
theorem Den.vSc {K : PySem.W.Frag} {ad : List Addr} {H : Hp} {x : V} {d : D} {a : Sc} (h : Den K ad H x d) (e : scD d = some a) : x = vSc a := by
 cases h <;> cases e <;> rfl
theorem eqSc_ok {a b : Sc} {k : Bool} (h : eqSc a b = some k) : scal (vSc a) (vSc b) = true ∧ decide (vSc a = vSc b) = k := by
 cases a <;> cases b <;> first
  | (cases h; done)
  | (cases h; exact ⟨rfl, rfl⟩)
  | (cases h; exact ⟨rfl, dec_bl⟩)
  | (cases h; exact ⟨rfl, by simp [vSc]⟩)
inductive EqD (x y : V) : D → D → Bool → Prop
 | sc {dx dy : D} {k : Bool} (h3 : scal x y = true) (h4 : decide (x = y) = k) : EqD x y dx dy k
 | tup {xs ys : List D} (h : (okD 8 (.tup xs) && okD 8 (.tup ys)) = true) : EqD x y (.tup xs) (.tup ys) (beqDs xs ys)
theorem eqD_inv {K : PySem.W.Frag} {ad : List Addr} {H : Hp} {x y : V} {dx dy : D} {k : Bool} (hx : Den K ad H x dx) (hy : Den K ad H y dy) (e : eqD dx dy = some k) : EqD x y dx dy k := by
 unfold eqD at e
 split at e
 ·unfold eqT at e
  split at e
  ·split at e
   ·rename_i hok
    cases e
    exact .tup hok
   ·cases e
  ·cases e
 ·refine j_e e fun e => o2_e (P := fun o => o = some k → EqD x y dx dy k) e (fun a b h1 h2 h => ?_) rfl
  obtain ⟨h3, h4⟩ := eqSc_ok h
  rw [← hx.vSc h1, ← hy.vSc h2] at h3 h4
  exact .sc h3 h4
theorem eq_D (hu : X.A.units + 64 < cLine) {pins : List (Addr × Obj)} {s : Shared} {σ : L2.St} {H : Hp} {x y : V} {v u : Value} {Q : VK} {ad : List Addr} {st : Store} {dx dy : D} {k : Bool} (I : Inv X pins σ H s) (rx : RelV x v) (ry : RelV y u) (S : StOk X.K ad H st) (hx : Den X.K ad H x dx) (hy : Den X.K ad H y dy)
  (e : eqD dx dy = some k) : CW2 X pins σ Q s H .Eq .NotEq v u k := by
 cases eqD_inv hx hy e with
 | sc h3 h4 =>
  subst h4
  exact ⟨fun q => op_eq pins s σ H x y v u Q I rx ry ⟨h3, q⟩, fun q => op_ne pins s σ H x y v u Q I rx ry ⟨h3, q⟩⟩
 | tup hok =>
  rw [Bool.and_eq_true] at hok
  obtain ⟨a, xs, rfl, ha, r1⟩ := hx.ofTup
  obtain ⟨b, ys, rfl, hb, r2⟩ := hy.ofTup
  cases rx; cases ry
  obtain ⟨g1, g2⟩ := rc_tups (ad := ad) (A := X.A) I (n := 7) hok.1 hok.2 (by omega) ha r1 hb r2
  exact ⟨fun q => g1 X.prog X.w X.xe _ ⟨.bl _, H, I, rfl, q⟩, fun q => g2 X.prog X.w X.xe _ ⟨.bl _, H, I, rfl, q⟩⟩
open PySem.SeqAt in
theorem rc_lsts {X : Cx} {H : Hp} {ad : List Addr} {pins : List (Addr × Obj)} {σ : L2.St} {s : Shared} (I : Inv X pins σ H s) {n : Nat} {A : Around} {a b : Addr} {xs ys : List V} {ds es : List D} {its its' : List Value} (hx : okDs n ds = true) (hy : okDs n es = true) (hu : A.units + n + 1 < cLine)
  (r : Dens X.K ad H xs ds) (r' : Dens X.K ad H ys es) (rv : Vals xs its) (rv' : Vals ys its') (p : s.heap.IsList a its.toArray) (p' : s.heap.IsList b its'.toArray) : RcAt A s (.ref a) (.ref b) (beqDs ds es) ∧ RcNeAt A s (.ref a) (.ref b) (!beqDs ds es) := by
 have e1 : its.toArray.size = ds.length := by rw [List.size_toArray, ← rv.length, r.length]
 have e2 : its'.toArray.size = es.length := by rw [List.size_toArray, ← rv'.length, r'.length]
 by_cases hl : ds.length = es.length
 ·have it := fun j h1 h2 => item_D (a := a) (b := b) I hx hy hu r r' rv rv' j h1 h2
  have q := RcAt.lists (A := A) (s := s) (e := fun i => beqD ((ds[i]?).getD .non) ((es[i]?).getD .non)) p p' (by omega) (by omega) it
  have q' := RcNeAt.lists (A := A) (s := s) (e := fun i => beqD ((ds[i]?).getD .non) ((es[i]?).getD .non)) p p' (by omega) (by omega) it
  rw [e1] at q q'
  rw [beqDs_all, show min ds.length es.length = ds.length by omega, show (ds.length == es.length) = true by simpa using hl, Bool.and_true]
  exact ⟨q, q'⟩
 ·have q := RcAt.lists_lengths (A := A) (s := s) p p' (by rw [e1, e2]; simpa using hl) (by omega)
  have q' := RcNeAt.lists_lengths (A := A) (s := s) p p' (by rw [e1, e2]; simpa using hl) (by omega)
  rw [beqDs_all, show (ds.length == es.length) = false by simpa using hl, Bool.and_false]
  exact ⟨q, q'⟩
open PySem.SeqAt in
theorem eq_P (hu : X.A.units + 64 < cLine) {pins : List (Addr × Obj)} {s : Shared} {σ : L2.St} {H : Hp} {x y : V} {v u : Value} {Q : VK} {ad : List Addr} {st : Store} {ds es : List D} {k : Bool} (I : Inv X pins σ H s) (rx : RelV x v) (ry : RelV y u) (S : StOk X.K ad H st) (hx : Den X.K ad H x (.tup ds)) (hy : Den X.K ad H y (.tup es))
  (e : pairS st ds es = some k) : CW2 X pins σ Q s H .Eq .NotEq v u k := by cases e
theorem eq_S (hu : X.A.units + 64 < cLine) {pins : List (Addr × Obj)} {s : Shared} {σ : L2.St} {H : Hp} {x y : V} {v u : Value} {Q : VK} {ad : List Addr} {st : Store} {dx dy : D} {k : Bool} (I : Inv X pins σ H s) (rx : RelV x v) (ry : RelV y u) (S : StOk X.K ad H st) (hx : Den X.K ad H x dx) (hy : Den X.K ad H y dy)
  (e : eqS st dx dy = some k) : CW2 X pins σ Q s H .Eq .NotEq v u k := by
 have sc : scal x y = true → (decide (x = y)) = k → CW2 X pins σ Q s H .Eq .NotEq v u k := fun h1 h2 => by
  subst h2
  exact ⟨fun q => op_eq pins s σ H x y v u Q I rx ry ⟨h1, q⟩, fun q => op_ne pins s σ H x y v u Q I rx ry ⟨h1, q⟩⟩
 unfold eqS at e
 split at e
 ·unfold eqLS at e
  split at e
  case h_2 => cases e
  obtain ⟨a, rfl, ha⟩ := hx.ofLst
  obtain ⟨b, rfl, hb⟩ := hy.ofLst
  cases rx; cases ry
  have two : ∀ {ba bb : Bool} {xs ys : List D}, st[_]? = some (ba, xs) → st[_]? = some (bb, ys) → (xs = [] ∨ ys = []) → (xs.isEmpty && ys.isEmpty) = k → CW2 X pins σ Q s H .Eq .NotEq (.ref a) (.ref b) k := fun {ba bb xs ys} q1 q2 hz hk => by
   obtain ⟨vs, r1, s1⟩ := S.list ha q1
   obtain ⟨ws, r2, s2⟩ := S.list hb q2
   obtain ⟨its, rv, p1, _⟩ := I.list s1
   obtain ⟨its', rv', p2, _⟩ := I.list s2
   have l1 : its.toArray.size = xs.length := by rw [List.size_toArray, ← rv.length, r1.length]
   have l2 : its'.toArray.size = ys.length := by rw [List.size_toArray, ← rv'.length, r2.length]
   by_cases hl : xs.length = ys.length
   ·have z1 : xs = [] := by
     rcases hz with z | z
     ·exact z
     ·rw [z] at hl; exact List.length_eq_zero_iff.mp hl
    have z2 : ys = [] := by rw [z1] at hl; exact List.length_eq_zero_iff.mp hl.symm
    subst z1 z2
    cases hk
    have f : its = [] := List.length_eq_zero_iff.mp (by simpa using l1)
    have f' : its' = [] := List.length_eq_zero_iff.mp (by simpa using l2)
    subst f f'
    refine ⟨fun q => SeqAt.RcAt.lists (e := fun _ => true) p1.isList p2.isList rfl (by omega) (fun j h1 _ => absurd h1 (by simp)) X.prog X.w X.xe _ ⟨.bl true, H, I, rfl, q⟩, fun q => SeqAt.RcNeAt.lists (e := fun _ => true) p1.isList p2.isList rfl (by omega) (fun j h1 _ => absurd h1 (by simp)) X.prog X.w X.xe _ ⟨.bl false, H, I, rfl, q⟩⟩
   ·have hk' : k = false := by
     rw [← hk]
     rcases hz with z | z
     ·subst z
      cases ys with
      | nil => exact absurd rfl hl
      | cons _ _ => rfl
     ·subst z
      cases xs with
      | nil => exact absurd rfl hl
      | cons _ _ => rfl
    subst hk'
    have hne : (its.toArray.size != its'.toArray.size) = true := by rw [l1, l2]; simpa using hl
    exact ⟨fun q => SeqAt.RcAt.lists_lengths p1.isList p2.isList hne (by omega) X.prog X.w X.xe _ ⟨.bl false, H, I, rfl, q⟩, fun q => SeqAt.RcNeAt.lists_lengths p1.isList p2.isList hne (by omega) X.prog X.w X.xe _ ⟨.bl true, H, I, rfl, q⟩⟩
  refine j_e e fun e => o2_e (P := fun o => o = some k → CW2 X pins σ Q s H .Eq .NotEq (.ref a) (.ref b) k) e (fun c d q1 q2 e => ?_) rfl
  obtain ⟨c1, c2⟩ := c
  obtain ⟨d1, d2⟩ := d
  unfold eqLD at e
  split at e
  ·rename_i hz
   cases e
   rw [Bool.or_eq_true] at hz
   exact two q1 q2 (hz.imp List.isEmpty_iff.mp List.isEmpty_iff.mp) rfl
  ·split at e
   ·rename_i hok
    cases e
    rw [Bool.and_eq_true] at hok
    obtain ⟨vs, r1, s1⟩ := S.list ha q1
    obtain ⟨ws, r2, s2⟩ := S.list hb q2
    obtain ⟨its, rv, p1, _⟩ := I.list s1
    obtain ⟨its', rv', p2, _⟩ := I.list s2
    obtain ⟨g1, g2⟩ := rc_lsts (ad := ad) (A := X.A) I hok.1 hok.2 (by omega) r1 r2 rv rv' p1.isList p2.isList
    exact ⟨fun q => g1 X.prog X.w X.xe _ ⟨.bl _, H, I, rfl, q⟩, fun q => g2 X.prog X.w X.xe _ ⟨.bl _, H, I, rfl, q⟩⟩
   ·cases e
 ·unfold eqTS at e
  split at e
  ·split at e
   ·rename_i k' q
    cases e
    exact eq_D hu I rx ry S hx hy (show eqD (.tup _) (.tup _) = some _ from q)
   ·exact eq_P hu I rx ry S hx hy e
  ·cases e
 ·exact eq_D hu I rx ry S hx hy e
open Classical in
noncomputable def likeU (K : PySem.W.Frag) (ad : List Addr) (H : Hp) (d : D) (u : Value) : Bool := decide (∃ y e, RelV y u ∧ Den K ad H y e ∧ okD 8 e = true ∧ beqD e d = true)
section
variable {pins : List (Addr × Obj)} {s : Shared} {σ : L2.St} {H : Hp} {x y : V} {v u : Value} {Q : VK} {ad : List Addr} {st : Store} {dx dy : D} {k : Bool}
theorem in_seq {a : Addr} {xs : List V} (I : Inv X pins σ H s) (rx : RelV x v) (ry : RelV y u) (ey : y = .ref a) (sq : SqL X.K H a xs ∨ SqT X.K H a xs) (fx : flatV x = true) (h : xs.all flatV = true ∧ inV x xs = k) : CW2 X pins σ Q s H .In .NotIn v u k := by
 obtain ⟨h1, h2⟩ := h
 subst h2
 exact ⟨fun pk => op_in_seq pins s σ H _ _ v u Q I rx ry ⟨a, xs, ey, sq, fx, h1, pk⟩, fun pk => op_notIn_seq pins s σ H _ _ v u Q I rx ry ⟨a, xs, ey, sq, fx, h1, pk⟩⟩
def InW (X : Cx) (pins : List (Addr × Obj)) (σ : L2.St) (Q : VK) (s : Shared) (H : Hp) (v u : Value) (dy : D) (k : Bool) : Prop := (Q (.bl k) H → CW X pins σ Q s .In v u) ∧ ((∀ ks vs, dy ≠ .dct ks vs) → Q (.bl (!k)) H → CW X pins σ Q s .NotIn v u)
theorem CW2.inW (h : CW2 X pins σ Q s H .In .NotIn v u k) : InW X pins σ Q s H v u dy k := ⟨h.1, fun _ => h.2⟩
theorem in_S (hu : X.A.units + 64 < cLine) (I : Inv X pins σ H s) (rx : RelV x v) (ry : RelV y u) (S : StOk X.K ad H st) (hx : Den X.K ad H x dx) (hy : Den X.K ad H y dy) (q : inS st dx dy = some k) : InW X pins σ Q s H v u dy k := by
 unfold inS at q
 split at q
 ·split at q
  ·rename_i q0
   obtain ⟨a, e, ha⟩ := hy.ofLst
   obtain ⟨xs, r, sq⟩ := S.list ha q0
   cases hx
   exact (in_seq I rx ry e (.inl sq) rfl (in_of r q)).inW
  ·cases q
 ·split at q
  ·rename_i q0
   obtain ⟨a, e, ha⟩ := hy.ofLst
   obtain ⟨xs, r, sq⟩ := S.list ha q0
   cases hx
   exact (in_seq I rx ry e (.inl sq) rfl (in_ofS r q)).inW
  ·cases q
 ·obtain ⟨a, xs, e, ha, r⟩ := hy.ofTup
  cases hx
  exact (in_seq I rx ry e (.inr ha.sq) rfl (in_of r q)).inW
 ·obtain ⟨a, xs, e, ha, r⟩ := hy.ofTup
  cases hx
  exact (in_seq I rx ry e (.inr ha.sq) rfl (in_ofS r q)).inW
 ·obtain ⟨a, vs, rfl, ha, hl, r⟩ := hy.ofDct
  cases hx
  cases q
  refine ⟨fun pk => op_in_dct pins s σ H _ _ v u Q I rx ry ⟨a, _, Sum.inr _, rfl, rfl, ha, ?_⟩, fun z => absurd rfl (z _ _)⟩
  rcases look_rel r hl with ⟨w, d0, e1, e2, e3⟩ | ⟨e1, e2⟩
  ·rw [e1]; rw [e2] at pk; exact pk
  ·rw [e1]; rw [e2] at pk; exact pk
 ·cases hx; cases hy; cases q
  exact ⟨fun pk => op_in_str pins s σ H _ _ v u Q I rx ry ⟨_, _, rfl, rfl, pk⟩, fun _ pk => op_notIn_str pins s σ H _ _ v u Q I rx ry ⟨_, _, rfl, rfl, pk⟩⟩
 ·cases q
theorem isN_den (hx : Den X.K ad H x dx) (q : isN dx = some k) : decide (x = V.non) = k := by
 cases hx <;> cases q <;> rfl
theorem is_S (I : Inv X pins σ H s) (rx : RelV x v) (ry : RelV y u) (hx : Den X.K ad H x dx) (hy : Den X.K ad H y dy) (q : isD dx dy = some k) : CW2 X pins σ Q s H .Is .IsNot v u k := by
 unfold isD at q
 split at q
 ·cases hy
  have z := isN_den hx q
  subst z
  exact ⟨fun pk => op_isN pins s σ H _ _ v u Q I rx ry ⟨rfl, pk⟩, fun pk => op_notN pins s σ H _ _ v u Q I rx ry ⟨rfl, pk⟩⟩
 ·unfold isB at q
  split at q
  ·cases q
   cases hx; cases hy
   cases rx; cases ry
   have e : ∀ a b : Bool, (Value.bool a == Value.bool b) = (a == b) := fun a b => by cases a <;> cases b <;> rfl
   exact ⟨fun pk => wpAny_is_plain rfl (by rw [e]; exact ⟨.bl _, H, I, rfl, pk⟩), fun pk => wpAny_isNot_plain rfl (by rw [e]; exact ⟨.bl _, H, I, rfl, pk⟩)⟩
  ·cases q
 ·cases q
theorem ord_den {f : Int → Int → Bool} (hx : Den X.K ad H x dx) (hy : Den X.K ad H y dy) (q : ordD f dx dy = some k) : ∃ i j, x = .int i ∧ y = .int j ∧ f i j = k := by
 unfold ordD at q
 split at q
 ·cases q; cases hx; cases hy; exact ⟨_, _, rfl, rfl, rfl⟩
 ·cases q
theorem lt_D (hu : X.A.units + 64 < cLine) (I : Inv X pins σ H s) (rx : RelV x v) (ry : RelV y u) (S : StOk X.K ad H st) (hx : Den X.K ad H x dx) (hy : Den X.K ad H y dy) (q : ltS st dx dy = some k) (pk : Q (.bl k) H) : CW X pins σ Q s .Lt v u := by
   have q : ltD dx dy = some k := q
   obtain ⟨i, j, rfl, rfl, z⟩ := ord_den hx hy q
   exact op_lt pins s σ H _ _ v u Q I rx ry ⟨_, _, rfl, rfl, by cases z; exact pk⟩
theorem map_not {o : Option Bool} (q : o.map not = some k) : o = some (!k) := by
 cases o with
 | none => cases q
 | some k' => cases q; rw [Bool.not_not]
theorem not_CW {op op' : CmpOp} (h : CW2 X pins σ Q s H op op' v u (!k)) (pk : Q (.bl k) H) : CW X pins σ Q s op' v u := h.2 (by rw [Bool.not_not]; exact pk)
end
theorem op_cmpD (hu : X.A.units + 64 < cLine) {op : CmpOp} : OpR X (compareOp op) (rD X.K (cmpR op)) := by
 intro pins s σ H x y v u Q I rx ry h
 obtain ⟨ad, st, dx, dy, d, st', S, hx, hy, e, p⟩ := h
 change CW X pins σ Q s op v u
 unfold cmpR at e
 cases q : cmpD op dx dy st with
 | none => rw [q] at e; cases e
 | some k =>
  rw [q] at e
  cases e
  have pk := p.at S (.bl k)
  clear p
  cases op with
  | Lt => exact lt_D hu I rx ry S hx hy q pk
  | LtE =>
   obtain ⟨i, j, rfl, rfl, z⟩ := ord_den hx hy q
   exact op_le pins s σ H _ _ v u Q I rx ry ⟨_, _, rfl, rfl, by cases z; exact pk⟩
  | Gt =>
   obtain ⟨i, j, rfl, rfl, z⟩ := ord_den hx hy q
   exact op_gt pins s σ H _ _ v u Q I rx ry ⟨_, _, rfl, rfl, by cases z; exact pk⟩
  | GtE =>
   obtain ⟨i, j, rfl, rfl, z⟩ := ord_den hx hy q
   exact op_ge pins s σ H _ _ v u Q I rx ry ⟨_, _, rfl, rfl, by cases z; exact pk⟩
  | Eq => exact (eq_S hu I rx ry S hx hy q).1 pk
  | NotEq => exact not_CW (eq_S hu I rx ry S hx hy (map_not q)) pk
  | In => exact (in_S hu I rx ry S hx hy q).1 pk
  | NotIn =>
   have q : niS st dx dy = some k := q
   unfold niS at q
   split at q
   ·cases q
   ·rename_i hn
    exact (in_S hu I rx ry S hx hy (map_not q)).2 hn (by rw [Bool.not_not]; exact pk)
  | Is => exact (is_S I rx ry hx hy q).1 pk
  | IsNot => exact not_CW (is_S I rx ry hx hy (map_not q)) pk
end
end Dp



namespace Dp
open PySem PySem.Spec PyProof.Rows L2
variable [ClsTab]
noncomputable def isPlain : Expr → Bool
 | .Starred .. => false
 | .Set .. => false
 | .Slice .. => false
 | _ => true
theorem plain_of {G : Gs} {n : Nat} {sc : Scope} {N : List Str} {e : Expr} {c : CE} (h : cE G n sc N e = some c) : isPlain e = true := by
 cases n with
 | zero => exact nomatch (show (none : Option CE) = some c from h)
 | succ n => cases e <;> first | rfl | exact nomatch (show (none : Option CE) = some c from h)
theorem star_plain {e : Expr} {es : List Expr} {env : PySem.Env} (h : isPlain e = true) : starEach (e :: es) env = (false, eval e env) :: starEach es env := by
 cases e <;> first | rfl | cases h
theorem marks_plain {op : CmpOp} {b : Expr} (h : isPlain b = true) : behindInMarks op b = false := by
 cases b <;> first | rfl | cases h
theorem ix_plain {b : Expr} (h : isPlain b = true) : PlainIx b := by
 cases b <;> first | (intro o i; rfl) | cases h
theorem any_plain {pos : Pos} {env : PySem.Env} : ∀ {es : List Expr}, es.all isPlain = true → (backTo pos (starEach es env)).any (·.1) = false
 | [], _ => rfl
 | e :: es, h => by
  rw [List.all_cons, Bool.and_eq_true] at h
  rw [star_plain h.1]
  show (false || (backTo pos (starEach es env)).any (·.1)) = false
  rw [any_plain h.2]
  rfl
inductive EsOk (Pm : Params) (K : PySem.W.Frag) : List DictEntry → List Str → List D → Prop where
 | nil : EsOk Pm K [] [] []
 | cons {e : DictEntry} {es : List DictEntry} {k : Str} {ks : List Str} {d : D} {ds : List D} {v : V} {t : Tok} (h1 : e.hash = PyData.keyHash Pm k) (h2 : e.key = .str k t) (h3 : RelV v e.val) (h4 : ∀ ad H, Den K ad H v d) (r : EsOk Pm K es ks ds) : EsOk Pm K (e :: es) (k :: ks) (d :: ds)
def DctOk (Pm : Params) (K : PySem.W.Frag) (mg : Str → Option Value) (x : Str) (ks : List Str) (ds : List D) : Prop :=
 ∃ A o es ep, mg x = some (.ref A) ∧ K.lookup A = some o ∧ o.ExactDict ∧ o.data = .dict es ep ∧ (A == sysModules) = false ∧ ks.Nodup ∧ EsOk Pm K es.toList ks ds
theorem EsOk.open {w : World} {P : Program} {K : PySem.W.Frag} : ∀ {es : List DictEntry} {ks : List Str} {ds : List D}, EsOk w.params K es ks ds → ∃ kvs : List (Key × Value), Pairs (mixKind P w) es kvs ∧ kvs.map (·.1) = ks.map Sum.inr ∧ (∀ e ∈ es, ∃ k, (mixKind P w).is k e.key = true ∧ e.hash = (mixKind P w).hash k) ∧
  ∀ k d, lookD ks ds k = some d → ∃ u v, valueAt kvs (Sum.inr k) = some u ∧ RelV v u ∧ ∀ ad H, Den K ad H v d
 | _, _, _, .nil => ⟨[], .nil, rfl, (fun _ h => nomatch h), fun k d h => by simp [lookD] at h⟩
 | e :: es, k0 :: ks, d0 :: ds, .cons (v := v) (t := t) h1 h2 h3 h4 r => by
  obtain ⟨kvs, a1, a2, a3, a4⟩ := EsOk.open (P := P) r
  have hk : (mixKind P w).is (Sum.inr k0) e.key = true := by rw [h2]; exact mixKind_str P w k0 t
  refine ⟨(Sum.inr k0, e.val) :: kvs, .cons hk rfl a1, by rw [List.map_cons, List.map_cons, a2], fun x hx => ?_, fun k d h => ?_⟩
  ·rcases List.mem_cons.mp hx with rfl | hx
   ·exact ⟨Sum.inr k0, hk, h1⟩
   ·exact a3 x hx
  ·unfold valueAt
   by_cases c : k0 = k
   ·subst c
    have h : lookD (k0 :: ks) (d0 :: ds) k0 = some d := h
    simp only [lookD, if_pos] at h
    cases h
    exact ⟨e.val, v, by simp, h3, h4⟩
   ·have h : lookD ks ds k = some d := by
     simp only [lookD, if_neg c] at h
     exact h
    obtain ⟨u, v', b1, b2, b3⟩ := a4 k d h
    refine ⟨u, v', ?_, b2, b3⟩
    have nk : ¬ (Sum.inr k0 : Key) = Sum.inr k := fun z => c (Sum.inr.inj z)
    rw [List.find?_cons_of_neg (by simpa using nk)]
    exact b1
structure SubOk (K : PySem.W.Frag) (C B : Addr) : Prop where
 cl : Cls K C
 ha : PySem.W.findIn K (.ref C) "__class__" = some (some (.builtin "object.__class__"))
 hn : PySem.W.specialIn K (.builtin "object.__class__") "__get__" = some (some (.builtin "getset_descriptor.__get__"))
 ht : PySem.W.takesIn K (.builtin "object.__class__") = some true
 hm : PySem.W.mroIn K C (.type "object") = some true
 kit : PySem.W.kitOne K (.ref C) (.ref B) = some true
structure NewOk (K : PySem.W.Frag) (C : Addr) : Prop where
 makes : PySem.W.makesIn K C = true
 init : PySem.W.findIn K (.ref C) "__init__" = some (some (.builtin "object.__init__"))
 kp : PySem.W.keepIn K (.ref C) = true
 cl : Cls K C
def GOk (P : Program) (w : World) (K : PySem.W.Frag) (mg : Str → Option Value) (base : Heap) (A : Around) (F : Nat → Fn) (x : Str) : GV → Prop
 | .cst d => ∃ v u, mg x = some u ∧ RelV v u ∧ ∀ ad H, Den K ad H v d
 | .blt => mg x = none
 | .dct ks ds => DctOk w.params K mg x ks ds
 | .cls i ms subs => mg x = some (.ref (ClsTab.ca i)) ∧ NewOk K (ClsTab.ca i) ∧ (∀ i', subs.contains i' = true → SubOk K (ClsTab.ca i') (ClsTab.ca i)) ∧
   ∀ m j ps, ms.lookup m = some (j, ps) → ∃ (k : Nat) (f : Addr) (fd : FuncData) (pn : List Str), FnOk P w K mg base CX0 k f fd pn (spD K (F j)) ∧ Room k A ∧ Meth K (ClsTab.ca i) m f ∧ Binds K fd pn []
 | .fn i ps ds => ∃ (k : Nat) (f : Addr) (fd : FuncData) (pn : List Str), FnOk P w K mg base CX0 k f fd pn (spD K (F i)) ∧ Room k A ∧ mg x = some (.ref f) ∧ PySem.W.keepIn K (.ref f) = true ∧
   ∀ m, m ≤ ds.length → ∃ dvs us, (∀ ad H, Dens K ad H dvs (ds.drop m)) ∧ Vals dvs us ∧ Binds K fd pn us
structure Cxt (X : Cx) (G : Gs) (F : Nat → Fn) (sc : Scope) (N : List Str) : Prop where
 hN : X.N = N
 vis : ∀ x, isLoc sc x = true → Vis X.env.scope x
 glb : ∀ x, isGlob sc x = true → Gl X x
 calm : X.calm = true
 hu : X.A.units + 64 < cLine
 gl : ∀ x g, G.lookup x = some g → GOk X.prog X.w X.K X.mg X.base X.A F x g
 cel : ∀ x, isCell sc x = true → X.env.scope.names.lookup x = some .cell ∨ X.env.scope.names.lookup x = some .free
 nx : X.xe = fun _ _ => False
theorem idx_of {N : List Str} {x : Str} {i : Nat} (h : N.idxOf? x = some i) : N[i]? = some x := by
 unfold List.idxOf? at h
 rw [List.findIdx?_eq_some_iff_getElem] at h
 obtain ⟨hi, h1, _⟩ := h
 rw [List.getElem?_eq_getElem hi]
 rw [beq_iff_eq.mp h1]
theorem loc_dbg {sc : Scope} {x : Str} (h : isLoc sc x = true) : (x == ("__debug__" : Str)) = false ∧ (x == ("__classdict__" : Str)) = false := by
 unfold isLoc at h
 rw [Bool.and_eq_true, Bool.and_eq_true, Bool.not_eq_true', Bool.not_eq_true'] at h
 exact h.1
theorem glob_dbg {sc : Scope} {x : Str} (h : isGlob sc x = true) : (x == ("__debug__" : Str)) = false := by
 unfold isGlob at h
 rw [Bool.and_eq_true, Bool.not_eq_true'] at h
 exact h.1
section
variable {X : Cx} {F : Nat → Fn}
theorem pt_of {e : Expr} {f : Ev} (h : PE X e (tE X.K f)) (he : ∀ whole, isTrue e X.env whole = (do let v ← whole; standAt e.pos; holding [v] (truthy v)) := by intro _; rfl) : PT X e (tT X.K f) := pt_imp (pt_val h he) imp_tB
theorem pt_ifE {c a b : Expr} {fc fa fb : Ev} {pos : Pos} (hc : PT X c (tT X.K fc)) (ha : PT X a (tT X.K fa)) (hb : PT X b (tT X.K fb)) : PT X (.IfExp c a b pos) (tT X.K (cond fc fa fb)) := by
 intro pins s σ H Q I h
 obtain ⟨ad, ρ, st, d, st', E, S, e, p⟩ := h
 obtain ⟨k, st1, q, e⟩ := cond_cases e
 show wpAny _ _ (isTrue c X.env (eval c X.env) >>= fun t => if t then isTrue a X.env (eval a X.env) else isTrue b X.env (eval b X.env)) _ _ s
 refine wpAny_bind (thn (hc pins s σ H (fun k' H1 => k' = k ∧ ∃ ad1, Ext ad H ad1 H1 ∧ StOk X.K ad1 H1 st1) I ⟨ad, ρ, st, k, st1, E, S, q, fun ad1 H1 x1 S1 => ⟨rfl, ad1, x1, S1⟩⟩) fun t s1 ⟨H1, I1, et, ad1, x1, S1⟩ => ?_)
 subst et
 cases t with
 | true =>
  rw [if_pos rfl] at e ⊢
  exact ha pins s1 σ H1 Q I1 ⟨ad1, ρ, st1, d, st', E.mono x1, S1, e, fun ad2 H2 x2 S2 => p ad2 H2 (x1.trans x2) S2⟩
 | false =>
  rw [if_neg Bool.false_ne_true] at e ⊢
  exact hb pins s1 σ H1 Q I1 ⟨ad1, ρ, st1, d, st', E.mono x1, S1, e, fun ad2 H2 x2 S2 => p ad2 H2 (x1.trans x2) S2⟩
def ArgC : CE → Prop
 | .anil => True
 | .acons _ _ => True
 | _ => False
theorem arg_tup {c : CE} (h : ArgC c) {ρ : Env} {st st' : Store} {d : D} (e : ev F c ρ st = some (d, st')) : ∃ ds, d = .tup ds ∧ ds.length ≤ 1000 := by
 cases c with
 | anil => cases e; exact ⟨[], rfl, by decide⟩
 | acons a r =>
  have e : seq2 (ev F a) (ev F r) consD ρ st = some (d, st') := e
  unfold seq2 at e
  split at e
  ·split at e
   ·rename_i y st2 _
    cases y with
    | tup zs =>
     have e : (if zs.length < 1000 then some (D.tup (_ :: zs), st2) else none) = some (d, st') := e
     split at e
     ·rename_i hz
      cases e
      exact ⟨_, rfl, hz⟩
     ·cases e
    | _ => simp [consD] at e
   ·cases e
  ·cases e
 | _ => exact False.elim h
structure SE (X : Cx) (F : Nat → Fn) (e : Expr) (c : CE) : Prop where
 pe : PE X e (tE X.K (ev F c))
 pt : PT X e (tT X.K (ev F c))
theorem SE.of {e : Expr} {c : CE} (h : PE X e (tE X.K (ev F c))) (he : ∀ whole, isTrue e X.env whole = (do let v ← whole; standAt e.pos; holding [v] (truthy v)) := by intro _; rfl) : SE X F e c := ⟨h, pt_of h he⟩
theorem pw_of_or {op : BoolOp} {es : List Expr} {pos : Pos} {t : TT} (h : PT X (.BoolOp op es pos) t) : PW X (.BoolOp op es pos) t := fun _ pins s σ H Q I q => h pins s σ H Q I q
end
section
variable {ad : List Addr} {H : Hp} {p : Addr} {o : HO}
variable (ho : ∀ kvs, o ≠ .dT kvs)
include ho
end
section
variable {X : Cx} {F : Nat → Fn} {pos : Pos} {f : Expr → Option CE}
end
end Dp



namespace Dp
open PySem PySem.Spec PyProof.Rows L2
variable [ClsTab]
theorem bo_tuple : bootBuiltins "tuple" = some (.type "tuple") := by decide +kernel
theorem bo_list : bootBuiltins "list" = some (.type "list") := by decide +kernel
theorem bo_int : bootBuiltins "int" = some (.type "int") := by decide +kernel
theorem bo_bool : bootBuiltins "bool" = some (.type "bool") := by decide +kernel
theorem bo_str : bootBuiltins "str" = some (.type "str") := by decide +kernel
theorem bo_min : bootBuiltins "min" = some (.builtin "min") := by decide +kernel
theorem bo_max : bootBuiltins "max" = some (.builtin "max") := by decide +kernel
theorem bo_isinstance : bootBuiltins "isinstance" = some (.builtin "isinstance") := by decide +kernel
theorem bo_len : bootBuiltins "len" = some (.builtin "len") := by decide +kernel
section
variable {G : Gs} {F : Nat → Fn}
def SoundE (G : Gs) (F : Nat → Fn) (n : Nat) : Prop := ∀ X sc N, Cxt X G F sc N → ∀ e c, cE G n sc N e = some c → SE X F e c
def SoundA (G : Gs) (F : Nat → Fn) (n : Nat) : Prop := ∀ X sc N, Cxt X G F sc N → ∀ es c, cEs G n sc N es = some c → PA X es (tA X.K (ev F c)) ∧ ArgC c ∧ es.all isPlain = true ∧ (es = [] → c = .anil)
def SoundO (G : Gs) (F : Nat → Fn) (n : Nat) : Prop := ∀ X sc N, Cxt X G F sc N → ∀ e c, cO G n sc N e = some c → PO X e (tO X.K (ev F c))

theorem sE_const {X : Cx} {v : Const} {k : Nat} {pos : Pos} {c : CE} (h : CE.ofConst v = some c) : SE X F (.Constant v k pos) c := by
 cases v with
 | none => cases h; exact .of (pe_imp pe_non (imp_c fun _ _ => .non))
 | bool b => cases h; exact .of (pe_imp pe_bl (imp_c fun _ _ => .bl b))
 | int i => cases h; exact .of (pe_imp pe_int (imp_c fun _ _ => .int i))
 | str x => cases h; exact .of (pe_imp pe_str (imp_c fun _ _ => .str x))
 | _ => cases h
theorem sE_name {X : Cx} {sc : Scope} {N : List Str} {x : Str} {pos : Pos} {c : CE} (K : Cxt X G F sc N)
  (h : nameC G sc N x = some c) : SE X F (.Name x pos) c := by
 unfold nameC at h
 split at h
 ·rename_i hl
  cases q : N.idxOf? x with
  | none => rw [q] at h; cases h
  | some i =>
   rw [q] at h
   cases h
   obtain ⟨h1, h2⟩ := loc_dbg hl
   exact .of (pe_imp (pe_var (i := i) (by rw [K.hN]; exact idx_of q) (K.vis x hl) h1 h2) imp_var)
 ·split at h
  ·rename_i hg
   split at h
   ·rename_i d q
    cases h
    obtain ⟨v, u, hm, r, hd⟩ := K.gl x _ q
    exact .of (pe_imp (pe_glob (K.glb x hg) hm r (glob_dbg hg)) (imp_c hd))
   ·cases h
  ·cases h
theorem pa1 {X : Cx} {a : Expr} {t : TE} (hp : isPlain a = true) (ha : PE X a t) : PA X [a] (tCons t tNil) := pa_cons ha pa_nil (star_plain hp)
theorem pa2 {X : Cx} {a b : Expr} {t u : TE} (hp : isPlain a = true) (hq : isPlain b = true) (ha : PE X a t) (hb : PE X b u) : PA X [a, b] (tCons t (tCons u tNil)) := pa_cons ha (pa1 hq hb) (star_plain hp)
theorem sE_blt1 {X : Cx} {sc : Scope} {N : List Str} {f : Str} {a : Expr} {x c : CE} {p pos : Pos} (K : Cxt X G F sc N) (hg : isGlob sc f = true) (hm : X.mg f = none) (hp : isPlain a = true) (A : PE X a (tE X.K (ev F x))) (h : blt1 f x = some c) :
  PE X (.Call (.Name f p) [a] [] pos) (tE X.K (ev F c)) := by 
 have hG := K.glb f hg
 unfold blt1 at h
 split at h
 ·rename_i e; subst e; cases h
  exact pe_imp (pe_callB call_lenR hG hm bo_len (pa1 hp A) (by decide) (by decide) (star_plain hp) rfl) imp_blt1
 ·split at h
  ·rename_i e; subst e; cases h
   exact pe_imp (pe_callTy call_tupleR hG hm bo_tuple (pa1 hp A) (by decide) (by decide) (star_plain hp) rfl) imp_blt1
  ·split at h
   ·rename_i e; subst e; cases h
    exact pe_imp (pe_callTy call_listR hG hm bo_list (pa1 hp A) (by decide) (by decide) (star_plain hp) rfl) imp_blt1
   ·split at h
    ·rename_i e; subst e; cases h
     exact pe_imp (pe_callTy call_strR hG hm bo_str (pa1 hp A) (by decide) (by decide) (star_plain hp) rfl) imp_blt1
    ·cases h
theorem any1 {X : Cx} {b : Expr} {pos : Pos} (hq : isPlain b = true) : (backTo pos (starEach [b] X.env)).any (·.1) = false := any_plain (by rw [List.all_cons, hq]; rfl)
theorem sE_blt2 {X : Cx} {sc : Scope} {N : List Str} {f : Str} {a b : Expr} {x y c : CE} {p pos : Pos} (K : Cxt X G F sc N) (hg : isGlob sc f = true) (hm : X.mg f = none) (hp : isPlain a = true) (hq : isPlain b = true) (A : PE X a (tE X.K (ev F x))) (B : PE X b (tE X.K (ev F y)))
  (h : blt2 f x y = some c) : PE X (.Call (.Name f p) [a, b] [] pos) (tE X.K (ev F c)) := by
 have hG := K.glb f hg
 unfold blt2 at h
 split at h
 ·rename_i e; subst e; cases h
  exact pe_imp (pe_callB (call_minR K.calm) hG hm bo_min (pa2 hp hq A B) (by decide) (by decide) (star_plain hp) (any1 hq)) imp_blt2
 ·split at h
  ·rename_i e; subst e; cases h
   exact pe_imp (pe_callB (call_maxR K.calm) hG hm bo_max (pa2 hp hq A B) (by decide) (by decide) (star_plain hp) (any1 hq)) imp_blt2
  ·cases h
theorem imp_isi {K : PySem.W.Frag} {T : Ty} {fa : Ev} (σ : L2.St) (H : Hp) (Q : VK) (h : tE K (seq1 fa (isiR T)) σ H Q) :
  tCB (fun vs H Q => ∃ v, vs = [v, .ty (tyN T)] ∧ rC K (on1 (isiR T)) [v] H Q) (tCons (tE K fa) (tCons (tC (.ty (tyN T))) tNil)) σ H Q := by
 obtain ⟨ad, ρ, st, d, st', E, S, e, p⟩ := h
 unfold seq1 at e
 split at e
 ·rename_i x st1 q1
  exact ⟨ad, ρ, st, x, st1, E, S, q1, fun v1 ad1 H1 x1 S1 d1 => ⟨v1, rfl, ad1, st1, [x], d, st', S1, .cons d1 .nil, e, p.later x1⟩⟩
 ·cases e
theorem tyArg_pe {X : Cx} {sc : Scope} {N : List Str} {b : Expr} {T : Ty} (K : Cxt X G F sc N) (h : tyArg G sc b = some T) : isPlain b = true ∧ PE X b (tC (.ty (tyN T))) := by
 cases b with
 | Name t p =>
  have h2 : tyN0 G sc t = some T := h
  clear h
  unfold tyN0 at h2
  split at h2
  ·rename_i hg
   rw [Bool.and_eq_true] at hg
   have hm : X.mg t = none := by
    have z := hg.2
    unfold isBlt at z
    split at z
    ·rename_i q; exact K.gl t _ q
    ·cases z
   have hG := K.glb t hg.1
   refine ⟨rfl, ?_⟩
   unfold tyOf at h2
   split at h2
   ·rename_i e; subst e; cases h2
    exact pe_bltn hG hm bo_int rfl
   ·split at h2
    ·rename_i e; subst e; cases h2
     exact pe_bltn hG hm bo_bool rfl
    ·split at h2
     ·rename_i e; subst e; cases h2
      exact pe_bltn hG hm bo_str rfl
     ·split at h2
      ·rename_i e; subst e; cases h2
       exact pe_bltn hG hm bo_tuple rfl
      ·cases h2
  ·cases h2
 | _ => simp [tyArg] at h
theorem sE_isi {X : Cx} {sc : Scope} {N : List Str} {a b : Expr} {x : CE} {T : Ty} {p pos : Pos} (K : Cxt X G F sc N) (hg : isGlob sc "isinstance" = true) (hm : X.mg "isinstance" = none) (hp : isPlain a = true) (A : PE X a (tE X.K (ev F x))) (hT : tyArg G sc b = some T) :
  PE X (.Call (.Name "isinstance" p) [a, b] [] pos) (tE X.K (ev F (.isi T x))) := by
 obtain ⟨hq, B⟩ := tyArg_pe K hT
 exact pe_imp (pe_callB (call_isi (T := T)) (K.glb _ hg) hm bo_isinstance (pa2 hp hq A B) (by decide) (by decide) (star_plain hp) (any1 hq)) imp_isi
theorem sE_call {X : Cx} {sc : Scope} {N : List Str} {f : Str} {as : List Expr} {cs : CE} {i ps : Nat} {ds : List D} {p pos : Pos} (K : Cxt X G F sc N) (hg : isGlob sc f = true) (hG : G.lookup f = some (.fn i ps ds)) (hl : as.length ≤ ps ∧ ps ≤ as.length + ds.length)
  (A : PA X as (tA X.K (ev F cs)) ∧ ArgC cs ∧ as.all isPlain = true ∧ (as = [] → cs = .anil)) : PE X (.Call (.Name f p) as [] pos) (tE X.K (ev F (.call i cs (ds.drop (as.length + ds.length - ps))))) := by
 obtain ⟨k, fa, fd, pn, Fk, hr, hm, hk, hb⟩ := K.gl f _ hG
 obtain ⟨dvs, us, hd, hv, hbn⟩ := hb (as.length + ds.length - ps) (by omega)
 obtain ⟨PAs, _, hp, hn⟩ := A
 cases as with
 | nil =>
  refine pe_imp (pe_call0 (E := E0) Fk hr (K.glb f hg) hm hk hbn hv pass0 (glob_dbg hg)) fun σ H Q h => ?_
  rw [hn rfl] at h
  exact imp_anil σ H _ (imp_call (E := E0) hd σ H Q h)
 | cons e es =>
  rw [List.all_cons, Bool.and_eq_true] at hp
  exact pe_imp (pe_call (E := E0) Fk hr (K.glb f hg) hm hk hbn hv pass0 PAs (glob_dbg hg) (star_plain hp.1) (any_plain hp.2)) (imp_call hd)
theorem fnA_of {X : Cx} {sc : Scope} {N : List Str} {nm : Str} {b : Expr} {as : List Expr} (K : Cxt X G F sc N) (h : fnA G sc nm b = some as) : ∃ p pos, b = .Call (.Name nm p) as [] pos ∧ Gl X nm ∧ X.mg nm = none := by
 obtain ⟨q, h1, h2⟩ := Option.bind_eq_some_iff.mp h
 refine og_e h2 fun hc h3 => ?_
 obtain ⟨rfl, hg, hb⟩ := hc
 cases h3
 unfold callN at h1
 split at h1
 ·cases h1
  refine ⟨_, _, rfl, K.glb _ hg, ?_⟩
  unfold isBlt at hb
  split at hb
  ·rename_i q; exact K.gl _ _ q
  ·cases hb
 ·cases h1
theorem oneA_of {as : List Expr} {a : Expr} (h : oneA as = some a) : as = [a] := by
 cases as with
 | nil => cases h
 | cons x as => cases as with
  | nil => cases h; rfl
  | cons _ _ => cases h
theorem rangeArg_call {X : Cx} {sc : Scope} {N : List Str} {b e : Expr} (K : Cxt X G F sc N) (h : rangeArg G sc b = some e) : ∃ p pos, b = .Call (.Name "range" p) [e] [] pos ∧ Gl X "range" ∧ X.mg "range" = none := by
 obtain ⟨as, h1, h2⟩ := Option.bind_eq_some_iff.mp h
 rw [oneA_of h2] at h1
 exact fnA_of K h1
theorem sE_inR {X : Cx} {sc : Scope} {N : List Str} {a b e : Expr} {x y : CE} {op : CmpOp} {ng : Bool} {pos : Pos} (K : Cxt X G F sc N) (hb : rangeArg G sc b = some e) (hg : inOp op = some ng) (hp : isPlain e = true) (A : PE X a (tE X.K (ev F x))) (B : PE X e (tE X.K (ev F y))) : SE X F (.Compare a [op] [b] pos) (.inR ng x y) := by cases hg
theorem sE_tup {X : Cx} {sc : Scope} {N : List Str} {f : Str} {a e : Expr} {o : Option CE} {c : CE} {p pos : Pos} (K : Cxt X G F sc N) (hg : isGlob sc f = true) (hm : X.mg f = none) (hb : tupArg G sc f a = some e) (B : ∀ c, o = some c → isPlain e = true ∧ PE X e (tE X.K (ev F c))) (h : o.map CE.tupR = some c) : SE X F (.Call (.Name f p) [a] [] pos) c := by cases hb
theorem sE_lstR {X : Cx} {sc : Scope} {N : List Str} {f : Str} {a u v : Expr} {x y : CE} {p pos : Pos} (K : Cxt X G F sc N) (hg : isGlob sc f = true) (hm : X.mg f = none) (hb : lstArg G sc f a = some (u, v)) (hu : isPlain u = true) (hv : isPlain v = true) (A : PE X u (tE X.K (ev F x))) (B : PE X v (tE X.K (ev F y))) : PE X (.Call (.Name f p) [a] [] pos) (tE X.K (ev F (.lstR x y))) := by cases hb
theorem sE_look {X : Cx} {sc : Scope} {N : List Str} {a b : Expr} {y : CE} {ks : List Str} {ds : List D} {pos : Pos} (K : Cxt X G F sc N) (hn : lookN G sc a = some (ks, ds)) (hp : isPlain b = true) (B : PE X b (tE X.K (ev F y))) : PE X (.Subscript a b pos) (tE X.K (ev F (.look ks ds y))) := by cases hn
theorem sE_isc {X : Cx} {sc : Scope} {N : List Str} {a b : Expr} {x : CE} {l : List Nat} {p pos : Pos} (K : Cxt X G F sc N) (hg : isGlob sc "isinstance" = true) (hm : X.mg "isinstance" = none) (hp : isPlain a = true) (A : PE X a (tE X.K (ev F x))) (hT : clsArg G sc b = some l) :
  PE X (.Call (.Name "isinstance" p) [a, b] [] pos) (tE X.K (ev F (.isc l x))) := by cases hT
section
open PySem.SeqAt PySem.MeetsSeq PySem.MeetsSeq2 PySem.MeetsSeq3 PySem.SeqRoads2
end
def rJoin (K : PySem.W.Frag) : V → List V → Hp → VK → Prop := fun x xs H Q => ∃ z a ys, x = .str z ∧ xs = [.ref a] ∧ SqL K H a (ys.map V.str) ∧ (gluR z ys).length ≤ sizeMax ∧ Q (.str ⟨(gluL z ys).toArray⟩) H
theorem strs_of {K : PySem.W.Frag} {ad : List Addr} {H : Hp} : ∀ {ys : List V} {ds : List D} {xs : List Str}, Dens K ad H ys ds → strsD ds = some xs → ys = xs.map V.str
 | _, _, _, .nil, h => by cases h; rfl
 | _, d :: ds, xs, .cons a r, h => by
  cases d with
  | str x =>
   obtain ⟨zs, h1, h2⟩ := Option.map_eq_some_iff.mp (show (strsD ds).map (x :: ·) = some xs from h)
   cases h2
   cases a
   rw [strs_of r h1]
   rfl
  | _ => cases h
theorem imp_join {K : PySem.W.Frag} {fa fb : Ev} (σ : L2.St) (H : Hp) (Q : VK) (h : tE K (seq2 fa fb joinD) σ H Q) : tBM K "str" (rJoin K) (tE K fa) (tCons (tE K fb) tNil) σ H Q := by
 obtain ⟨ad, ρ, st, d, st', E, S, e, p⟩ := h
 unfold seq2 at e
 split at e
 ·rename_i dx st1 q1
  split at e
  ·rename_i dy st2 q2
   unfold joinD at e
   split at e
   ·rename_i s a
    split at e
    ·rename_i bb ds q3
     have core : ∀ {xs : List Str} {d' : D} {s' : Store}, strsD ds = some xs → (gluR s xs).length ≤ sizeMax → Post K ad H (.str ⟨(gluL s xs).toArray⟩) st2 Q → tBM K "str" (rJoin K) (tE K fa) (tCons (tE K fb) tNil) σ H Q := fun {xs d' s'} hx hz p => by
      refine ⟨ad, ρ, st, .str s, st1, E, S, q1, fun v ad1 H1 x1 S1 d1 => ?_⟩
      cases d1
      refine ⟨rfl, ad1, ρ, st1, .lst a, _, E.mono x1, S1, q2, fun w ad2 H2 x2 S2 d2 => ?_⟩
      obtain ⟨l, rfl, hl⟩ := d2.ofLst
      obtain ⟨ys, rv, sq⟩ := S2.list hl q3
      have ey := strs_of rv hx
      subst ey
      exact ⟨s, l, xs, rfl, rfl, sq, hz, (p.later (x1.trans x2)).at S2 (.str _)⟩
     split at e
     ·rename_i hs
      unfold joinL at e
      split at e
      ·rename_i xs hx
       split at e
       ·rename_i hz
        cases e
        exact core (d' := .non) (s' := []) hx (by rw [gluR_nil hs]; exact hz) (by rw [gluL_nil hs]; exact p)
       ·cases e
      ·cases e
     ·unfold joinG at e
      split at e
      ·rename_i xs hx
       split at e
       ·rename_i hz
        cases e
        exact core (d' := .non) (s' := []) hx hz p
       ·cases e
      ·cases e
    ·cases e
   ·cases e
  ·cases e
 ·cases e
theorem sE_join {X : Cx} {v : Const} {kd : Nat} {kp ap cp : Pos} {a : Expr} {x z : CE} (hline : (ap.endLine == cp.line) = true) (hp : isPlain a = true) (B : PE X (.Constant v kd kp) (tE X.K (ev F x))) (A : PE X a (tE X.K (ev F z))) : PE X (.Call (.Attribute (.Constant v kd kp) "join" ap) [a] [] cp) (tE X.K (ev F (.joinE x z))) :=
 pe_imp (pe_bm PySem.F.plainAttrs_str PySem.F.slot_str_join PySem.F.type_str_join mt_join B (pa1 hp A) rfl (by rw [star_plain hp]; rfl) hline (star_plain hp) rfl) imp_join
theorem sliceOf_eq {b : Expr} {p : Option Expr × Option Expr} (q : sliceOf b = some p) : ∃ p2, b = .Slice p.1 p.2 none p2 := by
 unfold sliceOf at q
 split at q
 ·cases q; exact ⟨_, rfl⟩
 ·cases q
theorem sE_un {X : Cx} {op : UnaryOp} {a : Expr} {o : Option CE} {c : CE} {pos : Pos} (A : ∀ x, o = some x → SE X F a x) (h : unC op o = some c) : SE X F (.UnaryOp op a pos) c := by
 cases op with
 | Not => exact o1_e (P := SE X F _) (show o.map CE.not = some c from h) fun x hx => ⟨pe_imp (pe_not (A x hx).pe) imp_notV, pt_imp (pt_not (A x hx).pt) imp_notT⟩
 | USub => exact o1_e (P := SE X F _) (show o.map CE.neg = some c from h) fun x hx => .of (pe_imp (pe_un un_negD (A x hx).pe) imp_un)
 | _ => cases h
section
variable {X : Cx} {sc : Scope} {N : List Str} {n : Nat} {c : CE} (K : Cxt X G F sc N) (hf : ∀ e c, cE G n sc N e = some c → SE X F e c)
include K hf
theorem sE_cmp {a : Expr} {ops : List CmpOp} {bs : List Expr} {pos : Pos} (h : cmpC G sc (cE G n sc N) (cE G n sc N a) ops bs = some c) : SE X F (.Compare a ops bs pos) c := by
 cases ops with
 | nil => cases h
 | cons op ops => cases bs with
  | nil => cases ops with
   | nil => cases h
   | cons _ r => cases r <;> cases h
  | cons b bs => cases ops with
   | nil => cases bs with
    | cons _ _ => cases h
    | nil =>
     replace h : (match rangeArg G sc b with
      | some e => o3 CE.inR (inOp op) (cE G n sc N a) (cE G n sc N e)
      | none => o2 (CE.cmp op) (cE G n sc N a) (cE G n sc N b)) = some c := h
     cases he : rangeArg G sc b with
     | some e =>
      rw [he] at h
      exact o3_e (P := SE X F _) h fun ng x y hg hx hy => sE_inR K he hg (plain_of hy) (hf a x hx).pe (hf e y hy).pe
     | none =>
      rw [he] at h
      exact o2_e (P := SE X F _) h fun x y hx hy => ⟨pe_imp (pe_cmpR (op_cmpD K.hu) (hf a x hx).pe (hf b y hy).pe (marks_plain (plain_of hy))) imp_op, pt_imp (pt_cmpR (op_cmpD K.hu) (hf a x hx).pe (hf b y hy).pe (marks_plain (plain_of hy))) fun σ H Q q => imp_op σ H _ (imp_tB σ H Q q)⟩
   | cons op2 ops => cases h
omit K in
theorem sE_bool {op : BoolOp} {vs : List Expr} {pos : Pos} (h : boolC (cE G n sc N) op pos vs = some c) : SE X F (.BoolOp op vs pos) c := by
 cases vs with
 | nil => cases h
 | cons a r => cases r with
  | nil =>
   have A := hf a c h
   refine ⟨pe_one A.pe, ?_⟩
   cases op with
   | And => exact (pw_and1 A.pt).pt
   | Or => exact (pw_or1 A.pt).pt
  | cons b r => cases op with
   | And => exact o2_e (P := SE X F _) (show o2 CE.and (cE G n sc N a) (cE G n sc N (.BoolOp .And (b :: r) pos)) = some c from h) fun x y hx hy => ⟨pe_imp (pe_and (hf a x hx).pe (hf _ y hy).pe) imp_andV, pt_imp (pw_and (hf a x hx).pt (pw_of_or (hf _ y hy).pt)).pt imp_andT⟩
   | Or => exact o2_e (P := SE X F _) (show o2 CE.or (cE G n sc N a) (cE G n sc N (.BoolOp .Or (b :: r) pos)) = some c from h) fun x y hx hy => ⟨pe_imp (pe_or (hf a x hx).pe (hf _ y hy).pe) imp_orV, pt_imp (pw_or (hf a x hx).pt (pw_of_or (hf _ y hy).pt)).pt imp_orT⟩
theorem sE_sub (ihO : SoundO G F n) {a b : Expr} {pos : Pos} (h : subC G sc (cE G n sc N) (cO G n sc N) a b = some c) : SE X F (.Subscript a b pos) c := by
 unfold subC at h
 cases q : sliceOf b with
 | some p =>
  obtain ⟨lo, hi⟩ := p
  rw [q] at h
  obtain ⟨p2, rfl⟩ := sliceOf_eq q
  exact o3_e (P := SE X F _) h fun x l u hx hl hu => .of (pe_imp (pe_slice sl_D (hf a x hx).pe (ihO X sc N K lo l hl) (ihO X sc N K hi u hu)) imp_slice)
 | none =>
  rw [q] at h
  dsimp only at h
  cases q' : revOf b with
  | some s =>
   cases q'
  | none =>
   rw [q'] at h
   dsimp only at h
   cases hn : lookN G sc a with
   | some p =>
    obtain ⟨ks, ds⟩ := p
    rw [hn] at h
    exact o1_e (P := SE X F _) h fun y hy => .of (sE_look K hn (plain_of hy) (hf b y hy).pe)
   | none =>
    rw [hn] at h
    exact o2_e (P := SE X F _) h fun x y hx hy => .of (pe_imp (pe_ix (ix_D K.hu) (hf a x hx).pe (hf b y hy).pe (ix_plain (plain_of hy))) imp_op)
theorem sE_bltC1 {f : Str} {a : Expr} {p pos : Pos} (hg : isGlob sc f = true) (hm : X.mg f = none) (h : bltC1 G sc f a (cE G n sc N) = some c) : SE X F (.Call (.Name f p) [a] [] pos) c := by
 unfold bltC1 at h
 cases he : tupArg G sc f a with
 | some e =>
  rw [he] at h
  exact sE_tup K hg hm he (fun c hc => ⟨plain_of hc, (hf e c hc).pe⟩) h
 | none =>
  rw [he] at h
  dsimp only at h
  cases hl : lstArg G sc f a with
  | some q =>
   obtain ⟨u, v⟩ := q
   rw [hl] at h
   exact o2_e (P := SE X F _) h fun x y hx hy => .of (sE_lstR K hg hm hl (plain_of hx) (plain_of hy) (hf u x hx).pe (hf v y hy).pe)
  | none =>
   rw [hl] at h
   exact j_e h fun h => o1_e (P := fun o => o = some c → SE X F _ c) h (fun x hx h => .of (sE_blt1 K hg hm (plain_of hx) (hf a x hx).pe h)) rfl
theorem sE_bltC2 {f : Str} {a b : Expr} {p pos : Pos} (hg : isGlob sc f = true) (hm : X.mg f = none) (h : bltC2 G sc f a b (cE G n sc N) = some c) : SE X F (.Call (.Name f p) [a, b] [] pos) c := by
 unfold bltC2 at h
 by_cases ei : f = "isinstance"
 ·subst ei
  rw [if_pos rfl] at h
  cases hl : clsArg G sc b with
  | some l =>
   rw [hl] at h
   exact o1_e (P := SE X F _) h fun x q => .of (sE_isc K hg hm (plain_of q) (hf a x q).pe hl)
  | none =>
   rw [hl] at h
   exact o2_e (P := SE X F _) h fun x T hx hT => .of (sE_isi K hg hm (plain_of hx) (hf a x hx).pe hT)
 ·rw [if_neg ei] at h
  exact j_e h fun h => o2_e (P := fun o => o = some c → SE X F _ c) h (fun x y hx hy h => .of (sE_blt2 K hg hm (plain_of hx) (plain_of hy) (hf a x hx).pe (hf b y hy).pe h)) rfl
theorem sE_callC (ihA : SoundA G F n) {f : Str} {as : List Expr} {p pos : Pos} (h : callC G sc f as (cEs G n sc N as) (cE G n sc N) = some c) : SE X F (.Call (.Name f p) as [] pos) c := by
 unfold callC at h
 cases hg : isGlob sc f with
 | false => rw [hg] at h; cases h
 | true =>
 rw [hg, if_pos rfl] at h
 cases hG : G.lookup f with
 | none => rw [hG] at h; cases h
 | some g =>
  rw [hG] at h
  cases g with
  | fn i ps ds => exact og_e h fun hl h => o1_e (P := SE X F _) h fun cs hcs => .of (sE_call K hg hG hl (ihA X sc N K as cs hcs))
  | blt =>
   have hm : X.mg f = none := K.gl f _ hG
   cases as with
   | nil => cases h
   | cons a as => cases as with
    | nil => exact sE_bltC1 K hf hg hm h
    | cons b as => cases as with
     | nil => exact sE_bltC2 K hf hg hm h
     | cons _ _ => cases h
  | _ => cases h
theorem sE_attr (ihA : SoundA G F n) {ob : Expr} {m : Str} {ap pos : Pos} {as : List Expr} (h : attrC G ob m ap as pos (cEs G n sc N as) (cE G n sc N) = some c) : SE X F (.Call (.Attribute ob m ap) as [] pos) c := by
 cases ob with
 | Constant v kd kp => cases as with
  | nil => cases h
  | cons a as => cases as with
   | cons _ _ => cases h
   | nil =>
    refine og_e h fun hc h => o2_e (P := SE X F _) h fun x z hx hz => ?_
    obtain ⟨rfl, hline⟩ := hc
    exact .of (sE_join hline (plain_of hz) (hf _ x hx).pe (hf a z hz).pe)
 | _ => cases h
end
theorem sound_step {n : Nat} (ihE : SoundE G F n) (ihA : SoundA G F n) (ihO : SoundO G F n)
  (hcomp : ∀ X sc N, Cxt X G F sc N → ∀ elt gens sc2 pos c, cE G (n + 1) sc N (.ListComp elt gens sc2 pos) = some c → SE X F (.ListComp elt gens sc2 pos) c) : SoundE G F (n + 1) := by
 intro X sc N K e c h
 have hf := ihE X sc N K
 have no : ∀ {P : Prop}, (none : Option CE) = some c → P := fun z => nomatch z
 cases e with
 | Constant v k pos => exact sE_const h
 | Name x pos => exact sE_name K h
 | BinOp a op b pos => exact o2_e (P := SE X F _) (show o2 (CE.bin op) (cE G n sc N a) (cE G n sc N b) = some c from h) fun x y hx hy => .of (pe_imp (pe_op op_binD (hf a x hx).pe (hf b y hy).pe) imp_op)
 | UnaryOp op a pos => exact sE_un (hf a) h
 | Compare a ops bs pos => exact sE_cmp K hf h
 | BoolOp op vs pos => exact sE_bool hf h
 | IfExp t a b pos => exact o3_e (P := SE X F _) (show o3 CE.ife (cE G n sc N t) (cE G n sc N a) (cE G n sc N b) = some c from h) fun z x y hz hx hy => ⟨pe_imp (pe_ifExp (hf t z hz).pt (hf a x hx).pe (hf b y hy).pe) imp_if, pt_ifE (hf t z hz).pt (hf a x hx).pt (hf b y hy).pt⟩
 | Tuple es k pos =>
  refine o1_e (P := SE X F _) (show (cEs G n sc N es).map CE.tupE = some c from h) fun x q => ?_
  obtain ⟨A, hA, _, _⟩ := ihA X sc N K es x q
  exact .of (pe_imp (pe_tup A) (imp_tup (fun ρ st ds st' e => by obtain ⟨ds', z, hz⟩ := arg_tup hA e; cases z; exact hz) fun ρ st d st' e => by obtain ⟨ds', z, hz⟩ := arg_tup hA e; exact ⟨ds', z⟩))
 | List es pos =>
  refine o1_e (P := SE X F _) (show (cEs G n sc N es).map CE.lstE = some c from h) fun x q => ?_
  obtain ⟨A, hA, _, _⟩ := ihA X sc N K es x q
  exact .of (pe_imp (pe_lst A) (imp_lst fun ρ st ds st' e => by obtain ⟨ds', z, hz⟩ := arg_tup hA e; cases z; exact hz))
 | Subscript a b pos => exact sE_sub K hf ihO h
 | Call f as kws pos => cases kws with
  | cons _ _ => exact no h
  | nil => cases f with
   | Attribute ob m ap => exact sE_attr K hf ihA h
   | Name f p => exact sE_callC K hf ihA h
   | _ => exact no h
 | ListComp elt gens sc2 pos => exact hcomp X sc N K elt gens sc2 pos c h
 | _ => exact no h
theorem soundA_step {n : Nat} (ihE : SoundE G F n) (ihA : SoundA G F n) : SoundA G F (n + 1) := by
 intro X sc N K es c h
 cases es with
 | nil =>
  simp only [cEs] at h
  cases h
  exact ⟨pa_imp pa_nil imp_anil, trivial, rfl, fun _ => rfl⟩
 | cons e es =>
  refine o2_e (P := fun c => PA X _ (tA X.K (ev F c)) ∧ ArgC c ∧ _ ∧ (_ → c = .anil)) (show o2 CE.acons (cE G n sc N e) (cEs G n sc N es) = some c from h) fun x r hx hr => ?_
  obtain ⟨A, hA, hp, _⟩ := ihA X sc N K es r hr
  exact ⟨pa_imp (pa_cons (ihE X sc N K e x hx).pe A (star_plain (plain_of hx))) imp_acons, trivial, by rw [List.all_cons, hp, plain_of hx]; rfl, fun z => nomatch z⟩
theorem soundO_step {n : Nat} (ihE : SoundE G F n) : SoundO G F (n + 1) := by
 intro X sc N K e c h
 cases e with
 | none =>
  simp only [cO] at h
  cases h
  exact po_imp po_none imp_nop
 | some e =>
  simp only [cO] at h
  cases q : cE G n sc N e with
  | none => rw [q] at h; cases h
  | some x =>
   rw [q] at h
   cases h
   refine po_imp (po_some (ihE X sc N K e x q).pe) fun σ H Q hq => ?_
   obtain ⟨ad, ρ, st, d, st', E, S, e1, p⟩ := hq
   have e1 : seq1 (ev F x) partD ρ st = some (d, st') := e1
   unfold seq1 at e1
   split at e1
   ·rename_i y st1 q1
    cases y with
    | int i =>
     cases e1
     rcases p with ⟨z, _⟩ | ⟨j, z, p⟩
     ·cases z
     ·cases z
      exact ⟨ad, ρ, st, .int i, _, E, S, q1, fun v ad' H' x S' d' => ⟨i, d'.ofInt, p ad' H' x S'⟩⟩
    | _ => simp [partD] at e1
   ·cases e1
end
end Dp



namespace Dp
open PySem PySem.Spec PyProof.Rows L2
variable [ClsTab]
theorem b_e {α β : Type} {P : Prop} {o : Option α} {f : α → Option β} {c : β} (h : o.bind f = some c) (k : ∀ x, o = some x → f x = some c → P) : P := by
 cases o with
 | none => cases h
 | some x => exact k x rfl h
theorem ps_or {X : Cx} {s : Stmt} {t u : TS} (h1 : PS X s t) (h2 : PS X s u) : PS X s (fun D σ H => t D σ H ∨ u D σ H) := fun pins s σ H D I q => q.elim (h1 pins s σ H D I) (h2 pins s σ H D I)
theorem swaps_plain {e : Expr} {tg : Option Expr} {l : Nat} {env : PySem.Env} (h : isComp e = false) : swapsWith e tg l env = pure false := by
 cases e <;> first | rfl | cases h
theorem sole_plain {e tg : Expr} {l : Nat} {env : PySem.Env} (h : isComp e = false) : swapsWithSole [tg] e l env = pure false := swaps_plain h
theorem assign_sub {o k : Expr} {p : Pos} {env : PySem.Env} (h : isPlain k = true) : ∀ v, assign (.Subscript o k p) env v = (do
   let ov ← holding [v] (eval o env)
   let iv ← holding [v, ov] (eval k env)
   standAt p
   holding [v, ov, iv] (setItem ov iv v)
   release [v, ov, iv] []) := by
 cases k <;> first | (intro _; rfl) | cases h
theorem stores_sub {o k e : Expr} {p : Pos} {env : PySem.Env} : swappedStores [.Subscript o k p] e env = pure none := by
 cases e <;> rfl
theorem folded_plain {e : Expr} {env : PySem.Env} (h : isPlain e = true) : ∀ x, foldedSetIterable e env x = pure x := by
 cases e <;> first | (intro _; rfl) | cases h
structure CxtS (X : Cx) (G : Gs) (F : Nat → Fn) (sc : Scope) (N : List Str) : Prop extends Cxt X G F sc N where
 nd : N.Nodup
 loc : ∀ x ∈ N, Loc X.env.scope x
 fn : ∀ x, X.fn x = true
section
variable {G : Gs} {F : Nat → Fn}
def SoundS (G : Gs) (F : Nat → Fn) (n : Nat) : Prop := ∀ X sc N, CxtS X G F sc N → ∀ s c, cS G n sc N s = some c → PS X s (tS X.K (ex F c))
def SoundSs (G : Gs) (F : Nat → Fn) (n : Nat) : Prop := ∀ X sc N, CxtS X G F sc N → ∀ s c, cSs G n sc N s = some c → PSs X s (tS X.K (ex F c))
theorem idx_mem {N : List Str} {x : Str} {i : Nat} (h : N.idxOf? x = some i) : x ∈ N := List.mem_of_getElem? (idx_of h)
theorem pg_at {X : Cx} {sc : Scope} {N : List Str} {x : Str} {i : Nat} {p : Pos} (K : CxtS X G F sc N) (h : N.idxOf? x = some i) : PG X (.Name x p) (gName i) :=
 pg_name (by rw [K.hN]; exact K.nd) (by rw [K.hN]; exact idx_of h) (K.loc x (idx_mem h)) (.inl (K.fn x))
theorem passes {X : Cx} {sc : Scope} {N : List Str} (K : CxtS X G F sc N) : PassesOwn (model X.prog X.w) X.A X.env X.xe := by
 rw [K.nx]; exact PassesOwn.never
theorem pe_at {X : Cx} {sc : Scope} {N : List Str} {x : Str} {i : Nat} {p : Pos} (K : Cxt X G F sc N) (hl : isLoc sc x = true) (hi : N.idxOf? x = some i) : PE X (.Name x p) (tVar i) :=
 pe_var (by rw [K.hN]; exact idx_of hi) (K.vis _ hl) (loc_dbg hl).1 (loc_dbg hl).2
theorem rangeArg_pi {X : Cx} {sc : Scope} {N : List Str} {it a tg : Expr} {x : CE} (K : Cxt X G F sc N) (h : rangeArg G sc it = some a) (hp : isPlain a = true) (A : PE X a (tE X.K (ev F x))) : isPlain it = true ∧ PI X tg it (iRng1 (tCons (tE X.K (ev F x)) tNil)) := by
 obtain ⟨_, _, rfl, hg, hm⟩ := rangeArg_call K h
 exact ⟨rfl, pi_range1 hg hm (pa1 hp A) (star_plain hp)⟩
def CompAs (G : Gs) (F : Nat → Fn) (n : Nat) : Prop := ∀ X sc N, CxtS X G F sc N → ∀ (x : Str) (i : Nat) (p : Pos) elt gens sc2 epos (pos : Pos) c, N.idxOf? x = some i → cE G n sc N (.ListComp elt gens sc2 epos) = some c →
 swapsWith (.ListComp elt gens sc2 epos) (some (.Name x p)) pos.line X.env = pure true → PS X (.Assign [.Name x p] (.ListComp elt gens sc2 epos) pos) (tAsg (tE X.K (ev F c)) (gName i))
theorem swaps_comp {elt : Expr} {gens : List Comprehension} {sc2 : Scope} {epos p : Pos} {x : Str} {l : Nat} {env : PySem.Env} : ∃ b : Bool, swapsWith (.ListComp elt gens sc2 epos) (some (.Name x p)) l env = pure b := ⟨_, rfl⟩
theorem not_comp {n : Nat} {sc : Scope} {N : List Str} {e : Expr} {c : CE} (h : cE G n sc N e = some c) : isComp e = false ∨ ∃ elt gens sc2 epos, e = .ListComp elt gens sc2 epos := by
 cases n with
 | zero => exact nomatch (show (none : Option CE) = some c from h)
 | succ n => cases e <;> first | exact .inl rfl | exact .inr ⟨_, _, _, _, rfl⟩ | exact nomatch (show (none : Option CE) = some c from h)
theorem sS_asg {n : Nat} (ihE : SoundE G F n) (hA : CompAs G F n) {X : Cx} {sc : Scope} {N : List Str} (K : CxtS X G F sc N) {c : CS} {x : Str} {e : Expr} {p pos : Pos} (h : o2 CS.set (N.idxOf? x) (cE G n sc N e) = some c) : PS X (.Assign [.Name x p] e pos) (tS X.K (ex F c)) := by
 refine o2_e (P := fun c => PS X _ (tS X.K (ex F c))) h fun i y hi hx => ?_
 have pl : ∀ hs, PS X (.Assign [.Name x p] e pos) (tAsg (tE X.K (ev F y)) (gName i)) := fun hs => ps_set (by rw [K.hN]; exact K.nd) (by rw [K.hN]; exact idx_of hi) (K.loc _ (idx_mem hi)) (ihE X sc N K.toCxt _ y hx).pe hs (.inl (K.fn _))
 rcases not_comp hx with hc | ⟨elt, gens, sc2, epos, rfl⟩
 ·exact ps_imp (pl (swaps_plain hc)) imp_set
 ·obtain ⟨b, hb⟩ := swaps_comp (elt := elt) (gens := gens) (sc2 := sc2) (epos := epos) (p := p) (x := x) (l := pos.line) (env := X.env)
  cases b with
  | false => exact ps_imp (pl hb) imp_set
  | true => exact ps_imp (hA X sc N K _ i p elt gens sc2 epos pos y hi hx hb) imp_set
theorem stores_tup {ts : List Expr} {k : Nat} {tp : Pos} {e : Expr} {env : PySem.Env} (h : isTup e = false) : swappedStores [.Tuple ts k tp] e env = pure none := by
 cases e with
 | Tuple => cases h
 | _ => rfl
theorem sS_set2 {n : Nat} (ihE : SoundE G F n) {X : Cx} {sc : Scope} {N : List Str} (K : CxtS X G F sc N) {c : CS} {x y : Str} {e : Expr} {p p2 tp pos : Pos} {ctx : Nat} (h : og ((isComp e || isTup e) = false) (o3 (fun i j c => og (i ≠ j) (some (CS.set2 i j c))) (N.idxOf? x) (N.idxOf? y) (cE G n sc N e)).join = some c) : PS X (.Assign [.Tuple [.Name x p, .Name y p2] ctx tp] e pos) (tS X.K (ex F c)) := by
 refine og_e h fun hc h => j_e h fun h => o3_e (P := fun o => o = some c → PS X _ (tS X.K (ex F c))) h (fun i j ce hi hj hx h => og_e h fun _ h => ?_) rfl
 cases h
 rw [Bool.or_eq_false_iff] at hc
 exact ps_imp (ps_asg (ihE X sc N K.toCxt _ ce hx).pe (pg_tup K.calm (pgs_cons (pg_at K hi) (pgs_cons (pg_at K hj) pgs_nil))) (sole_plain hc.1) (stores_tup hc.2)) imp_set2
theorem sS_set3 {n : Nat} (ihE : SoundE G F n) {X : Cx} {sc : Scope} {N : List Str} (K : CxtS X G F sc N) {c : CS} {x y z : Str} {e : Expr} {p p2 p3 tp pos : Pos} {ctx : Nat} (h : og ((isComp e || isTup e) = false) (o3 (fun i j (p : Nat × CE) => CS.set3 i j p.1 p.2) (N.idxOf? x) (N.idxOf? y) (o2 Prod.mk (N.idxOf? z) (cE G n sc N e))) = some c) : PS X (.Assign [.Tuple [.Name x p, .Name y p2, .Name z p3] ctx tp] e pos) (tS X.K (ex F c)) := by
 refine og_e h fun hc h => o3_e (P := fun c => PS X _ (tS X.K (ex F c))) h fun i j q hi hj hq => o2_e (P := fun q => PS X _ (tS X.K (ex F (.set3 i j q.1 q.2)))) hq fun l ce hl hx => ?_
 rw [Bool.or_eq_false_iff] at hc
 exact ps_imp (ps_asg (ihE X sc N K.toCxt _ ce hx).pe (pg_tup K.calm (pgs_cons (pg_at K hi) (pgs_cons (pg_at K hj) (pgs_cons (pg_at K hl) pgs_nil)))) (sole_plain hc.1) (stores_tup hc.2)) imp_set3
theorem sS_act {n : Nat} (ihE : SoundE G F n) {X : Cx} {sc : Scope} {N : List Str} (K : CxtS X G F sc N) {c : CS} {f : Str} {fp cp pos : Pos} {as : List Expr} {kw : List Keyword} (h : (cE G n sc N (.Call (.Name f fp) as kw cp)).map CS.act = some c) : PS X (.Expr (.Call (.Name f fp) as kw cp) pos) (tS X.K (ex F c)) := by
 obtain ⟨ce, hx, rfl⟩ := Option.map_eq_some_iff.mp h
 exact ps_imp (ps_expr (ihE X sc N K.toCxt _ ce hx).pe rfl) imp_act
theorem sS_put {n : Nat} (ihE : SoundE G F n) {X : Cx} {sc : Scope} {N : List Str} (K : CxtS X G F sc N) {c : CS} {x : Str} {k e : Expr} {p q pos : Pos} (h : putC sc N x k e (cE G n sc N) = some c) : PS X (.Assign [.Subscript (.Name x p) k q] e pos) (tS X.K (ex F c)) :=
 og_e h fun hc h => by
 cases hp : pairE k with
 | some ab =>
  cases hp
 | none =>
 rw [hp] at h
 exact o3_e (P := fun c => PS X _ (tS X.K (ex F c))) h fun _ ck y hi hck hx => ps_imp (ps_asg (ihE X sc N K.toCxt _ y hx).pe (pg_sub (pe_at K.toCxt hc.2.2 hi) (ihE X sc N K.toCxt _ ck hck).pe set_list (assign_sub (plain_of hck))) (sole_plain hc.1) stores_sub) imp_put
theorem sS_ret {n : Nat} (ihE : SoundE G F n) {X : Cx} {sc : Scope} {N : List Str} (K : CxtS X G F sc N) {c : CS} {e : Expr} {pos : Pos} (h : (cE G n sc N e).map CS.ret = some c) : PS X (.Return (some e) pos) (tS X.K (ex F c)) :=
 o1_e (P := fun c => PS X _ (tS X.K (ex F c))) h fun x q => ps_imp (ps_ret (ihE X sc N K.toCxt _ x q).pe) imp_ret
theorem sS_if {n : Nat} (ihE : SoundE G F n) (ihS : SoundSs G F n) {X : Cx} {sc : Scope} {N : List Str} (K : CxtS X G F sc N) {c : CS} {e : Expr} {a b : List Stmt} {pos : Pos} (h : o3 CS.ite (cE G n sc N e) (cSs G n sc N a) (cSs G n sc N b) = some c) : PS X (.If e a b pos) (tS X.K (ex F c)) :=
 o3_e (P := fun c => PS X _ (tS X.K (ex F c))) h fun cc ca cb hc ha hb => ps_imp (ps_if (ihE X sc N K.toCxt _ cc hc).pt (ihS X sc N K _ ca ha) (ihS X sc N K _ cb hb)) imp_ite
theorem sS_for3 {n : Nat} (ihA : SoundA G F n) (ihS : SoundSs G F n) {X : Cx} {sc : Scope} {N : List Str} (K : CxtS X G F sc N) {c : CS} {x : Str} {it : Expr} {as : List Expr} {b : List Stmt} {p pos : Pos} (hr : rangeArgs G sc it = some as) (h : o3 CS.for3 (N.idxOf? x) (cEs G n sc N as) (cSs G n sc N b) = some c) : PS X (.For (.Name x p) it b [] pos) (tS X.K (ex F c)) := by cases hr
theorem sS_for1 {n : Nat} (ihE : SoundE G F n) (ihS : SoundSs G F n) {X : Cx} {sc : Scope} {N : List Str} (K : CxtS X G F sc N) {c : CS} {x : Str} {it : Expr} {b : List Stmt} {p pos : Pos} (h : (match rangeArg G sc it with
   | some a => o3 (fun i c b => CS.for1 i true c b) (N.idxOf? x) (cE G n sc N a) (cSs G n sc N b)
   | none => o3 (fun i c b => CS.for1 i false c b) (N.idxOf? x) (cE G n sc N it) (cSs G n sc N b)) = some c) : PS X (.For (.Name x p) it b [] pos) (tS X.K (ex F c)) := by
 cases ha : rangeArg G sc it with
 | some a =>
  rw [ha] at h
  refine o3_e (P := fun c => PS X _ (tS X.K (ex F c))) h fun i ci cb hi q hb => ?_
  obtain ⟨hp, pi⟩ := rangeArg_pi K.toCxt ha (plain_of q) (ihE X sc N K.toCxt a _ q).pe
  exact ps_imp (ps_for (passes K) K.calm pi (pg_at K hi) (ihS X sc N K _ cb hb) (folded_plain hp)) imp_forR
 | none =>
  rw [ha] at h
  refine o3_e (P := fun c => PS X _ (tS X.K (ex F c))) h fun i ci cb hi q hb => ?_
  have A := (ihE X sc N K.toCxt _ _ q).pe
  have hf := folded_plain (env := X.env) (plain_of q)
  exact ps_imp (ps_or (ps_for (passes K) K.calm (pi_tup A) (pg_at K hi) (ihS X sc N K _ cb hb) hf) (ps_for (passes K) K.calm (pi_list A) (pg_at K hi) (ihS X sc N K _ cb hb) hf)) imp_forN
structure ZD (z TI TO i1 i2 : Addr) : Prop where
 a : TI ≠ z
 b : TO ≠ z
 c : i1 ≠ z
 d : i2 ≠ z
 e : TI ≠ TO
 f : TI ≠ i1
 g : TI ≠ i2
 h : TO ≠ i1
 i : TO ≠ i2
 j : i1 ≠ i2
structure ZSt (z TI TO i1 i2 a b : Addr) (i : Nat) (h : Heap) : Prop where
 hz : IsZip h z TI TO .none
 hI : IsPair h TI (.ref i1) (.ref i2)
 hO : ∃ u v, IsPair h TO u v
 h1 : h.IsListIter i1 a i
 h2 : h.IsListIter i2 b i
section
variable {prog : Program} {w : World} {A : Around} {E : Value → Shared → Prop} {s : Shared}
open Sem (wp)
open AutoSeq1 (wpAny_loadPart')
end
theorem sS_forP {n i j : Nat} (ihA : SoundA G F n) (ihS : SoundSs G F n) {X : Cx} {sc : Scope} {N : List Str} (K : CxtS X G F sc N) {c : CS} {x y : Str} {it : Expr} {as : List Expr} {b : List Stmt} {p p2 pos tp : Pos} {ctx : Nat} (hi : N.idxOf? x = some i) (hj : N.idxOf? y = some j) (hz : zipArgs G sc it = some as) (h : o2 (CS.forP i j) (cEs G n sc N as) (cSs G n sc N b) = some c) : PS X (.For (.Tuple [.Name x p, .Name y p2] ctx tp) it b [] pos) (tS X.K (ex F c)) := by cases hz
theorem sS_forE {n i j : Nat} (ihE : SoundE G F n) (ihS : SoundSs G F n) {X : Cx} {sc : Scope} {N : List Str} (K : CxtS X G F sc N) {c : CS} {x y : Str} {it e : Expr} {b : List Stmt} {p p2 pos tp : Pos} {ctx : Nat} (hi : N.idxOf? x = some i) (hj : N.idxOf? y = some j) (hz : enumFor G sc it = some e) (h : o2 (CS.forE i j) (cE G n sc N e) (cSs G n sc N b) = some c) : PS X (.For (.Tuple [.Name x p, .Name y p2] ctx tp) it b [] pos) (tS X.K (ex F c)) := by cases hz
theorem sS_for4 {n : Nat} (ihE : SoundE G F n) (ihS : SoundSs G F n) {X : Cx} {sc : Scope} {N : List Str} (K : CxtS X G F sc N) {c : CS} {x y z : Str} {it : Expr} {b : List Stmt} {p p2 p3 pos tp : Pos} {ctx : Nat} (h : o3 (fun (p : Nat × Nat) (q : Nat × CE) b => CS.for4 p.1 p.2 q.1 q.2 b) (o2 Prod.mk (N.idxOf? x) (N.idxOf? y)) (o2 Prod.mk (N.idxOf? z) (cE G n sc N it)) (cSs G n sc N b) = some c) : PS X (.For (.Tuple [.Name x p, .Name y p2, .Name z p3] ctx tp) it b [] pos) (tS X.K (ex F c)) :=
 o3_e (P := fun c => PS X _ (tS X.K (ex F c))) h fun u v cb hu hv hb => o2_e (P := fun u : Nat × Nat => PS X _ (tS X.K (ex F (.for4 u.1 u.2 v.1 v.2 cb)))) hu fun i j hi hj => o2_e (P := fun v : Nat × CE => PS X _ (tS X.K (ex F (.for4 i j v.1 v.2 cb)))) hv fun l ci hl hc =>
  fun pins s σ H D I q => by
   obtain ⟨_, _, _, _, _, _, _, e, _⟩ := of_tS q
   cases e
theorem sS_for2 {n i j : Nat} (ihE : SoundE G F n) (ihS : SoundSs G F n) {X : Cx} {sc : Scope} {N : List Str} (K : CxtS X G F sc N) {c : CS} {x y : Str} {it : Expr} {b : List Stmt} {p p2 pos tp : Pos} {ctx : Nat} (hi : N.idxOf? x = some i) (hj : N.idxOf? y = some j) (h : o2 (CS.for2 i j) (cE G n sc N it) (cSs G n sc N b) = some c) : PS X (.For (.Tuple [.Name x p, .Name y p2] ctx tp) it b [] pos) (tS X.K (ex F c)) := by
 refine o2_e (P := fun c => PS X _ (tS X.K (ex F c))) h fun ci cb hc hb => ?_
 exact fun pins s σ H D I q => by
  obtain ⟨_, _, _, _, _, _, _, e, _⟩ := of_tS q
  cases e
theorem sS_app {n : Nat} (ihE : SoundE G F n) {X : Cx} {sc : Scope} {N : List Str} (K : CxtS X G F sc N) {c : CS} {x m : Str} {e : Expr} {p ap cp pos : Pos} (h : appC sc N x m ap cp (cE G n sc N e) = some c) : PS X (.Expr (.Call (.Attribute (.Name x p) m ap) [e] [] cp) pos) (tS X.K (ex F c)) := by
 refine og_e h fun hc h => ?_
 by_cases e1 : m = "append"
 ·subst e1
  rw [if_pos rfl] at h
  exact o2_e (P := fun c => PS X _ (tS X.K (ex F c))) h fun i y hi hx => ps_imp (ps_expr (pe_bm PySem.F.plainAttrs_list PySem.F.slot_list_append PySem.F.type_list_append mt_append (pe_at K.toCxt hc.1 hi) (pa1 (plain_of hx) (ihE X sc N K.toCxt _ y hx).pe) rfl (by rw [star_plain (plain_of hx)]; rfl) hc.2 (star_plain (plain_of hx)) rfl) rfl) imp_app
 ·rw [if_neg e1] at h
  by_cases e2 : m = "extend"
  ·subst e2
   rw [if_pos rfl] at h
   exact o2_e (P := fun c => PS X _ (tS X.K (ex F c))) h fun i y hi hx => ps_imp (ps_expr (pe_bm PySem.F.plainAttrs_list PySem.F.slot_list_extend PySem.F.type_list_extend mt_extend (pe_at K.toCxt hc.1 hi) (pa1 (plain_of hx) (ihE X sc N K.toCxt _ y hx).pe) rfl (by rw [star_plain (plain_of hx)]; rfl) hc.2 (star_plain (plain_of hx)) rfl) rfl) imp_ext
  ·rw [if_neg e2] at h; cases h
theorem sS_asgC {n : Nat} (ihE : SoundE G F n) (hA : CompAs G F n) {X : Cx} {sc : Scope} {N : List Str} (K : CxtS X G F sc N) {c : CS} {tg e : Expr} {pos : Pos} (h : asgC N tg e (cE G n sc N e) = some c) : PS X (.Assign [tg] e pos) (tS X.K (ex F c)) := by
 have no : ∀ {P : Prop}, (none : Option CS) = some c → P := fun z => nomatch z
 cases tg with
 | Name x p => exact sS_asg ihE hA K h
 | Tuple es ctx tp => cases es with
  | nil => exact no h
  | cons a es => cases a with
   | Name _ _ => cases es with
    | nil => exact no h
    | cons b es => cases b with
     | Name _ _ => cases es with
      | nil => exact sS_set2 ihE K h
      | cons c2 es => cases c2 with
       | Name _ _ => cases es with
        | nil => exact sS_set3 ihE K h
        | cons _ _ => exact no h
       | _ => exact no h
     | _ => exact no h
   | _ => exact no h
 | _ => exact no h
theorem sS_forC {n : Nat} (ihE : SoundE G F n) (ihA : SoundA G F n) (ihS : SoundSs G F n) {X : Cx} {sc : Scope} {N : List Str} (K : CxtS X G F sc N) {c : CS} {tg it : Expr} {b : List Stmt} {pos : Pos} (h : forC G sc N (cE G n sc N) (cEs G n sc N) tg it (cSs G n sc N b) = some c) : PS X (.For tg it b [] pos) (tS X.K (ex F c)) := by
 have no : ∀ {P : Prop}, (none : Option CS) = some c → P := fun z => nomatch z
 cases tg with
 | Name x p =>
  unfold forC at h
  cases hr : rangeArgs G sc it with
  | some as =>
   rw [hr] at h
   exact sS_for3 ihA ihS K hr h
  | none =>
   rw [hr] at h
   exact sS_for1 ihE ihS K h
 | Tuple es ctx tp => cases es with
  | nil => exact no h
  | cons a es => cases a with
   | Name x p => cases es with
    | nil => exact no h
    | cons b2 es => cases b2 with
     | Name y p2 => cases es with
      | nil =>
       replace h : ((o2 (fun i j => og (i ≠ j) (some (i, j))) (N.idxOf? x) (N.idxOf? y)).join.bind fun p => (match zipArgs G sc it with
        | some as => o2 (CS.forP p.1 p.2) (cEs G n sc N as) (cSs G n sc N b)
        | none => match enumFor G sc it with
         | some e => o2 (CS.forE p.1 p.2) (cE G n sc N e) (cSs G n sc N b)
         | none => o2 (CS.for2 p.1 p.2) (cE G n sc N it) (cSs G n sc N b))) = some c := h
       refine b_e h fun q hq h => j_e hq fun hq => o2_e (P := fun o => o = some q → PS X _ (tS X.K (ex F c))) hq (fun i j hi hj e => og_e e fun _ e => ?_) rfl
       cases e
       cases hz : zipArgs G sc it with
       | some as =>
        rw [hz] at h
        exact sS_forP ihA ihS K hi hj hz h
       | none =>
        rw [hz] at h
        dsimp only at h
        cases he : enumFor G sc it with
        | some e =>
         rw [he] at h
         exact sS_forE ihE ihS K hi hj he h
        | none =>
         rw [he] at h
         exact sS_for2 ihE ihS K hi hj h
      | cons c2 es => cases c2 with
       | Name _ _ => cases es with
        | nil => exact sS_for4 ihE ihS K h
        | cons _ _ => exact no h
       | _ => exact no h
     | _ => exact no h
   | _ => exact no h
 | _ => exact no h
theorem sS_app2 {n : Nat} (ihE : SoundE G F n) {X : Cx} {sc : Scope} {N : List Str} (K : CxtS X G F sc N) {c : CS} {m : Str} {o k e : Expr} {p ap cp pos : Pos} (h : og (m = "append" ∧ (ap.endLine == cp.line) = true) (o2 CS.app2 (cE G n sc N (.Subscript o k p)) (cE G n sc N e)) = some c) : PS X (.Expr (.Call (.Attribute (.Subscript o k p) m ap) [e] [] cp) pos) (tS X.K (ex F c)) := by
 refine og_e h fun hc h' => ?_
 obtain ⟨e1, hl⟩ := hc
 subst e1
 exact o2_e (P := fun c => PS X _ (tS X.K (ex F c))) h' fun z y hz hx => ps_imp (ps_expr (pe_bm PySem.F.plainAttrs_list PySem.F.slot_list_append PySem.F.type_list_append mt_append (ihE X sc N K.toCxt _ z hz).pe (pa1 (plain_of hx) (ihE X sc N K.toCxt _ y hx).pe) rfl (by rw [star_plain (plain_of hx)]; rfl) hl (star_plain (plain_of hx)) rfl) rfl) imp_app2
theorem sS_actC {n : Nat} (ihE : SoundE G F n) {X : Cx} {sc : Scope} {N : List Str} (K : CxtS X G F sc N) {c : CS} {v : Expr} {pos : Pos} (h : actC sc N (cE G n sc N) v = some c) : PS X (.Expr v pos) (tS X.K (ex F c)) := by
 have no : ∀ {P : Prop}, (none : Option CS) = some c → P := fun z => nomatch z
 cases v with
 | Call f as kw cp => cases f with
  | Attribute o m ap => cases o with
   | Name x p => cases as with
    | nil => exact no h
    | cons e es => cases es with
     | nil => cases kw with
      | nil => exact sS_app ihE K h
      | cons _ _ => exact no h
     | cons _ _ => exact no h
   | Subscript o k p => cases as with
    | nil => exact no h
    | cons e es => cases es with
     | nil => cases kw with
      | nil => exact sS_app2 ihE K h
      | cons _ _ => exact no h
     | cons _ _ => exact no h
   | _ => exact no h
  | Name f fp => exact sS_act ihE K h
  | _ => exact no h
 | _ => exact no h
theorem soundS_step {n : Nat} (ihE : SoundE G F n) (ihA : SoundA G F n) (ihS : SoundSs G F n) (hA : CompAs G F n) : SoundS G F (n + 1) := by
 intro X sc N K s c h
 have no : ∀ {P : Prop}, (none : Option CS) = some c → P := fun z => nomatch z
 cases s with
 | Assign tgs e pos => cases tgs with
  | nil => exact no h
  | cons t ts => cases ts with
   | cons _ _ => cases t with
    | Subscript o k p => cases o <;> exact no h
    | _ => exact no h
   | nil => cases t with
    | Subscript o k p => cases o with
     | Name x q => exact sS_put ihE K h
     | _ => exact no h
    | _ => exact sS_asgC ihE hA K h
 | Return e pos => cases e with
  | none => exact no h
  | some e => exact sS_ret ihE K h
 | If e a b pos => exact sS_if ihE ihS K h
 | For t it b oe pos => cases oe with
  | cons _ _ => exact no h
  | nil => exact sS_forC ihE ihA ihS K h
 | Expr v pos => exact sS_actC ihE K h
 | Pass pos =>
  cases (show some CS.skip = some c from h)
  exact ps_imp ps_pass imp_skip
 | Break pos =>
  cases (show some CS.brk = some c from h)
  exact ps_imp ps_break imp_brk
 | Raise a b pos =>
  cases (show some CS.stop = some c from h)
  exact fun pins s σ H D I q => by
   obtain ⟨_, _, _, _, _, _, _, e, _⟩ := of_tS q
   cases e
 | Continue pos =>
  cases (show some CS.cont = some c from h)
  exact ps_imp ps_continue imp_cont
 | _ => exact no h
theorem soundSs_step {n : Nat} (ihS : SoundS G F n) (ihSs : SoundSs G F n) : SoundSs G F (n + 1) := by
 intro X sc N K s c h
 cases s with
 | nil =>
  simp only [cSs] at h
  cases h
  exact pss_imp pss_nil imp_skip
 | cons s r =>
  exact o2_e (P := fun c => PSs X _ (tS X.K (ex F c))) (show o2 CS.seq (cS G n sc N s) (cSs G n sc N r) = some c from h) fun a b ha hb => pss_imp (pss_cons (ihS X sc N K s a ha) (ihSs X sc N K r b hb)) imp_seq
end
end Dp



namespace Dp
open PySem PySem.Spec PyProof.Rows L2
variable [ClsTab]
def CompOk (G : Gs) (F : Nat → Fn) : Prop := ∀ n, SoundE G F n → (∀ X sc N, Cxt X G F sc N → ∀ elt gens sc2 pos c, cE G (n + 1) sc N (.ListComp elt gens sc2 pos) = some c → SE X F (.ListComp elt gens sc2 pos) c) ∧ CompAs G F (n + 1)
theorem sound_all {G : Gs} {F : Nat → Fn} (hc : CompOk G F) : ∀ n, (SoundE G F n ∧ SoundA G F n ∧ SoundO G F n) ∧ SoundS G F n ∧ SoundSs G F n ∧ CompAs G F n
 | 0 => ⟨⟨fun X sc N K e c h => (nomatch (show (none : Option CE) = some c from h)), fun X sc N K e c h => (nomatch (show (none : Option CE) = some c from h)), fun X sc N K e c h => (nomatch (show (none : Option CE) = some c from h))⟩, fun X sc N K e c h => (nomatch (show (none : Option CS) = some c from h)), fun X sc N K e c h => (nomatch (show (none : Option CS) = some c from h)), fun X sc N K x i p elt gens sc2 epos pos c _ h => (nomatch (show (none : Option CE) = some c from h))⟩
 | n + 1 => by
  obtain ⟨⟨hE, hA, hO⟩, hS, hSs, hCA⟩ := sound_all hc n
  exact ⟨⟨sound_step hE hA hO (hc n hE).1, soundA_step hE hA, soundO_step hE⟩, soundS_step hE hA hSs hCA, soundSs_step hS hSs, (hc n hE).2⟩
def ObOk (K : PySem.W.Frag) (G : Gs) (T : Nat → Option FD) (x y : Str) (i : Nat) (f : Addr) (fd : FuncData) (pn N : List Str) : Prop := ∃ (st : Stmt) (oc : Value) (od : Option Addr) (dV kV doc pm : Value) (an : Option Addr) (cdv ct : Value) (osl : Array (Option Value)) (code : CS),
  fd = PySem.W.fnOf x y (defArgs st) (defBody st) (defScope st) dV kV doc pm an cdv ct ∧ K.lookup f = some ⟨oc, od, .func fd, osl⟩ ∧ PySem.W.codeIn K cdv y = true ∧ FnScope N pn (defScope st) ∧ (∀ y ∈ N, Loc (defScope st) y) ∧
  cSs G 60 (defScope st) N (defBody st) = some code ∧ T i = some ⟨pn.length, N.length, code⟩
structure DefOk (K : PySem.W.Frag) (mg : Str → Option Value) (G : Gs) (T : Nat → Option FD) (x : Str) (i : Nat) (ds : List D) (f : Addr) (fd : FuncData) (pn N : List Str) : Prop where
 ob : ObOk K G T x x i f fd pn N
 kp : PySem.W.keepIn K (.ref f) = true
 at_ : mg x = some (.ref f)
 bn : ∀ m, m ≤ ds.length → ∃ dvs us, (∀ ad H, Dens K ad H dvs (ds.drop m)) ∧ Vals dvs us ∧ Binds K fd pn us
structure MethOk (K : PySem.W.Frag) (G : Gs) (T : Nat → Option FD) (C : Addr) (x y : Str) (i : Nat) (f : Addr) (fd : FuncData) (pn N : List Str) : Prop where
 ob : ObOk K G T x y i f fd pn N
 mt : Meth K C x f
 bn : Binds K fd pn []
structure Text (Pm : Params) (K : PySem.W.Frag) (mg : Str → Option Value) (G : Gs) (T : Nat → Option FD) : Prop where
 cst : ∀ x d, G.lookup x = some (.cst d) → ∃ v u, mg x = some u ∧ RelV v u ∧ ∀ ad H, Den K ad H v d
 blt : ∀ x, G.lookup x = some .blt → mg x = none
 dct : ∀ x ks ds, G.lookup x = some (.dct ks ds) → DctOk Pm K mg x ks ds
 fn : ∀ x i ps ds, G.lookup x = some (.fn i ps ds) → ∃ f fd pn N, DefOk K mg G T x i ds f fd pn N
 cls : ∀ x i ms subs, G.lookup x = some (.cls i ms subs) → (mg x = some (.ref (ClsTab.ca i)) ∧ NewOk K (ClsTab.ca i) ∧ ∀ i', subs.contains i' = true → SubOk K (ClsTab.ca i') (ClsTab.ca i)) ∧
  ∀ m j ps, ms.lookup m = some (j, ps) → ∃ y f fd pn N, MethOk K G T (ClsTab.ca i) m y j f fd pn N
section
variable {P : Program} {w : World} {K : PySem.W.Frag} {mg : Str → Option Value} {base : Heap} {G : Gs} {T : Nat → Option FD}
theorem vis_of {sc : Scope} {x : Str} (h : isLoc sc x = true) : Vis sc x := by
 unfold isLoc at h
 rw [Bool.and_eq_true] at h
 have h := h.2
 split at h
 ·rename_i q; exact .inl q
 ·rename_i q; exact .inr (.inl q)
 ·rename_i q; exact .inr (.inr q)
 ·cases h
theorem glob_of {sc : Scope} {x : Str} (h : isGlob sc x = true) : sc.names.lookup x = some .globalImplicit := by
 unfold isGlob at h
 rw [Bool.and_eq_true] at h
 have h := h.2
 split at h
 ·rename_i q; exact q
 ·cases h
theorem cell_of {sc : Scope} {x : Str} (h : isCell sc x = true) : sc.names.lookup x = some .cell ∨ sc.names.lookup x = some .free := by
 unfold isCell at h
 split at h
 ·rename_i q; exact .inl q
 ·rename_i q; exact .inr q
 ·cases h
theorem env_start {K : PySem.W.Frag} {ad : List Addr} {H : Hp} {N : List Str} {vs : List V} {ds : List D} (h : Dens K ad H vs ds) (hl : ds.length ≤ N.length) : EnvOk K ad H (L2.start N vs) (ds.map some ++ List.replicate (N.length - ds.length) none) := by
 have e := h.length
 refine ⟨by unfold L2.start; simp [e], fun i d q => ?_⟩
 by_cases hi : i < ds.length
 ·rw [List.getElem?_append_left (by simpa using hi), List.getElem?_map, List.getElem?_eq_getElem hi] at q
  have q' : ds[i] = d := by simpa using q
  have g : ds[i]? = some d := by rw [List.getElem?_eq_getElem hi, q']
  obtain ⟨v, e1, e2⟩ := h.get g
  refine ⟨v, ?_, e2⟩
  unfold L2.start
  rw [List.getElem?_append_left (by simpa [e] using hi), List.getElem?_map, e1]
  rfl
 ·rw [List.getElem?_append_right (by simpa using hi), List.getElem?_replicate] at q
  split at q <;> cases q
theorem one_ok {n : Nat} (hc : ∀ n, CompOk G (run T n)) (gl : ∀ A, Room n A → ∀ y g, G.lookup y = some g → GOk P w K mg base A (run T n) y g) {x y : Str} {i : Nat} {f : Addr} {fd : FuncData} {pn N : List Str} (ob : ObOk K G T x y i f fd pn N) : FnOk P w K mg base CX0 (n + 1) f fd pn (spD K (run T (n + 1) i)) := by
 obtain ⟨st, oc, od, dV, kV, doc, pm, an, cdv, ct, osl, code, rfl, lk, hcd, S, hloc, hcode, hT⟩ := ob
 have hrun : run T (n + 1) i = fnD (run T n) ⟨pn.length, N.length, code⟩ := by
  show (match T i with | some f => fnD (run T n) f | none => fun _ _ => none) = _
  rw [hT]
 refine fn_of lk hcd S (fun vs H Q E h => ?_) (fun A outer s H vs Q E hr h => ?_)
 ·obtain ⟨ad, es, st, d, st', _, hd, e, _⟩ := h
  rw [hrun] at e
  unfold fnD at e
  split at e
  ·rename_i hl
   rw [hd.length]
   exact hl
  ·cases e
 ·obtain ⟨ad, es, s0, d, st', S0, hd, e, p⟩ := h
  rw [hrun] at e
  unfold fnD at e
  split at e
  ·rename_i hl
   have C : CxtS (cxOf CX0 P w K mg base N y (defScope st) f cdv A outer s H E).nox G (run T n) (defScope st) N := {
    hN := rfl
    vis := fun y hy => vis_of hy
    glb := fun y hy => glob_of hy
    calm := rfl
    hu := hr.units
    gl := gl _ hr
    cel := fun y hy => cell_of hy
    nx := rfl
    nd := S.nd
    loc := hloc
    fn := fun _ => rfl }
   have B := (sound_all (hc n) 60).2.2.1 _ _ _ C _ _ hcode
   have hpl : pn.length ≤ N.length := by have := congrArg List.length S.pre; rw [List.length_take] at this; omega
   have E0' := env_start (N := N) hd (by rw [show es.length = pn.length from hl]; exact hpl)
   refine ⟨_, B.nox, ?_⟩
   split at e
   ·rename_i d' st1 q
    cases e
    exact tS_of E0' S0 q p
   ·rename_i ρ st1 q
    cases e
    exact tS_of E0' S0 q fun σ1 ad1 H1 x1 S1 E1 => (p.later x1).at S1 .non
   ·cases e
  ·cases e
theorem zero_ok {i : Nat} {f : Addr} {fd : FuncData} {pn : List Str} : FnOk P w K mg base CX0 0 f fd pn (spD K (run T 0 i)) := by
 refine ⟨fun vs H Q E h => ?_, fun A outer s H args us vs Q E _ _ _ _ h => ?_⟩
 ·obtain ⟨_, _, _, _, _, _, _, e, _⟩ := h; cases e
 ·obtain ⟨_, _, _, _, _, _, _, e, _⟩ := h; cases e
theorem gl_ok {n : Nat} (X : Text w.params K mg G T) (F1 : ∀ {x y : Str} {i : Nat} {f : Addr} {fd : FuncData} {pn N : List Str}, ObOk K G T x y i f fd pn N → FnOk P w K mg base CX0 n f fd pn (spD K (run T n i))) (A : Around) (hr : Room n A) : ∀ y g, G.lookup y = some g → GOk P w K mg base A (run T n) y g := fun y g hg => by
 cases g with
 | cst d => exact X.cst y d hg
 | blt => exact X.blt y hg
 | dct ks ds => exact X.dct y ks ds hg
 | fn j qs es =>
  obtain ⟨f, fd, pn, N, Dk⟩ := X.fn y j qs es hg
  exact ⟨n, f, fd, pn, F1 Dk.ob, hr, Dk.at_, Dk.kp, Dk.bn⟩
 | cls i ms subs =>
  obtain ⟨⟨h1, h2, h3⟩, h4⟩ := X.cls y i ms subs hg
  refine ⟨h1, h2, h3, fun m j ps hm => ?_⟩
  obtain ⟨z, f, fd, pn, N, Mk⟩ := h4 m j ps hm
  exact ⟨n, f, fd, pn, F1 Mk.ob, hr, Mk.mt, Mk.bn⟩
theorem all_ok (hc : ∀ n, CompOk G (run T n)) (X : Text w.params K mg G T) : ∀ (n : Nat) {x y : Str} {i : Nat} {f : Addr} {fd : FuncData} {pn N : List Str}, ObOk K G T x y i f fd pn N → FnOk P w K mg base CX0 n f fd pn (spD K (run T n i))
 | 0, _, _, _, _, _, _, _, _ => zero_ok
 | n + 1, _, _, _, _, _, _, _, ob => one_ok hc (fun A hr => gl_ok X (fun ob => all_ok hc X n ob) A hr) ob
end
end Dp



namespace Dp
open PySem PySem.Spec PyProof.Rows L2
variable [ClsTab]
section
variable {ad : List Addr} {H : Hp} {p : Addr} {xs ys : List V}
theorem lst_DT (hp : H p = some (.lst xs)) {a : Addr} : IsDT H a ↔ IsDT (upd H p (.lst ys)) a := upd_DT (noDT hp fun _ z => nomatch z) fun _ z => nomatch z
theorem keepsL {K : PySem.W.Frag} (hp : H p = some (.lst xs)) : Keeps K ad ad H (upd H p (.lst ys)) := ⟨fun h => h.upd hp (by intro xs z; cases z), fun h => ⟨h, lst_DT hp⟩, fun _ h => by rw [upd_ne (ne_of h hp (by intro z; cases z))]; exact h, fun h n => ⟨by rw [upd_ne (ne_of h hp (by intro z; cases z))]; exact h, n⟩⟩
theorem Den.wr {K : PySem.W.Frag} (hp : H p = some (.lst xs)) {v : V} {d : D} (h : Den K ad H v d) : Den K ad (upd H p (.lst ys)) v d := h.map (keepsL hp)
theorem Dens.wr {K : PySem.W.Frag} (hp : H p = some (.lst xs)) {vs : List V} {ds : List D} (h : Dens K ad H vs ds) : Dens K ad (upd H p (.lst ys)) vs ds := h.map (keepsL hp)
theorem EnvOk.wr {K : PySem.W.Frag} {σ : L2.St} {ρ : Env} (hp : H p = some (.lst xs)) (h : EnvOk K ad H σ ρ) : EnvOk K ad (upd H p (.lst ys)) σ ρ := ⟨h.len, fun i d e => let ⟨v, e1, e2⟩ := h.at_ i d e; ⟨v, e1, e2.wr hp⟩⟩
theorem StOk.wr {K : PySem.W.Frag} {st : Store} (S : StOk K ad H st) (hp : H p = some (.lst xs)) (hn : p ∉ ad) : StOk K ad (upd H p (.lst ys)) st :=
 S.wrG (keepsL hp) hn
theorem Ext.wr {ad0 : List Addr} {H0 : Hp} (x : Ext ad0 H0 ad H) (hp : H p = some (.lst xs)) (h0 : H0 p = none) : Ext ad0 H0 ad (upd H p (.lst ys)) := by
 refine ⟨x.pre, fun b zs h => ?_, fun b zs h => ?_, fun b o h n => ?_, x.new, fun i a h => (x.kd i a h).trans (lst_DT hp)⟩
 ·rw [upd_ne (ne_of_none h h0)]; exact x.tup b zs h
 ·rw [upd_ne (ne_of_none h h0)]; exact x.dk b zs h
 ·rw [upd_ne (ne_of_none h h0)]; exact x.keep b o h n
end
theorem lookup_map {c : Str → NameKind → Bool} : ∀ {l : List (Str × NameKind)} {y : Str}, (l.map fun (n, k) => if c n k = true then (n, NameKind.cell) else (n, k)).lookup y = (l.lookup y).map fun k => if c y k = true then NameKind.cell else k
 | [], _ => rfl
 | (n, k) :: r, y => by
  have ih := @lookup_map c r y
  rw [List.map_cons]
  have e : (if c n k = true then (n, NameKind.cell) else (n, k)) = (n, if c n k = true then NameKind.cell else k) := by split <;> rfl
  show List.lookup y ((if c n k = true then (n, NameKind.cell) else (n, k)) :: _) = _
  rw [e, List.lookup_cons, List.lookup_cons]
  cases q : y == n with
  | true => rw [beq_iff_eq.mp q]; rfl
  | false => exact ih
theorem relabel_lookup {sc : Scope} {env : PySem.Env} {y : Str} : (relabel sc env).names.lookup y = (sc.names.lookup y).map fun k => if (k == NameKind.free && env.scope.kind == .function && env.kindOf y == some .cell) = true then NameKind.cell else k :=
 lookup_map (c := fun n k => k == NameKind.free && env.scope.kind == .function && env.kindOf n == some .cell)
theorem relabel_other {sc : Scope} {env : PySem.Env} {y : Str} {k : NameKind} (h : sc.names.lookup y = some k) (hk : k ≠ .free) : (relabel sc env).names.lookup y = some k := by
 rw [relabel_lookup, h]
 have : (k == NameKind.free) = false := by simpa using hk
 show some (if (k == NameKind.free && _ && _) = true then NameKind.cell else k) = some k
 rw [this, Bool.false_and, Bool.false_and, if_neg Bool.false_ne_true]
theorem relabel_free {sc : Scope} {env : PySem.Env} {y : Str} (h : sc.names.lookup y = some .free) : (relabel sc env).names.lookup y = some .cell ∨ (relabel sc env).names.lookup y = some .free := by
 rw [relabel_lookup, h]
 show (some (if _ then NameKind.cell else NameKind.free)) = _ ∨ (some (if _ then NameKind.cell else NameKind.free)) = _
 split
 ·exact .inl rfl
 ·exact .inr rfl
theorem relabel_back {sc : Scope} {env : PySem.Env} {y : Str} (hc : ∀ p ∈ sc.names, p.2 ≠ .cell) (h : (relabel sc env).names.lookup y = some .cell ∨ (relabel sc env).names.lookup y = some .free) : sc.names.lookup y = some .free := by
 rw [relabel_lookup] at h
 cases q : sc.names.lookup y with
 | none => rw [q] at h; rcases h with h | h <;> cases h
 | some k =>
  rw [q] at h
  cases k with
  | free => rfl
  | cell =>
   have : ∀ {l : List (Str × NameKind)}, l.lookup y = some .cell → ∃ p ∈ l, p.2 = .cell := fun {l} e => by
    induction l with
    | nil => cases e
    | cons a l ih =>
     obtain ⟨n, k⟩ := a
     rw [List.lookup_cons] at e
     split at e
     ·cases e; exact ⟨_, List.mem_cons_self, rfl⟩
     ·obtain ⟨p, hp, e'⟩ := ih e; exact ⟨p, List.mem_cons_of_mem _ hp, e'⟩
   obtain ⟨p, hp, e⟩ := this q
   exact absurd e (hc p hp)
  | _ => rcases h with h | h <;> simp at h
theorem closure_of {env : PySem.Env} : ∀ (l : List (Str × NameKind)) (acc : List (Str × Addr)), (∀ p ∈ l, p.2 = .free → ∃ c, env.cells.lookup p.1 = some c) →
  ∃ cl, (forIn l acc fun (x : Str × NameKind) (r : List (Str × Addr)) => (do
   if (x.2 == NameKind.free) = true then
    let a ← cellOf env x.1
    pure (ForInStep.yield ((x.1, a) :: r))
   else pure (ForInStep.yield r) : Sem (ForInStep (List (Str × Addr))))) = pure cl ∧
   (∀ y c, cl.lookup y = some c → acc.lookup y = some c ∨ ((y, NameKind.free) ∈ l ∧ env.cells.lookup y = some c)) ∧ (∀ y, (y, NameKind.free) ∈ l ∨ (acc.lookup y).isSome → (cl.lookup y).isSome)
 | [], acc, _ => ⟨acc, by simp only [List.forIn_nil], fun y c h => .inl h, fun y h => by simpa using h⟩
 | (n, k) :: l, acc, h => by
  by_cases hk : k = .free
  ·subst hk
   obtain ⟨c0, hc0⟩ := h (n, .free) List.mem_cons_self rfl
   obtain ⟨cl, e, h1, h2⟩ := closure_of (env := env) l ((n, c0) :: acc) fun p hp => h p (List.mem_cons_of_mem _ hp)
   refine ⟨cl, ?_, fun y c q => ?_, fun y q => ?_⟩
   ·rw [List.forIn_cons]
    simp only [beq_self_eq_true, if_true]
    have : cellOf env n = pure c0 := by unfold cellOf; rw [hc0]
    simp only [this, pure_bind]
    exact e
   ·rcases h1 y c q with z | ⟨z1, z2⟩
    ·rw [List.lookup_cons] at z
     split at z
     ·rename_i hy
      cases z
      rw [beq_iff_eq.mp hy]
      exact .inr ⟨List.mem_cons_self, hc0⟩
     ·exact .inl z
    ·exact .inr ⟨List.mem_cons_of_mem _ z1, z2⟩
   ·refine h2 y ?_
    rcases q with q | q
    ·rcases List.mem_cons.mp q with z | z
     ·cases z
      exact .inr (by rw [List.lookup_cons]; simp)
     ·exact .inl z
    ·refine .inr ?_
     rw [List.lookup_cons]
     split
     ·rfl
     ·exact q
  ·obtain ⟨cl, e, h1, h2⟩ := closure_of (env := env) l acc fun p hp => h p (List.mem_cons_of_mem _ hp)
   refine ⟨cl, ?_, fun y c q => ?_, fun y q => ?_⟩
   ·rw [List.forIn_cons]
    have : (k == NameKind.free) = false := by simpa using hk
    simp only [this, Bool.false_eq_true, if_false, pure_bind]
    exact e
   ·rcases h1 y c q with z | ⟨z1, z2⟩
    ·exact .inl z
    ·exact .inr ⟨List.mem_cons_of_mem _ z1, z2⟩
   ·refine h2 y ?_
    rcases q with q | q
    ·rcases List.mem_cons.mp q with z | z
     ·cases z; exact absurd rfl hk
     ·exact .inl z
    ·exact .inr q
theorem closure_for {env : PySem.Env} {sc : Scope} (h : ∀ p ∈ sc.names, p.2 = .free → ∃ c, env.cells.lookup p.1 = some c) : ∃ cl, closureFor sc env = pure cl ∧ (∀ y c, cl.lookup y = some c → env.cells.lookup y = some c) ∧ ∀ y, (y, NameKind.free) ∈ sc.names → (cl.lookup y).isSome := by
 obtain ⟨cl, e, h1, h2⟩ := closure_of (env := env) sc.names [] h
 refine ⟨cl, ?_, fun y c q => ?_, fun y q => h2 y (.inl q)⟩
 ·unfold closureFor
  rw [show (fun (x : Str × NameKind) (r : List (Str × Addr)) => _) = _ from rfl] at e
  first | exact (by simp only [e, pure_bind]) | (simp only [bind_pure] at *; exact e) | exact e
 ·rcases h1 y c q with z | ⟨_, z⟩
  ·cases z
  ·exact z
end Dp



namespace Dp
open PySem PySem.Spec PyProof.Rows L2
variable [ClsTab]
theorem compLoop_go {prog : Program} {w : World} {A : Around} {R : Result → Shared → Prop} {s : Shared} {elt target iter : Expr} {ifs : List Expr} {scope : Scope} {pos : Pos} {it acc : Value} {env : PySem.Env} (I : Nat → Shared → Prop)
  (turn : ∀ n s, I n s → wpAny (model prog w) A (pyNext it) (fun r s₁ => match r with
   | none => R (.ok .next) s₁
   | some v => wpAny (model prog w) A (letOwnedTupleGo target it v) (fun _ s₁' => wpAny (model prog w) A (assign target env v) (fun _ s₂ =>
     wpAny (model prog w) A (forIn ifs true fun c r => if r = true then do let ok ← isTrue c env (eval c env); pure (ForInStep.yield ok) else pure (ForInStep.yield r)) (fun ok s₃ =>
      if ok = true then wpAny (model prog w) A (eval elt env) (fun x s₄ =>
       wpAny (model prog w) A (call (.builtin "list.append") [acc, x]) (fun _ s₅ => ∃ m, m < n ∧ I m s₅) (notedBy (model prog w) A env fun e s' => R (.error e) s') s₄) (notedBy (model prog w) A env fun e s' => R (.error e) s') s₃
      else ∃ m, m < n ∧ I m s₃) (notedBy (model prog w) A env fun e s' => R (.error e) s') s₂) (notedBy (model prog w) A env fun e s' => R (.error e) s') s₁') (notedBy (model prog w) A env fun e s' => R (.error e) s') s₁) (notedBy (model prog w) A env fun e s' => R (.error e) s') s)
  (n : Nat) (h : I n s) : codeAny (model prog w) A (.compLoop (.ListComp elt [⟨target, iter, ifs, 0⟩] scope pos) 0 it acc env) R s := by
 refine codeAny_loop rfl I (fun n s hI => ?_) n h
 show wpAny _ A ((compTurn (.ListComp elt [⟨target, iter, ifs, 0⟩] scope pos) 0 it acc env).onRaise (fun x => do noteFrame x env; theTreesLotGoes x)) _ _ s
 refine wpAny_noted ?_
 rw [compTurn_list]
 refine wpAny_bind (wpAny_standAt (wpAny_bind (wpAny_mono (turn n s hI) (fun r s₁ h₁ => ?_) fun _ _ h' => h')))
 cases r with
 | none => exact wpAny_pure h₁
 | some v =>
  refine wpAny_bind (wpAny_mono h₁ (fun _ s₁' h₁ => ?_) fun _ _ h' => h')
  refine wpAny_bind (wpAny_mono h₁ (fun _ s₂ h₂ => wpAny_bind (wpAny_mono h₂ (fun ok s₃ h₃ => ?_) fun _ _ h' => h')) fun _ _ h' => h')
  cases ok with
  | false => exact wpAny_pure ⟨rfl, h₃⟩
  | true =>
   exact wpAny_bind (wpAny_bind (wpAny_mono h₃ (fun x s₄ h₄ => wpAny_bind (wpAny_mono h₄ (fun _ s₅ h₅ => wpAny_pure (wpAny_pure ⟨rfl, h₅⟩)) fun _ _ h' => h')) fun _ _ h' => h'))
noncomputable def cxC (X : Cx) (N : List Str) (env : PySem.Env) (s3 : Shared) (H3 : Hp) (fp : List Addr) (pins : List (Addr × Obj)) : Cx :=
 { X with N := N, s₀ := s3, H₀ := H3, env := env, outer := X.stack, ex := fp, fn := fun _ => false, pn := X.pn ++ pins, xe := fun _ _ => False }
section
variable {X : Cx} {pins : List (Addr × Obj)} {σ : L2.St} {H H3 : Hp} {s3 : Shared} {sc2 : Scope} {cl : List (Str × Addr)} {fp : List Addr} {N : List Str}
theorem inv_comp (I3 : L2.Inv X pins σ H3 s3) {m0 : Str → Option Value} {h4 : Heap} {tk : Nat} {σ' : L2.St} (hk : sc2.kind = .function) (hcell : ∀ p ∈ sc2.names, p.2 ≠ .cell)
  (hns : h4.Ns s3.heap.objs.size m0) (up : ∀ b u, s3.heap.get? b = some u → h4.get? b = some u)
  (c1 : ∀ y c, cl.lookup y = some c → X.env.cells.lookup y = some c) (c2 : ∀ y, sc2.names.lookup y = some .free → (cl.lookup y).isSome)
  (f3 : ∀ b ∈ fp, FpOk X pins H3 b) (fb : ∀ b ∈ fp, b < s3.heap.objs.size)
  (hσ : ∀ (i : Nat) (y : Str) (v : V), N[i]? = some y → σ'[i]? = some (some v) → ∃ j : Nat, X.N[j]? = some y ∧ σ[j]? = some (some v) ∧ sc2.names.lookup y = some .free ∧ (X.env.scope.names.lookup y = some .cell ∨ X.env.scope.names.lookup y = some .free)) (hl : σ'.length = N.length) :
  L2.Inv (cxC X N (compEnvC sc2 cl s3.heap.objs.size X.env) s3 H3 fp pins) [] σ' H3 { s3 with heap := h4, toks := tk } where
 ok := {
  mod := I3.ok.mod
  kind := hk
  glob := I3.ok.glob
  blt := I3.ok.blt
  above := Nat.le_refl _
  inj := fun x y c e e' => I3.ok.inj x y c (c1 _ _ e) (c1 _ _ e')
  has := fun x h => by
   have e := relabel_back (env := X.env) hcell h
   have := c2 x e
   cases q : cl.lookup x with
   | none => rw [q] at this; cases this
   | some c => exact ⟨c, q⟩
  cab := fun x c h => nomatch h
  hd := I3.ok.hd
  frames := I3.ok.frames
  stk := .inl rfl
  exf := fun b hb => ⟨Nat.ne_of_lt (fb b hb), fun x c e => (f3 b hb).2.2.2.2.1 x c (c1 _ _ e)⟩
  bs := I3.bs
  bsz := Nat.le_trans I3.ok.bsz I3.sz
  noex := fun b o e hb => by
   rcases (f3 b hb).2.2.2.1 with z | z
   ·exact I3.ok.noex b o e z
   ·exact absurd (Nat.lt_of_lt_of_le (Heap.lt_size e) (Nat.le_trans I3.ok.bsz z)) (Nat.lt_irrefl _)
  exfs := fun b hb hs => by
   rcases List.mem_cons.mp (I3.stkSub b hs) with z | z
   ·exact (f3 b hb).2.1 z
   ·exact (f3 b hb).2.2.1 z
  funs := I3.stack
  frf := I3.stkFree }
 os := rfl
 bare := I3.bare
 base := Un.kept up
 loc := ⟨m0, hns, fun i y v e1 e2 e3 => by
  obtain ⟨j, g1, g2, g3, g4⟩ := hσ i y v e1 e2
  obtain ⟨m, hn, hl'⟩ := I3.loc
  obtain ⟨u, r, l⟩ := hl' j y v g1 g2 (.inr g4)
  refine ⟨u, r, .inr ⟨relabel_free g3, ?_⟩⟩
  rcases l with ⟨z, _⟩ | ⟨_, c, e, z⟩
  ·have z' : X.env.scope.names.lookup y = some .local := z
   rcases g4 with w | w <;> (rw [z'] at w; cases w)
  ·have q := c2 y g3
   cases q' : cl.lookup y with
   | none => rw [q'] at q; cases q
   | some c' =>
    have := c1 _ _ q'
    rw [e] at this; cases this
    obtain ⟨o, ho, hd⟩ := z
    exact ⟨c, q', o, up c o ho, hd⟩⟩
 cell := fun y c e => by
  obtain ⟨v, o, ho, hd⟩ := I3.cell y c (c1 _ _ e)
  exact ⟨v, o, up c o ho, hd⟩
 free := I3.hok.fresh (Nat.le_refl _)
 freeC := fun y c e => I3.freeC y c (c1 _ _ e)
 pin := fun p hp => by
  have hp' : p ∈ X.pn ++ pins := by simpa [cxC] using hp
  obtain ⟨e, n, ne, nf, d⟩ := I3.pin p hp'
  refine ⟨up _ _ e, n, Nat.ne_of_lt (Heap.lt_size e), fun hs => ?_, d⟩
  rcases List.mem_cons.mp (I3.stkSub _ hs) with z | z
  ·exact ne z
  ·exact nf z
 hok := I3.hok.kept up
 len := hl
theorem inv_back (I3 : L2.Inv X pins σ H3 s3) {env : PySem.Env} {pins' : List (Addr × Obj)} {σ' : L2.St} {H' : Hp} {s' : Shared} {h' : Heap} (hC : env.locals = s3.heap.objs.size) (I' : L2.Inv (cxC X N env s3 H3 fp pins) pins' σ' H' s') (sb : Heap.SameBut s3.heap.objs.size s'.heap h')
  (f3 : ∀ b ∈ fp, FpOk X pins H3 b) : L2.Inv X pins σ H' { s' with heap := h' } := by
 have u : Un (frs X.stack) fp H3 H' s3.heap s'.heap := I'.base
 have ne : ∀ b o, s3.heap.get? b = some o → b ≠ s3.heap.objs.size := fun b o e => Nat.ne_of_lt (Heap.lt_size e)
 have fr : H' s3.heap.objs.size = none := by have := I'.free; rw [show (cxC X N env s3 H3 fp pins).env.locals = s3.heap.objs.size from hC] at this; exact this
 refine I3.call' (s' := { s' with heap := h' }) (ch := fp) I'.os ⟨fun b o e n hb hx => ?_, fun b o e n hb hx => ?_, u.free, fun b o e hx => ?_, u.tups, u.frzs, u.tbls⟩ (fun b ob e => ?_) I'.bare (fun b hb => ?_)
 ·exact (sb.2 b (ne b o e)).trans (u.keep b o e n hb hx)
 ·obtain ⟨sl, e1⟩ := u.slot b o e n hb hx
  exact ⟨sl, (sb.2 b (ne b o e)).trans e1⟩
 ·obtain ⟨o', e1⟩ := u.there b o e hx
  exact ⟨o', (sb.2 b (ne b o e)).trans e1⟩
 ·refine (I'.hok b ob e).stay (fun c w' hc q => (sb.2 c ?_).trans q) (fun _ q => q) fun _ _ q => q
  rintro rfl
  rcases hc with rfl | hc
  ·rw [fr] at e; cases e
  ·rw [fr] at hc; cases hc
 ·exact ⟨(f3 b hb).2.2.2.1, (f3 b hb).2.1, (f3 b hb).2.2.2.2.1, (f3 b hb).2.2.2.2.2⟩
end
end Dp



namespace Dp
open PySem PySem.Spec PyProof.Rows L2
variable [ClsTab]
theorem optIdx_get {N : List Str} : ∀ {l : List Str} {fr : List Nat}, optIdx N l = some fr → fr.length = l.length ∧ ∀ (i : Nat) (k : Nat), fr[i]? = some k → ∃ y, l[i]? = some y ∧ N[k]? = some y
 | [], fr, h => by cases h; exact ⟨rfl, fun i k e => by simp at e⟩
 | x :: r, fr, h => by
  unfold optIdx at h
  split at h
  ·rename_i a as e1 e2
   cases h
   obtain ⟨h1, h2⟩ := optIdx_get e2
   refine ⟨by simp [h1], fun i k e => ?_⟩
   cases i with
   | zero => simp at e; subst e; exact ⟨x, rfl, idx_of e1⟩
   | succ i => exact h2 i k (by simpa using e)
  ·cases h
theorem StOk.lt {X : Cx} {pins : List (Addr × Obj)} {σ : L2.St} {H : Hp} {s : Shared} {ad : List Addr} {st : Store} {a : Addr} (I : L2.Inv X pins σ H s) (S : StOk X.K ad H st) (h : a ∈ ad) : a < s.heap.objs.size := by
 obtain ⟨i, hi, e⟩ := List.getElem_of_mem h
 rcases S.has (show ad[i]? = some a by rw [List.getElem?_eq_getElem hi, e]) with ⟨o, q⟩ | ⟨o, q⟩
 ·exact I.hok.lt q
 ·exact Heap.lt_size (I.kIn a o q)
theorem env_comp {K : PySem.W.Frag} {ad : List Addr} {H : Hp} {σ bs : L2.St} {ρ : Env} {fr : List Nat} {b : D → List (Option D)} {d : D} (E : EnvOk K ad H σ ρ) (hd : EnvOk K ad H bs (b d)) : EnvOk K ad H (bs ++ fr.map fun i => (σ[i]?).join) (envC b ρ fr d) := by
 refine ⟨by simp [envC, hd.len], fun i e h => ?_⟩
 unfold envC at h
 by_cases hi : i < (b d).length
 ·rw [List.getElem?_append_left hi] at h
  rw [List.getElem?_append_left (by rw [hd.len]; exact hi)]
  exact hd.at_ i e h
 ·have hi : (b d).length ≤ i := Nat.le_of_not_lt hi
  rw [List.getElem?_append_right hi, List.getElem?_map] at h
  rw [List.getElem?_append_right (by rw [hd.len]; exact hi), List.getElem?_map, hd.len]
  cases q : fr[i - (b d).length]? with
  | none => rw [q] at h; cases h
  | some k =>
   rw [q] at h
   have h : (ρ[k]?).join = some e := by simpa using h
   have h2 : ρ[k]? = some (some e) := by
    cases z : ρ[k]? with
    | none => rw [z] at h; cases h
    | some o => rw [z] at h; rw [show o = some e from h]
   obtain ⟨w, e1, e2⟩ := E.at_ k e h2
   exact ⟨w, by simp [e1], e2⟩
def BindOk (K : PySem.W.Frag) (tg : Expr) (xs : List Str) (b : D → List (Option D)) (ds : List D) : Prop :=
 ∀ X : Cx, X.K = K → X.calm = true → X.N.Nodup → (∀ (i : Nat) x, xs[i]? = some x → X.N[i]? = some x) → (∀ y ∈ xs, X.env.scope.names.lookup y = some .local) → ∀ (pins : List (Addr × Obj)) (s : Shared) (os fv : L2.St) (H : Hp) (ad : List Addr) (v : V) (u : Value) (d : D), os.length = xs.length → L2.Inv X pins (os ++ fv) H s → RelV v u → Den K ad H v d → d ∈ ds →
  wpAny (model X.prog X.w) X.A (assign tg X.env u) (fun _ s' => ∃ bs, bs.length = xs.length ∧ EnvOk K ad H bs (b d) ∧ L2.Inv X pins (bs ++ fv) H s') X.xe s
theorem bind_one {K : PySem.W.Frag} {x : Str} {px : Pos} {ds : List D} : BindOk K (.Name x px) [x] one ds := by
 intro X hK hc hN hx hl pins s os fv H ad v u d ho I r dv _
 obtain ⟨o, rfl⟩ : ∃ o, os = [o] := by match os, ho with | [o], _ => exact ⟨o, rfl⟩
 have lx := hl x List.mem_cons_self
 have pg : PG X (.Name x px) (gName 0) := pg_name hN (hx 0 x rfl) (.inl lx) (.inr lx)
 refine thn (pg pins s _ H v u (fun σ' H' => σ' = [some v] ++ fv ∧ H' = H) I r ⟨rfl, rfl⟩) fun _ s' ⟨σ', H', I', e, e'⟩ => ?_
 subst e; subst e'
 exact ⟨[some v], rfl, ⟨rfl, fun i e h => by
  cases i with
  | zero => cases h; exact ⟨v, rfl, dv⟩
  | succ i => exact nomatch (show (none : Option (Option D)) = some (some e) from h)⟩, I'⟩
section
variable {X : Cx} {G : Gs} {F : Nat → Fn} {sc sc2 : Scope} {N xs : List Str}
theorem compSc_parts (h : compSc sc sc2 xs = true) : sc2.kind = .function ∧ (∀ p ∈ sc2.names, p.2 ≠ .cell) ∧ (∀ x ∈ xs, sc2.names.lookup x = some .local) ∧ (∀ p ∈ sc2.names, p.2 = .local → sc2.names.lookup p.1 = some .local) ∧ (xs ++ frees sc2).Nodup ∧ ∀ y ∈ frees sc2, isCell sc y = true ∧ sc2.names.lookup y = some .free := by
 unfold compSc at h
 simp only [Bool.and_eq_true, decide_eq_true_eq, List.all_eq_true, Bool.or_eq_true, Bool.not_eq_true', decide_eq_false_iff_not] at h
 obtain ⟨⟨⟨⟨⟨h1, h2⟩, h3⟩, h4⟩, h5⟩, h6⟩ := h
 exact ⟨h1, h2, h3, fun p hp e => (h4 p hp).elim (fun z => absurd e z) id, h5, h6⟩
theorem mem_frees {y : Str} : y ∈ frees sc2 ↔ (y, NameKind.free) ∈ sc2.names := by
 unfold frees
 rw [List.mem_map]
 constructor
 ·rintro ⟨⟨n, k⟩, h, rfl⟩
  rw [List.mem_filter] at h
  have : k = .free := of_decide_eq_true h.2
  rw [← this]; exact h.1
 ·intro h
  exact ⟨(y, .free), List.mem_filter.mpr ⟨h, by simp⟩, rfl⟩
theorem mem_of_lookup {y : Str} {k : NameKind} : ∀ {l : List (Str × NameKind)}, l.lookup y = some k → (y, k) ∈ l
 | [], h => by cases h
 | (n, q) :: l, h => by
  rw [List.lookup_cons] at h
  split at h
  ·rename_i e
   cases h
   rw [beq_iff_eq.mp e]
   exact List.mem_cons_self
  ·exact List.mem_cons_of_mem _ (mem_of_lookup h)
theorem cxt_comp (Kx : Cxt X G F sc N) (hsc : compSc sc sc2 xs = true) {cl : List (Str × Addr)} {C : Addr} {s3 : Shared} {H3 : Hp} {fp : List Addr} {pins : List (Addr × Obj)} : Cxt (cxC X (xs ++ frees sc2) (compEnvC sc2 cl C X.env) s3 H3 fp pins) G F sc2 (xs ++ frees sc2) := by
 obtain ⟨h1, h2, h3, h4, h5, h6⟩ := compSc_parts hsc
 exact {
  hN := rfl
  vis := fun y hy => by
   rcases vis_of hy with z | z | z
   ·exact .inl (relabel_other z (by intro q; cases q))
   ·exact absurd rfl (h2 _ (mem_of_lookup z))
   ·rcases relabel_free (env := X.env) z with w | w
    ·exact .inr (.inl w)
    ·exact .inr (.inr w)
  glb := fun y hy => relabel_other (glob_of hy) (by intro q; cases q)
  calm := Kx.calm
  hu := Kx.hu
  gl := Kx.gl
  cel := fun y hy => by
   rcases cell_of hy with z | z
   ·exact absurd rfl (h2 _ (mem_of_lookup z))
   ·exact relabel_free z
  nx := rfl }
theorem compD_ok {ok : Store → Prop} {f c : D → Store → Res} {xs : List D} {st : Store} {r : List D × Store} (h : compD ok f c xs st = some r) : ok st := by
 unfold compD at h
 split at h
 ·split at h
  ·assumption
  ·cases h
 ·split at h
  ·assumption
  ·cases h
noncomputable def evB (F : Nat → Fn) (c : CE) (b : D → List (Option D)) (ρ : Env) (fr : List Nat) : D → Store → Res := fun d s => ev F c (envC b ρ fr d) s
inductive CI (X : Cx) (tn : Nat → Heap → Prop) (fp : List Addr) (fv σ : L2.St) (ρ : Env) (w : Nat) (ds : List D) (go : List D → Store → Option (List D × Store)) (Good : List Addr → Hp → Prop) (dd : Addr) (ad2 : List Addr) (H2 : Hp) (st' : Store) (ys : List D) (m : Nat) (s : Shared) : Prop
 | mk (i : Nat) (o0 : L2.St) (H : Hp) (ad : List Addr) (st : Store) (vs : List V) (es zs : List D) (him : i + m = ds.length) (hol : o0.length = w) (I : L2.Inv X [] (o0 ++ fv) H s) (ti : tn i s.heap) (fi : ∀ b ∈ fp, H b = none) (En : EnvOk X.K ad H σ ρ) (S : StOk X.K ad H st) (Gd : Good ad H) (nd : dd ∉ ad) (hv : H dd = some (.lst vs)) (rv : Dens X.K ad H vs es) (hel : es.length ≤ i)
  (hcp : go (ds.drop i) st = some (zs, st')) (hys : es ++ zs = ys) (ex : Ext ad2 H2 ad H) : CI X tn fp fv σ ρ w ds go Good dd ad2 H2 st' ys m s
theorem comp_loop (Kx : Cxt X G F sc2 N) {n : Nat} (ihE : SoundE G F n) {elt iter tg : Expr} {pos : Pos} {ifs : List Expr} {fr : List Nat} {ce cc : CE} {bd : D → List (Option D)} (hce : cE G n sc2 N elt = some ce) (hcc : (ifs = [] ∧ cc = .cst (.bl true)) ∨ ∃ e, ifs = [e] ∧ cE G n sc2 N e = some cc)
  {J : It} {fp : List Addr} {it : Addr} {tn : Nat → Heap → Prop} {ds : List D} {ok : Store → Prop} {Good : List Addr → Hp → Prop} (gm : ∀ ad H ad' H', Ext ad H ad' H' → Good ad H → Good ad' H') (gw : ∀ ad H p xs ys, H p = some (.lst xs) → Good ad H → Good ad (upd H p (.lst ys)))
  (go : ∀ i ad H st, Good ad H → StOk X.K ad H st → ok st → i < ds.length → J.go i H) (stop : ∀ i ad H st, Good ad H → StOk X.K ad H st → ok st → ds.length = i → J.stop i H) (yl : ∀ i ad H st v H', Good ad H → StOk X.K ad H st → ok st → J.yld i H v H' → i < ds.length → Ext ad H ad H' ∧ StOk X.K ad H' st ∧ ∃ d, ds[i]? = some d ∧ Den X.K ad H' v d)
  (T : Turn X.prog X.w X.K tg J fp it tn) (B : BindOk X.K tg xs bd ds) (hN : X.N.Nodup) (hx : ∀ (i : Nat) x, xs[i]? = some x → X.N[i]? = some x) (hl : ∀ y ∈ xs, X.env.scope.names.lookup y = some .local) (exx : X.xe = fun _ _ => False)
  (fpk : ∀ {H : Hp}, (∀ b ∈ fp, H b = none) → ∀ b ∈ fp, FpOk X [] H b) {fv σ : L2.St} {ρ : Env} (ec : ∀ {ad H bs d}, EnvOk X.K ad H σ ρ → EnvOk X.K ad H bs (bd d) → EnvOk X.K ad H (bs ++ fv) (envC bd ρ fr d)) {dd : Addr} {ad2 : List Addr} {H2 : Hp} {st' : Store} {ys : List D} (D0 : H2 dd = none) (hz : ds.length ≤ 1000) {R : Result → Shared → Prop}
  (done : ∀ s5 σ5 H ad vs, L2.Inv X [] σ5 H s5 → StOk X.K ad H st' → dd ∉ ad → H dd = some (.lst vs) → Dens X.K ad H vs ys → Ext ad2 H2 ad H → R (.ok .next) s5) {s : Shared} {m : Nat} (h0 : CI X tn fp fv σ ρ xs.length ds (compD ok (evB F ce bd ρ fr) (evB F cc bd ρ fr)) Good dd ad2 H2 st' ys m s) :
  codeAny (model X.prog X.w) X.A (.compLoop (.ListComp elt [⟨tg, iter, ifs, 0⟩] sc2 pos) 0 (.ref it) (.ref dd) X.env) R s := by
 refine compLoop_go _ (fun m s h => ?_) m h0
 cases h with
 | mk i o0 H ad st vs es zs him hol I ti fi En S Gd nd hv rv hel hcp hys ex =>
 have oks := compD_ok hcp
 have none_of : ∀ {E : Value → Shared → Prop} {α : Type} {t : Sem α} {R : α → Shared → Prop} {s0 : Shared}, wpAny (model X.prog X.w) X.A t R X.xe s0 → wpAny (model X.prog X.w) X.A t R E s0 := fun h => by
  rw [exx] at h
  exact wpAny_mono h (fun _ _ q => q) fun _ _ q => q.elim
 by_cases hi : i < ds.length
 ·refine thn (T.item X rfl rfl rfl Kx.calm i [] s _ H _ I (fpk fi) ti (go i ad H st Gd S oks hi)) fun r s5 ⟨u, hr, h5'⟩ => ?_
  subst hr
  refine thn h5' fun _ s6 ⟨v, H', I6, r6, y6, t6, f6⟩ => ?_
  obtain ⟨x6, S6, d, ed, dv⟩ := yl i ad H st v H' Gd S oks y6 hi
  have hd : ds.drop i = d :: ds.drop (i + 1) := by
   rw [List.drop_eq_getElem_cons hi]
   rw [List.getElem?_eq_getElem hi] at ed
   cases ed; rfl
  refine thn (none_of (B X rfl Kx.calm hN hx hl _ s6 o0 _ H' ad v u _ hol (I6.pinned (fpk f6) (T.obj _ _ t6)) r6 dv (List.mem_of_getElem? ed))) fun _ s7 ⟨bs, lb, Eb, I7⟩ => ?_
  have En6 := En.mono x6
  have En7 := ec En6 Eb
  -- behind the item's turn
  have again : ∀ {H9 : Hp} {s9 : Shared} {ad9 : List Addr} {st9 : Store} {vs9 : List V} {es9 zs9 : List D}, L2.Inv X ([] ++ pinsAt fp s6.heap) (bs ++ fv) H9 s9 → StOk X.K ad9 H9 st9 → Good ad9 H9 → dd ∉ ad9 → H9 dd = some (.lst vs9) → Dens X.K ad9 H9 vs9 es9 → es9.length ≤ i + 1 →
    compD ok (evB F ce bd ρ fr) (evB F cc bd ρ fr) (ds.drop (i + 1)) st9 = some (zs9, st') → es9 ++ zs9 = ys → Ext ad2 H2 ad9 H9 → EnvOk X.K ad9 H9 σ ρ →
    ∃ m', m' < m ∧ CI X tn fp fv σ ρ xs.length ds (compD ok (evB F ce bd ρ fr) (evB F cc bd ρ fr)) Good dd ad2 H2 st' ys m' s9 :=
   fun I9 S9 G9 n9 v9 r9 l9 c9 y9 x9 e9 =>
    have pk := fun b hb o e => I9.pin (b, o) (List.mem_append_right _ (List.mem_append_right _ (mem_pinsAt hb e)))
    ⟨m - 1, by omega, .mk (i + 1) bs _ _ _ _ _ _ (by omega) lb I9.unpinned (T.keep _ _ _ t6 fun b hb o e => (pk b hb o e).1) (fun b hb => let ⟨o, e, _⟩ := T.obj _ _ t6 b hb; (pk b hb o e).2.1) e9 S9 G9 n9 v9 r9 l9 c9 y9 x9⟩
  -- the tests
  have tests : ∀ {k : Bool} {st2 : Store}, evB F cc bd ρ fr d st = some (.bl k, st2) → ∀ {R : Bool → Shared → Prop} {E : Value → Shared → Prop}, (∀ s8 H8 ad8, L2.Inv X ([] ++ pinsAt fp s6.heap) (bs ++ fv) H8 s8 → Ext ad H' ad8 H8 → StOk X.K ad8 H8 st2 → R k s8) →
    wpAny (model X.prog X.w) X.A (forIn ifs true fun c r => if r = true then do let ok ← isTrue c X.env (eval c X.env); pure (ForInStep.yield ok) else pure (ForInStep.yield r)) R E s7 := fun {k st2} q {R E} hR => by
   rcases hcc with ⟨rfl, rfl⟩ | ⟨e, rfl, he⟩
   ·cases q
    exact wpAny_tests_nil (hR s7 H' ad I7 (Ext.refl _ _) S6)
   ·refine wpAny_tests_one (thn (none_of ((ihE X sc2 _ Kx e cc he).pt _ s7 _ H' (fun k' H8 => k' = k ∧ ∃ ad8, Ext ad H' ad8 H8 ∧ StOk X.K ad8 H8 st2) I7 ⟨ad, envC bd ρ fr d, st, k, st2, En7, S6, q, fun ad' H' x S' => ⟨rfl, ad', x, S'⟩⟩)) fun k' s8 ⟨H8, I8, e8, ad8, x8, S8⟩ => ?_)
    subst e8; exact hR s8 H8 ad8 I8 x8 S8
  have n8 : ∀ {ad8 H8}, Ext ad H' ad8 H8 → dd ∉ ad8 := fun x8 z => ((x6.trans x8).new dd z).elim nd fun w => by rw [hv] at w; cases w
  have v8 : ∀ {ad8 H8}, Ext ad H' ad8 H8 → H8 dd = some (.lst vs) := fun x8 => (x6.trans x8).keep dd _ hv nd
  have rv6 := rv.mono x6
  have ex6 := ex.trans x6
  have G6 := gm _ _ _ _ x6 Gd
  clear x6 En Eb ex Gd S I hv rv
  rw [hd] at hcp
  unfold compD at hcp
  rw [if_pos oks] at hcp
  split at hcp
  ·rename_i st2 q1
   split at hcp
   ·rename_i y st3 q2
    split at hcp
    ·rename_i zs' st4 q3
     cases hcp
     refine tests q1 fun s8 H8 ad8 I8 x8 S8 => ?_
     rw [if_pos rfl]
     refine thn (none_of ((ihE X sc2 _ Kx elt ce hce).pe _ s8 _ H8 (fun v8 H9 => ∃ ad9, Ext ad8 H8 ad9 H9 ∧ StOk X.K ad9 H9 st3 ∧ Den X.K ad9 H9 v8 y) I8 ⟨ad8, envC bd ρ fr d, st2, y, st3, En7.mono x8, S8, q2, fun v8 ad' H' x S' dn => ⟨ad', x, S', dn⟩⟩)) fun u9 s9 ⟨v9, H9, I9, r9, ad9, x9, S9, d9⟩ => ?_
     have x89 := x8.trans x9
     have hv9 := v8 x89
     have hlen : vs.length = es.length := rv6.length
     refine thn (none_of (mt_append (X := X) _ s9 _ H9 (.ref dd) [v9] (.ref dd) [u9] (fun _ H10 => H10 = upd H9 dd (.lst (vs ++ [v9]))) I9 rfl (.cons r9 .nil) ⟨dd, vs, v9, rfl, rfl, hv9, Nat.lt_of_le_of_lt (show vs.length ≤ 1000 by omega) (by decide), rfl⟩)) fun u10 s10 ⟨v10, H10, I10, r10, e10⟩ => ?_
     subst e10
     have nd9 := n8 x89
     exact again (vs9 := vs ++ [v9]) (es9 := es ++ [y]) (zs9 := zs') I10 (S9.wr hv9 nd9) (gw _ _ _ _ _ hv9 (gm _ _ _ _ x89 G6)) nd9 upd_same (((rv6.mono x89).append (.cons d9 .nil)).wr hv9) (by rw [List.length_append, List.length_singleton]; omega) q3 (by rw [← hys, List.append_assoc]; rfl) ((ex6.trans x89).wr hv9 D0) ((En6.mono x89).wr hv9)
    ·cases hcp
   ·cases hcp
  ·rename_i st2 q1
   refine tests q1 fun s8 H8 ad8 I8 x8 S8 => ?_
   rw [if_neg Bool.false_ne_true]
   exact again I8 S8 (gm _ _ _ _ x8 G6) (n8 x8) (v8 x8) (rv6.mono x8) (by omega) hcp hys (ex6.trans x8) (En6.mono x8)
  ·cases hcp
 ·refine thn (T.done X rfl rfl rfl Kx.calm i [] s _ H _ I (fpk fi) ti (stop i ad H st Gd S oks (by omega))) fun r s5 ⟨hr, I5⟩ => ?_
  subst hr
  rw [List.drop_eq_nil_of_le (Nat.le_of_not_lt hi)] at hcp
  unfold compD at hcp
  rw [if_pos oks] at hcp
  cases hcp
  rw [List.append_nil] at hys
  subst hys
  exact done s5 _ H ad vs I5 S nd hv rv ex
theorem comp_core2 (Kx : Cxt X G F sc N) {n : Nat} (ihE : SoundE G F n) {elt iter tg : Expr} {pos : Pos} {ifs : List Expr} {fr : List Nat} {ce cc : CE} (hsc : compSc sc sc2 xs = true) (hfr : optIdx N (frees sc2) = some fr)
  {bd : D → List (Option D)} (hce : cE G n sc2 (xs ++ frees sc2) elt = some ce) (hcc : (ifs = [] ∧ cc = .cst (.bl true)) ∨ ∃ e, ifs = [e] ∧ cE G n sc2 (xs ++ frees sc2) e = some cc) {cl : List (Str × Addr)}
  (c1 : ∀ y c, cl.lookup y = some c → X.env.cells.lookup y = some c) (c2 : ∀ y, (y, NameKind.free) ∈ sc2.names → (cl.lookup y).isSome)
  {J : It} {fp : List Addr} {it : Addr} {tn : Nat → Heap → Prop} {ds : List D} {ok : Store → Prop} {use : Option (Value → Sem Unit)} {R0 : Value → Shared → Prop} {Good : List Addr → Hp → Prop} (gm : ∀ ad H ad' H', Ext ad H ad' H' → Good ad H → Good ad' H') (gw : ∀ ad H p xs ys, H p = some (.lst xs) → Good ad H → Good ad (upd H p (.lst ys)))
  (go : ∀ i ad H st, Good ad H → StOk X.K ad H st → ok st → i < ds.length → J.go i H) (stop : ∀ i ad H st, Good ad H → StOk X.K ad H st → ok st → ds.length = i → J.stop i H) (yl : ∀ i ad H st v H', Good ad H → StOk X.K ad H st → ok st → J.yld i H v H' → i < ds.length → Ext ad H ad H' ∧ StOk X.K ad H' st ∧ ∃ d, ds[i]? = some d ∧ Den X.K ad H' v d)
  {pins : List (Addr × Obj)} {σ : L2.St} {H2 : Hp} {s2 s3 : Shared} {dd : Addr} {h₁ : Heap} {m0 : Str → Option Value} {tk : Nat} {Q : VK} {ad2 : List Addr} {ρ : Env} {st1 st' : Store} {ys : List D} (B : BindOk X.K tg xs bd ds) (T : Turn X.prog X.w X.K tg J fp it tn) (t2 : tn 0 s2.heap) (f2 : ∀ b ∈ fp, FpOk X pins H2 b) (fb : ∀ b ∈ fp, b < dd)
  (E2 : EnvOk X.K ad2 H2 σ ρ) (S2 : StOk X.K ad2 H2 st1) (g2 : Good ad2 H2) (hcomp : compD ok (fun d s => ev F ce (envC bd ρ fr d) s) (fun d s => ev F cc (envC bd ρ fr d) s) ds st1 = some (ys, st')) (hz : ds.length ≤ 1000) (hp : Post X.K ad2 H2 (.lst st'.length) (st' ++ [(true, ys)]) Q)
  (hend : ∀ C dd s5 H5 m', s5.heap.Ns C m' → (∀ h', Heap.SameBut C s5.heap h' → L2.Inv X pins σ H5 { s5 with heap := h' }) → FpOk X pins H5 C → Q (.ref dd) H5 → compPost (model X.prog X.w) X.A X.xe use R0 (.ref dd) C (.ok .next) s5)  (D0 : H2 dd = none) (I3 : L2.Inv X pins σ (upd H2 dd (.lst [])) s3) (z3 : s3.heap.objs.size = dd + 1) (nad : dd ∉ ad2) (hns₁ : h₁.Ns s3.heap.objs.size m0) (up : ∀ b u, s3.heap.get? b = some u → h₁.get? b = some u) (up0 : ∀ b u, s2.heap.get? b = some u → s3.heap.get? b = some u) :
  codeAny (model X.prog X.w) X.A (.compStart (.ListComp elt [⟨tg, iter, ifs, 0⟩] sc2 pos) 0 (.ref it) (.ref dd) (compEnvC sc2 cl s3.heap.objs.size X.env)) (compPost (model X.prog X.w) X.A X.xe use R0 (.ref dd) s3.heap.objs.size) { s3 with heap := h₁, toks := tk } := by
 obtain ⟨h1, h2, h3, h4, h5, h6⟩ := compSc_parts hsc
 have f3 : ∀ b ∈ fp, FpOk X pins (upd H2 dd (.lst [])) b := fun b hb => ⟨by rw [upd_ne (Nat.ne_of_lt (fb b hb))]; exact (f2 b hb).1, (f2 b hb).2⟩
 obtain ⟨fl, fg⟩ := optIdx_get hfr
 have I4 := inv_comp (N := xs ++ frees sc2) (cl := cl) (fp := fp) (tk := tk) (σ' := List.replicate xs.length none ++ fr.map fun i => (σ[i]?).join) I3 h1 h2 hns₁ up c1 (fun y e => c2 y (mem_of_lookup e)) f3 (fun b hb => by rw [z3]; exact Nat.lt_succ_of_lt (fb b hb)) (fun i y v e1 e2 => by
  by_cases hi : i < xs.length
  ·rw [List.getElem?_append_left (by simpa using hi), List.getElem?_replicate, if_pos hi] at e2; cases e2
  ·have hi : xs.length ≤ i := Nat.le_of_not_lt hi
   rw [List.getElem?_append_right (by simpa using hi), List.getElem?_map, List.length_replicate] at e2
   rw [List.getElem?_append_right hi] at e1
   cases q : fr[i - xs.length]? with
   | none => rw [q] at e2; cases e2
   | some k =>
    rw [q] at e2
    have e2 : (σ[k]?).join = some v := by simpa using e2
    have e3 : σ[k]? = some (some v) := by
     cases w : σ[k]? with
     | none => rw [w] at e2; cases e2
     | some o => rw [w] at e2; rw [show o = some v from e2]
    obtain ⟨y', g1, g2⟩ := fg _ k q
    rw [e1] at g1; cases g1
    obtain ⟨k1, k2⟩ := h6 y (List.mem_of_getElem? e1)
    exact ⟨k, by rw [Kx.hN]; exact g2, e3, k2, Kx.cel y k1⟩) (by simp [fl])
 have K' := cxt_comp (cl := cl) (C := s3.heap.objs.size) (s3 := s3) (H3 := upd H2 dd (.lst [])) (fp := fp) (pins := pins) Kx hsc
 have loop := comp_loop (R := compPost (model X.prog X.w) X.A X.xe use R0 (.ref dd) s3.heap.objs.size) (pos := pos) (iter := iter) K' ihE hce hcc gm gw go stop yl T B h5 (fun i x e => by show (xs ++ frees sc2)[i]? = some x; rw [List.getElem?_append_left (List.getElem?_eq_some_iff.mp e).1]; exact e) (fun y hy => relabel_other (h3 y hy) (by intro q; cases q)) rfl (fun {H} hn b hb => ⟨hn b hb, by
  show b ≠ s3.heap.objs.size
  rw [z3]; exact Nat.ne_of_lt (Nat.lt_succ_of_lt (fb b hb)), fun hs => (List.mem_cons.mp (I3.stkSub b hs)).elim (f2 b hb).2.1 (f2 b hb).2.2.1, .inl hb, fun y c e => (f2 b hb).2.2.2.2.1 y c (c1 _ _ e), fun p hp => (f2 b hb).2.2.2.2.2 p (by simpa [cxC] using hp)⟩) (σ := σ) (ρ := ρ) (fr := fr) (fun a b => env_comp a b) (dd := dd) (ad2 := ad2) (H2 := H2) (st' := st') (ys := ys) D0 hz (fun s5 σ5 H ad vs I5 S nd hv rv ex => by
   obtain ⟨m', hn, _⟩ := I5.loc
   refine hend s3.heap.objs.size dd s5 H m' hn (fun h' sb => inv_back I3 rfl I5 sb f3) (I3.fpOk (Nat.le_refl _) I5.free) (hp (.ref dd) (ad ++ [dd]) H ⟨fun j a e => snoc_pre (ex.pre j a e), ex.tup, ex.dk, ex.keep, fun b hb => ?_, ex.kd⟩ (S.adopt hv nd rv) (.lst ⟨by rw [← S.len]; exact snoc_last, noDT hv fun _ z => nomatch z⟩))
   rcases List.mem_append.mp hb with z | z
   ·exact ex.new b z
   ·rw [List.mem_singleton.mp z]; exact .inr D0)
  (.mk 0 (List.replicate xs.length none) (upd H2 dd (.lst [])) ad2 st1 [] [] ys (Nat.zero_add _) (List.length_replicate ..) I4 (T.keep _ _ _ t2 fun b _ o e => up b o (up0 b o e)) (fun b hb => (f3 b hb).1) (E2.mono (Ext.laid D0)) (S2.laid D0) (gm _ _ _ _ (Ext.laid D0) g2) nad upd_same .nil (Nat.le_refl _) hcomp rfl (Ext.laid D0))
 exact codeAny_compStart_list loop (T.self X.A 0 _ _ _ (T.keep _ _ _ t2 fun b _ o e => up b o (up0 b o e)) loop)
theorem comp_core (Kx : Cxt X G F sc N) {n : Nat} (ihE : SoundE G F n) {elt iter tg : Expr} {pos : Pos} {ifs : List Expr} {fr : List Nat} {ce cc : CE} (hsc : compSc sc sc2 xs = true) (hfr : optIdx N (frees sc2) = some fr)
  {bd : D → List (Option D)} (hce : cE G n sc2 (xs ++ frees sc2) elt = some ce) (hcc : (ifs = [] ∧ cc = .cst (.bl true)) ∨ ∃ e, ifs = [e] ∧ cE G n sc2 (xs ++ frees sc2) e = some cc) {cl : List (Str × Addr)}
  (c1 : ∀ y c, cl.lookup y = some c → X.env.cells.lookup y = some c) (c2 : ∀ y, (y, NameKind.free) ∈ sc2.names → (cl.lookup y).isSome)
  {J : It} {fp : List Addr} {it : Addr} {tn : Nat → Heap → Prop} {ds : List D} {ok : Store → Prop} {use : Option (Value → Sem Unit)} {R0 : Value → Shared → Prop} (Good : List Addr → Hp → Prop) (gm : ∀ ad H ad' H', Ext ad H ad' H' → Good ad H → Good ad' H') (gw : ∀ ad H p xs ys, H p = some (.lst xs) → Good ad H → Good ad (upd H p (.lst ys)))
  (go : ∀ i ad H st, Good ad H → StOk X.K ad H st → ok st → i < ds.length → J.go i H) (stop : ∀ i ad H st, Good ad H → StOk X.K ad H st → ok st → ds.length = i → J.stop i H) (yl : ∀ i ad H st v H', Good ad H → StOk X.K ad H st → ok st → J.yld i H v H' → i < ds.length → Ext ad H ad H' ∧ StOk X.K ad H' st ∧ ∃ d, ds[i]? = some d ∧ Den X.K ad H' v d)
  {pins : List (Addr × Obj)} {σ : L2.St} {H2 : Hp} {s2 : Shared} {Q : VK} {ad2 : List Addr} {ρ : Env} {st1 st' : Store} {ys : List D} (I2 : L2.Inv X pins σ H2 s2) (B : BindOk X.K tg xs bd ds) (T : Turn X.prog X.w X.K tg J fp it tn) (t2 : tn 0 s2.heap) (f2 : ∀ b ∈ fp, FpOk X pins H2 b)
  (E2 : EnvOk X.K ad2 H2 σ ρ) (S2 : StOk X.K ad2 H2 st1) (g2 : Good ad2 H2) (hcomp : compD ok (fun d s => ev F ce (envC bd ρ fr d) s) (fun d s => ev F cc (envC bd ρ fr d) s) ds st1 = some (ys, st')) (hz : ds.length ≤ 1000) (hp : Post X.K ad2 H2 (.lst st'.length) (st' ++ [(true, ys)]) Q)
  (hend : ∀ C dd s5 H5 m', s5.heap.Ns C m' → (∀ h', Heap.SameBut C s5.heap h' → L2.Inv X pins σ H5 { s5 with heap := h' }) → FpOk X pins H5 C → Q (.ref dd) H5 → compPost (model X.prog X.w) X.A X.xe use R0 (.ref dd) C (.ok .next) s5) :
  wpAny (model X.prog X.w) X.A (newList []) (fun acc s₃ => wpAny (model X.prog X.w) X.A (newFunctionEnv sc2 X.env.globals cl [] X.env.qual none .none (some X.env)) (fun cenv s₄ =>
   codeAny (model X.prog X.w) X.A (.compStart (.ListComp elt [⟨tg, iter, ifs, 0⟩] sc2 pos) 0 (.ref it) acc { cenv with scope := relabel sc2 X.env }) (compPost (model X.prog X.w) X.A X.xe use R0 acc cenv.locals) s₄) X.xe s₃) X.xe s2 := by
 obtain ⟨h1, h2, h3, h4, h5, h6⟩ := compSc_parts hsc
 have fb : ∀ b ∈ fp, b < s2.heap.objs.size := fun b hb => let ⟨o, e, _⟩ := T.obj 0 _ t2 b hb; Heap.lt_size e
 refine wpAny_newObj_type (wpAny_newFunctionEnv h2 (by intro y hy; simp at hy) (fun h₁ hns₁ hsb₁ => ?_) h1)
 dsimp only at hns₁ hsb₁ ⊢
 have I3 : L2.Inv X pins σ (upd H2 s2.heap.objs.size (.lst [])) { s2 with heap := s2.heap.push { cls := .type "list", dict := none, data := .seq ([] : List Value).toArray } } := I2.lnew (its := []) (t' := s2.toks) .nil (Nat.zero_le _)
 have e3 : s2.heap.push { cls := .type "list", dict := none, data := .seq ([] : List Value).toArray } = ({ s2 with heap := s2.heap.push { cls := .type "list", dict := none, data := .seq ([] : List Value).toArray } } : Shared).heap := rfl
 exact comp_core2 Kx ihE hsc hfr hce hcc c1 c2 gm gw go stop yl B T t2 f2 fb E2 S2 g2 hcomp hz hp hend (I2.hok.fresh (Nat.le_refl _)) I3 (Heap.size_push ..) (fun z => absurd (S2.lt I2 z) (Nat.lt_irrefl _)) hns₁ (fun b u e => hsb₁.extBut b u (Nat.ne_of_lt (Heap.lt_size e)) (Heap.get?_push_of_some _ e)) (fun b u e => Heap.get?_push_of_some _ e)
end
end Dp



namespace Dp
open PySem PySem.Spec PyProof.Rows L2
variable [ClsTab]
def Came (X : Cx) (σ : L2.St) (ρ : Env) (ds : List D) (ok : Store → Prop) (st1 st2 : Store) (ys : List D) (Q : VK) (J : It) (H1 : Hp) : Prop :=
 ∃ (ad1 : List Addr) (Good : List Addr → Hp → Prop), (∀ ad H ad' H', Ext ad H ad' H' → Good ad H → Good ad' H') ∧ (∀ ad H p xs ys, H p = some (.lst xs) → Good ad H → Good ad (upd H p (.lst ys))) ∧
  (∀ i ad H st, Good ad H → StOk X.K ad H st → ok st → i < ds.length → J.go i H) ∧ (∀ i ad H st, Good ad H → StOk X.K ad H st → ok st → ds.length = i → J.stop i H) ∧ (∀ i ad H st v H', Good ad H → StOk X.K ad H st → ok st → J.yld i H v H' → i < ds.length → Ext ad H ad H' ∧ StOk X.K ad H' st ∧ ∃ d, ds[i]? = some d ∧ Den X.K ad H' v d) ∧
  EnvOk X.K ad1 H1 σ ρ ∧ StOk X.K ad1 H1 st1 ∧ Good ad1 H1 ∧ Post X.K ad1 H1 (.lst st2.length) (st2 ++ [(true, ys)]) Q
theorem came_tup {X : Cx} {σ : L2.St} {ρ : Env} {ds : List D} {st st1 st2 : Store} {ys : List D} {Q : VK} {H : Hp} {ad : List Addr} {f : Ev} (E : EnvOk X.K ad H σ ρ) (S : StOk X.K ad H st) (q : f ρ st = some (.tup ds, st1)) (p : Post X.K ad H (.lst st2.length) (st2 ++ [(true, ys)]) Q) :
  iTup X.K (tE X.K f) σ H (Came X σ ρ ds (fun _ => True) st1 st2 ys Q) := by
 refine ⟨ad, ρ, st, .tup ds, st1, E, S, q, fun v ad1 H1 x1 S1 d1 => ?_⟩
 obtain ⟨a, vs, rfl, ha, rv⟩ := d1.ofTup
 refine ⟨a, rfl, ⟨vs, (ha).sq⟩, ad1, fun ad H => TupAt X.K H a vs ∧ Dens X.K ad H vs ds, fun _ _ _ _ x g => ⟨g.1.mono x, g.2.mono x⟩, fun _ H p xs ys hp g => ⟨g.1.upd hp (by intro xs z; cases z), g.2.wr hp⟩, fun i ad H st g _ _ hi => ?_, fun i ad H st g _ _ hi => ⟨vs, (g.1).sq, by rw [g.2.length]; exact Nat.le_of_eq hi⟩,
  fun i ad H st v H' g S _ y hi => ?_, E.mono x1, S1, ⟨ha, rv⟩, p.later x1⟩
 ·obtain ⟨v, e, _⟩ := g.2.get (List.getElem?_eq_getElem hi)
  exact ⟨vs, v, (g.1).sq, e⟩
 ·obtain ⟨w, e, dw⟩ := g.2.get (List.getElem?_eq_getElem hi)
  have := y.2 vs ((g.1).sq)
  rw [e] at this; cases this
  cases y.1
  exact ⟨Ext.refl _ _, S, _, List.getElem?_eq_getElem hi, dw⟩
theorem came_rng {X : Cx} {σ : L2.St} {ρ : Env} {n : Int} {st st1 st2 : Store} {ys : List D} {Q : VK} {H : Hp} {ad : List Addr} {f : Ev} (hn : n < 2 ^ 62 ∧ -(2 ^ 62) ≤ n) (E : EnvOk X.K ad H σ ρ) (S : StOk X.K ad H st) (q : f ρ st = some (.int n, st1)) (p : Post X.K ad H (.lst st2.length) (st2 ++ [(true, ys)]) Q) :
  iRng1 (tCons (tE X.K f) tNil) σ H (Came X σ ρ ((List.range n.toNat).map fun (k : Nat) => D.int (k : Int)) (fun _ => True) st1 st2 ys Q) := by
 refine ⟨ad, ρ, st, .int n, st1, E, S, q, fun v ad1 H1 x1 S1 d1 => ?_⟩
 cases d1.ofInt
 refine ⟨n, rfl, hn.2, hn.1, ad1, fun _ _ => True, fun _ _ _ _ _ _ => trivial, fun _ _ _ _ _ _ _ => trivial, fun i ad H st _ _ _ hi => (show i < n.toNat by simpa using hi), fun i ad H st _ _ _ hi => (show n.toNat ≤ i by simpa using Nat.le_of_eq hi), fun i ad H st v H' _ S _ y hi => ?_, E.mono x1, S1, trivial, p.later x1⟩
 cases y.1
 have hi' : i < n.toNat := by simpa using hi
 refine ⟨Ext.refl _ _, S, .int (i : Int), ?_, ?_⟩
 ·rw [List.getElem?_map, List.getElem?_range hi']; rfl
 ·rw [y.2, Int.zero_add]; exact .int _
theorem came_lst {X : Cx} {σ : L2.St} {ρ : Env} {l : Nat} {c : Cell} {st st1 st2 : Store} {ys : List D} {Q : VK} {H : Hp} {ad : List Addr} {f : Ev} (E : EnvOk X.K ad H σ ρ) (S : StOk X.K ad H st) (q : f ρ st = some (.lst l, st1)) (hc : st1[l]? = some c) (p : Post X.K ad H (.lst st2.length) (st2 ++ [(true, ys)]) Q) :
  iList X.K (tE X.K f) σ H (Came X σ ρ c.2 (fun s => s[l]? = some c) st1 st2 ys Q) := by
 refine ⟨ad, ρ, st, .lst l, st1, E, S, q, fun v ad1 H1 x1 S1 d1 => ?_⟩
 obtain ⟨a, rfl, ha⟩ := d1.ofLst
 obtain ⟨vs, rv, sq⟩ := S1.list ha (show st1[l]? = some (c.1, c.2) from hc)
 refine ⟨a, rfl, ⟨vs, sq⟩, ad1, fun ad H => LA ad H l a, fun _ _ _ _ x g => g.mono x, fun _ _ _ _ _ e g => ⟨g.1, fun z => g.2 ((lst_DT e).mpr z)⟩, fun i ad H st g S e hi => ?_, fun i ad H st g S e hi => ?_, fun i ad H st v H' g S e y hi => ?_, E.mono x1, S1, ha, p.later x1⟩
 ·obtain ⟨vs, rv, sq⟩ := S.list g (show st[l]? = some (c.1, c.2) from e)
  obtain ⟨v, e, _⟩ := rv.get (List.getElem?_eq_getElem hi)
  exact ⟨vs, v, sq, e⟩
 ·obtain ⟨vs, rv, sq⟩ := S.list g (show st[l]? = some (c.1, c.2) from e)
  exact ⟨vs, sq, by rw [rv.length]; exact Nat.le_of_eq hi⟩
 ·obtain ⟨vs, rv, sq⟩ := S.list g (show st[l]? = some (c.1, c.2) from e)
  obtain ⟨w, e, dw⟩ := rv.get (List.getElem?_eq_getElem hi)
  have := y.2 vs sq
  rw [e] at this; cases this
  cases y.1
  exact ⟨Ext.refl _ _, S, _, List.getElem?_eq_getElem hi, dw⟩
theorem came_rng2 {X : Cx} {σ : L2.St} {ρ : Env} {x0 : D} {ds : List D} {ok : Store → Prop} {st st1 st2 : Store} {ys : List D} {Q : VK} {H : Hp} {ad : List Addr} {fa fb : Ev} (E : EnvOk X.K ad H σ ρ) (S : StOk X.K ad H st) (q : seq2 fa fb rng2D ρ st = some (x0, st1)) (hw : walkD false x0 st1 = some (ds, ok)) (p : Post X.K ad H (.lst st2.length) (st2 ++ [(true, ys)]) Q) :
  iRng2 (tCons (tE X.K fa) (tCons (tE X.K fb) tNil)) σ H (Came X σ ρ ds ok st1 st2 ys Q) := by
 unfold seq2 at q
 split at q
 ·rename_i da s1 qa
  split at q
  ·rename_i db s2 qb
   unfold rng2D at q
   split at q
   ·rename_i a b
    split at q
    ·rename_i hr
     cases q
     cases hw
     unfold rangeOk at hr
     simp only [decide_eq_true_eq] at hr
     have hN : rangeN a b 1 = (b - a).toNat := by
      unfold rangeN
      rw [if_pos (by decide)]
      split
      ·rw [Int.ediv_one]; omega
      ·omega
     have hl : ((rangeL a b 1).map D.int).length = (b - a).toNat := by unfold rangeL; rw [List.length_map, List.length_map, List.length_range, hN]
     refine ⟨ad, ρ, st, .int a, s1, E, S, qa, fun v ad1 H1 x1 S1 d1 => ?_⟩
     cases d1.ofInt
     refine ⟨ad1, ρ, s1, .int b, _, E.mono x1, S1, qb, fun w ad2 H2 x2 S2 d2 => ?_⟩
     cases d2.ofInt
     refine ⟨a, b, rfl, ⟨by omega, by omega, by omega, by omega⟩, ad2, fun _ _ => True, fun _ _ _ _ _ _ => trivial, fun _ _ _ _ _ _ _ => trivial, fun i ad H st _ _ _ hi => (show i < (b - a).toNat by omega), fun i ad H st _ _ _ hi => (show (b - a).toNat ≤ i by omega), fun i ad H st v H' _ S _ y hi => ?_, E.mono (x1.trans x2), S2, trivial, p.later (x1.trans x2)⟩
     cases y.1
     have hi' : i < rangeN a b 1 := by omega
     refine ⟨Ext.refl _ _, S, .int (a + (i : Int)), ?_, ?_⟩
     ·unfold rangeL
      rw [List.getElem?_map, List.getElem?_map, List.getElem?_range hi']
      show some (D.int (a + (i : Int) * 1)) = _
      rw [Int.mul_one]
     ·rw [y.2]; exact .int _
    ·cases q
   ·cases q
  ·cases q
 ·cases q
theorem came_str {X : Cx} {σ : L2.St} {ρ : Env} {z : Str} {st st1 st2 : Store} {ys : List D} {Q : VK} {H : Hp} {ad : List Addr} {f : Ev} (ha : z.cps.all (fun c => decide (c < 128)) = true) (E : EnvOk X.K ad H σ ρ) (S : StOk X.K ad H st) (q : f ρ st = some (.str z, st1)) (p : Post X.K ad H (.lst st2.length) (st2 ++ [(true, ys)]) Q) :
  iStr (tE X.K f) σ H (Came X σ ρ ((chS z).map D.str) (fun _ => True) st1 st2 ys Q) := by
 refine ⟨ad, ρ, st, .str z, st1, E, S, q, fun v ad1 H1 x1 S1 d1 => ?_⟩
 cases d1
 have hl : ((chS z).map D.str).length = z.cps.size := by simp [chS]
 refine ⟨z, rfl, ha, ad1, fun _ _ => True, fun _ _ _ _ _ _ => trivial, fun _ _ _ _ _ _ _ => trivial, fun i ad H st _ _ _ hi => (show i < z.cps.size by omega), fun i ad H st _ _ _ hi => (show z.cps.size ≤ i by omega), fun i ad H st v H' _ S _ y hi => ?_, E.mono x1, S1, trivial, p.later x1⟩
 obtain ⟨rfl, c, hc, rfl⟩ := y
 refine ⟨Ext.refl _ _, S, .str ⟨#[c]⟩, ?_, .str _⟩
 unfold chS
 rw [List.getElem?_map, List.getElem?_map, Array.getElem?_toList, hc]
 rfl
theorem tgN_plain {tg : Expr} {xs : List Str} (h : tgN tg = some xs) : ∃ x px, tg = .Name x px ∧ xs = [x] := by
 unfold tgN at h
 split at h
 ·cases h; exact ⟨_, _, rfl, rfl⟩
 ·cases h
inductive CSh (G : Gs) (n : Nat) (sc : Scope) (N : List Str) (elt : Expr) (sc2 : Scope) : List Comprehension → CE → Prop
 | mk {tg it : Expr} {ifs : List Expr} {xs : List Str} {fr : List Nat} {r : Option (Option Bool)} {ci ce cc : CE} (htg : tgN tg = some xs) (hsc : compSc sc sc2 xs = true) (hfr : optIdx N (frees sc2) = some fr) (hi : itC G sc it (cE G n sc N) xs = some (r, ci)) (hce : cE G n sc2 (xs ++ frees sc2) elt = some ce) (hcc : (ifs = [] ∧ cc = .cst (.bl true)) ∨ ∃ e, ifs = [e] ∧ cE G n sc2 (xs ++ frees sc2) e = some cc) : CSh G n sc N elt sc2 [⟨tg, it, ifs, 0⟩] (mkC r fr ci ce cc)
theorem comp_sh {G : Gs} {n : Nat} {sc : Scope} {N : List Str} {elt : Expr} {gens : List Comprehension} {sc2 : Scope} {pos : Pos} {c : CE} (h : cE G (n + 1) sc N (.ListComp elt gens sc2 pos) = some c) : CSh G n sc N elt sc2 gens c := by
 replace h : compC G sc sc2 N (cE G n sc N) (cE G n sc2) elt gens = some c := h
 have no : ∀ {P : Prop}, (none : Option CE) = some c → P := fun z => nomatch z
 cases gens with
 | nil => exact no h
 | cons g gs =>
  obtain ⟨tg, it, ifs, k⟩ := g
  cases k with
  | negSucc _ => cases gs <;> exact no h
  | ofNat m => cases m with
   | succ _ => cases gs <;> exact no h
   | zero => cases gs with
    | cons _ _ => exact no h
    | nil =>
     replace h : (match tgN tg with
      | none => none
      | some xs => og (compSc sc sc2 xs = true) (o3 (fun fr p (q : CE × CE) => mkC p.1 fr p.2 q.1 q.2) (optIdx N (frees sc2)) (itC G sc it (cE G n sc N) xs) (o2 Prod.mk (cE G n sc2 (xs ++ frees sc2) elt) (ifC (cE G n sc2 (xs ++ frees sc2)) ifs)))) = some c := h
     cases htg : tgN tg with
     | none => rw [htg] at h; cases h
     | some xs =>
      rw [htg] at h
      refine og_e h fun hsc h => o3_e (P := CSh G n sc N elt sc2 _) h fun fr p q hfr hi hq => o2_e (P := fun q : CE × CE => CSh G n sc N elt sc2 _ (mkC p.1 fr p.2 q.1 q.2)) hq fun ce cc hce hcc => .mk htg hsc hfr hi hce ?_
      cases ifs with
      | nil => cases hcc; exact .inl ⟨rfl, rfl⟩
      | cons a l => cases l with
       | nil => exact .inr ⟨a, rfl, hcc⟩
       | cons _ _ => cases hcc
inductive CR (b : D → List (Option D)) (w : D → Store → Option (List D × (Store → Prop))) (fr : List Nat) (fi fe fc : Ev) (ρ : Env) (st : Store) : D → Store → Prop
 | mk {x : D} {st1 st2 : Store} {ds ys : List D} {ok : Store → Prop} (q1 : fi ρ st = some (x, st1)) (q2 : w x st1 = some (ds, ok)) (hz : ds.length ≤ 1000) (q3 : compD ok (fun d s => fe (envC b ρ fr d) s) (fun d s => fc (envC b ρ fr d) s) ds st1 = some (ys, st2)) : CR b w fr fi fe fc ρ st (.lst st2.length) (st2 ++ [(true, ys)])
theorem compR_inv {b : D → List (Option D)} {w : D → Store → Option (List D × (Store → Prop))} {fr : List Nat} {fi fe fc : Ev} {ρ : Env} {st : Store} {d : D} {st' : Store} (e : compR b w fr fi fe fc ρ st = some (d, st')) : CR b w fr fi fe fc ρ st d st' := by
 unfold compR at e
 split at e
 ·split at e
  ·split at e
   ·split at e
    ·cases e; exact .mk ‹_› ‹_› ‹_› ‹_›
    ·cases e
   ·cases e
  ·cases e
 ·cases e
inductive CIt (X : Cx) (pins : List (Addr × Obj)) (s : Shared) (σ : L2.St) (ρ : Env) (tg it : Expr) (xs : List Str) (F : Nat → Fn) (fr : List Nat) (ce cc : CE) (Q : VK) : Prop
 | mk {bd : D → List (Option D)} {ds : List D} {ok : Store → Prop} {st1 st2 : Store} {ys : List D} (B : BindOk X.K tg xs bd ds) (hz : ds.length ≤ 1000) (q3 : compD ok (fun d s => ev F ce (envC bd ρ fr d) s) (fun d s => ev F cc (envC bd ρ fr d) s) ds st1 = some (ys, st2)) (hp : isPlain it = true) (pi : wpAny (model X.prog X.w) X.A (eval it X.env) (fun v s1 => wpAny (model X.prog X.w) X.A (pyIter v) (PIE X pins σ tg (Came X σ ρ ds ok st1 st2 ys Q)) X.xe s1) X.xe s) : CIt X pins s σ ρ tg it xs F fr ce cc Q
theorem map_inv {α β : Type} {f : α → β} {o : Option α} {b : β} (h : o.map f = some b) : ∃ a, o = some a ∧ f a = b := by
 cases o with
 | none => cases h
 | some a => exact ⟨a, rfl, by cases h; rfl⟩
theorem comp_it {G : Gs} {F : Nat → Fn} {n : Nat} (ihE : SoundE G F n) {X : Cx} {sc : Scope} {N : List Str} (Kx : Cxt X G F sc N) {tg it : Expr} {xs : List Str} {fr : List Nat} {r : Option (Option Bool)} {ci ce cc : CE} (htg : tgN tg = some xs) (hi : itC G sc it (cE G n sc N) xs = some (r, ci))
  {pins : List (Addr × Obj)} {s : Shared} {σ : L2.St} {H : Hp} {Q : VK} (I : L2.Inv X pins σ H s) {ad : List Addr} {ρ : Env} {st : Store} {d : D} {st' : Store} (E : EnvOk X.K ad H σ ρ) (S : StOk X.K ad H st) (e : ev F (mkC r fr ci ce cc) ρ st = some (d, st')) (p : Post X.K ad H d st' Q) : CIt X pins s σ ρ tg it xs F fr ce cc Q := by
 obtain ⟨x, px, rfl, rfl⟩ := tgN_plain htg
 ·replace hi : (match rangeArg G sc it with
   | some a => (cE G n sc N a).map fun c => (some (some true), c)
   | none => match (fnA G sc "range" it).bind twoA with
    | some p => o2 (fun x y => (some (some false), .rng2 x y)) (cE G n sc N p.1) (cE G n sc N p.2)
    | none => (cE G n sc N it).map fun c => (some (some false), c)) = some (r, ci) := hi
  split at hi
  ·rename_i a ha
   obtain ⟨ca, q, hi⟩ := map_inv hi
   cases hi
   obtain ⟨hp, pi⟩ := rangeArg_pi (tg := .Name x px) Kx ha (plain_of q) (ihE X sc N Kx a _ q).pe
   cases compR_inv e with
   | @mk x0 st1 st2 ds ys ok q1 q2 hz q3 =>
    refine .mk bind_one hz q3 hp (pi pins s σ H _ I ?_)
    cases x0 with
    | int k =>
     have q2 : (match (if k < 2 ^ 62 ∧ -(2 ^ 62) ≤ k then some ((List.range k.toNat).map fun (k : Nat) => D.int (k : Int)) else none) with
      | some xs => some (xs, fun _ => True)
      | none => none) = some (ds, ok) := q2
     by_cases hk : k < 2 ^ 62 ∧ -(2 ^ 62) ≤ k
     ·rw [if_pos hk] at q2
      cases q2
      exact came_rng hk E S q1 p
     ·rw [if_neg hk] at q2
      cases q2
    | _ => cases q2
  ·split at hi
   ·rename_i p hp2
    refine o2_e (P := fun u : Option (Option Bool) × CE => u = (r, ci) → CIt X pins s σ ρ (.Name x px) it [x] F fr ce cc Q) hi (fun ca cb qa qb hu => ?_) rfl
    cases hu
    obtain ⟨as, h1, h2⟩ := Option.bind_eq_some_iff.mp hp2
    obtain ⟨pp, pos, rfl, hg, hm⟩ := fnA_of Kx h1
    obtain ⟨a, b⟩ := p
    obtain rfl : as = [a, b] := by
     cases as with
     | nil => cases h2
     | cons a0 as => cases as with
      | nil => cases h2
      | cons b0 as => cases as with
       | nil => cases h2; rfl
       | cons _ _ => cases h2
    cases compR_inv e with
    | @mk x0 st1 st2 ds ys ok q1 q2 hz q3 =>
     refine .mk bind_one hz q3 rfl (pi_range2 hg hm (pa2 (plain_of qa) (plain_of qb) (ihE X sc N Kx a _ qa).pe (ihE X sc N Kx b _ qb).pe) (by rw [star_plain (plain_of qa), star_plain (plain_of qb)]; rfl) (star_plain (plain_of qb)) pins s σ H _ I (came_rng2 E S q1 q2 p))
   ·obtain ⟨ca, q, hi⟩ := map_inv hi
    cases hi
    cases compR_inv e with
    | @mk x0 st1 st2 ds ys ok q1 q2 hz q3 =>
     refine .mk bind_one hz q3 (plain_of q) ?_
     cases x0 with
     | tup xs => cases q2; exact pi_tup (ihE X sc N Kx it _ q).pe pins s σ H _ I (came_tup E S q1 p)
     | lst l =>
      have q2 : (match st1[l]? with
       | some c => some (c.2, fun s => s[l]? = some c)
       | none => none) = some (ds, ok) := q2
      cases q4 : st1[l]? with
      | none => rw [q4] at q2; cases q2
      | some c0 =>
       rw [q4] at q2
       cases q2
       exact pi_list (ihE X sc N Kx it _ q).pe pins s σ H _ I (came_lst E S q1 q4 p)
     | str z =>
      have q2 : (if z.cps.all (fun c => decide (c < 128)) = true then some ((chS z).map D.str, fun _ => True) else none) = some (ds, ok) := q2
      by_cases ha : z.cps.all (fun c => decide (c < 128)) = true
      ·rw [if_pos ha] at q2
       cases q2
       exact pi_str (ihE X sc N Kx it _ q).pe pins s σ H _ I (came_str ha E S q1 p)
      ·rw [if_neg ha] at q2
       cases q2
     | dct ks vs =>
      have no : ∀ {v : V} {ad1 : List Addr} {H1 : Hp}, Den X.K ad1 H1 v (.dct ks vs) → False := fun {v ad1 H1} d1 => by
       obtain ⟨a, ws, _, _, hl, r⟩ := d1.ofDct
       cases ks with
       | cons _ _ => cases q2
       | nil =>
        cases ws with
        | cons _ _ => cases hl
        | nil => cases r; cases q2
      exact thn ((ihE X sc N Kx it _ q).pe pins s σ H (fun _ _ => False) I ⟨ad, ρ, st, _, st1, E, S, q1, fun v ad1 H1 x1 S1 d1 => no d1⟩) fun v s1 ⟨x, H1, I1, r1, z⟩ => z.elim
     | _ => cases q2
theorem comp_go {G : Gs} {F : Nat → Fn} {n : Nat} (ihE : SoundE G F n) {X : Cx} {sc : Scope} {N : List Str} (Kx : Cxt X G F sc N) {elt : Expr} {gens : List Comprehension} {sc2 : Scope} {pos : Pos} {c : CE} (h : cE G (n + 1) sc N (.ListComp elt gens sc2 pos) = some c)
  {pins : List (Addr × Obj)} {s : Shared} {σ : L2.St} {H : Hp} {Q : VK} (I : L2.Inv X pins σ H s) (hq : tE X.K (ev F c) σ H Q) {use : Option (Value → Sem Unit)} {R0 : Value → Shared → Prop}
  (hend : ∀ C dd s5 H5 m', s5.heap.Ns C m' → (∀ h', Heap.SameBut C s5.heap h' → L2.Inv X pins σ H5 { s5 with heap := h' }) → FpOk X pins H5 C → Q (.ref dd) H5 → compPost (model X.prog X.w) X.A X.xe use R0 (.ref dd) C (.ok .next) s5) :
  ∃ tg it ifs, gens = [⟨tg, it, ifs, 0⟩] ∧ ∀ pos', wpAny (model X.prog X.w) X.A (comprehension (.ListComp elt [⟨tg, it, ifs, 0⟩] sc2 pos) sc2 X.env pos' (newList []) false (eval it X.env) use) R0 X.xe s := by
 cases comp_sh h with
 | @mk tg it ifs xs fr r ci ce cc htg hsc hfr hi hce hcc =>
  obtain ⟨h1, h2, h3, h4, h5, h6⟩ := compSc_parts hsc
  obtain ⟨ad, ρ, st, d, st', E, S, e, p⟩ := hq
  obtain ⟨cl, ec, c1, c2⟩ := closure_for (env := X.env) (sc := sc2) (fun y hy hf => by
   have hm : (y.1, NameKind.free) ∈ sc2.names := by rw [← hf]; exact hy
   exact I.ok.has y.1 (Kx.cel y.1 (h6 y.1 (mem_frees.mpr hm)).1))
  refine ⟨tg, it, ifs, rfl, fun pos' => ?_⟩
  cases comp_it ihE Kx htg hi I E S e p with
  | mk B hz q3 hp pi =>
   refine wpAny_comprehension_free (use := use) rfl (folded_plain hp) ec h1 h4 (thn pi fun v s1 h1' => thn h1' fun itv s2 h2' => ?_)
   obtain ⟨ita, fp, tn, J, H2, rfl, I2, T, t2, f2, ad1, Good, gm, gw, go, stop, yl, E2, S2, g2, p2⟩ := h2'
   exact comp_core Kx ihE hsc hfr hce hcc c1 c2 Good gm gw go stop yl I2 B T t2 f2 E2 S2 g2 q3 hz p2 hend
theorem comp_ok {G : Gs} {F : Nat → Fn} : CompOk G F := by
 intro n ihE
 refine ⟨fun X sc N Kx elt gens sc2 pos c h => SE.of ?_, fun X sc N K y i p elt gens sc2 epos pos c hi h hsw => ?_⟩
 ·intro pins s σ H Q I hq
  obtain ⟨tg, it, ifs, rfl, go⟩ := comp_go ihE Kx h I hq (use := none) (R0 := EP X pins σ Q) fun C dd s5 H5 m' hn hI _ q => ⟨m', hn, fun h' sb => ⟨.ref dd, H5, hI h' sb, rfl, q⟩⟩
  rw [eval_ListComp]
  exact go _
 ·intro pins s σ H D I hq
  obtain ⟨tg, it, ifs, rfl, go⟩ := comp_go ihE K.toCxt h I hq (use := some (assign (.Name y p) X.env)) (R0 := fun _ s' => SP X pins D .next s') fun C dd s5 H5 m' hn hI fo q => by
   have I5 := hI s5.heap (Heap.SameBut.refl _ _)
   show wpAny _ X.A (assign (.Name y p) X.env (.ref dd)) _ _ s5
   refine wpAny_assign_Name (store_ok2 (v := .ref dd) I5 (by rw [K.hN]; exact K.nd) (by rw [K.hN]; exact idx_of hi) (K.loc _ (idx_mem hi)) rfl (fun s6 I6 ⟨a, sb, ha⟩ => ?_) (.inl (K.fn _)))
   have ne : C ≠ a := by
    rcases ha with z | z
    ·rw [z]; exact fo.2.1
    ·exact fun w => fo.2.2.2.2.1 _ _ z w.symm
   exact ⟨m', hn.sameBut sb ne, fun h3 sb3 => ⟨_, H5, I6.turned (t' := s6.toks) (fun b o hb e => sb3.extBut b o hb e) fo.1 fo.2.1 fo.2.2.2.1 fo.2.2.2.2.1 fo.2.2.2.2.2, q⟩⟩
  rw [exec_Assign_Name_used _ _ _ _ hsw]
  refine wpAny_bind (wpAny_standAt (wpAny_bind ?_))
  show wpAny _ X.A (do let _ ← comprehension (.ListComp elt [⟨tg, it, ifs, 0⟩] sc2 epos) sc2 X.env _ (newList []) false (eval it X.env) (some (assign (.Name y p) X.env))) _ _ s
  exact wpAny_bind (wpAny_mono (go _) (fun _ s' hq => wpAny_pure (wpAny_pure hq)) fun _ _ e => e)
end Dp


namespace Dp
open PySem

inductive P where
 | non | bl (b : Bool) | int (i : Int) | str (x : Str) | tup (xs : List P) | lst (m : Bool) (xs : List P) | dct (ks : List Str) (vs : List P) | obj (i : Nat) | kt (ks : List Str) | dic (m : Bool) (xs : List P)

mutual
noncomputable def noL : P → Bool
 | .tup xs => noLs xs
 | .lst _ _ => false
 | .dic _ _ => false
 | .dct _ vs => noLs vs
 | _ => true
noncomputable def noLs : List P → Bool
 | [] => true
 | x :: xs => noL x && noLs xs
end
mutual
noncomputable def ofD : D → Option P
 | .non => some .non
 | .bl b => some (.bl b)
 | .int i => some (.int i)
 | .str x => some (.str x)
 | .tup xs => (ofDs xs).map .tup
 | .kt ks => some (.kt ks)
 | _ => none
noncomputable def ofDs : List D → Option (List P)
 | [] => some []
 | x :: xs => match ofD x, ofDs xs with
  | some y, some ys => some (y :: ys)
  | _, _ => none
end
mutual
noncomputable def beqP : P → P → Bool
 | .non, .non => true
 | .bl a, .bl b => a == b
 | .int a, .int b => decide (a = b)
 | .str a, .str b => decide (a = b)
 | .tup a, .tup b => beqPs a b
 | _, _ => false
noncomputable def beqPs : List P → List P → Bool
 | [], [] => true
 | x :: xs, y :: ys => beqP x y && beqPs xs ys
 | _, _ => false
end
mutual
noncomputable def okP : Nat → P → Bool
 | _, .non => true
 | _, .int _ => true
 | _, .str _ => true
 | n + 1, .tup xs => okPs n xs
 | _, _ => false
noncomputable def okPs : Nat → List P → Bool
 | _, [] => true
 | n, x :: xs => okP n x && okPs n xs
end
noncomputable def pairP (_ _ : List P) : Option Bool := none
noncomputable def scP : P → Option Sc
 | .non => some .non
 | .bl b => some (.bl b)
 | .int i => some (.int i)
 | .str x => some (.str x)
 | _ => none
noncomputable def eqLP (xs ys : List P) : Option Bool := if (xs.isEmpty || ys.isEmpty) = true then some (xs.isEmpty && ys.isEmpty) else if okPs 7 xs && okPs 7 ys then some (beqPs xs ys) else none
noncomputable def eqTP (xs : List P) : P → Option Bool
 | .tup ys => if okP 8 (.tup xs) && okP 8 (.tup ys) then some (beqPs xs ys) else pairP xs ys
 | _ => none
noncomputable def eqLQ (xs : List P) : P → Option Bool
 | .lst _ ys => eqLP xs ys
 | _ => none
noncomputable def eqP (x y : P) : Option Bool := match x with
 | .tup xs => eqTP xs y
 | .lst _ xs => eqLQ xs y
 | x => (o2 eqSc (scP x) (scP y)).join
noncomputable def repTP (xs : List P) (j : Int) : Option P := match xs with
 | [x] => if j ≤ 1000 ∧ -1000 ≤ j then some (.tup (List.replicate j.toNat x)) else none
 | _ => none
noncomputable def repLP (m : Bool) (xs : List P) (j : Int) : Option P := match m, xs with
 | true, [x] => if j ≤ 1000 ∧ -1000 ≤ j then some (.lst true (List.replicate j.toNat x)) else none
 | _, _ => none
noncomputable def binP (op : Operator) (x y : P) : Option P :=
 match x, y with
 | .int i, .int j => match binI op i j with
  | some k => some (.int k)
  | none => none
 | .tup xs, .tup ys => if isAdd op = true ∧ xs.length + ys.length ≤ sizeMax then some (.tup (xs ++ ys)) else none
 | .tup xs, .int j => if isMul op = true then repTP xs j else none
 | .lst _ xs, .lst _ ys => if isAdd op = true ∧ xs.length + ys.length ≤ sizeMax then some (.lst true (xs ++ ys)) else none
 | .lst m xs, .int j => if isMul op = true then repLP m xs j else none
 | .str x, .str y => if isAdd op = true ∧ x.length + y.length ≤ sizeMax then some (.str (x ++ y)) else none
 | _, _ => none
noncomputable def inP : Int → List P → Option Bool
 | _, [] => some false
 | k, .int i :: r => (inP k r).map fun b => decide (i = k) || b
 | _, _ => none
noncomputable def inPS : Str → List P → Option Bool
 | _, [] => some false
 | k, .str i :: r => (inPS k r).map fun b => decide (i = k) || b
 | _, _ => none
noncomputable def lookP : List Str → List P → Str → Option P
 | k :: ks, v :: vs, x => if k = x then some v else lookP ks vs x
 | _, _, _ => none
noncomputable def ordP (f : Int → Int → Bool) : P → P → Option Bool
 | .int i, .int j => some (f i j)
 | _, _ => none
noncomputable def ltP (x y : P) : Option Bool := ordP (fun i j => decide (i < j)) x y
noncomputable def ltSP (x y : P) : Option Bool := ltP x y
noncomputable def inSP (x y : P) : Option Bool := match x, y with
 | .int k, .lst _ xs => inP k xs
 | .str k, .lst _ xs => inPS k xs
 | .int k, .tup xs => inP k xs
 | .str k, .tup xs => inPS k xs
 | .str k, .dct ks vs => some (lookP ks vs k).isSome
 | .str k, .str x => some (occB x k)
 | _, _ => none
noncomputable def niP (x y : P) : Option Bool := match y with
 | .dct _ _ => none
 | y => (inSP x y).map not
noncomputable def isNP : P → Option Bool
 | .non => some true
 | .int _ => some false
 | .str _ => some false
 | .bl _ => some false
 | .tup _ => some false
 | .lst _ _ => some false
 | .dct _ _ => none
 | .obj _ => none
 | .kt _ => none
 | .dic _ _ => none
noncomputable def isBP (b : Bool) : P → Option Bool
 | .bl a => some (a == b)
 | _ => none
noncomputable def isPP (x : P) : P → Option Bool
 | .non => isNP x
 | .bl b => isBP b x
 | _ => none
noncomputable def cmpP (op : CmpOp) (x y : P) : Option Bool :=
 match op with
 | .Lt => ltSP x y
 | .LtE => ordP (fun i j => decide (i ≤ j)) x y
 | .Gt => ordP (fun i j => decide (j < i)) x y
 | .GtE => ordP (fun i j => decide (j ≤ i)) x y
 | .Eq => eqP x y
 | .NotEq => (eqP x y).map not
 | .In => inSP x y
 | .NotIn => niP x y
 | .Is => isPP x y
 | .IsNot => (isPP x y).map not
noncomputable def atP (xs : List P) (i : Int) : Option P := (ixN xs.length i).bind fun j => xs[j]?
noncomputable def ixP : P → P → Option P
 | .tup xs, .int i => atP xs i
 | .lst _ xs, .int i => atP xs i
 | .dct ks vs, .str k => lookP ks vs k
 | .kt ks, .int i => atP (ks.map .str) i
 | .str x, .int i => if x.length ≤ sizeMax then atP ((chS x).map .str) i else none
 | _, _ => none
noncomputable def cutP (xs : List P) (lo hi : Option Int) : List P := (xs.drop (sIx xs.length 0 lo)).take (sIx xs.length xs.length hi - sIx xs.length 0 lo)
noncomputable def sliceP0 (x : P) (lo hi : Option Int) : Option P :=
 match x with
 | .tup xs => if sIx xs.length 0 lo = 0 ∧ sIx xs.length xs.length hi = xs.length then some (.tup xs) else some (.tup (cutP xs lo hi))
 | .lst _ xs => some (.lst true (cutP xs lo hi))
 | .str x => if x.length ≤ sizeMax then some (.str (cutS x lo hi)) else none
 | _ => none
noncomputable def sliceP : P → P → P → Option P
 | x, .non, .non => sliceP0 x none none
 | x, .int i, .non => sliceP0 x (some i) none
 | x, .non, .int j => sliceP0 x none (some j)
 | x, .int i, .int j => sliceP0 x (some i) (some j)
 | _, _, _ => none
noncomputable def lenP : P → Option P
 | .tup xs => some (.int xs.length)
 | .lst _ xs => some (.int xs.length)
 | .kt ks => some (.int ks.length)
 | .str x => if x.length ≤ sizeMax then some (.int x.length) else none
 | _ => none
noncomputable def isiQ (T : Ty) : P → Option Bool
 | .int _ => some (decide (T = .int))
 | .bl _ => some (decide (T = .int) || decide (T = .bool))
 | .str _ => some (decide (T = .str))
 | .tup _ => some (decide (T = .tuple))
 | .non => some false
 | _ => none
noncomputable def isiP (T : Ty) (p : P) : Option P := (isiQ T p).map .bl
noncomputable def negP : P → Option P
 | .int i => some (.int (-i))
 | _ => none
noncomputable def notP : P → Option P
 | .bl k => some (.bl (!k))
 | _ => none
noncomputable def cmpPR (op : CmpOp) (x y : P) : Option P := (cmpP op x y).map .bl
noncomputable def lstP : P → Option P
 | .tup xs => some (.lst true xs)
 | _ => none
noncomputable def consP : P → P → Option P
 | x, .tup xs => if xs.length < 1000 then some (.tup (x :: xs)) else none
 | _, _ => none
noncomputable def partP : P → Option P
 | .int i => some (.int i)
 | _ => none
noncomputable def callP (g : List P → Option P) (ds : List D) : P → Option P
 | .tup xs => match ofDs ds with
  | some es => g (xs ++ es)
  | none => none
 | _ => none
noncomputable def tupleP : P → Option P
 | .tup xs => some (.tup xs)
 | .lst _ xs => some (.tup xs)
 | _ => none
noncomputable def listP : P → Option P
 | .tup xs => some (.lst true xs)
 | .lst _ xs => some (.lst true xs)
 | _ => none
noncomputable def intP : P → Option P
 | .int i => some (.int i)
 | .bl true => some (.int 1)
 | .bl false => some (.int 0)
 | .str x => (match intS x with
  | some i => some (.int i)
  | none => none)
 | _ => none
noncomputable def strOP : P → Option P
 | .int i => if lim64 i = true then some (.str (Str.ofString (toString i))) else none
 | _ => none
noncomputable def strsP : List P → Option (List Str)
 | [] => some []
 | .str x :: r => (strsP r).map (x :: ·)
 | _ => none
noncomputable def joinLP (ps : List P) : Option P := match strsP ps with
 | some xs => if (catS xs).length ≤ sizeMax then some (.str ⟨(catS xs).toArray⟩) else none
 | none => none
noncomputable def joinGP (s : Str) (ps : List P) : Option P := match strsP ps with
 | some xs => if (gluR s xs).length ≤ sizeMax then some (.str ⟨(gluL s xs).toArray⟩) else none
 | none => none
noncomputable def joinP : P → P → Option P
 | .str s, .lst _ ps => if s.length = 0 then joinLP ps else joinGP s ps
 | _, _ => none
noncomputable def rng2P : P → P → Option P
 | .int a, .int b => if rangeOk a b 1 = true then some (.dct [] [.int a, .int b]) else none
 | _, _ => none
noncomputable def startsP : P → P → Option P
 | .str x, .tup [.str y] => some (.bl (stW x y))
 | _, _ => none
noncomputable def minP : P → P → Option P
 | .int i, .int j => some (.int (if j < i then j else i))
 | _, _ => none
noncomputable def maxP : P → P → Option P
 | .int i, .int j => some (.int (if j > i then j else i))
 | _, _ => none
noncomputable def inRP (ng : Bool) : P → P → Option P
 | .int x, .int n => if -(2 ^ 62) ≤ n ∧ n < 2 ^ 62 then some (.bl (ng != decide (0 ≤ x ∧ x < n))) else none
 | _, _ => none
noncomputable def rangeP (n : Int) : List P := (List.range n.toNat).map fun (k : Nat) => P.int (k : Int)
noncomputable def itemsP (rng : Bool) (x : P) : Option (List P) :=
 match rng, x with
 | true, .int n => if n < 2 ^ 62 ∧ -(2 ^ 62) ≤ n then some (rangeP n) else none
 | false, .tup xs => some xs
 | _, _ => none
noncomputable def compP (f c : P → Option P) : List P → Option (List P)
 | [] => some []
 | x :: xs => match c x with
  | some (.bl true) => match f x with
   | some y => match compP f c xs with
    | some ys => some (y :: ys)
    | none => none
   | none => none
  | some (.bl false) => compP f c xs
  | _ => none
noncomputable def walkP (rng : Bool) (x : P) : Option (List P) := match itemsP rng x with
 | some xs => some xs
 | none => match rng, x with
  | false, .lst _ xs => some xs
  | false, .str x => if x.cps.all (fun c => decide (c < 128)) = true then some ((chS x).map .str) else none
  | false, .dct [] [.int a, .int b] => some ((rangeL a b 1).map .int)
  | _, _ => none
noncomputable abbrev PEnv := List (Option P)
noncomputable abbrev PEv := PEnv → Option P
noncomputable def pq1 (fa : PEv) (g : P → Option P) : PEv := fun π => match fa π with
 | some x => g x
 | none => none
noncomputable def pq2 (fa fb : PEv) (g : P → P → Option P) : PEv := fun π => match fa π with
 | some x => match fb π with
  | some y => g x y
  | none => none
 | none => none
noncomputable def pq3 (fa fb fc : PEv) (g : P → P → P → Option P) : PEv := fun π => match fa π with
 | some x => match fb π with
  | some y => match fc π with
   | some z => g x y z
   | none => none
  | none => none
 | none => none
noncomputable def pcond (fc ft ff : PEv) : PEv := fun π => match fc π with
 | some (.bl true) => ft π
 | some (.bl false) => ff π
 | _ => none
noncomputable def pvar (i : Nat) : PEv := fun π => match π[i]? with
 | some (some p) => some p
 | _ => none
noncomputable def penvC (π : PEnv) (fr : List Nat) (p : P) : PEnv := some p :: fr.map fun i => (π[i]?).join
noncomputable def pone (p : P) : List (Option P) := [some p]
noncomputable def penvG (b : P → List (Option P)) (π : PEnv) (fr : List Nat) (p : P) : PEnv := b p ++ fr.map fun i => (π[i]?).join
noncomputable def pcompR (b : P → List (Option P)) (w : P → Option (List P)) (fr : List Nat) (fi fe fc : PEv) : PEv := fun π => match fi π with
 | some x => match w x with
  | some xs => if xs.length ≤ 1000 then
    match compP (fun p => fe (penvG b π fr p)) (fun p => fc (penvG b π fr p)) xs with
    | some ys => some (.lst true ys)
    | none => none
   else none
  | none => none
 | none => none
noncomputable def pe (F : Nat → List P → Option P) : CE → PEv
 | .var i => pvar i
 | .cst d => fun _ => ofD d
 | .bin op a b => pq2 (pe F a) (pe F b) (binP op)
 | .neg a => pq1 (pe F a) negP
 | .cmp op a b => pq2 (pe F a) (pe F b) (cmpPR op)
 | .not a => pq1 (pe F a) notP
 | .and a b => pcond (pe F a) (pe F b) (fun _ => some (.bl false))
 | .or a b => pcond (pe F a) (fun _ => some (.bl true)) (pe F b)
 | .ife c a b => pcond (pe F c) (pe F a) (pe F b)
 | .tupE a => pe F a
 | .lstE a => pq1 (pe F a) lstP
 | .anil => fun _ => some (.tup [])
 | .acons a r => pq2 (pe F a) (pe F r) consP
 | .ix a b => pq2 (pe F a) (pe F b) ixP
 | .slice a lo hi => pq3 (pe F a) (pe F lo) (pe F hi) sliceP
 | .nop => fun _ => some .non
 | .part a => pq1 (pe F a) partP
 | .call f a ds => pq1 (pe F a) (callP (F f) ds)
 | .len a => pq1 (pe F a) lenP
 | .tupleOf a => pq1 (pe F a) tupleP
 | .listOf a => pq1 (pe F a) listP
 | .intOf _ => fun _ => none
 | .min a b => pq2 (pe F a) (pe F b) minP
 | .max a b => pq2 (pe F a) (pe F b) maxP
 | .isi T a => pq1 (pe F a) (isiP T)
 | .rs _ _ => fun _ => none
 | .inv _ => fun _ => none
 | .tupR _ => fun _ => none
 | .look _ _ _ => fun _ => none
 | .dget _ _ _ => fun _ => none
 | .inR ng a b => pq2 (pe F a) (pe F b) (inRP ng)
 | .all _ => fun _ => none
 | .any _ => fun _ => none
 | .comp rng fr it elt cnd => pcompR pone (walkP rng) fr (pe F it) (pe F elt) (pe F cnd)
 | .comp2 _ _ _ _ => fun _ => none
 | .compT _ _ _ _ => fun _ => none
 | .lstR _ _ => fun _ => none
 | .new _ => fun _ => none
 | .meth _ _ _ => fun _ => none
 | .isc _ _ => fun _ => none
 | .tix _ _ => fun _ => none
 | .dict _ _ => fun _ => none
 | .dnew => fun _ => none
 | .strOf a => pq1 (pe F a) strOP
 | .joinE a b => pq2 (pe F a) (pe F b) joinP
 | .starts a b => pq2 (pe F a) (pe F b) startsP
 | .rng2 a b => pq2 (pe F a) (pe F b) rng2P

noncomputable def noM (M : List Nat) : CE → Bool
 | .var i => !M.contains i
 | .cst _ => true
 | .bin _ a b => noM M a && noM M b
 | .neg a => noM M a
 | .cmp _ a b => noM M a && noM M b
 | .not a => noM M a
 | .and a b => noM M a && noM M b
 | .or a b => noM M a && noM M b
 | .ife c a b => noM M c && (noM M a && noM M b)
 | .tupE a => noM M a
 | .lstE a => noM M a
 | .anil => true
 | .acons a r => noM M a && noM M r
 | .ix a b => noM M a && noM M b
 | .slice a lo hi => noM M a && (noM M lo && noM M hi)
 | .nop => true
 | .part a => noM M a
 | .call _ a _ => noM M a
 | .len a => noM M a
 | .tupleOf a => noM M a
 | .listOf a => noM M a
 | .intOf a => noM M a
 | .min a b => noM M a && noM M b
 | .max a b => noM M a && noM M b
 | .isi _ a => noM M a
 | .rs _ a => noM M a
 | .inv a => noM M a
 | .tupR a => noM M a
 | .look _ _ a => noM M a
 | .dget a k d => noM M a && (noM M k && noM M d)
 | .inR _ a b => noM M a && noM M b
 | .all a => noM M a
 | .any a => noM M a
 | .comp _ fr it _ _ => noM M it && fr.all fun i => !M.contains i
 | .comp2 fr it _ _ => noM M it && fr.all fun i => !M.contains i
 | .compT fr it _ _ => noM M it && fr.all fun i => !M.contains i
 | .lstR a b => noM M a && noM M b
 | .new _ => true
 | .meth _ o a => noM M o && noM M a
 | .isc _ a => noM M a
 | .tix o a => noM M o && noM M a
 | .dict _ a => noM M a
 | .dnew => true
 | .strOf a => noM M a
 | .joinE a b => noM M a && noM M b
 | .starts a b => noM M a && noM M b
 | .rng2 a b => noM M a && noM M b
noncomputable def isNew (_ : Nat) : Bool := false
noncomputable def isFresh : CE → Bool
 | .call f _ _ => isNew f
 | .bin _ _ _ => true
 | .lstE _ => true
 | .slice _ _ _ => true
 | .listOf _ => true
 | .comp .. => true
 | _ => false
noncomputable def muts : CS → List Nat
 | .seq a b => muts a ++ muts b
 | .app i _ => [i]
 | .ext i _ => [i]
 | .put i _ _ => [i]
 | .dput i _ _ _ => [i]
 | .ite _ a b => muts a ++ muts b
 | .for1 _ _ _ b => muts b
 | .for3 _ _ b => muts b
 | .forP _ _ _ b => muts b
 | .forE _ _ _ b => muts b
 | .for4 _ _ _ _ b => muts b
 | .for2 _ _ _ b => muts b
 | .whl _ b => muts b
 | _ => []
noncomputable def mvT : CE → List Nat
 | .var j => [j]
 | _ => []
noncomputable def touched : CS → List Nat
 | .seq a b => touched a ++ touched b
 | .app i _ => [i]
 | .ext i _ => [i]
 | .put i _ _ => [i]
 | .dput i _ _ _ => [i]
 | .set i e => i :: mvT e
 | .set2 i j _ => [i, j]
 | .set3 i j l _ => [i, j, l]
 | .ite _ a b => touched a ++ touched b
 | .for1 i _ _ b => i :: touched b
 | .for3 i _ b => i :: touched b
 | .forP i j _ b => i :: j :: touched b
 | .forE i j _ b => i :: j :: touched b
 | .for4 i j l _ b => i :: j :: l :: touched b
 | .for2 i j _ b => i :: j :: touched b
 | .whl _ b => touched b
 | _ => []
inductive PFl where
 | nx (π : PEnv) | rt (p : P) | bk (π : PEnv) | ct (π : PEnv)
noncomputable abbrev PEx := PEnv → Option PFl
noncomputable def setP (π : PEnv) (i : Nat) (p : P) : PEnv := π.set i (some p)
noncomputable def loopP (body : P → PEnv → Option PFl) : List P → PEnv → Option PFl
 | [], π => some (.nx π)
 | d :: ds, π => match body d π with
  | some (.nx π') => loopP body ds π'
  | some (.ct π') => loopP body ds π'
  | some (.bk π') => some (.nx π')
  | some (.rt v) => some (.rt v)
  | none => none
noncomputable def pseq (f g : PEx) : PEx := fun π => match f π with
 | some (.nx π') => g π'
 | r => r
noncomputable def pret (f : PEv) : PEx := fun π => match f π with
 | some d => some (.rt d)
 | none => none
noncomputable def keepOk (M : List Nat) (e : CE) (p : P) : Bool := noM M e || noL p
noncomputable def freshOk (M : List Nat) (e : CE) (p : P) : Bool := match p with
 | .lst true xs => isFresh e && (noM M e || noLs xs)
 | _ => false
noncomputable def mvP (M : List Nat) (i : Nat) (e : CE) (p : P) (π : PEnv) : Option PFl := match e with
 | .var j => if M.contains j && !M.contains i then some (.nx (setP (π.set j none) i p)) else none
 | _ => none
noncomputable def pset (M : List Nat) (i : Nat) (e : CE) (f : PEv) : PEx := fun π => match f π with
 | some p => if (if M.contains i then freshOk M e p else keepOk M e p || freshOk M e p) then some (.nx (setP π i p)) else mvP M i e p π
 | none => none
noncomputable def pset2 (M : List Nat) (i j : Nat) (e : CE) (f : PEv) : PEx := fun π => match f π with
 | some (.tup [x, y]) => if !M.contains i && !M.contains j && keepOk M e (.tup [x, y]) then some (.nx (setP (setP π i x) j y)) else none
 | _ => none
noncomputable def pset3 (M : List Nat) (i j l : Nat) (e : CE) (f : PEv) : PEx := fun π => match f π with
 | some (.tup [x, y, z]) => if !M.contains i && !M.contains j && !M.contains l && keepOk M e (.tup [x, y, z]) then some (.nx (setP (setP (setP π i x) j y) l z)) else none
 | _ => none
noncomputable def pact (M : List Nat) (e : CE) (f : PEv) : PEx := fun π => match f π with
 | some p => if keepOk M e p then some (.nx π) else none
 | none => none
noncomputable def papp (M : List Nat) (i : Nat) (e : CE) (f : PEv) : PEx := fun π => match π[i]? with
 | some (some (.lst true xs)) => match f π with
  | some p => if M.contains i && keepOk M e p && decide (xs.length < sizeMax) then some (.nx (setP π i (.lst true (xs ++ [p])))) else none
  | none => none
 | _ => none
noncomputable def pext (M : List Nat) (i : Nat) (e : CE) (f : PEv) : PEx := fun π => match π[i]? with
 | some (some (.lst true xs)) => match f π with
  | some (.lst true ys) => if M.contains i && noM M e && decide (xs.length + ys.length ≤ sizeMax) then some (.nx (setP π i (.lst true (xs ++ ys)))) else none
  | _ => none
 | _ => none
noncomputable def pput (M : List Nat) (i : Nat) (e : CE) (k f : PEv) : PEx := fun π => match f π with
 | some p => match π[i]? with
  | some (some (.lst true xs)) => match k π with
   | some (.int j) => match ixN xs.length j with
    | some q => if M.contains i && keepOk M e p then some (.nx (setP π i (.lst true (xs.set q p)))) else none
    | none => none
   | _ => none
  | _ => none
 | none => none
noncomputable def pite (c : PEv) (f g : PEx) : PEx := fun π => match c π with
 | some (.bl true) => f π
 | some (.bl false) => g π
 | _ => none
noncomputable def walkOk (M T : List Nat) (e : CE) (xs : List P) : Bool := noM M e || (isFresh e && noLs xs) || (match e with
 | .var j => !T.contains j
 | _ => false)
noncomputable def pfor (M T : List Nat) (i : Nat) (rng : Bool) (e : CE) (it : PEv) (b : PEx) : PEx := fun π => match it π with
 | some x => match itemsP rng x with
  | some xs => if !M.contains i && (rng || keepOk M e x) then loopP (fun d π => b (setP π i d)) xs π else none
  | none => match rng, x with
   | false, .lst _ xs => if !M.contains i && walkOk M T e xs then loopP (fun d π => b (setP π i d)) xs π else none
   | _, _ => none
 | none => none
noncomputable def px (F : Nat → List P → Option P) (M : List Nat) : CS → PEx
 | .skip => fun π => some (.nx π)
 | .seq a b => pseq (px F M a) (px F M b)
 | .ret e => pret (pe F e)
 | .set i e => pset M i e (pe F e)
 | .set2 i j e => pset2 M i j e (pe F e)
 | .app i e => papp M i e (pe F e)
 | .ext i e => pext M i e (pe F e)
 | .put i k e => pput M i e (pe F k) (pe F e)
 | .ite c a b => pite (pe F c) (px F M a) (px F M b)
 | .for1 i rng it b => pfor M (touched b) i rng it (pe F it) (px F M b)
 | .forP _ _ _ _ => fun _ => none
 | .forE _ _ _ _ => fun _ => none
 | .for3 _ _ _ => fun _ => none
 | .for4 _ _ _ _ _ => fun _ => none
 | .for2 _ _ _ _ => fun _ => none
 | .whl _ _ => fun _ => none
 | .brk => fun π => some (.bk π)
 | .cont => fun π => some (.ct π)
 | .stop => fun _ => none
 | .app2 _ _ => fun _ => none
 | .set3 i j l e => pset3 M i j l e (pe F e)
 | .act e => pact M e (pe F e)
 | .dput _ _ _ _ => fun _ => none
noncomputable def fnP (F : Nat → List P → Option P) (f : FD) : List P → Option P := fun ds =>
 if ds.length = f.ps ∧ (muts f.body).all (fun i => decide (f.ps ≤ i)) = true then
  match px F (muts f.body) f.body (ds.map some ++ List.replicate (f.ns - ds.length) none) with
  | some (.rt d) => some d
  | some (.nx _) => some .non
  | _ => none
 else none
noncomputable def noRet : CS → Bool
 | .seq a b => noRet a && noRet b
 | .ret _ => false
 | .ite _ a b => noRet a && noRet b
 | .for1 _ _ _ b => noRet b
 | .for3 _ _ b => noRet b
 | .forP _ _ _ b => noRet b
 | .forE _ _ _ b => noRet b
 | .for4 _ _ _ _ b => noRet b
 | .for2 _ _ _ b => noRet b
 | .whl _ b => noRet b
 | _ => true
noncomputable def tailRet (M : List Nat) : CS → Bool
 | .seq (.ret (.var j)) .skip => M.contains j
 | .seq a b => noRet a && tailRet M b
 | _ => false
noncomputable def newRet (f : FD) : Bool := tailRet (muts f.body) f.body
noncomputable def prun (T : Nat → Option FD) : Nat → Nat → List P → Option P
 | 0, _ => fun _ => none
 | n + 1, i => match T i with
  | some f => if (isNew i && !newRet f) = true then fun _ => none else fnP (prun T n) f
  | none => fun _ => none
end Dp


namespace Dp
open PySem
abbrev Fz := Nat → Prop
mutual
inductive Rel (fz : Fz) (st : Store) : P → D → Prop where
 | non : Rel fz st .non .non
 | bl (b : Bool) : Rel fz st (.bl b) (.bl b)
 | int (i : Int) : Rel fz st (.int i) (.int i)
 | str (x : Str) : Rel fz st (.str x) (.str x)
 | tup {ps : List P} {ds : List D} (r : Rels fz st ps ds) : Rel fz st (.tup ps) (.tup ds)
 | lst {j : Nat} {m : Bool} {ps : List P} {ds : List D} (hz : fz j) (h : st[j]? = some (m, ds)) (r : Rels fz st ps ds) : Rel fz st (.lst m ps) (.lst j)
 | dct {ks : List Str} {ps : List P} {ds : List D} (r : Rels fz st ps ds) : Rel fz st (.dct ks ps) (.dct ks ds)
 | obj (i : Nat) : Rel fz st (.obj i) (.obj i)
 | kt (ks : List Str) : Rel fz st (.kt ks) (.kt ks)
 | dic {j : Nat} {m : Bool} {ps : List P} {ds : List D} (hz : fz j) (h : st[j]? = some (m, ds)) (r : Rels fz st ps ds) : Rel fz st (.dic m ps) (.dic j)
inductive Rels (fz : Fz) (st : Store) : List P → List D → Prop where
 | nil : Rels fz st [] []
 | cons {p : P} {d : D} {ps : List P} {ds : List D} (h : Rel fz st p d) (r : Rels fz st ps ds) : Rels fz st (p :: ps) (d :: ds)
end
section
variable {fz fz' : Fz} {st st' : Store}
theorem Rel.mono (h1 : ∀ i, fz i → fz' i) (h2 : ∀ i, fz i → st'[i]? = st[i]?) {p : P} {d : D} (h : Rel fz st p d) : Rel fz' st' p d :=
 Rel.rec (motive_1 := fun p d _ => Rel fz' st' p d) (motive_2 := fun ps ds _ => Rels fz' st' ps ds) .non .bl .int .str (fun _ r => .tup r) (fun hz h _ r => .lst (h1 _ hz) (by rw [h2 _ hz]; exact h) r) (fun _ r => .dct r) .obj .kt (fun hz h _ r => .dic (h1 _ hz) (by rw [h2 _ hz]; exact h) r) .nil (fun _ _ a b => .cons a b) h
theorem Rels.mono (h1 : ∀ i, fz i → fz' i) (h2 : ∀ i, fz i → st'[i]? = st[i]?) {ps : List P} {ds : List D} (h : Rels fz st ps ds) : Rels fz' st' ps ds :=
 Rels.rec (motive_1 := fun _ _ _ => True) (motive_2 := fun ps ds _ => Rels fz' st' ps ds) trivial (fun _ => trivial) (fun _ => trivial) (fun _ => trivial) (fun _ _ => trivial) (fun _ _ _ _ => trivial) (fun _ _ => trivial) (fun _ => trivial) (fun _ => trivial) (fun _ _ _ _ => trivial) .nil (fun a _ _ b => .cons (a.mono h1 h2) b) h
theorem Rel.ofNoL {p : P} {d : D} (hn : noL p = true) (h : Rel fz st p d) : Rel fz' st' p d :=
 Rel.rec (motive_1 := fun p d _ => noL p = true → Rel fz' st' p d) (motive_2 := fun ps ds _ => noLs ps = true → Rels fz' st' ps ds) (fun _ => .non) (fun _ _ => .bl _) (fun _ _ => .int _) (fun _ _ => .str _) (fun _ r h => .tup (r h)) (fun _ _ _ _ h => by cases h) (fun _ r h => .dct (r h)) (fun _ _ => .obj _) (fun _ _ => .kt _) (fun _ _ _ _ h => by cases h) (fun _ => .nil) (fun _ _ a b h => .cons (a (Bool.and_eq_true_iff.mp h).1) (b (Bool.and_eq_true_iff.mp h).2)) h hn
theorem Rels.ofNoL {ps : List P} {ds : List D} (hn : noLs ps = true) (h : Rels fz st ps ds) : Rels fz' st' ps ds := by
 induction ps generalizing ds with
 | nil => cases h; exact .nil
 | cons p ps ih => cases h with
  | cons a r => exact .cons (a.ofNoL (Bool.and_eq_true_iff.mp hn).1) (ih (Bool.and_eq_true_iff.mp hn).2 r)
theorem Rels.length : ∀ {ps : List P} {ds : List D}, Rels fz st ps ds → ps.length = ds.length
 | _, _, .nil => rfl
 | _, _, .cons _ r => congrArg (· + 1) (Rels.length r)
theorem Rels.get : ∀ {ps : List P} {ds : List D} {i : Nat} {p : P}, Rels fz st ps ds → ps[i]? = some p → ∃ d, ds[i]? = some d ∧ Rel fz st p d
 | _, _, _, _, .nil, e => by simp at e
 | _, _, 0, _, .cons h _, e => by simp at e; subst e; exact ⟨_, rfl, h⟩
 | _, _, i + 1, p, .cons _ r, e => by
  obtain ⟨v, h1, h2⟩ := Rels.get (i := i) (p := p) r (by simpa using e)
  exact ⟨v, by simpa using h1, h2⟩
theorem Rels.append : ∀ {ps qs : List P} {ds es : List D}, Rels fz st ps ds → Rels fz st qs es → Rels fz st (ps ++ qs) (ds ++ es)
 | _, _, _, _, .nil, s => s
 | _, _, _, _, .cons h r, s => .cons h (Rels.append r s)
theorem Rels.take : ∀ {ps : List P} {ds : List D} (n : Nat), Rels fz st ps ds → Rels fz st (ps.take n) (ds.take n)
 | _, _, 0, _ => .nil
 | _, _, _ + 1, .nil => .nil
 | _, _, n + 1, .cons h r => .cons h (Rels.take n r)
theorem Rels.drop : ∀ {ps : List P} {ds : List D} (n : Nat), Rels fz st ps ds → Rels fz st (ps.drop n) (ds.drop n)
 | _, _, 0, r => r
 | _, _, _ + 1, .nil => .nil
 | _, _, n + 1, .cons _ r => Rels.drop n r
theorem Rels.set {p : P} {d : D} (h : Rel fz st p d) : ∀ {ps : List P} {ds : List D} (n : Nat), Rels fz st ps ds → Rels fz st (ps.set n p) (ds.set n d)
 | _, _, _, .nil => .nil
 | _, _, 0, .cons _ r => .cons h r
 | _, _, n + 1, .cons q r => .cons q (Rels.set h n r)
theorem Rels.rep {p : P} {d : D} (h : Rel fz st p d) : ∀ n : Nat, Rels fz st (List.replicate n p) (List.replicate n d)
 | 0 => .nil
 | n + 1 => .cons h (Rels.rep h n)
mutual
theorem Rel.ofConst : ∀ {d : D} {p : P}, ofD d = some p → Rel fz st p d
 | .non, p, h => by cases h; exact .non
 | .bl b, p, h => by cases h; exact .bl b
 | .int i, p, h => by cases h; exact .int i
 | .str x, p, h => by cases h; exact .str x
 | .tup xs, p, h => by
  have h : (ofDs xs).map P.tup = some p := h
  cases q : ofDs xs with
  | none => rw [q] at h; cases h
  | some ys => rw [q] at h; cases h; exact .tup (Rels.ofConst q)
 | .lst _, p, h => by cases h
 | .dct _ _, p, h => by cases h
 | .obj _, p, h => by cases h
 | .kt ks, p, h => by cases h; exact .kt ks
theorem Rels.ofConst : ∀ {ds : List D} {ps : List P}, ofDs ds = some ps → Rels fz st ps ds
 | [], ps, h => by cases h; exact .nil
 | d :: ds, ps, h => by
  have h : (match ofD d, ofDs ds with
   | some y, some ys => some (y :: ys)
   | _, _ => none) = some ps := h
  split at h
  ·rename_i y ys h1 h2
   cases h
   exact .cons (Rel.ofConst h1) (Rels.ofConst h2)
  ·cases h
end
end
def Bd (fz : Fz) (st : Store) : Prop := ∀ i, fz i → i < st.length
structure Next (fz : Fz) (st : Store) (fz' : Fz) (st' : Store) : Prop where
 old : ∀ i, i < st.length → st'[i]? = st[i]?
 len : st.length ≤ st'.length
 sub : ∀ i, fz i → fz' i
 new : ∀ i, fz' i → fz i ∨ st.length ≤ i
 bd : Bd fz' st'
section
variable {fz fz' fz1 fz2 : Fz} {st st' st1 st2 : Store}
theorem Next.refl (b : Bd fz st) : Next fz st fz st := ⟨fun _ _ => rfl, Nat.le_refl _, fun _ h => h, fun _ h => .inl h, b⟩
theorem Next.trans (x : Next fz st fz1 st1) (y : Next fz1 st1 fz2 st2) : Next fz st fz2 st2 :=
 ⟨fun i h => (y.old i (Nat.lt_of_lt_of_le h x.len)).trans (x.old i h), Nat.le_trans x.len y.len, fun i h => y.sub i (x.sub i h), fun i h => (y.new i h).elim (x.new i) fun z => .inr (Nat.le_trans x.len z), y.bd⟩
theorem Next.small (b : Bd fz st) (x : Next fz1 st fz' st') : Next fz st fz st' := ⟨x.old, x.len, fun _ h => h, fun _ h => .inl h, fun i h => Nat.lt_of_lt_of_le (b i h) x.len⟩
theorem Rel.next {p : P} {d : D} (b : Bd fz st) (x : Next fz st fz' st') (r : Rel fz st p d) : Rel fz' st' p d := r.mono x.sub fun i h => x.old i (b i h)
theorem Rels.next {p : List P} {d : List D} (b : Bd fz st) (x : Next fz st fz' st') (r : Rels fz st p d) : Rels fz' st' p d := r.mono x.sub fun i h => x.old i (b i h)
theorem snocP {α : Type} {l : List α} {x : α} : (l ++ [x])[l.length]? = some x := by simp
theorem push_f {m : Bool} {ds : List D} (b : Bd fz st) : Next fz st fz (st ++ [(m, ds)]) :=
 ⟨fun i h => by rw [List.getElem?_append_left h], by simp, fun _ h => h, fun _ h => .inl h, fun i h => by have := b i h; simp; omega⟩
theorem push_z {m : Bool} {ds : List D} (b : Bd fz st) : Next fz st (fun i => fz i ∨ i = st.length) (st ++ [(m, ds)]) :=
 ⟨fun i h => by rw [List.getElem?_append_left h], by simp, fun _ h => .inl h, fun i h => h.elim .inl fun z => .inr (by omega), fun i h => by
  rcases h with h | h
  ·have := b i h; simp; omega
  ·simp; omega⟩
theorem push_rel {m : Bool} {ps : List P} {ds : List D} (b : Bd fz st) (r : Rels fz st ps ds) : Rel (fun i => fz i ∨ i = st.length) (st ++ [(m, ds)]) (.lst m ps) (.lst st.length) :=
 .lst (.inr rfl) snocP (r.next b (push_z b))
end
abbrev Gives (fz : Fz) (st : Store) (r : Res) (p : P) : Prop := ∃ d st' fz', r = some (d, st') ∧ Next fz st fz' st' ∧ Rel fz' st' p d
def Op1 (o : D → Store → Res) (O : P → Option P) : Prop := ∀ fz st x dx p, Bd fz st → Rel fz st x dx → O x = some p → Gives fz st (o dx st) p
def Op2 (o : D → D → Store → Res) (O : P → P → Option P) : Prop := ∀ fz st x y dx dy p, Bd fz st → Rel fz st x dx → Rel fz st y dy → O x y = some p → Gives fz st (o dx dy st) p
def Op3 (o : D → D → D → Store → Res) (O : P → P → P → Option P) : Prop := ∀ fz st x y z dx dy dz p, Bd fz st → Rel fz st x dx → Rel fz st y dy → Rel fz st z dz → O x y z = some p → Gives fz st (o dx dy dz st) p
abbrev Makes (fz : Fz) (st : Store) (r : Res) (m : Bool) (ps : List P) : Prop := ∃ ds, r = some (.lst st.length, st ++ [(m, ds)]) ∧ Rels fz st ps ds
def Op1F (o : D → Store → Res) (O : P → Option P) : Prop := ∀ fz st x dx m ps, Bd fz st → Rel fz st x dx → O x = some (.lst m ps) → Makes fz st (o dx st) m ps
def Op2F (o : D → D → Store → Res) (O : P → P → Option P) : Prop := ∀ fz st x y dx dy m ps, Bd fz st → Rel fz st x dx → Rel fz st y dy → O x y = some (.lst m ps) → Makes fz st (o dx dy st) m ps
def Op3F (o : D → D → D → Store → Res) (O : P → P → P → Option P) : Prop := ∀ fz st x y z dx dy dz m ps, Bd fz st → Rel fz st x dx → Rel fz st y dy → Rel fz st z dz → O x y z = some (.lst m ps) → Makes fz st (o dx dy dz st) m ps
theorem Gives.same {fz : Fz} {st : Store} {p : P} {d : D} (b : Bd fz st) (r : Rel fz st p d) : Gives fz st (some (d, st)) p := ⟨d, st, fz, rfl, Next.refl b, r⟩
theorem Makes.gives {fz : Fz} {st : Store} {r : Res} {m : Bool} {ps : List P} (b : Bd fz st) (h : Makes fz st r m ps) : Gives fz st r (.lst m ps) := by
 obtain ⟨ds, e, rr⟩ := h
 exact ⟨_, _, _, e, push_z b, push_rel b rr⟩
section
mutual
theorem ok_rel {fz : Fz} {st : Store} : ∀ {n : Nat} {p : P} {d : D}, Rel fz st p d → okP n p = okD n d
 | n, _, _, .non => by cases n <;> rfl
 | n, _, _, .bl b => by cases n <;> rfl
 | n, _, _, .int i => by cases n <;> rfl
 | n, _, _, .str x => by cases n <;> rfl
 | 0, _, _, .tup r => rfl
 | n + 1, _, _, .tup r => oks_rel r
 | n, _, _, .lst _ _ _ => by cases n <;> rfl
 | n, _, _, .dct _ => by cases n <;> rfl
 | n, _, _, .obj _ => by cases n <;> rfl
 | n, _, _, .kt _ => by cases n <;> rfl
 | n, _, _, .dic _ _ _ => by cases n <;> rfl
theorem oks_rel {fz : Fz} {st : Store} : ∀ {n : Nat} {p : List P} {d : List D}, Rels fz st p d → okPs n p = okDs n d
 | _, _, _, .nil => rfl
 | n, p :: ps, d :: ds, .cons h r => by
  show (okP n p && okPs n ps) = (okD n d && okDs n ds)
  rw [ok_rel h, oks_rel r]
end
mutual
theorem beq_rel {fz : Fz} {st : Store} : ∀ {p q : P} {d e : D}, Rel fz st p d → Rel fz st q e → beqP p q = beqD d e
 | _, _, _, _, .non, h => by cases h <;> rfl
 | _, _, _, _, .bl b, h => by cases h <;> rfl
 | _, _, _, _, .int i, h => by cases h <;> rfl
 | _, _, _, _, .str x, h => by cases h <;> rfl
 | _, _, _, _, .tup r, h => by
  cases h with
  | tup r' => exact beqs_rel r r'
  | _ => rfl
 | _, _, _, _, .lst _ _ _, h => by cases h <;> rfl
 | _, _, _, _, .dct _, h => by cases h <;> rfl
 | _, _, _, _, .obj _, h => by cases h <;> rfl
 | _, _, _, _, .kt _, h => by cases h <;> rfl
 | _, _, _, _, .dic _ _ _, h => by cases h <;> rfl
theorem beqs_rel {fz : Fz} {st : Store} : ∀ {p q : List P} {d e : List D}, Rels fz st p d → Rels fz st q e → beqPs p q = beqDs d e
 | _, _, _, _, .nil, h => by cases h <;> rfl
 | p :: ps, _, d :: ds, _, .cons a r, h => by
  cases h with
  | nil => rfl
  | @cons q e qs es a' r' =>
   show (beqP p q && beqPs ps qs) = (beqD d e && beqDs ds es)
   rw [beq_rel a a', beqs_rel r r']
end
theorem nil_rel {fz : Fz} {st : Store} {ps : List P} {ds : List D} (r : Rels fz st ps ds) : ps.isEmpty = ds.isEmpty := by cases r <;> rfl
theorem pair_rel {fz : Fz} {st : Store} {ps qs : List P} {ds es : List D} {k : Bool} (r : Rels fz st ps ds) (s : Rels fz st qs es) (h : pairP ps qs = some k) : pairS st ds es = some k := by cases h
theorem sc_rel {fz : Fz} {st : Store} {p : P} {d : D} (r : Rel fz st p d) : scP p = scD d := by cases r <;> rfl
theorem eqL_rel {fz : Fz} {st : Store} {ps qs : List P} {ds es : List D} (r : Rels fz st ps ds) (s : Rels fz st qs es) : eqLP ps qs = eqLD ds es := by
 unfold eqLP eqLD
 rw [nil_rel r, nil_rel s, oks_rel r, oks_rel s, beqs_rel r s]
theorem eq_rel {fz : Fz} {st : Store} {p q : P} {d e : D} {k : Bool} (r : Rel fz st p d) (s : Rel fz st q e) (h : eqP p q = some k) : eqS st d e = some k := by
 have tail : (o2 eqSc (scP p) (scP q)).join = some k → (o2 eqSc (scD d) (scD e)).join = some k := by
  rw [sc_rel r, sc_rel s]; exact id
 cases r with
 | @tup ps ds r =>
  cases s with
  | @tup qs es r' =>
   have h : (if okP 8 (.tup ps) && okP 8 (.tup qs) then some (beqPs ps qs) else pairP ps qs) = some k := h
   show (match (if okD 8 (.tup ds) && okD 8 (.tup es) then some (beqDs ds es) else none) with
    | some k => some k
    | none => pairS st ds es) = some k
   rw [ok_rel (.tup r), ok_rel (.tup r'), beqs_rel r r'] at h
   by_cases c : (okD 8 (.tup ds) && okD 8 (.tup es)) = true
   ·rw [if_pos c] at h ⊢
    exact h
   ·rw [if_neg c] at h ⊢
    exact pair_rel r r' h
  | _ => cases h
 | @lst j m ps ds hz hs r =>
  cases s with
  | @lst j' m' qs es hz' hs' r' =>
   show (o2 (fun (c d : Cell) => eqLD c.2 d.2) st[j]? st[j']?).join = some k
   rw [hs, hs']
   show eqLD ds es = some k
   rw [← eqL_rel r r']
   exact h
  | _ => cases h
 | _ => exact tail h
theorem in_rel {fz : Fz} {st : Store} {i : Int} : ∀ {ps : List P} {ds : List D} {k : Bool}, Rels fz st ps ds → inP i ps = some k → inInts i ds = some k
 | _, _, _, .nil, h => h
 | p :: ps, d :: ds, k, .cons a r, h => by
  cases a with
  | int j =>
   have h : (inP i ps).map (fun b => decide (j = i) || b) = some k := h
   show (inInts i ds).map (fun b => decide (j = i) || b) = some k
   cases q : inP i ps with
   | none => rw [q] at h; cases h
   | some k' => rw [q] at h; rw [in_rel r q]; exact h
  | _ => cases h
theorem in_relS {fz : Fz} {st : Store} {i : Str} : ∀ {ps : List P} {ds : List D} {k : Bool}, Rels fz st ps ds → inPS i ps = some k → inStrs i ds = some k
 | _, _, _, .nil, h => h
 | p :: ps, d :: ds, k, .cons a r, h => by
  cases a with
  | str j =>
   have h : (inPS i ps).map (fun b => decide (j = i) || b) = some k := h
   show (inStrs i ds).map (fun b => decide (j = i) || b) = some k
   cases q : inPS i ps with
   | none => rw [q] at h; cases h
   | some k' => rw [q] at h; rw [in_relS r q]; exact h
  | _ => cases h
theorem at_rel {fz : Fz} {st : Store} {i : Int} {ps : List P} {ds : List D} {p : P} (r : Rels fz st ps ds) (h : atP ps i = some p) : ∃ d, atD ds i = some d ∧ Rel fz st p d := by
 unfold atP at h
 unfold atD
 rw [← r.length]
 cases q : ixN ps.length i with
 | none => rw [q] at h; cases h
 | some j =>
  rw [q] at h
  exact r.get h
theorem cut_rel {fz : Fz} {st : Store} {lo hi : Option Int} {ps : List P} {ds : List D} (r : Rels fz st ps ds) : Rels fz st (cutP ps lo hi) (cutD ds lo hi) := by
 unfold cutP cutD
 rw [← r.length]
 exact (r.drop _).take _
end
section
theorem o_neg : Op1 negD negP := by
 intro fz st x dx p b r h
 cases r <;> first | (cases h; exact .same b (.int _)) | cases h
theorem o_not : Op1 notD notP := by
 intro fz st x dx p b r h
 cases r <;> first | (cases h; exact .same b (.bl _)) | cases h
theorem o_part : Op1 partD partP := by
 intro fz st x dx p b r h
 cases r <;> first | (cases h; exact .same b (.int _)) | cases h
theorem o_strO : Op1 strOD strOP := by
 intro fz st x dx p b r h
 cases r with
 | int i =>
  have h : (if lim64 i = true then some (P.str (Str.ofString (toString i))) else none) = some p := h
  split at h
  ·rename_i c
   cases h
   rw [show strOD (.int i) st = some (.str (Str.ofString (toString i)), st) from if_pos c]
   exact .same b (.str _)
  ·cases h
 | _ => cases h
theorem strs_relP {fz : Fz} {st : Store} : ∀ {ps : List P} {ds : List D}, Rels fz st ps ds → ∀ {xs : List Str}, strsP ps = some xs → strsD ds = some xs
 | _, _, .nil, xs, h => h
 | _, _, .cons a r, xs, h => by
  cases a with
  | str x =>
   obtain ⟨zs, h1, h2⟩ := Option.map_eq_some_iff.mp (show (strsP _).map (x :: ·) = some xs from h)
   show (strsD _).map (x :: ·) = some xs
   rw [strs_relP r h1, ← h2]
   rfl
  | _ => cases h
theorem o_join : Op2 joinD joinP := by
 intro fz st x y dx dy p b r s h
 cases r with
 | str x =>
  cases s with
  | @lst k m ps ds hz hs r =>
   have h : (if x.length = 0 then joinLP ps else joinGP x ps) = some p := h
   have z : joinD (.str x) (.lst k) st = (if x.length = 0 then joinL ds st else joinG x ds st) := by unfold joinD; simp only [hs]
   rw [z]
   split at h
   ·rename_i c
    rw [if_pos c]
    unfold joinLP at h
    split at h
    ·rename_i xs q
     split at h
     ·rename_i c2
      cases h
      unfold joinL
      rw [strs_relP r q]
      simp only
      rw [if_pos c2]
      exact .same b (.str _)
     ·cases h
    ·cases h
   ·rename_i c
    rw [if_neg c]
    unfold joinGP at h
    split at h
    ·rename_i xs q
     split at h
     ·rename_i c2
      cases h
      unfold joinG
      rw [strs_relP r q]
      simp only
      rw [if_pos c2]
      exact .same b (.str _)
     ·cases h
    ·cases h
  | _ => cases h
 | _ => cases h
theorem o_rng2 : Op2 rng2D rng2P := by
 intro fz st x y dx dy p b r s h
 cases r with
 | int i =>
  cases s with
  | int j =>
   have h : (if rangeOk i j 1 = true then some (P.dct [] [.int i, .int j]) else none) = some p := h
   split at h
   ·rename_i c
    cases h
    rw [show rng2D (.int i) (.int j) st = some (.dct [] [.int i, .int j], st) from if_pos c]
    exact .same b (.dct (.cons (.int _) (.cons (.int _) .nil)))
   ·cases h
  | _ => cases h
 | _ => cases h
theorem o_starts : Op2 startsD startsP := by
 intro fz st x y dx dy p b r s h
 cases r with
 | str x =>
  cases s with
  | tup r => cases r with
   | nil => cases h
   | cons a r => cases r with
    | cons _ _ => cases a <;> cases h
    | nil => cases a with
     | str y => cases h; exact .same b (.bl _)
     | _ => cases h
  | _ => cases h
 | _ => cases h
theorem o_lenR : Op1 lenR lenP := by
 intro fz st x dx p b r h
 cases r with
 | @tup ps ds r =>
  cases h
  rw [r.length]
  exact .same b (.int _)
 | @lst j m ps ds hz hs r =>
  cases h
  have e : lenR (.lst j) st = some (.int ds.length, st) := by unfold lenR lenD; simp only [hs]
  rw [e, r.length]
  exact .same b (.int _)
 | kt ks =>
  cases h
  exact .same b (.int _)
 | str x =>
  have h : (if x.length ≤ sizeMax then some (P.int x.length) else none) = some p := h
  split at h
  ·rename_i c
   cases h
   have e : lenR (.str x) st = some (.int x.length, st) := by
    unfold lenR lenD
    simp only
    rw [if_pos c]
   rw [e]
   exact .same b (.int _)
  ·cases h
 | _ => cases h
theorem o_isi (T : Ty) : Op1 (isiR T) (isiP T) := by
 intro fz st x dx p b r h
 obtain ⟨k, e, rfl⟩ := Option.map_eq_some_iff.mp (show (isiQ T x).map P.bl = some p from h)
 have z : isiQ T x = isiD T dx := by cases r <;> rfl
 rw [z] at e
 unfold isiR
 rw [e]
 exact .same b (.bl k)
theorem f_lst : Op1F lstD lstP := by
 intro fz st x dx m ps b r h
 cases r with
 | @tup ps ds r => cases h; exact ⟨ds, rfl, r⟩
 | _ => cases h
theorem o_lst : Op1 lstD lstP := by
 intro fz st x dx p b r h
 cases r with
 | @tup ps ds r => cases h; exact (f_lst fz st _ _ true ps b (.tup r) rfl).gives b
 | _ => cases h
theorem f_list : Op1F listD listP := by
 intro fz st x dx m ps b r h
 cases r with
 | @tup ps ds r => cases h; exact ⟨ds, rfl, r⟩
 | @lst j m ps ds hz hs r =>
  cases h
  exact ⟨ds, by unfold listD; simp only [hs], r⟩
 | _ => cases h
theorem o_list : Op1 listD listP := by
 intro fz st x dx p b r h
 cases r with
 | @tup ps ds r => cases h; exact (f_list fz st _ _ true ps b (.tup r) rfl).gives b
 | @lst j m ps ds hz hs r => cases h; exact (f_list fz st _ _ true ps b (.lst hz hs r) rfl).gives b
 | _ => cases h
theorem o_tuple : Op1 tupleD tupleP := by
 intro fz st x dx p b r h
 cases r with
 | @tup ps ds r => cases h; exact .same b (.tup r)
 | @lst j m ps ds hz hs r =>
  cases h
  have e : tupleD (.lst j) st = some (.tup ds, st) := by unfold tupleD; simp only [hs]
  rw [e]
  exact .same b (.tup r)
 | _ => cases h
theorem o_cons : Op2 consD consP := by
 intro fz st x y dx dy p b r s h
 cases s with
 | @tup ps ds s =>
  have h : (if ps.length < 1000 then some (P.tup (x :: ps)) else none) = some p := h
  split at h
  ·rename_i c
   cases h
   have e : consD dx (.tup ds) st = some (.tup (dx :: ds), st) := by unfold consD; simp only; rw [s.length] at c; rw [if_pos c]
   rw [e]
   exact .same b (.tup (.cons r s))
  ·cases h
 | _ => cases h
theorem o_min : Op2 minD minP := by
 intro fz st x y dx dy p b r s h
 cases r with
 | int i =>
  cases s with
  | int j => cases h; exact .same b (.int _)
  | _ => cases h
 | _ => cases h
theorem o_max : Op2 maxD maxP := by
 intro fz st x y dx dy p b r s h
 cases r with
 | int i =>
  cases s with
  | int j => cases h; exact .same b (.int _)
  | _ => cases h
 | _ => cases h
theorem look_relP {fz : Fz} {st : Store} {k : Str} : ∀ {ks : List Str} {ps : List P} {ds : List D}, Rels fz st ps ds → (∃ p d, lookP ks ps k = some p ∧ lookD ks ds k = some d ∧ Rel fz st p d) ∨ (lookP ks ps k = none ∧ lookD ks ds k = none)
 | [], _, _, _ => .inr ⟨by simp [lookP], by simp [lookD]⟩
 | _ :: _, _, _, .nil => .inr ⟨by simp [lookP], by simp [lookD]⟩
 | x :: ks, _, _, .cons h r => by
  by_cases e : x = k
  ·exact .inl ⟨_, _, by simp [lookP, e], by simp [lookD, e], h⟩
  ·have ih := look_relP (k := k) (ks := ks) r
   simp only [lookP, lookD, if_neg e]
   exact ih
theorem strs_rel {fz : Fz} {st : Store} : ∀ l : List Str, Rels fz st (l.map P.str) (l.map D.str)
 | [] => .nil
 | k :: l => .cons (.str _) (strs_rel l)
theorem o_ix : Op2 ixR ixP := by
 intro fz st x y dx dy p b r s h
 cases r with
 | @tup ps ds r =>
  cases s with
  | int j =>
   obtain ⟨d, e, q⟩ := at_rel r h
   have e : ixR (.tup ds) (.int j) st = some (d, st) := by unfold ixR ixD; simp only [e]
   rw [e]; exact .same b q
  | _ => cases h
 | @lst k m ps ds hz hs r =>
  cases s with
  | int j =>
   obtain ⟨d, e, q⟩ := at_rel r h
   have e : ixR (.lst k) (.int j) st = some (d, st) := by unfold ixR ixD; simp only [hs, e]
   rw [e]; exact .same b q
  | _ => cases h
 | @dct ks ps ds r =>
  cases s with
  | str z =>
   rcases look_relP (k := z) (ks := ks) r with ⟨p', d, e1, e2, q⟩ | ⟨e1, _⟩
   ·have h : lookP ks ps z = some p := h
    rw [e1] at h; cases h
    have e : ixR (.dct ks ds) (.str z) st = some (d, st) := by unfold ixR ixD; simp only [e2]
    rw [e]; exact .same b q
   ·have h : lookP ks ps z = some p := h
    rw [e1] at h; cases h
  | _ => cases h
 | kt ks =>
  cases s with
  | int j =>
   obtain ⟨d, e, q⟩ := at_rel (strs_rel (fz := fz) (st := st) ks) h
   have e : ixR (.kt ks) (.int j) st = some (d, st) := by unfold ixR ixD; simp only [e]
   rw [e]; exact .same b q
  | _ => cases h
 | str x =>
  cases s with
  | int j =>
   have h : (if x.length ≤ sizeMax then atP ((chS x).map .str) j else none) = some p := h
   split at h
   ·rename_i c
    obtain ⟨d, e, q⟩ := at_rel (strs_rel (fz := fz) (st := st) (chS x)) h
    have e : ixR (.str x) (.int j) st = some (d, st) := by
     unfold ixR ixD
     simp only
     rw [if_pos c, e]
    rw [e]; exact .same b q
   ·cases h
  | _ => cases h
 | _ => cases h
theorem ord_rel {f : Int → Int → Bool} {fz : Fz} {st : Store} {x y : P} {dx dy : D} {k : Bool} (r : Rel fz st x dx) (s : Rel fz st y dy) (h : ordP f x y = some k) : ordD f dx dy = some k := by
 cases r with
 | int i =>
  cases s with
  | int j => exact h
  | _ => cases h
 | _ => cases h
theorem lt_rel {fz : Fz} {st : Store} {x y : P} {dx dy : D} {k : Bool} (r : Rel fz st x dx) (s : Rel fz st y dy) (h : ltP x y = some k) : ltD dx dy = some k := by exact ord_rel r s h
theorem ltS_rel {fz : Fz} {st : Store} {x y : P} {dx dy : D} {k : Bool} (r : Rel fz st x dx) (s : Rel fz st y dy) (h : ltSP x y = some k) : ltS st dx dy = some k := by exact lt_rel r s h
theorem map_rel {a b : Option Bool} {f : Bool → Bool} {k : Bool} (h : ∀ k, a = some k → b = some k) (e : a.map f = some k) : b.map f = some k := by
 cases q : a with
 | none => rw [q] at e; cases e
 | some k' => rw [h k' q]; rw [q] at e; exact e
theorem inS_rel {fz : Fz} {st : Store} {x y : P} {dx dy : D} {k : Bool} (r : Rel fz st x dx) (s : Rel fz st y dy) (h : inSP x y = some k) : inS st dx dy = some k := by
 cases r with
 | int i =>
  cases s with
  | tup rr => exact in_rel rr h
  | lst hz hs rr =>
   unfold inS
   simp only [hs]
   exact in_rel rr h
  | _ => cases h
 | str z =>
  cases s with
  | tup rr => exact in_relS rr h
  | lst hz hs rr =>
   unfold inS
   simp only [hs]
   exact in_relS rr h
  | @dct ks _ _ rr =>
   have h : some (lookP ks _ z).isSome = some k := h
   show some (lookD ks _ z).isSome = some k
   rcases look_relP (k := z) (ks := ks) rr with ⟨p', d, e1, e2, _⟩ | ⟨e1, e2⟩
   ·rw [e1] at h; rw [e2]; exact h
   ·rw [e1] at h; rw [e2]; exact h
  | str w => exact h
  | _ => cases h
 | _ => cases h
theorem isD_rel {fz : Fz} {st : Store} {x y : P} {dx dy : D} {k : Bool} (r : Rel fz st x dx) (s : Rel fz st y dy) (h : isPP x y = some k) : isD dx dy = some k := by
 cases s with
 | non => cases r <;> first | exact h | cases h
 | bl b => cases r <;> first | exact h | cases h
 | _ => cases h
theorem o_inR (ng : Bool) : Op2 (inRD ng) (inRP ng) := by
 intro fz st x y dx dy p b r s h
 cases r with
 | int i =>
  cases s with
  | int j =>
   have h : (if -(2 ^ 62) ≤ j ∧ j < 2 ^ 62 then some (P.bl (ng != decide (0 ≤ i ∧ i < j))) else none) = some p := h
   split at h
   ·rename_i c
    cases h
    have e : inRD ng (.int i) (.int j) st = some (.bl (ng != decide (0 ≤ i ∧ i < j)), st) := if_pos c
    rw [e]
    exact .same b (.bl _)
   ·cases h
  | _ => cases h
 | _ => cases h
theorem o_cmp (op : CmpOp) : Op2 (cmpR op) (cmpPR op) := by
 intro fz st x y dx dy p b r s h
 have h : (cmpP op x y).map P.bl = some p := h
 cases q : cmpP op x y with
 | none => rw [q] at h; cases h
 | some k =>
  rw [q] at h; cases h
  have e : cmpD op dx dy st = some k := by
   cases op with
   | Lt => exact ltS_rel r s q
   | LtE => exact ord_rel r s q
   | Gt => exact ord_rel r s q
   | GtE => exact ord_rel r s q
   | Eq => exact eq_rel r s q
   | NotEq => exact map_rel (fun k => eq_rel r s) q
   | In => exact inS_rel r s q
   | NotIn =>
    replace q : niP x y = some k := q
    show niS st dx dy = some k
    cases s with
    | dct _ => cases q
    | _ => exact map_rel (fun k => inS_rel r (by constructor <;> assumption)) q
   | Is => exact isD_rel r s q
   | IsNot => exact map_rel (fun k => isD_rel r s) q
  have e2 : cmpR op dx dy st = some (.bl k, st) := by unfold cmpR; rw [e]
  rw [e2]
  exact .same b (.bl k)
theorem bin_rel {op : Operator} {fz : Fz} {st : Store} {x y p : P} {dx dy : D} (b : Bd fz st) (r : Rel fz st x dx) (s : Rel fz st y dy) (h : binP op x y = some p) : (∃ d, binD op dx dy st = some (d, st) ∧ Rel fz st p d ∧ ∀ m ps, p ≠ .lst m ps) ∨ ∃ ps, p = .lst true ps ∧ Makes fz st (binD op dx dy st) true ps := by
 cases r with
 | @lst ja ma pa da hz hs rr =>
  cases s with
  | @lst jb mb pb db hz' hs' rr' =>
   have h : (if isAdd op = true ∧ pa.length + pb.length ≤ sizeMax then some (P.lst true (pa ++ pb)) else none) = some p := h
   split at h
   ·rename_i c
    cases h
    refine .inr ⟨_, rfl, _, ?_, rr.append rr'⟩
    show (if isAdd op = true then catD ja jb st else none) = _
    unfold catD
    rw [if_pos c.1, hs, hs']
    exact if_pos (by rw [← rr.length, ← rr'.length]; exact c.2)
   ·cases h
  | int j =>
   have h : (if isMul op = true then repLP ma pa j else none) = some p := h
   split at h
   ·rename_i c
    cases ma with
    | false => cases h
    | true => cases rr with
     | nil => cases h
     | @cons p0 _ _ _ a rr => cases rr with
      | cons _ _ => cases h
      | nil =>
       have h : (if j ≤ 1000 ∧ -1000 ≤ j then some (P.lst true (List.replicate j.toNat p0)) else none) = some p := h
       split at h
       ·rename_i c2
        cases h
        refine .inr ⟨_, rfl, _, ?_, Rels.rep a _⟩
        show (if isMul op = true then repD ja j st else none) = _
        unfold repD
        rw [if_pos c, hs]
        exact if_pos c2
       ·cases h
   ·cases h
  | _ => cases h
 | @tup pa da r1 => cases s with
  | @tup pb db s1 =>
   have h : (if isAdd op = true ∧ pa.length + pb.length ≤ sizeMax then some (P.tup (pa ++ pb)) else none) = some p := h
   split at h
   ·rename_i c
    cases h
    exact .inl ⟨_, if_pos ⟨c.1, by rw [← r1.length, ← s1.length]; exact c.2⟩, .tup (r1.append s1), fun _ _ z => nomatch z⟩
   ·cases h
  | int j =>
   have h : (if isMul op = true then repTP pa j else none) = some p := h
   split at h
   ·rename_i c
    cases r1 with
    | nil => cases h
    | @cons p0 d0 _ _ a r1 => cases r1 with
     | cons _ _ => cases h
     | nil =>
      have h : (if j ≤ 1000 ∧ -1000 ≤ j then some (P.tup (List.replicate j.toNat p0)) else none) = some p := h
      split at h
      ·rename_i c2
       cases h
       exact .inl ⟨_, (if_pos c).trans (if_pos c2), .tup (Rels.rep a _), fun _ _ z => nomatch z⟩
      ·cases h
   ·cases h
  | _ => cases h
 | int i => cases s with
  | int j =>
   have h : (match binI op i j with
    | some k => some (P.int k)
    | none => none) = some p := h
   have z : binD op (.int i) (.int j) st = (match binI op i j with
    | some k => some (D.int k, st)
    | none => none) := rfl
   rw [z]
   cases q : binI op i j with
   | none => rw [q] at h; cases h
   | some k => rw [q] at h; cases h; exact .inl ⟨_, rfl, .int _, fun _ _ z => nomatch z⟩
  | _ => cases h
 | str x => cases s with
  | str y =>
   have h : (if isAdd op = true ∧ x.length + y.length ≤ sizeMax then some (P.str (x ++ y)) else none) = some p := h
   split at h
   ·rename_i c
    cases h
    exact .inl ⟨_, if_pos c, .str _, fun _ _ z => nomatch z⟩
   ·cases h
  | _ => cases h
 | _ => cases h
theorem f_bin (op : Operator) : Op2F (binD op) (binP op) := by
 intro fz st x y dx dy m ps b r s h
 rcases bin_rel b r s h with ⟨_, _, _, n⟩ | ⟨qs, e, mk⟩
 ·exact absurd rfl (n _ _)
 ·cases e; exact mk
theorem o_bin (op : Operator) : Op2 (binD op) (binP op) := by
 intro fz st x y dx dy p b r s h
 rcases bin_rel b r s h with ⟨d, e, rp, _⟩ | ⟨qs, e, mk⟩
 ·rw [e]; exact .same b rp
 ·cases e; exact mk.gives b
theorem sl0_rel {fz : Fz} {st : Store} {x : P} {dx : D} {lo hi : Option Int} {p : P} (b : Bd fz st) (r : Rel fz st x dx) (h : sliceP0 x lo hi = some p) : (∃ d, sliceD dx lo hi st = some (d, st) ∧ Rel fz st p d ∧ ∀ m ps, p ≠ .lst m ps) ∨ ∃ ps, p = .lst true ps ∧ Makes fz st (sliceD dx lo hi st) true ps := by
 cases r with
 | @tup ps ds r =>
  have h : (if sIx ps.length 0 lo = 0 ∧ sIx ps.length ps.length hi = ps.length then some (P.tup ps) else some (P.tup (cutP ps lo hi))) = some p := h
  split at h
  ·rename_i c
   cases h
   refine .inl ⟨_, ?_, .tup r, fun _ _ z => nomatch z⟩
   unfold sliceD
   simp only
   rw [if_pos (by rw [← r.length]; exact c)]
  ·rename_i c
   cases h
   refine .inl ⟨_, ?_, .tup (cut_rel r), fun _ _ z => nomatch z⟩
   unfold sliceD
   simp only
   rw [if_neg (by rw [← r.length]; exact c)]
 | @lst j m ps ds hz hs r =>
  cases h
  refine .inr ⟨_, rfl, _, ?_, cut_rel r⟩
  unfold sliceD
  simp only [hs]
 | str x =>
  have h : (if x.length ≤ sizeMax then some (P.str (cutS x lo hi)) else none) = some p := h
  split at h
  ·rename_i c
   cases h
   exact .inl ⟨_, if_pos c, .str _, fun _ _ z => nomatch z⟩
  ·cases h
 | _ => cases h
theorem sl_rel {fz : Fz} {st : Store} {x y z : P} {dx dy dz : D} {p : P} (s1 : Rel fz st y dy) (s2 : Rel fz st z dz) (h : sliceP x y z = some p) : ∃ lo hi, sliceP0 x lo hi = some p ∧ ∀ dx, sliceR dx dy dz st = sliceD dx lo hi st := by
 unfold sliceP at h
 split at h
 ·cases s1; cases s2; exact ⟨_, _, h, fun _ => rfl⟩
 ·cases s1; cases s2; exact ⟨_, _, h, fun _ => rfl⟩
 ·cases s1; cases s2; exact ⟨_, _, h, fun _ => rfl⟩
 ·cases s1; cases s2; exact ⟨_, _, h, fun _ => rfl⟩
 ·cases h
theorem o_slice : Op3 sliceR sliceP := by
 intro fz st x y z dx dy dz p b r s1 s2 h
 obtain ⟨lo, hi, h0, e⟩ := sl_rel (dx := dx) s1 s2 h
 rw [e]
 rcases sl0_rel b r h0 with ⟨d, e1, rr, _⟩ | ⟨ps, rfl, mk⟩
 ·rw [e1]; exact .same b rr
 ·exact mk.gives b
theorem f_slice : Op3F sliceR sliceP := by
 intro fz st x y z dx dy dz m ps b r s1 s2 h
 obtain ⟨lo, hi, h0, e⟩ := sl_rel (dx := dx) s1 s2 h
 rw [e]
 rcases sl0_rel b r h0 with ⟨_, _, _, z⟩ | ⟨ps, z, mk⟩
 ·exact absurd rfl (z _ _)
 ·cases z; exact mk
end
end Dp


namespace Dp
open PySem
noncomputable abbrev PFn := Nat → List P → Option P
def FnNew (F : Fn) (G : List P → Option P) : Prop := ∀ ps m xs, G ps = some (.lst m xs) → ∀ fz st ds, Bd fz st → Rels fz st ps ds → ∃ j es st' fz1, F ds st = some (.lst j, st') ∧ st'[j]? = some (m, es) ∧ Next fz st fz1 st' ∧ ¬ fz1 j ∧ st.length ≤ j ∧ Rels fz1 st' xs es
def FnRel (F : Nat → Fn) (G : PFn) : Prop := (∀ i ps p, G i ps = some p → ∀ fz st ds, Bd fz st → Rels fz st ps ds → Gives fz st (F i ds st) p) ∧ ∀ i, isNew i = true → FnNew (F i) (G i)
def EnvAll (fz : Fz) (st : Store) (π : PEnv) (ρ : Env) : Prop := ∀ (i : Nat) (p : P), π[i]? = some (some p) → ∃ d, ρ[i]? = some (some d) ∧ Rel fz st p d
theorem EnvAll.next {fz fz' : Fz} {st st' : Store} {π : PEnv} {ρ : Env} (b : Bd fz st) (x : Next fz st fz' st') (h : EnvAll fz st π ρ) : EnvAll fz' st' π ρ := fun i p e =>
 let ⟨d, e1, r⟩ := h i p e; ⟨d, e1, r.next b x⟩
def SEP (f : Ev) (g : PEv) : Prop := ∀ π p, g π = some p → ∀ fz st ρ, Bd fz st → EnvAll fz st π ρ → Gives fz st (f ρ st) p
def SFP (f : Ev) (g : PEv) : Prop := ∀ π m ps, g π = some (.lst m ps) → ∀ fz st ρ, Bd fz st → EnvAll fz st π ρ → ∃ j ds st' fz1, f ρ st = some (.lst j, st') ∧ st'[j]? = some (m, ds) ∧ Next fz st fz1 st' ∧ ¬ fz1 j ∧ st.length ≤ j ∧ Rels fz1 st' ps ds
section
variable {f fa fb fc : Ev} {g ga gb gc : PEv}
theorem Makes.fresh {fz fz1 : Fz} {st st1 : Store} {r : Res} {m : Bool} {ps : List P} (x : Next fz st fz1 st1) (h : Makes fz1 st1 r m ps) :
  ∃ j ds st' fz2, r = some (.lst j, st') ∧ st'[j]? = some (m, ds) ∧ Next fz st fz2 st' ∧ ¬ fz2 j ∧ st.length ≤ j ∧ Rels fz2 st' ps ds := by
 obtain ⟨ds, e, rr⟩ := h
 refine ⟨_, ds, _, fz1, e, snocP, x.trans (push_f x.bd), fun z => ?_, x.len, rr.next x.bd (push_f x.bd)⟩
 exact absurd (x.bd _ z) (by omega)
theorem s1 {o : D → Store → Res} {O : P → Option P} (h : SEP f g) (k : Op1 o O) : SEP (seq1 f o) (pq1 g O) := by
 intro π p e fz st ρ b E
 unfold pq1 at e
 split at e
 ·rename_i x q
  obtain ⟨d, st1, fz1, e1, n1, r1⟩ := h π x q fz st ρ b E
  obtain ⟨d2, st2, fz2, e2, n2, r2⟩ := k fz1 st1 x d p n1.bd r1 e
  exact ⟨d2, st2, fz2, by unfold seq1; rw [e1]; exact e2, n1.trans n2, r2⟩
 ·cases e
theorem s1F {o : D → Store → Res} {O : P → Option P} (h : SEP f g) (k : Op1F o O) : SFP (seq1 f o) (pq1 g O) := by
 intro π m ps e fz st ρ b E
 unfold pq1 at e
 split at e
 ·rename_i x q
  obtain ⟨d, st1, fz1, e1, n1, r1⟩ := h π x q fz st ρ b E
  have mk := k fz1 st1 x d m ps n1.bd r1 e
  have e3 : seq1 f o ρ st = o d st1 := by unfold seq1; rw [e1]
  rw [e3]
  exact mk.fresh n1
 ·cases e
theorem s2 {o : D → D → Store → Res} {O : P → P → Option P} (ha : SEP fa ga) (hb : SEP fb gb) (k : Op2 o O) : SEP (seq2 fa fb o) (pq2 ga gb O) := by
 intro π p e fz st ρ b E
 unfold pq2 at e
 split at e
 ·rename_i x q
  split at e
  ·rename_i y q'
   obtain ⟨d, st1, fz1, e1, n1, r1⟩ := ha π x q fz st ρ b E
   obtain ⟨d2, st2, fz2, e2, n2, r2⟩ := hb π y q' fz1 st1 ρ n1.bd (E.next b n1)
   obtain ⟨d3, st3, fz3, e3, n3, r3⟩ := k fz2 st2 x y d d2 p n2.bd (r1.next n1.bd n2) r2 e
   exact ⟨d3, st3, fz3, by unfold seq2; rw [e1]; simp only [e2]; exact e3, (n1.trans n2).trans n3, r3⟩
  ·cases e
 ·cases e
theorem s2F {o : D → D → Store → Res} {O : P → P → Option P} (ha : SEP fa ga) (hb : SEP fb gb) (k : Op2F o O) : SFP (seq2 fa fb o) (pq2 ga gb O) := by
 intro π m ps e fz st ρ b E
 unfold pq2 at e
 split at e
 ·rename_i x q
  split at e
  ·rename_i y q'
   obtain ⟨d, st1, fz1, e1, n1, r1⟩ := ha π x q fz st ρ b E
   obtain ⟨d2, st2, fz2, e2, n2, r2⟩ := hb π y q' fz1 st1 ρ n1.bd (E.next b n1)
   have mk := k fz2 st2 x y d d2 m ps n2.bd (r1.next n1.bd n2) r2 e
   have e3 : seq2 fa fb o ρ st = o d d2 st2 := by unfold seq2; rw [e1]; simp only [e2]
   rw [e3]
   exact mk.fresh (n1.trans n2)
  ·cases e
 ·cases e
theorem s3 {o : D → D → D → Store → Res} {O : P → P → P → Option P} (ha : SEP fa ga) (hb : SEP fb gb) (hc : SEP fc gc) (k : Op3 o O) : SEP (seq3 fa fb fc o) (pq3 ga gb gc O) := by
 intro π p e fz st ρ b E
 unfold pq3 at e
 split at e
 ·rename_i x q
  split at e
  ·rename_i y q'
   split at e
   ·rename_i z q''
    obtain ⟨d, st1, fz1, e1, n1, r1⟩ := ha π x q fz st ρ b E
    obtain ⟨d2, st2, fz2, e2, n2, r2⟩ := hb π y q' fz1 st1 ρ n1.bd (E.next b n1)
    obtain ⟨d3, st3, fz3, e3, n3, r3⟩ := hc π z q'' fz2 st2 ρ n2.bd (E.next b (n1.trans n2))
    obtain ⟨d4, st4, fz4, e4, n4, r4⟩ := k fz3 st3 x y z d d2 d3 p n3.bd (r1.next n1.bd (n2.trans n3)) (r2.next n2.bd n3) r3 e
    exact ⟨d4, st4, fz4, by unfold seq3; rw [e1]; simp only [e2, e3]; exact e4, ((n1.trans n2).trans n3).trans n4, r4⟩
   ·cases e
  ·cases e
 ·cases e
theorem s3F {o : D → D → D → Store → Res} {O : P → P → P → Option P} (ha : SEP fa ga) (hb : SEP fb gb) (hc : SEP fc gc) (k : Op3F o O) : SFP (seq3 fa fb fc o) (pq3 ga gb gc O) := by
 intro π m ps e fz st ρ b E
 unfold pq3 at e
 split at e
 ·rename_i x q
  split at e
  ·rename_i y q'
   split at e
   ·rename_i z q''
    obtain ⟨d, st1, fz1, e1, n1, r1⟩ := ha π x q fz st ρ b E
    obtain ⟨d2, st2, fz2, e2, n2, r2⟩ := hb π y q' fz1 st1 ρ n1.bd (E.next b n1)
    obtain ⟨d3, st3, fz3, e3, n3, r3⟩ := hc π z q'' fz2 st2 ρ n2.bd (E.next b (n1.trans n2))
    have mk := k fz3 st3 x y z d d2 d3 m ps n3.bd (r1.next n1.bd (n2.trans n3)) (r2.next n2.bd n3) r3 e
    have e4 : seq3 fa fb fc o ρ st = o d d2 d3 st3 := by unfold seq3; rw [e1]; simp only [e2, e3]
    rw [e4]
    exact mk.fresh ((n1.trans n2).trans n3)
   ·cases e
  ·cases e
 ·cases e
theorem sC {p : P} {d : D} (h : ∀ fz st, Rel fz st p d) : SEP (evC d) (fun _ => some p) := by
 intro π q e fz st ρ b E
 cases e
 exact .same b (h fz st)
theorem sCond (hc : SEP fc gc) (ha : SEP fa ga) (hb : SEP fb gb) : SEP (cond fc fa fb) (pcond gc ga gb) := by
 intro π p e fz st ρ b E
 unfold pcond at e
 split at e
 ·rename_i q
  obtain ⟨d, st1, fz1, e1, n1, r1⟩ := hc π _ q fz st ρ b E
  cases r1
  obtain ⟨d2, st2, fz2, e2, n2, r2⟩ := ha π p e fz1 st1 ρ n1.bd (E.next b n1)
  exact ⟨d2, st2, fz2, by unfold cond; rw [e1]; exact e2, n1.trans n2, r2⟩
 ·rename_i q
  obtain ⟨d, st1, fz1, e1, n1, r1⟩ := hc π _ q fz st ρ b E
  cases r1
  obtain ⟨d2, st2, fz2, e2, n2, r2⟩ := hb π p e fz1 st1 ρ n1.bd (E.next b n1)
  exact ⟨d2, st2, fz2, by unfold cond; rw [e1]; exact e2, n1.trans n2, r2⟩
 ·cases e
theorem sVar (i : Nat) : SEP (evVar i) (pvar i) := by
 intro π p e fz st ρ b E
 unfold pvar at e
 split at e
 ·rename_i q
  cases e
  obtain ⟨d, e1, r⟩ := E i _ q
  exact ⟨d, st, fz, by unfold evVar; rw [e1], Next.refl b, r⟩
 ·cases e
theorem sCall {F : Fn} {G : List P → Option P} {ds : List D} (hF : ∀ ps p, G ps = some p → ∀ fz st es, Bd fz st → Rels fz st ps es → Gives fz st (F es st) p) : Op1 (callR F ds) (callP G ds) := by
 intro fz st x dx p b r h
 cases r with
 | @tup ps es r =>
  have h : (match ofDs ds with
   | some es => G (ps ++ es)
   | none => none) = some p := h
  split at h
  ·rename_i qs q
   exact hF _ p h fz st (es ++ ds) b (r.append (Rels.ofConst q))
  ·cases h
 | _ => cases h
theorem sCallN {F : Fn} {G : List P → Option P} {ds : List D} {fa : Ev} {ga : PEv} (ha : SEP fa ga) (hF : FnNew F G) : SFP (seq1 fa (callR F ds)) (pq1 ga (callP G ds)) := by
 intro π m ps h fz st ρ b E
 unfold pq1 at h
 split at h
 ·rename_i x q
  obtain ⟨d, st1, fz1, e1, n1, r1⟩ := ha π x q fz st ρ b E
  cases r1 with
  | @tup qs es r =>
   have h : (match ofDs ds with
    | some es => G (qs ++ es)
    | none => none) = some (.lst m ps) := h
   split at h
   ·rename_i ws qq
    obtain ⟨j, us, st2, fz2, e2, f1, n2, f2, f3, f4⟩ := hF _ m ps h fz1 st1 (es ++ ds) n1.bd (r.append (Rels.ofConst qq))
    refine ⟨j, us, st2, fz2, ?_, f1, n1.trans n2, f2, Nat.le_trans n1.len f3, f4⟩
    unfold seq1
    rw [e1]
    exact e2
   ·cases h
  | _ => cases h
 ·cases h
theorem range_rel {fz : Fz} {st : Store} (n : Nat) : Rels fz st ((List.range n).map fun (k : Nat) => P.int (k : Int)) ((List.range n).map fun (k : Nat) => D.int (k : Int)) := by
 generalize List.range n = l
 induction l with
 | nil => exact .nil
 | cons a l ih => exact .cons (.int _) ih
theorem items_rel {fz : Fz} {st : Store} {rng : Bool} {x : P} {dx : D} {xs : List P} (r : Rel fz st x dx) (h : itemsP rng x = some xs) : ∃ ds, itemsD rng dx = some ds ∧ Rels fz st xs ds := by
 cases rng with
 | true =>
  cases r with
  | int n =>
   have h : (if n < 2 ^ 62 ∧ -(2 ^ 62) ≤ n then some (rangeP n) else none) = some xs := h
   split at h
   ·rename_i c
    cases h
    refine ⟨_, by unfold itemsD; simp only; rw [if_pos c], range_rel _⟩
   ·cases h
  | _ => cases h
 | false =>
  cases r with
  | tup r => cases h; exact ⟨_, rfl, r⟩
  | _ => cases h
theorem ints_relC {fz : Fz} {st : Store} : ∀ (l : List Int), Rels fz st (l.map P.int) (l.map D.int)
 | [] => .nil
 | i :: l => .cons (.int i) (ints_relC l)
theorem walkD_rel {fz : Fz} {st : Store} {rng : Bool} {x : P} {dx : D} {xs : List P} (b : Bd fz st) (r : Rel fz st x dx) (h : walkP rng x = some xs) : ∃ ds ok, walkD rng dx st = some (ds, ok) ∧ Rels fz st xs ds ∧ ∀ fz' st', Next fz st fz' st' → ok st' := by
 unfold walkP at h
 split at h
 ·rename_i ys q
  cases h
  obtain ⟨ds, e, rr⟩ := items_rel r q
  exact ⟨ds, _, by unfold walkD; rw [e], rr, fun _ _ _ => trivial⟩
 ·split at h
  ·cases h
   cases r with
   | @lst j m ps ds hz hs r =>
    rename_i m _; refine ⟨ds, fun s => s[j]? = some (m, ds), ?_, r, fun fz' st' n => ?_⟩
    ·unfold walkD itemsD
     simp only [hs]
    ·exact (n.old j (b j hz)).trans hs
  ·rename_i x _
   split at h
   ·rename_i c
    cases h
    cases r
    refine ⟨(chS x).map D.str, fun _ => True, ?_, strs_rel _, fun _ _ _ => trivial⟩
    unfold walkD itemsD
    simp only
    rw [if_pos c]
   ·cases h
  ·cases h
   cases r with
   | dct r => cases r with
    | cons r1 r => cases r with
     | cons r2 r =>
      cases r; cases r1; cases r2
      exact ⟨_, fun _ => True, rfl, ints_relC _, fun _ _ _ => trivial⟩
  ·cases h
def BdRel (gb : P → List (Option P)) (bd : D → List (Option D)) : Prop := ∀ fz st x d, Rel fz st x d → (gb x).length = (bd d).length ∧ EnvAll fz st (gb x) (bd d)
theorem one_rel : BdRel pone one := fun fz st x d r => ⟨rfl, fun i p e => by
 cases i with
 | zero => cases e; exact ⟨d, rfl, r⟩
 | succ i => exact nomatch (show (none : Option (Option P)) = some (some p) from e)⟩
theorem comp_rel {gb : P → List (Option P)} {bd : D → List (Option D)} (hb : BdRel gb bd) {ok : Store → Prop} {fe fc : Ev} {ge gc : PEv} (he : SEP fe ge) (hc : SEP fc gc) {fr : List Nat} {π : PEnv} {ρ : Env} : ∀ {xs : List P} {ds : List D} {ys : List P} {fz : Fz} {st : Store}, Bd fz st → EnvAll fz st π ρ → Rels fz st xs ds → (∀ fz' st', Next fz st fz' st' → ok st') →
   compP (fun p => ge (penvG gb π fr p)) (fun p => gc (penvG gb π fr p)) xs = some ys → ∃ es st' fz', compD ok (fun d s => fe (envC bd ρ fr d) s) (fun d s => fc (envC bd ρ fr d) s) ds st = some (es, st') ∧ Next fz st fz' st' ∧ Rels fz' st' ys es
 | _, _, ys, fz, st, b, E, .nil, hok, h => by cases h; exact ⟨[], st, fz, if_pos (hok _ _ (Next.refl b)), Next.refl b, .nil⟩
 | x :: xs, d :: ds, ys, fz, st, b, E, .cons a r, hok, h => by
  have ok0 := hok _ _ (Next.refl b)
  obtain ⟨hl, hbe⟩ := hb fz st x d a
  have E1 : EnvAll fz st (penvG gb π fr x) (envC bd ρ fr d) := by
   intro i p e
   unfold penvG at e
   unfold envC
   by_cases hi : i < (gb x).length
   ·rw [List.getElem?_append_left hi] at e
    rw [List.getElem?_append_left (by rw [← hl]; exact hi)]
    exact hbe i p e
   ·have hi : (gb x).length ≤ i := Nat.le_of_not_lt hi
    rw [List.getElem?_append_right hi, List.getElem?_map] at e
    rw [List.getElem?_append_right (by rw [← hl]; exact hi), List.getElem?_map, ← hl]
    cases q : fr[i - (gb x).length]? with
    | none => rw [q] at e; cases e
    | some k =>
     rw [q] at e
     have e : (π[k]?).join = some p := by simpa using e
     have e2 : π[k]? = some (some p) := by
      cases q2 : π[k]? with
      | none => rw [q2] at e; cases e
      | some o => rw [q2] at e; rw [show o = some p from e]
     obtain ⟨d', e3, r3⟩ := E k p e2
     exact ⟨d', by simp [e3], r3⟩
  unfold compP at h
  split at h
  ·rename_i q
   split at h
   ·rename_i y q1
    split at h
    ·rename_i zs q2
     cases h
     obtain ⟨dc, st1, fz1, e1, n1, r1⟩ := hc _ _ q fz st _ b E1
     cases r1
     obtain ⟨dy, st2, fz2, e2, n2, r2⟩ := he _ _ q1 fz1 st1 _ n1.bd (E1.next b n1)
     obtain ⟨es, st3, fz3, e3, n3, r3⟩ := comp_rel hb he hc n2.bd (E.next b (n1.trans n2)) (r.next b (n1.trans n2)) (fun _ _ n => hok _ _ ((n1.trans n2).trans n)) q2
     refine ⟨dy :: es, st3, fz3, ?_, (n1.trans n2).trans n3, .cons (r2.next n2.bd n3) r3⟩
     unfold compD
     rw [if_pos ok0]
     simp only [e1, e2, e3]
    ·cases h
   ·cases h
  ·rename_i q
   obtain ⟨dc, st1, fz1, e1, n1, r1⟩ := hc _ _ q fz st _ b E1
   cases r1
   obtain ⟨es, st3, fz3, e3, n3, r3⟩ := comp_rel hb he hc n1.bd (E.next b n1) (r.next b n1) (fun _ _ n => hok _ _ (n1.trans n)) h
   refine ⟨es, st3, fz3, ?_, n1.trans n3, r3⟩
   unfold compD
   rw [if_pos ok0]
   simp only [e1]
   exact e3
  ·cases h
theorem sCompF {gb : P → List (Option P)} {bd : D → List (Option D)} (hb : BdRel gb bd) {gw : P → Option (List P)} {dw : D → Store → Option (List D × (Store → Prop))} (hw : ∀ {fz : Fz} {st : Store} {x : P} {dx : D} {xs : List P}, Bd fz st → Rel fz st x dx → gw x = some xs → ∃ ds ok, dw dx st = some (ds, ok) ∧ Rels fz st xs ds ∧ ∀ fz' st', Next fz st fz' st' → ok st') {fr : List Nat} {fi fe fc : Ev} {gi ge gc : PEv} (hi : SEP fi gi) (he : SEP fe ge) (hc : SEP fc gc) {π : PEnv} {p : P} (e : pcompR gb gw fr gi ge gc π = some p) {fz : Fz} {st : Store} {ρ : Env} (b : Bd fz st) (E : EnvAll fz st π ρ) :
  ∃ ps ds st1 fz1, p = .lst true ps ∧ compR bd dw fr fi fe fc ρ st = some (.lst st1.length, st1 ++ [(true, ds)]) ∧ Next fz st fz1 st1 ∧ Rels fz1 st1 ps ds := by
 unfold pcompR at e
 split at e
 ·rename_i x q
  split at e
  ·rename_i xs q1
   split at e
   ·rename_i c
    split at e
    ·rename_i ys q2
     cases e
     obtain ⟨d, st1, fz1, e1, n1, r1⟩ := hi π x q fz st ρ b E
     obtain ⟨ds, ok, e2, r2, hok⟩ := hw n1.bd r1 q1
     obtain ⟨es, st3, fz3, e3, n3, r3⟩ := comp_rel hb he hc (fr := fr) n1.bd (E.next b n1) r2 hok q2
     refine ⟨ys, es, st3, fz3, rfl, ?_, n1.trans n3, r3⟩
     unfold compR
     simp only [e1, e2]
     rw [if_pos (by rw [← r2.length]; exact c)]
     simp only [e3]
    ·cases e
   ·cases e
  ·cases e
 ·cases e
theorem sComp {gb : P → List (Option P)} {bd : D → List (Option D)} (hb : BdRel gb bd) {gw : P → Option (List P)} {dw : D → Store → Option (List D × (Store → Prop))} (hw : ∀ {fz : Fz} {st : Store} {x : P} {dx : D} {xs : List P}, Bd fz st → Rel fz st x dx → gw x = some xs → ∃ ds ok, dw dx st = some (ds, ok) ∧ Rels fz st xs ds ∧ ∀ fz' st', Next fz st fz' st' → ok st') {fr : List Nat} {fi fe fc : Ev} {gi ge gc : PEv} (hi : SEP fi gi) (he : SEP fe ge) (hc : SEP fc gc) : SEP (compR bd dw fr fi fe fc) (pcompR gb gw fr gi ge gc) := by
 intro π p e fz st ρ b E
 obtain ⟨ps, ds, st1, fz1, rfl, e1, n1, r1⟩ := sCompF hb hw hi he hc e b E
 exact ⟨_, _, _, e1, n1.trans (push_z n1.bd), push_rel n1.bd r1⟩
theorem sCompN {gb : P → List (Option P)} {bd : D → List (Option D)} (hb : BdRel gb bd) {gw : P → Option (List P)} {dw : D → Store → Option (List D × (Store → Prop))} (hw : ∀ {fz : Fz} {st : Store} {x : P} {dx : D} {xs : List P}, Bd fz st → Rel fz st x dx → gw x = some xs → ∃ ds ok, dw dx st = some (ds, ok) ∧ Rels fz st xs ds ∧ ∀ fz' st', Next fz st fz' st' → ok st') {fr : List Nat} {fi fe fc : Ev} {gi ge gc : PEv} (hi : SEP fi gi) (he : SEP fe ge) (hc : SEP fc gc) : SFP (compR bd dw fr fi fe fc) (pcompR gb gw fr gi ge gc) := by
 intro π m qs e fz st ρ b E
 obtain ⟨ps, ds, st1, fz1, h, e1, n1, r1⟩ := sCompF hb hw hi he hc e b E
 cases h
 exact Makes.fresh n1 ⟨ds, e1, r1⟩
end
theorem sound_pe {F : Nat → Fn} {G : PFn} (hF : FnRel F G) : ∀ e : CE, SEP (ev F e) (pe G e)
 | .var i => sVar i
 | .cst d => by
  intro π p e fz st ρ b E
  exact .same b (Rel.ofConst e)
 | .bin op a b => s2 (sound_pe hF a) (sound_pe hF b) (o_bin op)
 | .neg a => s1 (sound_pe hF a) o_neg
 | .cmp op a b => s2 (sound_pe hF a) (sound_pe hF b) (o_cmp op)
 | .not a => s1 (sound_pe hF a) o_not
 | .and a b => sCond (sound_pe hF a) (sound_pe hF b) (sC fun _ _ => .bl false)
 | .or a b => sCond (sound_pe hF a) (sC fun _ _ => .bl true) (sound_pe hF b)
 | .ife c a b => sCond (sound_pe hF c) (sound_pe hF a) (sound_pe hF b)
 | .tupE a => sound_pe hF a
 | .lstE a => s1 (sound_pe hF a) o_lst
 | .anil => sC fun _ _ => .tup .nil
 | .acons a r => s2 (sound_pe hF a) (sound_pe hF r) o_cons
 | .ix a b => s2 (sound_pe hF a) (sound_pe hF b) o_ix
 | .slice a lo hi => s3 (sound_pe hF a) (sound_pe hF lo) (sound_pe hF hi) o_slice
 | .nop => sC fun _ _ => .non
 | .part a => s1 (sound_pe hF a) o_part
 | .call f a ds => s1 (sound_pe hF a) (sCall (hF.1 f))
 | .len a => s1 (sound_pe hF a) o_lenR
 | .tupleOf a => s1 (sound_pe hF a) o_tuple
 | .listOf a => s1 (sound_pe hF a) o_list
 | .intOf _ => fun _ r e => nomatch (show (none : Option P) = some r from e)
 | .min a b => s2 (sound_pe hF a) (sound_pe hF b) o_min
 | .max a b => s2 (sound_pe hF a) (sound_pe hF b) o_max
 | .isi T a => s1 (sound_pe hF a) (o_isi T)
 | .rs _ _ => fun _ r e => nomatch (show (none : Option P) = some r from e)
 | .inv _ => fun _ r e => nomatch (show (none : Option P) = some r from e)
 | .tupR _ => fun _ r e => nomatch (show (none : Option P) = some r from e)
 | .look _ _ _ => fun _ r e => nomatch (show (none : Option P) = some r from e)
 | .dget _ _ _ => fun _ r e => nomatch (show (none : Option P) = some r from e)
 | .inR ng a b => s2 (sound_pe hF a) (sound_pe hF b) (o_inR ng)
 | .all _ => fun _ r e => nomatch (show (none : Option P) = some r from e)
 | .any _ => fun _ r e => nomatch (show (none : Option P) = some r from e)
 | .comp rng fr it elt cnd => sComp one_rel walkD_rel (sound_pe hF it) (sound_pe hF elt) (sound_pe hF cnd)
 | .comp2 _ _ _ _ => fun _ r e => nomatch (show (none : Option P) = some r from e)
 | .compT _ _ _ _ => fun _ r e => nomatch (show (none : Option P) = some r from e)
 | .lstR _ _ => fun _ r e => nomatch (show (none : Option P) = some r from e)
 | .new _ => fun _ r e => nomatch (show (none : Option P) = some r from e)
 | .meth _ _ _ => fun _ r e => nomatch (show (none : Option P) = some r from e)
 | .isc _ _ => fun _ r e => nomatch (show (none : Option P) = some r from e)
 | .tix _ _ => fun _ r e => nomatch (show (none : Option P) = some r from e)
 | .dict _ _ => fun _ r e => nomatch (show (none : Option P) = some r from e)
 | .dnew => fun _ r e => nomatch (show (none : Option P) = some r from e)
 | .strOf a => s1 (sound_pe hF a) o_strO
 | .joinE a b => s2 (sound_pe hF a) (sound_pe hF b) o_join
 | .starts a b => s2 (sound_pe hF a) (sound_pe hF b) o_starts
 | .rng2 a b => s2 (sound_pe hF a) (sound_pe hF b) o_rng2
theorem sound_pf {F : Nat → Fn} {G : PFn} (hF : FnRel F G) : ∀ e : CE, isFresh e = true → SFP (ev F e) (pe G e)
 | .bin op a b, _ => s2F (sound_pe hF a) (sound_pe hF b) (f_bin op)
 | .lstE a, _ => s1F (sound_pe hF a) f_lst
 | .call f a ds, h => sCallN (sound_pe hF a) (hF.2 f h)
 | .slice a lo hi, _ => s3F (sound_pe hF a) (sound_pe hF lo) (sound_pe hF hi) f_slice
 | .listOf a, _ => s1F (sound_pe hF a) f_list
 | .comp rng fr it elt cnd, _ => sCompN one_rel walkD_rel (sound_pe hF it) (sound_pe hF elt) (sound_pe hF cnd)
noncomputable def eraseM (M : List Nat) (π : PEnv) : PEnv := π.mapIdx fun i x => if M.contains i then none else x
theorem erase_at {M : List Nat} {π : PEnv} {i : Nat} (h : M.contains i = false) : (eraseM M π)[i]? = π[i]? := by
 unfold eraseM
 rw [List.getElem?_mapIdx]
 cases q : π[i]? with
 | none => rfl
 | some x =>
  show some (if M.contains i then none else x) = some x
  rw [h]; rfl
theorem erase_in {M : List Nat} {π : PEnv} {i : Nat} {p : P} (h : (eraseM M π)[i]? = some (some p)) : M.contains i = false ∧ π[i]? = some (some p) := by
 unfold eraseM at h
 rw [List.getElem?_mapIdx] at h
 cases q : π[i]? with
 | none => rw [q] at h; cases h
 | some x =>
  rw [q] at h
  have h : (if M.contains i then none else x) = some p := by simpa using h
  split at h
  ·cases h
  ·rename_i c
   exact ⟨by simpa using c, by rw [h]⟩
theorem pe_erase {G : PFn} {M : List Nat} {π : PEnv} : ∀ e : CE, noM M e = true → pe G e (eraseM M π) = pe G e π
 | .var i, h => by
  have h : (!M.contains i) = true := h
  show pvar i _ = pvar i _
  unfold pvar
  rw [erase_at (by simpa using h)]
 | .cst d, _ => rfl
 | .bin op a b, h => by
  have h := (Bool.and_eq_true _ _).mp h
  show pq2 (pe G a) (pe G b) (binP op) _ = pq2 (pe G a) (pe G b) (binP op) _
  unfold pq2; rw [pe_erase a h.1, pe_erase b h.2]
 | .neg a, h => by
  show pq1 (pe G a) negP _ = pq1 (pe G a) negP _
  unfold pq1; rw [pe_erase a h]
 | .cmp op a b, h => by
  have h := (Bool.and_eq_true _ _).mp h
  show pq2 (pe G a) (pe G b) (cmpPR op) _ = pq2 (pe G a) (pe G b) (cmpPR op) _
  unfold pq2; rw [pe_erase a h.1, pe_erase b h.2]
 | .not a, h => by
  show pq1 (pe G a) notP _ = pq1 (pe G a) notP _
  unfold pq1; rw [pe_erase a h]
 | .and a b, h => by
  have h := (Bool.and_eq_true _ _).mp h
  show pcond (pe G a) (pe G b) _ _ = pcond (pe G a) (pe G b) _ _
  unfold pcond; rw [pe_erase a h.1, pe_erase b h.2]
 | .or a b, h => by
  have h := (Bool.and_eq_true _ _).mp h
  show pcond (pe G a) _ (pe G b) _ = pcond (pe G a) _ (pe G b) _
  unfold pcond; rw [pe_erase a h.1, pe_erase b h.2]
 | .ife c a b, h => by
  have h := (Bool.and_eq_true _ _).mp h
  have h2 := (Bool.and_eq_true _ _).mp h.2
  show pcond (pe G c) (pe G a) (pe G b) _ = pcond (pe G c) (pe G a) (pe G b) _
  unfold pcond; rw [pe_erase c h.1, pe_erase a h2.1, pe_erase b h2.2]
 | .tupE a, h => pe_erase a h
 | .lstE a, h => by
  show pq1 (pe G a) lstP _ = pq1 (pe G a) lstP _
  unfold pq1; rw [pe_erase a h]
 | .anil, _ => rfl
 | .acons a b, h => by
  have h := (Bool.and_eq_true _ _).mp h
  show pq2 (pe G a) (pe G b) consP _ = pq2 (pe G a) (pe G b) consP _
  unfold pq2; rw [pe_erase a h.1, pe_erase b h.2]
 | .ix a b, h => by
  have h := (Bool.and_eq_true _ _).mp h
  show pq2 (pe G a) (pe G b) ixP _ = pq2 (pe G a) (pe G b) ixP _
  unfold pq2; rw [pe_erase a h.1, pe_erase b h.2]
 | .slice c a b, h => by
  have h := (Bool.and_eq_true _ _).mp h
  have h2 := (Bool.and_eq_true _ _).mp h.2
  show pq3 (pe G c) (pe G a) (pe G b) _ _ = pq3 (pe G c) (pe G a) (pe G b) _ _
  unfold pq3; rw [pe_erase c h.1, pe_erase a h2.1, pe_erase b h2.2]
 | .nop, _ => rfl
 | .part a, h => by
  show pq1 (pe G a) partP _ = pq1 (pe G a) partP _
  unfold pq1; rw [pe_erase a h]
 | .call f a ds, h => by
  show pq1 (pe G a) (callP (G f) ds) _ = pq1 (pe G a) (callP (G f) ds) _
  unfold pq1; rw [pe_erase a h]
 | .len a, h => by
  show pq1 (pe G a) lenP _ = pq1 (pe G a) lenP _
  unfold pq1; rw [pe_erase a h]
 | .tupleOf a, h => by
  show pq1 (pe G a) tupleP _ = pq1 (pe G a) tupleP _
  unfold pq1; rw [pe_erase a h]
 | .listOf a, h => by
  show pq1 (pe G a) listP _ = pq1 (pe G a) listP _
  unfold pq1; rw [pe_erase a h]
 | .intOf _, _ => rfl
 | .min a b, h => by
  have h := (Bool.and_eq_true _ _).mp h
  show pq2 (pe G a) (pe G b) minP _ = pq2 (pe G a) (pe G b) minP _
  unfold pq2; rw [pe_erase a h.1, pe_erase b h.2]
 | .max a b, h => by
  have h := (Bool.and_eq_true _ _).mp h
  show pq2 (pe G a) (pe G b) maxP _ = pq2 (pe G a) (pe G b) maxP _
  unfold pq2; rw [pe_erase a h.1, pe_erase b h.2]
 | .isi T a, h => by
  show pq1 (pe G a) (isiP T) _ = pq1 (pe G a) (isiP T) _
  unfold pq1; rw [pe_erase a h]
 | .rs _ _, _ => rfl
 | .inv _, _ => rfl
 | .tupR _, _ => rfl
 | .look _ _ _, _ => rfl
 | .dget _ _ _, _ => rfl
 | .inR ng a b, h => by
  have h := (Bool.and_eq_true _ _).mp h
  show pq2 (pe G a) (pe G b) (inRP ng) _ = pq2 (pe G a) (pe G b) (inRP ng) _
  unfold pq2; rw [pe_erase a h.1, pe_erase b h.2]
 | .all _, _ => rfl
 | .any _, _ => rfl
 | .comp rng fr it elt cnd, h => by
  have h := (Bool.and_eq_true _ _).mp h
  have e : ∀ b p, penvG b (eraseM M π) fr p = penvG b π fr p := fun b p => by
   unfold penvG
   congr 1
   refine List.map_congr_left fun i hi => ?_
   have := List.all_eq_true.mp h.2 i hi
   rw [erase_at (by simpa using this)]
  show pcompR pone (walkP rng) fr (pe G it) (pe G elt) (pe G cnd) _ = pcompR pone (walkP rng) fr (pe G it) (pe G elt) (pe G cnd) _
  unfold pcompR
  rw [pe_erase it h.1]
  simp only [e]
 | .comp2 _ _ _ _, _ => rfl
 | .compT _ _ _ _, _ => rfl
 | .new _, _ => rfl
 | .meth _ _ _, _ => rfl
 | .tix _ _, _ => rfl
 | .isc _ _, _ => rfl
 | .lstR _ _, _ => rfl
 | .dict _ _, _ => rfl
 | .dnew, _ => rfl
 | .strOf a, h => by
  show pq1 (pe G a) strOP _ = pq1 (pe G a) strOP _
  unfold pq1; rw [pe_erase a h]
 | .joinE a b, h => by
  have h := (Bool.and_eq_true _ _).mp h
  show pq2 (pe G a) (pe G b) joinP _ = pq2 (pe G a) (pe G b) joinP _
  unfold pq2; rw [pe_erase a h.1, pe_erase b h.2]
 | .starts a b, h => by
  have h := (Bool.and_eq_true _ _).mp h
  show pq2 (pe G a) (pe G b) startsP _ = pq2 (pe G a) (pe G b) startsP _
  unfold pq2; rw [pe_erase a h.1, pe_erase b h.2]
 | .rng2 a b, h => by
  have h := (Bool.and_eq_true _ _).mp h
  show pq2 (pe G a) (pe G b) rng2P _ = pq2 (pe G a) (pe G b) rng2P _
  unfold pq2; rw [pe_erase a h.1, pe_erase b h.2]
end Dp


namespace Dp
open PySem
inductive Own (p : P) (o : Option (Option D)) (ps : List P) (j : Nat) : Prop where
 | l (a : p = .lst true ps) (b : o = some (some (.lst j)))
 | d (a : p = .dic true ps) (b : o = some (some (.dic j)))
def Rf (o : Option (Option D)) (j : Nat) : Prop := o = some (some (.lst j)) ∨ o = some (some (.dic j))
theorem Own.rf {p : P} {o : Option (Option D)} {ps : List P} {j : Nat} : Own p o ps j → Rf o j
 | .l _ b => .inl b
 | .d _ b => .inr b
theorem Rf.inj {o : Option (Option D)} {i j : Nat} (h : Rf o i) (h' : Rf o j) : i = j := by
 rcases h with h | h <;> rcases h' with h' | h' <;> (rw [h] at h'; cases h'; try rfl)
theorem Own.lst {m : Bool} {xs : List P} {o : Option (Option D)} {ps : List P} {j : Nat} : Own (.lst m xs) o ps j → (m = true ∧ xs = ps) ∧ o = some (some (.lst j))
 | .l a b => by cases a; exact ⟨⟨rfl, rfl⟩, b⟩
 | .d a b => nomatch a
theorem Own.dic {m : Bool} {xs : List P} {o : Option (Option D)} {ps : List P} {j : Nat} : Own (.dic m xs) o ps j → (m = true ∧ xs = ps) ∧ o = some (some (.dic j))
 | .l a b => nomatch a
 | .d a b => by cases a; exact ⟨⟨rfl, rfl⟩, b⟩
theorem Own.rel {fz : Fz} {st : Store} {p : P} {o : Option (Option D)} {ps : List P} {ds : List D} {j : Nat} (h : Own p o ps j) (hz : fz j) (e : st[j]? = some (true, ds)) (r : Rels fz st ps ds) : ∃ d, o = some (some d) ∧ Rel fz st p d := by
 cases h with
 | l a b => rw [a]; exact ⟨_, b, .lst hz e r⟩
 | d a b => rw [a]; exact ⟨_, b, .dic hz e r⟩
structure Inv (n0 : Nat) (M : List Nat) (fz : Fz) (st : Store) (π : PEnv) (ρ : Env) : Prop where
 bd : Bd fz st
 lo : n0 ≤ st.length
 len : π.length = ρ.length
 fr : ∀ (i : Nat) (p : P), M.contains i = false → π[i]? = some (some p) → ∃ d, ρ[i]? = some (some d) ∧ Rel fz st p d
 mt : ∀ (i : Nat) (p : P), M.contains i = true → π[i]? = some (some p) → ∃ (j : Nat) (ps : List P) (ds : List D), Own p ρ[i]? ps j ∧ Rf ρ[i]? j ∧ st[j]? = some (true, ds) ∧ ¬ fz j ∧ n0 ≤ j ∧ Rels fz st ps ds
 ne : ∀ (i i' : Nat) (p p' : P) (j : Nat), M.contains i = true → M.contains i' = true → π[i]? = some (some p) → π[i']? = some (some p') → Rf ρ[i]? j → Rf ρ[i']? j → i = i'
structure Later (n0 : Nat) (fz : Fz) (st : Store) (fz' : Fz) (st' : Store) : Prop where
 low : ∀ i, i < n0 → st'[i]? = st[i]?
 frz : ∀ i, fz i → st'[i]? = st[i]?
 sub : ∀ i, fz i → fz' i
 new : ∀ i, fz' i → fz i ∨ n0 ≤ i
 len : st.length ≤ st'.length
section
variable {n0 : Nat} {M : List Nat} {fz fz' fz1 fz2 : Fz} {st st' st1 st2 : Store} {π : PEnv} {ρ : Env}
theorem Later.refl : Later n0 fz st fz st := ⟨fun _ _ => rfl, fun _ _ => rfl, fun _ h => h, fun _ h => .inl h, Nat.le_refl _⟩
theorem Later.trans (x : Later n0 fz st fz1 st1) (y : Later n0 fz1 st1 fz2 st2) : Later n0 fz st fz2 st2 :=
 ⟨fun i h => (y.low i h).trans (x.low i h), fun i h => (y.frz i (x.sub i h)).trans (x.frz i h), fun i h => y.sub i (x.sub i h), fun i h => (y.new i h).elim (x.new i) .inr, Nat.le_trans x.len y.len⟩
theorem Next.later (h : n0 ≤ st.length) (b : Bd fz st) (x : Next fz st fz' st') : Later n0 fz st fz' st' :=
 ⟨fun i hi => x.old i (Nat.lt_of_lt_of_le hi h), fun i hi => x.old i (b i hi), x.sub, fun i hi => (x.new i hi).elim .inl fun z => .inr (Nat.le_trans h z), x.len⟩
theorem lt_of_get {α : Type} {l : List α} {i : Nat} {x : α} (h : l[i]? = some x) : i < l.length := (List.getElem?_eq_some_iff.mp h).1
theorem Inv.next (I : Inv n0 M fz st π ρ) (x : Next fz st fz' st') : Inv n0 M fz' st' π ρ :=
 ⟨x.bd, Nat.le_trans I.lo x.len, I.len, fun i p h e => let ⟨d, e1, r⟩ := I.fr i p h e; ⟨d, e1, r.next I.bd x⟩, fun i p h e => by
  obtain ⟨j, ps, ds, e1, e2, e3, e4, e5, r⟩ := I.mt i p h e
  have hj := lt_of_get e3
  exact ⟨j, ps, ds, e1, e2, (x.old j hj).trans e3, fun z => (x.new j z).elim e4 fun z => absurd hj (by omega), e5, r.next I.bd x⟩, I.ne⟩
theorem Inv.erase (I : Inv n0 M fz st π ρ) : EnvAll fz st (eraseM M π) ρ := fun i p e => let ⟨h1, h2⟩ := erase_in e; I.fr i p h1 h2
noncomputable def fzM (M : List Nat) (fz : Fz) (π : PEnv) (ρ : Env) : Fz := fun i => fz i ∨ ∃ (k : Nat) (p : P), M.contains k = true ∧ π[k]? = some (some p) ∧ Rf ρ[k]? i
theorem Inv.bdM (I : Inv n0 M fz st π ρ) : Bd (fzM M fz π ρ) st := by
 rintro i (h | ⟨k, p, hk, e, e'⟩)
 ·exact I.bd i h
 ·obtain ⟨j, ps, ds, e1, e2, e3, e4, e5, r⟩ := I.mt k p hk e
  cases e'.inj e2
  exact lt_of_get e3
theorem Inv.all (I : Inv n0 M fz st π ρ) : EnvAll (fzM M fz π ρ) st π ρ := by
 intro i p e
 cases h : M.contains i with
 | false =>
  obtain ⟨d, e1, r⟩ := I.fr i p h e
  exact ⟨d, e1, r.mono (fun _ z => .inl z) fun _ _ => rfl⟩
 | true =>
  obtain ⟨j, ps, ds, e1, e2, e3, e4, e5, r⟩ := I.mt i p h e
  exact e1.rel (.inr ⟨i, _, h, e, e2⟩) e3 (r.mono (fun _ z => .inl z) fun _ _ => rfl)
theorem ev_keep {F : Nat → Fn} {G : PFn} (hF : FnRel F G) {e : CE} {p : P} (I : Inv n0 M fz st π ρ) (h : pe G e π = some p) (k : keepOk M e p = true) : Gives fz st (ev F e ρ st) p := by
 unfold keepOk at k
 rw [Bool.or_eq_true] at k
 rcases k with k | k
 ·rw [← pe_erase e k] at h
  exact sound_pe hF e _ p h fz st ρ I.bd I.erase
 ·obtain ⟨d, st', fz', e1, n1, r1⟩ := sound_pe hF e _ p h _ st ρ I.bdM I.all
  exact ⟨d, st', fz, e1, n1.small I.bd, r1.ofNoL k⟩
theorem ev_fresh {F : Nat → Fn} {G : PFn} (hF : FnRel F G) {e : CE} {m : Bool} {xs : List P} (I : Inv n0 M fz st π ρ) (h : pe G e π = some (.lst m xs)) (hf : isFresh e = true) (k : (noM M e || noLs xs) = true) :
  ∃ j ds st' fz1, ev F e ρ st = some (.lst j, st') ∧ st'[j]? = some (m, ds) ∧ Next fz st fz1 st' ∧ ¬ fz1 j ∧ st.length ≤ j ∧ Rels fz1 st' xs ds := by
 rw [Bool.or_eq_true] at k
 rcases k with k | k
 ·rw [← pe_erase e k] at h
  exact sound_pf hF e hf _ m xs h fz st ρ I.bd I.erase
 ·obtain ⟨j, ds, st', fz1, e1, e2, n1, hn, hl, r⟩ := sound_pf hF e hf _ m xs h _ st ρ I.bdM I.all
  exact ⟨j, ds, st', fz, e1, e2, n1.small I.bd, fun z => absurd (I.bd j z) (by omega), hl, r.ofNoL k⟩
theorem ev_freshO {F : Nat → Fn} {G : PFn} (hF : FnRel F G) {e : CE} {p : P} (I : Inv n0 M fz st π ρ) (h : pe G e π = some p) (k : freshOk M e p = true) :
  ∃ d j ps ds st' fz1, (ev F e ρ st = some (d, st') ∧ Own p (some (some d)) ps j) ∧ st'[j]? = some (true, ds) ∧ Next fz st fz1 st' ∧ ¬ fz1 j ∧ st.length ≤ j ∧ Rels fz1 st' ps ds := by
 unfold freshOk at k
 split at k
 ·rw [Bool.and_eq_true] at k
  obtain ⟨j, ds, st', fz1, e1, r⟩ := ev_fresh hF I h k.1 k.2
  exact ⟨_, j, _, ds, st', fz1, ⟨e1, .l rfl rfl⟩, r⟩
 ·cases k
theorem ev_freshK {F : Nat → Fn} {G : PFn} (hF : FnRel F G) {e : CE} {p : P} (I : Inv n0 M fz st π ρ) (h : pe G e π = some p) (k : freshOk M e p = true) : Gives fz st (ev F e ρ st) p := by
 obtain ⟨d, j, ps, ds, st', fz1, ⟨e1, ow⟩, e2, n1, hn, hl, r⟩ := ev_freshO hF I h k
 obtain ⟨d', e3, r'⟩ := ow.rel (fz := fun i => fz1 i ∨ i = j) (.inr rfl) e2 (r.mono (fun _ z => .inl z) fun _ _ => rfl)
 cases e3
 exact ⟨d, st', fun i => fz1 i ∨ i = j, e1, ⟨n1.old, n1.len, fun i z => .inl (n1.sub i z), fun i z => z.elim (n1.new i) fun z => by rw [z]; exact .inr hl, fun i z => z.elim (n1.bd i) fun z => by rw [z]; exact lt_of_get e2⟩, r'⟩
theorem set_get {α : Type} {l : List (Option α)} {i k : Nat} {x y : α} (h : (l.set i (some x))[k]? = some (some y)) : (k = i ∧ y = x ∧ i < l.length) ∨ (k ≠ i ∧ l[k]? = some (some y)) := by
 rw [List.getElem?_set] at h
 split at h
 ·rename_i e
  subst e
  split at h
  ·rename_i hl
   cases h
   exact .inl ⟨rfl, rfl, hl⟩
  ·cases h
 ·rename_i e
  exact .inr ⟨fun z => e z.symm, h⟩
theorem set_at {α : Type} {l : List (Option α)} {i : Nat} {x : α} (h : i < l.length) : (l.set i (some x))[i]? = some (some x) := by rw [List.getElem?_set, if_pos rfl, if_pos h]
theorem set_else {α : Type} {l : List (Option α)} {i k : Nat} {x : α} (h : k ≠ i) : (l.set i (some x))[k]? = l[k]? := by rw [List.getElem?_set, if_neg (fun z => h z.symm)]
theorem Inv.set {i : Nat} {p : P} {d : D} (I : Inv n0 M fz st π ρ) (h : M.contains i = false) (r : Rel fz st p d) : Inv n0 M fz st (setP π i p) (setE ρ i d) := by
 unfold setP setE
 refine ⟨I.bd, I.lo, by rw [List.length_set, List.length_set]; exact I.len, fun k q hk e => ?_, fun k q hk e => ?_, fun k k' q q' j hk hk' e e' e1 e1' => ?_⟩
 ·rcases set_get e with ⟨rfl, rfl, hl⟩ | ⟨hn, e⟩
  ·exact ⟨d, set_at (by rw [← I.len]; exact hl), r⟩
  ·rw [set_else hn]
   exact I.fr k q hk e
 ·rcases set_get e with ⟨rfl, rfl, hl⟩ | ⟨hn, e⟩
  ·rw [h] at hk; cases hk
  ·rw [set_else hn]
   exact I.mt k q hk e
 ·rcases set_get e with ⟨rfl, rfl, hl⟩ | ⟨hn, e⟩
  ·rw [h] at hk; cases hk
  ·rcases set_get e' with ⟨rfl, rfl, hl⟩ | ⟨hn', e'⟩
   ·rw [h] at hk'; cases hk'
   ·rw [set_else hn] at e1
    rw [set_else hn'] at e1'
    exact I.ne k k' q q' j hk hk' e e' e1 e1'
theorem Inv.setM {i j : Nat} {p : P} {d : D} {ps : List P} {ds : List D} (I : Inv n0 M fz st π ρ) (h : M.contains i = true) (ow : Own p (some (some d)) ps j) (hs : st[j]? = some (true, ds)) (hz : ¬ fz j) (hl : n0 ≤ j) (r : Rels fz st ps ds)
  (hn : ∀ (k : Nat) (p : P), M.contains k = true → π[k]? = some (some p) → ¬ Rf ρ[k]? j) : Inv n0 M fz st (setP π i p) (setE ρ i d) := by
 unfold setP setE
 refine ⟨I.bd, I.lo, by rw [List.length_set, List.length_set]; exact I.len, fun k q hk e => ?_, fun k q hk e => ?_, fun k k' q q' j' hk hk' e e' e1 e1' => ?_⟩
 ·rcases set_get e with ⟨rfl, rfl, hl⟩ | ⟨hn, e⟩
  ·rw [h] at hk; cases hk
  ·rw [set_else hn]
   exact I.fr k q hk e
 ·rcases set_get e with ⟨rfl, rfl, hl'⟩ | ⟨hn, e⟩
  ·have z := set_at (x := d) (show k < ρ.length by rw [← I.len]; exact hl')
   exact ⟨j, ps, ds, by rw [z]; exact ow, by rw [z]; exact ow.rf, hs, hz, hl, r⟩
  ·rw [set_else hn]
   exact I.mt k q hk e
 ·rcases set_get e with ⟨a1, a2, a3⟩ | ⟨a1, a2⟩
  ·rcases set_get e' with ⟨b1, b2, b3⟩ | ⟨b1, b2⟩
   ·rw [a1, b1]
   ·rw [a1, set_at (by rw [← I.len]; exact a3)] at e1
    cases ow.rf.inj e1
    rw [set_else b1] at e1'
    exact absurd e1' (hn k' q' hk' b2)
  ·rcases set_get e' with ⟨b1, b2, b3⟩ | ⟨b1, b2⟩
   ·rw [b1, set_at (by rw [← I.len]; exact b3)] at e1'
    cases ow.rf.inj e1'
    rw [set_else a1] at e1
    exact absurd e1 (hn k q hk a2)
   ·rw [set_else a1] at e1
    rw [set_else b1] at e1'
    exact I.ne k k' q q' j' hk hk' a2 b2 e1 e1'
theorem Inv.write {i j : Nat} {p0 p1 : P} {ps : List P} {ds : List D} (I : Inv n0 M fz st π ρ) (h : M.contains i = true) (e0 : π[i]? = some (some p0)) (ow : Own p1 ρ[i]? ps j) (hz : ¬ fz j) (hl : n0 ≤ j) (hj : j < st.length) (r : Rels fz st ps ds) :
  Inv n0 M fz (st.set j (true, ds)) (setP π i p1) ρ ∧ Later n0 fz st fz (st.set j (true, ds)) := by
 have same : ∀ k, fz k → (st.set j (true, ds))[k]? = st[k]? := fun k hk => by
  rw [List.getElem?_set, if_neg (fun z => hz (by rw [z]; exact hk))]
 have mono : ∀ {q : P} {d : D}, Rel fz st q d → Rel fz (st.set j (true, ds)) q d := fun r => r.mono (fun _ z => z) same
 have monos : ∀ {q : List P} {d : List D}, Rels fz st q d → Rels fz (st.set j (true, ds)) q d := fun r => r.mono (fun _ z => z) same
 refine ⟨⟨fun k hk => by rw [List.length_set]; exact I.bd k hk, by rw [List.length_set]; exact I.lo, by unfold setP; rw [List.length_set]; exact I.len, fun k q hk e => ?_, fun k q hk e => ?_, fun k k' q q' j' hk hk' e e' e1 e1' => ?_⟩,
  ⟨fun k hk => by rw [List.getElem?_set, if_neg (by omega)], same, fun _ z => z, fun _ z => .inl z, by rw [List.length_set]; exact Nat.le_refl _⟩⟩
 ·unfold setP at e
  rcases set_get e with ⟨rfl, rfl, _⟩ | ⟨hn, e⟩
  ·rw [h] at hk; cases hk
  ·obtain ⟨d, e1, r1⟩ := I.fr k q hk e
   exact ⟨d, e1, mono r1⟩
 ·unfold setP at e
  rcases set_get e with ⟨rfl, rfl, _⟩ | ⟨hn, e⟩
  ·exact ⟨j, ps, ds, ow, ow.rf, by rw [List.getElem?_set, if_pos rfl, if_pos hj], hz, hl, monos r⟩
  ·obtain ⟨j', qs, es, f1, f2, f3, f4, f5, f6⟩ := I.mt k q hk e
   refine ⟨j', qs, es, f1, f2, ?_, f4, f5, monos f6⟩
   rw [List.getElem?_set, if_neg (fun z => hn (I.ne k i q p0 j hk h e e0 (by rw [z]; exact f2) ow.rf))]
   exact f3
 ·unfold setP at e e'
  have f : ∀ {k : Nat} {q : P}, (π.set i (some p1))[k]? = some (some q) → ∃ q', π[k]? = some (some q') := fun {k q} e => by
   rcases set_get e with ⟨rfl, _, _⟩ | ⟨_, e⟩
   ·exact ⟨_, e0⟩
   ·exact ⟨_, e⟩
  obtain ⟨_, g⟩ := f e
  obtain ⟨_, g'⟩ := f e'
  exact I.ne k k' _ _ j' hk hk' g g' e1 e1'
end
def RelF (n0 : Nat) (M : List Nat) (fz : Fz) (st : Store) : PFl → Fl → Prop
 | .nx π, .nx ρ => Inv n0 M fz st π ρ
 | .bk π, .bk ρ => Inv n0 M fz st π ρ
 | .ct π, .ct ρ => Inv n0 M fz st π ρ
 | .rt p, .rt d => Rel fz st p d ∧ Bd fz st
 | _, _ => False
def Kept (M T : List Nat) (π : PEnv) (ρ : Env) (st : Store) (π' : PEnv) (ρ' : Env) (st' : Store) : Prop :=
 ∀ (i : Nat), i ∉ T → M.contains i = true → π'[i]? = π[i]? ∧ ρ'[i]? = ρ[i]? ∧ ∀ (j : Nat) (p : P), π[i]? = some (some p) → Rf ρ[i]? j → st'[j]? = st[j]?
def KeptF (M T : List Nat) (π : PEnv) (ρ : Env) (st : Store) (r : PFl) (r' : Fl) (st' : Store) : Prop := match r, r' with
 | .nx π', .nx ρ' => Kept M T π ρ st π' ρ' st'
 | .bk π', .bk ρ' => Kept M T π ρ st π' ρ' st'
 | .ct π', .ct ρ' => Kept M T π ρ st π' ρ' st'
 | _, _ => True
theorem Kept.refl {M T : List Nat} {π : PEnv} {ρ : Env} {st : Store} : Kept M T π ρ st π ρ st := fun _ _ _ => ⟨rfl, rfl, fun _ _ _ _ => rfl⟩
theorem Kept.trans {M T T1 T2 : List Nat} {π π1 π2 : PEnv} {ρ ρ1 ρ2 : Env} {st st1 st2 : Store} (s1 : ∀ i, i ∈ T1 → i ∈ T) (s2 : ∀ i, i ∈ T2 → i ∈ T) (x : Kept M T1 π ρ st π1 ρ1 st1) (y : Kept M T2 π1 ρ1 st1 π2 ρ2 st2) : Kept M T π ρ st π2 ρ2 st2 := fun i h hm => by
 obtain ⟨a1, a2, a3⟩ := x i (fun z => h (s1 i z)) hm
 obtain ⟨b1, b2, b3⟩ := y i (fun z => h (s2 i z)) hm
 exact ⟨b1.trans a1, b2.trans a2, fun j p e e' => (b3 j p (a1.trans e) (by rw [a2]; exact e')).trans (a3 j p e e')⟩
theorem Kept.more {M T T1 : List Nat} {π π1 : PEnv} {ρ ρ1 : Env} {st st1 : Store} (s1 : ∀ i, i ∈ T1 → i ∈ T) (x : Kept M T1 π ρ st π1 ρ1 st1) : Kept M T π ρ st π1 ρ1 st1 := fun i h hm => x i (fun z => h (s1 i z)) hm
theorem KeptF.trans {M T T1 T2 : List Nat} {π π1 : PEnv} {ρ ρ1 : Env} {st st1 st2 : Store} {r : PFl} {r' : Fl} (s1 : ∀ i, i ∈ T1 → i ∈ T) (s2 : ∀ i, i ∈ T2 → i ∈ T) (x : Kept M T1 π ρ st π1 ρ1 st1) (y : KeptF M T2 π1 ρ1 st1 r r' st2) : KeptF M T π ρ st r r' st2 := by
 cases r <;> cases r' <;> first | trivial | exact Kept.trans s1 s2 x y
theorem KeptF.more {M T T1 : List Nat} {π : PEnv} {ρ : Env} {st st2 : Store} {r : PFl} {r' : Fl} (s1 : ∀ i, i ∈ T1 → i ∈ T) (y : KeptF M T1 π ρ st r r' st2) : KeptF M T π ρ st r r' st2 := by
 cases r <;> cases r' <;> first | trivial | exact Kept.more s1 y
theorem Next.kept {n0 : Nat} {M T : List Nat} {fz fz' : Fz} {st st' : Store} {π : PEnv} {ρ : Env} (I : Inv n0 M fz st π ρ) (x : Next fz st fz' st') : Kept M T π ρ st π ρ st' := fun i _ hm => ⟨rfl, rfl, fun j p e e' => by
 obtain ⟨j', ps, ds, e1, e2, e3, e4, e5, r⟩ := I.mt i p hm e
 cases e'.inj e2
 exact x.old j (lt_of_get e3)⟩
abbrev GivesX (n0 : Nat) (M T : List Nat) (fz : Fz) (st : Store) (π : PEnv) (ρ : Env) (x : Option (Fl × Store)) (r : PFl) : Prop := ∃ r' st' fz', x = some (r', st') ∧ Later n0 fz st fz' st' ∧ RelF n0 M fz' st' r r' ∧ KeptF M T π ρ st r r' st'
def SX (n0 : Nat) (M T : List Nat) (f : Ex) (g : PEx) : Prop := ∀ π r, g π = some r → ∀ fz st ρ, Inv n0 M fz st π ρ → GivesX n0 M T fz st π ρ (f ρ st) r
section
variable {n0 : Nat} {M T T1 T2 : List Nat} {f f1 f2 : Ex} {g g1 g2 : PEx} {F : Nat → Fn} {G : PFn}
theorem x_seq (h1 : SX n0 M T1 f1 g1) (h2 : SX n0 M T2 f2 g2) : SX n0 M (T1 ++ T2) (seqS f1 f2) (pseq g1 g2) := by
 intro π r e fz st ρ I
 have s1 : ∀ i, i ∈ T1 → i ∈ T1 ++ T2 := fun i h => List.mem_append.mpr (.inl h)
 have s2 : ∀ i, i ∈ T2 → i ∈ T1 ++ T2 := fun i h => List.mem_append.mpr (.inr h)
 unfold pseq at e
 split at e
 ·rename_i π1 q
  obtain ⟨r1, st1, fz1, e1, l1, R1, k1⟩ := h1 π _ q fz st ρ I
  cases r1 with
  | nx ρ1 =>
   obtain ⟨r2, st2, fz2, e2, l2, R2, k2⟩ := h2 π1 r e fz1 st1 ρ1 R1
   exact ⟨r2, st2, fz2, by unfold seqS; rw [e1]; exact e2, l1.trans l2, R2, KeptF.trans s1 s2 k1 k2⟩
  | _ => exact R1.elim
 ·rename_i hn
  obtain ⟨r1, st1, fz1, e1, l1, R1, k1⟩ := h1 π _ e fz st ρ I
  refine ⟨r1, st1, fz1, ?_, l1, R1, KeptF.more s1 k1⟩
  unfold seqS
  rw [e1]
  cases r with
  | nx π1 => exact absurd e (hn π1)
  | rt p => cases r1 <;> first | rfl | exact R1.elim
  | bk π1 => cases r1 <;> first | rfl | exact R1.elim
  | ct π1 => cases r1 <;> first | rfl | exact R1.elim
theorem x_ret (hF : FnRel F G) (e : CE) : SX n0 M T (retS (ev F e)) (pret (pe G e)) := by
 intro π r h fz st ρ I
 unfold pret at h
 split at h
 ·rename_i p q
  cases h
  obtain ⟨d, st', fz', e1, n1, r1⟩ := sound_pe hF e _ p q _ st ρ I.bdM I.all
  refine ⟨.rt d, st', fz', by unfold retS; rw [e1], ⟨fun i hi => n1.old i (Nat.lt_of_lt_of_le hi I.lo), fun i hi => n1.old i (I.bd i hi), fun i hi => n1.sub i (.inl hi), fun i hi => ?_, n1.len⟩, ⟨r1, n1.bd⟩, trivial⟩
  rcases n1.new i hi with (z | ⟨k, p, hk, e, e'⟩) | z
  ·exact .inl z
  ·obtain ⟨j, ps, ds, f1, f2, f3, f4, f5, r⟩ := I.mt k p hk e
   cases e'.inj f2
   exact .inr f5
  ·exact .inr (Nat.le_trans I.lo z)
 ·cases h
theorem set_noneG {α : Type} {l : List (Option α)} {j k : Nat} {x : α} (e : (l.set j none)[k]? = some (some x)) : k ≠ j ∧ l[k]? = some (some x) := by
 by_cases h : k = j
 ·subst h
  rw [List.getElem?_set] at e
  simp only [if_true] at e
  split at e <;> cases e
 ·rw [List.getElem?_set, if_neg (fun z => h z.symm)] at e
  exact ⟨h, e⟩
theorem x_mv {i j : Nat} {p : P} {π : PEnv} {fz : Fz} {st : Store} {ρ : Env} (I : Inv n0 M fz st π ρ) (hj : M.contains j = true) (hi : M.contains i = false) (q : π[j]? = some (some p)) :
  ∃ d fz', ρ[j]? = some (some d) ∧ Later n0 fz st fz' st ∧ Inv n0 M fz' st (setP (π.set j none) i p) (setE ρ i d) ∧ Kept M [i, j] π ρ st (setP (π.set j none) i p) (setE ρ i d) st := by
 obtain ⟨J, ps, ds, f1, f2, f3, f4, f5, f6⟩ := I.mt j p hj q
 have sub : ∀ k, fz k → (fz k ∨ k = J) := fun k h => .inl h
 obtain ⟨d, hd, rd⟩ := f1.rel (fz := fun k => fz k ∨ k = J) (.inr rfl) f3 (f6.mono sub fun _ _ => rfl)
 refine ⟨d, fun k => fz k ∨ k = J, hd, ⟨fun _ _ => rfl, fun _ _ => rfl, sub, fun k h => h.elim .inl fun z => .inr (by rw [z]; exact f5), Nat.le_refl _⟩, ?_, fun k hk hm => ?_⟩
 ·unfold setP setE
  refine ⟨fun k h => h.elim (I.bd k) fun z => by rw [z]; exact lt_of_get f3, I.lo, by rw [List.length_set, List.length_set, List.length_set]; exact I.len, fun k q' hk e => ?_, fun k q' hk e => ?_, fun k k' q' q'' j' hk hk' e e' e1 e1' => ?_⟩
  ·rcases set_get e with ⟨rfl, rfl, hl⟩ | ⟨hn, e⟩
   ·exact ⟨d, set_at (by rw [← I.len]; simpa using hl), rd⟩
   ·rw [set_else hn]
    obtain ⟨d, e2, r⟩ := I.fr k q' hk (set_noneG e).2
    exact ⟨d, e2, r.mono sub fun _ _ => rfl⟩
  ·rcases set_get e with ⟨rfl, rfl, hl⟩ | ⟨hn, e⟩
   ·rw [hi] at hk; cases hk
   ·rw [set_else hn]
    obtain ⟨nj, e⟩ := set_noneG e
    obtain ⟨J', ps', ds', g1, g2, g3, g4, g5, g6⟩ := I.mt k q' hk e
    refine ⟨J', ps', ds', g1, g2, g3, fun z => z.elim g4 fun z => ?_, g5, g6.mono sub fun _ _ => rfl⟩
    subst z
    exact nj (I.ne k j _ _ J' hk hj e q g2 f2)
  ·rcases set_get e with ⟨rfl, rfl, hl⟩ | ⟨hn, e⟩
   ·rw [hi] at hk; cases hk
   ·rcases set_get e' with ⟨rfl, rfl, hl⟩ | ⟨hn', e'⟩
    ·rw [hi] at hk'; cases hk'
    ·rw [set_else hn] at e1
     rw [set_else hn'] at e1'
     exact I.ne k k' _ _ j' hk hk' (set_noneG e).2 (set_noneG e').2 e1 e1'
 ·have n1 : k ≠ i := fun z => hk (by rw [z]; exact List.mem_cons_self)
  have n2 : k ≠ j := fun z => hk (by rw [z]; exact List.mem_cons_of_mem _ (List.mem_singleton.mpr rfl))
  refine ⟨?_, set_else n1, fun _ _ _ _ => rfl⟩
  unfold setP
  rw [set_else n1, List.getElem?_set, if_neg (fun z => n2 z.symm)]
theorem x_set (hF : FnRel F G) (i : Nat) (e : CE) : SX n0 M (i :: mvT e) (setS i (ev F e)) (pset M i e (pe G e)) := by
 intro π r h fz st ρ I
 have kp : ∀ {fz' : Fz} {st' : Store} {d : D} {p : P}, Next fz st fz' st' → Kept M (i :: mvT e) π ρ st (setP π i p) (setE ρ i d) st' := fun {fz' st' d p} x k hk hm => by
  have hki : k ≠ i := fun z => hk (by rw [z]; exact List.mem_cons_self)
  have := Next.kept (T := i :: mvT e) I x k hk hm
  exact ⟨set_else hki, set_else hki, this.2.2⟩
 unfold pset at h
 split at h
 ·rename_i p q
  cases hm : M.contains i with
  | true =>
   rw [hm] at h
   simp only [if_true] at h
   split at h
   ·rename_i c
    cases h
    obtain ⟨d, j, ps, ds, st', fz1, ⟨e1, ow⟩, e2, n1, hn, hl, r⟩ := ev_freshO hF I q c
    refine ⟨.nx (setE ρ i d), st', fz1, by unfold setS; rw [e1], n1.later I.lo I.bd, (I.next n1).setM hm ow e2 hn (Nat.le_trans I.lo hl) r fun k p hk e e' => ?_, kp n1⟩
    obtain ⟨j', ps, es, f1, f2, f3, f4, f5, _⟩ := I.mt k p hk e
    cases e'.inj f2
    exact absurd (lt_of_get f3) (by omega)
   ·unfold mvP at h
    split at h
    ·rw [hm, Bool.not_true, Bool.and_false] at h
     cases h
    ·cases h
  | false =>
   rw [hm] at h
   simp only [Bool.false_eq_true, if_false] at h
   split at h
   ·rename_i c
    cases h
    obtain ⟨d, st', fz', e1, n1, r1⟩ : Gives fz st (ev F e ρ st) p := ((Bool.or_eq_true _ _).mp c).elim (ev_keep hF I q) (ev_freshK hF I q)
    exact ⟨.nx (setE ρ i d), st', fz', by unfold setS; rw [e1], n1.later I.lo I.bd, (I.next n1).set hm r1, kp n1⟩
   ·unfold mvP at h
    split at h
    ·rename_i j _
     split at h
     ·rename_i c
      cases h
      rw [Bool.and_eq_true] at c
      have q : pvar j π = some p := q
      unfold pvar at q
      split at q
      ·rename_i p' q'
       cases q
       obtain ⟨d, fz', e1, l1, I1, k1⟩ := x_mv I c.1 hm q'
       refine ⟨.nx (setE ρ i d), st, fz', ?_, l1, I1, k1⟩
       show setS i (evVar j) ρ st = _
       unfold setS evVar
       simp only [e1]
      ·cases q
     ·cases h
    ·cases h
 ·cases h
theorem x_set2 (hF : FnRel F G) (i j : Nat) (e : CE) : SX n0 M [i, j] (set2S i j (ev F e)) (pset2 M i j e (pe G e)) := by
 intro π r h fz st ρ I
 have kp : ∀ {fz' : Fz} {st' : Store} {d d' : D} {p p' : P}, Next fz st fz' st' → Kept M [i, j] π ρ st (setP (setP π i p) j p') (setE (setE ρ i d) j d') st' := fun {fz' st' d d' p p'} x k hk hm => by
  have hki : k ≠ i := fun z => hk (by rw [z]; exact List.mem_cons_self)
  have hkj : k ≠ j := fun z => hk (by rw [z]; exact List.mem_cons_of_mem _ List.mem_cons_self)
  have := Next.kept (T := [i, j]) I x k hk hm
  exact ⟨(set_else hkj).trans (set_else hki), (set_else hkj).trans (set_else hki), this.2.2⟩
 unfold pset2 at h
 split at h
 ·rename_i x y q
  split at h
  ·rename_i c
   cases h
   rw [Bool.and_eq_true, Bool.and_eq_true] at c
   have hi : M.contains i = false := by simpa using c.1.1
   have hj : M.contains j = false := by simpa using c.1.2
   obtain ⟨d, st', fz', e1, n1, r1⟩ := ev_keep hF I q c.2
   cases r1 with
   | tup rr =>
    cases rr with
    | cons a rr =>
     cases rr with
     | cons a' rr =>
      cases rr
      exact ⟨.nx _, st', fz', by unfold set2S; rw [e1], n1.later I.lo I.bd, ((I.next n1).set hi a).set hj a', kp n1⟩
  ·cases h
 ·cases h
theorem x_set3 (hF : FnRel F G) (i j l : Nat) (e : CE) : SX n0 M [i, j, l] (set3S i j l (ev F e)) (pset3 M i j l e (pe G e)) := by
 intro π r h fz st ρ I
 have kp : ∀ {fz' : Fz} {st' : Store} {d d' d2 : D} {p p' p2 : P}, Next fz st fz' st' → Kept M [i, j, l] π ρ st (setP (setP (setP π i p) j p') l p2) (setE (setE (setE ρ i d) j d') l d2) st' := fun {fz' st' d d' d2 p p' p2} x k hk hm => by
  have hki : k ≠ i := fun z => hk (by rw [z]; exact List.mem_cons_self)
  have hkj : k ≠ j := fun z => hk (by rw [z]; exact List.mem_cons_of_mem _ List.mem_cons_self)
  have hkl : k ≠ l := fun z => hk (by rw [z]; exact List.mem_cons_of_mem _ (List.mem_cons_of_mem _ List.mem_cons_self))
  have := Next.kept (T := [i, j, l]) I x k hk hm
  exact ⟨(set_else hkl).trans ((set_else hkj).trans (set_else hki)), (set_else hkl).trans ((set_else hkj).trans (set_else hki)), this.2.2⟩
 unfold pset3 at h
 split at h
 ·rename_i x y z q
  split at h
  ·rename_i c
   cases h
   rw [Bool.and_eq_true, Bool.and_eq_true, Bool.and_eq_true] at c
   have hi : M.contains i = false := by simpa using c.1.1.1
   have hj : M.contains j = false := by simpa using c.1.1.2
   have hl : M.contains l = false := by simpa using c.1.2
   obtain ⟨d, st', fz', e1, n1, r1⟩ := ev_keep hF I q c.2
   cases r1 with
   | tup rr =>
    cases rr with
    | cons a rr =>
     cases rr with
     | cons a' rr =>
      cases rr with
      | cons a2 rr =>
       cases rr
       exact ⟨.nx _, st', fz', by unfold set3S; rw [e1], n1.later I.lo I.bd, (((I.next n1).set hi a).set hj a').set hl a2, kp n1⟩
  ·cases h
 ·cases h
theorem x_act (hF : FnRel F G) (e : CE) : SX n0 M [] (actS (ev F e)) (pact M e (pe G e)) := by
 intro π r h fz st ρ I
 unfold pact at h
 split at h
 ·rename_i p q
  split at h
  ·rename_i c
   cases h
   obtain ⟨d, st', fz', e1, n1, r1⟩ := ev_keep hF I q c
   exact ⟨.nx ρ, st', fz', by unfold actS; rw [e1], n1.later I.lo I.bd, I.next n1, Next.kept I n1⟩
  ·cases h
 ·cases h
theorem x_app (hF : FnRel F G) (i : Nat) (e : CE) : SX n0 M [i] (appS i (ev F e)) (papp M i e (pe G e)) := by
 intro π r h fz st ρ I
 unfold papp at h
 split at h
 ·rename_i xs q0
  split at h
  ·rename_i p q
   split at h
   ·rename_i c
    cases h
    rw [Bool.and_eq_true, Bool.and_eq_true] at c
    obtain ⟨⟨hm, hk⟩, hz⟩ := c
    have hz := of_decide_eq_true hz
    obtain ⟨d, st', fz', e1, n1, r1⟩ := ev_keep hF I q hk
    have I1 := I.next n1
    obtain ⟨j, ps, ds, f1, f2, f3, f4, f5, f6⟩ := I1.mt i _ hm q0
    obtain ⟨⟨_, rfl⟩, f0⟩ := f1.lst
    obtain ⟨I2, l2⟩ := I1.write hm q0 (.l rfl f0) f4 f5 (lt_of_get f3) (f6.append (.cons r1 .nil))
    refine ⟨.nx ρ, _, fz', ?_, (n1.later I.lo I.bd).trans l2, I2, fun k hk2 hm2 => ?_⟩
    ·unfold appS
     rw [f0]
     simp only [e1]
     unfold apnd
     simp only [f3]
     rw [if_pos (by rw [← f6.length]; exact hz)]
    ·have hki : k ≠ i := fun z => hk2 (by rw [z]; exact List.mem_singleton.mpr rfl)
     have kk := Next.kept (T := [i]) I n1 k hk2 hm2
     refine ⟨set_else hki, rfl, fun j' p' e e' => ?_⟩
     rw [← kk.2.2 j' p' e e', List.getElem?_set, if_neg (fun z => hki (I.ne k i p' _ j hm2 hm e q0 (by rw [z]; exact e') f2))]
   ·cases h
  ·cases h
 ·cases h
theorem x_ext (hF : FnRel F G) (i : Nat) (e : CE) : SX n0 M [i] (extS i (ev F e)) (pext M i e (pe G e)) := by
 intro π r h fz st ρ I
 unfold pext at h
 split at h
 ·rename_i xs q0
  split at h
  ·rename_i ys q
   split at h
   ·rename_i c
    cases h
    rw [Bool.and_eq_true, Bool.and_eq_true] at c
    obtain ⟨⟨hm, hk⟩, hz⟩ := c
    have hz := of_decide_eq_true hz
    obtain ⟨d, st', fz', e1, n1, r1⟩ := ev_keep hF I q (show keepOk M e _ = true by unfold keepOk; rw [hk, Bool.true_or])
    have I1 := I.next n1
    obtain ⟨j, ps, ds, f1, f2, f3, f4, f5, f6⟩ := I1.mt i _ hm q0
    obtain ⟨⟨_, rfl⟩, f0⟩ := f1.lst
    cases r1 with
    | @lst jb _ _ db zb sb rb =>
     obtain ⟨I2, l2⟩ := I1.write hm q0 (.l rfl f0) f4 f5 (lt_of_get f3) (f6.append rb)
     refine ⟨.nx ρ, _, fz', ?_, (n1.later I.lo I.bd).trans l2, I2, fun k hk2 hm2 => ?_⟩
     ·unfold extS
      rw [f0]
      simp only [e1]
      unfold exnd
      simp only [f3, sb]
      rw [if_pos (by rw [← f6.length, ← rb.length]; exact hz)]
     ·have hki : k ≠ i := fun z => hk2 (by rw [z]; exact List.mem_singleton.mpr rfl)
      have kk := Next.kept (T := [i]) I n1 k hk2 hm2
      refine ⟨set_else hki, rfl, fun j' p' e e' => ?_⟩
      rw [← kk.2.2 j' p' e e', List.getElem?_set, if_neg (fun z => hki (I.ne k i p' _ j hm2 hm e q0 (by rw [z]; exact e') f2))]
   ·cases h
  ·cases h
 ·cases h
theorem x_put (hF : FnRel F G) (i : Nat) (e k : CE) : SX n0 M [i] (putS i (ev F k) (ev F e)) (pput M i e (pe G k) (pe G e)) := by
 intro π r h fz st ρ I
 unfold pput at h
 split at h
 ·rename_i p q
  split at h
  ·rename_i xs q0
   split at h
   ·rename_i a qa
    split at h
    ·rename_i b qb
     split at h
     ·rename_i c
      cases h
      rw [Bool.and_eq_true] at c
      obtain ⟨hm, hk⟩ := c
      obtain ⟨d, st', fz', e1, n1, r1⟩ := ev_keep hF I q hk
      have I1 := I.next n1
      obtain ⟨d2, st2, fz2, e2, n2, r2⟩ := ev_keep hF I1 qa (by unfold keepOk; rw [show noL (.int a) = true from rfl, Bool.or_true])
      cases r2
      have I2 := I1.next n2
      obtain ⟨j, ps, ds, f1, f2, f3, f4, f5, f6⟩ := I2.mt i _ hm q0
      obtain ⟨⟨_, rfl⟩, f0⟩ := f1.lst
      obtain ⟨I3, l3⟩ := I2.write hm q0 (.l rfl f0) f4 f5 (lt_of_get f3) (f6.set (r1.next n1.bd n2) b)
      refine ⟨.nx ρ, _, fz2, ?_, ((n1.trans n2).later I.lo I.bd).trans l3, I3, fun k' hk2 hm2 => ?_⟩
      ·unfold putS
       rw [e1]
       simp only [f0, e2]
       unfold storeAt
       simp only [f3]
       rw [← f6.length, qb]
      ·have hki : k' ≠ i := fun z => hk2 (by rw [z]; exact List.mem_singleton.mpr rfl)
       have kk := Next.kept (T := [i]) I (n1.trans n2) k' hk2 hm2
       refine ⟨set_else hki, rfl, fun j' p' e e' => ?_⟩
       rw [← kk.2.2 j' p' e e', List.getElem?_set, if_neg (fun z => hki (I.ne k' i p' _ j hm2 hm e q0 (by rw [z]; exact e') f2))]
     ·cases h
    ·cases h
   ·cases h
  ·cases h
 ·cases h
theorem x_ite (hF : FnRel F G) (c : CE) (h1 : SX n0 M T1 f1 g1) (h2 : SX n0 M T2 f2 g2) : SX n0 M (T1 ++ T2) (iteS (ev F c) f1 f2) (pite (pe G c) g1 g2) := by
 intro π r e fz st ρ I
 have s1 : ∀ i, i ∈ T1 → i ∈ T1 ++ T2 := fun i h => List.mem_append.mpr (.inl h)
 have s2 : ∀ i, i ∈ T2 → i ∈ T1 ++ T2 := fun i h => List.mem_append.mpr (.inr h)
 unfold pite at e
 split at e
 ·rename_i q
  obtain ⟨d, st', fz', e1, n1, r1⟩ := ev_keep hF I q (by unfold keepOk; rw [show noL (.bl true) = true from rfl, Bool.or_true])
  cases r1
  obtain ⟨r2, st2, fz2, e2, l2, R2, k2⟩ := h1 π r e fz' st' ρ (I.next n1)
  exact ⟨r2, st2, fz2, by unfold iteS; rw [e1]; exact e2, (n1.later I.lo I.bd).trans l2, R2, KeptF.trans (T1 := T1) s1 s1 (Next.kept I n1) k2⟩
 ·rename_i q
  obtain ⟨d, st', fz', e1, n1, r1⟩ := ev_keep hF I q (by unfold keepOk; rw [show noL (.bl false) = true from rfl, Bool.or_true])
  cases r1
  obtain ⟨r2, st2, fz2, e2, l2, R2, k2⟩ := h2 π r e fz' st' ρ (I.next n1)
  exact ⟨r2, st2, fz2, by unfold iteS; rw [e1]; exact e2, (n1.later I.lo I.bd).trans l2, R2, KeptF.trans (T1 := T2) s2 s2 (Next.kept I n1) k2⟩
 ·cases e
abbrev TurnR (n0 : Nat) (M T : List Nat) (B : P → PEnv → Option PFl) (B' : D → Env → Store → Option (Fl × Store)) : Prop := ∀ x d π r, B x π = some r → ∀ fz st ρ, Inv n0 M fz st π ρ → Rel fz st x d → GivesX n0 M T fz st π ρ (B' d ρ st) r
theorem Later.rels {fz fz' : Fz} {st st' : Store} {ps : List P} {ds : List D} (l : Later n0 fz st fz' st') (r : Rels fz st ps ds) : Rels fz' st' ps ds := r.mono l.sub l.frz
theorem loopD_rel {B : P → PEnv → Option PFl} {B' : D → Env → Store → Option (Fl × Store)} (h : TurnR n0 M T B B') : ∀ {xs : List P} {ds : List D} {π : PEnv} {r : PFl} {fz : Fz} {st : Store} {ρ : Env}, Inv n0 M fz st π ρ → Rels fz st xs ds → loopP B xs π = some r → GivesX n0 M T fz st π ρ (loopD B' ds ρ st) r
 | _, _, π, r, fz, st, ρ, I, .nil, e => by cases e; exact ⟨.nx ρ, st, fz, rfl, Later.refl, I, Kept.refl⟩
 | x :: xs, d :: ds, π, r, fz, st, ρ, I, .cons a rs, e => by
  unfold loopP at e
  split at e
  ·rename_i π1 q
   obtain ⟨r1, st1, fz1, e1, l1, R1, k1⟩ := h x d π _ q fz st ρ I a
   cases r1 with
   | nx ρ1 =>
    obtain ⟨r2, st2, fz2, e2, l2, R2, k2⟩ := loopD_rel h (ρ := ρ1) R1 (l1.rels rs) e
    exact ⟨r2, st2, fz2, by unfold loopD; rw [e1]; exact e2, l1.trans l2, R2, KeptF.trans (fun _ z => z) (fun _ z => z) k1 k2⟩
   | _ => exact R1.elim
  ·rename_i π1 q
   obtain ⟨r1, st1, fz1, e1, l1, R1, k1⟩ := h x d π _ q fz st ρ I a
   cases r1 with
   | ct ρ1 =>
    obtain ⟨r2, st2, fz2, e2, l2, R2, k2⟩ := loopD_rel h (ρ := ρ1) R1 (l1.rels rs) e
    exact ⟨r2, st2, fz2, by unfold loopD; rw [e1]; exact e2, l1.trans l2, R2, KeptF.trans (fun _ z => z) (fun _ z => z) k1 k2⟩
   | _ => exact R1.elim
  ·rename_i π1 q
   cases e
   obtain ⟨r1, st1, fz1, e1, l1, R1, k1⟩ := h x d π _ q fz st ρ I a
   cases r1 with
   | bk ρ1 => exact ⟨.nx ρ1, st1, fz1, by unfold loopD; rw [e1], l1, R1, k1⟩
   | _ => exact R1.elim
  ·rename_i v q
   cases e
   obtain ⟨r1, st1, fz1, e1, l1, R1, k1⟩ := h x d π _ q fz st ρ I a
   cases r1 with
   | rt d' => exact ⟨.rt d', st1, fz1, by unfold loopD; rw [e1], l1, R1, trivial⟩
   | _ => exact R1.elim
  ·cases e
theorem loopL_succ {B' : D → Env → Store → Option (Fl × Store)} {a n k : Nat} {ρ : Env} {st : Store} {m : Bool} {all : List D} {d : D} (h : st[a]? = some (m, all)) (hk : all[k]? = some d) : loopL B' a (n + 1) k ρ st = (match B' d ρ st with
  | some (.nx ρ', st') => loopL B' a n (k + 1) ρ' st'
  | some (.ct ρ', st') => loopL B' a n (k + 1) ρ' st'
  | some (.bk ρ', st') => some (.nx ρ', st')
  | some (.rt v, st') => some (.rt v, st')
  | none => none) := by
 rw [loopL]; simp only [h, hk] <;> rfl
abbrev Stays (n0 : Nat) (M T : List Nat) (a : Nat) (m : Bool) (all : List D) (J : Fz → Store → PEnv → Env → Prop) : Prop :=
 (∀ fz st π ρ, J fz st π ρ → st[a]? = some (m, all)) ∧ ∀ fz st π ρ fz' st' π' ρ', Later n0 fz st fz' st' → Kept M T π ρ st π' ρ' st' → J fz st π ρ → J fz' st' π' ρ'
theorem loopL_rel {B : P → PEnv → Option PFl} {B' : D → Env → Store → Option (Fl × Store)} (h : TurnR n0 M T B B') {a : Nat} {m : Bool} {all : List D} {J : Fz → Store → PEnv → Env → Prop} (hJ : Stays n0 M T a m all J) : ∀ {xs : List P} {ds : List D} {k : Nat} {π : PEnv} {r : PFl} {fz : Fz} {st : Store} {ρ : Env},
   Inv n0 M fz st π ρ → J fz st π ρ → all.drop k = ds → Rels fz st xs ds → loopP B xs π = some r → GivesX n0 M T fz st π ρ (loopL B' a ds.length k ρ st) r
 | _, _, k, π, r, fz, st, ρ, I, j, hd, .nil, e => by
  cases e
  refine ⟨.nx ρ, st, fz, ?_, Later.refl, I, Kept.refl⟩
  show loopL B' a 0 k ρ st = _
  unfold loopL
  simp only [hJ.1 _ _ _ _ j]
  rw [if_pos (List.drop_eq_nil_iff.mp hd)]
 | x :: xs, d :: ds, k, π, r, fz, st, ρ, I, j, hd, .cons b rs, e => by
  have hk : all[k]? = some d := by
   have := congrArg (fun l => l[0]?) hd
   simpa using this
  have hd2 : all.drop (k + 1) = ds := by
   have := congrArg (fun l => l.drop 1) hd
   simpa using this
  have start : ∀ {y}, B' d ρ st = some y → loopL B' a (d :: ds).length k ρ st = (match y with
    | (.nx ρ', st') => loopL B' a ds.length (k + 1) ρ' st'
    | (.ct ρ', st') => loopL B' a ds.length (k + 1) ρ' st'
    | (.bk ρ', st') => some (.nx ρ', st')
    | (.rt v, st') => some (.rt v, st')) := fun {y} ey => by
   show loopL B' a (ds.length + 1) k ρ st = _
   rw [loopL_succ (hJ.1 _ _ _ _ j) hk, ey]
   obtain ⟨f, s⟩ := y
   cases f <;> rfl
  unfold loopP at e
  split at e
  ·rename_i π1 q
   obtain ⟨r1, st1, fz1, e1, l1, R1, k1⟩ := h x d π _ q fz st ρ I b
   cases r1 with
   | nx ρ1 =>
    obtain ⟨r2, st2, fz2, e2, l2, R2, k2⟩ := loopL_rel h hJ (ρ := ρ1) R1 (hJ.2 _ _ _ _ _ _ _ _ l1 k1 j) hd2 (l1.rels rs) e
    exact ⟨r2, st2, fz2, by rw [start e1]; exact e2, l1.trans l2, R2, KeptF.trans (fun _ z => z) (fun _ z => z) k1 k2⟩
   | _ => exact R1.elim
  ·rename_i π1 q
   obtain ⟨r1, st1, fz1, e1, l1, R1, k1⟩ := h x d π _ q fz st ρ I b
   cases r1 with
   | ct ρ1 =>
    obtain ⟨r2, st2, fz2, e2, l2, R2, k2⟩ := loopL_rel h hJ (ρ := ρ1) R1 (hJ.2 _ _ _ _ _ _ _ _ l1 k1 j) hd2 (l1.rels rs) e
    exact ⟨r2, st2, fz2, by rw [start e1]; exact e2, l1.trans l2, R2, KeptF.trans (fun _ z => z) (fun _ z => z) k1 k2⟩
   | _ => exact R1.elim
  ·rename_i π1 q
   cases e
   obtain ⟨r1, st1, fz1, e1, l1, R1, k1⟩ := h x d π _ q fz st ρ I b
   cases r1 with
   | bk ρ1 => exact ⟨.nx ρ1, st1, fz1, by rw [start e1], l1, R1, k1⟩
   | _ => exact R1.elim
  ·rename_i v q
   cases e
   obtain ⟨r1, st1, fz1, e1, l1, R1, k1⟩ := h x d π _ q fz st ρ I b
   cases r1 with
   | rt d' => exact ⟨.rt d', st1, fz1, by rw [start e1], l1, R1, trivial⟩
   | _ => exact R1.elim
  ·cases e
theorem turn1 {i : Nat} (hi : M.contains i = false) (h : SX n0 M T f g) : TurnR n0 M (i :: T) (fun d π => g (setP π i d)) (fun d ρ s => f (setE ρ i d) s) := by
 intro x d π r e fz st ρ I a
 obtain ⟨r1, st1, fz1, e1, l1, R1, k1⟩ := h _ r e fz st _ (I.set hi a)
 refine ⟨r1, st1, fz1, e1, l1, R1, ?_⟩
 refine KeptF.trans (T1 := i :: T) (T2 := T) (fun _ z => z) (fun _ z => List.mem_cons_of_mem _ z) (fun k hk hm => ?_) k1
 have hki : k ≠ i := fun z => hk (by rw [z]; exact List.mem_cons_self)
 exact ⟨set_else hki, set_else hki, fun _ _ _ _ => rfl⟩
theorem walk_rel (hF : FnRel F G) {B : P → PEnv → Option PFl} {B' : D → Env → Store → Option (Fl × Store)} {e : CE} {m : Bool} {xs : List P} {T0 : List Nat} (h : TurnR n0 M T B B') (hT : ∀ i, M.contains i = true → i ∈ T → i ∈ T0) {fz : Fz} {st : Store} {π : PEnv} {ρ : Env} {r : PFl} (I : Inv n0 M fz st π ρ)
  (q : pe G e π = some (.lst m xs)) (c : walkOk M T0 e xs = true) (el : loopP B xs π = some r) : ∃ a st1 mm ds, ev F e ρ st = some (.lst a, st1) ∧ st1[a]? = some (mm, ds) ∧ GivesX n0 M T fz st π ρ (loopL B' a ds.length 0 ρ st1) r := by
 have frozen : ∀ {a : Nat} {st1 : Store} {fz1 : Fz} {ds : List D}, ev F e ρ st = some (.lst a, st1) → Next fz st fz1 st1 → fz1 a → st1[a]? = some (m, ds) → Rels fz1 st1 xs ds → ∃ a st1 mm ds, ev F e ρ st = some (.lst a, st1) ∧ st1[a]? = some (mm, ds) ∧ GivesX n0 M T fz st π ρ (loopL B' a ds.length 0 ρ st1) r := fun {a st1 fz1 ds} e1 n1 hz hs rr => by
  refine ⟨a, st1, m, ds, e1, hs, ?_⟩
  obtain ⟨r1, st2, fz2, e2, l2, R2, k2⟩ := loopL_rel h (a := a) (m := m) (all := ds) (J := fun fz st _ _ => fz a ∧ st[a]? = some (m, ds)) ⟨fun _ _ _ _ j => j.2, fun _ _ _ _ _ _ _ _ l _ j => ⟨l.sub _ j.1, (l.frz _ j.1).trans j.2⟩⟩ (k := 0) (I.next n1) ⟨hz, hs⟩ rfl rr el
  exact ⟨r1, st2, fz2, e2, (n1.later I.lo I.bd).trans l2, R2, KeptF.trans (T1 := T) (fun _ z => z) (fun _ z => z) (Next.kept I n1) k2⟩
 unfold walkOk at c
 rw [Bool.or_eq_true, Bool.or_eq_true] at c
 rcases c with (c | c) | c
 ·obtain ⟨d, st', fz', e1, n1, r1⟩ := ev_keep hF I q (by unfold keepOk; rw [c]; rfl)
  cases r1 with
  | lst hz hs rr => exact frozen e1 n1 hz hs rr
 ·rw [Bool.and_eq_true] at c
  obtain ⟨j, ds, st', fz1, e1, e2, n1, hn, hl, rr⟩ := ev_fresh hF I q c.1 (by rw [c.2, Bool.or_true])
  have n2 : Next fz st (fun i => fz1 i ∨ i = j) st' := ⟨n1.old, n1.len, fun i z => .inl (n1.sub i z), fun i z => z.elim (n1.new i) fun z => .inr (by rw [z]; exact hl), fun i z => z.elim (n1.bd i) fun z => by rw [z]; exact lt_of_get e2⟩
  exact frozen e1 n2 (.inr rfl) e2 (rr.mono (fun _ z => .inl z) fun _ _ => rfl)
 ·split at c
  ·rename_i i
   have c : i ∉ T0 := by
    intro z
    have : T0.contains i = true := by simpa using z
    rw [this] at c; cases c
   have q : pvar i π = some (.lst m xs) := q
   unfold pvar at q
   split at q
   ·rename_i q0
    cases q
    cases hm : M.contains i with
    | false =>
     obtain ⟨d, st', fz', e1, n1, r1⟩ := ev_keep hF I (e := .var i) (p := .lst m xs) (by show pvar i π = _; unfold pvar; rw [q0]) (by show ((!M.contains i) || _) = true; rw [hm]; rfl)
     cases r1 with
     | lst hz hs rr => exact frozen e1 n1 hz hs rr
    | true =>
     obtain ⟨j, ps, ds, f1, f2, f3, f4, f5, f6⟩ := I.mt i _ hm q0
     obtain ⟨⟨rfl, rfl⟩, f0⟩ := f1.lst
     refine ⟨j, st, true, ds, by show evVar i ρ st = _; unfold evVar; rw [f0], f3, ?_⟩
     obtain ⟨r1, st2, fz2, e2, l2, R2, k2⟩ := loopL_rel h (a := j) (m := true) (all := ds) (J := fun fz st π ρ => (∃ p, π[i]? = some (some p)) ∧ Rf ρ[i]? j ∧ st[j]? = some (true, ds)) ⟨fun _ _ _ _ j => j.2.2, fun _ _ _ _ _ _ _ _ l k jj => by
      obtain ⟨⟨p, jp⟩, j2, j3⟩ := jj
      obtain ⟨k1, k2, k3⟩ := k i (fun z => c (hT i hm z)) hm
      exact ⟨⟨p, k1.trans jp⟩, by rw [k2]; exact j2, (k3 j p jp j2).trans j3⟩⟩ (k := 0) I ⟨⟨_, q0⟩, f2, f3⟩ rfl f6 el
     exact ⟨r1, st2, fz2, e2, l2, R2, k2⟩
   ·cases q
  ·cases c
theorem x_for (hF : FnRel F G) {i : Nat} {rng : Bool} {e : CE} (h : SX n0 M T f g) : SX n0 M (i :: T) (forS i rng (ev F e) f) (pfor M T i rng e (pe G e) g) := by
 intro π r hp fz st ρ I
 unfold pfor at hp
 split at hp
 ·rename_i x q
  split at hp
  ·rename_i xs qi
   split at hp
   ·rename_i c
    rw [Bool.and_eq_true] at c
    have hi : M.contains i = false := by simpa using c.1
    have kp : keepOk M e x = true := by
     cases rng with
     | false => simpa using c.2
     | true =>
      cases x with
      | int n => unfold keepOk; rw [show noL (.int n) = true from rfl, Bool.or_true]
      | _ => cases qi
    obtain ⟨d, st', fz', e1, n1, r1⟩ := ev_keep hF I q kp
    obtain ⟨ds, e2, r2⟩ := items_rel r1 qi
    obtain ⟨r3, st3, fz3, e3, l3, R3, k3⟩ := loopD_rel (turn1 hi h) (I.next n1) r2 hp
    exact ⟨r3, st3, fz3, by unfold forS; rw [e1]; simp only [e2]; exact e3, (n1.later I.lo I.bd).trans l3, R3, KeptF.trans (T1 := i :: T) (fun _ z => z) (fun _ z => z) (Next.kept I n1) k3⟩
   ·cases hp
  ·split at hp
   ·rename_i m xs _
    split at hp
    ·rename_i c
     rw [Bool.and_eq_true] at c
     have hi : M.contains i = false := by simpa using c.1
     obtain ⟨a, st1, mm, ds, e1, e2, r3, st3, fz3, e3, l3, R3, k3⟩ := walk_rel hF (turn1 hi h) (T0 := T) (fun k hk hm => by
      rcases List.mem_cons.mp hm with z | z
      ·rw [z] at hk; rw [hi] at hk; cases hk
      ·exact z) I q c.2 hp
     refine ⟨r3, st3, fz3, ?_, l3, R3, k3⟩
     unfold forS
     rw [e1]
     simp only [itemsD, e2]
     exact e3
    ·cases hp
   ·cases hp
 ·cases hp
inductive RelsQ (fz : Fz) (st : Store) : List (P × P) → List (D × D) → Prop where
 | nil : RelsQ fz st [] []
 | cons {p : P × P} {d : D × D} {ps : List (P × P)} {ds : List (D × D)} (h1 : Rel fz st p.1 d.1) (h2 : Rel fz st p.2 d.2) (r : RelsQ fz st ps ds) : RelsQ fz st (p :: ps) (d :: ds)
theorem RelsQ.zip {fz : Fz} {st : Store} : ∀ {xs ys : List P} {ds es : List D}, Rels fz st xs ds → Rels fz st ys es → RelsQ fz st (xs.zip ys) (ds.zip es)
 | _, _, _, _, .nil, _ => .nil
 | _, _, _, _, .cons _ _, .nil => .nil
 | _, _, _, _, .cons a r, .cons b s => .cons a b (RelsQ.zip r s)
theorem RelsQ.mono {fz fz' : Fz} {st st' : Store} (l : Later n0 fz st fz' st') : ∀ {ps : List (P × P)} {ds : List (D × D)}, RelsQ fz st ps ds → RelsQ fz' st' ps ds
 | _, _, .nil => .nil
 | _, _, .cons a b r => .cons (a.mono l.sub l.frz) (b.mono l.sub l.frz) (RelsQ.mono l r)
theorem sound_px (hF : FnRel F G) : ∀ s : CS, SX n0 M (touched s) (ex F s) (px G M s)
 | .skip => fun π r e fz st ρ I => by cases e; exact ⟨.nx ρ, st, fz, rfl, Later.refl, I, Kept.refl⟩
 | .brk => fun π r e fz st ρ I => by cases e; exact ⟨.bk ρ, st, fz, rfl, Later.refl, I, Kept.refl⟩
 | .cont => fun π r e fz st ρ I => by cases e; exact ⟨.ct ρ, st, fz, rfl, Later.refl, I, Kept.refl⟩
 | .stop => fun π r e => nomatch (show (none : Option PFl) = some r from e)
 | .app2 _ _ => fun π r e => nomatch (show (none : Option PFl) = some r from e)
 | .set3 i j l e => x_set3 hF i j l e
 | .act e => x_act hF e
 | .seq a b => x_seq (sound_px hF a) (sound_px hF b)
 | .ret e => x_ret hF e
 | .set i e => x_set hF i e
 | .set2 i j e => x_set2 hF i j e
 | .app i e => x_app hF i e
 | .ext i e => x_ext hF i e
 | .put i k e => x_put hF i e k
 | .dput _ _ _ _ => fun _ r e => nomatch (show (none : Option PFl) = some r from e)
 | .ite c a b => x_ite hF c (sound_px hF a) (sound_px hF b)
 | .for1 i rng it b => x_for hF (sound_px hF b)
 | .forP _ _ _ _ => fun _ r e => nomatch (show (none : Option PFl) = some r from e)
 | .forE _ _ _ _ => fun _ r e => nomatch (show (none : Option PFl) = some r from e)
 | .for3 _ _ _ => fun _ r e => nomatch (show (none : Option PFl) = some r from e)
 | .for4 _ _ _ _ _ => fun _ r e => nomatch (show (none : Option PFl) = some r from e)
 | .for2 _ _ _ _ => fun _ r e => nomatch (show (none : Option PFl) = some r from e)
 | .whl _ _ => fun _ r e => nomatch (show (none : Option PFl) = some r from e)
end
theorem inv_start {f : FD} {ps : List P} {fz : Fz} {st : Store} {ds : List D} (c : (muts f.body).all (fun i => decide (ps.length ≤ i)) = true) (b : Bd fz st) (r : Rels fz st ps ds) :
  Inv st.length (muts f.body) fz st (ps.map some ++ List.replicate (f.ns - ps.length) none) (ds.map some ++ List.replicate (f.ns - ds.length) none) := by
 have slot : ∀ (i : Nat) (q : P), (ps.map some ++ List.replicate (f.ns - ps.length) none : PEnv)[i]? = some (some q) → i < ps.length ∧ ps[i]? = some q := fun i q h => by
  by_cases hi : i < ps.length
  ·rw [List.getElem?_append_left (by simpa using hi), List.getElem?_map] at h
   refine ⟨hi, ?_⟩
   cases z : ps[i]? with
   | none => rw [z] at h; cases h
   | some y => rw [z] at h; cases h; rfl
  ·rw [List.getElem?_append_right (by simpa using hi), List.getElem?_replicate] at h
   split at h <;> cases h
 have noM : ∀ (i : Nat), i < ps.length → (muts f.body).contains i = false := fun i hi => by
  cases z : (muts f.body).contains i with
  | false => rfl
  | true =>
   have := List.all_eq_true.mp c i (by simpa using z)
   have := of_decide_eq_true this
   omega
 refine ⟨b, Nat.le_refl _, by simp [r.length], fun i q hi h => ?_, fun i q hi h => ?_, fun i i' q q' j hi hi' h h' _ _ => ?_⟩
 ·obtain ⟨h1, h2⟩ := slot i q h
  obtain ⟨d, e1, r1⟩ := r.get h2
  refine ⟨d, ?_, r1⟩
  rw [List.getElem?_append_left (by simpa [← r.length] using h1), List.getElem?_map, e1]
  rfl
 ·rw [noM i (slot i q h).1] at hi; cases hi
 ·rw [noM i (slot i q h).1] at hi; cases hi
theorem fn_rel {F : Nat → Fn} {G : PFn} (hF : FnRel F G) (f : FD) {ps : List P} {p : P} (e : fnP G f ps = some p) {fz : Fz} {st : Store} {ds : List D} (b : Bd fz st) (r : Rels fz st ps ds) : Gives fz st (fnD F f ds st) p := by
 unfold fnP at e
 split at e
 ·rename_i c
  have I : Inv st.length (muts f.body) fz st (ps.map some ++ List.replicate (f.ns - ps.length) none) (ds.map some ++ List.replicate (f.ns - ds.length) none) := inv_start (by rw [c.1]; exact c.2) b r
  have hd : ds.length = f.ps := by rw [← r.length]; exact c.1
  split at e
  ·rename_i d q
   cases e
   obtain ⟨r1, st1, fz1, e1, l1, R1, k1⟩ := sound_px (n0 := st.length) hF f.body _ _ q fz st _ I
   cases r1 with
   | rt d' => exact ⟨d', st1, fz1, by unfold fnD; rw [if_pos hd, e1], ⟨l1.low, l1.len, l1.sub, l1.new, R1.2⟩, R1.1⟩
   | _ => exact R1.elim
  ·rename_i π' q
   cases e
   obtain ⟨r1, st1, fz1, e1, l1, R1, k1⟩ := sound_px (n0 := st.length) hF f.body _ _ q fz st _ I
   cases r1 with
   | nx ρ' => exact ⟨.non, st1, fz1, by unfold fnD; rw [if_pos hd, e1], ⟨l1.low, l1.len, l1.sub, l1.new, R1.bd⟩, .non⟩
   | _ => exact R1.elim
  ·cases e
 ·cases e
theorem prun_some {T : Nat → Option FD} {n i : Nat} {f : FD} (q : T i = some f) : prun T (n + 1) i = if (isNew i && !newRet f) = true then fun _ => none else fnP (prun T n) f := by
 show (match T i with | some f => if (isNew i && !newRet f) = true then (fun _ => none) else fnP (prun T n) f | none => fun _ => none) = _
 rw [q]
theorem prun_none {T : Nat → Option FD} {n i : Nat} (q : T i = none) : prun T (n + 1) i = fun _ => none := by
 show (match T i with | some f => if (isNew i && !newRet f) = true then (fun _ => none) else fnP (prun T n) f | none => fun _ => none) = _
 rw [q]
theorem run_some {T : Nat → Option FD} {n i : Nat} {f : FD} (q : T i = some f) : run T (n + 1) i = fnD (run T n) f := by
 show (match T i with | some f => fnD (run T n) f | none => fun _ _ => none) = _
 rw [q]
theorem run_rel (T : Nat → Option FD) : ∀ n, FnRel (run T n) (prun T n)
 | 0 => ⟨(fun i ps p e => nomatch (show (none : Option P) = some p from e)), (fun i _ ps m xs e => nomatch (show (none : Option P) = some (.lst m xs) from e))⟩
 | n + 1 => by
  refine ⟨fun i ps p e fz st ds b r => ?_, fun i hi ps m xs e fz st ds b r => ?_⟩
  ·cases q : T i with
   | none => rw [prun_none q] at e; cases e
   | some f =>
    rw [prun_some q] at e
    rw [run_some q]
    split at e
    ·cases e
    ·exact fn_rel (run_rel T n) f e b r
  ·cases hi
theorem law_rel {T : Nat → Option FD} {n i : Nat} {ns : List Int} (h : prun T n i [.lst false (ns.map .int)] = some (.bl true)) : ∃ st', run T n i [.lst 0] [(false, ns.map .int)] = some (.bl true, st') := by
 have r : ∀ ns : List Int, Rels (fun i => i = 0) [(false, (ns.map D.int))] [] [] := fun _ => .nil
 have rs : ∀ (st : Store) (ns : List Int), Rels (fun i => i = 0) st (ns.map P.int) (ns.map D.int) := fun st ns => by
  induction ns with
  | nil => exact .nil
  | cons a l ih => exact .cons (.int a) ih
 obtain ⟨d, st', fz', e1, n1, r1⟩ := (run_rel T n).1 i _ _ h (fun i => i = 0) [(false, ns.map D.int)] [.lst 0] (fun i hi => by rw [hi]; exact Nat.zero_lt_one) (.cons (.lst rfl rfl (rs _ ns)) .nil)
 cases r1
 exact ⟨st', e1⟩
end Dp



namespace Dp
open PySem PySem.Spec PyProof.Rows L2
variable [ClsTab]
theorem len0 {α : Type} : ∀ {us : List α}, us.length = 0 → us = []
 | [], _ => rfl
theorem len1 {α : Type} : ∀ {us : List α}, us.length = 1 → ∃ a, us = [a]
 | [a], _ => ⟨a, rfl⟩
theorem len2 {α : Type} : ∀ {us : List α}, us.length = 2 → ∃ a b, us = [a, b]
 | [a, b], _ => ⟨a, b, rfl⟩
theorem len3 {α : Type} : ∀ {us : List α}, us.length = 3 → ∃ a b c, us = [a, b, c]
 | [a, b, c], _ => ⟨a, b, c, rfl⟩
theorem len4 {α : Type} : ∀ {us : List α}, us.length = 4 → ∃ a b c d, us = [a, b, c, d]
 | [a, b, c, d], _ => ⟨a, b, c, d, rfl⟩
theorem len5 {α : Type} : ∀ {us : List α}, us.length = 5 → ∃ a b c d e, us = [a, b, c, d, e]
 | [a, b, c, d, e], _ => ⟨a, b, c, d, e, rfl⟩
theorem len6 {α : Type} : ∀ {us : List α}, us.length = 6 → ∃ a b c d e f, us = [a, b, c, d, e, f]
 | [a, b, c, d, e, f], _ => ⟨a, b, c, d, e, f, rfl⟩
def ClsAll (K : PySem.W.Frag) (G : Gs) (T : Nat → Option FD) (C : Addr) : List (Str × Nat × Nat) → Prop
 | [] => True
 | (m, j, _) :: r => (∃ y f fd pn N, MethOk K G T C m y j f fd pn N) ∧ ClsAll K G T C r
def SubAll (K : PySem.W.Frag) (B : Addr) : List Nat → Prop
 | [] => True
 | i :: r => SubOk K (ClsTab.ca i) B ∧ SubAll K B r
def GAll (Pm : Params) (K : PySem.W.Frag) (mg : Str → Option Value) (G : Gs) (T : Nat → Option FD) : Gs → Prop
 | [] => True
 | (x, .cst d) :: r => (∃ v u, mg x = some u ∧ RelV v u ∧ ∀ ad H, Den K ad H v d) ∧ GAll Pm K mg G T r
 | (x, .blt) :: r => mg x = none ∧ GAll Pm K mg G T r
 | (x, .dct ks ds) :: r => DctOk Pm K mg x ks ds ∧ GAll Pm K mg G T r
 | (x, .fn i _ ds) :: r => (∃ f fd pn N, DefOk K mg G T x i ds f fd pn N) ∧ GAll Pm K mg G T r
 | (x, .cls i ms subs) :: r => ((mg x = some (.ref (ClsTab.ca i)) ∧ NewOk K (ClsTab.ca i) ∧ SubAll K (ClsTab.ca i) subs) ∧ ClsAll K G T (ClsTab.ca i) ms) ∧ GAll Pm K mg G T r
section
variable {P : Program} {w : World} {K : PySem.W.Frag} {mg : Str → Option Value} {base : Heap} {G : Gs} {T : Nat → Option FD}
def GOne (Pm : Params) (K : PySem.W.Frag) (mg : Str → Option Value) (G : Gs) (T : Nat → Option FD) (x : Str) : GV → Prop
 | .cst d => ∃ v u, mg x = some u ∧ RelV v u ∧ ∀ ad H, Den K ad H v d
 | .blt => mg x = none
 | .dct ks ds => DctOk Pm K mg x ks ds
 | .fn i _ ds => ∃ f fd pn N, DefOk K mg G T x i ds f fd pn N
 | .cls i ms subs => (mg x = some (.ref (ClsTab.ca i)) ∧ NewOk K (ClsTab.ca i) ∧ SubAll K (ClsTab.ca i) subs) ∧ ClsAll K G T (ClsTab.ca i) ms
theorem gall_one {Pm : Params} : ∀ {l : Gs} {x : Str} {g : GV}, GAll Pm K mg G T l → l.lookup x = some g → GOne Pm K mg G T x g
 | [], _, _, _, h => by cases h
 | (y, v) :: r, x, g, a, h => by
  have tl : GAll Pm K mg G T r ∧ GOne Pm K mg G T y v := by
   cases v with
   | cst d => exact ⟨a.2, a.1⟩
   | blt => exact ⟨a.2, a.1⟩
   | dct ks ds => exact ⟨a.2, a.1⟩
   | fn i ps ds => exact ⟨a.2, a.1⟩
   | cls i ms subs => exact ⟨a.2, a.1⟩
  rw [List.lookup_cons] at h
  cases e : x == y with
  | true =>
   rw [e] at h
   cases h
   rw [beq_iff_eq.mp e]
   exact tl.2
  | false =>
   rw [e] at h
   exact gall_one tl.1 h
theorem sub_one {B : Addr} : ∀ {l : List Nat}, SubAll K B l → ∀ i, l.contains i = true → SubOk K (ClsTab.ca i) B
 | [], _, _, h => by cases h
 | j :: r, a, i, h => by
  rw [List.contains_cons, Bool.or_eq_true] at h
  rcases h with h | h
  ·rw [beq_iff_eq.mp h]; exact a.1
  ·exact sub_one a.2 i h
theorem meth_one {C : Addr} : ∀ {l : List (Str × Nat × Nat)}, ClsAll K G T C l → ∀ m j ps, l.lookup m = some (j, ps) → ∃ y f fd pn N, MethOk K G T C m y j f fd pn N
 | [], _, _, _, _, h => by cases h
 | (m', j', ps') :: r, a, m, j, ps, h => by
  rw [List.lookup_cons] at h
  cases e : m == m' with
  | true =>
   rw [e] at h
   cases h
   rw [beq_iff_eq.mp e]
   exact a.1
  | false =>
   rw [e] at h
   exact meth_one a.2 m j ps h
theorem text_of {Pm : Params} (h : GAll Pm K mg G T G) : Text Pm K mg G T :=
 ⟨fun _ _ e => gall_one h e, fun _ e => gall_one h e, fun _ _ _ e => gall_one h e, fun _ _ _ _ e => gall_one h e, fun x i ms subs e => by
  have g : GOne Pm K mg G T x (.cls i ms subs) := gall_one h e
  exact ⟨⟨g.1.1, g.1.2.1, sub_one g.1.2.2⟩, meth_one g.2⟩⟩
theorem def_at (hc : ∀ n, CompOk G (run T n)) (X : Text w.params K mg G T) (n : Nat) {x : Str} {i : Nat} {ds : List D} {f : Addr} {fd : FuncData} {pn N : List Str} (Dk : DefOk K mg G T x i ds f fd pn N) : FnOk P w K mg base CX0 n f fd pn (spD K (run T n i)) := all_ok hc X n Dk.ob
theorem sp_law {H : Hp} {a : Addr} {ns : List Int} {n i : Nat} (hO : Only H) (hS : SqL K H a (ns.map V.int)) (h : ∃ st', run T n i [.lst 0] [(false, ns.map .int)] = some (.bl true, st')) : spD K (run T n i) [.ref a] H (fun v _ => v = .bl true) fun _ _ _ => False := by
 obtain ⟨st', e⟩ := h
 have ds : ∀ ns : List Int, Dens K [a] H (ns.map V.int) (ns.map D.int) := fun ns => by
  induction ns with
  | nil => exact .nil
  | cons n l ih => exact .cons (.int n) ih
 have nT : ¬ IsDT H a := fun ⟨kvs, q⟩ => by
  rcases hO a with z | ⟨o, xs, z⟩ <;> (rw [q] at z; cases z)
 refine ⟨[a], [.lst 0], [(false, ns.map .int)], .bl true, st', ⟨rfl, fun i j b c d _ _ h3 _ => ?_, fun i c hc => ?_⟩, .cons (.lst ⟨rfl, nT⟩) .nil, e, fun v ad' H' x S h => h.ofBl⟩
 ·cases i with
  | zero => simp at h3
  | succ i => simp at h3
 ·cases i with
  | succ i => simp at hc
  | zero =>
   have hc : (false, ns.map D.int) = c := by simpa using hc
   subst hc
   refine ⟨a, rfl, .l nT (ds ns) (.inr ⟨rfl, ?_⟩)⟩
   rcases hS with (h | ⟨o, h⟩) | ⟨o, its, n, h1, h2, h3, h4, h5, h6⟩
   ·rcases hO a with z | ⟨o, xs, z⟩
    ·rw [h] at z; cases z
    ·rw [h] at z; cases z
   ·exact .inl ⟨o, h⟩
   ·exact .inr ⟨o, its, n, ⟨h1, h2⟩, ⟨h3, h4⟩, h5, h6⟩
end
noncomputable abbrev fnS (x y : Str) (s : Stmt) (dV kV dc pm : Value) (an : Option Addr) (cd ct : Value) : FuncData := PySem.W.fnOf x y (defArgs s) (defBody s) (defScope s) dV kV dc pm an cd ct
inductive FnAt (K : PySem.W.Frag) (x : Str) (s : Stmt) : Prop
 | mk {f : Addr} {oc kV dc pm cd ct : Value} {od an : Option Addr} {sl : Array (Option Value)} (a : PySem.W.nsIn K mainGlobals x = some (some (.ref f))) (l : K.lookup f = some ⟨oc, od, .func (PySem.W.fnOf x x (defArgs s) (defBody s) (defScope s) .none kV dc pm an cd ct), sl⟩) (e : PySem.W.codeIn K cd x = true) (k : PySem.W.keepIn K (.ref f) = true) : FnAt K x s
inductive FnAtE (K : PySem.W.Frag) (x : Str) (s : Stmt) (v : Int) : Prop
 | mk {f E : Addr} {eo : Obj} {en : Nat} {et : Tok} {oc kV dc pm cd ct : Value} {od an : Option Addr} {sl : Array (Option Value)} (a : PySem.W.nsIn K mainGlobals x = some (some (.ref f))) (l : K.lookup f = some ⟨oc, od, .func (PySem.W.fnOf x x (defArgs s) (defBody s) (defScope s) (.ref E) kV dc pm an cd ct), sl⟩) (e : PySem.W.codeIn K cd x = true) (k : PySem.W.keepIn K (.ref f) = true) (d : K.lookup E = some eo) (g : eo.data = .seq #[.int v et] en) : FnAtE K x s v
inductive MtAt (K : PySem.W.Frag) (C : Addr) (x y : Str) (s : Stmt) : Prop
 | mk {f : Addr} {oc kV dc pm cd ct : Value} {od an : Option Addr} {sl : Array (Option Value)} (m : PySem.W.findIn K (.ref C) x = some (some (.ref f))) (l : K.lookup f = some ⟨oc, od, .func (PySem.W.fnOf x y (defArgs s) (defBody s) (defScope s) .none kV dc pm an cd ct), sl⟩) (e : PySem.W.codeIn K cd y = true) (k : PySem.W.keepIn K (.ref f) = true) (i : PySem.W.isFn K (.ref f) = true) : MtAt K C x y s
structure ClsAt (K : PySem.W.Frag) (x : Str) (C : Addr) : Prop where
 ya : PySem.W.nsIn K mainGlobals x = some (some (.ref C))
 yb : PySem.W.makesIn K C = true
 yc : PySem.W.findIn K (.ref C) "__init__" = some (some (.builtin "object.__init__"))
 yd : PySem.W.keepIn K (.ref C) = true
 ye : PySem.W.plainGet K C Str.empty = true
 yf : PySem.W.hasDictIn K C = true
 yg : PySem.W.plainOver K C = true
 yh : PySem.W.findIn K (.ref C) "__setattr__" = some (some (.builtin "object.__setattr__"))
 yi : PySem.W.findIn K (.ref C) "__class__" = some (some (.builtin "object.__class__"))
 yj : PySem.W.mroIn K C (.type "object") = some true
 yk : PySem.W.specialIn K (.builtin "object.__class__") "__get__" = some (some (.builtin "getset_descriptor.__get__"))
 yl : PySem.W.takesIn K (.builtin "object.__class__") = some true
abbrev CmpS (G : Gs) (s : Stmt) (N ps : List Str) (c : CS) : Prop := FnScope N ps (defScope s) ∧ (∀ y ∈ N, L2.Loc (defScope s) y) ∧ cSs G 60 (defScope s) N (defBody s) = some c
section
variable {K : PySem.W.Frag} {fd : FuncData} {ps : List Str}
theorem bd1 (hl : ps.length = 1) (h : ∀ a, bindArgs fd ⟨[a], []⟩ = pure (ps.zip [a])) : Binds K fd ps [] := .all fun us e => by obtain ⟨_, rfl⟩ := len1 (e.trans hl); exact h _
theorem bd2 (hl : ps.length = 2) (h : ∀ a b, bindArgs fd ⟨[a, b], []⟩ = pure (ps.zip [a, b])) : Binds K fd ps [] := .all fun us e => by obtain ⟨_, _, rfl⟩ := len2 (e.trans hl); exact h _ _
theorem bd3 (hl : ps.length = 3) (h : ∀ a b c, bindArgs fd ⟨[a, b, c], []⟩ = pure (ps.zip [a, b, c])) : Binds K fd ps [] := .all fun us e => by obtain ⟨_, _, _, rfl⟩ := len3 (e.trans hl); exact h _ _ _
theorem bd4 (hl : ps.length = 4) (h : ∀ a b c d, bindArgs fd ⟨[a, b, c, d], []⟩ = pure (ps.zip [a, b, c, d])) : Binds K fd ps [] := .all fun us e => by obtain ⟨_, _, _, _, rfl⟩ := len4 (e.trans hl); exact h _ _ _ _
theorem bd5 (hl : ps.length = 5) (h : ∀ a b c d k, bindArgs fd ⟨[a, b, c, d, k], []⟩ = pure (ps.zip [a, b, c, d, k])) : Binds K fd ps [] := .all fun us e => by obtain ⟨_, _, _, _, _, rfl⟩ := len5 (e.trans hl); exact h _ _ _ _ _
theorem bd6 (hl : ps.length = 6) (h : ∀ a b c d k l, bindArgs fd ⟨[a, b, c, d, k, l], []⟩ = pure (ps.zip [a, b, c, d, k, l])) : Binds K fd ps [] := .all fun us e => by obtain ⟨_, _, _, _, _, _, rfl⟩ := len6 (e.trans hl); exact h _ _ _ _ _ _
theorem bd0 (hl : ps.length = 0) (h : bindArgs fd ⟨[], []⟩ = pure []) : Binds K fd ps [] := .all fun us e => by rw [len0 (e.trans hl), List.zip_nil_right]; exact h
end
section
variable {Pm : Params} {K : PySem.W.Frag} {mg : Str → Option Value} {G : Gs} {T : Nat → Option FD} {h : Heap} {x y : Str} {i p : Nat} {s : Stmt} {N ps : List Str} {c : CS} {r : Gs}
theorem gD (X : K.In h) (G0 : h.Ns mainGlobals mg) (F : FnAt K x s) (q : CmpS G s N ps c) (hT : T i = some ⟨ps.length, N.length, c⟩) (t : GAll Pm K mg G T r) (hb : ∀ kV dc pm an cd ct, Binds K (fnS x x s .none kV dc pm an cd ct) ps [] := by first | exact fun _ _ _ _ _ _ => bd1 rfl fun _ => rfl | exact fun _ _ _ _ _ _ => bd2 rfl fun _ _ => rfl | exact fun _ _ _ _ _ _ => bd3 rfl fun _ _ _ => rfl | exact fun _ _ _ _ _ _ => bd4 rfl fun _ _ _ _ => rfl | exact fun _ _ _ _ _ _ => bd5 rfl fun _ _ _ _ _ => rfl | exact fun _ _ _ _ _ _ => bd6 rfl fun _ _ _ _ _ _ => rfl | exact fun _ _ _ _ _ _ => bd0 rfl rfl) : GAll Pm K mg G T ((x, .fn i p []) :: r) := by
 cases F with
 | mk a l e k => exact ⟨⟨_, _, ps, N, ⟨s, _, _, _, _, _, _, _, _, _, _, c, rfl, l, e, q.1, q.2.1, q.2.2, hT⟩, k, PySem.W.mg_of X G0 a, fun m hm => ⟨[], [], fun _ _ => by rw [List.drop_nil]; exact .nil, .nil, hb _ _ _ _ _ _⟩⟩, t⟩
theorem gB (X : K.In h) (G0 : h.Ns mainGlobals mg) (z : PySem.W.nsIn K mainGlobals x = some none) (t : GAll Pm K mg G T r) : GAll Pm K mg G T ((x, .blt) :: r) := ⟨PySem.W.mg_none_of X G0 z, t⟩
theorem gL {fa : Addr} {z : Str} (X : K.In h) (G0 : h.Ns mainGlobals mg) (hfa : mg x = some (.ref fa)) (F : FnAt K x s) (q : CmpS G s N [z] c) (hT : T i = some ⟨1, N.length, c⟩) (hb : ∀ kV dc pm an cd ct u, bindArgs (fnS x x s .none kV dc pm an cd ct) ⟨[u], []⟩ = pure [(z, u)]) : ∃ (fd : FuncData) (N : List Str), (∀ (s : Shared) (u : Value), BindsTo s fd ⟨[u], []⟩ [(z, u)]) ∧ DefOk K mg G T x i [] fa fd [z] N := by
 cases F with
 | @mk f _ _ _ _ _ _ _ _ _ a l e k =>
  have e' := hfa.symm.trans (PySem.W.mg_of X G0 a)
  have e' : fa = f := by cases e'; rfl
  rw [e']
  exact ⟨_, N, fun _ u => .of_eq (hb _ _ _ _ _ _ u), ⟨s, _, _, _, _, _, _, _, _, _, _, c, rfl, l, e, q.1, q.2.1, q.2.2, hT⟩, k, PySem.W.mg_of X G0 a, fun m hm => ⟨[], [], fun _ _ => by rw [List.drop_nil]; exact .nil, .nil, .all fun us hl => by obtain ⟨u, rfl⟩ := len1 hl; exact hb _ _ _ _ _ _ u⟩⟩
end
omit [ClsTab] in
theorem law_walkS {l : PySem.W.OpenLaw} {q : Program} {loose : List Str} {XP : (Str → Option Value) → Heap → Prop} {YP : World → Heap → Prop} {d : DefRec} {K : Params → PySem.W.Frag} {G : Gs} {T : Nat → Option FD} {n i : Nat} {x : Str}
  (hn : l.most = some 63) (hdf : d.params.defaults = []) (hr : Room n callerA) (hY : ∀ (w : World) (h : Heap), YP w h → (K w.params).In h) (hc : ∀ [ClsTab] n, CompOk G (run T n))
  (F : ∀ (w : World) (mg : Str → Option Value) (fa : Addr) (h : Heap), (K w.params).In h → h.Ns mainGlobals mg → mg d.name = some (.ref fa) →
   ∃ _ : ClsTab, Text w.params (K w.params) mg G T ∧ ∃ (fd : FuncData) (N : List Str), (∀ (s : Shared) (u : Value), BindsTo s fd ⟨[u], []⟩ [(x, u)]) ∧ DefOk (K w.params) mg G T d.name i [] fa fd [x] N)
  (L : ∀ ns : List Int, ns.length ≤ 63 → ∃ st', run T n i [.lst 0] [(false, ns.map .int)] = some (.bl true, st')) :
  PySem.W.WalkO q loose XP YP l.row.toRowW d [] (fun f vs => PySem.call f vs) :=
 L2.walk_of (n := 63) (k := n) (x := x) (CX := fun _ => CX0) (sp := fun w vs H Q E => ∀ c : ClsTab, @spD c (K w.params) (run T n i) vs H Q E) hn (by decide) hdf hr hY
  (fun w mg fa h KX G0 hmg => by
   obtain ⟨c, X, fd, N, hb, Dk⟩ := F w mg fa h KX G0 hmg
   refine ⟨fd, hb, fun base _ _ => ?_⟩
   have fo := def_at (P := l.prog) (w := w) (base := base) (fun n => hc n) X n Dk
   exact ⟨fun vs H Q E z => fo.len vs H Q E (z c), fun A outer s H args us vs Q E a1 a2 a3 a4 z => fo.run A outer s H args us vs Q E a1 a2 a3 a4 (z c)⟩)
  (fun w H a ns hl hO hS c => sp_law hO hS (L ns hl)) fun _ _ _ _ _ z => z

omit [ClsTab] in
theorem law_walk {l : PySem.W.OpenLaw} {q : Program} {loose : List Str} {XP : (Str → Option Value) → Heap → Prop} {YP : World → Heap → Prop} {d : DefRec} {K : Params → PySem.W.Frag} {G : Gs} {T : Nat → Option FD} {n i : Nat} {x : Str}
  (hn : l.most = some 63) (hdf : d.params.defaults = []) (hr : Room n callerA) (hY : ∀ (w : World) (h : Heap), YP w h → (K w.params).In h) (hc : ∀ [ClsTab] n, CompOk G (run T n))
  (F : ∀ (w : World) (mg : Str → Option Value) (fa : Addr) (h : Heap), (K w.params).In h → h.Ns mainGlobals mg → mg d.name = some (.ref fa) →
   ∃ _ : ClsTab, Text w.params (K w.params) mg G T ∧ ∃ (fd : FuncData) (N : List Str), (∀ (s : Shared) (u : Value), BindsTo s fd ⟨[u], []⟩ [(x, u)]) ∧ DefOk (K w.params) mg G T d.name i [] fa fd [x] N)
  (L : ∀ ns : List Int, ns.length ≤ 63 → prun T n i [.lst false (ns.map .int)] = some (.bl true)) :
  PySem.W.WalkO q loose XP YP l.row.toRowW d [] (fun f vs => PySem.call f vs) := law_walkS hn hdf hr hY hc F fun ns hl => law_rel (L ns hl)
end Dp


namespace Dp
open PySem
theorem map_inj_char : ∀ {l m : List Char}, l.map Char.toNat = m.map Char.toNat → l = m
 | [], [], _ => rfl
 | [], _ :: _, h => by cases h
 | _ :: _, [], h => by cases h
 | a :: l, b :: m, h => by
  rw [List.map_cons, List.map_cons] at h
  injection h with h1 h2
  have : a = b := by
   apply Char.ext
   apply UInt32.toNat_inj.mp
   exact h1
  rw [this, map_inj_char h2]
@[simp] theorem S_eq {a b : String} : (Str.ofString a = Str.ofString b) = (a = b) := by
 apply propext
 constructor
 ·intro h
  rw [Str.ofString_eq_toList, Str.ofString_eq_toList] at h
  injection h with h
  have h2 := congrArg Array.toList h
  simp only [List.toList_toArray] at h2
  exact String.toList_inj.mp (map_inj_char h2)
 ·intro h; rw [h]
section
variable {F : PFn} {π : PEnv} {a b c lo hi it elt cnd : CE} {M : List Nat}
noncomputable def condP (c : Option P) (x y : Option P) : Option P := match c with
 | some (.bl true) => x
 | some (.bl false) => y
 | _ => none
@[simp] theorem condP_bl {k : Bool} {x y : Option P} : condP (some (.bl k)) x y = if k = true then x else y := by cases k <;> rfl
@[simp] theorem bind_ite {α β : Type} {p : Prop} [Decidable p] {u v : Option α} {f : α → Option β} : (if p then u else v).bind f = if p then u.bind f else v.bind f := by split <;> rfl
@[simp] theorem pe_var {i : Nat} : pe F (.var i) π = (π[i]?).join := by
 show pvar i π = _
 unfold pvar
 cases π[i]? with
 | none => rfl
 | some o => cases o <;> rfl
@[simp] theorem pe_cst {d : D} : pe F (.cst d) π = ofD d := Eq.trans rfl rfl
@[simp] theorem ofD_int {i : Int} : ofD (.int i) = some (.int i) := Eq.trans rfl rfl
@[simp] theorem ofD_str {i : Str} : ofD (.str i) = some (.str i) := Eq.trans rfl rfl
@[simp] theorem ofDs_nil : ofDs [] = some [] := Eq.trans rfl rfl
theorem pq1_eq {f : PEv} {g : P → Option P} : pq1 f g π = (f π).bind g := by unfold pq1; cases f π <;> rfl
theorem pq2_eq {f f' : PEv} {g : P → P → Option P} : pq2 f f' g π = (f π).bind fun x => (f' π).bind fun y => g x y := by unfold pq2; cases f π <;> cases f' π <;> rfl
theorem pq3_eq {f f' f'' : PEv} {g : P → P → P → Option P} : pq3 f f' f'' g π = (f π).bind fun x => (f' π).bind fun y => (f'' π).bind fun z => g x y z := by unfold pq3; cases f π <;> cases f' π <;> cases f'' π <;> rfl
theorem pcond_eq {f g h : PEv} : pcond f g h π = condP (f π) (g π) (h π) := by
 unfold pcond condP
 rfl
@[simp] theorem pe_bin {op : Operator} : pe F (.bin op a b) π = (pe F a π).bind fun x => (pe F b π).bind fun y => binP op x y := pq2_eq
@[simp] theorem pe_cmp {op : CmpOp} : pe F (.cmp op a b) π = (pe F a π).bind fun x => (pe F b π).bind fun y => cmpPR op x y := pq2_eq
@[simp] theorem pe_neg : pe F (.neg a) π = (pe F a π).bind negP := pq1_eq
@[simp] theorem pe_not : pe F (.not a) π = (pe F a π).bind notP := pq1_eq
@[simp] theorem pe_and : pe F (.and a b) π = condP (pe F a π) (pe F b π) (some (.bl false)) := pcond_eq
@[simp] theorem pe_or : pe F (.or a b) π = condP (pe F a π) (some (.bl true)) (pe F b π) := pcond_eq
@[simp] theorem pe_tupE : pe F (.tupE a) π = pe F a π := Eq.trans rfl rfl
@[simp] theorem pe_lstE : pe F (.lstE a) π = (pe F a π).bind lstP := pq1_eq
@[simp] theorem pe_anil : pe F .anil π = some (.tup []) := Eq.trans rfl rfl
@[simp] theorem pe_acons : pe F (.acons a b) π = (pe F a π).bind fun x => (pe F b π).bind fun y => consP x y := pq2_eq
@[simp] theorem pe_ix : pe F (.ix a b) π = (pe F a π).bind fun x => (pe F b π).bind fun y => ixP x y := pq2_eq
@[simp] theorem pe_slice : pe F (.slice a lo hi) π = (pe F a π).bind fun x => (pe F lo π).bind fun y => (pe F hi π).bind fun z => sliceP x y z := pq3_eq
@[simp] theorem pe_call {f : Nat} {ds : List D} : pe F (.call f a ds) π = (pe F a π).bind (callP (F f) ds) := pq1_eq
@[simp] theorem pe_len : pe F (.len a) π = (pe F a π).bind lenP := pq1_eq
@[simp] theorem pe_tupleOf : pe F (.tupleOf a) π = (pe F a π).bind tupleP := pq1_eq
@[simp] theorem pe_min : pe F (.min a b) π = (pe F a π).bind fun x => (pe F b π).bind fun y => minP x y := pq2_eq
@[simp] theorem pe_max : pe F (.max a b) π = (pe F a π).bind fun x => (pe F b π).bind fun y => maxP x y := pq2_eq
theorem pe_comp {rng : Bool} {fr : List Nat} : pe F (.comp rng fr it elt cnd) π = (pe F it π).bind fun x => (walkP rng x).bind fun xs => if xs.length ≤ 1000 then (compP (fun p => pe F elt (penvC π fr p)) (fun p => pe F cnd (penvC π fr p)) xs).bind (fun ys => some (.lst true ys)) else none := by
 show pcompR pone (walkP rng) fr (pe F it) (pe F elt) (pe F cnd) π = _
 unfold pcompR
 cases pe F it π with
 | none => rfl
 | some x =>
  simp only [Option.bind_some]
  cases walkP rng x with
  | none => rfl
  | some xs =>
   simp only [Option.bind_some]
   split
   ·show (match compP (fun p => pe F elt (penvC π fr p)) (fun p => pe F cnd (penvC π fr p)) xs with
     | some ys => some (P.lst true ys)
     | none => none) = _
    cases compP (fun p => pe F elt (penvC π fr p)) (fun p => pe F cnd (penvC π fr p)) xs <;> rfl
   ·rfl
variable {i j : Int} {xs ys : List P} {x y : P} {m : Bool}
@[simp] theorem bin_add : binP .Add (.int i) (.int j) = some (.int (i + j)) := Eq.trans rfl rfl
@[simp] theorem bin_sub : binP .Sub (.int i) (.int j) = some (.int (i - j)) := Eq.trans rfl rfl
@[simp] theorem bin_mul : binP .Mult (.int i) (.int j) = if lim64 i || lim64 j then some (.int (i * j)) else none := by
 show (match (if lim64 i || lim64 j then some ((i * j)) else none : Option Int) with
  | some k => some (P.int k)
  | none => none) = _
 by_cases h : (lim64 i || lim64 j) = true
 ·rw [if_pos h, if_pos h]
 ·rw [if_neg h, if_neg h]
@[simp] theorem bin_fdiv : binP .FloorDiv (.int i) (.int j) = if 0 < j ∧ j < 1073741824 then some (.int (i / j)) else if j < 0 ∧ -1073741824 < j then some (.int (i.fdiv j)) else none := by
 show (match (if 0 < j ∧ j < 1073741824 then some (i / j) else if j < 0 ∧ -1073741824 < j then some (i.fdiv j) else none : Option Int) with
  | some k => some (P.int k)
  | none => none) = _
 by_cases h : 0 < j ∧ j < 1073741824
 ·rw [if_pos h, if_pos h]
 ·rw [if_neg h, if_neg h]
  by_cases h' : j < 0 ∧ -1073741824 < j
  ·rw [if_pos h', if_pos h']
  ·rw [if_neg h', if_neg h']
@[simp] theorem bin_mod : binP .Mod (.int i) (.int j) = if 0 < j then some (.int (i % j)) else if j < 0 then some (.int (i.fmod j)) else none := by
 show (match (if 0 < j then some (i % j) else if j < 0 then some (i.fmod j) else none : Option Int) with
  | some k => some (P.int k)
  | none => none) = _
 by_cases h : 0 < j
 ·rw [if_pos h, if_pos h]
 ·rw [if_neg h, if_neg h]
  by_cases h' : j < 0
  ·rw [if_pos h', if_pos h']
  ·rw [if_neg h', if_neg h']
theorem lim_iff : lim64 i = true ↔ -(2 ^ 64) < i ∧ i < 2 ^ 64 := by unfold lim64; rw [Bool.and_eq_true, decide_eq_true_iff, decide_eq_true_iff]
theorem limP_of (h : -(2 ^ 64) < i) (h' : i < 2 ^ 64) : lim64 i = true := lim_iff.mpr ⟨h, h'⟩
@[simp] theorem cmp_lt : cmpPR .Lt (.int i) (.int j) = some (.bl (decide (i < j))) := Eq.trans rfl rfl
@[simp] theorem cmp_gt : cmpPR .Gt (.int i) (.int j) = some (.bl (decide (j < i))) := Eq.trans rfl rfl
@[simp] theorem cmp_eqI : cmpPR .Eq (.int i) (.int j) = some (.bl (decide (i = j))) := Eq.trans rfl rfl
@[simp] theorem cmp_eqS {s t : Str} : cmpPR .Eq (.str s) (.str t) = some (.bl (decide (s = t))) := Eq.trans rfl rfl
@[simp] theorem neg_int : negP (.int i) = some (.int (-i)) := Eq.trans rfl rfl
@[simp] theorem lst_tup : lstP (.tup xs) = some (.lst true xs) := Eq.trans rfl rfl
@[simp] theorem cons_tup : consP x (.tup xs) = if xs.length < 1000 then some (.tup (x :: xs)) else none := Eq.trans rfl rfl
@[simp] theorem len_lst : lenP (.lst m xs) = some (.int xs.length) := Eq.trans rfl rfl
@[simp] theorem tuple_lst : tupleP (.lst m xs) = some (.tup xs) := Eq.trans rfl rfl
@[simp] theorem int_int : intP (.int i) = some (.int i) := Eq.trans rfl rfl
@[simp] theorem min_int : minP (.int i) (.int j) = some (.int (if j < i then j else i)) := Eq.trans rfl rfl
@[simp] theorem max_int : maxP (.int i) (.int j) = some (.int (if j > i then j else i)) := Eq.trans rfl rfl
@[simp] theorem ix_tup : ixP (.tup xs) (.int i) = atP xs i := Eq.trans rfl rfl
@[simp] theorem ix_lst : ixP (.lst m xs) (.int i) = atP xs i := Eq.trans rfl rfl
@[simp] theorem call_tup {g : List P → Option P} {ds : List D} : callP g ds (.tup xs) = (ofDs ds).bind fun es => g (xs ++ es) := by
 show (match ofDs ds with | some es => g (xs ++ es) | none => none) = _
 cases ofDs ds <;> rfl
theorem at_nat {n : Nat} (h : i = (n : Int)) : atP xs i = xs[n]? := by
 subst h
 unfold atP ixN
 rw [if_pos (by omega)]
 by_cases hn : (n : Int) < xs.length
 ·rw [if_pos hn]; rfl
 ·rw [if_neg hn]
  rw [List.getElem?_eq_none (by omega)]
  rfl
@[simp] theorem at_cast {n : Nat} : atP xs ((n : Nat) : Int) = xs[n]? := at_nat rfl
@[simp] theorem at_2 : atP xs 2 = xs[2]? := at_nat rfl
@[simp] theorem at_3 : atP xs 3 = xs[3]? := at_nat rfl
@[simp] theorem at_4 : atP xs 4 = xs[4]? := at_nat rfl
@[simp] theorem at_5 : atP xs 5 = xs[5]? := at_nat rfl
@[simp] theorem at_6 : atP xs 6 = xs[6]? := at_nat rfl
@[simp] theorem at_7 : atP xs 7 = xs[7]? := at_nat rfl
@[simp] theorem at_0 : atP xs 0 = xs[0]? := at_nat rfl
@[simp] theorem at_1 : atP xs 1 = xs[1]? := at_nat rfl
variable {s t : CS}
noncomputable def thenP (x : Option PFl) (g : PEnv → Option PFl) : Option PFl := match x with
 | some (.nx π') => g π'
 | r => r
@[simp] theorem then_nx {g : PEx} : thenP (some (.nx π)) g = g π := Eq.trans rfl rfl
@[simp] theorem then_rt {g : PEx} : thenP (some (.rt x)) g = some (.rt x) := Eq.trans rfl rfl
@[simp] theorem then_none {g : PEx} : thenP none g = none := Eq.trans rfl rfl
@[simp] theorem then_ite {p : Prop} [Decidable p] {u v : Option PFl} {g : PEx} : thenP (if p then u else v) g = if p then thenP u g else thenP v g := by split <;> rfl
noncomputable def testP (c : Option P) (x y : Option PFl) : Option PFl := match c with
 | some (.bl true) => x
 | some (.bl false) => y
 | _ => none
@[simp] theorem test_bl {k : Bool} {x y : Option PFl} : testP (some (.bl k)) x y = if k = true then x else y := by cases k <;> rfl
@[simp] theorem px_skip : px F M .skip π = some (.nx π) := Eq.trans rfl rfl
@[simp] theorem px_seq : px F M (.seq s t) π = thenP (px F M s π) (px F M t) := by
 show pseq _ _ π = _
 unfold pseq thenP
 rfl
@[simp] theorem px_ret : px F M (.ret a) π = (pe F a π).bind fun d => some (.rt d) := by
 show pret _ π = _
 unfold pret
 cases pe F a π <;> rfl
@[simp] theorem px_ite : px F M (.ite c s t) π = testP (pe F c π) (px F M s π) (px F M t π) := by
 show pite _ _ _ π = _
 unfold pite testP
 rfl
@[simp] theorem setP_zero {o : Option P} : setP (o :: π) 0 x = some x :: π := rfl
@[simp] theorem setP_succ {o : Option P} {k : Nat} : setP (o :: π) (k + 1) x = o :: setP π k x := rfl
theorem and2 {a b : Bool} (ha : a = true) (hb : b = true) : (a && b) = true := by rw [ha, hb]; rfl
theorem all_nil {l : List Nat} : (l.all fun i => !([] : List Nat).contains i) = true := by
 induction l with
 | nil => rfl
 | cons a l ih => exact ih
theorem noM_nil : ∀ e : CE, noM [] e = true := by
 intro e
 induction e <;> first | rfl | assumption | (show (_ && _) = true; exact and2 (by assumption) (by assumption)) | (show (_ && (_ && _)) = true; exact and2 (by assumption) (and2 (by assumption) (by assumption))) | (show (_ && _) = true; exact and2 (by assumption) all_nil)
theorem keep_nil {e : CE} : keepOk [] e x = true := by unfold keepOk; rw [noM_nil]; rfl
@[simp] theorem px_setN {k : Nat} : px F [] (.set k a) π = (pe F a π).bind fun p => some (.nx (setP π k p)) := by
 show pset _ _ _ _ π = _
 unfold pset
 cases pe F a π with
 | none => rfl
 | some p => simp [keep_nil]
theorem px_set {k : Nat} : px F M (.set k a) π = (pe F a π).bind fun p => if (if M.contains k then freshOk M a p else keepOk M a p || freshOk M a p) then some (.nx (setP π k p)) else mvP M k a p π := by
 show pset _ _ _ _ π = _
 unfold pset
 cases pe F a π <;> rfl
theorem px_set2 {k l : Nat} (h : pe F a π = some (.tup [x, y])) (hw : (!M.contains k && !M.contains l && keepOk M a (.tup [x, y])) = true) : px F M (.set2 k l a) π = some (.nx (setP (setP π k x) l y)) := by
 show pset2 _ _ _ _ _ π = _
 unfold pset2
 rw [h]
 show (if (!M.contains k && !M.contains l && keepOk M a (.tup [x, y])) = true then some (PFl.nx (setP (setP π k x) l y)) else none) = _
 rw [if_pos hw]
theorem px_setK {k : Nat} {p : P} (h : pe F a π = some p) (hm : M.contains k = false) (hk : keepOk M a p = true) : px F M (.set k a) π = some (.nx (setP π k p)) := by
 rw [px_set, h, Option.bind_some, hm, if_neg Bool.false_ne_true, hk, Bool.true_or, if_pos rfl]
theorem px_setF {k : Nat} {p : P} (h : pe F a π = some p) (hm : M.contains k = true) (hk : freshOk M a p = true) : px F M (.set k a) π = some (.nx (setP π k p)) := by
 rw [px_set, h, Option.bind_some, hm, if_pos rfl, if_pos hk]
theorem px_app {k : Nat} (h : π[k]? = some (some (.lst true xs))) : px F M (.app k a) π = (pe F a π).bind fun p => if M.contains k && keepOk M a p && decide (xs.length < sizeMax) then some (.nx (setP π k (.lst true (xs ++ [p])))) else none := by
 show papp _ _ _ _ π = _
 unfold papp
 rw [h]
 cases pe F a π <;> rfl
theorem px_ext {k : Nat} (h : π[k]? = some (some (.lst true xs))) (he : pe F a π = some (.lst true ys)) (hw : (M.contains k && noM M a) = true) (hz : xs.length + ys.length ≤ sizeMax) : px F M (.ext k a) π = some (.nx (setP π k (.lst true (xs ++ ys)))) := by
 show pext _ _ _ _ π = _
 unfold pext
 simp only [h, he]
 rw [if_pos (by rw [Bool.and_eq_true]; exact ⟨hw, decide_eq_true hz⟩)]
theorem px_forR {k : Nat} {n : Int} (h : pe F it π = some (.int n)) (h1 : n < 2 ^ 62) (h2 : -(2 ^ 62) ≤ n) (hw : M.contains k = false) : px F M (.for1 k true it s) π = loopP (fun d π => px F M s (setP π k d)) (rangeP n) π := by
 show pfor _ _ _ _ _ _ _ π = _
 unfold pfor
 rw [h]
 have e : itemsP true (.int n) = some (rangeP n) := by
  show (if n < 2 ^ 62 ∧ -(2 ^ 62) ≤ n then some (rangeP n) else none) = _
  rw [if_pos ⟨h1, h2⟩]
 simp only [e]
 rw [if_pos (by simpa using hw)]
noncomputable def turnP (x : Option PFl) (g : PEnv → Option PFl) : Option PFl := match x with
 | some (.nx π') => g π'
 | some (.ct π') => g π'
 | some (.bk π') => some (.nx π')
 | some (.rt v) => some (.rt v)
 | none => none
theorem loop_cons {B : P → PEnv → Option PFl} : loopP B (x :: xs) π = turnP (B x π) (loopP B xs) := by
 show (match B x π with
  | some (.nx π') => loopP B xs π'
  | some (.ct π') => loopP B xs π'
  | some (.bk π') => some (.nx π')
  | some (.rt v) => some (.rt v)
  | none => none) = _
 unfold turnP
 rfl
theorem mem_range {n : Int} {p : P} (h : p ∈ rangeP n) : ∃ k : Nat, p = .int (k : Int) ∧ (k : Int) < n := by
 obtain ⟨k, hk, rfl⟩ := List.mem_map.mp h
 exact ⟨k, rfl, by have := List.mem_range.mp hk; omega⟩
noncomputable def resP (x : Option PFl) : Option P := match x with
 | some (.rt d) => some d
 | some (.nx _) => some .non
 | _ => none
@[simp] theorem res_rt : resP (some (.rt x)) = some x := Eq.trans rfl rfl
@[simp] theorem res_ite {p : Prop} [Decidable p] {u v : Option PFl} : resP (if p then u else v) = if p then resP u else resP v := by split <;> rfl
theorem fnP_eq {f : FD} {ds : List P} (hl : ds.length = f.ps) (hM : (muts f.body).all (fun i => decide (f.ps ≤ i)) = true) : fnP F f ds = resP (px F (muts f.body) f.body (ds.map some ++ List.replicate (f.ns - ds.length) none)) := by
 unfold fnP
 rw [if_pos ⟨hl, hM⟩]
 rfl
theorem prun_eq {T : Nat → Option FD} {n k : Nat} {f : FD} {ds : List P} (h : T k = some f) (hl : ds.length = f.ps) (hM : (muts f.body).all (fun i => decide (f.ps ≤ i)) = true) (hN : (isNew k && !newRet f) = false := by rfl) (hW : (k == 16 && (T 999).isSome) = false := by rfl) :
  prun T (n + 1) k ds = resP (px (prun T n) (muts f.body) f.body (ds.map some ++ List.replicate (f.ns - ds.length) none)) := by
 have : prun T (n + 1) k = fnP (prun T n) f := by rw [prun_some h, if_neg (by rw [hN]; exact Bool.false_ne_true)]
 rw [this]
 exact fnP_eq hl hM
section
variable {F : PFn} {M : List Nat} {π π' : PEnv} {a b : CS} {c : CE} {v : P}
end
theorem items_tup {xs : List P} : walkP false (.tup xs) = some xs := rfl
theorem items_rng {n : Int} (h1 : n < 2 ^ 62) (h2 : -(2 ^ 62) ≤ n) : walkP true (.int n) = some (rangeP n) := by
 have e : itemsP true (.int n) = some (rangeP n) := by
  show (if n < 2 ^ 62 ∧ -(2 ^ 62) ≤ n then some (rangeP n) else none) = _
  rw [if_pos ⟨h1, h2⟩]
 unfold walkP
 rw [e]
theorem items_rngS {n : Nat} (h : n ≤ 100000) : walkP true (.int (n : Int)) = some (rangeP (n : Int)) :=
 items_rng (Int.lt_of_le_of_lt (Int.ofNat_le.mpr h) (by decide)) (Int.le_trans (by decide) (Int.natCast_nonneg n))
theorem loop_from {B : P → PEnv → Option PFl} {I : Nat → PEnv → Prop} : ∀ (j k : Nat), (∀ i, k ≤ i → i < k + j → ∀ π, I i π → ∃ π', B (.int (i : Int)) π = some (.nx π') ∧ I (i + 1) π') → ∀ π, I k π → ∃ π', loopP B ((List.range' k j).map fun (i : Nat) => P.int (i : Int)) π = some (.nx π') ∧ I (k + j) π'
 | 0, k, _, π, h => ⟨π, rfl, h⟩
 | j + 1, k, hb, π, h => by
  obtain ⟨π1, e1, i1⟩ := hb k (Nat.le_refl _) (by omega) π h
  obtain ⟨π2, e2, i2⟩ := loop_from j (k + 1) (fun i h1 h2 => hb i (by omega) (by omega)) π1 i1
  refine ⟨π2, ?_, by rw [show k + (j + 1) = k + 1 + j by omega]; exact i2⟩
  rw [List.range'_succ, List.map_cons, loop_cons, e1]
  exact e2
theorem loop_range {B : P → PEnv → Option PFl} (I : Nat → PEnv → Prop) {m : Nat} (hb : ∀ i, i < m → ∀ π, I i π → ∃ π', B (.int (i : Int)) π = some (.nx π') ∧ I (i + 1) π') {π : PEnv} (h : I 0 π) : ∃ π', loopP B (rangeP (m : Int)) π = some (.nx π') ∧ I m π' := by
 have := loop_from (B := B) (I := I) m 0 (fun i _ h2 => hb i (by omega)) π h
 rw [Nat.zero_add] at this
 have e : rangeP (m : Int) = (List.range' 0 m).map fun (i : Nat) => P.int (i : Int) := by
  unfold rangeP
  rw [show ((m : Int)).toNat = m by omega, List.range_eq_range']
 rw [e]; exact this
theorem px_forS {k : Nat} {n : Nat} (h : pe F it π = some (.int (n : Int))) (h1 : n ≤ 100000) (hw : M.contains k = false) : px F M (.for1 k true it s) π = loopP (fun d π => px F M s (setP π k d)) (rangeP (n : Int)) π :=
 px_forR h (Int.lt_of_le_of_lt (Int.ofNat_le.mpr h1) (by decide)) (Int.le_trans (by decide) (Int.natCast_nonneg n)) hw
mutual
theorem beqP_self : ∀ {n : Nat} {x : P}, okP n x = true → beqP x x = true
 | _, .non, _ => rfl
 | _, .bl a, _ => by simp [beqP]
 | _, .int a, _ => by simp [beqP]
 | _, .str a, _ => by simp [beqP]
 | 0, .tup a, h => by simp [okP] at h
 | n + 1, .tup a, h => beqPs_self (n := n) (x := a) h
 | _, .lst a b, h => by simp [okP] at h
 | _, .dct a b, h => by simp [okP] at h
 | _, .obj a, h => by simp [okP] at h
 | _, .kt a, h => by simp [okP] at h
theorem beqPs_self : ∀ {n : Nat} {x : List P}, okPs n x = true → beqPs x x = true
 | _, [], _ => rfl
 | n, a :: x, h => by
  have h : (okP n a && okPs n x) = true := h
  rw [Bool.and_eq_true] at h
  show (beqP a a && beqPs x x) = true
  rw [beqP_self h.1, beqPs_self h.2]
  rfl
end
@[simp] theorem cmp_eqLn {m m' : Bool} {xs : List P} : cmpPR .Eq (.lst m xs) (.lst m' []) = some (.bl xs.isEmpty) := by
 cases xs <;> rfl
end
end Dp


namespace Dp
open PySem
noncomputable def c_around : FD := ⟨1, 1, (.seq (.ret (.bin .Sub (.bin .Mod (.bin .Add (.var 0) (.cst (.int 1000000000))) (.cst (.int 2000000000))) (.cst (.int 1000000000))))
 .skip)⟩
noncomputable def c__law_whole : FD := ⟨1, 1, (.seq (.ret (.and (.isi .int (.var 0)) (.not (.isi .bool (.var 0)))))
 .skip)⟩
noncomputable def c_divided : FD := ⟨2, 2, (.seq (.ite (.cmp .Eq (.var 1) (.cst (.int 0))) (.seq (.ret (.cst (.int 0)))
 .skip) .skip)
 (.seq (.ret (.call 0 (.acons (.bin .FloorDiv (.var 0) (.var 1)) .anil) []))
 .skip))⟩
noncomputable def c_left_over : FD := ⟨2, 2, (.seq (.ite (.cmp .Eq (.var 1) (.cst (.int 0))) (.seq (.ret (.var 0))
 .skip) .skip)
 (.seq (.ret (.bin .Sub (.var 0) (.bin .Mult (.var 1) (.bin .FloorDiv (.var 0) (.var 1)))))
 .skip))⟩
noncomputable def c_reckon : FD := ⟨3, 3, (.seq (.ite (.cmp .Eq (.var 1) (.cst (.str (S "+")))) (.seq (.ret (.call 0 (.acons (.bin .Add (.var 0) (.var 2)) .anil) []))
 .skip) .skip)
 (.seq (.ite (.cmp .Eq (.var 1) (.cst (.str (S "-")))) (.seq (.ret (.call 0 (.acons (.bin .Sub (.var 0) (.var 2)) .anil) []))
 .skip) .skip)
 (.seq (.ite (.cmp .Eq (.var 1) (.cst (.str (S "*")))) (.seq (.ret (.call 0 (.acons (.bin .Mult (.var 0) (.var 2)) .anil) []))
 .skip) .skip)
 (.seq (.ite (.cmp .Eq (.var 1) (.cst (.str (S "/")))) (.seq (.ret (.call 1 (.acons (.var 0) (.acons (.var 2) .anil)) []))
 .skip) .skip)
 (.seq (.ret (.call 2 (.acons (.var 0) (.acons (.var 2) .anil)) []))
 .skip)))))⟩
noncomputable def c__law_small_by : FD := ⟨1, 2, (.seq (.set 1 (.lstE (.acons (.neg (.cst (.int 1000000000))) (.acons (.neg (.cst (.int 999999999))) (.acons (.neg (.cst (.int 2))) (.acons (.neg (.cst (.int 1))) (.acons (.cst (.int 0)) (.acons (.cst (.int 1)) (.acons (.cst (.int 2)) (.acons (.cst (.int 999999999)) .anil))))))))))
 (.seq (.ite (.cmp .Eq (.bin .Mod (.var 0) (.cst (.int 3))) (.cst (.int 0))) (.seq (.ret (.ix (.var 1) (.bin .Mod (.bin .FloorDiv (.var 0) (.cst (.int 3))) (.cst (.int 8)))))
 .skip) .skip)
 (.seq (.ite (.cmp .Eq (.bin .Mod (.var 0) (.cst (.int 3))) (.cst (.int 1))) (.seq (.ret (.bin .Sub (.bin .Mod (.bin .FloorDiv (.var 0) (.cst (.int 3))) (.cst (.int 13))) (.cst (.int 6))))
 .skip) .skip)
 (.seq (.ret (.bin .Sub (.bin .Mod (.bin .Mult (.bin .FloorDiv (.var 0) (.cst (.int 3))) (.cst (.int 48271))) (.cst (.int 2000000000))) (.cst (.int 1000000000))))
 .skip))))⟩
noncomputable def c__law_small : FD := ⟨1, 1, (.seq (.ret (.and (.call 17 (.acons (.var 0) .anil) []) (.and (.cmp .LtE (.neg (.cst (.int 1000000000))) (.var 0)) (.cmp .LtE (.var 0) (.cst (.int 999999999))))))
 .skip)⟩
noncomputable def c__law_between : FD := ⟨2, 2, (.seq (.ite (.cmp .Gt (.var 1) (.cst (.int 0))) (.seq (.ret (.and (.cmp .LtE (.cst (.int 0)) (.var 0)) (.cmp .Lt (.var 0) (.var 1))))
 .skip) .skip)
 (.seq (.ret (.and (.cmp .Lt (.var 1) (.var 0)) (.cmp .LtE (.var 0) (.cst (.int 0)))))
 .skip))⟩
noncomputable def c_replaced : FD := ⟨3, 3, (.seq (.ret (.bin .Add (.bin .Add (.slice (.var 0) .nop (.part (.var 1))) (.tupE (.acons (.var 2) .anil))) (.slice (.var 0) (.part (.bin .Add (.var 1) (.cst (.int 1)))) .nop)))
 .skip)⟩
noncomputable def c_is_so : FD := ⟨3, 3, (.seq (.ite (.cmp .Eq (.var 1) (.cst (.str (S "<")))) (.seq (.ret (.cmp .Lt (.var 0) (.var 2)))
 .skip) .skip)
 (.seq (.ite (.cmp .Eq (.var 1) (.cst (.str (S "<=")))) (.seq (.ret (.cmp .LtE (.var 0) (.var 2)))
 .skip) .skip)
 (.seq (.ite (.cmp .Eq (.var 1) (.cst (.str (S "=")))) (.seq (.ret (.cmp .Eq (.var 0) (.var 2)))
 .skip) .skip)
 (.seq (.ite (.cmp .Eq (.var 1) (.cst (.str (S ">=")))) (.seq (.ret (.cmp .GtE (.var 0) (.var 2)))
 .skip) .skip)
 (.seq (.ite (.cmp .Eq (.var 1) (.cst (.str (S ">")))) (.seq (.ret (.cmp .Gt (.var 0) (.var 2)))
 .skip) .skip)
 (.seq (.ret (.cmp .NotEq (.var 0) (.var 2)))
 .skip))))))⟩
noncomputable def c_worth : FD := ⟨2, 2, (.seq (.ite (.cmp .Eq (.ix (.var 0) (.cst (.int 0))) (.cst (.str (S "name")))) (.seq (.ret (.ix (.var 1) (.ix (.var 0) (.cst (.int 1)))))
 .skip) .skip)
 (.seq (.ret (.ix (.var 0) (.cst (.int 1))))
 .skip))⟩
noncomputable def c_at_end : FD := ⟨2, 2, (.seq (.ret (.cmp .GtE (.ix (.var 1) (.cst (.int 0))) (.len (.ix (.var 0) (.cst (.int 2))))))
 .skip)⟩
noncomputable def c_values_behind : FD := ⟨2, 3, (.seq (.ite (.cmp .NotEq (.ix (.var 0) (.cst (.int 0))) (.cst (.str (S "put")))) (.seq (.ret (.var 1))
 .skip) .skip)
 (.seq (.set 2 (.call 3 (.acons (.call 5 (.acons (.ix (.var 0) (.cst (.int 2))) (.acons (.var 1) .anil)) []) (.acons (.ix (.var 0) (.cst (.int 3))) (.acons (.call 5 (.acons (.ix (.var 0) (.cst (.int 4))) (.acons (.var 1) .anil)) []) .anil))) []))
 (.seq (.ret (.call 42 (.acons (.var 1) (.acons (.ix (.var 0) (.cst (.int 1))) (.acons (.var 2) .anil))) []))
 .skip)))⟩
noncomputable def c_place_behind : FD := ⟨3, 3, (.seq (.ite (.cmp .Eq (.ix (.var 0) (.cst (.int 0))) (.cst (.str (S "go")))) (.seq (.ret (.ix (.var 0) (.cst (.int 1))))
 .skip) .skip)
 (.seq (.ite (.and (.cmp .Eq (.ix (.var 0) (.cst (.int 0))) (.cst (.str (S "if")))) (.call 4 (.acons (.call 5 (.acons (.ix (.var 0) (.cst (.int 1))) (.acons (.var 2) .anil)) []) (.acons (.ix (.var 0) (.cst (.int 2))) (.acons (.call 5 (.acons (.ix (.var 0) (.cst (.int 3))) (.acons (.var 2) .anil)) []) .anil))) [])) (.seq (.ret (.ix (.var 0) (.cst (.int 4))))
 .skip) .skip)
 (.seq (.ret (.bin .Add (.var 1) (.cst (.int 1))))
 .skip)))⟩
noncomputable def c_moved : FD := ⟨2, 5, (.seq (.ite (.call 7 (.acons (.var 0) (.acons (.var 1) .anil)) []) (.seq (.ret (.tupE (.acons (.cst (.str (S "none"))) .anil)))
 .skip) .skip)
 (.seq (.set 2 (.ix (.var 1) (.cst (.int 0))))
 (.seq (.set 3 (.ix (.var 1) (.cst (.int 1))))
 (.seq (.set 4 (.ix (.ix (.var 0) (.cst (.int 2))) (.var 2)))
 (.seq (.ite (.cmp .Eq (.ix (.var 4) (.cst (.int 0))) (.cst (.str (S "tell")))) (.seq (.ret (.tupE (.acons (.cst (.str (S "told"))) (.acons (.call 5 (.acons (.ix (.var 4) (.cst (.int 1))) (.acons (.var 3) .anil)) []) .anil))))
 .skip) .skip)
 (.seq (.ret (.tupE (.acons (.call 9 (.acons (.var 4) (.acons (.var 2) (.acons (.var 3) .anil))) []) (.acons (.call 8 (.acons (.var 4) (.acons (.var 3) .anil)) []) .anil))))
 .skip))))))⟩
noncomputable def c__law_cell_at : FD := ⟨2, 2, (.seq (.ite (.cmp .Lt (.var 1) (.len (.var 0))) (.seq (.ret (.ix (.var 0) (.var 1)))
 .skip) .skip)
 (.seq (.ite (.cmp .Eq (.var 0) (.lstE .anil)) (.seq (.ret (.bin .Mod (.bin .Mult (.bin .Add (.bin .Mult (.var 1) (.var 1)) (.cst (.int 7))) (.cst (.int 48271))) (.cst (.int 2147483629))))
 .skip) .skip)
 (.seq (.ret (.bin .Mod (.bin .Mult (.bin .Add (.bin .Mod (.ix (.var 0) (.cst (.int 0))) (.cst (.int 2147483647))) (.cst (.int 7))) (.bin .Add (.bin .Mult (.var 1) (.var 1)) (.cst (.int 48271)))) (.cst (.int 2147483629))))
 .skip)))⟩
noncomputable def c__law_operand : FD := ⟨2, 2, (.seq (.ite (.and (.cmp .Gt (.var 1) (.cst (.int 0))) (.cmp .Gt (.bin .Mod (.var 0) (.cst (.int 3))) (.cst (.int 0)))) (.seq (.ret (.tupE (.acons (.cst (.str (S "name"))) (.acons (.bin .Mod (.bin .FloorDiv (.var 0) (.cst (.int 3))) (.var 1)) .anil))))
 .skip) .skip)
 (.seq (.ret (.tupE (.acons (.cst (.str (S "number"))) (.acons (.call 19 (.acons (.bin .FloorDiv (.var 0) (.cst (.int 3))) .anil) []) .anil))))
 .skip))⟩
noncomputable def c__law_row : FD := ⟨4, 9, (.seq (.set 4 (.call 28 (.acons (.bin .Mod (.bin .Mult (.var 1) (.cst (.int 48271))) (.cst (.int 2147483647))) (.acons (.var 2) .anil)) []))
 (.seq (.set 5 (.call 28 (.acons (.bin .Mod (.bin .Mult (.bin .Add (.var 1) (.cst (.int 5))) (.cst (.int 1226874159))) (.cst (.int 2147483647))) (.acons (.var 2) .anil)) []))
 (.seq (.set 6 (.bin .Mod (.bin .Mult (.var 0) (.cst (.int 48271))) (.cst (.int 2147483647))))
 (.seq (.set 7 (.bin .Mod (.bin .Mod (.bin .Mult (.bin .Add (.var 0) (.cst (.int 1))) (.cst (.int 742938285))) (.cst (.int 2147483647))) (.bin .Add (.var 3) (.cst (.int 1)))))
 (.seq (.ite (.and (.cmp .Lt (.bin .Mod (.var 0) (.cst (.int 8))) (.cst (.int 3))) (.cmp .Gt (.var 2) (.cst (.int 0)))) (.seq (.set 8 (.bin .Mod (.bin .Mod (.bin .Mult (.bin .Add (.var 1) (.cst (.int 3))) (.cst (.int 950706376))) (.cst (.int 2147483647))) (.var 2)))
 (.seq (.ret (.tupE (.acons (.cst (.str (S "put"))) (.acons (.var 8) (.acons (.var 4) (.acons (.ix (.lstE (.acons (.cst (.str (S "+"))) (.acons (.cst (.str (S "-"))) (.acons (.cst (.str (S "*"))) (.acons (.cst (.str (S "/"))) (.acons (.cst (.str (S "mod"))) .anil)))))) (.bin .Mod (.var 6) (.cst (.int 5)))) (.acons (.var 5) .anil)))))))
 .skip)) .skip)
 (.seq (.ite (.cmp .Lt (.bin .Mod (.var 0) (.cst (.int 8))) (.cst (.int 6))) (.seq (.ret (.tupE (.acons (.cst (.str (S "if"))) (.acons (.var 4) (.acons (.ix (.lstE (.acons (.cst (.str (S "<"))) (.acons (.cst (.str (S "<="))) (.acons (.cst (.str (S "="))) (.acons (.cst (.str (S ">="))) (.acons (.cst (.str (S ">"))) (.acons (.cst (.str (S "!="))) .anil))))))) (.bin .Mod (.var 6) (.cst (.int 6)))) (.acons (.var 5) (.acons (.var 7) .anil)))))))
 .skip) .skip)
 (.seq (.ite (.cmp .Eq (.bin .Mod (.var 0) (.cst (.int 8))) (.cst (.int 6))) (.seq (.ret (.ix (.lstE (.acons (.tupE (.acons (.cst (.str (S "go"))) (.acons (.var 7) .anil))) (.acons (.tupE (.acons (.cst (.str (S "skip"))) .anil)) .anil))) (.bin .Mod (.var 6) (.cst (.int 2)))))
 .skip) .skip)
 (.seq (.ret (.tupE (.acons (.cst (.str (S "tell"))) (.acons (.var 4) .anil))))
 .skip))))))))⟩
noncomputable def b__law_program_0 : CS := (.seq (.set 10 (.call 19 (.acons (.bin .Add (.bin .FloorDiv (.var 2) (.cst (.int 4))) (.var 7)) .anil) []))
 (.seq (.app 9 (.tupE (.acons (.min (.var 10) (.cst (.int 5))) (.acons (.max (.var 10) (.cst (.int 5))) .anil))))
 .skip))
noncomputable def b__law_program_1 : CS := (.seq (.set 8 (.call 27 (.acons (.var 0) (.acons (.bin .Add (.cst (.int 2)) (.bin .Mult (.cst (.int 2)) (.var 7))) .anil)) []))
 (.seq (.app 6 (.call 29 (.acons (.var 8) (.acons (.call 27 (.acons (.var 0) (.acons (.bin .Add (.cst (.int 3)) (.bin .Mult (.cst (.int 2)) (.var 7))) .anil)) []) (.acons (.var 4) (.acons (.var 5) .anil)))) []))
 .skip))
noncomputable def c__law_program : FD := ⟨2, 11, (.seq (.set 2 (.bin .Mod (.call 27 (.acons (.var 0) (.acons (.cst (.int 0)) .anil)) []) (.cst (.int 2147483647))))
 (.seq (.set 3 (.bin .Mod (.var 2) (.cst (.int 4))))
 (.seq (.set 4 (.bin .Add (.var 3) (.bin .Mod (.bin .Mod (.bin .Mult (.var 2) (.cst (.int 48271))) (.cst (.int 2147483647))) (.bin .Sub (.cst (.int 6)) (.var 3)))))
 (.seq (.set 5 (.bin .Mod (.call 27 (.acons (.var 0) (.acons (.cst (.int 1)) .anil)) []) (.bin .Add (.var 1) (.cst (.int 1)))))
 (.seq (.set 6 (.lstE .anil))
 (.seq (.for1 7 true (.var 5) b__law_program_1)
 (.seq (.set 9 (.lstE .anil))
 (.seq (.for1 7 true (.var 3) b__law_program_0)
 (.seq (.ret (.tupE (.acons (.tupleOf (.var 9)) (.acons (.var 4) (.acons (.tupleOf (.var 6)) .anil)))))
 .skip)))))))))⟩
noncomputable def b_bit_of_0 : CS := (.seq (.set 1 (.bin .Mult (.var 1) (.cst (.int 2))))
 .skip)
noncomputable def c_bit_of : FD := ⟨1, 3, (.seq (.set 1 (.cst (.int 1)))
 (.seq (.for1 2 true (.var 0) b_bit_of_0)
 (.seq (.ret (.var 1))
 .skip)))⟩
noncomputable def c_began : FD := ⟨2, 2, (.seq (.ret (.tupE (.acons (.cst (.int 0)) (.acons (.bin .Add (.var 1) (.bin .Mult (.tupE (.acons (.cst (.int 0)) .anil)) (.bin .Sub (.ix (.var 0) (.cst (.int 1))) (.len (.var 1))))) .anil))))
 .skip)⟩
noncomputable def c_is_outcome : FD := ⟨1, 1, (.seq (.ret (.isi .str (.ix (.var 0) (.cst (.int 0)))))
 .skip)⟩
noncomputable def b_trail_0 : CS := (.seq (.set 6 (.call 10 (.acons (.var 0) (.acons (.var 3) .anil)) []))
 (.seq (.app 4 (.var 6))
 (.seq (.ite (.call 11 (.acons (.var 6) .anil) []) (.seq (.ret (.tupleOf (.var 4)))
 .skip) .skip)
 (.seq (.set 3 (.var 6))
 .skip))))
noncomputable def c_trail : FD := ⟨3, 7, (.seq (.set 3 (.call 6 (.acons (.var 0) (.acons (.var 1) .anil)) []))
 (.seq (.set 4 (.lstE (.acons (.var 3) .anil)))
 (.seq (.for1 5 true (.var 2) b_trail_0)
 (.seq (.app 4 (.ife (.call 7 (.acons (.var 0) (.acons (.var 3) .anil)) []) (.tupE (.acons (.cst (.str (S "none"))) .anil)) (.tupE (.acons (.cst (.str (S "late"))) .anil))))
 (.seq (.ret (.tupleOf (.var 4)))
 .skip)))))⟩
noncomputable def c_outcome : FD := ⟨3, 3, (.seq (.ret (.ix (.call 12 (.acons (.var 0) (.acons (.var 1) (.acons (.var 2) .anil))) []) (.neg (.cst (.int 1)))))
 .skip)⟩
noncomputable def e_places_done_0 : CE := (.comp false [] (.var 1) (.ix (.var 0) (.cst (.int 0))) (.cst (.bl true)))
noncomputable def c_places_done : FD := ⟨1, 2, (.seq (.set 1 (.slice (.var 0) .nop (.part (.neg (.cst (.int 1))))))
 (.seq (.ite (.cmp .NotEq (.ix (.ix (.var 0) (.neg (.cst (.int 1)))) (.cst (.int 0))) (.cst (.str (S "told")))) (.seq (.set 1 (.slice (.var 1) .nop (.part (.neg (.cst (.int 1))))))
 .skip) .skip)
 (.seq (.ret e_places_done_0)
 .skip)))⟩
noncomputable def b_seen_in_0 : CS := (.seq (.set 1 (.bin .BitOr (.var 1) (.call 43 (.acons (.var 2) .anil) [])))
 .skip)
noncomputable def c_seen_in : FD := ⟨1, 3, (.seq (.set 1 (.cst (.int 0)))
 (.seq (.for1 2 false (.call 14 (.acons (.var 0) .anil) []) b_seen_in_0)
 (.seq (.ret (.var 1))
 .skip)))⟩
noncomputable def c_seen : FD := ⟨3, 3, (.seq (.ret (.call 44 (.acons (.call 12 (.acons (.var 0) (.acons (.var 1) (.acons (.var 2) .anil))) []) .anil) []))
 .skip)⟩
noncomputable def c_are_numbers : FD := ⟨2, 2, (.seq (.ret (.and (.cmp .Eq (.ix (.var 0) (.cst (.int 0))) (.cst (.str (S "number")))) (.cmp .Eq (.ix (.var 1) (.cst (.int 0))) (.cst (.str (S "number"))))))
 .skip)⟩
noncomputable def c_lesser_first : FD := ⟨3, 3, (.seq (.ite (.cmp .Lt (.ix (.var 0) (.var 2)) (.ix (.var 0) (.var 1))) (.seq (.ret (.call 42 (.acons (.call 42 (.acons (.var 0) (.acons (.var 1) (.acons (.ix (.var 0) (.var 2)) .anil))) []) (.acons (.var 2) (.acons (.ix (.var 0) (.var 1)) .anil))) []))
 .skip) .skip)
 (.seq (.ret (.var 0))
 .skip))⟩
noncomputable def c_less_as_more : FD := ⟨1, 1, (.seq (.ite (.and (.cmp .Eq (.ix (.var 0) (.cst (.int 3))) (.cst (.str (S "-")))) (.cmp .Eq (.ix (.ix (.var 0) (.cst (.int 4))) (.cst (.int 0))) (.cst (.str (S "number"))))) (.seq (.ret (.bin .Add (.slice (.var 0) .nop (.part (.cst (.int 3)))) (.tupE (.acons (.cst (.str (S "+"))) (.acons (.tupE (.acons (.cst (.str (S "number"))) (.acons (.call 0 (.acons (.neg (.ix (.ix (.var 0) (.cst (.int 4))) (.cst (.int 1)))) .anil) []) .anil))) .anil)))))
 .skip) .skip)
 (.seq (.ret (.var 0))
 .skip))⟩
noncomputable def c_without_reckoning : FD := ⟨1, 4, (.seq (.set 1 (.ix (.var 0) (.cst (.int 2))))
 (.seq (.set 2 (.ix (.var 0) (.cst (.int 3))))
 (.seq (.set 3 (.ix (.var 0) (.cst (.int 4))))
 (.seq (.ite (.or (.and (.cmp .Eq (.var 2) (.cst (.str (S "*")))) (.cmp .Eq (.var 3) (.cst (.tup [(.str (S "number")), (.int 0)])))) (.or (.and (.cmp .Eq (.var 2) (.cst (.str (S "mod")))) (.cmp .Eq (.var 3) (.cst (.tup [(.str (S "number")), (.int 1)])))) (.and (.cmp .Eq (.var 2) (.cst (.str (S "-")))) (.cmp .Eq (.var 1) (.var 3))))) (.seq (.ret (.tupE (.acons (.cst (.str (S "put"))) (.acons (.ix (.var 0) (.cst (.int 1))) (.acons (.cst (.tup [(.str (S "number")), (.int 0)])) (.acons (.cst (.str (S "+"))) (.acons (.cst (.tup [(.str (S "number")), (.int 0)])) .anil)))))))
 .skip) .skip)
 (.seq (.ite (.and (.cmp .In (.var 2) (.tupE (.acons (.cst (.str (S "*"))) (.acons (.cst (.str (S "/"))) .anil)))) (.cmp .Eq (.var 3) (.cst (.tup [(.str (S "number")), (.int 1)])))) (.seq (.ret (.tupE (.acons (.cst (.str (S "put"))) (.acons (.ix (.var 0) (.cst (.int 1))) (.acons (.var 1) (.acons (.cst (.str (S "+"))) (.acons (.cst (.tup [(.str (S "number")), (.int 0)])) .anil)))))))
 .skip) .skip)
 (.seq (.ret (.var 0))
 .skip))))))⟩
noncomputable def c_made_put : FD := ⟨1, 1, (.seq (.ite (.call 73 (.acons (.ix (.var 0) (.cst (.int 2))) (.acons (.ix (.var 0) (.cst (.int 4))) .anil)) []) (.seq (.ret (.tupE (.acons (.cst (.str (S "put"))) (.acons (.ix (.var 0) (.cst (.int 1))) (.acons (.tupE (.acons (.cst (.str (S "number"))) (.acons (.call 3 (.acons (.ix (.ix (.var 0) (.cst (.int 2))) (.cst (.int 1))) (.acons (.ix (.var 0) (.cst (.int 3))) (.acons (.ix (.ix (.var 0) (.cst (.int 4))) (.cst (.int 1))) .anil))) []) .anil))) (.acons (.cst (.str (S "+"))) (.acons (.cst (.tup [(.str (S "number")), (.int 0)])) .anil)))))))
 .skip) .skip)
 (.seq (.set 0 (.call 75 (.acons (.var 0) .anil) []))
 (.seq (.ite (.cmp .In (.ix (.var 0) (.cst (.int 3))) (.tupE (.acons (.cst (.str (S "+"))) (.acons (.cst (.str (S "*"))) .anil)))) (.seq (.set 0 (.call 74 (.acons (.var 0) (.acons (.cst (.int 2)) (.acons (.cst (.int 4)) .anil))) []))
 .skip) .skip)
 (.seq (.set 0 (.call 76 (.acons (.var 0) .anil) []))
 (.seq (.ite (.cmp .Eq (.var 0) (.tupE (.acons (.cst (.str (S "put"))) (.acons (.ix (.var 0) (.cst (.int 1))) (.acons (.tupE (.acons (.cst (.str (S "name"))) (.acons (.ix (.var 0) (.cst (.int 1))) .anil))) (.acons (.cst (.str (S "+"))) (.acons (.cst (.tup [(.str (S "number")), (.int 0)])) .anil))))))) (.seq (.ret (.cst (.tup [(.str (S "skip"))])))
 .skip) .skip)
 (.seq (.ret (.var 0))
 .skip))))))⟩
noncomputable def c_greater_as_less : FD := ⟨1, 1, (.seq (.ite (.cmp .Eq (.ix (.var 0) (.cst (.int 2))) (.cst (.str (S ">")))) (.seq (.ret (.tupE (.acons (.cst (.str (S "if"))) (.acons (.ix (.var 0) (.cst (.int 3))) (.acons (.cst (.str (S "<"))) (.acons (.ix (.var 0) (.cst (.int 1))) (.acons (.ix (.var 0) (.cst (.int 4))) .anil)))))))
 .skip) .skip)
 (.seq (.ite (.cmp .Eq (.ix (.var 0) (.cst (.int 2))) (.cst (.str (S ">=")))) (.seq (.ret (.tupE (.acons (.cst (.str (S "if"))) (.acons (.ix (.var 0) (.cst (.int 3))) (.acons (.cst (.str (S "<="))) (.acons (.ix (.var 0) (.cst (.int 1))) (.acons (.ix (.var 0) (.cst (.int 4))) .anil)))))))
 .skip) .skip)
 (.seq (.ret (.var 0))
 .skip)))⟩
noncomputable def c_is_settled : FD := ⟨1, 1, (.seq (.ret (.or (.call 73 (.acons (.ix (.var 0) (.cst (.int 1))) (.acons (.ix (.var 0) (.cst (.int 3))) .anil)) []) (.cmp .Eq (.ix (.var 0) (.cst (.int 1))) (.ix (.var 0) (.cst (.int 3))))))
 .skip)⟩
noncomputable def c_settled : FD := ⟨1, 2, (.seq (.set 1 (.call 4 (.acons (.ix (.ix (.var 0) (.cst (.int 1))) (.cst (.int 1))) (.acons (.ix (.var 0) (.cst (.int 2))) (.acons (.ix (.ix (.var 0) (.cst (.int 3))) (.cst (.int 1))) .anil))) []))
 (.seq (.ret (.ife (.var 1) (.tupE (.acons (.cst (.str (S "go"))) (.acons (.ix (.var 0) (.cst (.int 4))) .anil))) (.cst (.tup [(.str (S "skip"))]))))
 .skip))⟩
noncomputable def c_most_as_less : FD := ⟨1, 3, (.seq (.set 1 (.ix (.var 0) (.cst (.int 1))))
 (.seq (.set 2 (.ix (.var 0) (.cst (.int 3))))
 (.seq (.ite (.cmp .NotEq (.ix (.var 0) (.cst (.int 2))) (.cst (.str (S "<=")))) (.seq (.ret (.var 0))
 .skip) .skip)
 (.seq (.ite (.and (.cmp .Eq (.ix (.var 2) (.cst (.int 0))) (.cst (.str (S "number")))) (.cmp .Lt (.ix (.var 2) (.cst (.int 1))) (.cst (.int 999999999)))) (.seq (.ret (.tupE (.acons (.cst (.str (S "if"))) (.acons (.var 1) (.acons (.cst (.str (S "<"))) (.acons (.tupE (.acons (.cst (.str (S "number"))) (.acons (.bin .Add (.ix (.var 2) (.cst (.int 1))) (.cst (.int 1))) .anil))) (.acons (.ix (.var 0) (.cst (.int 4))) .anil)))))))
 .skip) .skip)
 (.seq (.ite (.and (.cmp .Eq (.ix (.var 1) (.cst (.int 0))) (.cst (.str (S "number")))) (.cmp .Gt (.ix (.var 1) (.cst (.int 1))) (.cst (.int (-1000000000))))) (.seq (.ret (.tupE (.acons (.cst (.str (S "if"))) (.acons (.tupE (.acons (.cst (.str (S "number"))) (.acons (.bin .Sub (.ix (.var 1) (.cst (.int 1))) (.cst (.int 1))) .anil))) (.acons (.cst (.str (S "<"))) (.acons (.var 2) (.acons (.ix (.var 0) (.cst (.int 4))) .anil)))))))
 .skip) .skip)
 (.seq (.ret (.var 0))
 .skip))))))⟩
noncomputable def c_made_if : FD := ⟨2, 2, (.seq (.ite (.cmp .Eq (.ix (.var 0) (.cst (.int 4))) (.bin .Add (.var 1) (.cst (.int 1)))) (.seq (.ret (.cst (.tup [(.str (S "skip"))])))
 .skip) .skip)
 (.seq (.set 0 (.call 78 (.acons (.var 0) .anil) []))
 (.seq (.ite (.call 79 (.acons (.var 0) .anil) []) (.seq (.ret (.call 80 (.acons (.var 0) .anil) []))
 .skip) .skip)
 (.seq (.ite (.cmp .In (.ix (.var 0) (.cst (.int 2))) (.tupE (.acons (.cst (.str (S "="))) (.acons (.cst (.str (S "!="))) .anil)))) (.seq (.set 0 (.call 74 (.acons (.var 0) (.acons (.cst (.int 1)) (.acons (.cst (.int 3)) .anil))) []))
 .skip) .skip)
 (.seq (.ret (.call 81 (.acons (.var 0) .anil) []))
 .skip)))))⟩
noncomputable def c_made_row : FD := ⟨2, 2, (.seq (.ite (.cmp .Eq (.ix (.var 0) (.cst (.int 0))) (.cst (.str (S "put")))) (.seq (.ret (.call 77 (.acons (.var 0) .anil) []))
 .skip) .skip)
 (.seq (.ite (.cmp .Eq (.ix (.var 0) (.cst (.int 0))) (.cst (.str (S "if")))) (.seq (.ret (.call 82 (.acons (.var 0) (.acons (.var 1) .anil)) []))
 .skip) .skip)
 (.seq (.ite (.cmp .Eq (.var 0) (.tupE (.acons (.cst (.str (S "go"))) (.acons (.bin .Add (.var 1) (.cst (.int 1))) .anil)))) (.seq (.ret (.cst (.tup [(.str (S "skip"))])))
 .skip) .skip)
 (.seq (.ret (.var 0))
 .skip))))⟩
noncomputable def c_operand_shown : FD := ⟨1, 1, (.seq (.ite (.cmp .Eq (.ix (.var 0) (.cst (.int 0))) (.cst (.str (S "name")))) (.seq (.ret (.ix (.cst (.str (S "abcdefghijklmnopqrstuvwxyz"))) (.ix (.var 0) (.cst (.int 1)))))
 .skip) .skip)
 (.seq (.ret (.strOf (.ix (.var 0) (.cst (.int 1)))))
 .skip))⟩
noncomputable def c_words_of : FD := ⟨1, 1, (.seq (.ite (.cmp .Eq (.ix (.var 0) (.cst (.int 0))) (.cst (.str (S "put")))) (.seq (.ret (.lstE (.acons (.cst (.str (S "put"))) (.acons (.ix (.cst (.str (S "abcdefghijklmnopqrstuvwxyz"))) (.ix (.var 0) (.cst (.int 1)))) (.acons (.call 218 (.acons (.ix (.var 0) (.cst (.int 2))) .anil) []) (.acons (.ix (.var 0) (.cst (.int 3))) (.acons (.call 218 (.acons (.ix (.var 0) (.cst (.int 4))) .anil) []) .anil)))))))
 .skip) .skip)
 (.seq (.ite (.cmp .Eq (.ix (.var 0) (.cst (.int 0))) (.cst (.str (S "if")))) (.seq (.ret (.lstE (.acons (.cst (.str (S "if"))) (.acons (.call 218 (.acons (.ix (.var 0) (.cst (.int 1))) .anil) []) (.acons (.ix (.var 0) (.cst (.int 2))) (.acons (.call 218 (.acons (.ix (.var 0) (.cst (.int 3))) .anil) []) (.acons (.cst (.str (S "go"))) (.acons (.strOf (.ix (.var 0) (.cst (.int 4)))) .anil))))))))
 .skip) .skip)
 (.seq (.ite (.cmp .Eq (.ix (.var 0) (.cst (.int 0))) (.cst (.str (S "go")))) (.seq (.ret (.lstE (.acons (.cst (.str (S "go"))) (.acons (.strOf (.ix (.var 0) (.cst (.int 1)))) .anil))))
 .skip) .skip)
 (.seq (.ite (.cmp .Eq (.ix (.var 0) (.cst (.int 0))) (.cst (.str (S "tell")))) (.seq (.ret (.lstE (.acons (.cst (.str (S "tell"))) (.acons (.call 218 (.acons (.ix (.var 0) (.cst (.int 1))) .anil) []) .anil))))
 .skip) .skip)
 (.seq (.ret (.lstE (.acons (.cst (.str (S "skip"))) .anil)))
 .skip)))))⟩
noncomputable def e_shown_0 : CE := (.comp true [1] (.len (.var 1)) (.lstE (.acons (.cst (.str (S "take"))) (.acons (.ix (.cst (.str (S "abcdefghijklmnopqrstuvwxyz"))) (.var 0)) (.acons (.strOf (.ix (.ix (.var 1) (.var 0)) (.cst (.int 0)))) (.acons (.strOf (.ix (.ix (.var 1) (.var 0)) (.cst (.int 1)))) .anil))))) (.cst (.bl true)))
noncomputable def e_shown_1 : CE := (.comp false [] (.rng2 (.len (.var 1)) (.ix (.var 0) (.cst (.int 1)))) (.lstE (.acons (.cst (.str (S "name"))) (.acons (.ix (.cst (.str (S "abcdefghijklmnopqrstuvwxyz"))) (.var 0)) .anil))) (.cst (.bl true)))
noncomputable def e_shown_2 : CE := (.comp false [] (.ix (.var 0) (.cst (.int 2))) (.call 219 (.acons (.var 0) .anil) []) (.cst (.bl true)))
noncomputable def e_shown_3 : CE := (.comp false [] (.var 2) (.joinE (.cst (.str (S " "))) (.var 0)) (.cst (.bl true)))
noncomputable def c_shown : FD := ⟨1, 3, (.seq (.set 1 (.ix (.var 0) (.cst (.int 0))))
 (.seq (.set 2 e_shown_0)
 (.seq (.ext 2 e_shown_1)
 (.seq (.ext 2 e_shown_2)
 (.seq (.ret (.joinE (.cst (.str (S "\n"))) e_shown_3))
 .skip)))))⟩
noncomputable def b__law_program_k11_0 : CS := (.seq (.set 10 (.call 19 (.acons (.call 27 (.acons (.var 0) (.acons (.bin .Add (.cst (.int 2)) (.bin .Mult (.cst (.int 2)) (.var 7))) .anil)) []) .anil) []))
 (.seq (.set 11 (.call 19 (.acons (.call 27 (.acons (.var 0) (.acons (.bin .Add (.cst (.int 3)) (.bin .Mult (.cst (.int 2)) (.var 7))) .anil)) []) .anil) []))
 (.seq (.app 9 (.tupE (.acons (.min (.var 10) (.var 11)) (.acons (.max (.var 10) (.var 11)) .anil))))
 .skip)))
noncomputable def b__law_program_k11_1 : CS := (.seq (.set 8 (.call 27 (.acons (.var 0) (.acons (.bin .Add (.cst (.int 8)) (.bin .Mult (.cst (.int 2)) (.var 7))) .anil)) []))
 (.seq (.app 6 (.call 29 (.acons (.var 8) (.acons (.call 27 (.acons (.var 0) (.acons (.bin .Add (.cst (.int 9)) (.bin .Mult (.cst (.int 2)) (.var 7))) .anil)) []) (.acons (.var 4) (.acons (.var 5) .anil)))) []))
 .skip))
noncomputable def c__law_program_k11 : FD := ⟨2, 12, (.seq (.set 2 (.bin .Mod (.call 27 (.acons (.var 0) (.acons (.cst (.int 0)) .anil)) []) (.cst (.int 2147483647))))
 (.seq (.set 3 (.bin .Mod (.var 2) (.cst (.int 4))))
 (.seq (.set 4 (.bin .Add (.var 3) (.bin .Mod (.bin .Mod (.bin .Mult (.var 2) (.cst (.int 48271))) (.cst (.int 2147483647))) (.bin .Sub (.cst (.int 6)) (.var 3)))))
 (.seq (.set 5 (.bin .Mod (.call 27 (.acons (.var 0) (.acons (.cst (.int 1)) .anil)) []) (.bin .Add (.var 1) (.cst (.int 1)))))
 (.seq (.set 6 (.lstE .anil))
 (.seq (.for1 7 true (.var 5) b__law_program_k11_1)
 (.seq (.set 9 (.lstE .anil))
 (.seq (.for1 7 true (.var 3) b__law_program_k11_0)
 (.seq (.ret (.tupE (.acons (.tupleOf (.var 9)) (.acons (.var 4) (.acons (.tupleOf (.var 6)) .anil)))))
 .skip)))))))))⟩
noncomputable def c__law_word_k11 : FD := ⟨1, 1, (.seq (.ite (.cmp .Eq (.ix (.var 0) (.cst (.int 0))) (.cst (.str (S "name")))) (.seq (.ret (.ix (.cst (.str (S "abcde"))) (.ix (.var 0) (.cst (.int 1)))))
 .skip) .skip)
 (.seq (.ret (.strOf (.ix (.var 0) (.cst (.int 1)))))
 .skip))⟩
noncomputable def c__law_line : FD := ⟨1, 2, (.seq (.ite (.cmp .Eq (.ix (.var 0) (.cst (.int 0))) (.cst (.str (S "put")))) (.seq (.set 1 (.bin .Add (.bin .Add (.bin .Add (.cst (.str (S "put "))) (.ix (.cst (.str (S "abcde"))) (.ix (.var 0) (.cst (.int 1))))) (.cst (.str (S " ")))) (.call 214 (.acons (.ix (.var 0) (.cst (.int 2))) .anil) [])))
 (.seq (.ret (.bin .Add (.bin .Add (.bin .Add (.bin .Add (.var 1) (.cst (.str (S " ")))) (.ix (.var 0) (.cst (.int 3)))) (.cst (.str (S " ")))) (.call 214 (.acons (.ix (.var 0) (.cst (.int 4))) .anil) [])))
 .skip)) .skip)
 (.seq (.ite (.cmp .Eq (.ix (.var 0) (.cst (.int 0))) (.cst (.str (S "if")))) (.seq (.set 1 (.bin .Add (.bin .Add (.bin .Add (.cst (.str (S "if "))) (.call 214 (.acons (.ix (.var 0) (.cst (.int 1))) .anil) [])) (.cst (.str (S " ")))) (.ix (.var 0) (.cst (.int 2)))))
 (.seq (.ret (.bin .Add (.bin .Add (.bin .Add (.bin .Add (.var 1) (.cst (.str (S " ")))) (.call 214 (.acons (.ix (.var 0) (.cst (.int 3))) .anil) [])) (.cst (.str (S " go ")))) (.strOf (.ix (.var 0) (.cst (.int 4))))))
 .skip)) .skip)
 (.seq (.ite (.cmp .Eq (.ix (.var 0) (.cst (.int 0))) (.cst (.str (S "go")))) (.seq (.ret (.bin .Add (.cst (.str (S "go "))) (.strOf (.ix (.var 0) (.cst (.int 1))))))
 .skip) .skip)
 (.seq (.ite (.cmp .Eq (.ix (.var 0) (.cst (.int 0))) (.cst (.str (S "tell")))) (.seq (.ret (.bin .Add (.cst (.str (S "tell "))) (.call 214 (.acons (.ix (.var 0) (.cst (.int 1))) .anil) [])))
 .skip) .skip)
 (.seq (.ret (.cst (.str (S "skip"))))
 .skip)))))⟩
noncomputable def e_law_k11_0 : CE := (.comp false [] (.ix (.var 1) (.cst (.int 2))) (.call 221 (.acons (.var 0) .anil) []) (.cst (.bl true)))
noncomputable def b_law_k11_0 : CS := (.seq (.ite (.cmp .Lt (.var 3) (.len (.ix (.var 1) (.cst (.int 0))))) (.seq (.set2 4 5 (.ix (.ix (.var 1) (.cst (.int 0))) (.var 3)))
 (.seq (.app 2 (.bin .Add (.bin .Add (.bin .Add (.bin .Add (.bin .Add (.cst (.str (S "take "))) (.ix (.cst (.str (S "abcde"))) (.var 3))) (.cst (.str (S " ")))) (.strOf (.var 4))) (.cst (.str (S " ")))) (.strOf (.var 5))))
 .skip)) (.seq (.app 2 (.bin .Add (.cst (.str (S "name "))) (.ix (.cst (.str (S "abcde"))) (.var 3))))
 .skip))
 .skip)
noncomputable def c_law_k11 : FD := ⟨1, 7, (.seq (.set 1 (.call 30 (.acons (.var 0) (.acons (.cst (.int 12)) .anil)) []))
 (.seq (.set 2 (.lstE .anil))
 (.seq (.for1 3 true (.ix (.var 1) (.cst (.int 1))) b_law_k11_0)
 (.seq (.set 2 (.bin .Add (.var 2) e_law_k11_0))
 (.seq (.set 6 (.call 220 (.acons (.var 1) .anil) []))
 (.seq (.ret (.and (.isi .str (.var 6)) (.cmp .Eq (.var 6) (.joinE (.cst (.str (S "\n"))) (.var 2)))))
 .skip))))))⟩
end Dp

noncomputable section
namespace Dp
open PySem
def Sm (a : Int) : Prop := -1000000000 ≤ a ∧ a ≤ 999999999
instance {a : Int} : Decidable (Sm a) := inferInstanceAs (Decidable (_ ∧ _))
theorem Sm.lim {a : Int} (h : Sm a) : lim64 a = true := limP_of (by have := h.1; omega) (by have := h.2; omega)
structure NumT (T : Nat → Option FD) : Prop where
 t0 : T 0 = some c_around
 t1 : T 1 = some c_divided
 t2 : T 2 = some c_left_over
 t3 : T 3 = some c_reckon
section
variable {T : Nat → Option FD} {n : Nat} {a b x : Int} {s : Str}
end
end Dp


namespace Dp
open PySem
def smallI (c : Int) : Int := if c % 3 = 0 then ([-1000000000, -999999999, -2, -1, 0, 1, 2, 999999999] : List Int).getD (c / 3 % 8).toNat 0 else if c % 3 = 1 then c / 3 % 13 - 6 else c / 3 * 48271 % 2000000000 - 1000000000
theorem r8 (c : Int) : c % 8 = 0 ∨ c % 8 = 1 ∨ c % 8 = 2 ∨ c % 8 = 3 ∨ c % 8 = 4 ∨ c % 8 = 5 ∨ c % 8 = 6 ∨ c % 8 = 7 := by omega
theorem small_sm (c : Int) : Sm (smallI c) := by
 unfold smallI
 split
 ·rcases r8 (c / 3) with h | h | h | h | h | h | h | h <;> rw [h] <;> exact ⟨by decide, by decide⟩
 ·split
  ·exact ⟨by omega, by omega⟩
  ·exact ⟨by omega, by omega⟩
section
variable {T : Nat → Option FD} {n : Nat} {a b c x : Int} {s : Str}
theorem L_small (h : T 19 = some c__law_small_by) : prun T (n + 1) 19 [.int c] = some (.int (smallI c)) := by
 rw [prun_eq (f := c__law_small_by) h rfl rfl]
 unfold smallI
 (rw [show muts c__law_small_by.body = [] from rfl]; simp [c__law_small_by, lim64])
 split
 ·rcases r8 (c / 3) with h | h | h | h | h | h | h | h <;> rw [h] <;> simp
 ·split <;> rfl
end
end Dp


namespace Dp
open PySem
inductive Opd where
 | name (i : Nat) | num (c : Int)
inductive Row where
 | put (x : Nat) (y : Opd) (s : Str) (z : Opd) | ifr (y : Opd) (s : Str) (z : Opd) (t : Nat) | go (t : Nat) | tell (y : Opd) | skip
def encO : Opd → P
 | .name i => .tup [.str (S "name"), .int (i : Int)]
 | .num c => .tup [.str (S "number"), .int c]
def encR : Row → P
 | .put x y s z => .tup [.str (S "put"), .int (x : Int), encO y, .str s, encO z]
 | .ifr y s z t => .tup [.str (S "if"), encO y, .str s, encO z, .int (t : Int)]
 | .go t => .tup [.str (S "go"), .int (t : Int)]
 | .tell y => .tup [.str (S "tell"), encO y]
 | .skip => .tup [.str (S "skip")]
structure Prog where
 takes : P
 many : Nat
 rows : List Row
def encP (p : Prog) : P := .tup [p.takes, .int (p.many : Int), .tup (p.rows.map encR)]
abbrev StM := Nat × List Int
inductive Out where
 | none | told (v : Int) | late
def OpdOk (m : Nat) : Opd → Prop
 | .name i => i < m
 | .num c => Sm c
def RowOk (m n : Nat) : Row → Prop
 | .put x y _ z => x < m ∧ OpdOk m y ∧ OpdOk m z
 | .ifr y _ z t => OpdOk m y ∧ OpdOk m z ∧ t ≤ n
 | .go t => t ≤ n
 | .tell y => OpdOk m y
 | .skip => True
structure ProgOk (p : Prog) : Prop where
 rows : ∀ r ∈ p.rows, RowOk p.many p.rows.length r
 many : p.many ≤ 100
 size : p.rows.length ≤ 100
structure VsOk (m : Nat) (vs : List Int) : Prop where
 len : vs.length = m
 sm : ∀ v ∈ vs, Sm v
inductive Thing where
 | st (s : StM) | out (o : Out)
structure StOkM (p : Prog) (s : StM) : Prop where
 k : s.1 ≤ p.rows.length
 vs : VsOk p.many s.2
structure MoveT (T : Nat → Option FD) : Prop where
 num : NumT T
 t4 : T 4 = some c_is_so
 t5 : T 5 = some c_worth
 t7 : T 7 = some c_at_end
 t8 : T 8 = some c_values_behind
 t9 : T 9 = some c_place_behind
 t10 : T 10 = some c_moved
 t42 : T 42 = some c_replaced
structure MachT (T : Nat → Option FD) : Prop extends MoveT T where
 t6 : T 6 = some c_began
section
variable {T : Nat → Option FD} {n : Nat} {p : Prog} {s : StM} {vs : List Int} {o : Opd} {r : Row} {k m : Nat} {ins : List Int}
theorem b_yes {F : PFn} {M : List Nat} {c e : CE} {r : CS} {π : PEnv} {v : P} (h : pe F c π = some (.bl true)) (he : pe F e π = some v) : px F M (.seq (.ite c (.seq (.ret e) .skip) .skip) r) π = some (.rt v) := by
 rw [px_seq, px_ite, h, test_bl, if_pos rfl, px_seq, px_ret, he]; rfl
theorem b_no {F : PFn} {M : List Nat} {c : CE} {a r : CS} {π : PEnv} (h : pe F c π = some (.bl false)) : px F M (.seq (.ite c a .skip) r) π = px F M r π := by
 rw [px_seq, px_ite, h, test_bl, if_neg Bool.false_ne_true, px_skip, then_nx]
theorem b_set {F : PFn} {k : Nat} {e : CE} {r : CS} {π : PEnv} {v : P} (h : pe F e π = some v) : px F [] (.seq (.set k e) r) π = px F [] r (setP π k v) := by
 rw [px_seq, px_setN, h, Option.bind_some, then_nx]
theorem b_ret {F : PFn} {M : List Nat} {e : CE} {r : CS} {π : PEnv} {v : P} (h : pe F e π = some v) : px F M (.seq (.ret e) r) π = some (.rt v) := by
 rw [px_seq, px_ret, h]; rfl
structure TrailT (T : Nat → Option FD) : Prop extends MachT T where
 t11 : T 11 = some c_is_outcome
 t12 : T 12 = some c_trail
structure SeenT (T : Nat → Option FD) : Prop extends TrailT T where
 t13 : T 13 = some c_outcome
 t14 : T 14 = some c_places_done
 t15 : T 15 = some c_seen
 t43 : T 43 = some c_bit_of
 t44 : T 44 = some c_seen_in
end
end Dp


namespace Dp
open PySem
def cellI (ns : List Int) (k : Nat) : Int := if k < ns.length then ns.getD k 0 else if ns = [] then ((k : Int) * k + 7) * 48271 % 2147483629 else (ns.getD 0 0 % 2147483647 + 7) * ((k : Int) * k + 48271) % 2147483629
def opdI (x : Int) (m : Nat) : Opd := if 0 < m ∧ 0 < x % 3 then .name (x / 3 % (m : Int)).toNat else .num (smallI (x / 3))
theorem opd_ok (x : Int) (m : Nat) : OpdOk m (opdI x m) := by
 unfold opdI
 split
 ·rename_i h
  show (x / 3 % (m : Int)).toNat < m
  have := Int.emod_lt_of_pos (x / 3) (show 0 < (m : Int) by omega)
  omega
 ·exact small_sm _
def sgnP (i : Int) : Str := ([S "+", S "-", S "*", S "/", S "mod"] : List Str).getD i.toNat (S "+")
def sgnI (i : Int) : Str := ([S "<", S "<=", S "=", S ">=", S ">", S "!="] : List Str).getD i.toNat (S "<")
def rowAt (c : Int) (size : Nat) : Nat := ((c + 1) * 742938285 % 2147483647 % ((size : Int) + 1)).toNat
def rowI (c d : Int) (m size : Nat) : Row :=
 if c % 8 < 3 ∧ 0 < m then .put ((d + 3) * 950706376 % 2147483647 % (m : Int)).toNat (opdI (d * 48271 % 2147483647) m) (sgnP (c * 48271 % 2147483647 % 5)) (opdI ((d + 5) * 1226874159 % 2147483647) m)
 else if c % 8 < 6 then .ifr (opdI (d * 48271 % 2147483647) m) (sgnI (c * 48271 % 2147483647 % 6)) (opdI ((d + 5) * 1226874159 % 2147483647) m) (rowAt c size)
 else if c % 8 = 6 then (if c * 48271 % 2147483647 % 2 = 0 then .go (rowAt c size) else .skip)
 else .tell (opdI (d * 48271 % 2147483647) m)
theorem rowAt_le (c : Int) (size : Nat) : rowAt c size ≤ size := by
 unfold rowAt
 have := Int.emod_lt_of_pos ((c + 1) * 742938285 % 2147483647) (show 0 < (size : Int) + 1 by omega)
 omega
theorem row_ok (c d : Int) (m size : Nat) : RowOk m size (rowI c d m size) := by
 unfold rowI
 split
 ·rename_i h
  refine ⟨?_, opd_ok _ _, opd_ok _ _⟩
  have := Int.emod_lt_of_pos ((d + 3) * 950706376 % 2147483647) (show 0 < (m : Int) by omega)
  omega
 ·split
  ·exact ⟨opd_ok _ _, opd_ok _ _, rowAt_le _ _⟩
  ·split
   ·split
    ·exact rowAt_le _ _
    ·trivial
   ·exact opd_ok _ _
structure ProgT (T : Nat → Option FD) : Prop where
 t19 : T 19 = some c__law_small_by
 t27 : T 27 = some c__law_cell_at
 t28 : T 28 = some c__law_operand
 t29 : T 29 = some c__law_row
 t30 : T 30 = some c__law_program
section
variable {T : Nat → Option FD} {n : Nat} {ns : List Int} {k m size : Nat} {x c d : Int}
theorem cell_1 {F : PFn} (h : k < ns.length) : px F [] c__law_cell_at.body [some (.lst false (ns.map .int)), some (.int (k : Int))] = some (.rt (.int (ns.getD k 0))) := by
 have e : (ns.map P.int)[k]? = some (.int (ns.getD k 0)) := by
  rw [List.getElem?_map, List.getD_eq_getElem?_getD, List.getElem?_eq_getElem h]; rfl
 have h' : (k : Int) < (ns.length : Int) := by omega
 simp [c__law_cell_at, h', h, e]
theorem cell_2 {F : PFn} {j : Int} (hj : ¬ j < 0) (lk : lim64 j = true) : px F [] c__law_cell_at.body [some (.lst false []), some (.int j)] = some (.rt (.int ((j * j + 7) * 48271 % 2147483629))) := by
 have l2 : lim64 48271 = true := by decide
 simp [c__law_cell_at, lk, l2, hj]
theorem cell_3 {F : PFn} {j a : Int} {xs : List P} (hj : ¬ j < (xs.length : Int) + 1) (lk : lim64 j = true) (la : lim64 (a % 2147483647 + 7) = true) : px F [] c__law_cell_at.body [some (.lst false (.int a :: xs)), some (.int j)] = some (.rt (.int ((a % 2147483647 + 7) * (j * j + 48271) % 2147483629))) := by
 simp [c__law_cell_at, lk, la, hj]
theorem lim_nat (hk : k ≤ 100000) : lim64 (k : Int) = true := limP_of (by omega) (by omega)
theorem cell_body {F : PFn} (hk : k ≤ 100000) : px F [] c__law_cell_at.body [some (.lst false (ns.map .int)), some (.int (k : Int))] = some (.rt (.int (cellI ns k))) := by
 unfold cellI
 by_cases h : k < ns.length
 ·rw [if_pos h]; exact cell_1 h
 ·rw [if_neg h]
  cases ns with
  | nil => exact cell_2 (by omega) (lim_nat hk)
  | cons a ns =>
   rw [if_neg (by intro z; cases z)]
   have q0 := Int.emod_nonneg a (show (2147483647 : Int) ≠ 0 by omega)
   have q1 := Int.emod_lt_of_pos a (show (0 : Int) < 2147483647 by omega)
   exact cell_3 (xs := ns.map P.int) (by simp at h ⊢; omega) (lim_nat hk) (limP_of (by omega) (by omega))
theorem L_cell (h : T 27 = some c__law_cell_at) (hk : k ≤ 100000) : prun T (n + 1) 27 [.lst false (ns.map .int), .int (k : Int)] = some (.int (cellI ns k)) := by
 rw [prun_eq (f := c__law_cell_at) h rfl rfl]
 show resP (px (prun T n) [] c__law_cell_at.body [some (.lst false (ns.map .int)), some (.int (k : Int))]) = _
 rw [cell_body hk]
 rfl
theorem opd_body {F : PFn} (hF : ∀ c, F 19 [.int c] = some (.int (smallI c))) (hm : m ≤ 100) : px F [] c__law_operand.body [some (.int x), some (.int (m : Int))] = some (.rt (encO (opdI x m))) := by
 unfold opdI
 by_cases h1 : 0 < m
 ·have h1' : (0 : Int) < (m : Int) := by omega
  by_cases h2 : 0 < x % 3
  ·have q := Int.emod_nonneg (x / 3) (show (m : Int) ≠ 0 by omega)
   have e : ((x / 3 % (m : Int)).toNat : Int) = x / 3 % (m : Int) := by omega
   rw [if_pos ⟨h1, h2⟩]
   simp [c__law_operand, h1, h2, encO, e]
  ·rw [if_neg (fun z => h2 z.2)]
   simp [c__law_operand, h1, h2, encO, hF]
 ·rw [if_neg (fun z => h1 z.1)]
  simp [c__law_operand, h1, encO, hF]
theorem sgnP_at (i : Int) : atP [.str (S "+"), .str (S "-"), .str (S "*"), .str (S "/"), .str (S "mod")] (i % 5) = some (.str (sgnP (i % 5))) := by
 have h : i % 5 = 0 ∨ i % 5 = 1 ∨ i % 5 = 2 ∨ i % 5 = 3 ∨ i % 5 = 4 := by omega
 rcases h with h | h | h | h | h <;> rw [h] <;> rfl
theorem sgnI_at (i : Int) : atP [.str (S "<"), .str (S "<="), .str (S "="), .str (S ">="), .str (S ">"), .str (S "!=")] (i % 6) = some (.str (sgnI (i % 6))) := by
 have h : i % 6 = 0 ∨ i % 6 = 1 ∨ i % 6 = 2 ∨ i % 6 = 3 ∨ i % 6 = 4 ∨ i % 6 = 5 := by omega
 rcases h with h | h | h | h | h | h <;> rw [h] <;> rfl
theorem row_body {F : PFn} (hF : ∀ x, F 28 [.int x, .int (m : Int)] = some (encO (opdI x m))) (hs : size ≤ 100) : px F [] c__law_row.body [some (.int c), some (.int d), some (.int (m : Int)), some (.int (size : Int)), none, none, none, none, none] = some (.rt (encR (rowI c d m size))) := by
 have hs0 : (0 : Int) < (size : Int) + 1 := by omega
 have q := Int.emod_nonneg ((c + 1) * 742938285 % 2147483647) (show (size : Int) + 1 ≠ 0 by omega)
 have e7 : (c + 1) * 742938285 % 2147483647 % ((size : Int) + 1) = ((rowAt c size : Nat) : Int) := by unfold rowAt; omega
 have sp := sgnP_at (c * 48271 % 2147483647)
 have si := sgnI_at (c * 48271 % 2147483647)
 simp only [S] at sp si
 unfold rowI
 by_cases h1 : c % 8 < 3
 ·by_cases h2 : 0 < m
  ·have h2' : (0 : Int) < (m : Int) := by omega
   have q2 := Int.emod_nonneg ((d + 3) * 950706376 % 2147483647) (show (m : Int) ≠ 0 by omega)
   have e8 : (((d + 3) * 950706376 % 2147483647 % (m : Int)).toNat : Int) = (d + 3) * 950706376 % 2147483647 % (m : Int) := by omega
   rw [if_pos ⟨h1, h2⟩]
   simp [c__law_row, lim64, hF, hs0, e7, h1, h2, sp, encR, e8]
  ·rw [if_neg (fun z => h2 z.2), if_pos (by omega)]
   have h6 : c % 8 < 6 := by omega
   simp [c__law_row, lim64, hF, hs0, e7, h1, h2, h6, si, encR]
 ·rw [if_neg (fun z => h1 z.1)]
  by_cases h6 : c % 8 < 6
  ·rw [if_pos h6]
   simp [c__law_row, lim64, hF, hs0, e7, h1, h6, si, encR]
  ·rw [if_neg h6]
   by_cases h7 : c % 8 = 6
   ·rw [if_pos h7]
    have r2 : c * 48271 % 2147483647 % 2 = 0 ∨ c * 48271 % 2147483647 % 2 = 1 := by omega
    rcases r2 with h | h
    ·simp [c__law_row, lim64, hF, hs0, e7, h7, h, encR]
    ·simp [c__law_row, lim64, hF, hs0, e7, h7, h, encR]
   ·rw [if_neg h7]
    simp [c__law_row, lim64, hF, hs0, e7, h1, h6, h7, encR]
end
end Dp


namespace Dp
open PySem
structure MadeT (T : Nat → Option FD) : Prop where
 num : NumT T
 t4 : T 4 = some c_is_so
 t42 : T 42 = some c_replaced
 t73 : T 73 = some c_are_numbers
 t74 : T 74 = some c_lesser_first
 t75 : T 75 = some c_less_as_more
 t76 : T 76 = some c_without_reckoning
 t77 : T 77 = some c_made_put
 t78 : T 78 = some c_greater_as_less
 t79 : T 79 = some c_is_settled
 t80 : T 80 = some c_settled
 t81 : T 81 = some c_most_as_less
 t82 : T 82 = some c_made_if
 t83 : T 83 = some c_made_row
section
variable {T : Nat → Option FD} {n : Nat} {y z : Opd} {s : Str} {x t k : Nat}
theorem eR_put : encR (.put x y s z) = .tup [.str (S "put"), .int (x : Int), encO y, .str s, encO z] := rfl
theorem eR_if : encR (.ifr y s z t) = .tup [.str (S "if"), encO y, .str s, encO z, .int (t : Int)] := rfl
end
end Dp


namespace Dp
open PySem
section
variable {n : Nat} {F : PFn} {π : PEnv} {x y : Str} {a b : CE} {j k : Nat}
theorem pe_strOf : pe F (.strOf a) π = (pe F a π).bind strOP := pq1_eq
theorem pe_joinE : pe F (.joinE a b) π = (pe F a π).bind fun x => (pe F b π).bind fun y => joinP x y := pq2_eq
theorem str_ext (h : x.cps.toList = y.cps.toList) : x = y := by
 cases x; cases y
 congr 1
 exact Array.ext' h
theorem len_list : x.cps.toList.length = x.length := Array.length_toList
theorem app_list : (x ++ y).cps.toList = x.cps.toList ++ y.cps.toList := by
 show (x.cps ++ y.cps).toList = _
 rw [Array.toList_append]
theorem nat_text {m : Nat} : (toString m).toList = Nat.toDigits 10 m := by
 show (Nat.repr m).toList = _
 rw [Nat.toList_repr]
theorem len_int {i : Int} (h1 : -1000000000000 < i) (h2 : i < 1000000000000) : (Str.ofString (toString i)).length ≤ 13 := by
 rw [Str.ofString_eq_toList]
 show Array.size _ ≤ 13
 rw [List.size_toArray, List.length_map]
 cases i with
 | ofNat m =>
  rw [show toString (Int.ofNat m) = toString m from rfl, nat_text]
  have hm : m < 10 ^ 12 := by have : (Int.ofNat m : Int) = (m : Int) := rfl; omega
  have := PyProof.Rows.digits10_le (by decide) hm
  omega
 | negSucc m =>
  have hm : m + 1 < 10 ^ 12 := by have : Int.negSucc m = -((m : Int) + 1) := rfl; omega
  have := PyProof.Rows.digits10_le (by decide) hm
  have e : (toString (Int.negSucc m)).toList = '-' :: Nat.toDigits 10 (m + 1) := by
   show ("-" ++ toString (m + 1)).toList = _
   rw [String.toList_append, nat_text]
   rfl
  rw [e, List.length_cons]
  omega
theorem strs_map : ∀ {ys : List Str}, strsP (ys.map P.str) = some ys
 | [] => rfl
 | y :: ys => by
  show (strsP (ys.map P.str)).map (y :: ·) = _
  rw [strs_map]; rfl
structure Tx (F : PFn) (π : PEnv) (j : Nat) (a : CE) (x : Str) : Prop where
 e : pe F a π = some (.str x)
 l : x.length ≤ j
theorem Tx.add (ha : Tx F π j a x) (hb : Tx F π k b y) (h : j + k ≤ 1000) : Tx F π (j + k) (.bin .Add a b) (x ++ y) := by
 have h1 := ha.l
 have h2 := hb.l
 refine ⟨?_, ?_⟩
 ·rw [pe_bin, ha.e, hb.e]
  show (if isAdd .Add = true ∧ x.length + y.length ≤ sizeMax then some (P.str (x ++ y)) else none) = _
  rw [if_pos ⟨rfl, by unfold sizeMax; omega⟩]
 ·rw [← len_list, app_list, List.length_append, len_list, len_list]; omega
theorem Tx.cst {s : Str} (h : s.length ≤ j) : Tx F π j (.cst (.str s)) s := ⟨by rfl, h⟩
def gl (s : Str) (ws : List Str) : Str := ⟨(gluL s ws).toArray⟩
theorem gl_list {s : Str} {ws : List Str} : (gl s ws).cps.toList = gluL s ws := List.toList_toArray
theorem gluR_len {s : Str} (hs : s.length = 1) : ∀ {ws : List Str}, (∀ w ∈ ws, w.length ≤ j) → (gluR s ws).length ≤ ws.length * (j + 1)
 | [], _ => by show 0 ≤ _; omega
 | w :: ws, h => by
  have h1 := h w List.mem_cons_self
  have h2 := gluR_len hs (ws := ws) fun z hz => h z (List.mem_cons_of_mem _ hz)
  show ((s.cps.toList ++ w.cps.toList) ++ gluR s ws).length ≤ (ws.length + 1) * (j + 1)
  rw [List.length_append, List.length_append, len_list, len_list, hs, Nat.add_mul]
  omega
theorem gluL_len {s : Str} (hs : s.length = 1) {ws : List Str} (h : ∀ w ∈ ws, w.length ≤ j) : (gluL s ws).length ≤ ws.length * (j + 1) := by
 cases ws with
 | nil => show 0 ≤ _; omega
 | cons w ws =>
  have h1 := h w List.mem_cons_self
  have h2 := gluR_len hs (ws := ws) fun z hz => h z (List.mem_cons_of_mem _ hz)
  show (w.cps.toList ++ gluR s ws).length ≤ (ws.length + 1) * (j + 1)
  rw [List.length_append, len_list, Nat.add_mul]
  omega
theorem gl_len {s : Str} (hs : s.length = 1) {ws : List Str} (h : ∀ w ∈ ws, w.length ≤ j) : (gl s ws).length ≤ ws.length * (j + 1) := by
 rw [← len_list, gl_list]
 exact gluL_len hs h
theorem join_gl {s : Str} (hs : s.length = 1) {ws : List Str} {m : Bool} (h : ∀ w ∈ ws, w.length ≤ j) (hl : ws.length * (j + 1) ≤ 100000) : joinP (.str s) (.lst m (ws.map P.str)) = some (.str (gl s ws)) := by
 have h2 := gluR_len hs h
 show (if s.length = 0 then joinLP (ws.map P.str) else joinGP s (ws.map P.str)) = _
 rw [if_neg (by omega)]
 unfold joinGP
 rw [strs_map]
 simp only
 rw [if_pos (by unfold sizeMax; omega)]
 rfl
theorem comp_of {α : Type} {f c : P → Option P} {enc g : α → P} : ∀ {l : List α}, (∀ a ∈ l, c (enc a) = some (.bl true)) → (∀ a ∈ l, f (enc a) = some (g a)) → compP f c (l.map enc) = some (l.map g)
 | [], _, _ => rfl
 | a :: l, hc, hf => by
  have e := comp_of (l := l) (fun z hz => hc z (List.mem_cons_of_mem _ hz)) (fun z hz => hf z (List.mem_cons_of_mem _ hz))
  rw [List.map_cons, List.map_cons]
  unfold compP
  rw [hc a List.mem_cons_self, hf a List.mem_cons_self]
  simp only
  rw [e]
theorem pe_compM {α : Type} {it elt : CE} {rng : Bool} {fr : List Nat} {x : P} {enc g : α → P} {l : List α} (hi : pe F it π = some x) (hw : walkP rng x = some (l.map enc)) (hl : l.length ≤ 1000) (hf : ∀ a ∈ l, pe F elt (penvC π fr (enc a)) = some (g a)) : pe F (.comp rng fr it elt (.cst (.bl true))) π = some (.lst true (l.map g)) := by
 rw [pe_comp, hi, Option.bind_some, hw, Option.bind_some, if_pos (by rw [List.length_map]; exact hl), comp_of (enc := enc) (g := g) (c := fun p => pe F (.cst (.bl true)) (penvC π fr p)) (fun _ _ => rfl) hf]
 rfl
end
end Dp


namespace Dp
open PySem
noncomputable def num : List (Str × Nat) := [(S "operand_shown", 218), (S "words_of", 219), (S "shown", 220), (S "_law_whole", 17), (S "_law_cell_at", 27), (S "_law_small_by", 19), (S "_law_operand", 28), (S "_law_row", 29), (S "_law_program", 30), (S "_law_word", 214), (S "_law_line", 221), (S "law", 16)]
noncomputable def T : Nat → Option FD
 | 218 => some c_operand_shown
 | 219 => some c_words_of
 | 220 => some c_shown
 | 17 => some c__law_whole
 | 27 => some c__law_cell_at
 | 19 => some c__law_small_by
 | 28 => some c__law_operand
 | 29 => some c__law_row
 | 30 => some c__law_program_k11
 | 214 => some c__law_word_k11
 | 221 => some c__law_line
 | 16 => some c_law_k11
 | _ => none
end Dp


namespace Dp
open PySem
section
variable {n : Nat} {F : PFn} {π : PEnv} {a b : CE} {x y : Str} {r : Row} {m : Nat} {o : Opd}
def leS (i : Nat) : Str := ⟨#[97 + i]⟩
def nuS (c : Int) : Str := Str.ofString (toString c)
def opS : Opd → Str
 | .name i => leS i
 | .num c => nuS c
theorem let_ix : ∀ i : Nat, i < 5 → ixP (.str (S "abcdefghijklmnopqrstuvwxyz")) (.int (i : Int)) = some (.str (leS i)) := by
 intro i hi
 have : i = 0 ∨ i = 1 ∨ i = 2 ∨ i = 3 ∨ i = 4 := by omega
 rcases this with rfl | rfl | rfl | rfl | rfl <;> rfl
theorem abc_ix : ∀ i : Nat, i < 5 → ixP (.str (S "abcde")) (.int (i : Int)) = some (.str (leS i)) := by
 intro i hi
 have : i = 0 ∨ i = 1 ∨ i = 2 ∨ i = 3 ∨ i = 4 := by omega
 rcases this with rfl | rfl | rfl | rfl | rfl <;> rfl
theorem str_pe {c : Int} (h : Sm c) : strOP (.int c) = some (.str (nuS c)) := by
 show (if lim64 c = true then some (P.str (Str.ofString (toString c))) else none) = _
 rw [if_pos h.lim]; rfl
theorem str_nat {t : Nat} (h : t ≤ 1000) : strOP (.int (t : Int)) = some (.str (nuS (t : Int))) := by
 show (if lim64 (t : Int) = true then some (P.str (Str.ofString (toString (t : Int)))) else none) = _
 rw [if_pos (limP_of (by omega) (by omega))]; rfl
theorem M_opd (hm : m ≤ 5) (h : OpdOk m o) : prun T (n + 1) 218 [encO o] = some (.str (opS o)) := by
 rw [prun_eq (f := c_operand_shown) rfl rfl rfl, show muts c_operand_shown.body = [] from rfl]
 show resP (px (prun T n) [] c_operand_shown.body [some (encO o)]) = _
 unfold c_operand_shown
 cases o with
 | name i =>
  have hi : i < m := h
  rw [b_yes (v := .str (leS i)) (by rfl) (by exact let_ix i (by omega))]
  rfl
 | num c =>
  rw [b_no (by rfl), b_ret (v := .str (nuS c)) (by rw [pe_strOf]; exact str_pe h)]
  rfl
theorem N_opd (hm : m ≤ 5) (h : OpdOk m o) : prun T (n + 1) 214 [encO o] = some (.str (opS o)) := by
 rw [prun_eq (f := c__law_word_k11) rfl rfl rfl, show muts c__law_word_k11.body = [] from rfl]
 show resP (px (prun T n) [] c__law_word_k11.body [some (encO o)]) = _
 unfold c__law_word_k11
 cases o with
 | name i =>
  have hi : i < m := h
  rw [b_yes (v := .str (leS i)) (by rfl) (by exact abc_ix i (by omega))]
  rfl
 | num c =>
  rw [b_no (by rfl), b_ret (v := .str (nuS c)) (by rw [pe_strOf]; exact str_pe h)]
  rfl
def woS : Row → List Str
 | .put x y s z => [S "put", leS x, opS y, s, opS z]
 | .ifr y s z t => [S "if", opS y, s, opS z, S "go", nuS (t : Int)]
 | .go t => [S "go", nuS (t : Int)]
 | .tell y => [S "tell", opS y]
 | .skip => [S "skip"]
theorem W_put {many x : Nat} {y z : Opd} {s : Str} (hm : m ≤ 5) (h : RowOk m many (.put x y s z)) : prun T (n + 2) 219 [encR (.put x y s z)] = some (.lst true ((woS (.put x y s z)).map P.str)) := by
 rw [prun_eq (f := c_words_of) rfl rfl rfl, show muts c_words_of.body = [] from rfl]
 show resP (px (prun T (n + 1)) [] c_words_of.body [some (encR (.put x y s z))]) = _
 unfold c_words_of
 obtain ⟨h1, h2, h3⟩ := h
 have e1 := M_opd (n := n) hm h2
 have e2 := M_opd (n := n) hm h3
 have e3 := let_ix x (by omega)
 rw [eR_put, b_yes (v := .lst true ((woS (.put x y s z)).map P.str)) (by simp) (by simp [e1, e2, e3, woS])]
 rfl
theorem W_tell {many : Nat} {y : Opd} (hm : m ≤ 5) (h : RowOk m many (.tell y)) : prun T (n + 2) 219 [encR (.tell y)] = some (.lst true ((woS (.tell y)).map P.str)) := by
 rw [prun_eq (f := c_words_of) rfl rfl rfl, show muts c_words_of.body = [] from rfl]
 show resP (px (prun T (n + 1)) [] c_words_of.body [some (encR (.tell y))]) = _
 unfold c_words_of
 have e1 := M_opd (n := n) hm (show OpdOk m y from h)
 rw [show encR (.tell y) = .tup [.str (S "tell"), encO y] from rfl, b_no (by simp), b_no (by simp), b_no (by simp), b_yes (v := .lst true ((woS (.tell y)).map P.str)) (by simp) (by simp [e1, woS])]
 rfl
theorem W_skip : prun T (n + 2) 219 [encR .skip] = some (.lst true ((woS .skip).map P.str)) := by
 rw [prun_eq (f := c_words_of) rfl rfl rfl, show muts c_words_of.body = [] from rfl]
 show resP (px (prun T (n + 1)) [] c_words_of.body [some (encR .skip)]) = _
 unfold c_words_of
 rw [show encR .skip = .tup [.str (S "skip")] from rfl, b_no (by simp), b_no (by simp), b_no (by simp), b_no (by simp), b_ret (v := .lst true [.str (S "skip")]) (by simp)]
 rfl
end
end Dp


namespace Dp
open PySem
section
variable {n m : Nat} {F : PFn} {r : Row}
theorem go_w {v : Int} {w : Str} (e3 : strOP (.int v) = some (.str w)) : px F [] c_words_of.body [some (.tup [.str (S "go"), .int v])] = some (.rt (.lst true [.str (S "go"), .str w])) := by
 unfold c_words_of
 rw [b_no (by simp), b_no (by simp), b_yes (v := .lst true [.str (S "go"), .str w]) (by simp) (by simp [e3, pe_strOf])]
theorem if_w {v : Int} {w s a b : Str} {y z : P} (e1 : F 218 [y] = some (.str a)) (e2 : F 218 [z] = some (.str b)) (e3 : strOP (.int v) = some (.str w)) : px F [] c_words_of.body [some (.tup [.str (S "if"), y, .str s, z, .int v])] = some (.rt (.lst true [.str (S "if"), .str a, .str s, .str b, .str (S "go"), .str w])) := by
 unfold c_words_of
 rw [b_no (by simp), b_yes (v := .lst true [.str (S "if"), .str a, .str s, .str b, .str (S "go"), .str w]) (by simp) (by simp [e1, e2, e3, pe_strOf])]
theorem W_go {many t : Nat} (hn : many ≤ 100) (h : RowOk m many (.go t)) : prun T (n + 2) 219 [encR (.go t)] = some (.lst true ((woS (.go t)).map P.str)) := by
 have ht : t ≤ 1000 := by have : t ≤ many := h; omega
 rw [prun_eq (f := c_words_of) rfl rfl rfl, show muts c_words_of.body = [] from rfl]
 show resP (px (prun T (n + 1)) [] c_words_of.body [some (.tup [.str (S "go"), .int (t : Int)])]) = _
 rw [go_w (str_nat ht)]
 rfl
theorem W_if {many t : Nat} {y z : Opd} {s : Str} (hm : m ≤ 5) (hn : many ≤ 100) (h : RowOk m many (.ifr y s z t)) : prun T (n + 2) 219 [encR (.ifr y s z t)] = some (.lst true ((woS (.ifr y s z t)).map P.str)) := by
 obtain ⟨h1, h2, h3⟩ := h
 have ht : t ≤ 1000 := by omega
 rw [prun_eq (f := c_words_of) rfl rfl rfl, show muts c_words_of.body = [] from rfl]
 show resP (px (prun T (n + 1)) [] c_words_of.body [some (.tup [.str (S "if"), encO y, .str s, encO z, .int (t : Int)])]) = _
 rw [if_w (M_opd (n := n) hm h1) (M_opd (n := n) hm h2) (str_nat ht)]
 rfl
theorem M_words {many : Nat} (hm : m ≤ 5) (hn : many ≤ 100) (h : RowOk m many r) : prun T (n + 2) 219 [encR r] = some (.lst true ((woS r).map P.str)) := by
 cases r with
 | put x y s z => exact W_put hm h
 | ifr y s z t => exact W_if hm hn h
 | go t => exact W_go hn h
 | tell y => exact W_tell hm h
 | skip => exact W_skip
end
end Dp


namespace Dp
open PySem
section
variable {n m : Nat} {F : PFn} {π : PEnv} {r : Row} {o : Opd}
def SgL (s : Str) : Prop := s.length ≤ 3
def RowLen : Row → Prop
 | .put _ _ s _ => SgL s
 | .ifr _ s _ _ => SgL s
 | _ => True
theorem sgnP_len (i : Int) : SgL (sgnP i) := by
 unfold sgnP SgL
 generalize i.toNat = k
 match k with
 | 0 => exact (by decide +kernel)
 | 1 => exact (by decide +kernel)
 | 2 => exact (by decide +kernel)
 | 3 => exact (by decide +kernel)
 | 4 => exact (by decide +kernel)
 | k + 5 => exact (show (S "+").length ≤ 3 by decide +kernel)
theorem sgnI_len (i : Int) : SgL (sgnI i) := by
 unfold sgnI SgL
 generalize i.toNat = k
 match k with
 | 0 => exact (by decide +kernel)
 | 1 => exact (by decide +kernel)
 | 2 => exact (by decide +kernel)
 | 3 => exact (by decide +kernel)
 | 4 => exact (by decide +kernel)
 | 5 => exact (by decide +kernel)
 | k + 6 => exact (show (S "<").length ≤ 3 by decide +kernel)
theorem row_len (c d : Int) (m size : Nat) : RowLen (rowI c d m size) := by
 unfold rowI
 split
 ·exact sgnP_len _
 ·split
  ·exact sgnI_len _
  ·split
   ·split <;> trivial
   ·trivial
theorem le_len {i : Nat} : (leS i).length ≤ 13 := show 1 ≤ 13 by decide
theorem nu_len {c : Int} (h : Sm c) : (nuS c).length ≤ 13 := len_int (by have := h.1; omega) (by have := h.2; omega)
theorem nu_nat {t : Nat} (h : t ≤ 1000) : (nuS (t : Int)).length ≤ 13 := len_int (by omega) (by omega)
theorem op_len (h : OpdOk m o) : (opS o).length ≤ 13 := by
 cases o with
 | name i => exact le_len
 | num c => exact nu_len h
theorem wo_len {many : Nat} (hn : many ≤ 100) (h : RowOk m many r) (hl : RowLen r) : (woS r).length ≤ 6 ∧ ∀ w ∈ woS r, w.length ≤ 13 := by
 have s1 : (S "put").length ≤ 13 ∧ (S "if").length ≤ 13 ∧ (S "go").length ≤ 13 ∧ (S "tell").length ≤ 13 ∧ (S "skip").length ≤ 13 := by decide +kernel
 obtain ⟨q1, q2, q3, q4, q5⟩ := s1
 cases r with
 | put x y s z =>
  have hs : s.length ≤ 13 := Nat.le_trans (show s.length ≤ 3 from hl) (by decide)
  refine ⟨(show 5 ≤ 6 by omega), fun w hw => ?_⟩
  simp only [woS, List.mem_cons, List.not_mem_nil, or_false] at hw
  rcases hw with rfl | rfl | rfl | rfl | rfl
  ·exact q1
  ·exact le_len
  ·exact op_len h.2.1
  ·exact hs
  ·exact op_len h.2.2
 | ifr y s z t =>
  have hs : s.length ≤ 13 := Nat.le_trans (show s.length ≤ 3 from hl) (by decide)
  refine ⟨(show 6 ≤ 6 by omega), fun w hw => ?_⟩
  simp only [woS, List.mem_cons, List.not_mem_nil, or_false] at hw
  rcases hw with rfl | rfl | rfl | rfl | rfl | rfl
  ·exact q2
  ·exact op_len h.1
  ·exact hs
  ·exact op_len h.2.1
  ·exact q3
  ·exact nu_nat (by have := h.2.2; omega)
 | go t =>
  refine ⟨(show 2 ≤ 6 by omega), fun w hw => ?_⟩
  simp only [woS, List.mem_cons, List.not_mem_nil, or_false] at hw
  rcases hw with rfl | rfl
  ·exact q3
  ·exact nu_nat (by have : t ≤ many := h; omega)
 | tell y =>
  refine ⟨(show 2 ≤ 6 by omega), fun w hw => ?_⟩
  simp only [woS, List.mem_cons, List.not_mem_nil, or_false] at hw
  rcases hw with rfl | rfl
  ·exact q4
  ·exact op_len h
 | skip =>
  refine ⟨(show 1 ≤ 6 by omega), fun w hw => ?_⟩
  simp only [woS, List.mem_cons, List.not_mem_nil, or_false] at hw
  subst hw
  exact q5
def ln (ws : List Str) : Str := gl (S " ") ws
theorem blank : (S " ").length = 1 := by decide +kernel
theorem b_yes2 {c e f : CE} {q : CS} {v w : P} {k : Nat} (h : pe F c π = some (.bl true)) (h1 : pe F e π = some v) (h2 : pe F f (setP π k v) = some w) : px F [] (.seq (.ite c (.seq (.set k e) (.seq (.ret f) .skip)) .skip) q) π = some (.rt w) := by
 rw [px_seq, px_ite, h, test_bl, if_pos rfl, b_set h1, b_ret h2]
 rfl
theorem put_line {x : Nat} {y z : P} {s a b : Str} (ey : F 214 [y] = some (.str a)) (ez : F 214 [z] = some (.str b)) (ha : a.length ≤ 13) (hb : b.length ≤ 13) (hs : s.length ≤ 13) (hx : x < 5) : px F [] c__law_line.body [some (.tup [.str (S "put"), .int (x : Int), y, .str s, z]), none] = some (.rt (.str (ln [S "put", leS x, a, s, b]))) := by
 have ex := abc_ix x hx
 unfold c__law_line
 have t1 : ∀ {w : Option P}, Tx F [some (.tup [.str (S "put"), .int (x : Int), y, .str s, z]), w] 13 (.call 214 (.acons (.ix (.var 0) (.cst (.int 2))) .anil) []) a := fun {w} => ⟨ey, ha⟩
 have t2 : ∀ {w : Option P}, Tx F [some (.tup [.str (S "put"), .int (x : Int), y, .str s, z]), w] 13 (.call 214 (.acons (.ix (.var 0) (.cst (.int 4))) .anil) []) b := fun {w} => ⟨ez, hb⟩
 have t3 : ∀ {w : Option P}, Tx F [some (.tup [.str (S "put"), .int (x : Int), y, .str s, z]), w] 13 (.ix (.cst (.str (S "abcde"))) (.ix (.var 0) (.cst (.int 1)))) (leS x) := fun {w} => ⟨ex, le_len⟩
 have t4 : ∀ {w : Option P}, Tx F [some (.tup [.str (S "put"), .int (x : Int), y, .str s, z]), w] 13 (.ix (.var 0) (.cst (.int 3))) s := fun {w} => ⟨rfl, hs⟩
 have b1 : ∀ {π : PEnv}, Tx F π 1 (.cst (.str (S " "))) (S " ") := fun {π} => Tx.cst (by decide +kernel)
 have c1 := (((Tx.cst (F := F) (s := S "put ") (j := 4) (by decide +kernel)).add (t3 (w := none)) (by decide)).add b1 (by decide)).add t1 (by decide)
 have c2 := ((((⟨rfl, c1.l⟩ : Tx F [some (.tup [.str (S "put"), .int (x : Int), y, .str s, z]), some (.str (S "put " ++ leS x ++ S " " ++ a))] (4 + 13 + 1 + 13) (.var 1) (S "put " ++ leS x ++ S " " ++ a)).add b1 (by decide)).add t4 (by decide)).add b1 (by decide)).add t2 (by decide)
 rw [b_yes2 (v := .str (S "put " ++ leS x ++ S " " ++ a)) (by rfl) c1.e c2.e]
 congr 3
 apply str_ext
 unfold ln
 rw [gl_list]
 have e : (S "put ").cps.toList = (S "put").cps.toList ++ (S " ").cps.toList := by decide +kernel
 simp only [app_list, e, gluL, gluR, List.append_assoc, List.append_nil]
theorem if_line {y z : P} {s a b w : Str} {v : Int} (ey : F 214 [y] = some (.str a)) (ez : F 214 [z] = some (.str b)) (e3 : strOP (.int v) = some (.str w)) (ha : a.length ≤ 13) (hb : b.length ≤ 13) (hs : s.length ≤ 13) (hw : w.length ≤ 13) : px F [] c__law_line.body [some (.tup [.str (S "if"), y, .str s, z, .int v]), none] = some (.rt (.str (ln [S "if", a, s, b, S "go", w]))) := by
 unfold c__law_line
 rw [b_no (by rfl)]
 have t1 : ∀ {u : Option P}, Tx F [some (.tup [.str (S "if"), y, .str s, z, .int v]), u] 13 (.call 214 (.acons (.ix (.var 0) (.cst (.int 1))) .anil) []) a := fun {u} => ⟨ey, ha⟩
 have t2 : ∀ {u : Option P}, Tx F [some (.tup [.str (S "if"), y, .str s, z, .int v]), u] 13 (.call 214 (.acons (.ix (.var 0) (.cst (.int 3))) .anil) []) b := fun {u} => ⟨ez, hb⟩
 have t3 : ∀ {u : Option P}, Tx F [some (.tup [.str (S "if"), y, .str s, z, .int v]), u] 13 (.strOf (.ix (.var 0) (.cst (.int 4)))) w := fun {u} => ⟨by rw [pe_strOf]; exact e3, hw⟩
 have t4 : ∀ {u : Option P}, Tx F [some (.tup [.str (S "if"), y, .str s, z, .int v]), u] 13 (.ix (.var 0) (.cst (.int 2))) s := fun {u} => ⟨rfl, hs⟩
 have b1 : ∀ {π : PEnv}, Tx F π 1 (.cst (.str (S " "))) (S " ") := fun {π} => Tx.cst (by decide +kernel)
 have c1 := (((Tx.cst (F := F) (s := S "if ") (j := 4) (by decide +kernel)).add (t1 (u := none)) (by decide)).add b1 (by decide)).add t4 (by decide)
 have c2 := ((((⟨rfl, c1.l⟩ : Tx F [some (.tup [.str (S "if"), y, .str s, z, .int v]), some (.str (S "if " ++ a ++ S " " ++ s))] (4 + 13 + 1 + 13) (.var 1) (S "if " ++ a ++ S " " ++ s)).add b1 (by decide)).add t2 (by decide)).add (Tx.cst (s := S " go ") (j := 4) (by decide +kernel)) (by decide)).add t3 (by decide)
 rw [b_yes2 (v := .str (S "if " ++ a ++ S " " ++ s)) (by rfl) c1.e c2.e]
 congr 3
 apply str_ext
 unfold ln
 rw [gl_list]
 have e : (S "if ").cps.toList = (S "if").cps.toList ++ (S " ").cps.toList := by decide +kernel
 have e2 : (S " go ").cps.toList = (S " ").cps.toList ++ ((S "go").cps.toList ++ (S " ").cps.toList) := by decide +kernel
 simp only [app_list, e, e2, gluL, gluR, List.append_assoc, List.append_nil]
theorem go_line {w : Str} {v : Int} (e3 : strOP (.int v) = some (.str w)) (hw : w.length ≤ 13) : px F [] c__law_line.body [some (.tup [.str (S "go"), .int v]), none] = some (.rt (.str (ln [S "go", w]))) := by
 unfold c__law_line
 rw [b_no (by rfl), b_no (by rfl)]
 have t3 : Tx F [some (.tup [.str (S "go"), .int v]), none] 13 (.strOf (.ix (.var 0) (.cst (.int 1)))) w := ⟨by rw [pe_strOf]; exact e3, hw⟩
 have c1 := (Tx.cst (F := F) (s := S "go ") (j := 4) (by decide +kernel)).add t3 (by decide)
 rw [b_yes (v := .str (S "go " ++ w)) (by rfl) c1.e]
 congr 3
 apply str_ext
 unfold ln
 rw [gl_list]
 have e : (S "go ").cps.toList = (S "go").cps.toList ++ (S " ").cps.toList := by decide +kernel
 simp only [app_list, e, gluL, gluR, List.append_assoc, List.append_nil]
theorem tell_line {y : P} {a : Str} (ey : F 214 [y] = some (.str a)) (ha : a.length ≤ 13) : px F [] c__law_line.body [some (.tup [.str (S "tell"), y]), none] = some (.rt (.str (ln [S "tell", a]))) := by
 unfold c__law_line
 rw [b_no (by rfl), b_no (by rfl), b_no (by rfl)]
 have t1 : Tx F [some (.tup [.str (S "tell"), y]), none] 13 (.call 214 (.acons (.ix (.var 0) (.cst (.int 1))) .anil) []) a := ⟨ey, ha⟩
 have c1 := (Tx.cst (F := F) (s := S "tell ") (j := 5) (by decide +kernel)).add t1 (by decide)
 rw [b_yes (v := .str (S "tell " ++ a)) (by rfl) c1.e]
 congr 3
 apply str_ext
 unfold ln
 rw [gl_list]
 have e : (S "tell ").cps.toList = (S "tell").cps.toList ++ (S " ").cps.toList := by decide +kernel
 simp only [app_list, e, gluL, gluR, List.append_assoc, List.append_nil]
theorem skip_line : px F [] c__law_line.body [some (.tup [.str (S "skip")]), none] = some (.rt (.str (ln [S "skip"]))) := by
 unfold c__law_line
 rw [b_no (by rfl), b_no (by rfl), b_no (by rfl), b_no (by rfl), b_ret (v := .str (S "skip")) (by rfl)]
 congr 3
theorem N_line {many : Nat} (hm : m ≤ 5) (hn : many ≤ 100) (h : RowOk m many r) (hl : RowLen r) : prun T (n + 2) 221 [encR r] = some (.str (ln (woS r))) := by
 rw [prun_eq (f := c__law_line) rfl rfl rfl, show muts c__law_line.body = [] from rfl]
 show resP (px (prun T (n + 1)) [] c__law_line.body [some (encR r), none]) = _
 cases r with
 | put x y s z =>
  rw [eR_put, put_line (N_opd (n := n) hm h.2.1) (N_opd (n := n) hm h.2.2) (op_len h.2.1) (op_len h.2.2) (Nat.le_trans (show s.length ≤ 3 from hl) (by decide)) (by have := h.1; omega)]
  rfl
 | ifr y s z t =>
  have ht : t ≤ 1000 := by have := h.2.2; omega
  rw [eR_if, if_line (N_opd (n := n) hm h.1) (N_opd (n := n) hm h.2.1) (str_nat ht) (op_len h.1) (op_len h.2.1) (Nat.le_trans (show s.length ≤ 3 from hl) (by decide)) (nu_nat ht)]
  rfl
 | go t =>
  have ht : t ≤ 1000 := by have : t ≤ many := h; omega
  show resP (px (prun T (n + 1)) [] c__law_line.body [some (.tup [.str (S "go"), .int (t : Int)]), none]) = _
  rw [go_line (str_nat ht) (nu_nat ht)]
  rfl
 | tell y =>
  show resP (px (prun T (n + 1)) [] c__law_line.body [some (.tup [.str (S "tell"), encO y]), none]) = _
  rw [tell_line (N_opd (n := n) hm (show OpdOk m y from h)) (op_len (show OpdOk m y from h))]
  rfl
 | skip =>
  show resP (px (prun T (n + 1)) [] c__law_line.body [some (.tup [.str (S "skip")]), none]) = _
  rw [skip_line]
  rfl
end
end Dp


namespace Dp
open PySem
section
variable {n m size : Nat} {F : PFn} {π : PEnv} {ns : List Int}
def encK (p : Int × Int) : P := .tup [.int p.1, .int p.2]
def KSm (p : Int × Int) : Prop := Sm p.1 ∧ Sm p.2
theorem rows11 {sc : P} {x1 x2 x3 x8 x9 x10 x11 : Option P} {rs : List P} {j : Nat} {a b : Int} {r : P} (h1 : F 27 [sc, .int (8 + 2 * (j : Int))] = some (.int a)) (h2 : F 27 [sc, .int (9 + 2 * (j : Int))] = some (.int b)) (h3 : F 29 [.int a, .int b, .int (m : Int), .int (size : Int)] = some r) (hl : rs.length < sizeMax) :
  px F [6, 9] b__law_program_k11_1 [some sc, x1, x2, x3, some (.int (m : Int)), some (.int (size : Int)), some (.lst true rs), some (.int (j : Int)), x8, x9, x10, x11] = some (.nx [some sc, x1, x2, x3, some (.int (m : Int)), some (.int (size : Int)), some (.lst true (rs ++ [r])), some (.int (j : Int)), some (.int a), x9, x10, x11]) := by
 have l2 : lim64 2 = true := by decide
 unfold b__law_program_k11_1
 rw [px_seq, px_setK (p := .int a) (by simp [l2, h1]) rfl rfl, then_nx, px_seq]
 simp only [setP_zero, setP_succ]
 rw [px_app (xs := rs) rfl]
 have e : pe F (.call 29 (.acons (.var 8) (.acons (.call 27 (.acons (.var 0) (.acons (.bin .Add (.cst (.int 9)) (.bin .Mult (.cst (.int 2)) (.var 7))) .anil)) []) (.acons (.var 4) (.acons (.var 5) .anil)))) []) [some sc, x1, x2, x3, some (.int (m : Int)), some (.int (size : Int)), some (.lst true rs), some (.int (j : Int)), some (.int a), x9, x10, x11] = some r := by
  simp [l2, h2, h3]
 rw [e, Option.bind_some, if_pos (by rw [decide_eq_true hl]; rfl), then_nx]
 rfl
theorem takes11 {sc : P} {x1 x2 x3 x4 x5 x6 x8 x10 x11 : Option P} {ts : List P} {j : Nat} {a b v w : Int} (h1 : F 27 [sc, .int (2 + 2 * (j : Int))] = some (.int a)) (h2 : F 27 [sc, .int (3 + 2 * (j : Int))] = some (.int b)) (h3 : F 19 [.int a] = some (.int v)) (h4 : F 19 [.int b] = some (.int w)) (hl : ts.length < sizeMax) :
  px F [6, 9] b__law_program_k11_0 [some sc, x1, x2, x3, x4, x5, x6, some (.int (j : Int)), x8, some (.lst true ts), x10, x11] = some (.nx [some sc, x1, x2, x3, x4, x5, x6, some (.int (j : Int)), x8, some (.lst true (ts ++ [encK (if w < v then w else v, if w > v then w else v)])), some (.int v), some (.int w)]) := by
 have l2 : lim64 2 = true := by decide
 unfold b__law_program_k11_0
 rw [px_seq, px_setK (p := .int v) (by simp [l2, h1, h3]) rfl rfl, then_nx, px_seq]
 simp only [setP_zero, setP_succ]
 rw [px_setK (p := .int w) (by simp [l2, h2, h4]) rfl rfl, then_nx, px_seq]
 simp only [setP_zero, setP_succ]
 rw [px_app (xs := ts) rfl]
 have e : pe F (.tupE (.acons (.min (.var 10) (.var 11)) (.acons (.max (.var 10) (.var 11)) .anil))) [some sc, x1, x2, x3, x4, x5, x6, some (.int (j : Int)), x8, some (.lst true ts), some (.int v), some (.int w)] = some (encK (if w < v then w else v, if w > v then w else v)) := by
  simp [encK]
 rw [e, Option.bind_some, if_pos (by rw [decide_eq_true hl]; rfl), then_nx]
 rfl
structure Sh (p : Prog) (tk : List (Int × Int)) : Prop where
 rows : ∀ r ∈ p.rows, RowOk p.many p.rows.length r ∧ RowLen r
 takes : p.takes = .tup (tk.map encK)
 sm : ∀ q ∈ tk, KSm q
 tkl : tk.length ≤ p.many
 many : p.many ≤ 5
 size : p.rows.length ≤ 12
theorem prog11 (h27 : ∀ k : Nat, k ≤ 1000 → ∃ c, F 27 [.lst false (ns.map .int), .int (k : Int)] = some (.int c)) (h29 : ∀ c d, ∀ m size : Nat, m ≤ 100 → size ≤ 100 → ∃ r, RowOk m size r ∧ RowLen r ∧ F 29 [.int c, .int d, .int (m : Int), .int (size : Int)] = some (encR r)) (h19 : ∀ c, ∃ v, Sm v ∧ F 19 [.int c] = some (.int v)) :
  ∃ p tk, Sh p tk ∧ px F [6, 9] c__law_program_k11.body [some (.lst false (ns.map .int)), some (.int 12), none, none, none, none, none, none, none, none, none, none] = some (.rt (encP p)) := by
 obtain ⟨c0, ec0⟩ := h27 0 (by omega)
 obtain ⟨c1, ec1⟩ := h27 1 (by omega)
 have ec0 : F 27 [.lst false (ns.map .int), .int 0] = some (.int c0) := ec0
 have ec1 : F 27 [.lst false (ns.map .int), .int 1] = some (.int c1) := ec1
 have l2 : lim64 48271 = true := by decide
 obtain ⟨hd, ehd⟩ : ∃ hd, hd = c0 % 2147483647 := ⟨_, rfl⟩
 obtain ⟨tk, etk, htk⟩ : ∃ tk : Nat, hd % 4 = (tk : Int) ∧ tk ≤ 3 := ⟨(hd % 4).toNat, by omega, by omega⟩
 have p6 : (0 : Int) < 6 - (tk : Int) := by omega
 have p7 : (tk : Int) < 6 := by omega
 obtain ⟨w, ew, hw⟩ : ∃ w : Nat, hd * 48271 % 2147483647 % (6 - (tk : Int)) = (w : Int) ∧ w + tk ≤ 5 := ⟨(hd * 48271 % 2147483647 % (6 - (tk : Int))).toNat, (Int.toNat_of_nonneg (Int.emod_nonneg _ (by omega))).symm, by have := Int.emod_lt_of_pos (hd * 48271 % 2147483647) p6; have := Int.emod_nonneg (hd * 48271 % 2147483647) (show (6 - (tk : Int)) ≠ 0 by omega); omega⟩
 obtain ⟨m, hm⟩ : ∃ m, m = tk + w := ⟨_, rfl⟩
 obtain ⟨size, es, hs⟩ : ∃ size : Nat, c1 % 13 = (size : Int) ∧ size ≤ 12 := ⟨(c1 % 13).toNat, by omega, by omega⟩
 obtain ⟨π1, l1, rs, y7, y8, hl, hr, rfl⟩ := loop_range (B := fun d π => px F [6, 9] b__law_program_k11_1 (setP π 7 d)) (fun i π => ∃ (rs : List Row) (y7 y8 : Option P), rs.length = i ∧ (∀ r ∈ rs, RowOk m size r ∧ RowLen r) ∧ π = [some (.lst false (ns.map .int)), some (.int 12), some (.int hd), some (.int (tk : Int)), some (.int (m : Int)), some (.int (size : Int)), some (.lst true (rs.map encR)), y7, y8, none, none, none]) (m := size) (fun i hi π hπ => by
  obtain ⟨rs, y7, y8, hl, hr, rfl⟩ := hπ
  obtain ⟨a, ea⟩ := h27 (8 + 2 * i) (by omega)
  obtain ⟨b, eb⟩ := h27 (9 + 2 * i) (by omega)
  rw [show ((8 + 2 * i : Nat) : Int) = 8 + 2 * (i : Int) by omega] at ea
  rw [show ((9 + 2 * i : Nat) : Int) = 9 + 2 * (i : Int) by omega] at eb
  obtain ⟨r, ok, len, er⟩ := h29 a b m size (by omega) (by omega)
  have tn := rows11 (x1 := some (.int 12)) (x2 := some (.int hd)) (x3 := some (.int (tk : Int))) (x8 := y8) (x9 := none) (x10 := none) (x11 := none) (rs := rs.map encR) ea eb er (by rw [List.length_map]; unfold sizeMax; omega)
  refine ⟨_, tn, rs ++ [r], some (.int (i : Int)), some (.int a), by simp [hl], fun q hq => ?_, by rw [List.map_append]; rfl⟩
  rcases List.mem_append.mp hq with z | z
  ·exact hr q z
  ·rw [List.mem_singleton.mp z]; exact ⟨ok, len⟩) (π := [some (.lst false (ns.map .int)), some (.int 12), some (.int hd), some (.int (tk : Int)), some (.int (m : Int)), some (.int (size : Int)), some (.lst true []), none, none, none, none, none]) ⟨[], none, none, rfl, (fun _ z => nomatch z), rfl⟩
 obtain ⟨π2, l2', ts, z7, z10, z11, hl2, hk, rfl⟩ := loop_range (B := fun d π => px F [6, 9] b__law_program_k11_0 (setP π 7 d)) (fun i π => ∃ (ts : List (Int × Int)) (z7 z10 z11 : Option P), ts.length = i ∧ (∀ q ∈ ts, KSm q) ∧ π = [some (.lst false (ns.map .int)), some (.int 12), some (.int hd), some (.int (tk : Int)), some (.int (m : Int)), some (.int (size : Int)), some (.lst true (rs.map encR)), z7, y8, some (.lst true (ts.map encK)), z10, z11]) (m := tk) (fun i hi π hπ => by
  obtain ⟨ts, z7, z10, z11, hl, hk, rfl⟩ := hπ
  obtain ⟨a, ea⟩ := h27 (2 + 2 * i) (by omega)
  obtain ⟨b, eb⟩ := h27 (3 + 2 * i) (by omega)
  rw [show ((2 + 2 * i : Nat) : Int) = 2 + 2 * (i : Int) by omega] at ea
  rw [show ((3 + 2 * i : Nat) : Int) = 3 + 2 * (i : Int) by omega] at eb
  obtain ⟨v, sv, ev⟩ := h19 a
  obtain ⟨u, su, eu⟩ := h19 b
  have tn := takes11 (x1 := some (.int 12)) (x2 := some (.int hd)) (x3 := some (.int (tk : Int))) (x4 := some (.int (m : Int))) (x5 := some (.int (size : Int))) (x6 := some (.lst true (rs.map encR))) (x8 := y8) (x10 := z10) (x11 := z11) (ts := ts.map encK) ea eb ev eu (by rw [List.length_map]; unfold sizeMax; omega)
  refine ⟨_, tn, ts ++ [(if u < v then u else v, if u > v then u else v)], some (.int (i : Int)), some (.int v), some (.int u), by simp [hl], fun q hq => ?_, by rw [List.map_append]; rfl⟩
  rcases List.mem_append.mp hq with z | z
  ·exact hk q z
  ·rw [List.mem_singleton.mp z]
   refine ⟨?_, ?_⟩
   ·show Sm (if u < v then u else v)
    split
    ·exact su
    ·exact sv
   ·show Sm (if u > v then u else v)
    split
    ·exact su
    ·exact sv) (π := [some (.lst false (ns.map .int)), some (.int 12), some (.int hd), some (.int (tk : Int)), some (.int (m : Int)), some (.int (size : Int)), some (.lst true (rs.map encR)), y7, y8, some (.lst true []), none, none]) ⟨[], y7, none, none, rfl, (fun _ z => nomatch z), rfl⟩
 refine ⟨⟨.tup (ts.map encK), m, rs⟩, ts, ⟨fun r hr' => ?_, rfl, hk, ?_, ?_, ?_⟩, ?_⟩
 ·show RowOk m rs.length r ∧ RowLen r
  rw [hl]; exact hr r hr'
 ·show ts.length ≤ m; omega
 ·show m ≤ 5; omega
 ·show rs.length ≤ 12; omega
 unfold c__law_program_k11
 rw [px_seq, px_setK (p := .int hd) (by simp [ec0, ehd]) rfl rfl, then_nx]
 simp only [setP_zero, setP_succ]
 rw [px_seq, px_setK (p := .int (tk : Int)) (by simp [etk]) rfl rfl, then_nx]
 simp only [setP_zero, setP_succ]
 rw [px_seq, px_setK (p := .int (m : Int)) (by simp [l2, p7, ew, hm]) rfl rfl, then_nx]
 simp only [setP_zero, setP_succ]
 rw [px_seq, px_setK (p := .int (size : Int)) (by simp [ec1, es]) rfl rfl, then_nx]
 simp only [setP_zero, setP_succ]
 rw [px_seq, px_setF (p := .lst true []) (by simp) rfl rfl, then_nx]
 simp only [setP_zero, setP_succ]
 rw [px_seq, px_forS (n := size) (by simp) (by omega) rfl, l1, then_nx]
 rw [px_seq, px_setF (p := .lst true []) (by simp) rfl rfl, then_nx]
 simp only [setP_zero, setP_succ]
 rw [px_seq, px_forS (n := tk) (by simp) (by omega) rfl, l2', then_nx]
 rw [b_ret (v := encP ⟨.tup (ts.map encK), m, rs⟩) (by simp [encP])]
theorem N_prog : ∃ p tk, Sh p tk ∧ prun T (n + 4) 30 [.lst false (ns.map .int), .int 12] = some (encP p) := by
 rw [prun_eq (f := c__law_program_k11) rfl rfl rfl, show muts c__law_program_k11.body = [6, 9] from rfl]
 show ∃ p tk, Sh p tk ∧ resP (px (prun T (n + 3)) [6, 9] c__law_program_k11.body [some (.lst false (ns.map .int)), some (.int 12), none, none, none, none, none, none, none, none, none, none]) = _
 have o28 : ∀ m : Nat, m ≤ 100 → ∀ x, prun T (n + 2) 28 [.int x, .int (m : Int)] = some (encO (opdI x m)) := fun m hm x => by
  rw [prun_eq (f := c__law_operand) rfl rfl rfl]
  show resP (px (prun T (n + 1)) [] c__law_operand.body [some (.int x), some (.int (m : Int))]) = _
  rw [opd_body (fun c => L_small rfl) hm]
  rfl
 obtain ⟨p, tk, sh, e⟩ := prog11 (F := prun T (n + 3)) (ns := ns) (fun k hk => ⟨_, L_cell rfl (by omega)⟩) (fun c d m size hm hs => ⟨rowI c d m size, row_ok c d m size, row_len c d m size, by
  rw [prun_eq (f := c__law_row) rfl rfl rfl]
  show resP (px (prun T (n + 2)) [] c__law_row.body [some (.int c), some (.int d), some (.int (m : Int)), some (.int (size : Int)), none, none, none, none, none]) = _
  rw [row_body (o28 m hm) hs]
  rfl⟩) (fun c => ⟨_, small_sm c, L_small rfl⟩)
 refine ⟨p, tk, sh, ?_⟩
 rw [e]
 rfl
end
end Dp


namespace Dp
open PySem
section
variable {n m : Nat} {F : PFn} {π : PEnv} {p : Prog} {tk : List (Int × Int)}
def encW (ws : List Str) : P := .lst true (ws.map P.str)
def twS (tk : List (Int × Int)) (i : Nat) : List Str := [S "take", leS i, nuS (tk.getD i (0, 0)).1, nuS (tk.getD i (0, 0)).2]
def nmS (i : Nat) : List Str := [S "name", leS i]
def W0 (tk : List (Int × Int)) : List (List Str) := (List.range tk.length).map (twS tk)
def W1 (t m : Nat) : List (List Str) := (List.range (m - t)).map fun k => nmS (t + k)
theorem take_elt {k : Nat} {a b : Int} {ts : List P} {wa wb : Str} (h : ts[k]? = some (.tup [.int a, .int b])) (hk : k < 5) (ea : strOP (.int a) = some (.str wa)) (eb : strOP (.int b) = some (.str wb)) : pe F (.lstE (.acons (.cst (.str (S "take"))) (.acons (.ix (.cst (.str (S "abcdefghijklmnopqrstuvwxyz"))) (.var 0)) (.acons (.strOf (.ix (.ix (.var 1) (.var 0)) (.cst (.int 0)))) (.acons (.strOf (.ix (.ix (.var 1) (.var 0)) (.cst (.int 1)))) .anil))))) [some (.int (k : Int)), some (.tup ts)] = some (encW [S "take", leS k, wa, wb]) := by
 have i1 : pe F (.ix (.cst (.str (S "abcdefghijklmnopqrstuvwxyz"))) (.var 0)) [some (.int (k : Int)), some (.tup ts)] = some (.str (leS k)) := let_ix k hk
 have i2 : pe F (.ix (.var 1) (.var 0)) [some (.int (k : Int)), some (.tup ts)] = some (.tup [.int a, .int b]) := by
  rw [pe_ix]
  show atP ts (k : Int) = _
  rw [at_nat rfl, h]
 have i3 : pe F (.strOf (.ix (.ix (.var 1) (.var 0)) (.cst (.int 0)))) [some (.int (k : Int)), some (.tup ts)] = some (.str wa) := by
  rw [pe_strOf, pe_ix, i2]; exact ea
 have i4 : pe F (.strOf (.ix (.ix (.var 1) (.var 0)) (.cst (.int 1)))) [some (.int (k : Int)), some (.tup ts)] = some (.str wb) := by
  rw [pe_strOf, pe_ix, i2]; exact eb
 rw [pe_lstE, pe_acons, pe_acons, pe_acons, pe_acons, i1, i3, i4]
 rfl
theorem name_elt {k : Nat} (hk : k < 5) : pe F (.lstE (.acons (.cst (.str (S "name"))) (.acons (.ix (.cst (.str (S "abcdefghijklmnopqrstuvwxyz"))) (.var 0)) .anil))) [some (.int (k : Int))] = some (encW (nmS k)) := by
 have i1 : pe F (.ix (.cst (.str (S "abcdefghijklmnopqrstuvwxyz"))) (.var 0)) [some (.int (k : Int))] = some (.str (leS k)) := let_ix k hk
 rw [pe_lstE, pe_acons, pe_acons, i1]
 rfl
theorem tk_get {k : Nat} (hk : k < tk.length) : (tk.map encK)[k]? = some (.tup [.int (tk.getD k (0, 0)).1, .int (tk.getD k (0, 0)).2]) := by
 rw [List.getElem?_map, List.getElem?_eq_getElem hk, List.getD_eq_getElem?_getD, List.getElem?_eq_getElem hk]
 rfl
theorem tk_sm {k : Nat} (hs : ∀ q ∈ tk, KSm q) (hk : k < tk.length) : KSm (tk.getD k (0, 0)) := by
 rw [List.getD_eq_getElem?_getD, List.getElem?_eq_getElem hk]
 exact hs _ (List.getElem_mem hk)
theorem shown0 {x0 x2 : Option P} (hs : ∀ q ∈ tk, KSm q) (ht : tk.length ≤ 5) : pe F e_shown_0 [x0, some (.tup (tk.map encK)), x2] = some (.lst true ((W0 tk).map encW)) := by
 unfold e_shown_0
 have el : pe F (.len (.var 1)) [x0, some (.tup (tk.map encK)), x2] = some (.int (tk.length : Int)) := by
  rw [pe_len]
  show some (P.int ((tk.map encK).length : Int)) = _
  rw [List.length_map]
 have e := pe_compM (F := F) (fr := [1]) (elt := .lstE (.acons (.cst (.str (S "take"))) (.acons (.ix (.cst (.str (S "abcdefghijklmnopqrstuvwxyz"))) (.var 0)) (.acons (.strOf (.ix (.ix (.var 1) (.var 0)) (.cst (.int 0)))) (.acons (.strOf (.ix (.ix (.var 1) (.var 0)) (.cst (.int 1)))) .anil))))) (enc := fun (k : Nat) => P.int (k : Int)) (g := fun k => encW (twS tk k)) (l := List.range tk.length) el (items_rngS (by omega)) (by rw [List.length_range]; omega) (fun k hk => by
  have hk := List.mem_range.mp hk
  have q := tk_sm hs hk
  exact take_elt (tk_get hk) (by omega) (str_pe q.1) (str_pe q.2))
 rw [e]
 unfold W0
 rw [List.map_map]
 rfl
theorem pe_rng2 {a b : CE} : pe F (.rng2 a b) π = (pe F a π).bind fun x => (pe F b π).bind fun y => rng2P x y := pq2_eq
theorem rng2_ok {a b : Int} (h : rangeOk a b 1 = true) : rng2P (.int a) (.int b) = some (.dct [] [.int a, .int b]) := if_pos h
theorem rng2_map {t m : Nat} (h : t ≤ m) : (rangeL (t : Int) (m : Int) 1).map P.int = (List.range (m - t)).map fun (k : Nat) => P.int ((t + k : Nat) : Int) := by
 have e : rangeN (t : Int) (m : Int) 1 = m - t := by
  unfold rangeN
  rw [if_pos (by decide)]
  split
  ·omega
  ·omega
 unfold rangeL
 rw [e, List.map_map]
 apply List.map_congr_left
 intro k _
 show P.int ((t : Int) + (k : Int) * 1) = _
 congr 1
 omega
theorem shown1 {z y : P} {x2 : Option P} (ht : tk.length ≤ m) (hm : m ≤ 5) : pe F e_shown_1 [some (.tup [z, .int (m : Int), y]), some (.tup (tk.map encK)), x2] = some (.lst true ((W1 tk.length m).map encW)) := by
 unfold e_shown_1
 have el : pe F (.len (.var 1)) [some (.tup [z, .int (m : Int), y]), some (.tup (tk.map encK)), x2] = some (.int (tk.length : Int)) := by
  rw [pe_len]
  show some (P.int ((tk.map encK).length : Int)) = _
  rw [List.length_map]
 have er : pe F (.rng2 (.len (.var 1)) (.ix (.var 0) (.cst (.int 1)))) [some (.tup [z, .int (m : Int), y]), some (.tup (tk.map encK)), x2] = some (.dct [] [.int (tk.length : Int), .int (m : Int)]) := by
  have ro : rangeOk (tk.length : Int) (m : Int) 1 = true := by
   unfold rangeOk
   apply decide_eq_true
   refine ⟨⟨?_, ?_⟩, ⟨?_, ?_⟩, .inl rfl⟩ <;> omega
  rw [pe_rng2, el, show pe F (.ix (.var 0) (.cst (.int 1))) [some (.tup [z, .int (m : Int), y]), some (.tup (tk.map encK)), x2] = some (.int (m : Int)) from rfl, Option.bind_some, Option.bind_some]
  exact rng2_ok ro
 have ew : walkP false (.dct [] [.int (tk.length : Int), .int (m : Int)]) = some ((rangeL (tk.length : Int) (m : Int) 1).map P.int) := rfl
 rw [rng2_map ht] at ew
 have e := pe_compM (F := F) (fr := []) (elt := .lstE (.acons (.cst (.str (S "name"))) (.acons (.ix (.cst (.str (S "abcdefghijklmnopqrstuvwxyz"))) (.var 0)) .anil))) (enc := fun (k : Nat) => P.int ((tk.length + k : Nat) : Int)) (g := fun k => encW (nmS (tk.length + k))) (l := List.range (m - tk.length)) er ew (by rw [List.length_range]; omega) (fun k hk => by
  have hk := List.mem_range.mp hk
  exact name_elt (by omega))
 rw [e]
 unfold W1
 rw [List.map_map]
 rfl
theorem shown2 {z y : P} {x1 x2 : Option P} {rs : List Row} (h : ∀ r ∈ rs, F 219 [encR r] = some (encW (woS r))) (hl : rs.length ≤ 1000) : pe F e_shown_2 [some (.tup [z, y, .tup (rs.map encR)]), x1, x2] = some (.lst true ((rs.map woS).map encW)) := by
 unfold e_shown_2
 have ei : pe F (.ix (.var 0) (.cst (.int 2))) [some (.tup [z, y, .tup (rs.map encR)]), x1, x2] = some (.tup (rs.map encR)) := by rfl
 have ew : walkP false (.tup (rs.map encR)) = some (rs.map encR) := rfl
 rw [pe_compM (elt := .call 219 (.acons (.var 0) .anil) []) (fr := []) (enc := encR) (g := fun r => encW (woS r)) ei ew hl (fun r hr => h r hr), List.map_map]
 rfl
def WOk (W : List (List Str)) : Prop := ∀ ws ∈ W, ws.length ≤ 6 ∧ ∀ w ∈ ws, w.length ≤ 13
theorem ln_len {ws : List Str} (h : ws.length ≤ 6 ∧ ∀ w ∈ ws, w.length ≤ 13) : (ln ws).length ≤ 84 := by
 have := gl_len blank h.2
 have h1 := h.1
 unfold ln
 omega
theorem ln_join {ws : List Str} (h : ws.length ≤ 6 ∧ ∀ w ∈ ws, w.length ≤ 13) : joinP (.str (S " ")) (encW ws) = some (.str (ln ws)) := join_gl blank h.2 (by have := h.1; omega)
theorem shown3 {x0 x1 : Option P} {W : List (List Str)} (hw : WOk W) (hl : W.length ≤ 100) : pe F e_shown_3 [x0, x1, some (.lst true (W.map encW))] = some (.lst true ((W.map ln).map P.str)) := by
 unfold e_shown_3
 have ew : walkP false (.lst true (W.map encW)) = some (W.map encW) := rfl
 rw [pe_compM (enc := encW) (g := fun ws => P.str (ln ws)) (show pe F (.var 2) [x0, x1, some (.lst true (W.map encW))] = some (.lst true (W.map encW)) from rfl) ew (by omega) (fun ws hs => by
  rw [pe_joinE]
  exact ln_join (hw ws hs)), List.map_map]
 rfl
def NL : Str := S "\n"
theorem nl1 : NL.length = 1 := by decide +kernel
theorem nl_join {W : List (List Str)} {b : Bool} (hw : WOk W) (hl : W.length ≤ 100) : joinP (.str NL) (.lst b ((W.map ln).map P.str)) = some (.str (gl NL (W.map ln))) := join_gl (j := 84) nl1 (fun w h => by
 obtain ⟨ws, hs, rfl⟩ := List.mem_map.mp h
 exact ln_len (hw ws hs)) (by rw [List.length_map]; omega)
def allW (p : Prog) (tk : List (Int × Int)) : List (List Str) := W0 tk ++ W1 tk.length p.many ++ p.rows.map woS
theorem allW_ok (h : Sh p tk) : WOk (allW p tk) ∧ (allW p tk).length ≤ 17 := by
 have hm := h.many
 have ht := h.tkl
 have hz := h.size
 refine ⟨fun ws hs => ?_, ?_⟩
 ·have q1 : (S "take").length ≤ 13 ∧ (S "name").length ≤ 13 := by decide +kernel
  rcases List.mem_append.mp hs with hs | hs
  ·rcases List.mem_append.mp hs with hs | hs
   ·obtain ⟨i, hi, rfl⟩ := List.mem_map.mp hs
    have q := tk_sm h.sm (List.mem_range.mp hi)
    refine ⟨(show 4 ≤ 6 by omega), fun w hw => ?_⟩
    simp only [twS, List.mem_cons, List.not_mem_nil, or_false] at hw
    rcases hw with rfl | rfl | rfl | rfl
    ·exact q1.1
    ·exact le_len
    ·exact nu_len q.1
    ·exact nu_len q.2
   ·obtain ⟨i, _, rfl⟩ := List.mem_map.mp hs
    refine ⟨(show 2 ≤ 6 by omega), fun w hw => ?_⟩
    simp only [nmS, List.mem_cons, List.not_mem_nil, or_false] at hw
    rcases hw with rfl | rfl
    ·exact q1.2
    ·exact le_len
  ·obtain ⟨r, hr, rfl⟩ := List.mem_map.mp hs
   exact wo_len (by omega) (h.rows r hr).1 (h.rows r hr).2
 ·unfold allW W0 W1
  rw [List.length_append, List.length_append, List.length_map, List.length_map, List.length_map, List.length_range, List.length_range]
  omega
theorem M_shown (h : Sh p tk) : prun T (n + 3) 220 [encP p] = some (.str (gl NL ((allW p tk).map ln))) := by
 have hm := h.many
 have ht := h.tkl
 have hz := h.size
 rw [prun_eq (f := c_shown) rfl rfl rfl, show muts c_shown.body = [2, 2] from rfl]
 show resP (px (prun T (n + 2)) [2, 2] c_shown.body [some (encP p), none, none]) = _
 unfold c_shown encP
 rw [h.takes]
 rw [px_seq, px_setK (p := .tup (tk.map encK)) (by rfl) rfl rfl, then_nx]
 simp only [setP_zero, setP_succ]
 rw [px_seq, px_setF (p := .lst true ((W0 tk).map encW)) (shown0 h.sm (by omega)) rfl rfl, then_nx]
 simp only [setP_zero, setP_succ]
 have l0 : (W0 tk).length = tk.length := by unfold W0; rw [List.length_map, List.length_range]
 have l1 : (W1 tk.length p.many).length = p.many - tk.length := by unfold W1; rw [List.length_map, List.length_range]
 rw [px_seq, px_ext (xs := (W0 tk).map encW) (ys := (W1 tk.length p.many).map encW) rfl (shown1 ht hm) rfl (by rw [List.length_map, List.length_map, l0, l1]; unfold sizeMax; omega), then_nx]
 simp only [setP_zero, setP_succ]
 rw [px_seq, px_ext (xs := (W0 tk).map encW ++ (W1 tk.length p.many).map encW) (ys := (p.rows.map woS).map encW) rfl (shown2 (fun r hr => M_words hm (by omega) (h.rows r hr).1) (by omega)) rfl (by rw [List.length_append, List.length_map, List.length_map, List.length_map, List.length_map, l0, l1]; unfold sizeMax; omega), then_nx]
 simp only [setP_zero, setP_succ]
 rw [← List.map_append, ← List.map_append, show W0 tk ++ W1 tk.length p.many ++ p.rows.map woS = allW p tk from rfl]
 obtain ⟨ok, len⟩ := allW_ok h
 rw [b_ret (v := .str (gl NL ((allW p tk).map ln))) (by
  rw [pe_joinE, shown3 (W := allW p tk) ok (by omega)]
  exact nl_join (b := true) ok (by omega))]
 rfl
end
end Dp


namespace Dp
open PySem
section
variable {n m : Nat} {F : PFn} {π : PEnv} {p : Prog} {tk : List (Int × Int)}
theorem noLs_str : ∀ {l : List Str}, noLs (l.map P.str) = true
 | [] => rfl
 | x :: l => by
  show (true && noLs (l.map P.str)) = true
  rw [noLs_str]; rfl
def lawW (tk : List (Int × Int)) (i : Nat) : List Str := if i < tk.length then twS tk i else nmS i
theorem take_turn {x0 w4 w5 w6 : Option P} {k : Nat} {a b : Int} {ts ys : List P} {q1 q2 : P} {wa wb : Str} (hk : k < ts.length) (h : ts[k]? = some (.tup [.int a, .int b])) (h5 : k < 5) (ea : strOP (.int a) = some (.str wa)) (eb : strOP (.int b) = some (.str wb)) (la : wa.length ≤ 13) (lb : wb.length ≤ 13) (hl : ys.length < sizeMax) :
  px F [2, 2] b_law_k11_0 [x0, some (.tup [.tup ts, q1, q2]), some (.lst true ys), some (.int (k : Int)), w4, w5, w6] = some (.nx [x0, some (.tup [.tup ts, q1, q2]), some (.lst true (ys ++ [.str (ln [S "take", leS k, wa, wb])])), some (.int (k : Int)), some (.int a), some (.int b), w6]) := by
 unfold b_law_k11_0
 have c : pe F (.cmp .Lt (.var 3) (.len (.ix (.var 1) (.cst (.int 0))))) [x0, some (.tup [.tup ts, q1, q2]), some (.lst true ys), some (.int (k : Int)), w4, w5, w6] = some (.bl true) := by
  have : (k : Int) < (ts.length : Int) := by omega
  show some (P.bl (decide ((k : Int) < (ts.length : Int)))) = _
  rw [decide_eq_true this]
 have i : pe F (.ix (.ix (.var 1) (.cst (.int 0))) (.var 3)) [x0, some (.tup [.tup ts, q1, q2]), some (.lst true ys), some (.int (k : Int)), w4, w5, w6] = some (.tup [.int a, .int b]) := by
  rw [pe_ix, show pe F (.ix (.var 1) (.cst (.int 0))) [x0, some (.tup [.tup ts, q1, q2]), some (.lst true ys), some (.int (k : Int)), w4, w5, w6] = some (.tup ts) from rfl, Option.bind_some]
  show atP ts (k : Int) = _
  rw [at_nat rfl, h]
 rw [px_seq, px_ite, c, test_bl, if_pos rfl, px_seq, px_set2 i rfl, then_nx, px_seq]
 simp only [setP_zero, setP_succ]
 rw [px_app (xs := ys) rfl]
 have b1 : ∀ {π : PEnv}, Tx F π 1 (.cst (.str (S " "))) (S " ") := fun {π} => Tx.cst (by decide +kernel)
 have t3 : Tx F [x0, some (.tup [.tup ts, q1, q2]), some (.lst true ys), some (.int (k : Int)), some (.int a), some (.int b), w6] 13 (.ix (.cst (.str (S "abcde"))) (.var 3)) (leS k) := ⟨abc_ix k h5, le_len⟩
 have t4 : Tx F [x0, some (.tup [.tup ts, q1, q2]), some (.lst true ys), some (.int (k : Int)), some (.int a), some (.int b), w6] 13 (.strOf (.var 4)) wa := ⟨by rw [pe_strOf]; exact ea, la⟩
 have t5 : Tx F [x0, some (.tup [.tup ts, q1, q2]), some (.lst true ys), some (.int (k : Int)), some (.int a), some (.int b), w6] 13 (.strOf (.var 5)) wb := ⟨by rw [pe_strOf]; exact eb, lb⟩
 have c1 := (((((Tx.cst (F := F) (s := S "take ") (j := 5) (by decide +kernel)).add t3 (by decide)).add b1 (by decide)).add t4 (by decide)).add b1 (by decide)).add t5 (by decide)
 have e : S "take " ++ leS k ++ S " " ++ wa ++ S " " ++ wb = ln [S "take", leS k, wa, wb] := by
  apply str_ext
  unfold ln
  rw [gl_list]
  have e : (S "take ").cps.toList = (S "take").cps.toList ++ (S " ").cps.toList := by decide +kernel
  simp only [app_list, e, gluL, gluR, List.append_assoc, List.append_nil]
 rw [c1.e, e, Option.bind_some, if_pos (by rw [decide_eq_true hl]; rfl), then_nx, px_skip, then_nx, px_skip]
 rfl
theorem name_turn {x0 w4 w5 w6 : Option P} {k : Nat} {ts ys : List P} {q1 q2 : P} (hk : ts.length ≤ k) (h5 : k < 5) (hl : ys.length < sizeMax) :
  px F [2, 2] b_law_k11_0 [x0, some (.tup [.tup ts, q1, q2]), some (.lst true ys), some (.int (k : Int)), w4, w5, w6] = some (.nx [x0, some (.tup [.tup ts, q1, q2]), some (.lst true (ys ++ [.str (ln [S "name", leS k])])), some (.int (k : Int)), w4, w5, w6]) := by
 unfold b_law_k11_0
 have c : pe F (.cmp .Lt (.var 3) (.len (.ix (.var 1) (.cst (.int 0))))) [x0, some (.tup [.tup ts, q1, q2]), some (.lst true ys), some (.int (k : Int)), w4, w5, w6] = some (.bl false) := by
  have : ¬ (k : Int) < (ts.length : Int) := by omega
  show some (P.bl (decide ((k : Int) < (ts.length : Int)))) = _
  rw [decide_eq_false this]
 rw [px_seq, px_ite, c, test_bl, if_neg Bool.false_ne_true, px_seq, px_app (xs := ys) rfl]
 have t3 : Tx F [x0, some (.tup [.tup ts, q1, q2]), some (.lst true ys), some (.int (k : Int)), w4, w5, w6] 13 (.ix (.cst (.str (S "abcde"))) (.var 3)) (leS k) := ⟨abc_ix k h5, le_len⟩
 have c1 := (Tx.cst (F := F) (s := S "name ") (j := 5) (by decide +kernel)).add t3 (by decide)
 have e : S "name " ++ leS k = ln [S "name", leS k] := by
  apply str_ext
  unfold ln
  rw [gl_list]
  have e : (S "name ").cps.toList = (S "name").cps.toList ++ (S " ").cps.toList := by decide +kernel
  simp only [app_list, e, gluL, gluR, List.append_assoc, List.append_nil]
 rw [c1.e, e, Option.bind_some, if_pos (by rw [decide_eq_true hl]; rfl), then_nx, px_skip, then_nx, px_skip]
 rfl
theorem snoc_str {f : Nat → Str} {i : Nat} : ((List.range i).map f).map P.str ++ [.str (f i)] = ((List.range (i + 1)).map f).map P.str := by
 rw [List.range_succ, List.map_append, List.map_append]
 rfl
theorem turn11 {x0 w4 w5 w6 : Option P} {i : Nat} {q1 q2 : P} (h : Sh p tk) (hi : i < p.many) : ∃ y4 y5, px F [2, 2] b_law_k11_0 [x0, some (.tup [.tup (tk.map encK), q1, q2]), some (.lst true (((List.range i).map fun k => ln (lawW tk k)).map P.str)), some (.int (i : Int)), w4, w5, w6] = some (.nx [x0, some (.tup [.tup (tk.map encK), q1, q2]), some (.lst true (((List.range (i + 1)).map fun k => ln (lawW tk k)).map P.str)), some (.int (i : Int)), y4, y5, w6]) := by
 have hm := h.many
 have hl : (((List.range i).map fun k => ln (lawW tk k)).map P.str).length < sizeMax := by rw [List.length_map, List.length_map, List.length_range]; unfold sizeMax; omega
 rw [← snoc_str]
 by_cases c : i < tk.length
 ·have q := tk_sm h.sm c
  rw [show lawW tk i = twS tk i from if_pos c]
  exact ⟨_, _, take_turn (by rw [List.length_map]; exact c) (tk_get c) (by omega) (str_pe q.1) (str_pe q.2) (nu_len q.1) (nu_len q.2) hl⟩
 ·rw [show lawW tk i = nmS i from if_neg c]
  exact ⟨_, _, name_turn (by rw [List.length_map]; omega) (by omega) hl⟩
theorem all_law (h : Sh p tk) : (allW p tk).map ln = ((List.range p.many).map fun k => ln (lawW tk k)) ++ p.rows.map fun r => ln (woS r) := by
 have ht := h.tkl
 unfold allW W0 W1
 rw [List.map_append, List.map_append, List.map_map, List.map_map, List.map_map]
 congr 1
 have e : List.range p.many = List.range (tk.length + (p.many - tk.length)) := by congr 1; omega
 rw [e, List.range_add, List.map_append, List.map_map]
 congr 1
 ·apply List.map_congr_left
  intro k hk
  have hk := List.mem_range.mp hk
  show ln (twS tk k) = ln (lawW tk k)
  rw [show lawW tk k = twS tk k from if_pos hk]
 ·apply List.map_congr_left
  intro k hk
  show ln (nmS (tk.length + k)) = ln (lawW tk (tk.length + k))
  rw [show lawW tk (tk.length + k) = nmS (tk.length + k) from if_neg (by omega)]
theorem law_body {ns : List Int} (h30 : F 30 [.lst false (ns.map .int), .int 12] = some (encP p)) (h : Sh p tk) (h221 : ∀ r ∈ p.rows, F 221 [encR r] = some (.str (ln (woS r)))) (h220 : F 220 [encP p] = some (.str (gl NL ((allW p tk).map ln)))) : px F [2, 2] c_law_k11.body [some (.lst false (ns.map .int)), none, none, none, none, none, none] = some (.rt (.bl true)) := by
 have hm := h.many
 have hz := h.size
 unfold c_law_k11
 rw [px_seq, px_setK (p := encP p) (by exact h30) rfl rfl, then_nx]
 simp only [setP_zero, setP_succ]
 rw [px_seq, px_setF (p := .lst true []) (by rfl) rfl rfl, then_nx]
 simp only [setP_zero, setP_succ]
 have ep : encP p = .tup [.tup (tk.map encK), .int (p.many : Int), .tup (p.rows.map encR)] := by unfold encP; rw [h.takes]
 obtain ⟨π1, l1, y3, y4, y5, rfl⟩ := loop_range (B := fun d π => px F [2, 2] b_law_k11_0 (setP π 3 d)) (fun i π => ∃ (y3 y4 y5 : Option P), π = [some (.lst false (ns.map .int)), some (encP p), some (.lst true (((List.range i).map fun k => ln (lawW tk k)).map P.str)), y3, y4, y5, none]) (m := p.many) (fun i hi π hπ => by
  obtain ⟨y3, y4, y5, rfl⟩ := hπ
  rw [ep]
  obtain ⟨z4, z5, e⟩ := turn11 (F := F) (x0 := some (.lst false (ns.map .int))) (w4 := y4) (w5 := y5) (w6 := none) (q1 := .int (p.many : Int)) (q2 := .tup (p.rows.map encR)) h hi
  exact ⟨_, e, _, _, _, rfl⟩) (π := [some (.lst false (ns.map .int)), some (encP p), some (.lst true []), none, none, none, none]) ⟨none, none, none, rfl⟩
 rw [px_seq, px_forS (n := p.many) (by rfl) (by omega) rfl, l1, then_nx]
 have ec : pe F e_law_k11_0 [some (.lst false (ns.map .int)), some (encP p), some (.lst true (((List.range p.many).map fun k => ln (lawW tk k)).map P.str)), y3, y4, y5, none] = some (.lst true (p.rows.map fun r => P.str (ln (woS r)))) := by
  unfold e_law_k11_0
  exact pe_compM (elt := .call 221 (.acons (.var 0) .anil) []) (fr := []) (enc := encR) (g := fun r => P.str (ln (woS r))) (show pe F (.ix (.var 1) (.cst (.int 2))) _ = some (.tup (p.rows.map encR)) from rfl) rfl (by omega) (fun r hr => h221 r hr)
 have el : (((List.range p.many).map fun k => ln (lawW tk k)).map P.str) ++ (p.rows.map fun r => P.str (ln (woS r))) = ((allW p tk).map ln).map P.str := by
  rw [all_law h, List.map_append, List.map_map]
  congr 1
  rw [List.map_map]
  rfl
 have ea : pe F (.bin .Add (.var 2) e_law_k11_0) [some (.lst false (ns.map .int)), some (encP p), some (.lst true (((List.range p.many).map fun k => ln (lawW tk k)).map P.str)), y3, y4, y5, none] = some (.lst true (((allW p tk).map ln).map P.str)) := by
  rw [pe_bin, ec, show pe F (.var 2) [some (.lst false (ns.map .int)), some (encP p), some (.lst true (((List.range p.many).map fun k => ln (lawW tk k)).map P.str)), y3, y4, y5, none] = some (.lst true (((List.range p.many).map fun k => ln (lawW tk k)).map P.str)) from rfl, Option.bind_some, Option.bind_some, ← el]
  refine if_pos ⟨rfl, ?_⟩
  rw [List.length_map, List.length_map, List.length_map, List.length_range]
  unfold sizeMax
  omega
 rw [px_seq, px_setF ea rfl (by
  show (true && (noM [2, 2] (.bin .Add (.var 2) e_law_k11_0) || noLs (((allW p tk).map ln).map P.str))) = true
  rw [noLs_str, Bool.or_true]; rfl), then_nx]
 simp only [setP_zero, setP_succ]
 rw [px_seq, px_setK (p := .str (gl NL ((allW p tk).map ln))) (by exact h220) rfl rfl, then_nx]
 simp only [setP_zero, setP_succ]
 obtain ⟨ok, len⟩ := allW_ok h
 have ej : pe F (.joinE (.cst (.str (S "\n"))) (.var 2)) [some (.lst false (ns.map .int)), some (encP p), some (.lst true (((allW p tk).map ln).map P.str)), y3, y4, y5, some (.str (gl NL ((allW p tk).map ln)))] = some (.str (gl NL ((allW p tk).map ln))) := by
  rw [pe_joinE]
  exact nl_join (b := true) ok (by omega)
 rw [b_ret (v := .bl true) (by
  rw [pe_and, pe_cmp, ej]
  show cmpPR .Eq (.str (gl NL ((allW p tk).map ln))) (.str (gl NL ((allW p tk).map ln))) = _
  rw [cmp_eqS, decide_eq_true rfl])]
end
theorem law_holds {n : Nat} {ns : List Int} (hn : ns.length ≤ 63) : prun T (n + 10) 16 [.lst false (ns.map .int)] = some (.bl true) := by
 rw [prun_eq (f := c_law_k11) rfl rfl rfl, show muts c_law_k11.body = [2, 2] from rfl]
 show resP (px (prun T (n + 9)) [2, 2] c_law_k11.body [some (.lst false (ns.map .int)), none, none, none, none, none, none]) = _
 obtain ⟨p, tk, sh, e⟩ := N_prog (n := n + 5) (ns := ns)
 have hz := sh.size
 rw [law_body e sh (fun r hr => N_line (n := n + 7) sh.many (by omega) (sh.rows r hr).1 (sh.rows r hr).2) (M_shown (n := n + 6) sh)]
 rfl
end Dp


namespace Dp
open PySem L2
noncomputable def top (i : Nat) : Stmt := PySem.Challenge.pw_fakehunt_k11_shown.main.body.getD i (.Pass ⟨0, 0, 0, 0⟩)
noncomputable def G : Gs := [(S "LETTERS", GV.cst (.str (S "abcdefghijklmnopqrstuvwxyz"))), (S "operand_shown", GV.fn 218 1 []), (S "words_of", GV.fn 219 1 []), (S "shown", GV.fn 220 1 []), (S "_law_whole", GV.fn 17 1 []), (S "_law_cell_at", GV.fn 27 2 []), (S "_law_small_by", GV.fn 19 1 []), (S "_law_operand", GV.fn 28 2 []), (S "_law_row", GV.fn 29 4 []), (S "_law_program", GV.fn 30 2 []), (S "_law_word", GV.fn 214 1 []), (S "_law_line", GV.fn 221 1 []), (S "law", GV.fn 16 1 []), (S "len", GV.blt), (S "range", GV.blt), (S "tuple", GV.blt), (S "list", GV.blt), (S "int", GV.blt), (S "bool", GV.blt), (S "str", GV.blt), (S "min", GV.blt), (S "max", GV.blt), (S "isinstance", GV.blt), (S "all", GV.blt), (S "any", GV.blt), (S "zip", GV.blt), (S "sorted", GV.blt), (S "enumerate", GV.blt)]
noncomputable def mtop (i k : Nat) : Stmt := match top i with
 | .ClassDef _ _ _ b _ _ _ _ _ _ _ => b.getD k (.Pass ⟨0, 0, 0, 0⟩)
 | s => s
abbrev Cmp (i : Nat) (N ps : List Str) (c : CS) : Prop := CmpS G (top i) N ps c
local macro_rules
 | `(tactic| trivial) => `(tactic| exact ⟨⟨rfl, rfl, rfl, by decide +kernel, rfl, by decide +kernel, by decide +kernel⟩, by unfold L2.Loc; decide +kernel, by kernel_rfl⟩)
theorem q_2 : Cmp 2 [S "operand"] [S "operand"] c_operand_shown.body := by trivial
theorem q_3 : Cmp 3 [S "row"] [S "row"] c_words_of.body := by trivial
theorem q_4 : Cmp 4 [S "program", S "takes", S "lines"] [S "program"] c_shown.body := by trivial
theorem q_6 : Cmp 6 [S "_law_found"] [S "_law_found"] c__law_whole.body := by trivial
theorem q_7 : Cmp 7 [S "_law_script", S "_law_k"] [S "_law_script", S "_law_k"] c__law_cell_at.body := by trivial
theorem q_8 : Cmp 8 [S "_law_cell", S "_law_some"] [S "_law_cell"] c__law_small_by.body := by trivial
theorem q_9 : Cmp 9 [S "_law_number", S "_law_many"] [S "_law_number", S "_law_many"] c__law_operand.body := by trivial
theorem q_10 : Cmp 10 [S "_law_cell", S "_law_more", S "_law_many", S "_law_size", S "_law_one", S "_law_other", S "_law_sign", S "_law_at", S "_law_x"] [S "_law_cell", S "_law_more", S "_law_many", S "_law_size"] c__law_row.body := by trivial
theorem q_11 : Cmp 11 [S "_law_script", S "_law_most", S "_law_head", S "_law_taken", S "_law_many", S "_law_size", S "_law_rows", S "_law_k", S "_law_cell", S "_law_takes", S "_law_low", S "_law_high"] [S "_law_script", S "_law_most"] c__law_program_k11.body := by trivial
theorem q_12 : Cmp 12 [S "_law_operand_here"] [S "_law_operand_here"] c__law_word_k11.body := by trivial
theorem q_13 : Cmp 13 [S "_law_row_here", S "_law_some"] [S "_law_row_here"] c__law_line.body := by trivial
theorem q_14 : Cmp 14 [S "_law_script", S "_law_program_here", S "_law_lines", S "_law_k", S "_law_low", S "_law_high", S "_law_found"] [S "_law_script"] c_law_k11.body := by trivial
@[reducible] noncomputable def tab (l : List (Nat × Addr)) : ClsTab := ⟨fun i => (l.lookup i).getD 0⟩
section
variable [ct : ClsTab]
theorem all_mk {Pm : Params} {K : PySem.W.Frag} {h : Heap} {mg : Str → Option Value} {fa : Addr} (X : K.In h) (G0 : h.Ns mainGlobals mg) (hfa : mg "law" = some (.ref fa))
  {t0 : Tok}
  (g0 : PySem.W.nsIn K mainGlobals "LETTERS" = some (some (.str (S "abcdefghijklmnopqrstuvwxyz") t0)))
  (a1 : FnAt K "operand_shown" (top 2))
  (a2 : FnAt K "words_of" (top 3))
  (a3 : FnAt K "shown" (top 4))
  (a4 : FnAt K "_law_whole" (top 6))
  (a5 : FnAt K "_law_cell_at" (top 7))
  (a6 : FnAt K "_law_small_by" (top 8))
  (a7 : FnAt K "_law_operand" (top 9))
  (a8 : FnAt K "_law_row" (top 10))
  (a9 : FnAt K "_law_program" (top 11))
  (a10 : FnAt K "_law_word" (top 12))
  (a11 : FnAt K "_law_line" (top 13))
  (a12 : FnAt K "law" (top 14))
  (z13 : PySem.W.nsIn K mainGlobals "len" = some none)
  (z14 : PySem.W.nsIn K mainGlobals "range" = some none)
  (z15 : PySem.W.nsIn K mainGlobals "tuple" = some none)
  (z16 : PySem.W.nsIn K mainGlobals "list" = some none)
  (z17 : PySem.W.nsIn K mainGlobals "int" = some none)
  (z18 : PySem.W.nsIn K mainGlobals "bool" = some none)
  (z19 : PySem.W.nsIn K mainGlobals "str" = some none)
  (z20 : PySem.W.nsIn K mainGlobals "min" = some none)
  (z21 : PySem.W.nsIn K mainGlobals "max" = some none)
  (z22 : PySem.W.nsIn K mainGlobals "isinstance" = some none)
  (z23 : PySem.W.nsIn K mainGlobals "all" = some none)
  (z24 : PySem.W.nsIn K mainGlobals "any" = some none)
  (z25 : PySem.W.nsIn K mainGlobals "zip" = some none)
  (z26 : PySem.W.nsIn K mainGlobals "sorted" = some none)
  (z27 : PySem.W.nsIn K mainGlobals "enumerate" = some none) :
  Text Pm K mg G T ∧ ∃ (fd : FuncData) (N : List Str), (∀ (s : Shared) (u : Value), BindsTo s fd ⟨[u], []⟩ [(S "_law_script", u)]) ∧ DefOk K mg G T "law" 16 [] fa fd [S "_law_script"] N := by
 exact ⟨text_of (⟨⟨_, _, PySem.W.mg_of X G0 g0, (show RelV (.str _) _ from ⟨_, rfl⟩), fun _ _ => .str _⟩, gD X G0 a1 q_2 rfl (gD X G0 a2 q_3 rfl (gD X G0 a3 q_4 rfl (gD X G0 a4 q_6 rfl (gD X G0 a5 q_7 rfl (gD X G0 a6 q_8 rfl (gD X G0 a7 q_9 rfl (gD X G0 a8 q_10 rfl (gD X G0 a9 q_11 rfl (gD X G0 a10 q_12 rfl (gD X G0 a11 q_13 rfl (gD X G0 a12 q_14 rfl (gB X G0 z13 (gB X G0 z14 (gB X G0 z15 (gB X G0 z16 (gB X G0 z17 (gB X G0 z18 (gB X G0 z19 (gB X G0 z20 (gB X G0 z21 (gB X G0 z22 (gB X G0 z23 (gB X G0 z24 (gB X G0 z25 (gB X G0 z26 (gB X G0 z27 (trivial)))))))))))))))))))))))))))⟩), gL X G0 hfa a12 q_14 rfl fun _ _ _ _ _ _ _ => rfl⟩
theorem no_comp : ∀ n, CompOk G (run T n) := fun _ => comp_ok
end
end Dp
open PySem PySem.W PyProof.Rows
set_option maxRecDepth 100000 in
set_option maxHeartbeats 0 in
theorem PySem.Challenge.cw_fakehunt_k11_shown_holds : PySem.Challenge.rw_fakehunt_k11_shown.Holds := by
 w_on; o_law; k_head; (case hw => w_witness2)
 k_fill
 refine Dp.law_walk (l := PySem.Challenge.rw_fakehunt_k11_shown) (G := Dp.G) (T := Dp.T) (n := 10) (i := 16) (x := "_law_script") rfl rfl ⟨rfl, by decide, by decide⟩ (fun w h Y => PySem.W.kIn_of Y) Dp.no_comp ?F (fun ns hn => Dp.law_holds hn)
 case F =>
  intro w mg fa h KX G0 hmg
  refine' ⟨Dp.tab [], Dp.all_mk (ct := Dp.tab []) (Pm := w.params)  KX G0 hmg  ?_ (.mk ?_ ?_ ?_ ?_) (.mk ?_ ?_ ?_ ?_) (.mk ?_ ?_ ?_ ?_) (.mk ?_ ?_ ?_ ?_) (.mk ?_ ?_ ?_ ?_) (.mk ?_ ?_ ?_ ?_) (.mk ?_ ?_ ?_ ?_) (.mk ?_ ?_ ?_ ?_) (.mk ?_ ?_ ?_ ?_) (.mk ?_ ?_ ?_ ?_) (.mk ?_ ?_ ?_ ?_) (.mk ?_ ?_ ?_ ?_) ?_ ?_ ?_ ?_ ?_ ?_ ?_ ?_ ?_ ?_ ?_ ?_ ?_ ?_ ?_⟩
  all_goals (first | k_is | exact rfl | skip)
  all_goals (first | k_is | exact rfl | skip)

import PyProof.Rows.All
import Wide.All
import OpenK.AllK
import Wide.FinOn
import Lean
import PyProof.EqAt
import PyProof.EqKinds
import PyProof.TupleCall
import PySem.Challenge.RW_inkyears_k02_inks
set_option Elab.async false
set_option linter.all false
set_option maxRecDepth 100000
/-! THE HAND LAYER, for ints, bools, texts, own classes, LISTS and tuples (index, slices, in, append, pop ..), calls, loops. Paste it whole ahead of your own text; what your proof does not reach may be deleted. -/
namespace L2
open PySem PySem.Spec PyProof.Rows

/-- a key: an int or a str -/
abbrev Key := Sum Int Str
def keyIs : Key → Value → Bool
  | .inl k, v => Value.isInt k v
  | .inr x, v => Value.isStrOf x v
def keyH (w : World) : Key → Int
  | .inl k => hashInt k
  | .inr x => hashStr w x
theorem keyIs_shape : ∀ {k : Key} {v : Value}, keyIs k v = true → (∃ i t, k = Sum.inl i ∧ v = Value.int i t) ∨ (∃ x t, k = Sum.inr x ∧ v = Value.str x t)
  | .inl i, v, h => by
    obtain ⟨t, e⟩ := Value.isInt_shape (k := i) (v := v) h
    exact .inl ⟨i, t, rfl, e⟩
  | .inr x, v, h => by
    obtain ⟨t, e⟩ := Value.isStrOf_shape (x := x) (v := v) h
    exact .inr ⟨x, t, rfl, e⟩
theorem keyIs_int (i : Int) (t : Tok) : keyIs (.inl i) (.int i t) = true := by simp [keyIs, Value.isInt]
theorem keyIs_str (x : Str) (t : Tok) : keyIs (.inr x) (.str x t) = true := by simp [keyIs, Value.isStrOf]
theorem key_ll (a b : Int) : decide ((Sum.inl a : Key) = Sum.inl b) = (a == b) := by
  by_cases e : a = b
  · subst e; simp
  · have h : ¬ (Sum.inl a : Key) = Sum.inl b := fun q => e (Sum.inl.inj q)
    rw [decide_eq_false h]
    exact (beq_eq_false_iff_ne.mpr e).symm
theorem key_rr (a b : Str) : decide ((Sum.inr a : Key) = Sum.inr b) = decide (a = b) := by
  by_cases e : a = b
  · subst e; simp
  · have h : ¬ (Sum.inr a : Key) = Sum.inr b := fun q => e (Sum.inr.inj q)
    rw [decide_eq_false h, decide_eq_false e]
theorem key_lr (a : Int) (b : Str) : decide ((Sum.inl a : Key) = Sum.inr b) = false := decide_eq_false (fun q => nomatch q)
theorem key_rl (a : Str) (b : Int) : decide ((Sum.inr a : Key) = Sum.inl b) = false := decide_eq_false (fun q => nomatch q)

def mixKind (prog : Program) (w : World) : PySem.KeyKind prog w Key where
  is := keyIs
  hash := keyH w
  inj := fun v a b ha hb => by
    rcases keyIs_shape ha with ⟨i, t, rfl, rfl⟩ | ⟨x, t, rfl, rfl⟩
    · rcases keyIs_shape hb with ⟨j, u, rfl, e⟩ | ⟨y, u, rfl, e⟩
      · injection e with e1 _; rw [e1]
      · exact nomatch e
    · rcases keyIs_shape hb with ⟨j, u, rfl, e⟩ | ⟨y, u, rfl, e⟩
      · exact nomatch e
      · injection e with e1 _; rw [e1]
  byValue := fun k v h => by
    rcases keyIs_shape h with ⟨i, t, rfl, rfl⟩ | ⟨x, t, rfl, rfl⟩ <;> rfl
  pyHash := fun hv h => by
    rcases keyIs_shape hv with ⟨i, t, rfl, rfl⟩ | ⟨x, t, rfl, rfl⟩
    · exact wpAny_pyHash_int h
    · exact wpAny_pyHash_str h
  eqBool := fun hu hv h => by
    rcases keyIs_shape hu with ⟨i, t, rfl, rfl⟩ | ⟨x, t, rfl, rfl⟩
    · rcases keyIs_shape hv with ⟨j, u, rfl, rfl⟩ | ⟨y, u, rfl, rfl⟩
      · rw [key_ll] at h; exact wpAny_eqBool_int h
      · rw [key_lr] at h; exact SeqAt.EqAt.int_str i t y u _ _ _ _ h
    · rcases keyIs_shape hv with ⟨j, u, rfl, rfl⟩ | ⟨y, u, rfl, rfl⟩
      · rw [key_rl] at h; exact SeqAt.EqAt.str_int x t j u _ _ _ _ h
      · rw [key_rr] at h; exact wpAny_eqBool_str h
  «strs» := fun k x t v h => by
    rcases keyIs_shape h with ⟨i, u, rfl, e⟩ | ⟨y, u, rfl, e⟩
    · exact nomatch e
    · injection e with e1 _
      subst e1
      cases v <;> rfl

theorem mixKind_is (prog : Program) (w : World) (k : Key) (v : Value) : (mixKind prog w).is k v = keyIs k v := rfl
theorem mixKind_int (prog : Program) (w : World) (i : Int) (t : Tok) : (mixKind prog w).is (.inl i) (.int i t) = true := keyIs_int i t
theorem mixKind_str (prog : Program) (w : World) (x : Str) (t : Tok) : (mixKind prog w).is (.inr x) (.str x t) = true := keyIs_str x t
end L2

namespace L2
open PySem PySem.Spec PyProof.Rows

/-- a value, without the heap -/
inductive V where
  | non | bl (b : Bool) | int (i : Int) | str (x : Str) | byt (b : Array UInt8) | flt (b : UInt64) | ref (a : Addr) | ty (n : String)
  deriving DecidableEq

def RelV : V → Value → Prop
  | .non, u => u = Value.none
  | .bl b, u => u = Value.bool b
  | .int i, u => ∃ t, u = Value.int i t
  | .str x, u => ∃ t, u = Value.str x t
  | .byt b, u => ∃ t, u = Value.bytes b t
  | .flt b, u => ∃ t, u = Value.float b t
  | .ref a, u => u = Value.ref a
  | .ty n, u => u = Value.type n

abbrev Vals : List V → List Value → Prop := Paired RelV
theorem Vals.length {xs : List V} {us : List Value} (r : Vals xs us) : xs.length = us.length := Paired.length r
theorem Vals.get : ∀ {xs : List V} {us : List Value} {i : Nat} {x : V}, Vals xs us → xs[i]? = some x → ∃ u, us[i]? = some u ∧ RelV x u
  | _, _, _, _, .nil, e => by simp at e
  | _, _, 0, _, .cons r _, e => by simp at e; subst e; exact ⟨_, rfl, r⟩
  | _, _, i + 1, x, .cons _ t, e => by
    obtain ⟨u, h1, h2⟩ := Vals.get (i := i) (x := x) t (by simpa using e)
    exact ⟨u, by simpa using h1, h2⟩
theorem Vals.set {x : V} {u : Value} (r : RelV x u) : ∀ {xs : List V} {us : List Value} (i : Nat), Vals xs us → Vals (xs.set i x) (us.set i u)
  | _, _, _, .nil => .nil
  | _, _, 0, .cons _ t => .cons r t
  | _, _, i + 1, .cons q t => .cons q (Vals.set r i t)
theorem Vals.append : ∀ {xs ys : List V} {us ws : List Value}, Vals xs us → Vals ys ws → Vals (xs ++ ys) (us ++ ws)
  | _, _, _, _, .nil, s => s
  | _, _, _, _, .cons r t, s => .cons r (Vals.append t s)
theorem Vals.take : ∀ {xs : List V} {us : List Value} (n : Nat), Vals xs us → Vals (xs.take n) (us.take n)
  | _, _, 0, _ => .nil
  | _, _, _ + 1, .nil => .nil
  | _, _, n + 1, .cons r t => .cons r (Vals.take n t)
theorem Vals.drop : ∀ {xs : List V} {us : List Value} (n : Nat), Vals xs us → Vals (xs.drop n) (us.drop n)
  | _, _, 0, r => r
  | _, _, _ + 1, .nil => .nil
  | _, _, n + 1, .cons _ t => Vals.drop n t
theorem Vals.none_of : ∀ {xs : List V} {us : List Value} {i : Nat}, Vals xs us → xs[i]? = none → us[i]? = none := fun {xs us i} r e => by
  have h1 := r.length
  have h2 : xs.length ≤ i := List.getElem?_eq_none_iff.mp e
  exact List.getElem?_eq_none_iff.mpr (by omega)

def RelO : Option V → Option Value → Prop
  | some v, some u => RelV v u
  | none, none => True
  | _, _ => False
def KV {κ : Type} : List (κ × V) → List (κ × Value) → Prop := Paired fun (p : κ × V) (q : κ × Value) => p.1 = q.1 ∧ RelV p.2 q.2

/-- a key of a dict (00_mix): an int or a text -/
def kV : Key → V
  | .inl i => .int i
  | .inr x => .str x

/-- what stands at a tracked address -/
inductive HO where
  /-- a list -/
  | lst (xs : List V)
  /-- a tuple (never changes) -/
  | tup (xs : List V)
  /-- a dict whose keys are ints and texts; one whose keys are tuples of ints and texts (the empty one is both) -/
  | dK (kvs : List (Key × V)) | dT (kvs : List (List Key × V))
  /-- a set of ints: its members, its size -/
  | set (S : Int → Bool) (n : Nat)
  /-- an instance of the class at C, its dict at dx, its attributes -/
  | ins (C dx : Addr) (fs : List (Str × V))
  /-- the dict of the instance at x -/
  | own (x : Addr)
  /-- the dict of an exception -/
  | xd (fs : List (Str × V))
  /-- a bound method, f of x -/
  | met (f x : Addr)
  /-- a range object lo, lo + 1, .. below hi -/
  | rng (lo hi : Int)
  /-- a thing that is known to the object (the script; a dict while a loop walks it): read, never written while it is so -/
  | frz (o : Obj) (u : HO)
  /-- a code object's table -/
  | tbl (ps : Array Value)
  /-- any other thing, by what is true of its one object (a def of one's own: SetO a S n := HO.ext fun h => ..) -/
  | ext (φ : Heap → Prop)

abbrev Hp := Addr → Option HO
def upd (H : Hp) (a : Addr) (o : HO) : Hp := fun b => if b = a then some o else H b
theorem upd_same {H : Hp} {a : Addr} {o : HO} : upd H a o a = some o := by unfold upd; rw [if_pos rfl]
theorem upd_ne {H : Hp} {a b : Addr} {o : HO} (h : b ≠ a) : upd H a o b = H b := by unfold upd; rw [if_neg h]
theorem upd_upd {H : Hp} {a : Addr} {o u : HO} : upd (upd H a o) a u = upd H a u := by
  funext b; unfold upd; split <;> rfl
/-- two objects of different content stand apart -/
theorem ne_of {H : Hp} {a b : Addr} {o u : HO} (h : H a = some o) (h' : H b = some u) (d : o ≠ u) : a ≠ b := by
  intro e; subst e; rw [h] at h'; exact d (Option.some.inj h')
theorem ne_of_none {H : Hp} {a b : Addr} {o : HO} (h : H a = some o) (h' : H b = none) : a ≠ b := by
  intro e; subst e; rw [h] at h'; cases h'

section
variable (P : Program) (w : World)
def ObjOk (H : Hp) (h : Heap) (a : Addr) : HO → Prop
  | .lst xs => xs.length ≤ sizeLine ∧ ∃ (its : List Value) (n : Nat), Vals xs its ∧ h.get? a = some { cls := .type "list", data := .seq its.toArray n }
  | .tup xs => xs.length ≤ sizeLine ∧ ∃ its : List Value, Vals xs its ∧ IsTup h a its.toArray
  | .dK kvs => kvs.length ≤ sizeLine ∧ (a == sysModules) = false ∧ ∃ vs, KV kvs vs ∧ h.DictOf (mixKind P w) a vs
  | .dT kvs => kvs.length ≤ sizeLine ∧ (a == sysModules) = false ∧ ∃ xs : List (List Key × Addr × Value),
      Paired (fun (p : List Key × V) (q : List Key × Addr × Value) => p.1 = q.1 ∧ H q.2.1 = some (.tup (p.1.map kV)) ∧ RelV p.2 q.2.2) kvs xs ∧
      ∃ o es ep, h.get? a = some o ∧ o.ExactDict ∧ o.data = .dict es ep ∧ es.toList = xs.map (entryOfKey (tupleKind (mixKind P w))) ∧ (xs.map (·.1)).Nodup
  | .set S n => h.SetOf (intKind P w) a S n
  | .ins C dx fs => H dx = some (.own a) ∧ fs.length ≤ 1000 ∧ dx ≠ a ∧ h.get? a = some (PySem.W.instObj C dx) ∧
      ∃ mA, h.Ns1 dx mA ∧ (∀ f, RelO (fs.lookup f) (mA f)) ∧ PySem.Within mA (fs.map (·.1))
  | .own _ => ∃ o, h.get? a = some o
  | .xd fs => ∃ mA, h.Ns1 a mA ∧ ∀ f, RelO (fs.lookup f) (mA f)
  | .rng lo hi => ∃ t u v, h.get? a = some { cls := .type "range", data := .fields #[.int lo t, .int hi u, .int 1 v] }
  | .frz o u => h.get? a = some o ∧ ObjOk H h a u
  | .tbl ps => h.get? a = some { cls := .none, data := .fields ps }
  | .met f x => h.get? a = some (PySem.W.methodObj (.ref f) (.ref x))
  | .ext φ => φ h ∧ (∃ o, h.get? a = some o) ∧ ∀ h1 h2 : Heap, φ h1 → (∀ o, h1.get? a = some o → h2.get? a = some o) → φ h2
/-- the abstract heap is held -/
def HOk (H : Hp) (h : Heap) : Prop := ∀ a o, H a = some o → ObjOk P w H h a o
end

section
variable {P : Program} {w : World} {H H' : Hp} {h h' : Heap} {a : Addr} {o : HO}
theorem ObjOk.lt (x : ObjOk P w H h a o) : a < h.objs.size := by
  cases o with
  | lst xs => obtain ⟨_, _, _, _, e⟩ := x; exact Heap.lt_size e
  | tup xs => obtain ⟨_, _, _, p⟩ := x; exact p.lt
  | dK kvs => obtain ⟨_, _, _, _, o, _, _, e, _⟩ := x; exact Heap.lt_size e
  | dT kvs => obtain ⟨_, _, _, _, o, _, _, e, _⟩ := x; exact Heap.lt_size e
  | set S n => obtain ⟨o, _, _, _, e, _⟩ := x; exact Heap.lt_size e
  | ins C dx fs => obtain ⟨_, _, _, e, _⟩ := x; exact Heap.lt_size e
  | own y => obtain ⟨_, e⟩ := x; exact Heap.lt_size e
  | xd fs => obtain ⟨_, ⟨_, _, _, e, _⟩, _⟩ := x; exact Heap.lt_size e
  | rng lo hi => obtain ⟨_, _, _, e⟩ := x; exact Heap.lt_size e
  | frz ob u => obtain ⟨e, _⟩ := x; exact Heap.lt_size e
  | tbl ps => exact Heap.lt_size (show h.get? a = some _ from x)
  | met f y => exact Heap.lt_size (show h.get? a = some _ from x)
  | ext φ => obtain ⟨_, ⟨_, e⟩, _⟩ := x; exact Heap.lt_size e
theorem Paired.mapP {α β : Type} {F G : α → β → Prop} : ∀ {l₁ : List α} {l₂ : List β}, Paired F l₁ l₂ → (∀ a b, F a b → G a b) → Paired G l₁ l₂
  | _, _, .nil, _ => .nil
  | _, _, .cons r t, f => .cons (f _ _ r) (Paired.mapP t f)
theorem Paired.imp' {α β : Type} {F G : α → β → Prop} (f : ∀ a b, F a b → G a b) {l₁ : List α} {l₂ : List β} (r : Paired F l₁ l₂) : Paired G l₁ l₂ := Paired.mapP r f
/-- what an object's description leans on: its own object, its own dict, the tuples -/
theorem ObjOk.stay (x : ObjOk P w H h a o) (k : ∀ b u, (b = a ∨ H b = some (.own a)) → h.get? b = some u → h'.get? b = some u)
    (ho : ∀ b, H b = some (.own a) → H' b = some (.own a)) (ht : ∀ b xs, H b = some (.tup xs) → H' b = some (.tup xs)) : ObjOk P w H' h' a o := by
  induction o with
  | lst xs => obtain ⟨z, its, n, r, e⟩ := x; exact ⟨z, its, n, r, k _ _ (.inl rfl) e⟩
  | tup xs => obtain ⟨z, its, r, ob, e, c⟩ := x; exact ⟨z, its, r, ob, k _ _ (.inl rfl) e, c⟩
  | dK kvs => obtain ⟨z, y, vs, r, ob, es, ep, e, c⟩ := x; exact ⟨z, y, vs, r, ob, es, ep, k _ _ (.inl rfl) e, c⟩
  | dT kvs =>
    obtain ⟨z, y, xs, r, ob, es, ep, e, c⟩ := x
    exact ⟨z, y, xs, Paired.mapP r fun p q z => ⟨z.1, ht _ _ z.2.1, z.2.2⟩, ob, es, ep, k _ _ (.inl rfl) e, c⟩
  | set S n => obtain ⟨ob, es, ep, t, e, c⟩ := x; exact ⟨ob, es, ep, t, k _ _ (.inl rfl) e, c⟩
  | ins C dx fs =>
    obtain ⟨d, z, ne, e, mA, ⟨od, es, ep, e2, c⟩, r⟩ := x
    exact ⟨ho _ d, z, ne, k _ _ (.inl rfl) e, mA, ⟨od, es, ep, k _ _ (.inr d) e2, c⟩, r⟩
  | own y => obtain ⟨ob, e⟩ := x; exact ⟨ob, k _ _ (.inl rfl) e⟩
  | xd fs => obtain ⟨mA, ⟨od, es, ep, e, c⟩, r⟩ := x; exact ⟨mA, ⟨od, es, ep, k _ _ (.inl rfl) e, c⟩, r⟩
  | rng lo hi => obtain ⟨t, u, v, e⟩ := x; exact ⟨t, u, v, k _ _ (.inl rfl) e⟩
  | frz ob u ih => obtain ⟨e, q⟩ := x; exact ⟨k _ _ (.inl rfl) e, ih q⟩
  | tbl ps =>
    have e : h.get? a = some { cls := .none, data := .fields ps } := x
    show h'.get? a = some { cls := .none, data := .fields ps }
    exact k a _ (.inl rfl) e
  | met f y =>
    have e : h.get? a = some (PySem.W.methodObj (.ref f) (.ref y)) := x
    show h'.get? a = some (PySem.W.methodObj (.ref f) (.ref y))
    exact k a _ (.inl rfl) e
  | ext φ => obtain ⟨p, ⟨o, e⟩, st⟩ := x; exact ⟨st _ _ p fun o q => k _ _ (.inl rfl) q, ⟨o, k _ _ (.inl rfl) e⟩, st⟩
theorem HOk.lt (x : HOk P w H h) (e : H a = some o) : a < h.objs.size := (x a o e).lt
theorem HOk.fresh (x : HOk P w H h) (e : h.objs.size ≤ a) : H a = none := by
  cases q : H a with
  | none => rfl
  | some u => exact absurd (Nat.lt_of_lt_of_le (x.lt q) e) (Nat.lt_irrefl _)
/-- every object of the heap is kept -/
theorem HOk.kept (x : HOk P w H h) (k : ∀ b u, h.get? b = some u → h'.get? b = some u) : HOk P w H h' := fun a o e =>
  (x a o e).stay (fun b u _ q => k b u q) (fun _ q => q) fun _ _ q => q
/-- a new object is laid and tracked -/
theorem HOk.laid (x : HOk P w H h) (k : ∀ b u, h.get? b = some u → h'.get? b = some u) (hp : h.objs.size ≤ a) (new : ObjOk P w (upd H a o) h' a o) : HOk P w (upd H a o) h' := fun b u e => by
  have hn := x.fresh hp
  by_cases hb : b = a
  · subst hb; rw [upd_same] at e; cases e; exact new
  · rw [upd_ne hb] at e
    exact (x b u e).stay (fun c v _ q => k c v q) (fun c q => by rw [upd_ne (ne_of_none q hn)]; exact q) fun c xs q => by rw [upd_ne (ne_of_none q hn)]; exact q
end

/-- what may be read as u: it is u, or a known u -/
def Rd (H : Hp) (a : Addr) (u : HO) : Prop := H a = some u ∨ ∃ o, H a = some (.frz o u)
theorem Rd.of {H : Hp} {a : Addr} {u : HO} (h : H a = some u) : Rd H a u := .inl h
theorem Rd.ok {P : Program} {w : World} {H : Hp} {h : Heap} {a : Addr} {u : HO} (r : Rd H a u) (x : HOk P w H h) : ObjOk P w H h a u := by
  rcases r with r | ⟨o, r⟩
  · exact x a u r
  · obtain ⟨_, q⟩ := x a _ r
    exact q
/-- what may be written -/
def Mut : Option HO → Prop
  | some (.lst _) => True
  | some (.dK _) => True
  | some (.dT _) => True
  | some (.set _ _) => True
  | some (.ins _ _ _) => True
  | some (.ext _) => True
  | _ => False
section
variable {P : Program} {w : World} {H : Hp} {h h' : Heap} {x e : Addr} {o' : HO}
/-- the object at e is changed: x itself, or the dict of the instance x -/
theorem HOk.write (ok : HOk P w H h) (mu : Mut (H x)) (he : e = x ∨ H e = some (.own x)) (k : ∀ b u, b ≠ e → h.get? b = some u → h'.get? b = some u) (heo : ∃ u, h'.get? e = some u)
    (new : ObjOk P w (upd H x o') h' x o') : HOk P w (upd H x o') h' := fun b u q => by
  have nown : ∀ c y, H c = some (.own y) → c ≠ x := fun c y r z => by subst z; rw [r] at mu; exact mu
  have ntup : ∀ c xs, H c = some (.tup xs) → c ≠ x := fun c xs r z => by subst z; rw [r] at mu; exact mu
  by_cases hb : b = x
  · subst hb; rw [upd_same] at q; cases q; exact new
  · rw [upd_ne hb] at q
    by_cases hbe : b = e
    · have q' : H b = some (.own x) := by
        rcases he with z | z
        · exact absurd (hbe.trans z) hb
        · rw [hbe]; exact z
      rw [q] at q'; cases q'
      obtain ⟨v, hv⟩ := heo
      exact ⟨v, by rw [hbe]; exact hv⟩
    · refine (ok b u q).stay (fun c v hc r => k c v ?_ r) (fun c r => by rw [upd_ne (nown c b r)]; exact r) fun c xs r => by rw [upd_ne (ntup c xs r)]; exact r
      rcases hc with rfl | hc
      · exact hbe
      · rintro rfl
        rcases he with z | z
        · exact nown c b hc z
        · rw [hc] at z; cases z; exact hb rfl
end

/-! ### kept unless tracked; of the frames at fs (the callers') the slots may change (an exception that passes writes there); of the records at ex (iterators) nothing is said -/
structure Un (fs ex : List Addr) (H H' : Hp) (h h' : Heap) : Prop where
  keep : ∀ b o, h.get? b = some o → H b = none → b ∉ fs → b ∉ ex → h'.get? b = some o
  slot : ∀ b o, h.get? b = some o → H b = none → b ∈ fs → b ∉ ex → ∃ sl, h'.get? b = some { o with slots := sl }
  free : ∀ b o, h.get? b = some o → H b = none → b ∉ ex → H' b = none
  there : ∀ b o, h.get? b = some o → b ∉ ex → ∃ o', h'.get? b = some o'
  tups : ∀ b xs, H b = some (.tup xs) → H' b = some (.tup xs)
  frzs : ∀ b o u, H b = some (.frz o u) → H' b = some (.frz o u)
  tbls : ∀ b ps, H b = some (.tbl ps) → ∃ more, H' b = some (.tbl (ps ++ more))
section
variable {fs fs' ex ex' : List Addr} {H H1 H2 : Hp} {h h1 h2 h' : Heap} {a x e : Addr} {o : HO}
theorem Un.any (u : Un fs ex H H1 h h1) {b : Addr} {ob : Obj} (q : h.get? b = some ob) (n : H b = none) (hx : b ∉ ex) : ∃ sl, h1.get? b = some { ob with slots := sl } := by
  by_cases hb : b ∈ fs
  · exact u.slot b ob q n hb hx
  · exact ⟨ob.slots, u.keep b ob q n hb hx⟩
theorem Un.trans (a : Un fs ex H H1 h h1) (b : Un fs ex H1 H2 h1 h2) : Un fs ex H H2 h h2 where
  keep := fun c ob q n hc hx => b.keep c ob (a.keep c ob q n hc hx) (a.free c ob q n hx) hc hx
  slot := fun c ob q n hc hx => by
    obtain ⟨sl, e1⟩ := a.slot c ob q n hc hx
    obtain ⟨sl', e2⟩ := b.slot c _ e1 (a.free c ob q n hx) hc hx
    exact ⟨sl', e2⟩
  free := fun c ob q n hx => by
    obtain ⟨o', e1⟩ := a.there c ob q hx
    exact b.free c o' e1 (a.free c ob q n hx) hx
  there := fun c ob q hx => by
    obtain ⟨o', e1⟩ := a.there c ob q hx
    exact b.there c o' e1 hx
  tups := fun c xs q => b.tups c xs (a.tups c xs q)
  frzs := fun c ob xs q => b.frzs c ob xs (a.frzs c ob xs q)
  tbls := fun c ps q => by
    obtain ⟨m1, e1⟩ := a.tbls c ps q
    obtain ⟨m2, e2⟩ := b.tbls c _ e1
    exact ⟨m1 ++ m2, by rw [e2, Array.append_assoc]⟩
theorem Un.kept (k : ∀ b u, h.get? b = some u → h'.get? b = some u) : Un fs ex H H h h' :=
  ⟨fun b ob q _ _ _ => k b ob q, fun b ob q _ _ _ => ⟨ob.slots, k b ob q⟩, fun _ _ _ n _ => n, fun b ob q _ => ⟨ob, k b ob q⟩, fun _ _ q => q, fun _ _ _ q => q, fun _ ps q => ⟨#[], by rw [q]; simp⟩⟩
theorem Un.refl : Un fs ex H H h h := Un.kept fun _ _ q => q
theorem Un.laid (k : ∀ b u, h.get? b = some u → h'.get? b = some u) (hp : h.objs.size ≤ a) (hn : H a = none) : Un fs ex H (upd H a o) h h' where
  keep := fun b u q _ _ _ => k b u q
  slot := fun b u q _ _ _ => ⟨u.slots, k b u q⟩
  free := fun b u q n _ => by rw [upd_ne (Nat.ne_of_lt (Nat.lt_of_lt_of_le (Heap.lt_size q) hp))]; exact n
  there := fun b u q _ => ⟨u, k b u q⟩
  tups := fun b xs q => by rw [upd_ne (ne_of_none q hn)]; exact q
  frzs := fun b u xs q => by rw [upd_ne (ne_of_none q hn)]; exact q
  tbls := fun b ps q => ⟨#[], by rw [upd_ne (ne_of_none q hn), q]; simp⟩
theorem Un.write (mu : Mut (H x)) (he : e = x ∨ H e = some (.own x)) (k : ∀ b u, b ≠ e → h.get? b = some u → h'.get? b = some u) (heo : ∃ u, h'.get? e = some u) : Un fs ex H (upd H x o) h h' := by
  have hx : ∀ b, H b = none → b ≠ x := fun b n z => by subst z; rw [n] at mu; exact mu
  have hb : ∀ b, H b = none → b ≠ e := fun b n z => by
    subst z
    rcases he with r | r
    · exact hx b n r
    · rw [n] at r; cases r
  have hm : ∀ b u, H b = some u → ¬ Mut (some u) → b ≠ x := fun b u q nm z => by subst z; rw [q] at mu; exact nm mu
  refine ⟨fun b u q n _ _ => k b u (hb b n) q, fun b u q n _ _ => ⟨u.slots, k b u (hb b n) q⟩, fun b u q n _ => by rw [upd_ne (hx b n)]; exact n, fun b u q _ => ?_,
    fun b xs q => by rw [upd_ne (hm b _ q fun z => z)]; exact q, fun b u xs q => by rw [upd_ne (hm b _ q fun z => z)]; exact q, fun b ps q => ⟨#[], by rw [upd_ne (hm b _ q fun z => z), q]; simp⟩⟩
  by_cases hbe : b = e
  · subst hbe; exact heo
  · exact ⟨u, k b u hbe q⟩
theorem Un.mono (u : Un fs ex H H1 h h1) (hs : ∀ b ∈ fs, b ∈ fs') (hx : ∀ b ∈ ex, b ∈ ex') : Un fs' ex' H H1 h h1 :=
  ⟨fun b ob q n hb he => u.keep b ob q n (fun z => hb (hs b z)) fun z => he (hx b z), fun _ _ q n _ he => u.any q n fun z => he (hx _ z), fun b ob q n he => u.free b ob q n fun z => he (hx b z), fun b ob q he => u.there b ob q fun z => he (hx b z), u.tups, u.frzs, u.tbls⟩
end

/-! ### the heap without what is tracked -/
def trk (h : Heap) (H : Hp) : List Addr := (List.range h.objs.size).filter fun a => (H a).isSome
def hidT (h : Heap) (H : Hp) : Heap := PySem.W.hideAll h (trk h H)
theorem hidT_size (h : Heap) (H : Hp) : (hidT h H).objs.size = h.objs.size := PySem.W.hideAll_size _ _
theorem hidT_get {h : Heap} {H : Hp} {b : Addr} {o : Obj} (e : h.get? b = some o) (n : H b = none) : (hidT h H).get? b = some o :=
  PySem.W.hideAll_get _ e fun hm => by
    have q : (H b).isSome = true := (List.mem_filter.mp hm).2
    rw [n] at q; simp at q
theorem of_hidT {h : Heap} {H : Hp} {b : Addr} {o : Obj} (e : (hidT h H).get? b = some o) : h.get? b = some o ∧ H b = none := by
  have e' : h.get? b = some o := PySem.W.of_hideAll (trk h H) e
  refine ⟨e', ?_⟩
  cases q : H b with
  | none => rfl
  | some x =>
    have hm : b ∈ trk h H := List.mem_filter.mpr ⟨List.mem_range.mpr (Heap.lt_size e'), by simp [q]⟩
    have z : (hidT h H).get? b = none := PySem.W.hideAll_none (trk h H) hm
    rw [z] at e; cases e

/-! ### OpenK's ledger, filled with every new object but one -/
def allNews (g h : Heap) (L : Addr) : List (Addr × Obj) := (List.range h.objs.size).filterMap fun a => if a = L ∨ (g.get? a).isSome = true then none else (h.get? a).map fun o => (a, o)
theorem mem_allNews {g h : Heap} {L a : Addr} {o : Obj} (h1 : a ≠ L) (h2 : g.get? a = none) (h3 : h.get? a = some o) : (a, o) ∈ allNews g h L :=
  List.mem_filterMap.mpr ⟨a, List.mem_range.mpr (Heap.lt_size h3), by simp [h1, h2, h3]⟩
theorem of_mem_allNews {g h : Heap} {L : Addr} {p : Addr × Obj} (hp : p ∈ allNews g h L) : p.1 ≠ L ∧ g.get? p.1 = none ∧ h.get? p.1 = some p.2 := by
  obtain ⟨b, _, e⟩ := List.mem_filterMap.mp hp
  split at e
  · cases e
  · rename_i hn
    cases q : h.get? b with
    | none => rw [q] at e; simp at e
    | some u =>
      rw [q] at e
      simp only [Option.map_some, Option.some.injEq] at e
      subst e
      refine ⟨fun z => hn (.inl z), ?_, q⟩
      show g.get? b = none
      cases r : g.get? b with
      | none => rfl
      | some v => exact (hn (.inr (by simp [r]))).elim
def rest (g h : Heap) (L d : Addr) : List (Addr × Obj) := (allNews g h L).filter fun p => decide (p.1 ≠ d)
theorem rest_ne {g h : Heap} {L d : Addr} : ∀ p ∈ rest g h L d, p.1 ≠ d := fun p hp => of_decide_eq_true (List.mem_filter.mp hp).2
theorem mem_rest {g h : Heap} {L d a : Addr} {o : Obj} (h1 : a ≠ L) (h2 : g.get? a = none) (h3 : h.get? a = some o) (h4 : a ≠ d) : (a, o) ∈ rest g h L d :=
  List.mem_filter.mpr ⟨mem_allNews h1 h2 h3, decide_eq_true h4⟩
theorem news_all {g h : Heap} {L : Addr} : News g L h (allNews g h L) := fun p hp => let ⟨a, b, c⟩ := of_mem_allNews hp; ⟨c, a, b⟩
theorem news_at {g h : Heap} {L d : Addr} {o : Obj} (h1 : d ≠ L) (h2 : g.get? d = none) (h3 : h.get? d = some o) : News g L h ((d, o) :: rest g h L d) := fun p hp => by
  rcases List.mem_cons.mp hp with rfl | hp
  · exact ⟨h3, h1, h2⟩
  · exact news_all p (List.mem_filter.mp hp).1
/-- behind a rule that changed d alone: all else but the frame is kept -/
theorem kept_of_news {g h h' : Heap} {L d : Addr} {m : Str → Option Value} (k : ∀ b o, g.get? b = some o → h.get? b = some o) (F : Fr g L h' m) (N : News g L h' (rest g h L d)) :
    ∀ b o, b ≠ L → b ≠ d → h.get? b = some o → h'.get? b = some o := fun b o h1 h2 e => by
  cases q : g.get? b with
  | some u =>
    have := k b u q
    rw [e] at this; cases this
    exact F.keep b _ q
  | none => exact (N (b, o) (mem_rest h1 q e h2)).1
end L2

namespace L2
open PySem PySem.Spec PyProof.Rows

/-- the module's facts, over the base: the heap at the law's entry without what is tracked there -/
structure Mod (K : PySem.W.Frag) (mg : Str → Option Value) (base : Heap) : Prop where
  kin : K.In base
  glob : base.Ns mainGlobals mg
  blt : ∃ mb, base.Ns builtinsNs mb ∧ ∀ x : Str, x ≠ "__name__" → mb x = bootBuiltins x
  nolimit : base.NoLimit

/-- the context: a def's body (or a comprehension's block) running. base: fixed through the whole law; s₀, H₀: the entry; outer: the frames whose slots others may change (a def's callers); stack: all frames that run;
   ex: iterators that were made ahead of the entry and are walked here (a comprehension's); fn: the names whose cells were made at the entry (a def: all; a comprehension's block: its own); calm: not within an except suite; pn: pins that every state bears; xe: what is wanted of an exception that leaves the code -/
structure Cx where
  prog : Program
  w : World
  K : PySem.W.Frag
  mg : Str → Option Value
  base : Heap
  A : Around
  N : List Str
  s₀ : Shared
  H₀ : Hp
  env : Env
  outer : List Env
  stack : List Env
  ex : List Addr
  fn : Str → Bool
  calm : Bool
  pn : List (Addr × Obj)
  xe : Value → Shared → Prop
/-- the callers' frames -/
def frs (l : List Env) : List Addr := l.filterMap (·.frame)
abbrev Cx.fs (X : Cx) : List Addr := frs X.outer

def Vis (sc : Scope) (x : Str) : Prop := sc.names.lookup x = some .local ∨ sc.names.lookup x = some .cell ∨ sc.names.lookup x = some .free
def Loc (sc : Scope) (x : Str) : Prop := sc.names.lookup x = some .local ∨ sc.names.lookup x = some .cell
def Look (env : Env) (h : Heap) (m : Str → Option Value) (x : Str) (u : Value) : Prop :=
  (env.kindOf x = some .local ∧ m x = some u) ∨ ((env.kindOf x = some .cell ∨ env.kindOf x = some .free) ∧ ∃ c, env.cells.lookup x = some c ∧ h.IsCell c (some u))

structure Cx.Ok (X : Cx) : Prop where
  mod : Mod X.K X.mg X.base
  kind : X.env.scope.kind = .function
  glob : X.env.globals = mainGlobals
  blt : X.env.builtins = builtinsNs
  above : X.s₀.heap.objs.size ≤ X.env.locals
  inj : ∀ x y c, X.env.cells.lookup x = some c → X.env.cells.lookup y = some c → x = y
  has : ∀ x, (X.env.kindOf x = some .cell ∨ X.env.kindOf x = some .free) → ∃ c, X.env.cells.lookup x = some c
  cab : ∀ x c, X.fn x = true → X.env.cells.lookup x = some c → X.s₀.heap.objs.size ≤ c
  hd : X.calm = true → X.A.handled = none
  frames : X.A.frames = some X.stack
  stk : X.stack = X.outer ∨ (X.stack = X.env :: X.outer ∧ X.env.frame = some X.env.locals)
  exf : ∀ b ∈ X.ex, b ≠ X.env.locals ∧ ∀ x c, X.env.cells.lookup x = some c → c ≠ b
  bs : ∀ b o, X.base.get? b = some o → X.s₀.heap.get? b = some o ∧ X.H₀ b = none
  bsz : X.base.objs.size ≤ X.s₀.heap.objs.size
  noex : ∀ b o, X.base.get? b = some o → b ∉ X.ex
  exfs : ∀ b ∈ X.ex, b ∉ X.fs
  funs : X.s₀.heap.FunFrames X.base X.outer
  frf : ∀ b ∈ X.fs, X.H₀ b = none

structure Inv (X : Cx) (pins : List (Addr × Obj)) (σ : List (Option V)) (H : Hp) (s : Shared) : Prop where
  ok : X.Ok
  os : s.os = X.s₀.os
  bare : AllBare s.gens
  base : Un X.fs X.ex X.H₀ H X.s₀.heap s.heap
  loc : ∃ m, s.heap.Ns X.env.locals m ∧ ∀ (i : Nat) (x : Str) (v : V), X.N[i]? = some x → σ[i]? = some (some v) → Vis X.env.scope x → ∃ u, RelV v u ∧ Look X.env s.heap m x u
  cell : ∀ x c, X.env.cells.lookup x = some c → ∃ v, s.heap.IsCell c v
  free : H X.env.locals = none
  freeC : ∀ x c, X.env.cells.lookup x = some c → H c = none
  pin : ∀ p ∈ X.pn ++ pins, s.heap.get? p.1 = some p.2 ∧ H p.1 = none ∧ p.1 ≠ X.env.locals ∧ p.1 ∉ X.fs ∧ ∀ v, p.2.data ≠ .cell v
  hok : HOk X.prog X.w H s.heap
  len : σ.length = X.N.length

section
variable {X : Cx} {pins : List (Addr × Obj)} {σ : List (Option V)} {H H' : Hp} {s : Shared} {h' : Heap}

theorem Cx.Ok.nofr (ok : X.Ok) {b : Addr} {o : Obj} (e : X.base.get? b = some o) : b ∉ X.fs := fun hb => by
  have := (ok.funs.mem hb).1
  rw [e] at this; cases this
theorem Inv.bs (I : Inv X pins σ H s) : ∀ b o, X.base.get? b = some o → s.heap.get? b = some o ∧ H b = none := fun b o e =>
  ⟨I.base.keep b o (I.ok.bs b o e).1 (I.ok.bs b o e).2 (I.ok.nofr e) (I.ok.noex b o e), I.base.free b o (I.ok.bs b o e).1 (I.ok.bs b o e).2 (I.ok.noex b o e)⟩
theorem Inv.bk (I : Inv X pins σ H s) : ∀ b o, X.base.get? b = some o → s.heap.get? b = some o := fun b o e => (I.bs b o e).1
theorem Inv.mod (I : Inv X pins σ H s) : Mod X.K X.mg X.base := I.ok.mod
theorem Inv.kIn (I : Inv X pins σ H s) : X.K.In s.heap := I.ok.mod.kin.keeps I.bk
theorem Inv.nolimit (I : Inv X pins σ H s) : s.heap.NoLimit := I.ok.mod.nolimit.keeps I.bk
/-- the frame over the base: for OpenK's rules (K.In X.base is I.mod.kin) -/
theorem Inv.fr (I : Inv X pins σ H s) : ∃ m, Fr X.base X.env.locals s.heap m :=
  let ⟨m, hn, _⟩ := I.loc
  ⟨m, hn, I.bk, Nat.le_trans I.ok.bsz I.ok.above⟩
theorem Inv.lt (I : Inv X pins σ H s) : X.env.locals < s.heap.objs.size := let ⟨_, hn, _⟩ := I.loc; hn.lt
theorem Inv.sz (I : Inv X pins σ H s) : X.s₀.heap.objs.size ≤ s.heap.objs.size := Nat.le_trans I.ok.above (Nat.le_of_lt I.lt)
theorem Inv.nofs (I : Inv X pins σ H s) {a : Addr} (h : s.heap.objs.size ≤ a) : a ∉ X.fs := fun hb => by
  obtain ⟨_, o, ho, _⟩ := I.ok.funs.mem hb
  exact absurd (Nat.lt_of_lt_of_le (Heap.lt_size ho) (Nat.le_trans I.sz h)) (Nat.lt_irrefl _)
theorem Inv.cne (I : Inv X pins σ H s) : ∀ x c, X.env.cells.lookup x = some c → c ≠ X.env.locals := fun x c e z => by
  obtain ⟨v, o, ho, hd⟩ := I.cell x c e
  obtain ⟨m, ⟨o', es, ep, ho', hd', _⟩, _⟩ := I.loc
  rw [z, ho'] at ho; cases ho; rw [hd'] at hd; cases hd
theorem Inv.funs (I : Inv X pins σ H s) : s.heap.FunFrames X.base X.outer := by
  have all : ∀ (l : List Env), (∀ b ∈ frs l, b ∈ X.fs) → X.s₀.heap.FunFrames X.base l → s.heap.FunFrames X.base l := by
    intro l
    induction l with
    | nil => intro _ _; trivial
    | cons env r ih =>
      intro hs hl
      obtain ⟨hk, ⟨L, o, hf, hn, ho, hd⟩, hr⟩ := hl
      have hL : L ∈ X.fs := hs L (by unfold frs; rw [List.filterMap_cons, hf]; exact List.mem_cons_self)
      obtain ⟨sl, e⟩ := I.base.slot L o ho (I.ok.frf L hL) hL fun z => I.ok.exfs L z hL
      exact ⟨hk, ⟨L, _, hf, hn, e, hd⟩, ih (fun b hb => hs b (by unfold frs; rw [List.filterMap_cons, hf]; exact List.mem_cons_of_mem _ hb)) hr⟩
  exact all X.outer (fun _ hb => hb) I.ok.funs

/-- the frames that run, for a call -/
theorem Inv.stack (I : Inv X pins σ H s) : s.heap.FunFrames X.base X.stack := by
  rcases I.ok.stk with e | ⟨e, hf⟩
  · rw [e]; exact I.funs
  · rw [e]
    obtain ⟨m, hn, _⟩ := I.loc
    refine .cons (by rw [I.ok.kind]; decide) hf hn ?_ I.funs
    exact Heap.get?_none_of_le (Nat.le_trans I.ok.bsz I.ok.above)
theorem Inv.stkSub (I : Inv X pins σ H s) : ∀ b ∈ frs X.stack, b ∈ X.env.locals :: X.fs := fun b hb => by
  rcases I.ok.stk with e | ⟨e, hf⟩
  · rw [e] at hb; exact List.mem_cons_of_mem _ hb
  · rw [e] at hb
    unfold frs at hb
    rw [List.filterMap_cons, hf] at hb
    exact hb
theorem Inv.stkFree (I : Inv X pins σ H s) : ∀ b ∈ frs X.stack, H b = none := fun b hb => by
  rcases List.mem_cons.mp (I.stkSub b hb) with e | hb
  · rw [e]; exact I.free
  · obtain ⟨_, o, ho, _⟩ := I.ok.funs.mem hb
    exact I.base.free b o ho (I.ok.frf b hb) fun z => I.ok.exfs b z hb

/-- THE STEP: the untracked objects but the frame and the records at ch are kept (the callers' frames up to slots), the frame's map is kept, the new abstract heap is held -/
theorem Inv.step {g' : Array GenState} {t' : Nat} {d' : Drawn} {ch : List Addr} (I : Inv X pins σ H s)
    (hch : ∀ b ∈ ch, (b ∈ X.ex ∨ X.s₀.heap.objs.size ≤ b) ∧ b ≠ X.env.locals ∧ (∀ x c, X.env.cells.lookup x = some c → c ≠ b) ∧ ∀ p ∈ X.pn ++ pins, p.1 ≠ b)
    (keep : ∀ b o, b ≠ X.env.locals → b ∉ X.fs → b ∉ ch → s.heap.get? b = some o → H b = none → h'.get? b = some o)
    (slot : ∀ b o, b ≠ X.env.locals → b ∈ X.fs → b ∉ ch → s.heap.get? b = some o → H b = none → ∃ sl, h'.get? b = some { o with slots := sl }) (free : ∀ b o, b ∉ ch → s.heap.get? b = some o → H b = none → H' b = none)
    (there : ∀ b o, b ∉ ch → s.heap.get? b = some o → ∃ o', h'.get? b = some o')
    (tups : ∀ b xs, H b = some (.tup xs) → H' b = some (.tup xs)) (frzs : ∀ b o u, H b = some (.frz o u) → H' b = some (.frz o u)) (tbls : ∀ b ps, H b = some (.tbl ps) → ∃ more, H' b = some (.tbl (ps ++ more)))
    (ns : ∀ m, s.heap.Ns X.env.locals m → h'.Ns X.env.locals m) (hok : HOk X.prog X.w H' h') (hg : AllBare g') :
    Inv X pins σ H' { s with heap := h', gens := g', drawn := d', toks := t' } := by
  have neL : ∀ b o, X.s₀.heap.get? b = some o → b ≠ X.env.locals := fun b o e => Nat.ne_of_lt (Nat.lt_of_lt_of_le (Heap.lt_size e) I.ok.above)
  have neC : ∀ b o, X.s₀.heap.get? b = some o → b ∉ X.ex → b ∉ ch := fun b o e hx hb => by
    rcases (hch b hb).1 with z | z
    · exact hx z
    · exact absurd (Nat.lt_of_lt_of_le (Heap.lt_size e) z) (Nat.lt_irrefl _)
  have cellK : ∀ x c, X.env.cells.lookup x = some c → ∀ v, s.heap.IsCell c v → h'.IsCell c v := fun x c e v ⟨o, ho, hd⟩ => by
    have nch : c ∉ ch := fun z => (hch c z).2.2.1 x c e rfl
    by_cases hc : c ∈ X.fs
    · obtain ⟨sl, q⟩ := slot c o (I.cne x c e) hc nch ho (I.freeC x c e)
      exact ⟨_, q, hd⟩
    · exact ⟨o, keep c o (I.cne x c e) hc nch ho (I.freeC x c e), hd⟩
  refine ⟨I.ok, I.os, hg, ⟨fun b o e n hb hx => ?_, fun b o e n hb hx => ?_, fun b o e n hx => ?_, fun b o e hx => ?_, fun b xs e => tups b xs (I.base.tups b xs e), fun b o xs e => frzs b o xs (I.base.frzs b o xs e), fun b ps e => ?_⟩, ?_, fun x c e => ?_, ?_, fun x c e => ?_, fun p hp => ?_, hok, I.len⟩
  · exact keep b o (neL b o e) hb (neC b o e hx) (I.base.keep b o e n hb hx) (I.base.free b o e n hx)
  · obtain ⟨sl, e1⟩ := I.base.slot b o e n hb hx
    obtain ⟨sl', e2⟩ := slot b _ (neL b o e) hb (neC b o e hx) e1 (I.base.free b o e n hx)
    exact ⟨sl', e2⟩
  · obtain ⟨o', e1⟩ := I.base.there b o e hx
    exact free b o' (neC b o e hx) e1 (I.base.free b o e n hx)
  · obtain ⟨o', e1⟩ := I.base.there b o e hx
    exact there b o' (neC b o e hx) e1
  · obtain ⟨m1, e1⟩ := I.base.tbls b ps e
    obtain ⟨m2, e2⟩ := tbls b _ e1
    exact ⟨m1 ++ m2, by rw [e2, Array.append_assoc]⟩
  · obtain ⟨m, hn, hl⟩ := I.loc
    refine ⟨m, ns m hn, fun i x v e1 e2 e3 => ?_⟩
    obtain ⟨u, r, l⟩ := hl i x v e1 e2 e3
    refine ⟨u, r, ?_⟩
    rcases l with l | ⟨k, c, e, z⟩
    · exact .inl l
    · exact .inr ⟨k, c, e, cellK x c e _ z⟩
  · obtain ⟨v, z⟩ := I.cell x c e
    exact ⟨v, cellK x c e v z⟩
  · obtain ⟨m, ⟨o, _, _, ho, _⟩, _⟩ := I.loc
    exact free _ o (fun z => (hch _ z).2.1 rfl) ho I.free
  · obtain ⟨v, o, ho, hd⟩ := I.cell x c e
    exact free c o (fun z => (hch c z).2.2.1 x c e rfl) ho (I.freeC x c e)
  · obtain ⟨e, n, ne, nf, d⟩ := I.pin p hp
    have nch : p.1 ∉ ch := fun z => (hch p.1 z).2.2.2 p hp rfl
    exact ⟨keep p.1 p.2 ne nf nch e n, free p.1 p.2 nch e n, ne, nf, d⟩
/-- .. where the frame's own object is kept too -/
theorem Inv.un {t' : Nat} (I : Inv X pins σ H s) (u : Un X.fs [] H H' s.heap h') (hok : HOk X.prog X.w H' h') : Inv X pins σ H' { s with heap := h', toks := t' } := by
  obtain ⟨m, ⟨o, es, ep, ho, r⟩, _⟩ := id I.loc
  obtain ⟨sl, hL⟩ := u.any ho I.free (by simp)
  exact I.step (g' := s.gens) (d' := s.drawn) (ch := []) (fun _ z => nomatch z) (fun b o _ hb _ e n => u.keep b o e n hb (by simp)) (fun b o _ hb _ e n => u.slot b o e n hb (by simp)) (fun b o _ e n => u.free b o e n (by simp)) (fun b o _ e => u.there b o e (by simp)) u.tups u.frzs u.tbls (fun m' hm => by
    obtain ⟨o', es', ep', ho', r'⟩ := hm
    rw [ho] at ho'; cases ho'
    exact ⟨_, es', ep', hL, r'⟩) hok I.bare
/-- behind a call (or a comprehension's block): the slots of this frame may have changed too, the records at ch may have turned -/
theorem Inv.call {g' : Array GenState} {t' : Nat} {d' : Drawn} {ch : List Addr} (I : Inv X pins σ H s) (u : Un (frs X.stack) ch H H' s.heap h') (hok : HOk X.prog X.w H' h') (hg : AllBare g')
    (hch : ∀ b ∈ ch, (b ∈ X.ex ∨ X.s₀.heap.objs.size ≤ b) ∧ b ≠ X.env.locals ∧ (∀ x c, X.env.cells.lookup x = some c → c ≠ b) ∧ ∀ p ∈ X.pn ++ pins, p.1 ≠ b) :
    Inv X pins σ H' { s with heap := h', gens := g', drawn := d', toks := t' } := by
  obtain ⟨m, ⟨o, es, ep, ho, r⟩, _⟩ := id I.loc
  obtain ⟨sl, hL⟩ := u.any ho I.free fun z => (hch _ z).2.1 rfl
  exact I.step (ch := ch) hch (fun b o hL hb hc e n => u.keep b o e n (fun z => (List.mem_cons.mp (I.stkSub b z)).elim hL hb) hc) (fun b o _ _ hc e n => u.any e n hc) (fun b o hc e n => u.free b o e n hc) (fun b o hc e => u.there b o e hc) u.tups u.frzs u.tbls (fun m' hm => by
    obtain ⟨o', es', ep', ho', r'⟩ := hm
    rw [ho] at ho'; cases ho'
    exact ⟨_, es', ep', hL, r'⟩) hok hg
/-- an untracked record of ours (an iterator) has turned -/
theorem Inv.turned {t' : Nat} {it : Addr} (I : Inv X pins σ H s) (k : ∀ b o, b ≠ it → s.heap.get? b = some o → h'.get? b = some o) (hn : H it = none) (hL : it ≠ X.env.locals)
    (h1 : it ∈ X.ex ∨ X.s₀.heap.objs.size ≤ it) (h2 : ∀ x c, X.env.cells.lookup x = some c → c ≠ it) (h3 : ∀ p ∈ X.pn ++ pins, p.1 ≠ it) : Inv X pins σ H { s with heap := h', toks := t' } := by
  have nit : ∀ b u, H b = some u → b ≠ it := fun b u e z => by rw [z, hn] at e; cases e
  refine I.step (g' := s.gens) (d' := s.drawn) (ch := [it]) (fun b hb => ?_) (fun b o _ _ hc e _ => k b o (fun z => hc (by simp [z])) e) (fun b o _ _ hc e _ => ⟨o.slots, k b o (fun z => hc (by simp [z])) e⟩) (fun _ _ _ _ n => n)
    (fun b o hc e => ⟨o, k b o (fun z => hc (by simp [z])) e⟩) (fun _ _ e => e) (fun _ _ _ e => e) (fun b ps e => ⟨#[], by rw [e]; simp⟩) (fun m hm => ?_) (fun b u e => ?_) I.bare
  · have e : b = it := by simpa using hb
    subst e
    exact ⟨h1, hL, h2, h3⟩
  · obtain ⟨o, es, ep, ho, r⟩ := hm
    exact ⟨o, es, ep, k _ o (Ne.symm hL) ho, r⟩
  · refine (I.hok b u e).stay (fun c v hc q => k c v ?_ q) (fun _ q => q) fun _ _ q => q
    rcases hc with z | z
    · rw [z]; exact nit b u e
    · exact nit c _ z
theorem Inv.tok (I : Inv X pins σ H s) (t : Nat) : Inv X pins σ H { s with toks := t } := I.un (h' := s.heap) (t' := t) Un.refl I.hok
/-- all objects kept -/
theorem Inv.kept {t' : Nat} (I : Inv X pins σ H s) (k : ∀ b u, s.heap.get? b = some u → h'.get? b = some u) : Inv X pins σ H { s with heap := h', toks := t' } := I.un (Un.kept k) (I.hok.kept k)
/-- a new object laid and tracked -/
theorem Inv.laid {a : Addr} {o : HO} {t' : Nat} (I : Inv X pins σ H s) (k : ∀ b u, s.heap.get? b = some u → h'.get? b = some u) (hp : s.heap.objs.size ≤ a) (new : ObjOk X.prog X.w (upd H a o) h' a o) :
    Inv X pins σ (upd H a o) { s with heap := h', toks := t' } := I.un (Un.laid k hp (I.hok.fresh hp)) (I.hok.laid k hp new)
/-- an object written -/
theorem Inv.write {x e : Addr} {o : HO} {t' : Nat} (I : Inv X pins σ H s) (mu : Mut (H x)) (he : e = x ∨ H e = some (.own x)) (k : ∀ b u, b ≠ e → s.heap.get? b = some u → h'.get? b = some u) (heo : ∃ u, h'.get? e = some u)
    (new : ObjOk X.prog X.w (upd H x o) h' x o) : Inv X pins σ (upd H x o) { s with heap := h', toks := t' } := I.un (Un.write mu he k heo) (I.hok.write mu he k heo new)
/-- forgetting slots, pins -/
theorem Inv.weak {σ' : List (Option V)} (I : Inv X pins σ H s) (hl : σ'.length = σ.length) (w : ∀ (i : Nat) v, σ'[i]? = some (some v) → σ[i]? = some (some v)) : Inv X pins σ' H s :=
  ⟨I.ok, I.os, I.bare, I.base, let ⟨m, hn, hl'⟩ := I.loc; ⟨m, hn, fun i x v e1 e2 e3 => hl' i x v e1 (w i v e2) e3⟩, I.cell, I.free, I.freeC, I.pin, I.hok, hl.trans I.len⟩
theorem Inv.pins_of {pins' : List (Addr × Obj)} (I : Inv X pins σ H s) (h : ∀ p ∈ pins', s.heap.get? p.1 = some p.2 ∧ H p.1 = none ∧ p.1 ≠ X.env.locals ∧ p.1 ∉ X.fs ∧ ∀ v, p.2.data ≠ .cell v) : Inv X pins' σ H s :=
  ⟨I.ok, I.os, I.bare, I.base, I.loc, I.cell, I.free, I.freeC, fun p hp => (List.mem_append.mp hp).elim (fun z => I.pin p (List.mem_append_left _ z)) (h p), I.hok, I.len⟩

theorem nodup_ix {N : List Str} (hN : N.Nodup) {i j : Nat} {x : Str} (a : N[i]? = some x) (b : N[j]? = some x) : i = j := by
  obtain ⟨h1, e1⟩ := List.getElem?_eq_some_iff.mp a
  obtain ⟨h2, e2⟩ := List.getElem?_eq_some_iff.mp b
  exact (List.getElem_inj hN).mp (e1.trans e2.symm)

/-- a name is stored; what changed -/
theorem store_ok2 {M : Model} {A : Around} {E : Value → Shared → Prop} {i : Nat} {x : Str} {v : V} {u : Value} {Q : Unit → Shared → Prop} (I : Inv X pins σ H s) (hN : X.N.Nodup) (hi : X.N[i]? = some x) (hx : Loc X.env.scope x) (r : RelV v u)
    (h : ∀ s', Inv X pins (σ.set i (some v)) H s' → (∃ a, Heap.SameBut a s.heap s'.heap ∧ (a = X.env.locals ∨ X.env.cells.lookup x = some a)) → Q () s') (hf : X.fn x = true ∨ X.env.scope.names.lookup x = some .local := by first | exact .inl rfl | exact .inr rfl | assumption) : wpAny M A (storeName X.env x u) Q E s := by
  obtain ⟨m, hn, hl⟩ := id I.loc
  have hcls : (X.env.scope.kind == .class || (X.env.scope.kind == .module && X.env.locals != X.env.globals)) = false := by rw [I.ok.kind]; rfl
  have hiσ : i < σ.length := by rw [I.len]; exact (List.getElem?_eq_some_iff.mp hi).1
  have cne := I.cne
  have tracked : ∀ {a : Addr} {h' : Heap}, (∃ o, s.heap.get? a = some o ∧ H a = none) → Heap.SameBut a s.heap h' → HOk X.prog X.w H h' := fun {a h'} ha hs b ob e => by
    obtain ⟨_, _, hfree⟩ := ha
    refine (I.hok b ob e).stay (fun c w' hc q => (hs.2 c ?_).trans q) (fun _ q => q) fun _ _ q => q
    rintro rfl
    rcases hc with rfl | hc
    · rw [hfree] at e; cases e
    · rw [hfree] at hc; cases hc
  rcases hx with hk | hk
  · refine wpAny_storeName_local hk hn (fun h' hn' hs => ?_) hcls
    obtain ⟨oL, _, _, hoL, _⟩ := id hn
    refine h _ ⟨I.ok, I.os, I.bare, ⟨fun b o e n hb hx => ?_, fun b o e n hb hx => ?_, I.base.free, fun b o e hx => ?_, I.base.tups, I.base.frzs, I.base.tbls⟩, ⟨_, hn', fun j y v' e1 e2 e3 => ?_⟩, fun y c e => ?_, I.free, I.freeC, fun p hp => ?_, tracked ⟨oL, hoL, I.free⟩ hs, by simpa using I.len⟩ ⟨_, hs, .inl rfl⟩
    · exact (hs.2 b (Nat.ne_of_lt (Nat.lt_of_lt_of_le (Heap.lt_size e) I.ok.above))).trans (I.base.keep b o e n hb hx)
    · obtain ⟨sl, e1⟩ := I.base.slot b o e n hb hx
      exact ⟨sl, (hs.2 b (Nat.ne_of_lt (Nat.lt_of_lt_of_le (Heap.lt_size e) I.ok.above))).trans e1⟩
    · obtain ⟨o', e1⟩ := I.base.there b o e hx
      exact ⟨o', (hs.2 b (Nat.ne_of_lt (Nat.lt_of_lt_of_le (Heap.lt_size e) I.ok.above))).trans e1⟩
    · by_cases hj : j = i
      · subst hj
        rw [hi] at e1; cases e1
        rw [List.getElem?_set_self hiσ] at e2
        cases e2
        exact ⟨u, r, .inl ⟨hk, by simp⟩⟩
      · rw [List.getElem?_set_ne (Ne.symm hj)] at e2
        obtain ⟨u', r', q⟩ := hl j y v' e1 e2 e3
        refine ⟨u', r', ?_⟩
        rcases q with ⟨k, e⟩ | ⟨k, c, e, z⟩
        · refine .inl ⟨k, ?_⟩
          have : y ≠ x := fun e => hj (nodup_ix hN e1 (e ▸ hi))
          simp [this, e]
        · exact .inr ⟨k, c, e, z.sameBut hs (cne y c e)⟩
    · obtain ⟨w', z⟩ := I.cell y c e
      exact ⟨w', z.sameBut hs (cne y c e)⟩
    · obtain ⟨e, n, ne, nf, d⟩ := I.pin p hp
      exact ⟨(hs.2 p.1 ne).trans e, n, ne, nf, d⟩
  · have hfn : X.fn x = true := by
      rcases hf with z | z
      · exact z
      · rw [z] at hk; cases hk
    obtain ⟨c, hc⟩ := I.ok.has x (.inl hk)
    obtain ⟨w', z⟩ := I.cell x c hc
    refine wpAny_storeName_cell I.ok.kind hk hc z (fun h' hc' hs => ?_)
    obtain ⟨oc, hoc, hocd⟩ := id z
    refine h { s with heap := h' } ⟨I.ok, I.os, I.bare, ⟨fun b o e n hb hx => ?_, fun b o e n hb hx => ?_, I.base.free, fun b o e hx => ?_, I.base.tups, I.base.frzs, I.base.tbls⟩, ⟨m, hn.sameBut hs (Ne.symm (cne x c hc)), fun j y v' e1 e2 e3 => ?_⟩, fun y c' e => ?_, I.free, I.freeC, fun p hp => ?_, tracked ⟨oc, hoc, I.freeC x c hc⟩ hs, by simpa using I.len⟩ ⟨c, hs, .inr hc⟩
    · exact (hs.2 b (Nat.ne_of_lt (Nat.lt_of_lt_of_le (Heap.lt_size e) (I.ok.cab x c hfn hc)))).trans (I.base.keep b o e n hb hx)
    · obtain ⟨sl, e1⟩ := I.base.slot b o e n hb hx
      exact ⟨sl, (hs.2 b (Nat.ne_of_lt (Nat.lt_of_lt_of_le (Heap.lt_size e) (I.ok.cab x c hfn hc)))).trans e1⟩
    · obtain ⟨o', e1⟩ := I.base.there b o e hx
      exact ⟨o', (hs.2 b (Nat.ne_of_lt (Nat.lt_of_lt_of_le (Heap.lt_size e) (I.ok.cab x c hfn hc)))).trans e1⟩
    · by_cases hj : j = i
      · subst hj
        rw [hi] at e1; cases e1
        rw [List.getElem?_set_self hiσ] at e2
        cases e2
        exact ⟨u, r, .inr ⟨.inl hk, c, hc, hc'⟩⟩
      · rw [List.getElem?_set_ne (Ne.symm hj)] at e2
        obtain ⟨u', r', q⟩ := hl j y v' e1 e2 e3
        refine ⟨u', r', ?_⟩
        rcases q with q | ⟨k, c', e, z'⟩
        · exact .inl q
        · refine .inr ⟨k, c', e, z'.sameBut hs ?_⟩
          rintro rfl
          exact hj (nodup_ix hN e1 (I.ok.inj _ _ _ e hc ▸ hi))
    · by_cases hcc : c' = c
      · subst hcc; exact ⟨_, hc'⟩
      · obtain ⟨w2, z2⟩ := I.cell y c' e
        exact ⟨w2, z2.sameBut hs hcc⟩
    · obtain ⟨e, n, ne, nf, d⟩ := I.pin p hp
      refine ⟨(hs.2 p.1 ?_).trans e, n, ne, nf, d⟩
      intro q
      rw [q, hoc] at e
      have q' : oc = p.2 := Option.some.inj e
      exact d w' (by rw [← q']; exact hocd)
theorem store_ok {M : Model} {A : Around} {E : Value → Shared → Prop} {i : Nat} {x : Str} {v : V} {u : Value} {Q : Unit → Shared → Prop} (I : Inv X pins σ H s) (hN : X.N.Nodup) (hi : X.N[i]? = some x) (hx : Loc X.env.scope x) (r : RelV v u)
    (h : ∀ s', Inv X pins (σ.set i (some v)) H s' → Q () s') (hf : X.fn x = true ∨ X.env.scope.names.lookup x = some .local := by first | exact .inl rfl | exact .inr rfl | assumption) : wpAny M A (storeName X.env x u) Q E s :=
  store_ok2 I hN hi hx r (fun s' I' _ => h s' I') hf
/-- behind a call or a block, the state as it is -/
theorem Inv.call' {s' : Shared} {ch : List Addr} (I : Inv X pins σ H s) (ho : s'.os = s.os) (u : Un (frs X.stack) ch H H' s.heap s'.heap) (hok : HOk X.prog X.w H' s'.heap) (hg : AllBare s'.gens)
    (hch : ∀ b ∈ ch, (b ∈ X.ex ∨ X.s₀.heap.objs.size ≤ b) ∧ b ≠ X.env.locals ∧ (∀ x c, X.env.cells.lookup x = some c → c ≠ b) ∧ ∀ p ∈ X.pn ++ pins, p.1 ≠ b) : Inv X pins σ H' s' := by
  obtain ⟨h', g', d', t', o'⟩ := s'
  have e : o' = s.os := ho
  subst e
  exact I.call (g' := g') (t' := t') (d' := d') u hok hg hch
end

/-! ### the judgements -/
/-- an exception: its class, its own dict's address (where it has one), the abstract heap behind it -/
abbrev XK := Value → Option Addr → Hp → Prop
abbrev St := List (Option V)
abbrev VK := V → Hp → Prop
/-- an expression's reading; a test's; an argument list's -/
abbrev TE := St → Hp → VK → Prop
abbrev TT := St → Hp → (Bool → Hp → Prop) → Prop
abbrev TA := St → Hp → (List V → Hp → Prop) → Prop
/-- what is wanted behind a statement -/
structure Ends where
  nx : St → Hp → Prop
  rt : VK
  bk : St → Hp → Prop := fun _ _ => False
  ct : St → Hp → Prop := fun _ _ => False
abbrev TS := Ends → St → Hp → Prop

def EP (X : Cx) (pins : List (Addr × Obj)) (σ : St) (Q : VK) (u : Value) (s' : Shared) : Prop := ∃ v H', Inv X pins σ H' s' ∧ RelV v u ∧ Q v H'
def TP (X : Cx) (pins : List (Addr × Obj)) (σ : St) (Q : Bool → Hp → Prop) (b : Bool) (s' : Shared) : Prop := ∃ H', Inv X pins σ H' s' ∧ Q b H'
def AP (X : Cx) (pins : List (Addr × Obj)) (σ : St) (Q : List V → Hp → Prop) (us : List Value) (s' : Shared) : Prop := ∃ vs H', Inv X pins σ H' s' ∧ Vals vs us ∧ Q vs H'
def SP (X : Cx) (pins : List (Addr × Obj)) (D : Ends) (f : Flow) (s' : Shared) : Prop :=
  match f with
  | .next => ∃ σ' H', Inv X pins σ' H' s' ∧ D.nx σ' H'
  | .brk => ∃ σ' H', Inv X pins σ' H' s' ∧ D.bk σ' H'
  | .cont => ∃ σ' H', Inv X pins σ' H' s' ∧ D.ct σ' H'
  | .ret u => ∃ v σ' H', Inv X pins σ' H' s' ∧ RelV v u ∧ D.rt v H'

def PE (X : Cx) (e : Expr) (t : TE) : Prop :=
  ∀ (pins : List (Addr × Obj)) (s : Shared) (σ : St) (H : Hp) (Q : VK), Inv X pins σ H s → t σ H Q → wpAny (model X.prog X.w) X.A (eval e X.env) (EP X pins σ Q) X.xe s
def PT (X : Cx) (e : Expr) (t : TT) : Prop :=
  ∀ (pins : List (Addr × Obj)) (s : Shared) (σ : St) (H : Hp) (Q : Bool → Hp → Prop), Inv X pins σ H s → t σ H Q → wpAny (model X.prog X.w) X.A (isTrue e X.env (eval e X.env)) (TP X pins σ Q) X.xe s
/-- a test whatever its 'whole' is (and, or) -/
def PW (X : Cx) (e : Expr) (t : TT) : Prop :=
  ∀ (whole : Sem Value) (pins : List (Addr × Obj)) (s : Shared) (σ : St) (H : Hp) (Q : Bool → Hp → Prop), Inv X pins σ H s → t σ H Q → wpAny (model X.prog X.w) X.A (isTrue e X.env whole) (TP X pins σ Q) X.xe s
theorem PW.pt {X : Cx} {e : Expr} {t : TT} (h : PW X e t) : PT X e t := h _
/-- an argument list (no star), from the left -/
def PA (X : Cx) (es : List Expr) (t : TA) : Prop :=
  ∀ (pos : Pos) (pins : List (Addr × Obj)) (s : Shared) (σ : St) (H : Hp) (Q : List V → Hp → Prop), Inv X pins σ H s → t σ H Q → wpAny (model X.prog X.w) X.A (spliced (backTo pos (starEach es X.env))) (AP X pins σ Q) X.xe s
def PS (X : Cx) (st : Stmt) (t : TS) : Prop :=
  ∀ (pins : List (Addr × Obj)) (s : Shared) (σ : St) (H : Hp) (D : Ends), Inv X pins σ H s → t D σ H → wpAny (model X.prog X.w) X.A (exec st X.env) (SP X pins D) X.xe s
def PSs (X : Cx) (st : List Stmt) (t : TS) : Prop :=
  ∀ (pins : List (Addr × Obj)) (s : Shared) (σ : St) (H : Hp) (D : Ends), Inv X pins σ H s → t D σ H → wpAny (model X.prog X.w) X.A (execs st X.env) (SP X pins D) X.xe s
/-- weaken the end -/
theorem thn {α : Type} {t : Sem α} {Q Q' : α → Shared → Prop} {M : Model} {A : Around} {E : Value → Shared → Prop} {s : Shared} (h : wpAny M A t Q E s) (hQ : ∀ a s, Q a s → Q' a s) : wpAny M A t Q' E s := wpAny_mono h hQ fun _ _ x => x
end L2

namespace L2
open PySem PySem.Spec PyProof.Rows
section
variable {X : Cx}

/-- two expressions in a row -/
theorem bin {a b : Expr} {ta tb : TE} (ha : PE X a ta) (hb : PE X b tb) {pins : List (Addr × Obj)} {s : Shared} {σ : St} {H : Hp} {R : V → V → Hp → Prop} (I : Inv X pins σ H s) (h : ta σ H fun x H1 => tb σ H1 fun y H2 => R x y H2)
    {α : Type} {Q : α → Shared → Prop} {f : Value → Value → Sem α}
    (hf : ∀ v u s2 x y H2, Inv X pins σ H2 s2 → RelV x v → RelV y u → R x y H2 → wpAny (model X.prog X.w) X.A (f v u) Q X.xe s2) :
    wpAny (model X.prog X.w) X.A (eval a X.env) (fun v s₁ => wpAny (model X.prog X.w) X.A (eval b X.env) (fun u s₂ => wpAny (model X.prog X.w) X.A (f v u) Q X.xe s₂) X.xe s₁) X.xe s := by
  refine thn (ha pins s σ H _ I h) fun v s1 ⟨x, H1, I1, r1, q1⟩ => ?_
  refine thn (hb pins s1 σ H1 _ I1 q1) fun u s2 ⟨y, H2, I2, r2, q2⟩ => ?_
  exact hf v u s2 x y H2 I2 r1 r2 q2

/-! ### names and constants -/
def tVar (i : Nat) : TE := fun σ H Q => ∃ v, σ[i]? = some (some v) ∧ Q v H
def tC (v : V) : TE := fun _ H Q => Q v H
theorem pe_var {i : Nat} {x : Str} {pos : Pos} (hN : X.N[i]? = some x) (hv : Vis X.env.scope x) (hd : (x == ("__debug__" : Str)) = false := by decide) (hcd : (x == ("__classdict__" : Str)) = false := by decide) : PE X (.Name x pos) (tVar i) := by
  intro pins s σ H Q I h
  obtain ⟨v, e, h⟩ := h
  obtain ⟨m, hn, hl⟩ := I.loc
  obtain ⟨u, r, l⟩ := hl i x v hN e hv
  have fin : EP X pins σ Q u s := ⟨v, H, I, r, h⟩
  rcases l with ⟨hk, hm⟩ | ⟨hk, c, hc, hcell⟩
  · exact wpAny_Name (wpAny_loadName_local I.ok.kind hk hn hm fin) hd
  · rcases hk with hk | hk
    · exact wpAny_Name (wpAny_loadName_cell I.ok.kind hk hc hcell fin) hd
    · exact wpAny_Name (wpAny_loadName_free I.ok.kind hk hc hcell fin hcd) hd
theorem pe_int {i j pos} : PE X (.Constant (.int i) j pos) (tC (.int i)) := fun _ _ _ H _ I h => wpAny_Constant_int ⟨.int i, H, I.tok _, ⟨_, rfl⟩, h⟩
theorem pe_bl {b j pos} : PE X (.Constant (.bool b) j pos) (tC (.bl b)) := fun _ _ _ H _ I h => Constant_bool ⟨.bl b, H, I, rfl, h⟩
theorem pe_non {j pos} : PE X (.Constant .none j pos) (tC .non) := fun _ _ _ H _ I h => Constant_none ⟨.non, H, I, rfl, h⟩
theorem pe_str {x j pos} : PE X (.Constant (.str x) j pos) (tC (.str x)) := fun _ _ _ H _ I h => Calls.Constant_str ⟨.str x, H, I.tok _, ⟨_, rfl⟩, h⟩

/-- a global name of the def -/
def Gl (X : Cx) (x : Str) : Prop := X.env.kindOf x = some .globalImplicit
theorem ld_glob {E : Value → Shared → Prop} {pins : List (Addr × Obj)} {s : Shared} {σ : St} {H : Hp} {x : Str} {u : Value} {pos : Pos} {Q : Value → Shared → Prop} (I : Inv X pins σ H s) (hg : Gl X x) (hm : X.mg x = some u) (h : Q u s)
    (hd : (x == ("__debug__" : Str)) = false := by decide) : wpAny (model X.prog X.w) X.A (eval (.Name x pos) X.env) Q E s :=
  Calls.Name_function_global I.ok.kind hg (Calls.loadGlobal_global (by rw [I.ok.glob]; exact I.mod.glob.keeps I.bk) hm h) hd
theorem ld_blt {E : Value → Shared → Prop} {pins : List (Addr × Obj)} {s : Shared} {σ : St} {H : Hp} {x : Str} {u : Value} {pos : Pos} {Q : Value → Shared → Prop} (I : Inv X pins σ H s) (hg : Gl X x) (hm : X.mg x = none) (hv : bootBuiltins x = some u) (h : Q u s)
    (hn : x ≠ "__name__" := by decide) (hd : (x == ("__debug__" : Str)) = false := by decide) : wpAny (model X.prog X.w) X.A (eval (.Name x pos) X.env) Q E s := by
  obtain ⟨mb, h1, h2⟩ := I.mod.blt
  exact Calls.Name_function_global I.ok.kind hg (Calls.loadGlobal_builtin (by rw [I.ok.glob]; exact I.mod.glob.keeps I.bk) hm (by rw [I.ok.blt]; exact h1.keeps I.bk) ((h2 x hn).trans hv) h) hd
/-- a module's constant, a class, a function, as a value -/
theorem pe_glob {x : Str} {v : V} {u : Value} {pos : Pos} (hg : Gl X x) (hm : X.mg x = some u) (r : RelV v u) (hd : (x == ("__debug__" : Str)) = false := by decide) : PE X (.Name x pos) (tC v) :=
  fun _ _ _ H _ I h => ld_glob I hg hm ⟨v, H, I, r, h⟩ hd
theorem pe_bltn {x : Str} {v : V} {u : Value} {pos : Pos} (hg : Gl X x) (hm : X.mg x = none) (hv : bootBuiltins x = some u) (r : RelV v u) (hn : x ≠ "__name__" := by decide) (hd : (x == ("__debug__" : Str)) = false := by decide) : PE X (.Name x pos) (tC v) :=
  fun _ _ _ H _ I h => ld_blt I hg hm hv ⟨v, H, I, r, h⟩ hn hd

/-! ### arithmetic -/
/-- two ints -/
def t2I (ta tb : TE) (k : Int → Int → Hp → Prop) : St → Hp → Prop := fun σ H => ta σ H fun x H1 => tb σ H1 fun y H2 => ∃ i j, x = .int i ∧ y = .int j ∧ k i j H2
def tAdd (ta tb : TE) : TE := fun σ H Q => t2I ta tb (fun i j H2 => Q (.int (i + j)) H2) σ H
def tSub (ta tb : TE) : TE := fun σ H Q => t2I ta tb (fun i j H2 => Q (.int (i - j)) H2) σ H
/-- the left factor below 2^64 -/
def tMul (ta tb : TE) : TE := fun σ H Q => t2I ta tb (fun i j H2 => (-(2 ^ 64) < i ∧ i < 2 ^ 64) ∧ Q (.int (i * j)) H2) σ H
variable {a b : Expr} {ta tb : TE} {pos : Pos}
theorem pe_add (ha : PE X a ta) (hb : PE X b tb) : PE X (.BinOp a .Add b pos) (tAdd ta tb) := by
  intro pins s σ H Q I h
  refine wpAny_BinOp (bin ha hb I h fun v u s2 x y H2 I2 rx ry q => ?_)
  obtain ⟨i, j, rfl, rfl, q⟩ := q
  obtain ⟨t, rfl⟩ := rx
  obtain ⟨t', rfl⟩ := ry
  exact add_int ⟨.int _, H2, I2.tok _, ⟨_, rfl⟩, q⟩
theorem pe_sub (ha : PE X a ta) (hb : PE X b tb) : PE X (.BinOp a .Sub b pos) (tSub ta tb) := by
  intro pins s σ H Q I h
  refine wpAny_BinOp (bin ha hb I h fun v u s2 x y H2 I2 rx ry q => ?_)
  obtain ⟨i, j, rfl, rfl, q⟩ := q
  obtain ⟨t, rfl⟩ := rx
  obtain ⟨t', rfl⟩ := ry
  exact sub_int ⟨.int _, H2, I2.tok _, ⟨_, rfl⟩, q⟩
theorem pe_mul (ha : PE X a ta) (hb : PE X b tb) : PE X (.BinOp a .Mult b pos) (tMul ta tb) := by
  intro pins s σ H Q I h
  refine wpAny_BinOp (bin ha hb I h fun v u s2 x y H2 I2 rx ry q => ?_)
  obtain ⟨i, j, rfl, rfl, ⟨q1, q2⟩, q⟩ := q
  obtain ⟨t, rfl⟩ := rx
  obtain ⟨t', rfl⟩ := ry
  exact mul_int ⟨.int _, H2, I2.tok _, ⟨_, rfl⟩, q⟩ (.of_left (intBits_le_64 q1 q2))

/-! ### comparisons -/
def PC (X : Cx) (op : CmpOp) (a b : Expr) (t : TE) : Prop :=
  ∀ (pins : List (Addr × Obj)) (s : Shared) (σ : St) (H : Hp) (Q : VK), Inv X pins σ H s → t σ H Q →
    wpAny (model X.prog X.w) X.A (eval a X.env) (fun v s₁ => wpAny (model X.prog X.w) X.A (eval b X.env) (fun u s₂ => wpAny (model X.prog X.w) X.A (compareOp op v u) (EP X pins σ Q) X.xe s₂) X.xe s₁) X.xe s
theorem nobehind (b : Expr) {op : CmpOp} (h : op ≠ .In) (h2 : op ≠ .NotIn) : behindInMarks op b = false := by
  have e1 : (op == CmpOp.In) = false := by cases op <;> first | rfl | exact absurd rfl h
  have e2 : (op == CmpOp.NotIn) = false := by cases op <;> first | rfl | exact absurd rfl h2
  cases b <;> simp [behindInMarks, e1, e2]
def tCmp (p : Int → Int → Bool) (ta tb : TE) : TE := fun σ H Q => t2I ta tb (fun i j H2 => Q (.bl (p i j)) H2) σ H
abbrev tLt : TE → TE → TE := tCmp fun i j => decide (i < j)
abbrev tLe : TE → TE → TE := tCmp fun i j => decide (i ≤ j)
abbrev tGt : TE → TE → TE := tCmp fun i j => decide (j < i)
abbrev tGe : TE → TE → TE := tCmp fun i j => decide (j ≤ i)
abbrev tEqI : TE → TE → TE := tCmp fun i j => decide (i = j)
abbrev tNeI : TE → TE → TE := tCmp fun i j => !decide (i = j)
/-- a comparison of two ints, by its rule -/
theorem pc_int {op : CmpOp} {p : Int → Int → Bool} (ha : PE X a ta) (hb : PE X b tb)
    (rule : ∀ (i j : Int) (t u : Tok) (Q : Value → Shared → Prop) (s : Shared), Q (.bool (p i j)) s → wpAny (model X.prog X.w) X.A (compareOp op (.int i t) (.int j u)) Q X.xe s) : PC X op a b (tCmp p ta tb) := by
  intro pins s σ H Q I h
  refine bin ha hb I h fun v u s2 x y H2 I2 rx ry q => ?_
  obtain ⟨i, j, rfl, rfl, q⟩ := q
  obtain ⟨t, rfl⟩ := rx
  obtain ⟨t', rfl⟩ := ry
  exact rule i j t t' _ s2 ⟨.bl _, H2, I2, rfl, q⟩
theorem pc_lt (ha : PE X a ta) (hb : PE X b tb) : PC X .Lt a b (tLt ta tb) := pc_int ha hb fun _ _ _ _ _ _ h => lt_int h
theorem pc_le (ha : PE X a ta) (hb : PE X b tb) : PC X .LtE a b (tLe ta tb) := pc_int ha hb fun _ _ _ _ _ _ h => le_int h
theorem pc_gt (ha : PE X a ta) (hb : PE X b tb) : PC X .Gt a b (tGt ta tb) := pc_int ha hb fun _ _ _ _ _ _ h => gt_int h
theorem pc_ge (ha : PE X a ta) (hb : PE X b tb) : PC X .GtE a b (tGe ta tb) := pc_int ha hb fun _ _ _ _ _ _ h => ge_int h
theorem pc_eqI (ha : PE X a ta) (hb : PE X b tb) : PC X .Eq a b (tEqI ta tb) := pc_int ha hb fun _ _ _ _ _ _ h => eq_int (by rw [Bool.beq_eq_decide_eq]; exact h)
theorem pc_neI (ha : PE X a ta) (hb : PE X b tb) : PC X .NotEq a b (tNeI ta tb) := pc_int ha hb fun _ _ _ _ _ _ h => ne_int (by rw [bne, Bool.beq_eq_decide_eq]; exact h)
/-- is None -/
def tIsN (ta : TE) : TE := fun σ H Q => ta σ H fun x H1 => Q (.bl (decide (x = .non))) H1
def tNotN (ta : TE) : TE := fun σ H Q => ta σ H fun x H1 => Q (.bl (!decide (x = .non))) H1
theorem RelV.none_iff {x : V} {v : Value} (r : RelV x v) : (v == Value.none) = decide (x = .non) := by
  cases x with
  | non => cases r; rfl
  | bl _ => cases r; rfl
  | int _ => obtain ⟨t, rfl⟩ := r; rfl
  | str _ => obtain ⟨t, rfl⟩ := r; rfl
  | byt _ => obtain ⟨t, rfl⟩ := r; rfl
  | flt _ => obtain ⟨t, rfl⟩ := r; rfl
  | ref _ => cases r; rfl
  | ty _ => cases r; rfl
theorem pc_isN {j pos'} (ha : PE X a ta) : PC X .Is a (.Constant .none j pos') (tIsN ta) := by
  intro pins s σ H Q I h
  refine thn (ha pins s σ H _ I h) fun v s1 ⟨x, H1, I1, r1, q1⟩ => ?_
  exact Constant_none (is_none_gen ⟨.bl _, H1, I1, by rw [r1.none_iff]; rfl, q1⟩)
theorem pc_notN {j pos'} (ha : PE X a ta) : PC X .IsNot a (.Constant .none j pos') (tNotN ta) := by
  intro pins s σ H Q I h
  refine thn (ha pins s σ H _ I h) fun v s1 ⟨x, H1, I1, r1, q1⟩ => ?_
  exact Constant_none (isnot_none_gen ⟨.bl _, H1, I1, by rw [r1.none_iff]; rfl, q1⟩)
/-- a comparison as a value, as a test -/
def tB (t : TE) : TT := fun σ H Q => t σ H fun x H1 => ∃ c, x = .bl c ∧ Q c H1
theorem pe_cmp {op : CmpOp} {t : TE} (h : PC X op a b t) (h1 : behindInMarks op b = false := by first | exact nobehind _ (by decide) (by decide) | rfl) : PE X (.Compare a [op] [b] pos) t := fun pins s σ H Q I hw => wpAny_Compare1 (h pins s σ H Q I hw) h1
theorem pt_cmp {op : CmpOp} {t : TE} (h : PC X op a b t) (h1 : behindInMarks op b = false := by first | exact nobehind _ (by decide) (by decide) | rfl) : PT X (.Compare a [op] [b] pos) (tB t) := by
  intro pins s σ H Q I hw
  refine wpAny_isTrue_Compare1 (thn (h pins s σ H _ I hw) fun v s1 h1 => thn h1 fun u s2 h2 => thn h2 fun c s3 ⟨x, H1, I1, r1, q1⟩ => ?_) h1
  obtain ⟨d, rfl, q⟩ := q1
  cases r1
  exact wpAny_truthy_bool ⟨H1, I1, q⟩
/-- an expression whose value is a bool, as a test -/
theorem pt_val {e : Expr} {t : TE} (h : PE X e t) (he : ∀ whole, isTrue e X.env whole = (do let v ← whole; standAt e.pos; holding [v] (truthy v)) := by intro _; rfl) : PT X e (tB t) := by
  intro pins s σ H Q I hw
  refine isTrue_plain (thn (h pins s σ H _ I hw) fun v s1 ⟨x, H1, I1, r1, q1⟩ => ?_) (he _)
  obtain ⟨d, rfl, q⟩ := q1
  cases r1
  exact wpAny_truthy_bool ⟨H1, I1, q⟩

/-! ### and, or, not -/
variable {tA tB' : TT} {rest : List Expr}
def tAnd (t u : TT) : TT := fun σ H Q => t σ H fun c H1 => if c = true then u σ H1 Q else Q false H1
def tOr (t u : TT) : TT := fun σ H Q => t σ H fun c H1 => if c = true then Q true H1 else u σ H1 Q
def tNot (t : TT) : TT := fun σ H Q => t σ H fun c H1 => Q (!c) H1
theorem pw_and1 (ha : PT X a tA) : PW X (.BoolOp .And [a] pos) tA := by
  intro wh pins s σ H Q I h
  refine isTrue_and (thn (ha pins s σ H Q I h) fun c s1 e => ?_)
  cases c with
  | true => exact isTrue_and_nil e
  | false => exact e
theorem pw_or1 (ha : PT X a tA) : PW X (.BoolOp .Or [a] pos) tA := by
  intro wh pins s σ H Q I h
  refine isTrue_or (thn (ha pins s σ H Q I h) fun c s1 e => ?_)
  cases c with
  | false => exact isTrue_or_nil e
  | true => exact e
theorem pw_and (ha : PT X a tA) (hb : PW X (.BoolOp .And (b :: rest) pos) tB') : PW X (.BoolOp .And (a :: b :: rest) pos) (tAnd tA tB') := by
  intro wh pins s σ H Q I h
  refine isTrue_and (thn (ha pins s σ H _ I h) fun c s1 ⟨H1, I1, q1⟩ => ?_)
  cases c with
  | true => exact hb wh pins s1 σ H1 Q I1 q1
  | false => exact ⟨H1, I1, q1⟩
theorem pw_or (ha : PT X a tA) (hb : PW X (.BoolOp .Or (b :: rest) pos) tB') : PW X (.BoolOp .Or (a :: b :: rest) pos) (tOr tA tB') := by
  intro wh pins s σ H Q I h
  refine isTrue_or (thn (ha pins s σ H _ I h) fun c s1 ⟨H1, I1, q1⟩ => ?_)
  cases c with
  | true => exact ⟨H1, I1, q1⟩
  | false => exact hb wh pins s1 σ H1 Q I1 q1
theorem pt_not (ha : PT X a tA) : PT X (.UnaryOp .Not a pos) (tNot tA) := by
  intro pins s σ H Q I h
  exact isTrue_not (ha pins s σ H (fun c H1 => Q (!c) H1) I h)
/-- .. as values (bools) -/
def tAndV (ta tb : TE) : TE := fun σ H Q => ta σ H fun x H1 => ∃ c, x = .bl c ∧ if c = true then tb σ H1 Q else Q (.bl false) H1
def tOrV (ta tb : TE) : TE := fun σ H Q => ta σ H fun x H1 => ∃ c, x = .bl c ∧ if c = true then Q (.bl true) H1 else tb σ H1 Q
def tNotV (ta : TE) : TE := fun σ H Q => ta σ H fun x H1 => ∃ c, x = .bl c ∧ Q (.bl (!c)) H1
theorem pe_one {op} {t : TE} (h : PE X a t) : PE X (.BoolOp op [a] pos) t := fun pins s σ H Q I hw => BoolOp_one (h pins s σ H Q I hw)
theorem pe_and (ha : PE X a ta) (hb : PE X (.BoolOp .And (b :: rest) pos) tb) : PE X (.BoolOp .And (a :: b :: rest) pos) (tAndV ta tb) := by
  intro pins s σ H Q I h
  refine BoolOp_and (thn (ha pins s σ H _ I h) fun v s1 ⟨x, H1, I1, r1, q1⟩ => ?_)
  obtain ⟨c, rfl, q1⟩ := q1
  cases r1
  refine wpAny_truthy_bool ?_
  cases c with
  | true => exact hb pins s1 σ H1 Q I1 q1
  | false => exact ⟨.bl false, H1, I1, rfl, q1⟩
theorem pe_or (ha : PE X a ta) (hb : PE X (.BoolOp .Or (b :: rest) pos) tb) : PE X (.BoolOp .Or (a :: b :: rest) pos) (tOrV ta tb) := by
  intro pins s σ H Q I h
  refine BoolOp_or (thn (ha pins s σ H _ I h) fun v s1 ⟨x, H1, I1, r1, q1⟩ => ?_)
  obtain ⟨c, rfl, q1⟩ := q1
  cases r1
  refine wpAny_truthy_bool ?_
  cases c with
  | false => exact hb pins s1 σ H1 Q I1 q1
  | true => exact ⟨.bl true, H1, I1, rfl, q1⟩
theorem pe_not (ha : PE X a ta) : PE X (.UnaryOp .Not a pos) (tNotV ta) := by
  intro pins s σ H Q I h
  refine UnaryOp_ (thn (ha pins s σ H _ I h) fun v s1 ⟨x, H1, I1, r1, q1⟩ => ?_)
  obtain ⟨c, rfl, q1⟩ := q1
  cases r1
  exact not_of (wpAny_truthy_bool ⟨.bl (!c), H1, I1, rfl, q1⟩)
/-- a if t else b -/
def tIf (t : TT) (ta tb : TE) : TE := fun σ H Q => t σ H fun c H1 => if c = true then ta σ H1 Q else tb σ H1 Q
theorem pe_ifExp {c : Expr} (hc : PT X c tA) (ha : PE X a ta) (hb : PE X b tb) : PE X (.IfExp c a b pos) (tIf tA ta tb) := by
  intro pins s σ H Q I h
  refine wpAny_IfExp (thn (hc pins s σ H _ I h) fun d s1 ⟨H1, I1, q1⟩ => ?_)
  cases d with
  | true => exact ha pins s1 σ H1 Q I1 q1
  | false => exact hb pins s1 σ H1 Q I1 q1
end
end L2

namespace L2
open PySem PySem.Spec PyProof.Rows

/-! ### a list, a tuple that is read: tracked, frozen, or an object of the module -/
def SqL (K : PySem.W.Frag) (H : Hp) (a : Addr) (xs : List V) : Prop :=
  Rd H a (.lst xs) ∨
    ∃ (o : Obj) (its : Array Value) (n : Nat), K.lookup a = some o ∧ o.cls = .type "list" ∧ o.dict = none ∧ o.data = .seq its n ∧ its.size ≤ sizeLine ∧ Vals xs its.toList
def SqT (K : PySem.W.Frag) (H : Hp) (a : Addr) (xs : List V) : Prop :=
  Rd H a (.tup xs) ∨
    ∃ (o : Obj) (its : Array Value) (n : Nat), K.lookup a = some o ∧ o.cls = .type "tuple" ∧ o.data = .seq its n ∧ its.size ≤ sizeLine ∧ Vals xs its.toList
def absV : Value → Option V
  | .none => some .non
  | .bool b => some (.bl b)
  | .int i _ => some (.int i)
  | .str x _ => some (.str x)
  | .bytes b _ => some (.byt b)
  | .float b _ => some (.flt b)
  | .ref a => some (.ref a)
  | .type n => some (.ty n)
  | _ => none
theorem RelV.abs {x : V} {u : Value} (r : RelV x u) : absV u = some x := by
  cases x with
  | non => cases r; rfl
  | bl _ => cases r; rfl
  | int _ => obtain ⟨t, rfl⟩ := r; rfl
  | str _ => obtain ⟨t, rfl⟩ := r; rfl
  | byt _ => obtain ⟨t, rfl⟩ := r; rfl
  | flt _ => obtain ⟨t, rfl⟩ := r; rfl
  | ref _ => cases r; rfl
  | ty _ => cases r; rfl
theorem RelV.inj {x y : V} {u : Value} (r : RelV x u) (q : RelV y u) : x = y := Option.some.inj (r.abs.symm.trans q.abs)
theorem Vals.inj : ∀ {xs ys : List V} {us : List Value}, Vals xs us → Vals ys us → xs = ys
  | _, _, _, .nil, .nil => rfl
  | _, _, _, .cons r t, .cons r' t' => by rw [r.inj r', Vals.inj t t']
section
variable {X : Cx} {pins : List (Addr × Obj)} {σ : St} {H : Hp} {s : Shared} {a : Addr} {xs ys : List V}
theorem SqL.of {K : PySem.W.Frag} (h : H a = some (.lst xs)) : SqL K H a xs := .inl (.inl h)
theorem SqT.of {K : PySem.W.Frag} (h : H a = some (.tup xs)) : SqT K H a xs := .inl (.inl h)
theorem Inv.list (I : Inv X pins σ H s) (h : SqL X.K H a xs) : ∃ its : List Value, Vals xs its ∧ PlainL s.heap a its.toArray ∧ xs.length ≤ sizeLine := by
  rcases h with h | ⟨o, its, n, hk, hc, hd, hs, hz, r⟩
  · obtain ⟨z, its, n, r, e⟩ := h.ok I.hok
    exact ⟨its, r, ⟨_, n, e, rfl, rfl, rfl⟩, z⟩
  · refine ⟨its.toList, r, ⟨o, n, I.kIn a o hk, hc, hd, by simpa using hs⟩, ?_⟩
    have e := r.length
    simp only [Array.length_toList] at e
    omega
theorem Inv.tuple (I : Inv X pins σ H s) (h : SqT X.K H a xs) : ∃ its : List Value, Vals xs its ∧ IsTup s.heap a its.toArray ∧ xs.length ≤ sizeLine := by
  rcases h with h | ⟨o, its, n, hk, hc, hs, hz, r⟩
  · obtain ⟨z, its, r, p⟩ := h.ok I.hok
    exact ⟨its, r, p, z⟩
  · refine ⟨its.toList, r, ⟨o, I.kIn a o hk, hc, n, by simpa using hs⟩, ?_⟩
    have e := r.length
    simp only [Array.length_toList] at e
    omega
theorem Inv.list_inj (I : Inv X pins σ H s) (h : SqL X.K H a xs) (h' : SqL X.K H a ys) : xs = ys := by
  obtain ⟨its, r, ⟨o, n, e, _, _, d⟩, _⟩ := I.list h
  obtain ⟨its', r', ⟨o', n', e', _, _, d'⟩, _⟩ := I.list h'
  rw [e] at e'; cases e'
  rw [d] at d'
  injection d' with d1 _
  have : its = its' := by simpa using congrArg Array.toList d1
  subst this
  exact r.inj r'
theorem Inv.tuple_inj (I : Inv X pins σ H s) (h : SqT X.K H a xs) (h' : SqT X.K H a ys) : xs = ys := by
  obtain ⟨its, r, ⟨o, e, _, n, d⟩, _⟩ := I.tuple h
  obtain ⟨its', r', ⟨o', e', _, n', d'⟩, _⟩ := I.tuple h'
  rw [e] at e'; cases e'
  rw [d] at d'
  injection d' with d1 _
  have : its = its' := by simpa using congrArg Array.toList d1
  subst this
  exact r.inj r'
end

/-! ### another wish about exceptions -/
abbrev Cx.wish (X : Cx) (E : Value → Shared → Prop) : Cx := { X with xe := E }
/-- no exception leaves -/
abbrev Cx.nox (X : Cx) : Cx := X.wish fun _ _ => False
theorem Cx.Ok.wish {X : Cx} (ok : X.Ok) (E : Value → Shared → Prop) : (X.wish E).Ok :=
  ⟨ok.mod, ok.kind, ok.glob, ok.blt, ok.above, ok.inj, ok.has, ok.cab, ok.hd, ok.frames, ok.stk, ok.exf, ok.bs, ok.bsz, ok.noex, ok.exfs, ok.funs, ok.frf⟩
theorem Cx.Ok.unwish {X : Cx} {E : Value → Shared → Prop} (ok : (X.wish E).Ok) : X.Ok :=
  ⟨ok.mod, ok.kind, ok.glob, ok.blt, ok.above, ok.inj, ok.has, ok.cab, ok.hd, ok.frames, ok.stk, ok.exf, ok.bs, ok.bsz, ok.noex, ok.exfs, ok.funs, ok.frf⟩
section
variable {X : Cx} {pins : List (Addr × Obj)} {σ : St} {H : Hp} {s : Shared} {E : Value → Shared → Prop}
theorem Inv.wish (I : Inv X pins σ H s) (E : Value → Shared → Prop) : Inv (X.wish E) pins σ H s := ⟨I.ok.wish E, I.os, I.bare, I.base, I.loc, I.cell, I.free, I.freeC, I.pin, I.hok, I.len⟩
theorem Inv.unwish (I : Inv (X.wish E) pins σ H s) : Inv X pins σ H s := ⟨I.ok.unwish, I.os, I.bare, I.base, I.loc, I.cell, I.free, I.freeC, I.pin, I.hok, I.len⟩
theorem SP.unwish {D : Ends} {f : Flow} {s' : Shared} (h : SP (X.wish E) pins D f s') : SP X pins D f s' := by
  cases f with
  | next => obtain ⟨σ', H', I, q⟩ := h; exact ⟨σ', H', I.unwish, q⟩
  | brk => obtain ⟨σ', H', I, q⟩ := h; exact ⟨σ', H', I.unwish, q⟩
  | cont => obtain ⟨σ', H', I, q⟩ := h; exact ⟨σ', H', I.unwish, q⟩
  | ret u => obtain ⟨v, σ', H', I, r, q⟩ := h; exact ⟨v, σ', H', I.unwish, r, q⟩
theorem PE.nox {e : Expr} {t : TE} (h : PE X.nox e t) : PE X e t := fun pins s σ H Q I hw =>
  wpAny_mono (h pins s σ H Q (I.wish _) hw) (fun _ _ ⟨v, H', I', r, q⟩ => ⟨v, H', I'.unwish, r, q⟩) fun _ _ z => False.elim z
theorem PT.nox {e : Expr} {t : TT} (h : PT X.nox e t) : PT X e t := fun pins s σ H Q I hw =>
  wpAny_mono (h pins s σ H Q (I.wish _) hw) (fun _ _ ⟨H', I', q⟩ => ⟨H', I'.unwish, q⟩) fun _ _ z => False.elim z
theorem PSs.nox {st : List Stmt} {t : TS} (h : PSs X.nox st t) : PSs X st t := fun pins s σ H D I hw =>
  wpAny_mono (h pins s σ H D (I.wish _) hw) (fun _ _ q => q.unwish) fun _ _ z => False.elim z
end

/-! ### blocks and small statements -/
section
variable {X : Cx} {st : Stmt} {rest : List Stmt} {t u : TS} {e : Expr} {te : TE} {pos : Pos}
def tNext : TS := fun D σ H => D.nx σ H
def tSeq (t u : TS) : TS := fun D σ H => t { D with nx := u D } σ H
theorem pss_nil : PSs X [] tNext := fun _ _ σ H _ I h => wpAny_execs_nil ⟨σ, H, I, h⟩
theorem pss_cons (h1 : PS X st t) (h2 : PSs X rest u) : PSs X (st :: rest) (tSeq t u) := by
  intro pins s σ H D I h
  refine wpAny_execs_cons (thn (h1 pins s σ H { D with nx := u D } I h) fun f s1 q => ?_)
  cases f with
  | next =>
    obtain ⟨σ', H', I', q⟩ := q
    exact h2 pins s1 σ' H' D I' q
  | ret v => exact q
  | brk => exact q
  | cont => exact q
theorem pss_one (h1 : PS X st t) : PSs X [st] t := by
  intro pins s σ H D I h
  refine wpAny_execs_cons (thn (h1 pins s σ H D I h) fun f s1 q => ?_)
  cases f with
  | next => exact wpAny_execs_nil q
  | ret v => exact q
  | brk => exact q
  | cont => exact q
def tBreak : TS := fun D σ H => D.bk σ H
def tCont : TS := fun D σ H => D.ct σ H
theorem ps_pass : PS X (.Pass pos) tNext := fun _ _ σ H _ I h => wpAny_Pass ⟨σ, H, I, h⟩
theorem ps_break : PS X (.Break pos) tBreak := fun _ _ σ H _ I h => wpAny_Break ⟨σ, H, I, h⟩
theorem ps_continue : PS X (.Continue pos) tCont := fun _ _ σ H _ I h => wpAny_Continue ⟨σ, H, I, h⟩
/-- in a def's body nothing is shown -/
theorem Inv.quiet {pins : List (Addr × Obj)} {σ : St} {H : Hp} {s : Shared} (I : Inv X pins σ H s) : interactive X.env = false := by simp [interactive, I.ok.kind]
/-- a docstring -/
theorem ps_doc {x j pos pos'} : PS X (.Expr (.Constant (.str x) j pos) pos') tNext := fun _ s σ H _ I h => wpAny_Expr (Calls.Constant_str (show SP X _ _ .next { s with toks := s.toks + 1 } from ⟨σ, H, I.tok _, h⟩)) I.quiet
/-- an expression whose value is dropped -/
def tDrop (te : TE) : TS := fun D σ H => te σ H fun _ H1 => D.nx σ H1
theorem ps_expr (he : PE X e te) (hs : swapsWith e none pos.line X.env = pure false := by rfl) : PS X (.Expr e pos) (tDrop te) := by
  intro pins s σ H D I h
  exact wpAny_Expr_any (thn (he pins s σ H _ I h) fun v s1 ⟨x, H1, I1, r1, q1⟩ => ⟨σ, H1, I1, q1⟩) I.quiet hs
def tRet (te : TE) : TS := fun D σ H => te σ H D.rt
theorem ps_ret (he : PE X e te) : PS X (.Return (some e) pos) (tRet te) := by
  intro pins s σ H D I h
  exact wpAny_Return_some (thn (he pins s σ H _ I h) fun v s1 ⟨x, H1, I1, r1, q1⟩ => ⟨x, σ, H1, I1, r1, q1⟩)
def tRetN : TS := fun D _ H => D.rt .non H
theorem ps_retN : PS X (.Return none pos) tRetN := fun _ _ σ H _ I h => wpAny_Return_none ⟨.non, σ, H, I, rfl, h⟩
def tIfS (c : TT) (t u : TS) : TS := fun D σ H => c σ H fun b H1 => if b = true then t D σ H1 else u D σ H1
theorem ps_if {c : Expr} {a b : List Stmt} {tc : TT} (hc : PT X c tc) (ha : PSs X a t) (hb : PSs X b u) : PS X (.If c a b pos) (tIfS tc t u) := by
  intro pins s σ H D I h
  refine wpAny_If (thn (hc pins s σ H _ I h) fun d s1 ⟨H1, I1, q1⟩ => ?_)
  cases d with
  | true => exact ha pins s1 σ H1 D I1 q1
  | false => exact hb pins s1 σ H1 D I1 q1
/-- code that the proof never comes to -/
def tNever : TS := fun _ _ _ => False
theorem ps_never : PS X st tNever := fun _ _ _ _ _ _ h => h.elim
theorem pss_never {sts : List Stmt} : PSs X sts tNever := fun _ _ _ _ _ _ h => h.elim
end

/-! ### targets -/
abbrev TG := V → St → Hp → (St → Hp → Prop) → Prop
abbrev TGs := List V → St → Hp → (St → Hp → Prop) → Prop
def PG (X : Cx) (target : Expr) (t : TG) : Prop :=
  ∀ (pins : List (Addr × Obj)) (s : Shared) (σ : St) (H : Hp) (v : V) (u : Value) (Q : St → Hp → Prop), Inv X pins σ H s → RelV v u → t v σ H Q →
    wpAny (model X.prog X.w) X.A (assign target X.env u) (fun _ s' => ∃ σ' H', Inv X pins σ' H' s' ∧ Q σ' H') X.xe s
/-- several targets, one after another -/
def PGs (X : Cx) (ts : List Expr) (t : TGs) : Prop :=
  ∀ (pins : List (Addr × Obj)) (s : Shared) (σ : St) (H : Hp) (vs : List V) (us : List Value) (Q : St → Hp → Prop), Inv X pins σ H s → Vals vs us → t vs σ H Q →
    wpAny (model X.prog X.w) X.A (assignInOrder ((assignEach ts X.env).map (·.2)) us) (fun _ s' => ∃ σ' H', Inv X pins σ' H' s' ∧ Q σ' H') X.xe s
/-- o[i] = v, by values -/
abbrev TSet := V → V → V → Hp → (Hp → Prop) → Prop
def PSet (X : Cx) (t : TSet) : Prop :=
  ∀ (pins : List (Addr × Obj)) (s : Shared) (σ : St) (H : Hp) (o i v : V) (ov iv u : Value) (Q : Hp → Prop), Inv X pins σ H s → RelV o ov → RelV i iv → RelV v u → t o i v H Q →
    wpAny (model X.prog X.w) X.A (setItem ov iv u) (fun _ s' => ∃ H', Inv X pins σ H' s' ∧ Q H') X.xe s
/-- a op= b, by values -/
abbrev TIp := V → V → Hp → VK → Prop
def PIp (X : Cx) (op : Operator) (t : TIp) : Prop :=
  ∀ (pins : List (Addr × Obj)) (s : Shared) (σ : St) (H : Hp) (x y : V) (v u : Value) (Q : VK), Inv X pins σ H s → RelV x v → RelV y u → t x y H Q →
    wpAny (model X.prog X.w) X.A (inplaceOp op v u) (EP X pins σ Q) X.xe s
section
variable {X : Cx} {pos : Pos}
def gName (i : Nat) : TG := fun v σ H Q => Q (σ.set i (some v)) H
theorem pg_name {i : Nat} {x : Str} (hN : X.N.Nodup) (hi : X.N[i]? = some x) (hx : Loc X.env.scope x) (hf : X.fn x = true ∨ X.env.scope.names.lookup x = some .local := by first | exact .inl rfl | exact .inr rfl | assumption) : PG X (.Name x pos) (gName i) := by
  intro pins s σ H v u Q I r h
  exact wpAny_assign_Name (store_ok I hN hi hx r (fun s' I' => ⟨_, H, I', h⟩) hf)
def gNil : TGs := fun vs σ H Q => vs = [] ∧ Q σ H
def gCons (t : TG) (u : TGs) : TGs := fun vs σ H Q => ∃ v r, vs = v :: r ∧ t v σ H fun σ' H' => u r σ' H' Q
theorem pgs_nil : PGs X [] gNil := by
  intro pins s σ H vs us Q I r h
  obtain ⟨e, h⟩ := h
  subst e
  cases r
  exact assignInOrder_nil ⟨σ, H, I, h⟩
theorem pgs_cons {e : Expr} {es : List Expr} {t : TG} {u : TGs} (h1 : PG X e t) (h2 : PGs X es u)
    (hs : (assignEach (e :: es) X.env).map (·.2) = assign e X.env :: (assignEach es X.env).map (·.2) := by rfl) : PGs X (e :: es) (gCons t u) := by
  intro pins s σ H vs us Q I r h
  obtain ⟨v, vr, e1, h⟩ := h
  subst e1
  cases r with
  | cons r rr =>
    rw [hs]
    refine assignInOrder_cons (thn (h1 pins s σ H _ _ _ I r h) fun _ s1 ⟨σ1, H1, I1, q1⟩ => ?_)
    exact h2 pins s1 σ1 H1 _ _ Q I1 rr q1
/-- (a, b, ..) = a tuple of that length -/
def gTup (K : PySem.W.Frag) (n : Nat) (t : TGs) : TG := fun v σ H Q => ∃ a xs, v = .ref a ∧ SqT K H a xs ∧ xs.length = n ∧ t xs σ H Q
theorem pg_tup {es : List Expr} {k : Nat} {t : TGs} {n : Nat} (hc : X.calm = true) (h : PGs X es t)
    (hn : (assignEach es X.env).length = n := by rfl) (hst : (assignEach es X.env).findIdx? (·.1) = none := by rfl) : PG X (.Tuple es k pos) (gTup X.K n t) := by
  intro pins s σ H v u Q I r hw
  obtain ⟨a, xs, e1, hq, hl, hw⟩ := hw
  subst e1
  cases r
  obtain ⟨its, rv, ht, hz⟩ := I.tuple hq
  refine assign_Tuple_tuple (I.ok.hd hc) ht (by simp [hn, ← hl, rv.length]) hst fun h' hx => ?_
  have I1 : Inv X pins σ H { s with heap := h' } := I.kept (t' := s.toks) fun b o e => hx b o (Nat.ne_of_lt (Heap.lt_size e)) e
  exact h pins _ σ H xs _ Q I1 (by simpa using rv) hw
/-- o[i] = .. -/
def gSub (to ti : TE) (t : TSet) : TG := fun v σ H Q => to σ H fun o H1 => ti σ H1 fun i H2 => t o i v H2 fun H3 => Q σ H3
theorem pg_sub {o i : Expr} {to ti : TE} {t : TSet} (ho : PE X o to) (hi : PE X i ti) (hs : PSet X t)
    (ha : ∀ v, assign (.Subscript o i pos) X.env v = (do
      let ov ← holding [v] (eval o X.env)
      let iv ← holding [v, ov] (eval i X.env)
      standAt pos
      holding [v, ov, iv] (setItem ov iv v)
      release [v, ov, iv] []) := by intro _; rfl) : PG X (.Subscript o i pos) (gSub to ti t) := by
  intro pins s σ H v u Q I r h
  rw [ha]
  refine wpAny_bind (wpAny_holding (thn (ho pins s σ H _ I h) fun ov s1 ⟨x, H1, I1, r1, q1⟩ => ?_))
  refine wpAny_bind (wpAny_holding (thn (hi pins s1 σ H1 _ I1 q1) fun iv s2 ⟨y, H2, I2, r2, q2⟩ => ?_))
  refine wpAny_bind (wpAny_standAt (wpAny_bind (wpAny_holding (thn (hs pins s2 σ H2 x y v ov iv u _ I2 r1 r2 r q2) fun _ s3 ⟨H3, I3, q3⟩ => ?_))))
  exact wpAny_release ⟨σ, H3, I3, q3⟩
/-- target = value -/
def tAsg (te : TE) (g : TG) : TS := fun D σ H => te σ H fun x H1 => g x σ H1 D.nx
theorem ps_asg {tg e : Expr} {te : TE} {g : TG} (he : PE X e te) (hg : PG X tg g) (hs : swapsWithSole [tg] e pos.line X.env = pure false := by rfl) (hw : swappedStores [tg] e X.env = pure none := by rfl)
    (h1 : (assignEach [tg] X.env).map (·.2) = [assign tg X.env] := by rfl) : PS X (.Assign [tg] e pos) (tAsg te g) := by
  intro pins s σ H D I h
  refine wpAny_Assign_stores (thn (he pins s σ H _ I h) fun v s1 ⟨x, H1, I1, r1, q1⟩ => ?_) hs hw
  rw [h1]
  exact thn (hg pins s1 σ H1 x v _ I1 r1 q1) fun _ s2 q => q
/-- name = value -/
theorem ps_set {i : Nat} {x : Str} {e : Expr} {te : TE} {pos' : Pos} (hN : X.N.Nodup) (hi : X.N[i]? = some x) (hx : Loc X.env.scope x) (he : PE X e te) (hs : swapsWith e (some (.Name x pos')) pos.line X.env = pure false := by rfl) (hf : X.fn x = true ∨ X.env.scope.names.lookup x = some .local := by first | exact .inl rfl | exact .inr rfl | assumption) :
    PS X (.Assign [.Name x pos'] e pos) (tAsg te (gName i)) := by
  intro pins s σ H D I h
  refine wpAny_Assign_Name (thn (he pins s σ H _ I h) fun v s1 ⟨y, H1, I1, r1, q1⟩ => ?_) hs
  exact store_ok I1 hN hi hx r1 (fun s2 I2 => ⟨_, H1, I2, q1⟩) hf
/-- a, b = x, y with plain local names: stored from the right; the pair itself is not tracked (the opening rows as in PyProof/Rows/TupAssign.lean:23) -/
def tPar (i j : Nat) (ta : TA) : TS := fun D σ H => ta σ H fun vs H1 => ∃ v w, vs = [v, w] ∧ D.nx ((σ.set i (some v)).set j (some w)) H1
theorem ps_par {i j : Nat} {x y : Str} {a b : Expr} {ta : TA} {px py pt : Pos} {kt k2 pt2} (hc : X.calm = true) (hN : X.N.Nodup) (hi : X.N[i]? = some x) (hj : X.N[j]? = some y) (hij : i ≠ j)
    (hx : X.env.scope.names.lookup x = some .local) (hy : X.env.scope.names.lookup y = some .local) (ha : PA X [a, b] ta)
    (hw : swappedStores [.Tuple [.Name x px, .Name y py] kt pt] (.Tuple [a, b] k2 pt2) X.env = pure (some [x, y]))
    (hs : swapsWithSole [.Tuple [.Name x px, .Name y py] kt pt] (.Tuple [a, b] k2 pt2) pos.line X.env = pure false := by rfl) :
    PS X (.Assign [.Tuple [.Name x px, .Name y py] kt pt] (.Tuple [a, b] k2 pt2) pos) (tPar i j ta) := by
  intro pins s σ H D I h
  rw [exec_Assign_arm]
  refine wpAny_bind (wpAny_standAt ?_)
  rw [hs]
  refine wpAny_bind (wpAny_pure ?_)
  rw [if_neg (by decide)]
  refine wpAny_bind (Tuple_ (thn (ha _ pins s σ H _ I h) fun us s1 ⟨vs, H1, I1, r1, q1⟩ => ?_))
  obtain ⟨v, w, e1, q1⟩ := q1
  subst e1
  obtain ⟨u1, u2, rfl, rv, rw'⟩ : ∃ u1 u2, us = [u1, u2] ∧ RelV v u1 ∧ RelV w u2 := by
    cases r1 with
    | cons p q =>
      cases q with
      | cons p' q' =>
        cases q'
        exact ⟨_, _, rfl, p, p'⟩
  refine wpAny_newObj_type ?_ (by show 2 ≤ sizeLine; decide)
  have I2 : Inv X pins σ H1 { s1 with heap := s1.heap.push { cls := .type "tuple", data := .seq [u1, u2].toArray } } := I1.kept (t' := s1.toks) fun b o e => Heap.get?_push_of_some _ e
  rw [hw]
  refine wpAny_bind (wpAny_pure ?_)
  show wpAny (model X.prog X.w) X.A (do rule "assign.swapped-stores"; let items ← unpackItems (.ref s1.heap.objs.size) 2 none; assignInOrder [fun v => bindName X.env y v, fun v => bindName X.env x v] items.reverse; pure Flow.next) _ _ _
  refine wpAny_bind (wpAny_rule (wpAny_bind (unpackItems_tuple (items := #[u1, u2]) (I.ok.hd hc) (IsTup.new s1.heap _) fun h' hx' => ?_)))
  have I3 := I2.kept (h' := h') (t' := s1.toks) fun b o e => hx' b o (Nat.ne_of_lt (Heap.lt_size e)) e
  show wpAny _ _ (assignInOrder [fun v => bindName X.env y v, fun v => bindName X.env x v] [u2, u1] >>= fun _ => pure Flow.next) _ _ _
  refine wpAny_bind (assignInOrder_cons (wpAny_bindName (store_ok I3 hN hj (.inl hy) rw' (fun s2 I4 => ?_) (.inr hy))))
  refine assignInOrder_cons (wpAny_bindName (store_ok I4 hN hi (.inl hx) rv (fun s3 I5 => assignInOrder_nil (wpAny_pure ?_)) (.inr hx)))
  rw [List.set_comm _ _ (Ne.symm hij)] at I5
  exact ⟨_, H1, I5, q1⟩
/-- name op= e -/
def tAug (i : Nat) (te : TE) (ti : TIp) : TS := fun D σ H => ∃ x, σ[i]? = some (some x) ∧ te σ H fun y H1 => ti x y H1 fun z H2 => D.nx (σ.set i (some z)) H2
theorem ps_aug {i : Nat} {x : Str} {e : Expr} {te : TE} {op : Operator} {ti : TIp} {pos' : Pos} (hN : X.N.Nodup) (hi : X.N[i]? = some x) (hx : Loc X.env.scope x) (he : PE X e te) (ho : PIp X op ti) (hf : X.fn x = true ∨ X.env.scope.names.lookup x = some .local := by first | exact .inl rfl | exact .inr rfl | assumption) :
    PS X (.AugAssign (.Name x pos') op e pos) (tAug i te ti) := by
  intro pins s σ H D I h
  obtain ⟨v, e1, h⟩ := h
  obtain ⟨m, hn, hl⟩ := I.loc
  have vis : Vis X.env.scope x := by rcases hx with k | k; exact .inl k; exact .inr (.inl k)
  obtain ⟨u, r, l⟩ := hl i x v hi e1 vis
  refine wpAny_AugAssign_Name ?_
  have go : wpAny (model X.prog X.w) X.A (eval e X.env) (fun w s₂ => wpAny (model X.prog X.w) X.A (inplaceOp op u w) (fun r s₃ => wpAny (model X.prog X.w) X.A (storeName X.env x r) (fun _ => SP X pins D .next) X.xe s₃) X.xe s₂) X.xe s := by
    refine thn (he pins s σ H _ I h) fun w s1 ⟨y, H1, I1, r1, q1⟩ => ?_
    refine thn (ho pins s1 σ H1 v y u w _ I1 r r1 q1) fun z s2 ⟨zv, H2, I2, r2, q2⟩ => ?_
    exact store_ok I2 hN hi hx r2 (fun s3 I3 => ⟨_, H2, I3, q2⟩) hf
  rcases l with ⟨hk, hm⟩ | ⟨hk, c, hc, hcell⟩
  · exact wpAny_loadName_local I.ok.kind hk hn hm go
  · rcases hk with hk | hk
    · exact wpAny_loadName_cell I.ok.kind hk hc hcell go
    · rcases hx with k | k
      · have : X.env.scope.names.lookup x = some .free := hk
        rw [k] at this; cases this
      · have : X.env.scope.names.lookup x = some .free := hk
        rw [k] at this; cases this
/-- o[i] op= e -/
def tAugS (to ti te : TE) (tget : V → V → Hp → VK → Prop) (tip : TIp) (tset : TSet) : TS := fun D σ H => to σ H fun o H1 => ti σ H1 fun i H2 => tget o i H2 fun x H3 => te σ H3 fun y H4 => tip x y H4 fun z H5 => tset o i z H5 fun H6 => D.nx σ H6
/-- o[i], by values -/
def PGet (X : Cx) (t : V → V → Hp → VK → Prop) : Prop :=
  ∀ (pins : List (Addr × Obj)) (s : Shared) (σ : St) (H : Hp) (o i : V) (ov iv : Value) (Q : VK), Inv X pins σ H s → RelV o ov → RelV i iv → t o i H Q →
    wpAny (model X.prog X.w) X.A (getItem ov iv) (EP X pins σ Q) X.xe s
theorem ps_augS {o i e : Expr} {to ti te : TE} {tget : V → V → Hp → VK → Prop} {tip : TIp} {tset : TSet} {op : Operator} {tpos : Pos} (ho : PE X o to) (hi : PE X i ti) (hg : PGet X tget) (he : PE X e te) (hp : PIp X op tip) (hs : PSet X tset)
    (ha : ∀ ov iv new, augStore i ov iv new = (do holding [new, ov, iv] (setItem ov iv new); release [new, ov, iv] []; pure .next) := by intros; rfl) : PS X (.AugAssign (.Subscript o i tpos) op e pos) (tAugS to ti te tget tip tset) := by
  intro pins s σ H D I h
  refine wpAny_AugAssign_SubscriptAny (thn (ho pins s σ H _ I h) fun ov s1 ⟨x1, H1, I1, r1, q1⟩ => ?_) ha
  refine thn (hi pins s1 σ H1 _ I1 q1) fun iv s2 ⟨x2, H2, I2, r2, q2⟩ => ?_
  refine thn (hg pins s2 σ H2 x1 x2 ov iv _ I2 r1 r2 q2) fun old s3 ⟨x3, H3, I3, r3, q3⟩ => ?_
  refine thn (he pins s3 σ H3 _ I3 q3) fun v s4 ⟨x4, H4, I4, r4, q4⟩ => ?_
  refine thn (hp pins s4 σ H4 x3 x4 old v _ I4 r3 r4 q4) fun new s5 ⟨x5, H5, I5, r5, q5⟩ => ?_
  exact thn (hs pins s5 σ H5 x1 x2 x5 ov iv new _ I5 r1 r2 r5 q5) fun _ s6 ⟨H6, I6, q6⟩ => ⟨σ, H6, I6, q6⟩
/-- ints -/
def ipI (f : Int → Int → Int) : TIp := fun x y H Q => ∃ i j, x = .int i ∧ y = .int j ∧ Q (.int (f i j)) H
theorem ip_add : PIp X .Add (ipI fun i j => i + j) := by
  intro pins s σ H x y v u Q I r1 r2 h
  obtain ⟨i, j, e1, e2, q⟩ := h
  subst e1; subst e2
  obtain ⟨t, rfl⟩ := r1
  obtain ⟨t', rfl⟩ := r2
  exact iadd_int ⟨.int _, H, I.tok _, ⟨_, rfl⟩, q⟩
theorem ip_sub : PIp X .Sub (ipI fun i j => i - j) := by
  intro pins s σ H x y v u Q I r1 r2 h
  obtain ⟨i, j, e1, e2, q⟩ := h
  subst e1; subst e2
  obtain ⟨t, rfl⟩ := r1
  obtain ⟨t', rfl⟩ := r2
  exact isub_int ⟨.int _, H, I.tok _, ⟨_, rfl⟩, q⟩
end

/-! ### while -/
section
variable {X : Cx} {pos : Pos}
/-- the invariant W with its measure -/
def tWhile (c : TT) (tb : TS) : TS := fun D σ H => ∃ W : Nat → St → Hp → Prop, (∃ m, W m σ H) ∧ ∀ m σ H, W m σ H →
  c σ H fun b H1 => if b = true then ∃ N : St → Hp → Prop, (∀ σ' H', N σ' H' → ∃ m', m' < m ∧ W m' σ' H') ∧ tb { D with nx := N, ct := N, bk := D.nx } σ H1 else D.nx σ H1
theorem ps_while {c : Expr} {body : List Stmt} {tc : TT} {tb : TS} (hp : PassesOwn (model X.prog X.w) X.A X.env X.xe) (hc : PT X c tc) (hb : PSs X body tb) : PS X (.While c body [] pos) (tWhile tc tb) := by
  intro pins s σ H D I h
  obtain ⟨W, ⟨m0, w0⟩, turn⟩ := h
  refine wpAny_While (codeAny_whileLoop (fun n s' => ∃ σ' H', Inv X pins σ' H' s' ∧ W n σ' H') ?_ m0 ⟨σ, H, I, w0⟩)
  rintro n s1 ⟨σ1, H1, I1, w1⟩
  refine wpAny_passesOwn hp (thn (hc pins s1 σ1 H1 _ I1 (turn n σ1 H1 w1)) fun b s2 ⟨H2, I2, q2⟩ => ?_)
  cases b with
  | true =>
    obtain ⟨N, hN, q2⟩ := q2
    rw [if_pos rfl]
    refine wpAny_passesOwn hp (thn (hb pins s2 σ1 H2 _ I2 q2) fun f s3 q3 => ?_)
    cases f with
    | next =>
      obtain ⟨σ3, H3, I3, n3⟩ := q3
      obtain ⟨m', hm, w3⟩ := hN σ3 H3 n3
      exact ⟨m', hm, σ3, H3, I3, w3⟩
    | cont =>
      obtain ⟨σ3, H3, I3, n3⟩ := q3
      obtain ⟨m', hm, w3⟩ := hN σ3 H3 n3
      exact ⟨m', hm, σ3, H3, I3, w3⟩
    | brk => exact q3
    | ret v => exact q3
  | false =>
    rw [if_neg Bool.false_ne_true]
    exact wpAny_execs_nil ⟨σ1, H2, I2, q2⟩
end

/-! ### what a loop or a comprehension walks -/
/-- at turn i: it yields x (the heap may grow), or it stops -/
structure It where
  go : Nat → Hp → Prop
  yld : Nat → Hp → V → Hp → Prop
  stop : Nat → Hp → Prop
/-- the iterator's own objects may turn: they are not the frame's, not pinned, younger than the entry (or a comprehension's own) -/
def FpOk (X : Cx) (pins : List (Addr × Obj)) (H : Hp) (b : Addr) : Prop :=
  H b = none ∧ b ≠ X.env.locals ∧ b ∉ X.fs ∧ (b ∈ X.ex ∨ X.s₀.heap.objs.size ≤ b) ∧ (∀ x c, X.env.cells.lookup x = some c → c ≠ b) ∧ ∀ p ∈ X.pn ++ pins, p.1 ≠ b
theorem Inv.fpOk {X : Cx} {pins : List (Addr × Obj)} {σ : St} {H H' : Hp} {s : Shared} {b : Addr} (I : Inv X pins σ H s) (hb : s.heap.objs.size ≤ b) (hn : H' b = none) : FpOk X pins H' b := by
  refine ⟨hn, Nat.ne_of_gt (Nat.lt_of_lt_of_le I.lt hb), I.nofs hb, .inr (Nat.le_trans I.sz hb), fun x c e z => ?_, fun p hp z => ?_⟩
  · obtain ⟨v, q⟩ := I.cell x c e
    exact absurd (Nat.lt_of_lt_of_le q.lt (by rw [z]; exact hb)) (Nat.lt_irrefl _)
  · exact absurd (Nat.lt_of_lt_of_le (Heap.lt_size (I.pin p hp).1) (by rw [z]; exact hb)) (Nat.lt_irrefl _)
structure Turn (P : Program) (w : World) (K : PySem.W.Frag) (tg : Expr) (J : It) (fp : List Addr) (it : Addr) (tn : Nat → Heap → Prop) : Prop where
  mem : it ∈ fp
  obj : ∀ i h, tn i h → ∀ b ∈ fp, ∃ o, h.get? b = some o ∧ ∀ v, o.data ≠ .cell v
  keep : ∀ i h h', tn i h → (∀ b ∈ fp, ∀ o, h.get? b = some o → h'.get? b = some o) → tn i h'
  item : ∀ (X : Cx), X.prog = P → X.w = w → X.K = K → X.calm = true → ∀ (i : Nat) (pins : List (Addr × Obj)) (s : Shared) (σ : St) (H : Hp) (E : Value → Shared → Prop), Inv X pins σ H s → (∀ b ∈ fp, FpOk X pins H b) → tn i s.heap → J.go i H →
    wpAny (model P w) X.A (pyNext (.ref it)) (fun r s1 => ∃ u, r = some u ∧
      wpAny (model P w) X.A (letOwnedTupleGo tg (.ref it) u) (fun _ s2 => ∃ x H', Inv X pins σ H' s2 ∧ RelV x u ∧ J.yld i H x H' ∧ tn (i + 1) s2.heap ∧ ∀ b ∈ fp, H' b = none) E s1) E s
  done : ∀ (X : Cx), X.prog = P → X.w = w → X.K = K → X.calm = true → ∀ (i : Nat) (pins : List (Addr × Obj)) (s : Shared) (σ : St) (H : Hp) (E : Value → Shared → Prop), Inv X pins σ H s → (∀ b ∈ fp, FpOk X pins H b) → tn i s.heap → J.stop i H →
    wpAny (model P w) X.A (pyNext (.ref it)) (fun r s1 => r = none ∧ Inv X pins σ H s1) E s
  self : ∀ (A : Around) (i : Nat) (s : Shared) (Q : Value → Shared → Prop) (E : Value → Shared → Prop), tn i s.heap → Q (.ref it) s → wpAny (model P w) A (pyIter (.ref it)) Q E s
abbrev TI := St → Hp → (It → Hp → Prop) → Prop
/-- an iterator has come -/
def PIE (X : Cx) (pins : List (Addr × Obj)) (σ : St) (tg : Expr) (R : It → Hp → Prop) (itv : Value) (s2 : Shared) : Prop :=
  ∃ (it : Addr) (fp : List Addr) (tn : Nat → Heap → Prop) (J : It) (H' : Hp), itv = .ref it ∧ Inv X pins σ H' s2 ∧ Turn X.prog X.w X.K tg J fp it tn ∧ tn 0 s2.heap ∧ (∀ b ∈ fp, FpOk X pins H' b) ∧ R J H'
def PI (X : Cx) (tg iter : Expr) (wi : TI) : Prop :=
  ∀ (pins : List (Addr × Obj)) (s : Shared) (σ : St) (H : Hp) (R : It → Hp → Prop), Inv X pins σ H s → wi σ H R →
    wpAny (model X.prog X.w) X.A (eval iter X.env) (fun v s1 => wpAny (model X.prog X.w) X.A (pyIter v) (PIE X pins σ tg R) X.xe s1) X.xe s

/-- the step ahead of the store is nothing for an iterator that keeps no tuple -/
theorem go_of {M : Model} {A : Around} {E : Value → Shared → Prop} {s : Shared} {tg : Expr} {it : Addr} {u : Value} {o : Obj} {n : String} {vs : Array Value} {Q : Unit → Shared → Prop} (ho : s.heap.get? it = some o) (hc : o.cls = .type n) (hd : o.data = .fields vs)
    (hn : ["enumerate", "zip", "dict_itemiterator", "dict_reverseitemiterator", "odict_iterator", "itertools.zip_longest", "itertools.pairwise"].contains n = false) (hQ : Q () s) : wpAny M A (letOwnedTupleGo tg (.ref it) u) Q E s := by
  unfold letOwnedTupleGo
  cases tg <;> first
    | exact wpAny_pure hQ
    | (cases u <;> first
        | exact wpAny_pure hQ
        | (refine wpAny_bind (wpAny_load ho ?_)
           rw [hc, hd]
           show wpAny M A (if (["enumerate", "zip", "dict_itemiterator", "dict_reverseitemiterator", "odict_iterator", "itertools.zip_longest", "itertools.pairwise"].contains n && vs[0]? == some (rawInt _)) = true then _ else _) Q E s
           rw [if_neg (by intro h; rw [hn, Bool.false_and] at h; cases h)]
           exact wpAny_pure hQ))

/-- the list at a, as it stands at each turn (a loop may append to it) -/
def Itl (K : PySem.W.Frag) (a : Addr) : It :=
  ⟨fun i H => ∃ xs x, SqL K H a xs ∧ xs[i]? = some x, fun i H x H' => H' = H ∧ ∀ xs, SqL K H a xs → xs[i]? = some x, fun i H => ∃ xs, SqL K H a xs ∧ xs.length ≤ i⟩
def Itt (K : PySem.W.Frag) (a : Addr) : It :=
  ⟨fun i H => ∃ xs x, SqT K H a xs ∧ xs[i]? = some x, fun i H x H' => H' = H ∧ ∀ xs, SqT K H a xs → xs[i]? = some x, fun i H => ∃ xs, SqT K H a xs ∧ xs.length ≤ i⟩
/-- lo, lo + 1, .. (n of them) -/
def Itr (lo : Int) (n : Nat) : It := ⟨fun i _ => i < n, fun i H x H' => H' = H ∧ x = .int (lo + i), fun i _ => n ≤ i⟩
theorem turn_list {P : Program} {w : World} {K : PySem.W.Frag} {tg : Expr} (a it : Addr) : Turn P w K tg (Itl K a) [it] it (fun i h => h.IsListIter it a i) where
  mem := by simp
  obj := fun i h st b hb => by
    have e : b = it := by simpa using hb
    subst e
    obtain ⟨o, e, c, d⟩ := st
    exact ⟨o, e, fun v z => by rw [d] at z; cases z⟩
  keep := fun i h h' st k => st.at fun o e => k it (by simp) o e
  item := by
    intro X hP hw hK hc i pins s σ H E I hf st hg
    subst hP hw hK
    obtain ⟨xs, x, hq, hx⟩ := hg
    obtain ⟨its, rv, p, hz⟩ := I.list hq
    obtain ⟨u, hu, ru⟩ := rv.get hx
    obtain ⟨f0, f1, f2, f3, f4, f5⟩ := hf it (by simp)
    refine wpAny_pyNext_list_item st p.isList (x := u) (by simpa using hu) fun h' st' sb => ?_
    have I1 : Inv X pins σ H { s with heap := h' } := I.turned (t' := s.toks) (fun b o hb e => (sb.2 b hb).trans e) f0 f1 f3 f4 f5
    obtain ⟨o, e, c, d⟩ := id st'
    exact ⟨u, rfl, go_of (s := { s with heap := h' }) e c d (by decide) ⟨x, H, I1, ru, ⟨rfl, fun ys hy => by rw [I.list_inj hy hq]; exact hx⟩, st', fun b hb => (hf b hb).1⟩⟩
  done := by
    intro X hP hw hK hc i pins s σ H E I hf st hg
    subst hP hw hK
    obtain ⟨xs, hq, hx⟩ := hg
    obtain ⟨its, rv, p, hz⟩ := I.list hq
    obtain ⟨f0, f1, f2, f3, f4, f5⟩ := hf it (by simp)
    have hl := rv.length
    exact wpAny_pyNext_list_end (I.ok.hd hc) st p.isList (by simp; omega) fun h' eb => ⟨rfl, I.turned (t' := s.toks) (fun b o hb e => eb b o hb e) f0 f1 f3 f4 f5⟩
  self := fun _ _ _ _ _ st h => wpAny_pyIter_listiter st h
theorem turn_tuple {P : Program} {w : World} {K : PySem.W.Frag} {tg : Expr} (a it : Addr) : Turn P w K tg (Itt K a) [it] it (fun i h => h.IsTupleIter it a i) where
  mem := by simp
  obj := fun i h st b hb => by
    have e : b = it := by simpa using hb
    subst e
    obtain ⟨o, e, c, d⟩ := st
    exact ⟨o, e, fun v z => by rw [d] at z; cases z⟩
  keep := fun i h h' st k => st.at fun o e => k it (by simp) o e
  item := by
    intro X hP hw hK hc i pins s σ H E I hf st hg
    subst hP hw hK
    obtain ⟨xs, x, hq, hx⟩ := hg
    obtain ⟨its, rv, p, hz⟩ := I.tuple hq
    obtain ⟨u, hu, ru⟩ := rv.get hx
    obtain ⟨f0, f1, f2, f3, f4, f5⟩ := hf it (by simp)
    refine wpAny_pyNext_tuple_item st (show s.heap.IsTuple a its.toArray from p) (x := u) (by simpa using hu) fun h' st' sb => ?_
    have I1 : Inv X pins σ H { s with heap := h' } := I.turned (t' := s.toks) (fun b o hb e => (sb.2 b hb).trans e) f0 f1 f3 f4 f5
    obtain ⟨o, e, c, d⟩ := id st'
    exact ⟨u, rfl, go_of (s := { s with heap := h' }) e c d (by decide) ⟨x, H, I1, ru, ⟨rfl, fun ys hy => by rw [I.tuple_inj hy hq]; exact hx⟩, st', fun b hb => (hf b hb).1⟩⟩
  done := by
    intro X hP hw hK hc i pins s σ H E I hf st hg
    subst hP hw hK
    obtain ⟨xs, hq, hx⟩ := hg
    obtain ⟨its, rv, p, hz⟩ := I.tuple hq
    obtain ⟨f0, f1, f2, f3, f4, f5⟩ := hf it (by simp)
    have hl := rv.length
    exact wpAny_pyNext_tuple_end (I.ok.hd hc) st (show s.heap.IsTuple a its.toArray from p) (by simp; omega) fun h' eb => ⟨rfl, I.turned (t' := s.toks) (fun b o hb e => eb b o hb e) f0 f1 f3 f4 f5⟩
  self := fun _ _ _ _ _ st h => wpAny_pyIter_tupleiter st h
theorem turn_range {P : Program} {w : World} {K : PySem.W.Frag} {tg : Expr} (it : Addr) (lo : Int) (n : Nat) : Turn P w K tg (Itr lo n) [it] it (fun i h => IsRangeIter h it (lo + (i : Nat) * 1) ((n : Int) - (i : Nat)) 1) where
  mem := by simp
  obj := fun i h st b hb => by
    have e : b = it := by simpa using hb
    subst e
    exact ⟨_, st, fun v z => by
      have z' : Data.fields _ = Data.cell v := z
      cases z'⟩
  keep := fun i h h' st k => k it (by simp) _ st
  item := by
    intro X hP hw hK hc i pins s σ H E I hf st hg
    subst hP hw hK
    obtain ⟨f0, f1, f2, f3, f4, f5⟩ := hf it (by simp)
    have W := Walks.range (prog := X.prog) (w := X.w) (I.ok.hd hc) it lo 1 n
    refine W.item i s _ _ hg st fun v h' tk hv st' kk => ?_
    obtain ⟨t, rfl⟩ := hv
    have I1 : Inv X pins σ H { s with heap := h', toks := tk } := I.turned (fun b o hb e => kk b o (by simpa using hb) e) f0 f1 f3 f4 f5
    refine ⟨_, rfl, go_of (s := { s with heap := h', toks := tk }) (n := "range_iterator") st' rfl rfl (by decide) ⟨.int (lo + i), H, I1, ⟨t, ?_⟩, ⟨rfl, rfl⟩, st', fun b hb => (hf b hb).1⟩⟩
    rw [Int.mul_one]
  done := by
    intro X hP hw hK hc i pins s σ H E I hf st hg
    subst hP hw hK
    obtain ⟨f0, f1, f2, f3, f4, f5⟩ := hf it (by simp)
    exact wpAny_pyNext_range_end (I.ok.hd hc) st (by have : n ≤ i := hg; omega) fun h' eb => ⟨rfl, I.turned (t' := s.toks) (fun b o hb e => eb b o hb e) f0 f1 f3 f4 f5⟩
  self := fun _ _ _ _ _ st h => wpAny_pyIter_rangeiter st h
end L2

namespace L2
open PySem PySem.Spec PyProof.Rows
section
variable {X : Cx} {tg : Expr}
def iList (K : PySem.W.Frag) (tl : TE) : TI := fun σ H R => tl σ H fun x H1 => ∃ a, x = .ref a ∧ (∃ xs, SqL K H1 a xs) ∧ R (Itl K a) H1
def iTup (K : PySem.W.Frag) (tl : TE) : TI := fun σ H R => tl σ H fun x H1 => ∃ a, x = .ref a ∧ (∃ xs, SqT K H1 a xs) ∧ R (Itt K a) H1
theorem pi_list {l : Expr} {tl : TE} (hl : PE X l tl) : PI X tg l (iList X.K tl) := by
  intro pins s σ H R I h
  refine thn (hl pins s σ H _ I h) fun v s1 ⟨x, H1, I1, r1, q1⟩ => ?_
  obtain ⟨a, e, ⟨xs, hq⟩, q⟩ := q1
  subst e
  cases r1
  obtain ⟨its, rv, p, hz⟩ := I1.list hq
  refine wpAny_pyIter_list p.isList ?_
  refine ⟨s1.heap.objs.size, [s1.heap.objs.size], _, _, H1, rfl, I1.kept (t' := s1.toks) fun b o e => Heap.get?_push_of_some _ e, turn_list a _, ⟨_, Heap.get?_push_size _ rfl, rfl, rfl⟩, fun b hb => ?_, q⟩
  have e : b = s1.heap.objs.size := by simpa using hb
  subst e
  exact I1.fpOk (Nat.le_refl _) (I1.hok.fresh (Nat.le_refl _))
theorem pi_tup {l : Expr} {tl : TE} (hl : PE X l tl) : PI X tg l (iTup X.K tl) := by
  intro pins s σ H R I h
  refine thn (hl pins s σ H _ I h) fun v s1 ⟨x, H1, I1, r1, q1⟩ => ?_
  obtain ⟨a, e, ⟨xs, hq⟩, q⟩ := q1
  subst e
  cases r1
  obtain ⟨its, rv, p, hz⟩ := I1.tuple hq
  refine wpAny_pyIter_tuple (show s1.heap.IsTuple a its.toArray from p) ?_
  refine ⟨s1.heap.objs.size, [s1.heap.objs.size], _, _, H1, rfl, I1.kept (t' := s1.toks) fun b o e => Heap.get?_push_of_some _ e, turn_tuple a _, ⟨_, Heap.get?_push_size _ rfl, rfl, rfl⟩, fun b hb => ?_, q⟩
  have e : b = s1.heap.objs.size := by simpa using hb
  subst e
  exact I1.fpOk (Nat.le_refl _) (I1.hok.fresh (Nat.le_refl _))
/-- a range object just made, walked -/
theorem range_it {pins : List (Addr × Obj)} {σ : St} {H : Hp} {s : Shared} {R : It → Hp → Prop} {E : Value → Shared → Prop} {lo hi : Int} {t u v : Tok} {tk : Nat} (I : Inv X pins σ H s) (h1 : -(2 ^ 62) ≤ lo) (h2 : lo < 2 ^ 62) (h3 : -(2 ^ 62) ≤ hi) (h4 : hi < 2 ^ 62)
    (q : R (Itr lo (hi - lo).toNat) H) : wpAny (model X.prog X.w) X.A (pyIter (.ref s.heap.objs.size)) (PIE X pins σ tg R) E { s with heap := s.heap.push { cls := .type "range", data := .fields #[.int lo t, .int hi u, .int 1 v] }, toks := tk } := by
  refine wpAny_pyIter_range (IsRange.new ..) (small_one h1 h2 h3 h4) ?_
  have I1 : Inv X pins σ H { s with heap := s.heap.push { cls := .type "range", data := .fields #[.int lo t, .int hi u, .int 1 v] }, toks := tk } := I.kept fun b o e => Heap.get?_push_of_some _ e
  refine ⟨(s.heap.push { cls := .type "range", data := .fields #[.int lo t, .int hi u, .int 1 v] }).objs.size, [(s.heap.push { cls := .type "range", data := .fields #[.int lo t, .int hi u, .int 1 v] }).objs.size], _, _, H, rfl,
    I1.kept (t' := tk) fun b o e => Heap.get?_push_of_some _ e, turn_range _ lo (hi - lo).toNat, ?_, fun b hb => ?_, q⟩
  · have e1 : lo + ((0 : Nat) : Int) * 1 = lo := by simp
    have e2 : (((hi - lo).toNat : Nat) : Int) - ((0 : Nat) : Int) = Builtin.Range.rangeSize lo hi 1 := by rw [rangeSize_one]; split <;> omega
    show IsRangeIter _ _ (lo + ((0 : Nat) : Int) * 1) ((((hi - lo).toNat : Nat) : Int) - ((0 : Nat) : Int)) 1
    rw [e1, e2]
    exact Heap.get?_push_size _ rfl
  · have e : b = (s.heap.push { cls := .type "range", data := .fields #[.int lo t, .int hi u, .int 1 v] }).objs.size := by simpa using hb
    subst e
    exact I1.fpOk (Nat.le_refl _) (I1.hok.fresh (Nat.le_refl _))
def iRng1 (ta : TA) : TI := fun σ H R => ta σ H fun vs H1 => ∃ j : Int, vs = [.int j] ∧ -(2 ^ 62) ≤ j ∧ j < 2 ^ 62 ∧ R (Itr 0 j.toNat) H1
def iRng2 (ta : TA) : TI := fun σ H R => ta σ H fun vs H1 => ∃ i j : Int, vs = [.int i, .int j] ∧ (-(2 ^ 62) ≤ i ∧ i < 2 ^ 62 ∧ -(2 ^ 62) ≤ j ∧ j < 2 ^ 62) ∧ R (Itr i (j - i).toNat) H1
theorem pi_range1 {a : Expr} {ta : TA} {p pos : Pos} (hg : Gl X "range") (hm : X.mg "range" = none) (ha : PA X [a] ta) (hs : starEach [a] X.env = [(false, eval a X.env)] := by rfl) : PI X tg (.Call (.Name "range" p) [a] [] pos) (iRng1 ta) := by
  intro pins s σ H R I h
  refine Call_ (ld_blt I hg hm boot_range (PyProof.Rows.callWith_type1 (thn (ha pos pins s σ H _ I h) fun us s1 ⟨vs, H1, I1, r1, q1⟩ => ?_) hs rfl))
  obtain ⟨j, e, q1, q2, q⟩ := q1
  subst e
  cases r1 with
  | cons r rr =>
    cases rr
    obtain ⟨t, rfl⟩ := r
    exact call_range_1 (range_it I1 (by omega) (by omega) q1 q2 (by simpa using q))
theorem pi_range2 {a b : Expr} {ta : TA} {p pos : Pos} (hg : Gl X "range") (hm : X.mg "range" = none) (ha : PA X [a, b] ta) (hs : starEach [a, b] X.env = [(false, eval a X.env), (false, eval b X.env)] := by rfl) (hs2 : starEach [b] X.env = [(false, eval b X.env)] := by rfl) :
    PI X tg (.Call (.Name "range" p) [a, b] [] pos) (iRng2 ta) := by
  intro pins s σ H R I h
  refine Call_ (ld_blt I hg hm boot_range (PyProof.Rows.callWith_type1 (thn (ha pos pins s σ H _ I h) fun us s1 ⟨vs, H1, I1, r1, q1⟩ => ?_) (by rw [hs, hs2]) (by rw [hs2]; rfl)))
  obtain ⟨i, j, e, ⟨q1, q2, q3, q4⟩, q⟩ := q1
  subst e
  cases r1 with
  | cons r rr =>
    cases rr with
    | cons r' rr =>
      cases rr
      obtain ⟨t, rfl⟩ := r
      obtain ⟨t', rfl⟩ := r'
      exact call_range_2 (range_it I1 q1 q2 q3 q4 q)

/-! ### for -/
/-- W: the invariant by the turn and a measure; N: what the body is to reach -/
def tFor (wi : TI) (g : TG) (tb : TS) : TS := fun D σ H => wi σ H fun J H1 => ∃ W : Nat → Nat → St → Hp → Prop, (∃ m, W 0 m σ H1) ∧ ∀ i m σ H, W i m σ H →
  (J.stop i H ∧ D.nx σ H) ∨ (J.go i H ∧ ∃ N : St → Hp → Prop, (∀ σ' H', N σ' H' → ∃ m', m' < m ∧ W (i + 1) m' σ' H') ∧ ∀ x H', J.yld i H x H' → g x σ H' fun σ2 H2 => tb { D with nx := N, ct := N, bk := D.nx } σ2 H2)
/-- the records at fp as they stand -/
def pinsAt (fp : List Addr) (h : Heap) : List (Addr × Obj) := fp.filterMap fun b => (h.get? b).map fun o => (b, o)
theorem mem_pinsAt {fp : List Addr} {h : Heap} {b : Addr} {o : Obj} (hb : b ∈ fp) (e : h.get? b = some o) : (b, o) ∈ pinsAt fp h := List.mem_filterMap.mpr ⟨b, hb, by rw [e]; rfl⟩
theorem of_pinsAt {fp : List Addr} {h : Heap} {p : Addr × Obj} (hp : p ∈ pinsAt fp h) : p.1 ∈ fp ∧ h.get? p.1 = some p.2 := by
  obtain ⟨b, hb, e⟩ := List.mem_filterMap.mp hp
  cases q : h.get? b with
  | none => rw [q] at e; cases e
  | some o =>
    rw [q] at e
    have e' : (b, o) = p := Option.some.inj e
    subst e'
    exact ⟨hb, q⟩
theorem Inv.pinned {pins : List (Addr × Obj)} {σ : St} {H : Hp} {s : Shared} {fp : List Addr} (I : Inv X pins σ H s) (hf : ∀ b ∈ fp, FpOk X pins H b) (ho : ∀ b ∈ fp, ∃ o, s.heap.get? b = some o ∧ ∀ v, o.data ≠ .cell v) : Inv X (pins ++ pinsAt fp s.heap) σ H s :=
  I.pins_of fun p hp => (List.mem_append.mp hp).elim (fun z => I.pin p (List.mem_append_right _ z)) fun z => by
    obtain ⟨hb, e⟩ := of_pinsAt z
    obtain ⟨f0, f1, f2, _⟩ := hf p.1 hb
    obtain ⟨o, e', d⟩ := ho p.1 hb
    rw [e] at e'; cases e'
    exact ⟨e, f0, f1, f2, d⟩
theorem Inv.unpinned {pins pl : List (Addr × Obj)} {σ : St} {H : Hp} {s : Shared} (I : Inv X (pins ++ pl) σ H s) : Inv X pins σ H s := I.pins_of fun p hp => I.pin p (List.mem_append_right _ (List.mem_append_left _ hp))
theorem ps_for {iter : Expr} {body : List Stmt} {wi : TI} {g : TG} {tb : TS} {pos : Pos} (hp : PassesOwn (model X.prog X.w) X.A X.env X.xe) (hc : X.calm = true) (hi : PI X tg iter wi) (hg : PG X tg g) (hb : PSs X body tb)
    (hs : ∀ x, foldedSetIterable iter X.env x = pure x := by intro _; rfl) : PS X (.For tg iter body [] pos) (tFor wi g tb) := by
  intro pins s σ H D I h
  refine wpAny_For (thn (hi pins s σ H _ I h) fun v s1 h1 => thn h1 fun itv s2 h2 => ?_) hs
  obtain ⟨it, fp, tn, J, H2, e, I2, T, st2, f2, W, ⟨m0, w0⟩, turn⟩ := h2
  subst e
  -- what stays true of the iterator's objects through the loop
  have stat : ∀ {H' : Hp}, (∀ b ∈ fp, H' b = none) → ∀ b ∈ fp, FpOk X pins H' b := fun hn b hb => ⟨hn b hb, (f2 b hb).2⟩
  refine codeAny_forLoop_any (fun n s' => ∃ i σ' H', Inv X pins σ' H' s' ∧ tn i s'.heap ∧ (∀ b ∈ fp, H' b = none) ∧ W i n σ' H') ?_ m0 ⟨0, σ, H2, I2, st2, fun b hb => (f2 b hb).1, w0⟩
  rintro n s3 ⟨i, σ3, H3, I3, st3, fr3, w3⟩
  rcases turn i n σ3 H3 w3 with ⟨stop, qn⟩ | ⟨go, N, hN, step⟩
  · refine wpAny_passesOwn hp (thn (T.done X rfl rfl rfl hc i pins s3 σ3 H3 X.xe I3 (stat fr3) st3 stop) fun r s4 ⟨hr, I4⟩ => ?_)
    subst hr
    exact wpAny_execs_nil ⟨σ3, H3, I4, qn⟩
  · refine wpAny_passesOwn hp (thn (T.item X rfl rfl rfl hc i pins s3 σ3 H3 X.xe I3 (stat fr3) st3 go) fun r s4 ⟨u, hr, h4⟩ => ?_)
    subst hr
    refine wpAny_passesOwn hp (thn h4 fun _ s5 ⟨x, H5, I5, r5, y5, st5, fr5⟩ => ?_)
    have I5' := I5.pinned (stat fr5) (T.obj _ _ st5)
    refine wpAny_passesOwn hp (thn (hg _ s5 σ3 H5 x u _ I5' r5 (step x H5 y5)) fun _ s6 ⟨σ6, H6, I6, q6⟩ => ?_)
    refine wpAny_passesOwn hp (thn (hb _ s6 σ6 H6 _ I6 q6) fun f s7 q7 => ?_)
    have again : ∀ {σ7 : St} {H7 : Hp}, Inv X (pins ++ pinsAt fp s5.heap) σ7 H7 s7 → N σ7 H7 → ∃ m, m < n ∧ ∃ i σ' H', Inv X pins σ' H' s7 ∧ tn i s7.heap ∧ (∀ b ∈ fp, H' b = none) ∧ W i m σ' H' := fun {σ7 H7} I7 n7 => by
      obtain ⟨m', hm, w7⟩ := hN σ7 H7 n7
      refine ⟨m', hm, i + 1, σ7, H7, I7.unpinned, T.keep _ _ _ st5 fun b hb o e => (I7.pin (b, o) (List.mem_append_right _ (List.mem_append_right _ (mem_pinsAt hb e)))).1, fun b hb => ?_, w7⟩
      obtain ⟨o, e, d⟩ := T.obj _ _ st5 b hb
      exact (I7.pin (b, o) (List.mem_append_right _ (List.mem_append_right _ (mem_pinsAt hb e)))).2.1
    cases f with
    | next => obtain ⟨σ7, H7, I7, n7⟩ := q7; exact again I7 n7
    | cont => obtain ⟨σ7, H7, I7, n7⟩ := q7; exact again I7 n7
    | brk => obtain ⟨σ7, H7, I7, q7⟩ := q7; exact ⟨σ7, H7, I7.unpinned, q7⟩
    | ret v => obtain ⟨x7, σ7, H7, I7, r7, q7⟩ := q7; exact ⟨x7, σ7, H7, I7.unpinned, r7, q7⟩
end

/-! ### the forms one uses -/
/-- over a list that the body leaves as it is -/
theorem for_list {K : PySem.W.Frag} {a : Addr} {xs : List V} {g : TG} {tb : TS} {D : Ends} {σ : St} {H : Hp} (Pv : Nat → St → Hp → Prop) (h0 : Pv 0 σ H) (hl : ∀ i σ H, i ≤ xs.length → Pv i σ H → SqL K H a xs)
    (hs : ∀ i x σ H, xs[i]? = some x → Pv i σ H → g x σ H fun σ2 H2 => tb { D with nx := Pv (i + 1), ct := Pv (i + 1), bk := D.nx } σ2 H2) (hd : ∀ σ H, Pv xs.length σ H → D.nx σ H) :
    ∃ W : Nat → Nat → St → Hp → Prop, (∃ m, W 0 m σ H) ∧ ∀ i m σ H, W i m σ H →
      ((Itl K a).stop i H ∧ D.nx σ H) ∨ ((Itl K a).go i H ∧ ∃ N : St → Hp → Prop, (∀ σ' H', N σ' H' → ∃ m', m' < m ∧ W (i + 1) m' σ' H') ∧ ∀ x H', (Itl K a).yld i H x H' → g x σ H' fun σ2 H2 => tb { D with nx := N, ct := N, bk := D.nx } σ2 H2) := by
  refine ⟨fun i m σ H => m = xs.length - i ∧ i ≤ xs.length ∧ Pv i σ H, ⟨xs.length, by simp, Nat.zero_le _, h0⟩, ?_⟩
  rintro i m σ H ⟨rfl, hi, p⟩
  have q := hl i σ H hi p
  by_cases hlt : i < xs.length
  · refine .inr ⟨⟨xs, xs[i], q, by simp [hlt]⟩, Pv (i + 1), fun σ' H' p' => ⟨xs.length - (i + 1), by omega, rfl, hlt, p'⟩, fun x H' y => ?_⟩
    obtain ⟨e, y⟩ := y
    subst e
    exact hs i x σ _ (y xs q) p
  · have e : i = xs.length := by omega
    subst e
    exact .inl ⟨⟨xs, q, Nat.le_refl _⟩, hd σ H p⟩
theorem for_tup {K : PySem.W.Frag} {a : Addr} {xs : List V} {g : TG} {tb : TS} {D : Ends} {σ : St} {H : Hp} (Pv : Nat → St → Hp → Prop) (h0 : Pv 0 σ H) (hl : ∀ i σ H, i ≤ xs.length → Pv i σ H → SqT K H a xs)
    (hs : ∀ i x σ H, xs[i]? = some x → Pv i σ H → g x σ H fun σ2 H2 => tb { D with nx := Pv (i + 1), ct := Pv (i + 1), bk := D.nx } σ2 H2) (hd : ∀ σ H, Pv xs.length σ H → D.nx σ H) :
    ∃ W : Nat → Nat → St → Hp → Prop, (∃ m, W 0 m σ H) ∧ ∀ i m σ H, W i m σ H →
      ((Itt K a).stop i H ∧ D.nx σ H) ∨ ((Itt K a).go i H ∧ ∃ N : St → Hp → Prop, (∀ σ' H', N σ' H' → ∃ m', m' < m ∧ W (i + 1) m' σ' H') ∧ ∀ x H', (Itt K a).yld i H x H' → g x σ H' fun σ2 H2 => tb { D with nx := N, ct := N, bk := D.nx } σ2 H2) := by
  refine ⟨fun i m σ H => m = xs.length - i ∧ i ≤ xs.length ∧ Pv i σ H, ⟨xs.length, by simp, Nat.zero_le _, h0⟩, ?_⟩
  rintro i m σ H ⟨rfl, hi, p⟩
  have q := hl i σ H hi p
  by_cases hlt : i < xs.length
  · refine .inr ⟨⟨xs, xs[i], q, by simp [hlt]⟩, Pv (i + 1), fun σ' H' p' => ⟨xs.length - (i + 1), by omega, rfl, hlt, p'⟩, fun x H' y => ?_⟩
    obtain ⟨e, y⟩ := y
    subst e
    exact hs i x σ _ (y xs q) p
  · have e : i = xs.length := by omega
    subst e
    exact .inl ⟨⟨xs, q, Nat.le_refl _⟩, hd σ H p⟩
theorem for_range {lo : Int} {n : Nat} {g : TG} {tb : TS} {D : Ends} {σ : St} {H : Hp} (Pv : Nat → St → Hp → Prop) (h0 : Pv 0 σ H)
    (hs : ∀ i σ H, i < n → Pv i σ H → g (.int (lo + i)) σ H fun σ2 H2 => tb { D with nx := Pv (i + 1), ct := Pv (i + 1), bk := D.nx } σ2 H2) (hd : ∀ σ H, Pv n σ H → D.nx σ H) :
    ∃ W : Nat → Nat → St → Hp → Prop, (∃ m, W 0 m σ H) ∧ ∀ i m σ H, W i m σ H →
      ((Itr lo n).stop i H ∧ D.nx σ H) ∨ ((Itr lo n).go i H ∧ ∃ N : St → Hp → Prop, (∀ σ' H', N σ' H' → ∃ m', m' < m ∧ W (i + 1) m' σ' H') ∧ ∀ x H', (Itr lo n).yld i H x H' → g x σ H' fun σ2 H2 => tb { D with nx := N, ct := N, bk := D.nx } σ2 H2) := by
  refine ⟨fun i m σ H => m = n - i ∧ i ≤ n ∧ Pv i σ H, ⟨n, by simp, Nat.zero_le _, h0⟩, ?_⟩
  rintro i m σ H ⟨rfl, hi, p⟩
  by_cases hlt : i < n
  · refine .inr ⟨hlt, Pv (i + 1), fun σ' H' p' => ⟨n - (i + 1), by omega, rfl, hlt, p'⟩, fun x H' y => ?_⟩
    obtain ⟨e, y⟩ := y
    subst e y
    exact hs i σ _ hlt p
  · have e : i = n := by omega
    subst e
    exact .inl ⟨Nat.le_refl _, hd σ H p⟩
/-- while, by a word and a measure of the state -/
theorem while_by {c : TT} {tb : TS} {D : Ends} {σ : St} {H : Hp} (Pv : St → Hp → Prop) (μ : St → Hp → Nat) (h0 : Pv σ H)
    (hs : ∀ σ H, Pv σ H → c σ H fun b H1 => if b = true then tb { D with nx := fun σ' H' => Pv σ' H' ∧ μ σ' H' < μ σ H, ct := fun σ' H' => Pv σ' H' ∧ μ σ' H' < μ σ H, bk := D.nx } σ H1 else D.nx σ H1)
    (mono : ∀ σ H Q Q', (∀ b H1, Q b H1 → Q' b H1) → c σ H Q → c σ H Q') : tWhile c tb D σ H := by
  refine ⟨fun m σ H => m = μ σ H ∧ Pv σ H, ⟨_, rfl, h0⟩, ?_⟩
  rintro m σ H ⟨rfl, p⟩
  refine mono σ H _ _ (fun b H1 q => ?_) (hs σ H p)
  cases b with
  | true => exact ⟨_, fun σ' H' ⟨p', l⟩ => ⟨_, l, rfl, p'⟩, q⟩
  | false => exact q
end L2

namespace L2
open PySem PySem.Spec PyProof.Rows

abbrev R2 := V → V → Hp → VK → Prop
/-- a two-place operation on values: f is binaryOp op, inplaceOp op or compareOp op -/
def OpR (X : Cx) (f : Value → Value → Sem Value) (r : R2) : Prop :=
  ∀ (pins : List (Addr × Obj)) (s : Shared) (σ : St) (H : Hp) (x y : V) (v u : Value) (Q : VK), Inv X pins σ H s → RelV x v → RelV y u → r x y H Q →
    wpAny (model X.prog X.w) X.A (f v u) (EP X pins σ Q) X.xe s
/-- a one-place operation -/
def UnR (X : Cx) (f : Value → Sem Value) (r : V → Hp → VK → Prop) : Prop :=
  ∀ (pins : List (Addr × Obj)) (s : Shared) (σ : St) (H : Hp) (x : V) (v : Value) (Q : VK), Inv X pins σ H s → RelV x v → r x H Q →
    wpAny (model X.prog X.w) X.A (f v) (EP X pins σ Q) X.xe s
/-- a call of a value that is known (a builtin, a type) with values -/
def CallR (X : Cx) (f : Value) (r : List V → Hp → VK → Prop) : Prop :=
  ∀ (pins : List (Addr × Obj)) (s : Shared) (σ : St) (H : Hp) (xs : List V) (us : List Value) (Q : VK), Inv X pins σ H s → Vals xs us → r xs H Q →
    wpAny (model X.prog X.w) X.A (call f us) (EP X pins σ Q) X.xe s
/-- a value's truth -/
def TruR (X : Cx) (r : V → Hp → (Bool → Hp → Prop) → Prop) : Prop :=
  ∀ (pins : List (Addr × Obj)) (s : Shared) (σ : St) (H : Hp) (x : V) (v : Value) (Q : Bool → Hp → Prop), Inv X pins σ H s → RelV x v → r x H Q →
    wpAny (model X.prog X.w) X.A (truthy v) (TP X pins σ Q) X.xe s

def tOp (r : R2) (ta tb : TE) : TE := fun σ H Q => ta σ H fun x H1 => tb σ H1 fun y H2 => r x y H2 Q
def tUn (r : V → Hp → VK → Prop) (ta : TE) : TE := fun σ H Q => ta σ H fun x H1 => r x H1 Q
/-- ints in, under C, and a value out -/
def rI (C : Int → Int → Prop) (g : Int → Int → V) : R2 := fun x y H Q => ∃ i j, x = .int i ∧ y = .int j ∧ C i j ∧ Q (g i j) H
def rI0 (g : Int → Int → V) : R2 := fun x y H Q => ∃ i j, x = .int i ∧ y = .int j ∧ Q (g i j) H
def rU (g : Int → V) : V → Hp → VK → Prop := fun x H Q => ∃ i, x = .int i ∧ Q (g i) H

section
variable {X : Cx} {a b c : Expr} {ta tb tc : TE} {pos : Pos}

theorem binT (ha : PE X a ta) (hb : PE X b tb) {pins : List (Addr × Obj)} {s : Shared} {σ : St} {H : Hp} {R : V → V → Hp → Prop} (I : Inv X pins σ H s)
    (h : ta σ H fun x H1 => tb σ H1 fun y H2 => R x y H2) {Q : Value → Shared → Prop} {f : Value → Value → Sem Value}
    (hf : ∀ v u s2 x y H2, Inv X pins σ H2 s2 → RelV x v → RelV y u → R x y H2 → wpAny (model X.prog X.w) X.A (f v u) Q X.xe s2) :
    wpAny (model X.prog X.w) X.A (eval a X.env) (fun v s₁ => wpAny (model X.prog X.w) X.A (eval b X.env) (fun u s₂ => wpAny (model X.prog X.w) X.A (f v u) Q X.xe s₂) X.xe s₁) X.xe s := by
  refine thn (ha pins s σ H _ I h) fun v s1 ⟨x, H1, I1, r1, q1⟩ => ?_
  refine thn (hb pins s1 σ H1 _ I1 q1) fun u s2 ⟨y, H2, I2, r2, q2⟩ => ?_
  exact hf v u s2 x y H2 I2 r1 r2 q2

theorem pe_op {op : Operator} {r : R2} (ho : OpR X (binaryOp op) r) (ha : PE X a ta) (hb : PE X b tb) : PE X (.BinOp a op b pos) (tOp r ta tb) := by
  intro pins s σ H Q I h
  exact wpAny_BinOp (binT ha hb I h fun v u s2 x y H2 I2 rx ry q => ho pins s2 σ H2 x y v u Q I2 rx ry q)
theorem pe_un {op : UnaryOp} {r : V → Hp → VK → Prop} (ho : UnR X (unaryOp op) r) (ha : PE X a ta) : PE X (.UnaryOp op a pos) (tUn r ta) := by
  intro pins s σ H Q I h
  exact UnaryOp_ (thn (ha pins s σ H _ I h) fun v s1 ⟨x, H1, I1, r1, q1⟩ => ho pins s1 σ H1 x v Q I1 r1 q1)
/-- a op= e at a name: the name's slot i -/
theorem augR {op : Operator} {r : R2} (ho : OpR X (inplaceOp op) r) {pins : List (Addr × Obj)} {s : Shared} {σ : St} {H : Hp} {x y : V} {v u : Value} {Q : VK} (I : Inv X pins σ H s)
    (rx : RelV x v) (ry : RelV y u) (q : r x y H Q) : wpAny (model X.prog X.w) X.A (inplaceOp op v u) (EP X pins σ Q) X.xe s := ho pins s σ H x y v u Q I rx ry q

/-! ### ints -/
theorem opI {f : Value → Value → Sem Value} {C : Int → Int → Prop} {g : Int → Int → Int}
    (rule : ∀ (i j : Int) (t u : Tok) (s : Shared) (Q : Value → Shared → Prop) (E : Value → Shared → Prop), C i j → Q (.int (g i j) s.toks) { s with toks := s.toks + 1 } → wpAny (model X.prog X.w) X.A (f (.int i t) (.int j u)) Q E s) :
    OpR X f (rI C fun i j => .int (g i j)) := by
  intro pins s σ H x y v u Q I rx ry h
  obtain ⟨i, j, rfl, rfl, hc, q⟩ := h
  obtain ⟨t, rfl⟩ := rx
  obtain ⟨t', rfl⟩ := ry
  exact rule i j t t' s _ _ hc ⟨.int (g i j), H, I.tok _, ⟨_, rfl⟩, q⟩
theorem opI0 {f : Value → Value → Sem Value} {g : Int → Int → Int}
    (rule : ∀ (i j : Int) (t u : Tok) (s : Shared) (Q : Value → Shared → Prop) (E : Value → Shared → Prop), Q (.int (g i j) s.toks) { s with toks := s.toks + 1 } → wpAny (model X.prog X.w) X.A (f (.int i t) (.int j u)) Q E s) :
    OpR X f (rI0 fun i j => .int (g i j)) := by
  intro pins s σ H x y v u Q I rx ry h
  obtain ⟨i, j, rfl, rfl, q⟩ := h
  obtain ⟨t, rfl⟩ := rx
  obtain ⟨t', rfl⟩ := ry
  exact rule i j t t' s _ _ ⟨.int (g i j), H, I.tok _, ⟨_, rfl⟩, q⟩
theorem opB0 {f : Value → Value → Sem Value} {g : Int → Int → Bool}
    (rule : ∀ (i j : Int) (t u : Tok) (s : Shared) (Q : Value → Shared → Prop) (E : Value → Shared → Prop), Q (.bool (g i j)) s → wpAny (model X.prog X.w) X.A (f (.int i t) (.int j u)) Q E s) :
    OpR X f (rI0 fun i j => .bl (g i j)) := by
  intro pins s σ H x y v u Q I rx ry h
  obtain ⟨i, j, rfl, rfl, q⟩ := h
  obtain ⟨t, rfl⟩ := rx
  obtain ⟨t', rfl⟩ := ry
  exact rule i j t t' s _ _ ⟨.bl (g i j), H, I, rfl, q⟩

def CDiv (i j : Int) : Prop := 0 < j ∧ j < 1073741824
def CDivN (i j : Int) : Prop := j ≠ 0 ∧ j.natAbs < 1073741824
def CPow (i j : Int) : Prop := 0 ≤ j ∧ j ≤ 1000000 ∧ i.natAbs < 2 ^ 64
def CMul (i j : Int) : Prop := (-(2 ^ 64) < i ∧ i < 2 ^ 64) ∨ (-(2 ^ 64) < j ∧ j < 2 ^ 64)
theorem CMul.ok {i j : Int} (h : CMul i j) : IntMulOk i j := by
  rcases h with ⟨h1, h2⟩ | ⟨h1, h2⟩
  · exact .of_left (intBits_le_64 h1 h2)
  · exact .of_right (intBits_le_64 h1 h2)
theorem two_pow_nn (k : Nat) : (0 : Int) ≤ 2 ^ k := by
  rw [two_pow_cast]
  exact Int.natCast_nonneg _

theorem op_add : OpR X (binaryOp .Add) (rI0 fun i j => .int (i + j)) := opI0 fun _ _ _ _ _ _ _ q => add_int q
theorem op_sub : OpR X (binaryOp .Sub) (rI0 fun i j => .int (i - j)) := opI0 fun _ _ _ _ _ _ _ q => sub_int q
theorem op_mul : OpR X (binaryOp .Mult) (rI CMul fun i j => .int (i * j)) := opI fun _ _ _ _ _ _ _ hc q => mul_int q hc.ok
/-- // by a positive divisor -/
theorem op_fdiv : OpR X (binaryOp .FloorDiv) (rI CDiv fun i j => .int (i / j)) := opI fun i j _ _ _ _ _ hc q => by
  have h1 : (0 : Int) < j := hc.1
  have h2 : j < 1073741824 := hc.2
  exact floordiv_int (by omega) (by rw [Int.fdiv_eq_ediv_of_nonneg i (by omega)]; exact q) (.inl (PyProof.noPylong_small (by omega)))
theorem op_fdivN : OpR X (binaryOp .FloorDiv) (rI CDivN fun i j => .int (i.fdiv j)) := opI fun _ _ _ _ _ _ _ hc q => floordiv_int hc.1 q (.inl (PyProof.noPylong_small hc.2))
/-- % by a positive divisor of any size -/
theorem op_mod : OpR X (binaryOp .Mod) (rI (fun _ j => 0 < j) fun i j => .int (i % j)) := opI fun i j _ _ _ _ _ hc q => by
  have h1 : (0 : Int) < j := hc
  exact mod_int' (by omega) (by rw [Int.fmod_eq_emod_of_nonneg i (by omega)]; exact q)
theorem op_modN : OpR X (binaryOp .Mod) (rI (fun _ j => j ≠ 0) fun i j => .int (i.fmod j)) := opI fun _ _ _ _ _ _ _ hc q => mod_int' hc q
theorem op_pow : OpR X (binaryOp .Pow) (rI CPow fun i j => .int (i ^ j.toNat)) := opI fun _ _ _ _ _ _ _ hc q => pow_int_small hc.1 hc.2.1 hc.2.2 q
theorem op_shl : OpR X (binaryOp .LShift) (rI CPow fun i j => .int (i * 2 ^ j.toNat)) := opI fun _ _ _ _ _ _ _ hc q => lshift_int_small hc.1 hc.2.1 hc.2.2 q
theorem op_shr : OpR X (binaryOp .RShift) (rI (fun _ j => 0 ≤ j) fun i j => .int (i / 2 ^ j.toNat)) := opI fun i j _ _ _ _ _ hc q =>
  rshift_int hc (by rw [Int.fdiv_eq_ediv_of_nonneg i (two_pow_nn _)]; exact q)
theorem op_and : OpR X (binaryOp .BitAnd) (rI0 fun i j => .int (Builtin.bitAnd i j)) := opI0 fun _ _ _ _ _ _ _ q => and_int q
theorem op_or : OpR X (binaryOp .BitOr) (rI0 fun i j => .int (Builtin.bitOr i j)) := opI0 fun _ _ _ _ _ _ _ q => or_int q
theorem op_xor : OpR X (binaryOp .BitXor) (rI0 fun i j => .int (Builtin.bitXor i j)) := opI0 fun _ _ _ _ _ _ _ q => xor_int q

theorem iop_add : OpR X (inplaceOp .Add) (rI0 fun i j => .int (i + j)) := opI0 fun _ _ _ _ _ _ _ q => iadd_int q
theorem iop_sub : OpR X (inplaceOp .Sub) (rI0 fun i j => .int (i - j)) := opI0 fun _ _ _ _ _ _ _ q => isub_int q
theorem iop_mul : OpR X (inplaceOp .Mult) (rI CMul fun i j => .int (i * j)) := opI fun _ _ _ _ _ _ _ hc q => imul_int q hc.ok
theorem iop_fdiv : OpR X (inplaceOp .FloorDiv) (rI CDiv fun i j => .int (i / j)) := opI fun i j _ _ _ _ _ hc q => by
  have h1 : (0 : Int) < j := hc.1
  have h2 : j < 1073741824 := hc.2
  exact ifloordiv_int (by omega) (by rw [Int.fdiv_eq_ediv_of_nonneg i (by omega)]; exact q) (.inl (PyProof.noPylong_small (by omega)))
theorem iop_mod : OpR X (inplaceOp .Mod) (rI (fun _ j => 0 < j) fun i j => .int (i % j)) := opI fun i j _ _ _ _ _ hc q => by
  have h1 : (0 : Int) < j := hc
  exact imod_int (by omega) (by rw [Int.fmod_eq_emod_of_nonneg i (by omega)]; exact q)
theorem iop_shl : OpR X (inplaceOp .LShift) (rI CPow fun i j => .int (i * 2 ^ j.toNat)) := opI fun _ _ _ _ _ _ _ hc q => ilshift_int_small hc.1 hc.2.1 hc.2.2 q
theorem iop_shr : OpR X (inplaceOp .RShift) (rI (fun _ j => 0 ≤ j) fun i j => .int (i / 2 ^ j.toNat)) := opI fun i j _ _ _ _ _ hc q =>
  irshift_int hc (by rw [Int.fdiv_eq_ediv_of_nonneg i (two_pow_nn _)]; exact q)
theorem iop_and : OpR X (inplaceOp .BitAnd) (rI0 fun i j => .int (Builtin.bitAnd i j)) := opI0 fun _ _ _ _ _ _ _ q => iand_int q
theorem iop_or : OpR X (inplaceOp .BitOr) (rI0 fun i j => .int (Builtin.bitOr i j)) := opI0 fun _ _ _ _ _ _ _ q => ior_int q
theorem iop_xor : OpR X (inplaceOp .BitXor) (rI0 fun i j => .int (Builtin.bitXor i j)) := opI0 fun _ _ _ _ _ _ _ q => ixor_int q

theorem unI {f : Value → Sem Value} {g : Int → Int}
    (rule : ∀ (i : Int) (t : Tok) (s : Shared) (Q : Value → Shared → Prop) (E : Value → Shared → Prop), Q (.int (g i) s.toks) { s with toks := s.toks + 1 } → wpAny (model X.prog X.w) X.A (f (.int i t)) Q E s) :
    UnR X f (rU fun i => .int (g i)) := by
  intro pins s σ H x v Q I rx h
  obtain ⟨i, rfl, q⟩ := h
  obtain ⟨t, rfl⟩ := rx
  exact rule i t s _ _ ⟨.int (g i), H, I.tok _, ⟨_, rfl⟩, q⟩
theorem un_neg : UnR X (unaryOp .USub) (rU fun i => .int (-i)) := unI fun _ _ _ _ _ q => neg_int q
theorem un_inv : UnR X (unaryOp .Invert) (rU fun i => .int (Builtin.bitNot i)) := unI fun _ _ _ _ _ q => invert_int q

/-! ### bools among ints: n += (a < b) -/
theorem op_add_ib : OpR X (binaryOp .Add) (fun x y H Q => ∃ i k, x = .int i ∧ y = .bl k ∧ Q (.int (i + b2i k)) H) := by
  intro pins s σ H x y v u Q I rx ry h
  obtain ⟨i, k, rfl, rfl, q⟩ := h
  obtain ⟨t, rfl⟩ := rx
  cases ry
  exact add_int_bool ⟨.int (i + b2i k), H, I.tok _, ⟨_, rfl⟩, q⟩
end

/-! ### comparisons -/
/-- the scalars that == tells apart as data does -/
def scal : V → V → Bool
  | .non, .non => true | .non, .int _ => true | .int _, .non => true | .non, .bl _ => true | .bl _, .non => true | .non, .str _ => true | .str _, .non => true
  | .int _, .int _ => true | .bl _, .bl _ => true | .str _, .str _ => true | .byt _, .byt _ => true
  | .int _, .str _ => true | .str _, .int _ => true | .bl _, .str _ => true | .str _, .bl _ => true
  | _, _ => false
def rEq : R2 := fun x y H Q => scal x y = true ∧ Q (.bl (decide (x = y))) H
def rNe : R2 := fun x y H Q => scal x y = true ∧ Q (.bl (!decide (x = y))) H

theorem dec_int {i j : Int} : decide (V.int i = V.int j) = (i == j) := by
  rw [Bool.eq_iff_iff]
  simp
theorem dec_bl {i j : Bool} : decide (V.bl i = V.bl j) = (i == j) := by
  rw [Bool.eq_iff_iff]
  simp
theorem dec_str {i j : Str} : decide (V.str i = V.str j) = (i == j) := by
  rw [Bool.eq_iff_iff]
  simp
theorem dec_byt {i j : Array UInt8} : decide (V.byt i = V.byt j) = (i.toList == j.toList) := by
  rw [Bool.eq_iff_iff]
  cases i
  cases j
  simp

section
variable {X : Cx} {a b c : Expr} {ta tb tc : TE} {pos : Pos}
theorem fin_bl {pins : List (Addr × Obj)} {σ : St} {H : Hp} {s : Shared} {Q : VK} {k k' : Bool} (I : Inv X pins σ H s) (q : Q (.bl k) H) (e : k = k') : EP X pins σ Q (.bool k') s := by
  subst e
  exact ⟨.bl k, H, I, rfl, q⟩
theorem op_eq : OpR X (compareOp .Eq) rEq := by
  intro pins s σ H x y v u Q I rx ry h
  obtain ⟨hs, q⟩ := h
  cases x with
  | non =>
    cases rx
    cases y with
    | non => cases ry; exact PySem.EqNone.eq_none_none (fin_bl I q (by simp))
    | bl j => cases ry; exact PySem.EqNone.eq_none_bool (fin_bl I q (by simp))
    | int j => obtain ⟨t', rfl⟩ := ry; exact PySem.EqNone.eq_none_int (fin_bl I q (by simp))
    | str j => obtain ⟨t', rfl⟩ := ry; exact PySem.EqNone.eq_none_str (fin_bl I q (by simp))
    | _ => exact absurd (show false = true from hs) Bool.false_ne_true
  | bl i =>
    cases rx
    cases y with
    | non => cases ry; exact PySem.EqNone.eq_bool_none (fin_bl I q (by simp))
    | bl j => cases ry; exact eq_bool (fin_bl I q dec_bl)
    | str j => obtain ⟨t', rfl⟩ := ry; exact PySem.EqMixed.eq_bool_str (fin_bl I q (by simp))
    | _ => exact absurd (show false = true from hs) Bool.false_ne_true
  | int i =>
    obtain ⟨t, rfl⟩ := rx
    cases y with
    | non => cases ry; exact PySem.EqNone.eq_int_none (fin_bl I q (by simp))
    | int j => obtain ⟨t', rfl⟩ := ry; exact eq_int (fin_bl I q dec_int)
    | str j => obtain ⟨t', rfl⟩ := ry; exact PySem.EqMixed.eq_int_str (fin_bl I q (by simp))
    | _ => exact absurd (show false = true from hs) Bool.false_ne_true
  | str i =>
    obtain ⟨t, rfl⟩ := rx
    cases y with
    | non => cases ry; exact PySem.EqNone.eq_str_none (fin_bl I q (by simp))
    | bl j => cases ry; exact PySem.EqMixed.eq_str_bool (fin_bl I q (by simp))
    | int j => obtain ⟨t', rfl⟩ := ry; exact PySem.EqMixed.eq_str_int (fin_bl I q (by simp))
    | str j => obtain ⟨t', rfl⟩ := ry; exact eq_str (fin_bl I q dec_str)
    | _ => exact absurd (show false = true from hs) Bool.false_ne_true
  | byt i =>
    obtain ⟨t, rfl⟩ := rx
    cases y with
    | byt j => obtain ⟨t', rfl⟩ := ry; exact PySem.W.eq_bytes (fin_bl I q dec_byt)
    | _ => exact absurd (show false = true from hs) Bool.false_ne_true
  | _ => cases y <;> exact absurd (show false = true from hs) Bool.false_ne_true
theorem op_ne : OpR X (compareOp .NotEq) rNe := by
  intro pins s σ H x y v u Q I rx ry h
  obtain ⟨hs, q⟩ := h
  cases x with
  | non =>
    cases rx
    cases y with
    | non => cases ry; exact PySem.EqNone.ne_none_none (fin_bl I q (by simp))
    | bl j => cases ry; exact PySem.EqNone.ne_none_bool (fin_bl I q (by simp))
    | int j => obtain ⟨t', rfl⟩ := ry; exact PySem.EqNone.ne_none_int (fin_bl I q (by simp))
    | str j => obtain ⟨t', rfl⟩ := ry; exact PySem.EqNone.ne_none_str (fin_bl I q (by simp))
    | _ => exact absurd (show false = true from hs) Bool.false_ne_true
  | bl i =>
    cases rx
    cases y with
    | non => cases ry; exact PySem.EqNone.ne_bool_none (fin_bl I q (by simp))
    | bl j => cases ry; exact ne_bool (fin_bl I q (congrArg not dec_bl))
    | str j => obtain ⟨t', rfl⟩ := ry; exact PySem.EqMixed.ne_bool_str (fin_bl I q (by simp))
    | _ => exact absurd (show false = true from hs) Bool.false_ne_true
  | int i =>
    obtain ⟨t, rfl⟩ := rx
    cases y with
    | non => cases ry; exact PySem.EqNone.ne_int_none (fin_bl I q (by simp))
    | int j => obtain ⟨t', rfl⟩ := ry; exact ne_int (fin_bl I q (congrArg not dec_int))
    | str j => obtain ⟨t', rfl⟩ := ry; exact PySem.EqMixed.ne_int_str (fin_bl I q (by simp))
    | _ => exact absurd (show false = true from hs) Bool.false_ne_true
  | str i =>
    obtain ⟨t, rfl⟩ := rx
    cases y with
    | non => cases ry; exact PySem.EqNone.ne_str_none (fin_bl I q (by simp))
    | bl j => cases ry; exact PySem.EqMixed.ne_str_bool (fin_bl I q (by simp))
    | int j => obtain ⟨t', rfl⟩ := ry; exact PySem.EqMixed.ne_str_int (fin_bl I q (by simp))
    | str j => obtain ⟨t', rfl⟩ := ry; exact ne_str (fin_bl I q (congrArg not dec_str))
    | _ => exact absurd (show false = true from hs) Bool.false_ne_true
  | byt i =>
    obtain ⟨t, rfl⟩ := rx
    cases y with
    | byt j => obtain ⟨t', rfl⟩ := ry; exact PySem.W.ne_bytes (fin_bl I q (congrArg not dec_byt))
    | _ => exact absurd (show false = true from hs) Bool.false_ne_true
  | _ => cases y <;> exact absurd (show false = true from hs) Bool.false_ne_true

theorem op_lt : OpR X (compareOp .Lt) (rI0 fun i j => .bl (decide (i < j))) := opB0 fun _ _ _ _ _ _ _ q => lt_int q
theorem op_le : OpR X (compareOp .LtE) (rI0 fun i j => .bl (decide (i ≤ j))) := opB0 fun _ _ _ _ _ _ _ q => le_int q
theorem op_gt : OpR X (compareOp .Gt) (rI0 fun i j => .bl (decide (j < i))) := opB0 fun _ _ _ _ _ _ _ q => gt_int q
theorem op_ge : OpR X (compareOp .GtE) (rI0 fun i j => .bl (decide (j ≤ i))) := opB0 fun _ _ _ _ _ _ _ q => ge_int q
theorem op_lt_str : OpR X (compareOp .Lt) (fun x y H Q => ∃ i j, x = .str i ∧ y = .str j ∧ Q (.bl (decide (i.cps.toList < j.cps.toList))) H) := by
  intro pins s σ H x y v u Q I rx ry h
  obtain ⟨i, j, rfl, rfl, q⟩ := h
  obtain ⟨t, rfl⟩ := rx
  obtain ⟨t', rfl⟩ := ry
  exact lt_str (fin_bl I q rfl)
/-- the one string within the other -/
theorem op_in_str : OpR X (compareOp .In) (fun x y H Q => ∃ i j, x = .str i ∧ y = .str j ∧ Q (.bl (!(Builtin.Str.occurrences j i 0 j.length 1).isEmpty)) H) := by
  intro pins s σ H x y v u Q I rx ry h
  obtain ⟨i, j, rfl, rfl, q⟩ := h
  obtain ⟨t, rfl⟩ := rx
  obtain ⟨t', rfl⟩ := ry
  exact in_str (fin_bl I q rfl)

/-- is None, is not None: the right side a value none -/
theorem op_isN : OpR X (compareOp .Is) (fun x y H Q => y = .non ∧ Q (.bl (decide (x = .non))) H) := by
  intro pins s σ H x y v u Q I rx ry h
  obtain ⟨rfl, q⟩ := h
  cases ry
  refine is_none_gen (fin_bl I q ?_)
  cases x <;> first
    | (cases rx; rfl)
    | (obtain ⟨t, rfl⟩ := rx; rfl)
theorem op_notN : OpR X (compareOp .IsNot) (fun x y H Q => y = .non ∧ Q (.bl (!decide (x = .non))) H) := by
  intro pins s σ H x y v u Q I rx ry h
  obtain ⟨rfl, q⟩ := h
  cases ry
  refine isnot_none_gen (fin_bl I q ?_)
  cases x <;> first
    | (cases rx; rfl)
    | (obtain ⟨t, rfl⟩ := rx; rfl)

theorem op_notin_str : OpR X (compareOp .NotIn) (fun x y H Q => ∃ i j, x = .str i ∧ y = .str j ∧ Q (.bl (!(!(Builtin.Str.occurrences j i 0 j.length 1).isEmpty))) H) := by
  intro pins s σ H x y v u Q I rx ry h
  obtain ⟨i, j, rfl, rfl, q⟩ := h
  obtain ⟨t, rfl⟩ := rx
  obtain ⟨t', rfl⟩ := ry
  exact notIn_str (fin_bl I q rfl)
/-- is, is not of two objects that are tracked lists or instances -/
def isObj : HO → Bool
  | .lst _ => true
  | .ins _ _ _ => true
  | _ => false
theorem obj_there {pins : List (Addr × Obj)} {s : Shared} {σ : St} {H : Hp} {a : Addr} {o : HO} (I : Inv X pins σ H s) (h : H a = some o) (p : isObj o = true) : ∃ ob, s.heap.get? a = some ob ∧ ob.cls ≠ .type "tuple" := by
  cases o with
  | lst xs =>
    obtain ⟨_, its, n, _, e⟩ : xs.length ≤ sizeLine ∧ ∃ (its : List Value) (n : Nat), Vals xs its ∧ s.heap.get? a = some { cls := .type "list", data := .seq its.toArray n } := I.hok a _ h
    exact ⟨_, e, (by show Value.type "list" ≠ .type "tuple"; decide +kernel)⟩
  | ins C dx fs =>
    have x := I.hok a _ h
    obtain ⟨_, _, _, e, _⟩ := x
    exact ⟨_, e, (by show Value.ref C ≠ .type "tuple"; exact fun z => by cases z)⟩
  | _ => exact absurd (show false = true from p) Bool.false_ne_true
theorem op_is_ref : OpR X (compareOp .Is) (fun x y H Q => ∃ a b oa ob, x = .ref a ∧ y = .ref b ∧ H a = some oa ∧ isObj oa = true ∧ H b = some ob ∧ isObj ob = true ∧ Q (.bl (decide (a = b))) H) := by
  intro pins s σ H x y v u Q I rx ry h
  obtain ⟨a, b, oa, ob, rfl, rfl, ha, pa, hb, pb, q⟩ := h
  cases rx
  cases ry
  obtain ⟨o1, e1, n1⟩ := obj_there I ha pa
  obtain ⟨o2, e2, _⟩ := obj_there I hb pb
  by_cases z : a = b
  · subst z
    exact wpAny_is_ref_self (fin_bl I q (by simp))
  · exact wpAny_is_ref_other z e1 e2 n1 (fin_bl I q (by simp [z]))
theorem op_isnot_ref : OpR X (compareOp .IsNot) (fun x y H Q => ∃ a b oa ob, x = .ref a ∧ y = .ref b ∧ H a = some oa ∧ isObj oa = true ∧ H b = some ob ∧ isObj ob = true ∧ Q (.bl (!decide (a = b))) H) := by
  intro pins s σ H x y v u Q I rx ry h
  obtain ⟨a, b, oa, ob, rfl, rfl, ha, pa, hb, pb, q⟩ := h
  cases rx
  cases ry
  obtain ⟨o1, e1, n1⟩ := obj_there I ha pa
  obtain ⟨o2, e2, _⟩ := obj_there I hb pb
  by_cases z : a = b
  · subst z
    exact wpAny_isNot_ref_self (fin_bl I q (by simp))
  · exact wpAny_isNot_ref_other z e1 e2 n1 (fin_bl I q (by simp [z]))

/-- two rules for one operation: by cases -/
theorem OpR.or {f : Value → Value → Sem Value} {r r' : R2} (h : OpR X f r) (h' : OpR X f r') : OpR X f (fun x y H Q => r x y H Q ∨ r' x y H Q) := by
  intro pins s σ H x y v u Q I rx ry q
  rcases q with q | q
  · exact h pins s σ H x y v u Q I rx ry q
  · exact h' pins s σ H x y v u Q I rx ry q

theorem nomark (b : Expr) {op : CmpOp} (h : op ≠ .In := by decide) (h2 : op ≠ .NotIn := by decide) : behindInMarks op b = false := by
  have e1 : (op == CmpOp.In) = false := by cases op <;> first | rfl | exact absurd rfl h
  have e2 : (op == CmpOp.NotIn) = false := by cases op <;> first | rfl | exact absurd rfl h2
  cases b <;> simp [behindInMarks, e1, e2]
/-- a comparison as a value; hm: nomark b, or (for in, not in) by with_unfolding_all rfl -/
theorem pe_cmpR {op : CmpOp} {r : R2} (ho : OpR X (compareOp op) r) (ha : PE X a ta) (hb : PE X b tb) (hm : behindInMarks op b = false) : PE X (.Compare a [op] [b] pos) (tOp r ta tb) := by
  intro pins s σ H Q I h
  exact wpAny_Compare1 (binT ha hb I h fun v u s2 x y H2 I2 rx ry q => ho pins s2 σ H2 x y v u Q I2 rx ry q) hm
/-- a reading of a value as a test -/
def tTest (t : TE) : TT := fun σ H Q => t σ H fun x H' => ∃ k, x = .bl k ∧ Q k H'
theorem pt_cmpR {op : CmpOp} {r : R2} (ho : OpR X (compareOp op) r) (ha : PE X a ta) (hb : PE X b tb) (hm : behindInMarks op b = false) : PT X (.Compare a [op] [b] pos) (tTest (tOp r ta tb)) := by
  intro pins s σ H Q I h
  refine wpAny_isTrue_Compare1 (thn (ha pins s σ H _ I h) fun v s1 ⟨x, H1, I1, r1, q1⟩ => thn (hb pins s1 σ H1 _ I1 q1) fun u s2 ⟨y, H2, I2, r2, q2⟩ =>
    thn (ho pins s2 σ H2 x y v u _ I2 r1 r2 q2) fun c s3 ⟨z, H3, I3, r3, k, e, q3⟩ => ?_) hm
  subst e
  cases r3
  exact wpAny_truthy_bool ⟨H3, I3, q3⟩
/-- a op1 b op2 c -/
def tChain (r r' : R2) (ta tb tc : TE) : TE := fun σ H Q => ta σ H fun x H1 => tb σ H1 fun y H2 => r x y H2 fun z H3 => ∃ k, z = .bl k ∧
  (if k = true then tc σ H3 fun w' H4 => r' y w' H4 Q else Q (.bl false) H3)
theorem pe_chain {op op' : CmpOp} {r r' : R2} (ho : OpR X (compareOp op) r) (ho' : OpR X (compareOp op') r') (ha : PE X a ta) (hb : PE X b tb) (hc : PE X c tc)
    (hm : lastMarks [op, op'] [b, c] = false := by with_unfolding_all rfl) : PE X (.Compare a [op, op'] [b, c] pos) (tChain r r' ta tb tc) := by
  intro pins s σ H Q I h
  refine Compare_chain (thn (ha pins s σ H _ I h) fun v s1 ⟨x, H1, I1, r1, q1⟩ => chain_link (thn (hb pins s1 σ H1 _ I1 q1) fun u s2 ⟨y, H2, I2, r2, q2⟩ =>
    thn (ho pins s2 σ H2 x y v u _ I2 r1 r2 q2) fun d s3 ⟨z, H3, I3, r3, k, e, q3⟩ => ?_)) hm
  subst e
  cases r3
  refine wpAny_truthy_bool ?_
  cases k with
  | false => exact ite_ff ⟨.bl false, H3, I3, rfl, q3⟩
  | true => exact ite_tt (chain_last (thn (hc pins s3 σ H3 _ I3 q3) fun w' s4 ⟨z', H4, I4, r4, q4⟩ => ho' pins s4 σ H4 y z' u w' Q I4 r2 r4 q4))
theorem pt_chain {op op' : CmpOp} {r r' : R2} (ho : OpR X (compareOp op) r) (ho' : OpR X (compareOp op') r') (ha : PE X a ta) (hb : PE X b tb) (hc : PE X c tc)
    (hm : lastMarks [op, op'] [b, c] = false := by with_unfolding_all rfl) : PT X (.Compare a [op, op'] [b, c] pos) (tTest (tChain r r' ta tb tc)) := by
  intro pins s σ H Q I h
  refine isTrue_chain (thn (ha pins s σ H _ I h) fun v s1 ⟨x, H1, I1, r1, q1⟩ => test_link (thn (hb pins s1 σ H1 _ I1 q1) fun u s2 ⟨y, H2, I2, r2, q2⟩ =>
    thn (ho pins s2 σ H2 x y v u _ I2 r1 r2 q2) fun d s3 ⟨z, H3, I3, r3, k, e, q3⟩ => ?_)) hm
  subst e
  cases r3
  refine wpAny_truthy_bool ?_
  cases k with
  | false =>
    obtain ⟨k', e', q'⟩ := q3
    cases e'
    exact ite_ff ⟨H3, I3, q'⟩
  | true =>
    refine ite_tt (test_last (thn (hc pins s3 σ H3 _ I3 q3) fun w' s4 ⟨z', H4, I4, r4, q4⟩ => thn (ho' pins s4 σ H4 y z' u w' _ I4 r2 r4 q4) fun d' s5 ⟨z2, H5, I5, r5, k2, e2, q5⟩ => ?_))
    subst e2
    cases r5
    exact wpAny_truthy_bool ⟨H5, I5, q5⟩

/-! ### truth -/
/-- a value's truth by the abstract heap -/
def TruV (K : PySem.W.Frag) (x : V) (H : Hp) (k : Bool) : Prop :=
  match x with
  | .non => k = false
  | .bl b => k = b
  | .int i => k = (i != 0)
  | .str y => y.length ≤ sizeLine ∧ k = ((y.length : Int) != 0)
  | .byt y => y.size ≤ sizeLine ∧ k = ((y.size : Int) != 0)
  | .ref p => (∃ xs, SqL K H p xs ∧ k = !xs.isEmpty) ∨ (∃ xs, SqT K H p xs ∧ k = !xs.isEmpty) ∨ ∃ kvs, H p = some (.dK kvs) ∧ k = !kvs.isEmpty
  | _ => False
theorem isEmpty_kv {κ : Type} {kvs : List (κ × V)} {vs : List (κ × Value)} (r : KV kvs vs) : (!vs.isEmpty) = !kvs.isEmpty := by
  cases r <;> rfl
theorem isEmpty_of {xs : List V} {its : List Value} (r : Vals xs its) : (!its.toArray.isEmpty) = !xs.isEmpty := by
  cases r <;> simp
theorem line63 : (sizeLine : Nat) < 2 ^ 63 := by rw [sizeLine_eq]; decide
theorem tru_ok : TruR X (fun x H Q => ∃ k, TruV X.K x H k ∧ Q k H) := by
  intro pins s σ H x v Q I rx h
  obtain ⟨k, e, q⟩ := h
  have hl := line63
  have hs : sizeLine = 16777216 := sizeLine_eq
  cases x with
  | non =>
    cases rx
    have e' : k = false := e
    subst e'
    exact truthy_none ⟨H, I, q⟩
  | bl b =>
    cases rx
    have e' : k = b := e
    subst e'
    exact wpAny_truthy_bool ⟨H, I, q⟩
  | int i =>
    obtain ⟨t, rfl⟩ := rx
    have e' : k = (i != 0) := e
    subst e'
    exact PySem.P.truthy_int ⟨H, I, q⟩
  | str y =>
    obtain ⟨t, rfl⟩ := rx
    obtain ⟨hy, e'⟩ : y.length ≤ sizeLine ∧ k = ((y.length : Int) != 0) := e
    subst e'
    exact PySem.P.truthy_str (by omega) ⟨H, I.tok _, q⟩
  | byt y =>
    obtain ⟨t, rfl⟩ := rx
    obtain ⟨hy, e'⟩ : y.size ≤ sizeLine ∧ k = ((y.size : Int) != 0) := e
    subst e'
    exact PySem.W.truthy_bytes (by omega) ⟨H, I.tok _, q⟩
  | ref p =>
    cases rx
    have e' : (∃ xs, SqL X.K H p xs ∧ k = !xs.isEmpty) ∨ (∃ xs, SqT X.K H p xs ∧ k = !xs.isEmpty) ∨ ∃ kvs, H p = some (.dK kvs) ∧ k = !kvs.isEmpty := e
    rcases e' with ⟨xs, hx, e'⟩ | ⟨xs, hx, e'⟩ | ⟨kvs, hx, e'⟩
    · subst e'
      obtain ⟨its, r, pl, hz⟩ := I.list hx
      have hlen := r.length
      exact wpAny_truthy_list pl.isList (by simp only [List.size_toArray]; omega) ⟨H, I.tok _, by rw [isEmpty_of r]; exact q⟩
    · subst e'
      obtain ⟨its, r, pl, hz⟩ := I.tuple hx
      have hlen := r.length
      exact truthy_tuple pl (by simp only [List.size_toArray]; omega) ⟨H, I.tok _, by rw [isEmpty_of r]; exact q⟩
    · subst e'
      obtain ⟨hz, hS, vs, r, m⟩ : kvs.length ≤ sizeLine ∧ (p == sysModules) = false ∧ ∃ vs, KV kvs vs ∧ s.heap.DictOf (mixKind X.prog X.w) p vs := I.hok p _ hx
      have hlen : kvs.length = vs.length := Paired.length r
      exact wpAny_truthy_dict hS m (by omega) ⟨H, I.tok _, by rw [isEmpty_kv r]; exact q⟩
  | _ => exact (show False from e).elim
/-- any expression whose test is its value's truth (a name, a call, a subscript, a field ..: he by fun _ => rfl) -/
theorem pt_truth (ha : PE X a ta) (he : ∀ whole, isTrue a X.env whole = (do let v ← whole; standAt a.pos; holding [v] (truthy v))) :
    PT X a (fun σ H Q => ta σ H fun x H' => ∃ k, TruV X.K x H' k ∧ Q k H') := by
  intro pins s σ H Q I h
  exact isTrue_plain (thn (ha pins s σ H _ I h) fun v s1 ⟨x, H1, I1, r1, q1⟩ => tru_ok pins s1 σ H1 x v Q I1 r1 q1) (he _)

/-! ### strs and bytes -/
theorem pe_byt {x : List UInt8} {k : Nat} : PE X (.Constant (.bytes x) k pos) (fun _ H Q => Q (.byt x.toArray) H) := fun _ _ _ H _ I h => PySem.W.Constant_bytes ⟨.byt x.toArray, H, I.tok _, ⟨_, rfl⟩, h⟩
theorem op_add_str : OpR X (binaryOp .Add) (fun x y H Q => ∃ i j, x = .str i ∧ y = .str j ∧ i.length + j.length ≤ sizeLine ∧ Q (.str (i ++ j)) H) := by
  intro pins s σ H x y v u Q I rx ry h
  obtain ⟨i, j, rfl, rfl, hz, q⟩ := h
  obtain ⟨t, rfl⟩ := rx
  obtain ⟨t', rfl⟩ := ry
  exact add_str (fun t' tk => ⟨.str (i ++ j), H, I.tok _, ⟨_, rfl⟩, q⟩) hz
theorem iop_add_str : OpR X (inplaceOp .Add) (fun x y H Q => ∃ i j, x = .str i ∧ y = .str j ∧ i.length + j.length ≤ sizeLine ∧ Q (.str (i ++ j)) H) := by
  intro pins s σ H x y v u Q I rx ry h
  obtain ⟨i, j, rfl, rfl, hz, q⟩ := h
  obtain ⟨t, rfl⟩ := rx
  obtain ⟨t', rfl⟩ := ry
  exact iadd_str (fun t' tk => ⟨.str (i ++ j), H, I.tok _, ⟨_, rfl⟩, q⟩) hz
theorem op_add_byt : OpR X (binaryOp .Add) (fun x y H Q => ∃ i j, x = .byt i ∧ y = .byt j ∧ i.size + j.size ≤ 16777216 ∧ Q (.byt (i ++ j)) H) := by
  intro pins s σ H x y v u Q I rx ry h
  obtain ⟨i, j, rfl, rfl, hz, q⟩ := h
  obtain ⟨t, rfl⟩ := rx
  obtain ⟨t', rfl⟩ := ry
  exact PySem.W.KBy.add_bytes hz (fun t' tk => ⟨.byt (i ++ j), H, I.tok _, ⟨_, rfl⟩, q⟩)

def PlainIxT (b : Expr) : Prop := ∀ o i, subscripted b false o i = operate [o, i] (getItem o i)
/-- s[i], 0 ≤ i < len -/
theorem pe_item_str (ha : PE X a ta) (hb : PE X b tb) (hs : PlainIxT b) :
    PE X (.Subscript a b pos) (tOp (fun x y H Q => ∃ z i c, x = .str z ∧ y = .int i ∧ 0 ≤ i ∧ i < 2 ^ 63 ∧ i < z.length ∧ z.cps[i.toNat]? = some c ∧ Q (.str ⟨#[c]⟩) H) ta tb) := by
  intro pins s σ H Q I h
  refine Subscript_ (binT ha hb I h fun v u s2 x y H2 I2 rx ry q => ?_)
  obtain ⟨z, i, c, rfl, rfl, h0, h63, h1, hc, q⟩ := q
  obtain ⟨t, rfl⟩ := rx
  obtain ⟨t', rfl⟩ := ry
  have e : seqIndex? i z.length = some i.toNat := PySem.StrLaws.seqIndex_nonneg h0 h1
  exact tail_any (typeIs_str s2 z t) slot_str_getitem.lookup (getItem_str (c := c) (by
    have e1 : decide (i < -(2 ^ 63 : Int)) = false := decide_eq_false (by omega)
    have e2 : decide (i ≥ 2 ^ 63) = false := decide_eq_false (by omega)
    rw [e1, e2] <;> rfl) (by rw [e]; exact hc) ⟨.str ⟨#[c]⟩, H2, I2.tok _, ⟨_, rfl⟩, q⟩) (hs _ _)
/-- b[i], 0 ≤ i < len -/
theorem pe_item_byt (ha : PE X a ta) (hb : PE X b tb) (hs : PlainIxT b) :
    PE X (.Subscript a b pos) (tOp (fun x y H Q => ∃ (z : List UInt8) (i : Int), x = .byt z.toArray ∧ y = .int i ∧ z.length ≤ sizeLine ∧ 0 ≤ i ∧ i < z.length ∧ Q (.int ((z.getD i.toNat 0).toNat : Nat)) H) ta tb) := by
  intro pins s σ H Q I h
  refine Subscript_ (binT ha hb I h fun v u s2 x y H2 I2 rx ry q => ?_)
  obtain ⟨z, i, rfl, rfl, hz, h0, h1, q⟩ := q
  obtain ⟨t, rfl⟩ := rx
  obtain ⟨t', rfl⟩ := ry
  have hl : sizeLine = 16777216 := sizeLine_eq
  exact tail_any (PySem.W.typeIs_bytes s2 z.toArray t) PySem.W.FB.slot_bytes_getitem.lookup (PySem.W.getItem_bytes (by omega) h0 h1 ⟨.int ((z.getD i.toNat 0).toNat : Nat), H2, I2.tok _, ⟨_, rfl⟩, q⟩) (hs _ _)

/-! ### scalar builtins, by CallR -/
theorem vals1 {x : V} {us : List Value} (r : Vals [x] us) : ∃ u, us = [u] ∧ RelV x u := by
  cases r with
  | cons r1 r2 => cases r2; exact ⟨_, rfl, r1⟩
theorem vals2 {x y : V} {us : List Value} (r : Vals [x, y] us) : ∃ u w', us = [u, w'] ∧ RelV x u ∧ RelV y w' := by
  cases r with
  | cons r1 r2 =>
    cases r2 with
    | cons r3 r4 => cases r4; exact ⟨_, _, rfl, r1, r3⟩
theorem call_abs : CallR X (.builtin "abs") (fun xs H Q => ∃ i, xs = [.int i] ∧ Q (.int (if i < 0 then -i else i)) H) := by
  intro pins s σ H xs us Q I r h
  obtain ⟨i, rfl, q⟩ := h
  obtain ⟨u, rfl, t, rfl⟩ := vals1 r
  exact call_abs_int fun u tk => ⟨.int (if i < 0 then -i else i), H, I.tok _, ⟨_, rfl⟩, q⟩
theorem call_max2 (hc : X.calm = true) : CallR X (.builtin "max") (fun xs H Q => ∃ i j, xs = [.int i, .int j] ∧ Q (.int (if j > i then j else i)) H) := by
  intro pins s σ H xs us Q I r h
  obtain ⟨i, j, rfl, q⟩ := h
  obtain ⟨u, w', rfl, ⟨t, rfl⟩, ⟨t', rfl⟩⟩ := vals2 r
  refine max_two_ints (I.ok.hd hc) fun h' tk k => ⟨_, H, I.kept k, ?_, q⟩
  by_cases hj : j > i
  · rw [if_pos hj, if_pos hj]; exact ⟨_, rfl⟩
  · rw [if_neg hj, if_neg hj]; exact ⟨_, rfl⟩
theorem call_min2 (hc : X.calm = true) : CallR X (.builtin "min") (fun xs H Q => ∃ i j, xs = [.int i, .int j] ∧ Q (.int (if j < i then j else i)) H) := by
  intro pins s σ H xs us Q I r h
  obtain ⟨i, j, rfl, q⟩ := h
  obtain ⟨u, w', rfl, ⟨t, rfl⟩, ⟨t', rfl⟩⟩ := vals2 r
  refine min_two_ints (I.ok.hd hc) fun h' tk k => ⟨_, H, I.kept k, ?_, q⟩
  by_cases hj : j < i
  · rw [if_pos hj, if_pos hj]; exact ⟨_, rfl⟩
  · rw [if_neg hj, if_neg hj]; exact ⟨_, rfl⟩
theorem call_int1 : CallR X (.type "int") (fun xs H Q => (∃ i, xs = [.int i] ∧ Q (.int i) H) ∨ ∃ k, xs = [.bl k] ∧ Q (.int (if k then 1 else 0)) H) := by
  intro pins s σ H xs us Q I r h
  rcases h with ⟨i, rfl, q⟩ | ⟨k, rfl, q⟩
  · obtain ⟨u, rfl, t, rfl⟩ := vals1 r
    exact call_int_int ⟨.int i, H, I, ⟨_, rfl⟩, q⟩
  · obtain ⟨u, rfl, r1⟩ := vals1 r
    cases r1
    exact call_int_bool ⟨.int (if k then 1 else 0), H, I.tok _, ⟨_, rfl⟩, q⟩
theorem call_bool1 : CallR X (.type "bool") (fun xs H Q => (∃ i, xs = [.int i] ∧ Q (.bl (i != 0)) H) ∨ ∃ k, xs = [.bl k] ∧ Q (.bl k) H) := by
  intro pins s σ H xs us Q I r h
  rcases h with ⟨i, rfl, q⟩ | ⟨k, rfl, q⟩
  · obtain ⟨u, rfl, t, rfl⟩ := vals1 r
    exact call_bool_int ⟨.bl (i != 0), H, I, rfl, q⟩
  · obtain ⟨u, rfl, r1⟩ := vals1 r
    cases r1
    exact call_bool_bool ⟨.bl k, H, I, rfl, q⟩
theorem call_str_int : CallR X (.type "str") (fun xs H Q => ∃ i, xs = [.int i] ∧ i.natAbs.log2 < 1920 ∧ Q (.str (toString i)) H) := by
  intro pins s σ H xs us Q I r h
  obtain ⟨i, rfl, hz, q⟩ := h
  obtain ⟨u, rfl, t, rfl⟩ := vals1 r
  exact PySem.P.str_of_int hz ⟨.str _, H, I.tok _, ⟨_, rfl⟩, q⟩
theorem call_ord : CallR X (.builtin "ord") (fun xs H Q => ∃ x, xs = [.str x] ∧ x.length = 1 ∧ Q (.int (x.cps.getD 0 0 : Nat)) H) := by
  intro pins s σ H xs us Q I r h
  obtain ⟨x, rfl, hz, q⟩ := h
  obtain ⟨u, rfl, t, rfl⟩ := vals1 r
  exact ord_of_one hz ⟨.int _, H, I.tok _, ⟨_, rfl⟩, q⟩
theorem call_chr : CallR X (.builtin "chr") (fun xs H Q => ∃ i, xs = [.int i] ∧ 0 ≤ i ∧ i ≤ 1114111 ∧ Q (.str ⟨#[i.toNat]⟩) H) := by
  intro pins s σ H xs us Q I r h
  obtain ⟨i, rfl, h0, h1, q⟩ := h
  obtain ⟨u, rfl, t, rfl⟩ := vals1 r
  exact chr_of_range h0 h1 ⟨.str _, H, I.tok _, ⟨_, rfl⟩, q⟩
/-- len of a str, a bytes, a list, a tuple -/
def LenV (K : PySem.W.Frag) (x : V) (H : Hp) (n : Nat) : Prop :=
  match x with
  | .str y => y.length ≤ sizeLine ∧ n = y.length
  | .byt y => y.size ≤ sizeLine ∧ n = y.size
  | .ref p => (∃ xs, SqL K H p xs ∧ n = xs.length) ∨ ∃ xs, SqT K H p xs ∧ n = xs.length
  | _ => False
theorem call_len : CallR X (.builtin "len") (fun xs H Q => ∃ x n, xs = [x] ∧ LenV X.K x H n ∧ Q (.int n) H) := by
  intro pins s σ H xs us Q I r h
  obtain ⟨x, n, rfl, e, q⟩ := h
  obtain ⟨u, rfl, rx⟩ := vals1 r
  have hl := line63
  have hs : sizeLine = 16777216 := sizeLine_eq
  cases x with
  | str y =>
    obtain ⟨t, rfl⟩ := rx
    obtain ⟨hy, e'⟩ : y.length ≤ sizeLine ∧ n = y.length := e
    subst e'
    exact len_str (by omega) ⟨.int _, H, I.tok _, ⟨_, rfl⟩, q⟩
  | byt y =>
    obtain ⟨t, rfl⟩ := rx
    obtain ⟨hy, e'⟩ : y.size ≤ sizeLine ∧ n = y.size := e
    subst e'
    exact PySem.W.len_bytes (by omega) ⟨.int _, H, I.tok _, ⟨_, rfl⟩, q⟩
  | ref p =>
    cases rx
    have e' : (∃ xs, SqL X.K H p xs ∧ n = xs.length) ∨ ∃ xs, SqT X.K H p xs ∧ n = xs.length := e
    rcases e' with ⟨xs, hx, e'⟩ | ⟨xs, hx, e'⟩
    · subst e'
      obtain ⟨its, r', pl, hz⟩ := I.list hx
      have hlen := r'.length
      exact Calls.call_len_list pl.isList (by simp only [List.size_toArray]; omega) ⟨.int xs.length, H, I.tok _, ⟨_, by simp only [List.size_toArray]; rw [hlen]⟩, q⟩
    · subst e'
      obtain ⟨its, r', pl, hz⟩ := I.tuple hx
      have hlen := r'.length
      exact len_tuple pl (by simp only [List.size_toArray]; omega) ⟨.int xs.length, H, I.tok _, ⟨_, by simp only [List.size_toArray]; rw [hlen]⟩, q⟩
  | _ => exact (show False from e).elim
/-- divmod: a new tuple -/
theorem call_divmod : CallR X (.builtin "divmod") (fun xs H Q => ∃ i j, xs = [.int i, .int j] ∧ CDiv i j ∧ ∀ p, H p = none → Q (.ref p) (upd H p (.tup [.int (i / j), .int (i % j)]))) := by
  intro pins s σ H xs us Q I r h
  obtain ⟨i, j, rfl, ⟨h1, h2⟩, q⟩ := h
  obtain ⟨u, w', rfl, ⟨t, rfl⟩, ⟨t', rfl⟩⟩ := vals2 r
  refine divmod_int (by omega) ?_ (.inl (PyProof.noPylong_small (by omega)))
  rw [Int.fdiv_eq_ediv_of_nonneg i (by omega), Int.fmod_eq_emod_of_nonneg i (by omega)]
  have hn : H s.heap.objs.size = none := I.hok.fresh (Nat.le_refl _)
  refine ⟨.ref s.heap.objs.size, _, ?_, rfl, q _ hn⟩
  refine I.laid (fun b o e => Heap.get?_push_of_some _ e) (Nat.le_refl _) ⟨by simp only [List.length_cons, List.length_nil]; rw [sizeLine_eq]; decide, [.int (i / j) s.toks, .int (i % j) (s.toks + 1)], .cons ⟨_, rfl⟩ (.cons ⟨_, rfl⟩ .nil), ?_⟩
  exact ⟨_, Heap.get?_push_size s.heap rfl, rfl, 0, rfl⟩
end
end L2

namespace L2
open PySem PySem.Spec PyProof.Rows

/-! ### an instance, its attributes a map -/
structure ObjM (h : Heap) (x dx C : Addr) (mA : Str → Option Value) : Prop where
  obj : h.get? x = some (PySem.W.instObj C dx)
  ns : h.Ns1 dx mA
  ne : dx ≠ x

theorem lookIn_ns {h : Heap} {dx : Addr} {mA : Str → Option Value} (n : h.Ns1 dx mA) : ∃ od, h.get? dx = some od ∧ ∀ name, PySem.W.lookIn name od = some (mA name) := by
  obtain ⟨o, es, ep, ho, hd, hk, _, hm⟩ := n
  refine ⟨o, ho, fun name => ?_⟩
  have e := hm name
  unfold nsFind findBy at e
  rw [← Array.find?_toList] at e
  unfold PySem.W.lookIn
  rw [hd]
  dsimp only
  split
  · rename_i y q
    rw [q] at e
    exact congrArg some e
  · rename_i q
    rw [q] at e
    have a : es.toList.any (·.refKey) = false := by
      rw [List.any_eq_false]
      intro y hy
      obtain ⟨z, t, hkey⟩ := hk y (Array.mem_toList_iff.mp hy)
      simp [DictEntry.refKey, hkey]
    have a' : ¬ es.toList.any (·.refKey) = true := by rw [a]; exact Bool.false_ne_true
    rw [if_neg a']
    exact congrArg some e

theorem ObjM.look {h : Heap} {x dx C : Addr} {mA : Str → Option Value} (I : ObjM h x dx C mA) : ∃ od, PySem.W.InstAt h x (PySem.W.instObj C dx) C (some od) ∧ ∀ name, PySem.W.lookIn name od = some (mA name) :=
  let ⟨od, ho, hl⟩ := lookIn_ns I.ns
  ⟨od, ⟨I.obj, rfl, rfl, ho⟩, hl⟩

section
variable {prog : Program} {w : World} {A : Around} {E : Value → Shared → Prop} {s : Shared} {K : PySem.W.Frag} {x dx C f : Addr} {mA : Str → Option Value} {name : Str} {v : Value}

theorem get_map {expr : Bool} {Q : Value → Shared → Prop} (X : K.In s.heap) (I : ObjM s.heap x dx C mA) (hg : PySem.W.plainGet K C name = true) (hh : PySem.W.hasDictIn K C = true)
    (ha : PySem.W.findIn K (.ref C) name = some none) (hv : mA name = some v) (hv' : PySem.W.handedIn v = true) (h : Q v { s with toks := s.toks + 1 }) :
    wpAny (model prog w) A (getAttr (.ref x) name expr) Q E s := by
  obtain ⟨od, J, hl⟩ := I.look
  exact PySem.W.get_value X J (PySem.W.plainGet_of hg).1 (PySem.W.findObj_own hh ha rfl (by rw [hl, hv])) hv' h

theorem get_const {expr : Bool} {a : Value} {Q : Value → Shared → Prop} (X : K.In s.heap) (I : ObjM s.heap x dx C mA) (hg : PySem.W.plainGet K C name = true) (hh : PySem.W.hasDictIn K C = true)
    (ha : PySem.W.findIn K (.ref C) name = some (some a)) (hn : PySem.W.specialIn K a "__get__" = some none) (hc : PySem.W.copiedNames.contains name = false) (hv : mA name = none) (hv' : PySem.W.handedIn a = true)
    (h : Q a { s with toks := s.toks + 1 }) : wpAny (model prog w) A (getAttr (.ref x) name expr) Q E s := by
  obtain ⟨od, J, hl⟩ := I.look
  exact PySem.W.get_value X J (PySem.W.plainGet_of hg).1 (PySem.W.findObj_cls hh ha hn hv' hc (by rw [hl, hv])) hv' h

theorem get_meth {pl : Sem Bool} {Q : Value × List Value → Shared → Prop} (X : K.In s.heap) (I : ObjM s.heap x dx C mA) (hg : PySem.W.plainGet K C name = true)
    (hf : PySem.W.findIn K (.ref C) name = some (some (.ref f))) (ht : PySem.W.isFn K (.ref f) = true) (hv : mA name = none) (h : Q (.ref f, [.ref x]) s) :
    wpAny (model prog w) A (getMethod (.ref x) name pl) Q E s := by
  obtain ⟨od, J, hl⟩ := I.look
  exact PySem.W.method_fn X J (PySem.W.plainGet_of hg).1 (PySem.W.plainGet_of hg).2 hf (beq_iff_eq.mp ht) (by show (PySem.W.lookIn name od).map (·.isSome) = some false; rw [hl, hv]; rfl) h

theorem set_map {ns : List Str} {Q : Unit → Shared → Prop} (X : K.In s.heap) (I : ObjM s.heap x dx C mA)
    (hs : PySem.W.findIn K (.ref C) "__setattr__" = some (some (.builtin "object.__setattr__"))) (hp : PySem.W.plainOver K C = true) (ht : PySem.W.takerIn K C name = some none) (hh : PySem.W.hasDictIn K C = true)
    (hw : PySem.Within mA ns) (hsz : ns.length ≤ sizeLine)
    (h : ∀ h', ObjM h' x dx C (fun y => if y = name then some v else mA y) → Heap.SameBut dx s.heap h' → Q () { s with heap := h', toks := s.toks + 2 }) :
    wpAny (model prog w) A (setAttr (.ref x) name v) Q E s := by
  obtain ⟨od, J, hl⟩ := I.look
  refine PySem.W.set_plain X J hs (PySem.W.osa_open (s := { s with toks := s.toks + 1 }) (r := none) X J hp ht fun b => ?_)
  obtain ⟨cd, hc, hd'⟩ := PySem.W.any_some hh
  have hx : s.heap.get? x = some ⟨.ref C, some dx, .plain, #[]⟩ := I.obj
  refine wpAny_bind (wpAny_pure (wpAny_bind (wpAny_bind (wpAny_loadPart hx (wpAny_bind (PySem.W.Looks.here (s := { s with toks := s.toks + 1 }) (PySem.W.looks_clsIn X hc) ?_))))))
  rw [hd']
  refine wpAny_pure (a := some dx) (wpAny_bind (wpAny_pure (wpAny_bind ?_)))
  refine wpAny_nsSet1 (s := { s with toks := s.toks + 1 }) I.ns fun h' hn2 hs2 => ?_
  obtain ⟨oD, esD, epD, hoD, hdD, hcD⟩ := hn2.count (PySem.Within.cons name v hw)
  refine wpAny_bind (wpAny_lookBehind hoD (by rw [hdD]; exact pastItsLine_dict (Nat.le_trans hcD (by rw [List.length_cons]; omega))) ?_)
  exact wpAny_pure (h _ ⟨(hs2.2 _ (Ne.symm I.ne)).trans I.obj, hn2, I.ne⟩ hs2)

/-- C(..): the dict at the heap's end, the instance behind it; then its __init__ -/
theorem make_map {R : Result → Shared → Prop} {vs : List Value} {kw : List (Str × Value)} (X : K.In s.heap) (hm : PySem.W.makesIn K C = true)
    (hi : PySem.W.findIn K (.ref C) "__init__" = some (some (.ref f))) (hf : PySem.W.typeIn K (.ref f) = some (.type "function"))
    (h : codeAny (model prog w) (A.under (.builtin "type.__call__" ⟨.ref C :: vs, kw⟩)) (.call (.ref f) ⟨.ref (s.heap.objs.size + 1) :: vs, kw⟩) (PySem.W.InitBack (s.heap.objs.size + 1) R)
      { s with heap := (s.heap.push PySem.W.emptyDict).push (PySem.W.instObj C s.heap.objs.size) }) :
    codeAny (model prog w) A (.call (.ref C) ⟨vs, kw⟩) R s := by
  obtain ⟨hh, g, d, t, os⟩ := s
  exact PySem.W.make_core (PySem.W.makes_of X hm) (PySem.W.looks_findIn X hi) (fun self => PySem.W.bind_fn X self hf) (.inl rfl) h
/-- C() where there is no __init__ but object's -/
theorem make_map0 {R : Result → Shared → Prop} (X : K.In s.heap) (hm : PySem.W.makesIn K C = true)
    (hi : PySem.W.findIn K (.ref C) "__init__" = some (some (.builtin "object.__init__")))
    (hb : ∀ self, PySem.W.Looks (model prog w) s.heap (bindSpecial (.builtin "object.__init__") self) (.builtin "object.__init__", [self]))
    (h : codeAny (model prog w) (A.under (.builtin "type.__call__" ⟨[.ref C], []⟩)) (.call (.builtin "object.__init__") ⟨[.ref (s.heap.objs.size + 1)], []⟩) (PySem.W.InitBack (s.heap.objs.size + 1) R)
      { s with heap := (s.heap.push PySem.W.emptyDict).push (PySem.W.instObj C s.heap.objs.size) }) :
    codeAny (model prog w) A (.call (.ref C) ⟨[], []⟩) R s := by
  obtain ⟨hh, g, d, t, os⟩ := s
  exact PySem.W.make_core (PySem.W.makes_of X hm) (PySem.W.looks_findIn X hi) hb (.inr ⟨rfl, rfl⟩) h
end

/-! ### the attributes as a list of pairs -/
def putF (f : Str) (v : V) : List (Str × V) → List (Str × V)
  | [] => [(f, v)]
  | (g, x) :: r => if g = f then (g, v) :: r else (g, x) :: putF f v r
theorem lookup_putF (f g : Str) (v : V) : ∀ fs : List (Str × V), (putF f v fs).lookup g = if g = f then some v else fs.lookup g
  | [] => by
    show List.lookup g [(f, v)] = _
    by_cases h : g = f
    · have hb : (g == f) = true := beq_iff_eq.mpr h
      simp only [List.lookup, hb, if_pos h]
    · have hb : (g == f) = false := beq_eq_false_iff_ne.mpr h
      simp only [List.lookup, hb, if_neg h]
  | (k, x) :: r => by
    have ih := lookup_putF f g v r
    rw [show putF f v ((k, x) :: r) = (if k = f then (k, v) :: r else (k, x) :: putF f v r) from rfl]
    by_cases hk : k = f
    · rw [if_pos hk]
      by_cases h : g = k
      · have hb : (g == k) = true := beq_iff_eq.mpr h
        simp only [List.lookup, hb, if_pos (h.trans hk)]
      · have hb : (g == k) = false := beq_eq_false_iff_ne.mpr h
        simp only [List.lookup, hb, if_neg (fun e : g = f => h (e.trans hk.symm))]
    · rw [if_neg hk]
      by_cases h : g = k
      · have hb : (g == k) = true := beq_iff_eq.mpr h
        simp only [List.lookup, hb, if_neg (fun e : g = f => hk (h.symm.trans e))]
      · have hb : (g == k) = false := beq_eq_false_iff_ne.mpr h
        simp only [List.lookup, hb]
        exact ih
theorem keys_putF (f : Str) (v : V) : ∀ fs : List (Str × V), f ∈ (putF f v fs).map (·.1) ∧ ∀ g, g ∈ fs.map (·.1) → g ∈ (putF f v fs).map (·.1)
  | [] => ⟨by simp [putF], fun g h => by simp at h⟩
  | (k, x) :: r => by
    obtain ⟨i1, i2⟩ := keys_putF f v r
    rw [show putF f v ((k, x) :: r) = (if k = f then (k, v) :: r else (k, x) :: putF f v r) from rfl]
    by_cases hk : k = f
    · rw [if_pos hk]
      subst hk
      exact ⟨by simp, fun g h => by simpa using h⟩
    · rw [if_neg hk]
      refine ⟨?_, fun g h => ?_⟩
      · rw [List.map_cons]
        exact List.mem_cons_of_mem _ i1
      · rw [List.map_cons] at h ⊢
        rcases List.mem_cons.mp h with e | e
        · exact List.mem_cons.mpr (.inl e)
        · exact List.mem_cons_of_mem _ (i2 g e)
theorem length_putF (f : Str) (v : V) : ∀ fs : List (Str × V), (putF f v fs).length ≤ fs.length + 1
  | [] => by simp [putF]
  | (k, x) :: r => by
    have ih := length_putF f v r
    rw [show putF f v ((k, x) :: r) = (if k = f then (k, v) :: r else (k, x) :: putF f v r) from rfl]
    by_cases hk : k = f
    · rw [if_pos hk, List.length_cons, List.length_cons]; omega
    · rw [if_neg hk, List.length_cons, List.length_cons]; omega

theorem RelO.some_of {v : V} {o : Option Value} (r : RelO (some v) o) : ∃ u, o = some u ∧ RelV v u := by
  cases o with
  | none => exact (show False from r).elim
  | some u => exact ⟨u, rfl, r⟩
theorem RelO.none_of {o : Option Value} (r : RelO none o) : o = none := by
  cases o with
  | none => rfl
  | some u => exact (show False from r).elim
theorem handed_of {v : V} {u : Value} (r : RelV v u) : PySem.W.handedIn u = true := by
  cases v with
  | non => cases (show u = Value.none from r); rfl
  | bl b => cases (show u = Value.bool b from r); rfl
  | int i => obtain ⟨t, e⟩ := (show ∃ t, u = Value.int i t from r); cases e; rfl
  | str x => obtain ⟨t, e⟩ := (show ∃ t, u = Value.str x t from r); cases e; rfl
  | byt b => obtain ⟨t, e⟩ := (show ∃ t, u = Value.bytes b t from r); cases e; rfl
  | flt b => obtain ⟨t, e⟩ := (show ∃ t, u = Value.float b t from r); cases e; rfl
  | ref a => cases (show u = Value.ref a from r); rfl
  | ty n => cases (show u = Value.type n from r); rfl

section
variable {P : Program} {w : World} {H H' : Hp} {h h' : Heap} {a C dx : Addr} {fs fs' : List (Str × V)}
theorem ins_get (hok : HOk P w H h) (e : H a = some (.ins C dx fs)) : ∃ mA, ObjM h a dx C mA ∧ (∀ f, RelO (fs.lookup f) (mA f)) ∧ PySem.Within mA (fs.map (·.1)) ∧ fs.length ≤ 1000 ∧ H dx = some (.own a) := by
  obtain ⟨d, z, ne, ob, mA, n, r, q⟩ := (show ObjOk P w H h a (.ins C dx fs) from hok a _ e)
  exact ⟨mA, ⟨ob, n, ne⟩, r, q, z, d⟩
end

/-! ### what of the text a class must have -/
structure Cls (K : PySem.W.Frag) (C : Addr) : Prop where
  pg : PySem.W.plainGet K C Str.empty = true
  hd : PySem.W.hasDictIn K C = true
  po : PySem.W.plainOver K C = true
  sa : PySem.W.findIn K (.ref C) "__setattr__" = some (some (.builtin "object.__setattr__"))
theorem Cls.get {K : PySem.W.Frag} {C : Addr} (c : Cls K C) (f : Str) : PySem.W.plainGet K C f = true := c.pg
/-- no class of it has the name -/
def NoAttr (K : PySem.W.Frag) (C : Addr) (f : Str) : Prop := PySem.W.findIn K (.ref C) f = some none
theorem NoAttr.taker {K : PySem.W.Frag} {C : Addr} {f : Str} (n : NoAttr K C f) : PySem.W.takerIn K C f = some none := by
  unfold PySem.W.takerIn
  rw [show PySem.W.findIn K (.ref C) f = some none from n]
  rfl
/-- a constant of the class -/
structure Con (K : PySem.W.Frag) (C : Addr) (f : Str) (v : V) (u : Value) : Prop where
  at_ : PySem.W.findIn K (.ref C) f = some (some u)
  rel : RelV v u
  get : PySem.W.specialIn K u "__get__" = some none
  cp : PySem.W.copiedNames.contains f = false
/-- a method: a plain def of the class or of one above it -/
structure Meth (K : PySem.W.Frag) (C : Addr) (m : Str) (f : Addr) : Prop where
  at_ : PySem.W.findIn K (.ref C) m = some (some (.ref f))
  fn : PySem.W.isFn K (.ref f) = true
  kp : PySem.W.keepIn K (.ref f) = true

section
variable {X : Cx} {pins : List (Addr × Obj)} {σ : St} {H : Hp} {s : Shared} {a C dx : Addr} {fs : List (Str × V)} {f : Str} {v : V} {A : Around} {E : Value → Shared → Prop}

theorem getattr_ok {b : Bool} {Q : Value → Shared → Prop} (I : Inv X pins σ H s) (e : H a = some (.ins C dx fs)) (c : Cls X.K C) (n : NoAttr X.K C f) (l : fs.lookup f = some v)
    (h : ∀ u s', Inv X pins σ H s' → RelV v u → Q u s') : wpAny (model X.prog X.w) A (getAttr (.ref a) f b) Q E s := by
  obtain ⟨mA, O, r, _, _, _⟩ := ins_get I.hok e
  obtain ⟨u, hu, ru⟩ := RelO.some_of (v := v) (o := mA f) (by rw [← l]; exact r f)
  exact get_map I.kIn O (c.get f) c.hd n hu (handed_of ru) (h u _ (I.tok _) ru)

theorem getcon_ok {b : Bool} {u : Value} {Q : Value → Shared → Prop} (I : Inv X pins σ H s) (e : H a = some (.ins C dx fs)) (c : Cls X.K C) (k : Con X.K C f v u) (l : fs.lookup f = none)
    (h : ∀ s', Inv X pins σ H s' → Q u s') : wpAny (model X.prog X.w) A (getAttr (.ref a) f b) Q E s := by
  obtain ⟨mA, O, r, _, _, _⟩ := ins_get I.hok e
  have hn : mA f = none := RelO.none_of (by rw [← l]; exact r f)
  exact get_const I.kIn O (c.get f) c.hd k.at_ k.get k.cp hn (handed_of k.rel) (h _ (I.tok _))

theorem getmeth_ok {m : Str} {g : Addr} {pl : Sem Bool} {Q : Value × List Value → Shared → Prop} (I : Inv X pins σ H s) (e : H a = some (.ins C dx fs)) (c : Cls X.K C) (k : Meth X.K C m g) (l : fs.lookup m = none)
    (h : Q (.ref g, [.ref a]) s) : wpAny (model X.prog X.w) A (getMethod (.ref a) m pl) Q E s := by
  obtain ⟨mA, O, r, _, _, _⟩ := ins_get I.hok e
  have hn : mA m = none := RelO.none_of (by rw [← l]; exact r m)
  exact get_meth I.kIn O (c.get m) k.at_ k.fn hn h

theorem setattr_ok {y : V} {u : Value} {Q : Unit → Shared → Prop} (I : Inv X pins σ H s) (e : H a = some (.ins C dx fs)) (c : Cls X.K C) (n : NoAttr X.K C f) (hl : fs.length < 1000) (ry : RelV y u)
    (h : ∀ s', Inv X pins σ (upd H a (.ins C dx (putF f y fs))) s' → Q () s') : wpAny (model X.prog X.w) A (setAttr (.ref a) f u) Q E s := by
  obtain ⟨mA, O, r, wi, _, ho⟩ := ins_get I.hok e
  have hz : (fs.map (·.1)).length ≤ sizeLine := by rw [List.length_map, sizeLine_eq]; omega
  refine set_map I.kIn O c.sa c.po n.taker c.hd wi hz fun h' O' sb => h _ ?_
  have hd : ∃ o, h'.get? dx = some o := let ⟨o, _, _, e', _⟩ := O'.ns; ⟨o, e'⟩
  refine I.write (x := a) (e := dx) (by rw [e]; exact True.intro) (.inr ho) (fun b q hb z => (sb.2 b hb).trans z) hd ?_
  refine ⟨by rw [upd_ne O.ne]; exact ho, ?_, O.ne, O'.obj, _, O'.ns, fun g => ?_, fun g hg => ?_⟩
  · have := length_putF f y fs; omega
  · show RelO ((putF f y fs).lookup g) (if g = f then some u else mA g)
    rw [lookup_putF]
    by_cases q : g = f
    · rw [if_pos q, if_pos q]; exact ry
    · rw [if_neg q, if_neg q]; exact r g
  · by_cases q : g = f
    · rw [q]; exact (keys_putF f y fs).1
    · refine (keys_putF f y fs).2 g (wi g fun z => hg ?_)
      show (if g = f then some u else mA g) = none
      rw [if_neg q]; exact z

/-- a new instance, tracked, without attributes -/
theorem Inv.made (I : Inv X pins σ H s) : Inv X pins σ (upd (upd H s.heap.objs.size (.own (s.heap.objs.size + 1))) (s.heap.objs.size + 1) (.ins C s.heap.objs.size []))
    { s with heap := (s.heap.push PySem.W.emptyDict).push (PySem.W.instObj C s.heap.objs.size) } := by
  have e1 : (s.heap.push PySem.W.emptyDict).get? s.heap.objs.size = some PySem.W.emptyDict := Heap.get?_push_size s.heap rfl
  have e2 : ((s.heap.push PySem.W.emptyDict).push (PySem.W.instObj C s.heap.objs.size)).get? (s.heap.objs.size + 1) = some (PySem.W.instObj C s.heap.objs.size) := by
    have := Heap.get?_push_size (s.heap.push PySem.W.emptyDict) (o := PySem.W.instObj C s.heap.objs.size) rfl
    rwa [Heap.size_push] at this
  have e3 : (s.heap.push PySem.W.emptyDict).Ns s.heap.objs.size (fun _ => none) := ⟨PySem.W.emptyDict, #[], _, e1, rfl, (fun e he => absurd he (by simp)), fun _ => rfl⟩
  have I1 := I.laid (a := s.heap.objs.size) (o := .own (s.heap.objs.size + 1)) (h' := s.heap.push PySem.W.emptyDict) (t' := s.toks) (fun b u q => Heap.get?_push_of_some _ q) (Nat.le_refl _) ⟨_, e1⟩
  refine I1.laid (a := s.heap.objs.size + 1) (o := .ins C s.heap.objs.size []) (t' := s.toks) (fun b u q => Heap.get?_push_of_some _ q) (Nat.le_of_eq (Heap.size_push _ _)) ?_
  have ne : s.heap.objs.size ≠ s.heap.objs.size + 1 := Nat.ne_of_lt (Nat.lt_succ_self _)
  refine ⟨by rw [upd_ne ne, upd_same], Nat.zero_le _, ne, e2, fun _ => none, (Heap.Ns1.of_empty e3).at fun o q => Heap.get?_push_of_some _ q, fun _ => True.intro, fun y hy => absurd rfl hy⟩

/-- e.f where nothing but the object is asked: through attributeBase (super) and the last hold -/
theorem attr_of {prog : Program} {w : World} {env : Env} {e : Expr} {f : Str} {pos : Pos} {s : Shared} {Q : Value → Shared → Prop} (hb : attributeBase e f env (eval e env) = eval e env)
    (h : wpAny (model prog w) A (eval e env) (fun o s₁ => wpAny (model prog w) A (getAttr o f true) Q E s₁) E s) : wpAny (model prog w) A (eval (.Attribute e f pos) env) Q E s :=
  Attribute_any_ h (by rw [arm_eval_Attribute, hb])
end

/-! ### readings and rules -/
/-- e.f, an attribute of the instance -/
def tFld (K : PySem.W.Frag) (ta : TE) (f : Str) : TE := fun σ H Q => ta σ H fun x H1 => ∃ a C dx fs v, x = .ref a ∧ H1 a = some (.ins C dx fs) ∧ Cls K C ∧ NoAttr K C f ∧ fs.lookup f = some v ∧ Q v H1
/-- e.f, a constant of the class -/
def tCon (K : PySem.W.Frag) (ta : TE) (f : Str) : TE := fun σ H Q => ta σ H fun x H1 => ∃ a C dx fs v u, x = .ref a ∧ H1 a = some (.ins C dx fs) ∧ Cls K C ∧ Con K C f v u ∧ fs.lookup f = none ∧ Q v H1
/-- e.f = value -/
def sFld (K : PySem.W.Frag) (ta tv : TE) (f : Str) : TS := fun D σ H => tv σ H fun y H1 => ta σ H1 fun x H2 => ∃ a C dx fs, x = .ref a ∧ H2 a = some (.ins C dx fs) ∧ Cls K C ∧ NoAttr K C f ∧ fs.length < 1000 ∧
  D.nx σ (upd H2 a (.ins C dx (putF f y fs)))
/-- an augmented operator on two values -/
def InOp (X : Cx) (op : Operator) (rd : V → V → Hp → VK → Prop) : Prop :=
  ∀ (pins : List (Addr × Obj)) (s : Shared) (σ : St) (H : Hp) (x y : V) (u v : Value) (Q : VK), Inv X pins σ H s → RelV x u → RelV y v → rd x y H Q → wpAny (model X.prog X.w) X.A (inplaceOp op u v) (EP X pins σ Q) X.xe s
/-- e.f op= value -/
def sFldAug (K : PySem.W.Frag) (ta tv : TE) (rd : V → V → Hp → VK → Prop) (f : Str) : TS := fun D σ H => ta σ H fun x H1 => ∃ a C dx fs v, x = .ref a ∧ H1 a = some (.ins C dx fs) ∧ Cls K C ∧ NoAttr K C f ∧ fs.lookup f = some v ∧
  tv σ H1 fun y H2 => rd v y H2 fun z H3 => ∃ dx' fs', H3 a = some (.ins C dx' fs') ∧ fs'.length < 1000 ∧ D.nx σ (upd H3 a (.ins C dx' (putF f z fs')))

section
variable {X : Cx} {o e value : Expr} {f : Str} {pos pos' tpos : Pos} {ta tv : TE}
theorem pe_fld (he : PE X e ta) (hb : attributeBase e f X.env (eval e X.env) = eval e X.env) : PE X (.Attribute e f pos) (tFld X.K ta f) := by
  intro pins s σ H Q I h
  refine attr_of hb (thn (he pins s σ H _ I h) fun u s1 ⟨x, H1, I1, rx, a, C, dx, fs, v, ex, ea, c, n, l, q⟩ => ?_)
  subst ex
  obtain rfl : u = Value.ref a := rx
  exact getattr_ok I1 ea c n l fun u' s2 I2 ru => ⟨v, H1, I2, ru, q⟩
theorem pe_con (he : PE X e ta) (hb : attributeBase e f X.env (eval e X.env) = eval e X.env) : PE X (.Attribute e f pos) (tCon X.K ta f) := by
  intro pins s σ H Q I h
  refine attr_of hb (thn (he pins s σ H _ I h) fun u s1 ⟨x, H1, I1, rx, a, C, dx, fs, v, u0, ex, ea, c, k, l, q⟩ => ?_)
  subst ex
  obtain rfl : u = Value.ref a := rx
  exact getcon_ok I1 ea c k l fun s2 I2 => ⟨v, H1, I2, k.rel, q⟩
theorem ps_fld (ha : PE X o ta) (hv : PE X value tv) (hs : swapsWith value (some (.Attribute o f pos')) pos.line X.env = pure false) : PS X (.Assign [.Attribute o f pos'] value pos) (sFld X.K ta tv f) := by
  intro pins s σ H D I h
  refine plainObj_wpAny_Assign_Attribute (thn (hv pins s σ H _ I h) fun u s1 ⟨y, H1, I1, ry, q⟩ => thn (ha pins s1 σ H1 _ I1 q) fun ov s2 ⟨x, H2, I2, rx, a, C, dx, fs, ex, ea, c, n, l, q2⟩ => ?_) hs
  subst ex
  obtain rfl : ov = Value.ref a := rx
  exact setattr_ok I2 ea c n l ry fun s3 I3 => ⟨σ, _, I3, q2⟩
theorem ps_fldaug {op : Operator} {rd : V → V → Hp → VK → Prop} (ha : PE X o ta) (hv : PE X value tv) (hop : InOp X op rd) : PS X (.AugAssign (.Attribute o f tpos) op value pos) (sFldAug X.K ta tv rd f) := by
  intro pins s σ H D I h
  refine wpAny_AugAssign_AttributeAny (thn (ha pins s σ H _ I h) fun ov s1 ⟨x, H1, I1, rx, a, C, dx, fs, v, ex, ea, c, n, l, q⟩ => ?_)
  subst ex
  obtain rfl : ov = Value.ref a := rx
  refine getattr_ok I1 ea c n l fun u s2 I2 ru => thn (hv pins s2 σ H1 _ I2 q) fun w3 s3 ⟨y, H2, I3, ry, q3⟩ => thn (hop pins s3 σ H2 v y u w3 _ I3 ru ry q3) fun w4 s4 ⟨z, H3, I4, rz, dx', fs', ea', l', q4⟩ => ?_
  exact setattr_ok I4 ea' c n l' rz fun s5 I5 => ⟨σ, _, I5, q4⟩
def rAdd : V → V → Hp → VK → Prop := fun x y H Q => ∃ i j, x = .int i ∧ y = .int j ∧ Q (.int (i + j)) H
def rSub : V → V → Hp → VK → Prop := fun x y H Q => ∃ i j, x = .int i ∧ y = .int j ∧ Q (.int (i - j)) H
theorem in_add : InOp X .Add rAdd := by
  rintro pins s σ H x y u v Q I rx ry ⟨i, j, rfl, rfl, q⟩
  obtain ⟨t, rfl⟩ := (show ∃ t, u = Value.int i t from rx)
  obtain ⟨t', rfl⟩ := (show ∃ t', v = Value.int j t' from ry)
  exact PyProof.Rows.iadd_int ⟨.int (i + j), H, I.tok _, ⟨_, rfl⟩, q⟩
theorem in_sub : InOp X .Sub rSub := by
  rintro pins s σ H x y u v Q I rx ry ⟨i, j, rfl, rfl, q⟩
  obtain ⟨t, rfl⟩ := (show ∃ t, u = Value.int i t from rx)
  obtain ⟨t', rfl⟩ := (show ∃ t', v = Value.int j t' from ry)
  exact PyProof.Rows.isub_int ⟨.int (i - j), H, I.tok _, ⟨_, rfl⟩, q⟩

/-- what is between an instance and its method: the tree of a method call -/
theorem methcall_of {pl : Sem Bool} {m : Str} {apos : Pos} {args : List Expr} {pins : List (Addr × Obj)} {s : Shared} {σ : St} {H : Hp} {Q : Value → Shared → Prop} {te : TE} (he : PE X e te) (I : Inv X pins σ H s)
    (h : te σ H fun x H1 => ∃ a C dx fs g, x = .ref a ∧ H1 a = some (.ins C dx fs) ∧ Cls X.K C ∧ Meth X.K C m g ∧ fs.lookup m = none ∧
      ∀ s1, Inv X pins σ H1 s1 → wpAny (model X.prog X.w) X.A (callWith pos (.ref g) [.ref a] (backTo pos (starEach args X.env)) (backToKw pos (keywordEach [] X.env))) Q X.xe s1)
    (ht : eval (.Call (.Attribute e m apos) args [] pos) X.env = (do
      let ov ← eval e X.env
      standAt apos.atName
      let (f, first) ← holding [ov] (getMethod ov m pl)
      callWith pos f first (backTo pos (starEach args X.env)) (backToKw pos (keywordEach [] X.env)))) :
    wpAny (model X.prog X.w) X.A (eval (.Call (.Attribute e m apos) args [] pos) X.env) Q X.xe s := by
  refine PySem.W.methodCall_KW (pl := pl) (thn (he pins s σ H _ I h) fun u s1 ⟨x, H1, I1, rx, a, C, dx, fs, g, ex, ea, c, k, l, q⟩ => ?_) ht
  subst ex
  obtain rfl : u = Value.ref a := rx
  exact getmeth_ok I1 ea c k l (q s1 I1)
end

/-! ### isinstance -/
section
variable {X : Cx} {pins : List (Addr × Obj)} {σ : St} {H : Hp} {s : Shared} {A : Around} {E : Value → Shared → Prop} {Q : Value → Shared → Prop} {c : Value} {b : Bool}
/-- the type of a value, as the fragment's deciders take it; for an instance its class -/
inductive TyOf (K : PySem.W.Frag) (H : Hp) : V → Value → Prop where
  | non : TyOf K H .non (.type "NoneType")
  | bl (x : Bool) : TyOf K H (.bl x) (.type "bool")
  | int (i : Int) : TyOf K H (.int i) (.type "int")
  | str (x : Str) : TyOf K H (.str x) (.type "str")
  | flt (x : UInt64) : TyOf K H (.flt x) (.type "float")
  | lst {a : Addr} {xs : List V} (e : H a = some (.lst xs)) : TyOf K H (.ref a) (.type "list")
  | frz {a : Addr} {o : Obj} {xs : List V} (e : H a = some (.frz o (.lst xs))) : TyOf K H (.ref a) (.type "list")
  | tup {a : Addr} {xs : List V} (e : H a = some (.tup xs)) : TyOf K H (.ref a) (.type "tuple")
  | dK {a : Addr} {kvs : List (Key × V)} (e : H a = some (.dK kvs)) : TyOf K H (.ref a) (.type "dict")
  | dT {a : Addr} {kvs : List (List Key × V)} (e : H a = some (.dT kvs)) : TyOf K H (.ref a) (.type "dict")
  | ins {a C dx : Addr} {fs : List (Str × V)} (e : H a = some (.ins C dx fs)) (cl : Cls K C) (ha : PySem.W.findIn K (.ref C) "__class__" = some (some (.builtin "object.__class__")))
      (hn : PySem.W.specialIn K (.builtin "object.__class__") "__get__" = some (some (.builtin "getset_descriptor.__get__"))) (htk : PySem.W.takesIn K (.builtin "object.__class__") = some true)
      (hm : PySem.W.mroIn K C (.type "object") = some true) : TyOf K H (.ref a) (.ref C)
/-- isinstance(x, c) for one class c, a built-in or an own one: kitOne's answer -/
theorem isinst_ok {x : V} {u t : Value} (I : Inv X pins σ H s) (rx : RelV x u) (ty : TyOf X.K H x t) (e : PySem.W.kitOne X.K t c = some b) (h : ∀ tk, Q (.bool b) { s with toks := tk }) :
    wpAny (model X.prog X.w) A (call (.builtin "isinstance") [u, c]) Q E s := by
  cases ty with
  | non => cases (show u = Value.none from rx); exact PySem.W.kia_one PySem.W.kitx_none I.kIn True.intro e (fun z => nomatch z) h
  | bl y => cases (show u = Value.bool y from rx); exact PySem.W.kia_one PySem.W.kitx_bool I.kIn True.intro e (fun z => nomatch z) h
  | int i => obtain ⟨t, q⟩ := (show ∃ t, u = Value.int i t from rx); cases q; exact PySem.W.kia_one PySem.W.kitx_int I.kIn True.intro e (fun z => nomatch z) h
  | str y => obtain ⟨t, q⟩ := (show ∃ t, u = Value.str y t from rx); cases q; exact PySem.W.kia_one PySem.W.kitx_str I.kIn True.intro e (fun z => nomatch z) h
  | flt y => obtain ⟨t, q⟩ := (show ∃ t, u = Value.float y t from rx); cases q; exact PySem.W.kia_one PySem.W.kitx_float I.kIn True.intro e (fun z => nomatch z) h
  | @lst a xs ea =>
    cases (show u = Value.ref a from rx)
    obtain ⟨_, _, n, _, h1⟩ := (show ObjOk X.prog X.w H s.heap a (.lst xs) from I.hok a _ ea)
    exact PySem.W.kia_one PySem.W.kitx_list I.kIn ⟨_, h1, rfl⟩ e (fun z => nomatch z) h
  | @frz a ob xs ea =>
    cases (show u = Value.ref a from rx)
    obtain ⟨_, _, _, n, _, h1⟩ := (show ObjOk X.prog X.w H s.heap a (.frz ob (.lst xs)) from I.hok a _ ea)
    exact PySem.W.kia_one PySem.W.kitx_list I.kIn ⟨_, h1, rfl⟩ e (fun z => nomatch z) h
  | @tup a xs ea =>
    cases (show u = Value.ref a from rx)
    obtain ⟨_, _, _, p⟩ := (show ObjOk X.prog X.w H s.heap a (.tup xs) from I.hok a _ ea)
    obtain ⟨o, h1, h2, _⟩ := p
    exact PySem.W.kia_one PySem.W.kitx_tuple I.kIn ⟨o, h1, h2⟩ e (fun z => nomatch z) h
  | @dK a kvs ea =>
    cases (show u = Value.ref a from rx)
    obtain ⟨_, _, vs, _, p⟩ := (show ObjOk X.prog X.w H s.heap a (.dK kvs) from I.hok a _ ea)
    obtain ⟨o, es, ep, h1, h2, _⟩ := p
    exact PySem.W.kia_one PySem.W.kitx_dict I.kIn ⟨o, h1, h2.1⟩ e (fun z => nomatch z) h
  | @dT a kvs ea =>
    cases (show u = Value.ref a from rx)
    obtain ⟨_, _, xs, _, o, es, ep, h1, h2, _⟩ := (show ObjOk X.prog X.w H s.heap a (.dT kvs) from I.hok a _ ea)
    exact PySem.W.kia_one PySem.W.kitx_dict I.kIn ⟨o, h1, h2.1⟩ e (fun z => nomatch z) h
  | @ins a C dx fs ea cl ha hn htk hm =>
    cases (show u = Value.ref a from rx)
    obtain ⟨mA, O, _⟩ := ins_get I.hok ea
    obtain ⟨od, J, _⟩ := O.look
    exact PySem.W.kia_one (PySem.W.kitx_own (cl.get _) cl.hd ha hn htk hm) I.kIn J e (fun z => nomatch z) h
end
end L2

namespace L2
open PySem PySem.Spec PyProof.Rows

/-! ### room -/
structure Room (k : Nat) (A : Around) : Prop where
  hd : A.handled = none
  dp : A.depth + 3 * k + 5 < recursionLimit
  un : A.units + 16 * k + 200 < cLine
theorem Room.mono {j k : Nat} {A : Around} (r : Room k A) (h : j ≤ k) : Room j A := ⟨r.hd, by have := r.dp; omega, by have := r.un; omega⟩
theorem Room.deeper {k : Nat} {A : Around} (r : Room (k + 1) A) (env : Env) : Room k (A.deeper env) :=
  ⟨r.hd, by have := r.dp; show A.depth + 1 + 3 * k + 5 < _; omega, by have := r.un; show A.units + 3 + 16 * k + 200 < _; omega⟩
theorem Room.in1 {k : Nat} {A : Around} (r : Room (k + 1) A) : Room k A.in1 :=
  ⟨r.hd, by have := r.dp; show A.depth + 3 * k + 5 < _; omega, by have := r.un; show A.units + 1 + 16 * k + 200 < _; omega⟩
theorem make_depth {A : Around} {C : Addr} {us : List Value} {kw : List (Str × Value)} : (A.under (.builtin "type.__call__" ⟨.ref C :: us, kw⟩)).depth = A.depth + 1 := by
  first | rfl | simp [Around.under, Code.weight, Code.isCreation, Code.isGuard, Code.isCaller, Code.frames, Code.isFrame, guardIds]
theorem make_units {A : Around} {C : Addr} {us : List Value} {kw : List (Str × Value)} : (A.under (.builtin "type.__call__" ⟨.ref C :: us, kw⟩)).units = A.units + 1 := by
  first | rfl | simp [Around.under, Code.cUnits, Code.frames, Code.isFrame]
theorem Room.make {k : Nat} {A : Around} (r : Room (k + 1) A) (C : Addr) (us : List Value) (kw : List (Str × Value)) : Room k (A.under (.builtin "type.__call__" ⟨.ref C :: us, kw⟩)) :=
  ⟨r.hd, by have := r.dp; rw [make_depth]; omega, by have := r.un; rw [make_units]; omega⟩
theorem Room.depth {k : Nat} {A : Around} (r : Room k A) : A.depth < recursionLimit := by have := r.dp; omega
theorem Room.units {k : Nat} {A : Around} (r : Room k A) : A.units + 64 < cLine := by have := r.un; omega
theorem Room.units0 {k : Nat} {A : Around} (r : Room k A) : A.units < cLine := by have := r.un; omega

/-! ### argument lists and displays -/
def tNil : TA := fun _ H Q => Q [] H
def tCons (ta : TE) (tr : TA) : TA := fun σ H Q => ta σ H fun x H1 => tr σ H1 fun xs H2 => Q (x :: xs) H2
section
variable {X : Cx} {e : Expr} {es : List Expr} {te : TE} {t : TA} {pos : Pos}
theorem pa_nil : PA X [] tNil := fun _ _ _ _ H Q I h => Calls.spliced_nil ⟨[], H, I, .nil, h⟩
theorem pa_cons (ha : PE X e te) (hr : PA X es t) (hs : starEach (e :: es) X.env = (false, eval e X.env) :: starEach es X.env := by rfl) : PA X (e :: es) (tCons te t) := by
  intro pos pins s σ H Q I h
  rw [hs]
  show wpAny _ _ (spliced ((false, eval e X.env) :: backTo pos (starEach es X.env))) _ _ s
  refine Calls.spliced_cons (thn (ha pins s σ H _ I h) fun u s1 ⟨x, H1, I1, r1, q1⟩ => ?_)
  exact thn (hr pos pins s1 σ H1 _ I1 q1) fun us s2 ⟨xs, H2, I2, r2, q2⟩ => ⟨x :: xs, H2, I2, .cons r1 r2, q2⟩

/-- a tuple, a list of written items -/
def tTup (t : TA) : TE := fun σ H Q => t σ H fun xs H1 => xs.length ≤ sizeLine ∧ ∀ p, H1 p = none → Q (.ref p) (upd H1 p (.tup xs))
def tLst (t : TA) : TE := fun σ H Q => t σ H fun xs H1 => xs.length ≤ sizeLine ∧ ∀ p, H1 p = none → Q (.ref p) (upd H1 p (.lst xs))
theorem pe_tup {x1} (h : PA X es t) : PE X (.Tuple es x1 pos) (tTup t) := by
  intro pins s σ H Q I hq
  refine wpAny_Tuple_spliced (thn (h pos pins s σ H _ I hq) fun us s1 ⟨xs, H1, I1, r, z, q⟩ => ⟨by rw [← r.length]; exact z, ?_⟩)
  have hf : H1 s1.heap.objs.size = none := I1.hok.fresh (Nat.le_refl _)
  refine ⟨.ref s1.heap.objs.size, upd H1 s1.heap.objs.size (.tup xs), I1.laid (t' := s1.toks) (fun b u e => Heap.get?_push_of_some _ e) (Nat.le_refl _) ?_, rfl, q _ hf⟩
  exact ⟨z, us, r, ⟨_, Heap.get?_push_size _ rfl, rfl, _, rfl⟩⟩
theorem pe_lst (h : PA X es t) : PE X (.List es pos) (tLst t) := by
  intro pins s σ H Q I hq
  refine wpAny_List_spliced (thn (h pos pins s σ H _ I hq) fun us s1 ⟨xs, H1, I1, r, z, q⟩ => ⟨by rw [← r.length]; exact z, ?_⟩)
  have hf : H1 s1.heap.objs.size = none := I1.hok.fresh (Nat.le_refl _)
  refine ⟨.ref s1.heap.objs.size, upd H1 s1.heap.objs.size (.lst xs), I1.laid (t' := s1.toks) (fun b u e => Heap.get?_push_of_some _ e) (Nat.le_refl _) ?_, rfl, q _ hf⟩
  exact ⟨z, us, 0, r, Heap.get?_push_size _ rfl⟩
end

/-! ### what a def promises -/
/-- a def's promise: the bound arguments in the parameters' order, the heap, the wanted end, the wanted exception -/
abbrev Sp := List V → Hp → VK → XK → Prop
/-- how an exception lies behind a call (file 08 gives it): the callers' frames, abstract heap and state ahead of the call, the wish, the exception, the state -/
abbrev CXT := List Env → Hp → Shared → XK → Value → Shared → Prop

/-- the state at a call -/
structure Env0 (P : Program) (w : World) (K : PySem.W.Frag) (mg : Str → Option Value) (base : Heap) (A : Around) (outer : List Env) (s : Shared) (H : Hp) : Prop where
  frames : A.frames = some outer
  mod : Mod K mg base
  bs : ∀ b o, base.get? b = some o → s.heap.get? b = some o ∧ H b = none
  bsz : base.objs.size ≤ s.heap.objs.size
  funs : s.heap.FunFrames base outer
  frf : ∀ b ∈ frs outer, H b = none
  hok : HOk P w H s.heap
  bare : AllBare s.gens
/-- a call's end -/
def CE (outer : List Env) (P : Program) (w : World) (H : Hp) (s : Shared) (Q : VK) (u : Value) (s' : Shared) : Prop :=
  ∃ v H', s'.os = s.os ∧ AllBare s'.gens ∧ Un (frs outer) [] H H' s.heap s'.heap ∧ HOk P w H' s'.heap ∧ RelV v u ∧ Q v H'
def CR (CX : CXT) (outer : List Env) (P : Program) (w : World) (H : Hp) (s : Shared) (Q : VK) (E : XK) (r : Result) (s' : Shared) : Prop :=
  match r with
  | .ok (.ret u) => CE outer P w H s Q u s'
  | .ok _ => False
  | .error e => CX outer H s E e s'
structure FnOk (P : Program) (w : World) (K : PySem.W.Frag) (mg : Str → Option Value) (base : Heap) (CX : CXT) (k : Nat) (f : Addr) (fd : FuncData) (ps : List Str) (sp : Sp) : Prop where
  len : ∀ vs H Q E, sp vs H Q E → vs.length = ps.length
  run : ∀ (A : Around) (outer : List Env) (s : Shared) (H : Hp) (args : Args) (us : List Value) (vs : List V) (Q : VK) (E : XK), Room k A → Env0 P w K mg base A outer s H → BindsTo s fd args (ps.zip us) → Vals vs us → sp vs H Q E →
    codeAny (model P w) A (.call (.ref f) args) (CR CX outer P w H s Q E) s
theorem FnOk.mono {P : Program} {w : World} {K : PySem.W.Frag} {mg : Str → Option Value} {base : Heap} {CX : CXT} {j k : Nat} {f : Addr} {fd : FuncData} {ps : List Str} {sp : Sp} (F : FnOk P w K mg base CX j f fd ps sp) (h : j ≤ k) :
    FnOk P w K mg base CX k f fd ps sp := ⟨F.len, fun A outer s H args us vs Q E hr => F.run A outer s H args us vs Q E (hr.mono h)⟩
/-- a weaker promise -/
theorem FnOk.imp {P : Program} {w : World} {K : PySem.W.Frag} {mg : Str → Option Value} {base : Heap} {CX : CXT} {k : Nat} {f : Addr} {fd : FuncData} {ps : List Str} {sp sp' : Sp} (F : FnOk P w K mg base CX k f fd ps sp)
    (h : ∀ vs H Q E, sp' vs H Q E → sp vs H Q E) : FnOk P w K mg base CX k f fd ps sp' :=
  ⟨fun vs H Q E q => F.len vs H Q E (h _ _ _ _ q), fun A outer s H args us vs Q E hr he hb hv hs => F.run A outer s H args us vs Q E hr he hb hv (h _ _ _ _ hs)⟩

theorem Env0.make {P : Program} {w : World} {K : PySem.W.Frag} {mg : Str → Option Value} {base : Heap} {A : Around} {outer : List Env} {s : Shared} {H : Hp} (e : Env0 P w K mg base A outer s H) (C : Addr) (us : List Value) (kw : List (Str × Value)) :
    Env0 P w K mg base (A.under (.builtin "type.__call__" ⟨.ref C :: us, kw⟩)) outer s H := ⟨by first | exact e.frames | (simpa [Around.under, Code.envs, Code.isFrame, pushEnvs] using e.frames), e.mod, e.bs, e.bsz, e.funs, e.frf, e.hok, e.bare⟩
theorem Env0.in1 {P : Program} {w : World} {K : PySem.W.Frag} {mg : Str → Option Value} {base : Heap} {A : Around} {outer : List Env} {s : Shared} {H : Hp} (e : Env0 P w K mg base A outer s H) :
    Env0 P w K mg base A.in1 outer s H := ⟨e.frames, e.mod, e.bs, e.bsz, e.funs, e.frf, e.hok, e.bare⟩

section
variable {X : Cx} {pins : List (Addr × Obj)} {σ : St} {H : Hp} {s s' : Shared}
/-- from a body: what a callee wants -/
theorem Inv.env0 (I : Inv X pins σ H s) : Env0 X.prog X.w X.K X.mg X.base X.A X.stack s H :=
  ⟨I.ok.frames, I.ok.mod, I.bs, Nat.le_trans I.ok.bsz I.sz, I.stack, I.stkFree, I.hok, I.bare⟩
/-- behind a call -/
theorem Inv.after {Q : VK} {u : Value} (I : Inv X pins σ H s) (h : CE X.stack X.prog X.w H s Q u s') : EP X pins σ Q u s' := by
  obtain ⟨v, H', os, bare, un, hok, r, q⟩ := h
  obtain ⟨hh, g, d, t, os'⟩ := s'
  obtain rfl : os' = s.os := os
  exact ⟨v, H', I.call (h' := hh) (g' := g) (d' := d) (t' := t) (ch := []) un hok bare (fun b z => absurd z (by simp)), r, q⟩
end

/-! ### calls -/
/-- f(..): the written arguments, then the defaults dvs; E: what is wanted of an exception -/
def tCall (sp : Sp) (dvs : List V) (E : XK) (t : TA) : TE := fun σ H Q => t σ H fun vs H1 => sp (vs ++ dvs) H1 Q E
/-- o.m(..) of an instance of the class at C -/
def tMeth (C : Addr) (m : Str) (sp : Sp) (dvs : List V) (E : XK) (ta : TE) (t : TA) : TE := fun σ H Q => ta σ H fun x H1 => ∃ a dx fs, x = .ref a ∧ H1 a = some (.ins C dx fs) ∧ fs.lookup m = none ∧
  t σ H1 fun vs H2 => sp (x :: (vs ++ dvs)) H2 Q E
/-- C(..): a new instance and its dict, then __init__ -/
def tMake (C : Addr) (sp : Sp) (dvs : List V) (E : XK) (t : TA) : TE := fun σ H Q => t σ H fun vs H1 => ∀ x dx, H1 x = none → H1 dx = none → dx ≠ x →
  sp (.ref x :: (vs ++ dvs)) (upd (upd H1 dx (.own x)) x (.ins C dx [])) (fun v H2 => v = .non ∧ Q (.ref x) H2) E

/-- how the parameters are bound: us the positional arguments, kw the keywords' values by name, ds the defaults that fill up -/
def Binds (K : PySem.W.Frag) (fd : FuncData) (ps : List Str) (ds : List Value) : Prop :=
  ∀ (s : Shared) (us : List Value), K.In s.heap → (us ++ ds).length = ps.length → BindsTo s fd ⟨us, []⟩ (ps.zip (us ++ ds))
/-- every parameter is given -/
theorem Binds.all {K : PySem.W.Frag} {fd : FuncData} {ps : List Str} (h : ∀ us : List Value, us.length = ps.length → bindArgs fd ⟨us, []⟩ = pure (ps.zip us)) : Binds K fd ps [] := fun s us _ hl => by
  rw [List.append_nil] at hl ⊢
  exact .of_eq (h us hl)

/-- an exception of a callee reaches what this body wants of exceptions -/
def Passes (CX : CXT) (X : Cx) (E : XK) : Prop := ∀ (pins : List (Addr × Obj)) (σ : St) (H : Hp) (s : Shared) (e : Value) (s' : Shared), Inv X pins σ H s → CX X.stack H s E e s' → X.xe e s'

section
variable {X : Cx} {CX : CXT} {k : Nat} {f C : Addr} {fd : FuncData} {ps : List Str} {sp : Sp} {dvs : List V} {ds : List Value} {E : XK} {x m : Str} {p pos apos : Pos} {e o : Expr} {es : List Expr} {ta : TE} {t : TA}

/-- the callee runs -/
theorem run_fn {pins : List (Addr × Obj)} {σ : St} {H : Hp} {s : Shared} {Q : VK} {us : List Value} {vs : List V} (F : FnOk X.prog X.w X.K X.mg X.base CX k f fd ps sp) (hr : Room k X.A) (hb : Binds X.K fd ps ds) (hd : Vals dvs ds) (hx : Passes CX X E)
    (I : Inv X pins σ H s) (r : Vals vs us) (h : sp (vs ++ dvs) H Q E) : wpAny (model X.prog X.w) X.A (call (.ref f) us) (EP X pins σ Q) X.xe s := by
  have r2 : Vals (vs ++ dvs) (us ++ ds) := r.append hd
  have hl : (us ++ ds).length = ps.length := by rw [← r2.length]; exact F.len _ _ _ _ h
  refine wpAny_call (codeAny_mono (F.run X.A X.stack s H ⟨us, []⟩ (us ++ ds) (vs ++ dvs) Q E hr I.env0 (hb s us I.kIn hl) r2 h) fun r s' hq => ?_)
  cases r with
  | error e => exact hx pins σ H s e s' I hq
  | ok fl =>
    cases fl with
    | ret u => exact I.after hq
    | next => exact False.elim hq
    | brk => exact False.elim hq
    | cont => exact False.elim hq

theorem pe_call (F : FnOk X.prog X.w X.K X.mg X.base CX k f fd ps sp) (hr : Room k X.A) (hg : Gl X x) (hm : X.mg x = some (.ref f)) (hk : PySem.W.keepIn X.K (.ref f) = true) (hb : Binds X.K fd ps ds) (hd : Vals dvs ds) (hx : Passes CX X E)
    (ha : PA X (e :: es) t) (hdb : (x == ("__debug__" : Str)) = false := by decide) (he : starEach (e :: es) X.env = (false, eval e X.env) :: starEach es X.env := by rfl) (hpl : (backTo pos (starEach es X.env)).any (·.1) = false := by rfl) :
    PE X (.Call (.Name x p) (e :: es) [] pos) (tCall sp dvs E t) := by
  intro pins s σ H Q I h
  refine wpAny_Call_Name_kw (ld_glob I hg hm ?_ hdb)
  refine PySem.W.callWith_K (h₀ := X.base) I.ok.mod.kin hk (thn (ha pos pins s σ H _ I h) fun us s1 ⟨vs, H1, I1, r, q⟩ => ⟨I1.kIn, ?_⟩) he hpl
  exact run_fn F hr hb hd hx I1 r q
theorem pe_call0 (F : FnOk X.prog X.w X.K X.mg X.base CX k f fd ps sp) (hr : Room k X.A) (hg : Gl X x) (hm : X.mg x = some (.ref f)) (hk : PySem.W.keepIn X.K (.ref f) = true) (hb : Binds X.K fd ps ds) (hd : Vals dvs ds) (hx : Passes CX X E)
    (hdb : (x == ("__debug__" : Str)) = false := by decide) : PE X (.Call (.Name x p) [] [] pos) (tCall sp dvs E tNil) := by
  intro pins s σ H Q I h
  refine wpAny_Call_Name_kw (ld_glob I hg hm ?_ hdb)
  exact PySem.W.callWith_K0 I.kIn hk (run_fn (us := []) F hr hb hd hx I .nil h)

/-- o.m(e, ..) -/
theorem pe_meth {pl : Sem Bool} (he : PE X o ta) (c : Cls X.K C) (hm : Meth X.K C m f) (F : FnOk X.prog X.w X.K X.mg X.base CX k f fd ps sp) (hr : Room k X.A) (hb : Binds X.K fd ps ds) (hd : Vals dvs ds) (hx : Passes CX X E) (ha : PA X (e :: es) t)
    (hst : starEach (e :: es) X.env = (false, eval e X.env) :: starEach es X.env := by rfl) (hpl : (backTo pos (starEach es X.env)).any (·.1) = false := by rfl)
    (ht : eval (.Call (.Attribute o m apos) (e :: es) [] pos) X.env = (do
      let ov ← eval o X.env
      standAt apos.atName
      let (f, first) ← holding [ov] (getMethod ov m pl)
      callWith pos f first (backTo pos (starEach (e :: es) X.env)) (backToKw pos (keywordEach [] X.env))) := by rfl) :
    PE X (.Call (.Attribute o m apos) (e :: es) [] pos) (tMeth C m sp dvs E ta t) := by
  intro pins s σ H Q I h
  refine PySem.W.methodCall_KW (pl := pl) (thn (he pins s σ H _ I h) fun u s1 ⟨x, H1, I1, rx, a, dx, fs, ex, ea, l, q⟩ => ?_) ht
  subst ex
  obtain rfl : u = Value.ref a := rx
  refine getmeth_ok I1 ea c hm l ?_
  refine PySem.W.callWith_K (first := [.ref a]) (h₀ := X.base) I.ok.mod.kin hm.kp (thn (ha pos pins s1 σ H1 _ I1 q) fun us s2 ⟨vs, H2, I2, r, q2⟩ => ⟨I2.kIn, ?_⟩) hst hpl
  exact run_fn (us := .ref a :: us) (vs := .ref a :: vs) F hr hb hd hx I2 (.cons rfl r) q2
/-- o.m() -/
theorem pe_meth0 {pl : Sem Bool} (he : PE X o ta) (c : Cls X.K C) (hm : Meth X.K C m f) (F : FnOk X.prog X.w X.K X.mg X.base CX k f fd ps sp) (hr : Room k X.A) (hb : Binds X.K fd ps ds) (hd : Vals dvs ds) (hx : Passes CX X E)
    (ht : eval (.Call (.Attribute o m apos) [] [] pos) X.env = (do
      let ov ← eval o X.env
      standAt apos.atName
      let (f, first) ← holding [ov] (getMethod ov m pl)
      callWith pos f first (backTo pos (starEach [] X.env)) (backToKw pos (keywordEach [] X.env))) := by rfl) :
    PE X (.Call (.Attribute o m apos) [] [] pos) (tMeth C m sp dvs E ta tNil) := by
  intro pins s σ H Q I h
  refine PySem.W.methodCall_KW (pl := pl) (thn (he pins s σ H _ I h) fun u s1 ⟨x, H1, I1, rx, a, dx, fs, ex, ea, l, q⟩ => ?_) ht
  subst ex
  obtain rfl : u = Value.ref a := rx
  refine getmeth_ok I1 ea c hm l ?_
  exact PySem.W.callWith_K0 (first := [.ref a]) I1.kIn hm.kp (run_fn (us := [.ref a]) (vs := [.ref a]) F hr hb hd hx I1 (.cons rfl .nil) q)

/-- what a class must have to be made -/
structure Mk (K : PySem.W.Frag) (C f : Addr) : Prop where
  makes : PySem.W.makesIn K C = true
  init : PySem.W.findIn K (.ref C) "__init__" = some (some (.ref f))
  fn : PySem.W.isFn K (.ref f) = true
  kp : PySem.W.keepIn K (.ref C) = true

theorem run_make {pins : List (Addr × Obj)} {σ : St} {H : Hp} {s : Shared} {Q : VK} {us : List Value} {vs : List V} (M : Mk X.K C f) (F : FnOk X.prog X.w X.K X.mg X.base CX k f fd ps sp) (hr : Room (k + 1) X.A) (hb : Binds X.K fd ps ds) (hd : Vals dvs ds)
    (hx : Passes CX X E) (I : Inv X pins σ H s) (r : Vals vs us)
    (h : ∀ x dx, H x = none → H dx = none → dx ≠ x → sp (.ref x :: (vs ++ dvs)) (upd (upd H dx (.own x)) x (.ins C dx [])) (fun v H2 => v = .non ∧ Q (.ref x) H2) E) :
    wpAny (model X.prog X.w) X.A (call (.ref C) us) (EP X pins σ Q) X.xe s := by
  have hq := h (s.heap.objs.size + 1) s.heap.objs.size (I.hok.fresh (Nat.le_succ _)) (I.hok.fresh (Nat.le_refl _)) (Nat.ne_of_lt (Nat.lt_succ_self _))
  have I2 := Inv.made (C := C) I
  have r2 : Vals (V.ref (s.heap.objs.size + 1) :: (vs ++ dvs)) (Value.ref (s.heap.objs.size + 1) :: (us ++ ds)) := .cons rfl (r.append hd)
  have hl : (Value.ref (s.heap.objs.size + 1) :: us ++ ds).length = ps.length := by
    have e := r2.length
    rw [F.len _ _ _ _ hq] at e
    exact e.symm
  refine wpAny_call (make_map (f := f) I.kIn M.makes M.init (beq_iff_eq.mp M.fn) (codeAny_mono (F.run _ X.stack _ _ ⟨Value.ref (s.heap.objs.size + 1) :: us, []⟩ (Value.ref (s.heap.objs.size + 1) :: (us ++ ds)) _ _ E (hr.make C us [])
    (I2.env0.make C us []) (hb _ (Value.ref (s.heap.objs.size + 1) :: us) I2.kIn hl) r2 hq) fun r s' hq' => ?_))
  cases r with
  | error e => exact hx pins σ _ _ e s' I2 hq'
  | ok fl =>
    cases fl with
    | ret u =>
      obtain ⟨v, H', I3, rv, ev, q3⟩ := I2.after hq'
      subst ev
      exact ⟨rv, ⟨V.ref (s.heap.objs.size + 1), H', I3, rfl, q3⟩⟩
    | next => exact False.elim hq'
    | brk => exact False.elim hq'
    | cont => exact False.elim hq'
theorem pe_make (M : Mk X.K C f) (F : FnOk X.prog X.w X.K X.mg X.base CX k f fd ps sp) (hr : Room (k + 1) X.A) (hg : Gl X x) (hm : X.mg x = some (.ref C)) (hb : Binds X.K fd ps ds) (hd : Vals dvs ds) (hx : Passes CX X E)
    (ha : PA X (e :: es) t) (hdb : (x == ("__debug__" : Str)) = false := by decide) (he : starEach (e :: es) X.env = (false, eval e X.env) :: starEach es X.env := by rfl) (hpl : (backTo pos (starEach es X.env)).any (·.1) = false := by rfl) :
    PE X (.Call (.Name x p) (e :: es) [] pos) (tMake C sp dvs E t) := by
  intro pins s σ H Q I h
  refine wpAny_Call_Name_kw (ld_glob I hg hm ?_ hdb)
  refine PySem.W.callWith_K (h₀ := X.base) I.ok.mod.kin M.kp (thn (ha pos pins s σ H _ I h) fun us s1 ⟨vs, H1, I1, r, q⟩ => ⟨I1.kIn, ?_⟩) he hpl
  exact run_make M F hr hb hd hx I1 r q
theorem pe_make0 (M : Mk X.K C f) (F : FnOk X.prog X.w X.K X.mg X.base CX k f fd ps sp) (hr : Room (k + 1) X.A) (hg : Gl X x) (hm : X.mg x = some (.ref C)) (hb : Binds X.K fd ps ds) (hd : Vals dvs ds) (hx : Passes CX X E)
    (hdb : (x == ("__debug__" : Str)) = false := by decide) : PE X (.Call (.Name x p) [] [] pos) (tMake C sp dvs E tNil) := by
  intro pins s σ H Q I h
  refine wpAny_Call_Name_kw (ld_glob I hg hm ?_ hdb)
  exact PySem.W.callWith_K0 I.kIn M.kp (run_make (us := []) M F hr hb hd hx I .nil h)
end

/-! ### keywords -/
/-- the values of the keywords, from the left -/
def PK (X : Cx) (kws : List Keyword) (t : TA) : Prop :=
  ∀ (pos : Pos) (pins : List (Addr × Obj)) (s : Shared) (σ : St) (H : Hp) (Q : List V → Hp → Prop), Inv X pins σ H s → t σ H Q → wpAny (model X.prog X.w) X.A (evalAll ((backToKw pos (keywordEach kws X.env)).map (·.2))) (AP X pins σ Q) X.xe s
section
variable {X : Cx} {CX : CXT} {k : Nat} {f C : Addr} {fd : FuncData} {ps ks : List Str} {sp : Sp} {E : XK} {x m : Str} {p pos apos kpos : Pos} {e o : Expr} {es : List Expr} {kws : List Keyword} {te ta : TE} {t tk : TA} {nm : Option Str}
theorem pk_nil : PK X [] tNil := fun _ _ _ _ H Q I h => wpAny_evalAll_nil ⟨[], H, I, .nil, h⟩
theorem pk_cons (ha : PE X e te) (hr : PK X kws t) : PK X (⟨nm, e, kpos⟩ :: kws) (tCons te t) := by
  intro pos pins s σ H Q I h
  show wpAny _ _ (evalAll ((do let v ← eval e X.env; standAt pos; pure v) :: (backToKw pos (keywordEach kws X.env)).map (·.2))) _ _ s
  refine wpAny_evalAll_cons (wpAny_bind (thn (ha pins s σ H _ I h) fun u s1 ⟨x, H1, I1, r1, q1⟩ => wpAny_bind (wpAny_standAt (wpAny_pure ?_))))
  exact thn (hr pos pins s1 σ H1 _ I1 q1) fun us s2 ⟨xs, H2, I2, r2, q2⟩ => ⟨x :: xs, H2, I2, .cons r1 r2, q2⟩

/-- how a call with keywords binds: g puts the positional values us and the keywords' values ws (names ks) in the parameters' order, defaults among them -/
structure KBinds (K : PySem.W.Frag) (fd : FuncData) (ps ks : List Str) (g : List Value → List Value → List Value) (gV : List V → List V → List V) : Prop where
  to : ∀ (s : Shared) (us ws : List Value), K.In s.heap → (g us ws).length = ps.length → BindsTo s fd ⟨us, ks.zip ws⟩ (ps.zip (g us ws))
  rel : ∀ {vs : List V} {us : List Value} {zs : List V} {ws : List Value}, Vals vs us → Vals zs ws → Vals (gV vs zs) (g us ws)
def tCallK (sp : Sp) (gV : List V → List V → List V) (E : XK) (t tk : TA) : TE := fun σ H Q => t σ H fun vs H1 => tk σ H1 fun zs H2 => sp (gV vs zs) H2 Q E
variable {g : List Value → List Value → List Value} {gV : List V → List V → List V}
theorem run_fnk {pins : List (Addr × Obj)} {σ : St} {H : Hp} {s : Shared} {Q : VK} {us ws : List Value} {vs zs : List V} (F : FnOk X.prog X.w X.K X.mg X.base CX k f fd ps sp) (hr : Room k X.A) (hb : KBinds X.K fd ps ks g gV) (hx : Passes CX X E)
    (I : Inv X pins σ H s) (r : Vals vs us) (rz : Vals zs ws) (h : sp (gV vs zs) H Q E) : wpAny (model X.prog X.w) X.A (call (.ref f) us (ks.zip ws)) (EP X pins σ Q) X.xe s := by
  have r2 := hb.rel r rz
  have hl : (g us ws).length = ps.length := by rw [← r2.length]; exact F.len _ _ _ _ h
  refine wpAny_call (codeAny_mono (F.run X.A X.stack s H ⟨us, ks.zip ws⟩ (g us ws) (gV vs zs) Q E hr I.env0 (hb.to s us ws I.kIn hl) r2 h) fun r s' hq => ?_)
  cases r with
  | error e => exact hx pins σ H s e s' I hq
  | ok fl =>
    cases fl with
    | ret u => exact I.after hq
    | next => exact False.elim hq
    | brk => exact False.elim hq
    | cont => exact False.elim hq
/-- f(e, .., k = v, ..) -/
theorem pe_callK (F : FnOk X.prog X.w X.K X.mg X.base CX k f fd ps sp) (hr : Room k X.A) (hg : Gl X x) (hm : X.mg x = some (.ref f)) (hk : PySem.W.keepIn X.K (.ref f) = true) (hb : KBinds X.K fd ps ks g gV) (hx : Passes CX X E)
    (ha : PA X (e :: es) t) (hkw : PK X kws tk) (hall : (backToKw pos (keywordEach kws X.env)).all (·.1.isSome) = true := by rfl) (hks : (backToKw pos (keywordEach kws X.env)).filterMap (·.1) = ks := by rfl)
    (hdb : (x == ("__debug__" : Str)) = false := by decide) (he : starEach (e :: es) X.env = (false, eval e X.env) :: starEach es X.env := by rfl)
    (hpl : ((backTo pos (starEach (e :: es) X.env)).any (·.1) || (backToKw pos (keywordEach kws X.env)).any (·.1.isNone)) = false := by rfl) :
    PE X (.Call (.Name x p) (e :: es) kws pos) (tCallK sp gV E t tk) := by
  intro pins s σ H Q I h
  refine wpAny_Call_Name_kw (ld_glob I hg hm ?_ hdb)
  refine PySem.W.callWith_KW (h₀ := X.base) I.ok.mod.kin hk hall (thn (ha pos pins s σ H _ I h) fun us s1 ⟨vs, H1, I1, r, q⟩ => ?_) hpl he
  refine thn (hkw pos pins s1 σ H1 _ I1 q) fun ws s2 ⟨zs, H2, I2, rz, q2⟩ => ⟨I2.kIn, ?_⟩
  rw [hks]
  exact run_fnk F hr hb hx I2 r rz q2
end

/-! ### a def's body keeps its promise -/
/-- names: the parameters first -/
structure FnScope (N P : List Str) (sc : Scope) : Prop where
  kind : sc.kind = .function
  co : sc.isCoroutine = false
  gen : sc.isGenerator = false
  nd : N.Nodup
  pre : N.take P.length = P
  par : ∀ x ∈ P, sc.names.lookup x = some .local ∨ sc.names.lookup x = some .cell
  nofree : ∀ y ∈ sc.names, y.2 ≠ .free

theorem bindL_out {kindOf : Str → Option NameKind} {x : Str} : ∀ {binds : List (Str × Value)} {m : Str → Option Value}, (∀ v, (x, v) ∉ binds) → bindL kindOf binds m x = m x
  | [], _, _ => rfl
  | (n, v) :: r, m, h => by
    unfold bindL
    rw [bindL_out fun w hw => h w (List.mem_cons_of_mem _ hw)]
    split
    · have : x ≠ n := by rintro rfl; exact h v List.mem_cons_self
      simp [this]
    · rfl
theorem bindC_out {kindOf : Str → Option NameKind} {x : Str} : ∀ {binds : List (Str × Value)} {m : Str → Option Value}, (∀ v, (x, v) ∉ binds) → bindC kindOf binds m x = m x
  | [], _, _ => rfl
  | (n, v) :: r, m, h => by
    unfold bindC
    rw [bindC_out fun w hw => h w (List.mem_cons_of_mem _ hw)]
    split
    · rfl
    · have : x ≠ n := by rintro rfl; exact h v List.mem_cons_self
      simp [this]
theorem bindL_get {kindOf : Str → Option NameKind} {x : Str} {v : Value} : ∀ {P : List Str} {vs : List Value} {i : Nat} {m : Str → Option Value}, P.Nodup → P[i]? = some x → vs[i]? = some v → kindOf x = some .local →
    bindL kindOf (P.zip vs) m x = some v
  | [], _, _, _, _, h, _, _ => by simp at h
  | _ :: _, [], _, _, _, _, h, _ => by simp at h
  | p :: P, w :: vs, 0, m, nd, h1, h2, hk => by
    simp at h1 h2; subst h1; subst h2
    show bindL kindOf ((p, w) :: P.zip vs) m p = _
    unfold bindL
    rw [bindL_out fun v hv => (List.nodup_cons.mp nd).1 (List.of_mem_zip hv).1, if_pos hk]
    simp
  | p :: P, w :: vs, i + 1, m, nd, h1, h2, hk => by
    show bindL kindOf ((p, w) :: P.zip vs) m x = _
    unfold bindL
    exact bindL_get (i := i) (List.nodup_cons.mp nd).2 (by simpa using h1) (by simpa using h2) hk
theorem bindC_get {kindOf : Str → Option NameKind} {x : Str} {v : Value} : ∀ {P : List Str} {vs : List Value} {i : Nat} {m : Str → Option Value}, P.Nodup → P[i]? = some x → vs[i]? = some v → kindOf x ≠ some .local →
    bindC kindOf (P.zip vs) m x = some v
  | [], _, _, _, _, h, _, _ => by simp at h
  | _ :: _, [], _, _, _, _, h, _ => by simp at h
  | p :: P, w :: vs, 0, m, nd, h1, h2, hk => by
    simp at h1 h2; subst h1; subst h2
    show bindC kindOf ((p, w) :: P.zip vs) m p = _
    unfold bindC
    rw [bindC_out fun v hv => (List.nodup_cons.mp nd).1 (List.of_mem_zip hv).1, if_neg hk]
    simp
  | p :: P, w :: vs, i + 1, m, nd, h1, h2, hk => by
    show bindC kindOf ((p, w) :: P.zip vs) m x = _
    unfold bindC
    exact bindC_get (i := i) (List.nodup_cons.mp nd).2 (by simpa using h1) (by simpa using h2) hk

/-- the names' values at the entry -/
def start (N : List Str) (vs : List V) : St := vs.map some ++ List.replicate (N.length - vs.length) none

/-- the context of a def's body, at its entry; an exception leaves the frame, then lies as CX says -/
def cxOf (CX : CXT) (P : Program) (w : World) (K : PySem.W.Frag) (mg : Str → Option Value) (base : Heap) (N : List Str) (qual : Str) (scope : Scope) (f : Addr) (cd : Value) (A : Around) (outer : List Env) (s : Shared) (H : Hp) (E : XK) : Cx where
  prog := P
  w := w
  K := K
  mg := mg
  base := base
  A := A.deeper (envOfC qual scope s.heap.objs.size f cd)
  N := N
  s₀ := s
  H₀ := H
  env := envOfC qual scope s.heap.objs.size f cd
  outer := outer
  stack := envOfC qual scope s.heap.objs.size f cd :: outer
  ex := []
  calm := true
  fn := fun _ => true
  pn := []
  xe := fun e s' => wpAny (model P w) (A.deeper (envOfC qual scope s.heap.objs.size f cd)) (leaving (envOfC qual scope s.heap.objs.size f cd) e) (fun _ s'' => CX outer H s E e s'') (fun e' s'' => CX outer H s E e' s'') s'

theorem cell_has {sc : Scope} {n : Nat} {x : Str} (h : sc.names.lookup x = some .cell) : ∃ c, (cellsFrom n sc.names []).lookup x = some c := by
  have q := PySem.W.cellsFrom_some sc.names n [] (.inl h)
  exact Option.isSome_iff_exists.mp q

theorem inv_start {CX : CXT} {P : Program} {w : World} {K : PySem.W.Frag} {mg : Str → Option Value} {base : Heap} {N ps : List Str} {qual : Str} {scope : Scope} {f : Addr} {cd : Value} {A : Around} {outer : List Env} {s s1 : Shared} {H : Hp} {E : XK} {us : List Value} {vs : List V}
    (S : FnScope N ps scope) (hd : A.handled = none) (e0 : Env0 P w K mg base A outer s H) (hl : vs.length = ps.length) (r : Vals vs us)
    (x : InCallC s s.heap.objs.size (bindL (envOfC qual scope s.heap.objs.size f cd).kindOf (ps.zip us) fun _ => none) (cellsFrom (s.heap.objs.size + 1) scope.names []) (bindC (envOfC qual scope s.heap.objs.size f cd).kindOf (ps.zip us) fun _ => none) s1) :
    Inv (cxOf CX P w K mg base N qual scope f cd A outer s H E) [] (start N vs) H s1 := by
  have hpl : ps.length ≤ N.length := by have := congrArg List.length S.pre; rw [List.length_take] at this; omega
  obtain ⟨h1, tk, rfl, hk⟩ := x.done
  have noA : ∀ b : Addr, b ∉ (cxOf CX P w K mg base N qual scope f cd A outer s H E).ex := fun b z => absurd (show b ∈ ([] : List Addr) from z) (by simp)
  refine ⟨⟨e0.mod, S.kind, rfl, rfl, Nat.le_refl _, fun y z c h1 h2 => ?_, fun y hy => ?_, fun y c _ h => ?_, fun _ => hd, Around.frames_deeper e0.frames, .inr ⟨rfl, rfl⟩, fun b z => absurd z (noA b), e0.bs, e0.bsz, fun b _ _ => noA b, fun b z => absurd z (noA b), e0.funs, e0.frf⟩,
    rfl, e0.bare, Un.kept hk, ⟨_, x.toInCall.ns, fun i y v h1 h2 h3 => ?_⟩, fun y c h => ⟨_, x.cell y c h⟩, e0.hok.fresh (Nat.le_refl _), fun y c h => ?_, fun p hp => absurd (show p ∈ ([] : List (Addr × Obj)) from hp) (by simp), e0.hok.kept hk, ?_⟩
  · exact name_of_addr x.apart (PySem.mem_of_lookup h1) (PySem.mem_of_lookup h2)
  · have hy : scope.names.lookup y = some .cell ∨ scope.names.lookup y = some .free := hy
    rcases hy with hy | hy
    · exact cell_has hy
    · exact absurd rfl (S.nofree _ (PySem.mem_of_lookup hy))
  · exact Nat.le_of_lt (x.above y c (PySem.mem_of_lookup h))
  · have hi : i < vs.length := by
      unfold start at h2
      by_cases hi : i < vs.length
      · exact hi
      · rw [List.getElem?_append_right (by simpa using hi)] at h2
        rw [List.getElem?_replicate] at h2
        split at h2 <;> cases h2
    have ha : vs[i]? = some v := by
      unfold start at h2
      rw [List.getElem?_append_left (by simpa using hi), List.getElem?_map] at h2
      cases e : vs[i]? with
      | none => rw [e] at h2; cases h2
      | some a => rw [e] at h2; cases h2; rfl
    obtain ⟨u, hu, rv⟩ := r.get ha
    have hp : ps[i]? = some y := by
      rw [← S.pre, List.getElem?_take_of_lt (by omega)]; exact h1
    have ndP : ps.Nodup := by rw [← S.pre]; exact S.nd.sublist (List.take_sublist _ _)
    refine ⟨u, rv, ?_⟩
    rcases S.par y (List.mem_of_getElem? hp) with k | k
    · exact .inl ⟨k, bindL_get ndP hp hu k⟩
    · obtain ⟨c, e⟩ := cell_has (n := s.heap.objs.size + 1) k
      refine .inr ⟨.inl k, c, e, ?_⟩
      have q := x.cell y c e
      rw [bindC_get ndP hp hu (by show scope.names.lookup y ≠ _; rw [k]; decide)] at q
      exact q
  · exact e0.hok.fresh (Nat.le_of_lt (x.above y c (PySem.mem_of_lookup h)))
  · unfold start
    show _ = N.length
    rw [List.length_append, List.length_map, List.length_replicate]
    omega

/-- THE RULE: a def (or a method) of the text, by its body. The body's reading t is chosen for each entry; it is run at the parameters' values -/
theorem fn_of {CX : CXT} {P : Program} {w : World} {K : PySem.W.Frag} {mg : Str → Option Value} {base : Heap} {k : Nat} {f : Addr} {name qual : Str} {params : Arguments} {body : List Stmt} {scope : Scope} {dV kV doc pm cdv ct oc : Value} {an od : Option Addr}
    {osl : Array (Option Value)} {N ps : List Str} {sp : Sp} (lk : K.lookup f = some ⟨oc, od, .func (PySem.W.fnOf name qual params body scope dV kV doc pm an cdv ct), osl⟩) (hcd : PySem.W.codeIn K cdv qual = true) (S : FnScope N ps scope)
    (len : ∀ vs H Q E, sp vs H Q E → vs.length = ps.length)
    (hbody : ∀ (A : Around) (outer : List Env) (s : Shared) (H : Hp) (vs : List V) (Q : VK) (E : XK), Room k (A.deeper (envOfC qual scope s.heap.objs.size f cdv)) → sp vs H Q E →
      ∃ t, PSs (cxOf CX P w K mg base N qual scope f cdv A outer s H E) body t ∧ t { nx := fun _ H' => Q .non H', rt := Q } (start N vs) H) :
    FnOk P w K mg base CX (k + 1) f (PySem.W.fnOf name qual params body scope dV kV doc pm an cdv ct) ps sp := by
  refine ⟨len, fun A outer s H args us vs Q E hr e0 hb r hsp => ?_⟩
  have hl := len _ _ _ _ hsp
  have KX : K.In s.heap := e0.mod.kin.keeps fun b o e => (e0.bs b o e).1
  have lim : s.heap.NoLimit := e0.mod.nolimit.keeps fun b o e => (e0.bs b o e).1
  have hkind : ∀ y ∈ ps.zip us, scope.names.lookup y.1 = some .local ∨ (scope.names.lookup y.1 = some .cell ∧ ((cellsFrom (s.heap.objs.size + 1) scope.names []).lookup y.1).isSome = true) := fun ⟨n, v⟩ hy => by
    rcases S.par n (List.of_mem_zip hy).1 with q | q
    · exact .inl q
    · exact .inr ⟨q, PySem.W.cellsFrom_some _ _ _ (.inl q)⟩
  refine codeAny_call_function hr.depth (KX _ _ lk) rfl S.co S.gen rfl (PySem.W.codeRec_of KX hcd) (hb _ _ _ _ ?_)
  refine wpAny_newFunctionEnv_cells S.kind hkind fun env he s1 x => ?_
  subst he
  refine ⟨lim.keeps x.toInCall.keep, codeAny_func ?_⟩
  obtain ⟨t, ht, hq⟩ := hbody A outer s H vs Q E (hr.deeper _) hsp
  have I : Inv (cxOf CX P w K mg base N qual scope f cdv A outer s H E) [] (start N vs) H s1 := inv_start S hr.hd e0 hl r x
  refine wpAny_mono (ht [] s1 (start N vs) H _ I hq) (fun fl s' hs => ?_) fun e s' hs => hs
  have fin : ∀ {σ' : St} {H' : Hp} {v : V} {u : Value}, Inv (cxOf CX P w K mg base N qual scope f cdv A outer s H E) [] σ' H' s' → RelV v u → Q v H' → CE outer P w H s Q u s' :=
    fun {σ' H' v u} J rv q => ⟨v, H', J.os, J.bare, J.base, J.hok, rv, q⟩
  cases fl with
  | ret u =>
    obtain ⟨v, σ', H', J, rv, q⟩ := hs
    exact fin J rv q
  | next =>
    obtain ⟨σ', H', J, q⟩ := hs
    exact fin (v := V.non) (u := Value.none) J rfl q
  | brk =>
    obtain ⟨_, _, _, q⟩ := hs
    exact False.elim q
  | cont =>
    obtain ⟨_, _, _, q⟩ := hs
    exact False.elim q
end L2

namespace L2
open PySem PySem.Spec PyProof.Rows
section
variable {X : Cx} {x : Str} {p pos : Pos} {e : Expr} {es : List Expr} {t : TA} {id T : String} {r : List V → Hp → VK → Prop}

def tCB (r : List V → Hp → VK → Prop) (t : TA) : TE := fun σ H Q => t σ H fun vs H1 => r vs H1 Q
/-- f(e, ..), f a built-in function -/
theorem pe_callB (hc : CallR X (.builtin id) r) (hg : Gl X x) (hm : X.mg x = none) (hv : bootBuiltins x = some (.builtin id)) (ha : PA X (e :: es) t) (hn : x ≠ "__name__" := by decide) (hdb : (x == ("__debug__" : Str)) = false := by decide)
    (he : starEach (e :: es) X.env = (false, eval e X.env) :: starEach es X.env := by rfl) (hpl : (backTo pos (starEach es X.env)).any (·.1) = false := by rfl) : PE X (.Call (.Name x p) (e :: es) [] pos) (tCB r t) := by
  intro pins s σ H Q I h
  refine wpAny_Call_Name_kw (ld_blt I hg hm hv ?_ hn hdb)
  exact PyProof.Rows.callWith_builtin1 (thn (ha pos pins s σ H _ I h) fun us s1 ⟨vs, H1, I1, r1, q1⟩ => hc pins s1 σ H1 vs us Q I1 r1 q1) he hpl
/-- T(e, ..), T a built-in type -/
theorem pe_callTy (hc : CallR X (.type T) r) (hg : Gl X x) (hm : X.mg x = none) (hv : bootBuiltins x = some (.type T)) (ha : PA X (e :: es) t) (hn : x ≠ "__name__" := by decide) (hdb : (x == ("__debug__" : Str)) = false := by decide)
    (he : starEach (e :: es) X.env = (false, eval e X.env) :: starEach es X.env := by rfl) (hpl : (backTo pos (starEach es X.env)).any (·.1) = false := by rfl) : PE X (.Call (.Name x p) (e :: es) [] pos) (tCB r t) := by
  intro pins s σ H Q I h
  refine wpAny_Call_Name_kw (ld_blt I hg hm hv ?_ hn hdb)
  exact PyProof.Rows.callWith_type1 (thn (ha pos pins s σ H _ I h) fun us s1 ⟨vs, H1, I1, r1, q1⟩ => hc pins s1 σ H1 vs us Q I1 r1 q1) he hpl
/-- T() -/
theorem pe_callTy0 (hc : CallR X (.type T) r) (hg : Gl X x) (hm : X.mg x = none) (hv : bootBuiltins x = some (.type T)) (hn : x ≠ "__name__" := by decide) (hdb : (x == ("__debug__" : Str)) = false := by decide) :
    PE X (.Call (.Name x p) [] [] pos) (tCB r tNil) := by
  intro pins s σ H Q I h
  refine wpAny_Call_Name_kw (ld_blt I hg hm hv ?_ hn hdb)
  exact PyProof.Rows.callWith_type0 (hc pins s σ H [] [] Q I .nil h)
end
end L2

namespace HT
open PySem PyProof.Rows

/-- t < u of tuples of ints -/
def lexLt : List Int → List Int → Bool
  | [], [] => false
  | [], _ :: _ => true
  | _ :: _, [] => false
  | x :: xs, y :: ys => if x = y then lexLt xs ys else decide (x < y)
theorem lexLt_cons (x y : Int) (xs ys : List Int) : lexLt (x :: xs) (y :: ys) = if x = y then lexLt xs ys else decide (x < y) := rfl
theorem lexLt_nil_nil : lexLt [] [] = false := rfl
theorem lexLt_nil_cons (y : Int) (ys : List Int) : lexLt [] (y :: ys) = true := rfl
theorem lexLt_cons_nil (x : Int) (xs : List Int) : lexLt (x :: xs) [] = false := rfl

theorem eqAt_int (A : Around) (s : Shared) (a : Int) (t : Tok) (c : Int) (u : Tok) : ∃ e, SeqAt.EqAt A s (.int a t) (.int c u) e ∧ (e = true ↔ a = c) :=
  ⟨(a == c), SeqAt.EqAt.int_int a t c u, by simp⟩
theorem rcLt_int (A : Around) (s : Shared) (a : Int) (t : Tok) (c : Int) (u : Tok) (prog : Program) (w : World) (E : Value → Shared → Prop) (Q : Value → Shared → Prop) (h : Q (.bool (decide (a < c))) s) :
    wpAny (model prog w) A (richCompare .Lt (.int a t) (.int c u)) Q E s :=
  (PyProof.Rows.lt_int h : wpAny (model prog w) A (compareOp .Lt (.int a t) (.int c u)) Q E s)

section
open PySem.SeqAt
open PySem.AutoSeq1 (wpAny_loadPart')
open PySem.MeetsSeq PySem.MeetsSeq2 PySem.MeetsSeq3

theorem tuple_lt_ints (l b : Addr) (items items2 : Array Value) (n n2 : Nat) (dd dd2 : Option Addr) (sl sl2 : Array (Option Value)) (ns ms : List Int) (hi : IntsAre items.toList ns) (hj : IntsAre items2.toList ms) :
    Meets (Builtin.«tuple.__lt__» ⟨[.ref l, .ref b], []⟩)
      (fun _ R s => s.heap.get? l = some { cls := .type "tuple", dict := dd, data := .seq items n, slots := sl } ∧ s.heap.get? b = some { cls := .type "tuple", dict := dd2, data := .seq items2 n2, slots := sl2 } ∧
        R (.ok (.ret (.bool (lexLt ns ms)))) s) :=
  .of_wp fun prog w A R s h => by
    obtain ⟨hp, g, d, tk, os⟩ := s; obtain ⟨hl, hb, h⟩ := h
    have f2 := AutoSeq1.sub_tuple_tuple
    have z1 : items.size = ns.length := by rw [← hi.length]; simp
    have z2 : items2.size = ms.length := by rw [← hj.length]; simp
    wp_walk using wpAny_loadPart' hl, wpAny_loadPart' hb, wpAny_forIn_list _ (fun rest b s' => b.1 = none ∧ s' = ⟨hp, g, d, tk, os⟩ ∧ ∃ (vs ws : List Value) (ns' ms' : List Int), rest = vs.zip ws ∧
      IntsAre vs ns' ∧ IntsAre ws ms' ∧ ns'.length + items2.size = ms'.length + items.size ∧ R (.ok (.ret (.bool (lexLt ns' ms')))) ⟨hp, g, d, tk, os⟩) _
    case turn =>
      rintro ⟨y, x⟩ rest b s' ⟨hb', rfl, vs, ws, ns', ms', hz, hvi, hwi, hlen, hR⟩
      cases hvi with
      | nil => rw [List.zip_nil_left] at hz; cases hz
      | cons a t hvi' =>
        cases hwi with
        | nil => rw [List.zip_nil_right] at hz; cases hz
        | cons c u hwi' =>
          rw [List.zip_cons_cons] at hz
          injection hz with hyx hrest
          injection hyx with hy hx
          subst hy hx
          rw [lexLt_cons] at hR
          simp only [List.length_cons] at hlen
          obtain ⟨e, he, hiff⟩ := eqAt_int A.in1 ⟨hp, g, d, tk, os⟩ a t c u
          refine wpAny_bind (he prog w _ _ ?_)
          cases e with
          | true =>
            rw [if_pos (hiff.mp rfl)] at hR
            wp_walk
            exact ⟨rfl, rfl, _, _, _, _, hrest, hvi', hwi', by omega, hR⟩
          | false =>
            rw [if_neg (fun q => absurd (hiff.mpr q) Bool.false_ne_true)] at hR
            have hri := rcLt_int A.in1 ⟨hp, g, d, tk, os⟩ a t c u prog w
            wp_walk using hri
            exact ⟨_, rfl, by simpa using hR⟩
    case fin =>
      rintro ⟨b1, b2⟩ s' ⟨hb', rfl, vs, ws, ns', ms', hz, hvi, hwi, hlen, hR⟩
      simp only at hb'
      subst hb'
      have hv : lexLt ns' ms' = decide (items.size < items2.size) := by
        cases hvi with
        | nil =>
          cases hwi with
          | nil =>
            simp only [List.length_nil] at hlen
            rw [lexLt_nil_nil]
            exact (decide_eq_false (by omega)).symm
          | cons c u hw =>
            simp only [List.length_nil, List.length_cons] at hlen
            rw [lexLt_nil_cons]
            exact (decide_eq_true (by omega)).symm
        | cons a t hv =>
          cases hwi with
          | nil =>
            simp only [List.length_nil, List.length_cons] at hlen
            rw [lexLt_cons_nil]
            exact (decide_eq_false (by omega)).symm
          | cons c u hw =>
            rw [List.zip_cons_cons] at hz
            cases hz
      rw [hv] at hR
      wp_walk
      exact ⟨_, rfl, by simpa [Builtin.Tuple.tupleCompareSizes] using hR⟩
    case h =>
      exact ⟨rfl, rfl, items.toList, items2.toList, ns, ms, rfl, hi, hj, by omega, h⟩
end

section
variable {prog : Program} {w : World} {A : Around} {E : Value → Shared → Prop} {s : Shared}

theorem lt_tupInts {l b : Addr} {items items2 : Array Value} {ns ms : List Int} {Q : Value → Shared → Prop} (hl : IsTup s.heap l items) (hb : IsTup s.heap b items2) (hi : IntsAre items.toList ns) (hj : IntsAre items2.toList ms)
    (hu : A.units < cLine) (h : Q (.bool (lexLt ns ms)) s) : wpAny (model prog w) A (compareOp .Lt (.ref l) (.ref b)) Q E s := by
  obtain ⟨⟨cls, dd, data, sl⟩, ho, hc, n, hd⟩ := id hl
  obtain ⟨⟨cls2, dd2, data2, sl2⟩, ho2, hc2, n2, hd2⟩ := id hb
  simp only at hc hd hc2 hd2
  subst hc hd hc2 hd2
  exact richCompare_meets_room (op := .Lt) ⟨_, ho, rfl⟩ ⟨_, ho2, rfl⟩ PySem.F.slot_tuple_lt PySem.F.entry_tuple_lt (PySem.F.args_tuple_lt_2 _ _) (tuple_lt_ints l b items items2 n n2 dd dd2 sl sl2 ns ms hi hj)
    ⟨ho, ho2, show Value.bool (lexLt ns ms) ≠ Value.notImplemented ∧ Q (.bool (lexLt ns ms)) s from ⟨(fun x => nomatch x), h⟩⟩ hu

/-- t + u, t not empty -/
theorem cat_tup {t b : Addr} {vs ws : List Value} {Q : Value → Shared → Prop} (ht : IsTup s.heap t vs.toArray) (hb : IsTup s.heap b ws.toArray) (hv : vs ≠ [])
    (h1 : ws = [] → Q (.ref t) s) (h2 : ws ≠ [] → Q (.ref s.heap.objs.size) { s with heap := s.heap.push { cls := .type "tuple", data := .seq (vs ++ ws).toArray } })
    (hsz : vs.length + ws.length ≤ sizeLine) : wpAny (model prog w) A (binaryOp .Add (.ref t) (.ref b)) Q E s := by
  obtain ⟨⟨cls, dd, data, sl⟩, ho, hc, n, hd⟩ := id ht
  obtain ⟨⟨cls2, dd2, data2, sl2⟩, ho2, hc2, n2, hd2⟩ := id hb
  simp only at hc hd hc2 hd2
  subst hc hd hc2 hd2
  have e : vs.toArray ++ ws.toArray = (vs ++ ws).toArray := by simp
  by_cases hw : ws = []
  · exact concat_meets ⟨_, ho, rfl⟩ ⟨_, ho2, rfl⟩ noFill_tuple_add seq_tuple_add PySem.F.slot_tuple_add PySem.F.entry_tuple_add (PySem.F.args_tuple_add_2 _ _)
      (tuple_addW1 t b vs.toArray ws.toArray n n2 dd dd2 sl sl2 (by simpa using hv) (by simp [hw])) ⟨ho, ho2, h1 hw⟩
  · refine concat_meets ⟨_, ho, rfl⟩ ⟨_, ho2, rfl⟩ noFill_tuple_add seq_tuple_add PySem.F.slot_tuple_add PySem.F.entry_tuple_add (PySem.F.args_tuple_add_2 _ _)
      (tuple_addW2 t b vs.toArray ws.toArray n n2 dd dd2 sl sl2 (by simpa using hv) (by simpa using hw) (by rw [List.size_toArray, List.size_toArray]; exact hsz)) ⟨ho, ho2, ?_⟩
    rw [e]
    exact h2 hw

/-! ### t[a:b], not the whole -/
/-- a slice's bound as a place among n (d where it is left out) -/
def sIx (n d : Nat) : Option Int → Nat
  | none => d
  | some v => if v < 0 then (v + (n : Int)).toNat else min v.toNat n
theorem sIx_none (n d : Nat) : sIx n d none = d := rfl
theorem sIx_nat (n d k : Nat) : sIx n d (some (k : Int)) = min k n := by
  show (if (k : Int) < 0 then ((k : Int) + (n : Int)).toNat else min (k : Int).toNat n) = min k n
  rw [if_neg (by omega), Int.toNat_natCast]
theorem sIx_le (n d : Nat) (hd : d ≤ n) (o : Option Int) : sIx n d o ≤ n := by
  cases o with
  | none => exact hd
  | some v =>
    show (if v < 0 then (v + (n : Int)).toNat else min v.toNat n) ≤ n
    by_cases hv : v < 0
    · rw [if_pos hv]; omega
    · rw [if_neg hv]; exact Nat.min_le_right _ _
theorem clip_eq (v : Int) (n d : Nat) : (if v < 0 then max (v + (n : Int)) 0 else min v (n : Int)) = ((sIx n d (some v) : Nat) : Int) := by
  show (if v < 0 then max (v + (n : Int)) 0 else min v (n : Int)) = (((if v < 0 then (v + (n : Int)).toNat else min v.toNat n) : Nat) : Int)
  by_cases hv : v < 0
  · simp only [if_pos hv]; omega
  · simp only [if_neg hv]; omega
theorem adjust_gen (lo hi : Option Int) (n : Nat) : Builtin.Slice.sliceAdjust lo hi 1 (n : Int) = (((sIx n 0 lo : Nat) : Int), ((sIx n n hi : Nat) : Int)) := by
  have h1 : ¬ ((1 : Int) < 0) := by omega
  unfold Builtin.Slice.sliceAdjust
  simp only [h1, if_false]
  refine Prod.ext ?_ ?_
  · cases lo with
    | none => rfl
    | some v => exact clip_eq v n 0
  · cases hi with
    | none => rfl
    | some v => exact clip_eq v n n
theorem places_gen (i j : Nat) : Builtin.Slice.slicePlaces (i : Int) (j : Int) 1 = j - i := by
  unfold Builtin.Slice.slicePlaces
  have h1 : (1 : Int) > 0 := by omega
  simp only [h1, if_true, Int.ediv_one]
  split <;> omega
theorem slicePart_ {v : Value} {o : Option Int} {Q : Option Int → Shared → Prop} (p : IsPart v o) (h : Q o s) : wpAny (model prog w) A (Builtin.Slice.slicePartIndex v) Q E s := by
  cases p with
  | none => exact slicePart_none h
  | int i t => exact slicePart_int h
theorem sliceApplied_gen {sl : Addr} {vl vu : Value} {lo hi : Option Int} {n : Nat} {Q : Int × Int × Nat → Shared → Prop} (hs : s.heap.IsSliceOf sl vl vu .none) (pl : IsPart vl lo) (pu : IsPart vu hi)
    (h : Q (((sIx n 0 lo : Nat) : Int), 1, sIx n n hi - sIx n 0 lo) s) : wpAny (model prog w) A (Builtin.Slice.sliceApplied (.ref sl) (pure (n : Int))) Q E s := by
  obtain ⟨os, hos, hcs, hds⟩ := id hs
  unfold Builtin.Slice.sliceApplied Builtin.Slice.sliceFields
  refine wpAny_bind (wpAny_bind (wpAny_field hos hds (x := vl) rfl (wpAny_bind (wpAny_field hos hds (x := vu) rfl (wpAny_bind (wpAny_field hos hds (x := .none) rfl (wpAny_pure ?_)))))))
  refine wpAny_bind (slicePart_none ?_)
  show wpAny _ _ (if ((1 : Int) == 0) = true then _ else _) _ _ s
  rw [if_neg (by decide)]
  refine wpAny_bind (slicePart_ pl (wpAny_bind (slicePart_ pu (wpAny_bind (wpAny_pure ?_)))))
  show wpAny _ _ (match Builtin.Slice.sliceAdjust lo hi 1 (n : Int) with | (lo, hi) => pure (lo, (1 : Int), Builtin.Slice.slicePlaces lo hi 1)) _ _ s
  rw [adjust_gen lo hi n]
  show wpAny _ _ (pure (((sIx n 0 lo : Nat) : Int), (1 : Int), Builtin.Slice.slicePlaces ((sIx n 0 lo : Nat) : Int) ((sIx n n hi : Nat) : Int) 1)) _ _ s
  rw [places_gen]
  exact wpAny_pure h
theorem pick_gen (xs : Array Value) (i k : Nat) : ((List.range k).filterMap fun (m : Nat) => xs[((i : Int) + (m : Int) * 1).toNat]?).toArray = ((xs.toList.drop i).take k).toArray := by
  have e : (fun (m : Nat) => xs[((i : Int) + (m : Int) * 1).toNat]?) = fun m => xs[i + m]? := by
    funext m
    have : ((i : Int) + (m : Int) * 1).toNat = i + m := by omega
    rw [this]
  rw [e]
  have := pick_run xs i k
  rw [List.filterMap_map] at this
  have e2 : ((fun x => xs[x]?) ∘ fun x => i + x) = fun m => xs[i + m]? := rfl
  rw [e2] at this
  rw [this]

theorem getItem_tuple_cut {t sl : Addr} {items : Array Value} {vl vu : Value} {lo hi : Option Int} {Q : Value → Shared → Prop} (ht : IsTup s.heap t items) (hs : s.heap.IsSliceOf sl vl vu .none) (pl : IsPart vl lo) (pu : IsPart vu hi)
    (hw : ¬ (sIx items.size 0 lo = 0 ∧ sIx items.size items.size hi = items.size))
    (h : Q (.ref s.heap.objs.size) { s with heap := s.heap.push { cls := .type "tuple", data := .seq ((items.toList.drop (sIx items.size 0 lo)).take (sIx items.size items.size hi - sIx items.size 0 lo)).toArray } })
    (hsz : items.size ≤ sizeLine) : wpAny (model prog w) A (getItem (.ref t) (.ref sl)) Q E s := by
  have htake : sizeOk (.seq ((items.toList.drop (sIx items.size 0 lo)).take (sIx items.size items.size hi - sIx items.size 0 lo)).toArray) := by
    show ((items.toList.drop (sIx items.size 0 lo)).take (sIx items.size items.size hi - sIx items.size 0 lo)).toArray.size ≤ sizeLine
    rw [List.size_toArray, List.length_take, List.length_drop, Array.length_toList]
    omega
  have hj : sIx items.size items.size hi ≤ items.size := sIx_le _ _ (Nat.le_refl _) hi
  obtain ⟨os, hos, hcs, hds⟩ := id hs
  have hTs : s.TypeIs (.ref sl) "slice" := ⟨os, hos, hcs⟩
  unfold getItem
  try with_reducible refine wpAny_holding ?_
  first | refine wpAny_bind (wpAny_pure ?_) | skip
  refine wpAny_bind (wpAny_sequenceKey ht.typeIs (by decide) ?_)
  refine wpAny_bind (wpAny_callSpecial?_slot (name := Str.ofString "__getitem__") ht.typeIs PyProof.Rows.slot_tuple_getitem
    (wpAny_call_entry PyProof.Rows.slot_tuple_getitem ht.typeIs entry_tuple_getitem ?_ (args_tuple_getitem _ _)))
  show wpAny _ _ (Builtin.Tuple.tupleItemsOf (.ref t) >>= _) _ _ s
  refine wpAny_bind (tupleItemsOf_ ht ?_)
  refine wpAny_bind (wpAny_typeOf hTs ?_)
  rw [if_pos (by decide)]
  refine wpAny_bind (sliceApplied_gen hs pl pu ?_)
  have hno : ¬ ((((sIx items.size 0 lo : Nat) : Int) == 0 && (1 : Int) == 1 && (sIx items.size items.size hi - sIx items.size 0 lo) == items.size) = true) := by
    intro q
    rw [Bool.and_eq_true, Bool.and_eq_true] at q
    have q1 : ((sIx items.size 0 lo : Nat) : Int) = 0 := eq_of_beq q.1.1
    have q2 : sIx items.size items.size hi - sIx items.size 0 lo = items.size := eq_of_beq q.2
    exact hw ⟨by omega, by omega⟩
  show wpAny _ _ (if (((sIx items.size 0 lo : Nat) : Int) == 0 && (1 : Int) == 1 && (sIx items.size items.size hi - sIx items.size 0 lo) == items.size) = true then _ else _) _ _ s
  rw [if_neg hno, pick_gen]
  first
    | exact wpAny_bind (m := Builtin.Tuple.tupleExact _) (wpAny_newObj_type (wpAny_pure ⟨_, rfl, wpAny_pure h⟩) htake)
    | exact wpAny_bind (m := Builtin.Tuple.tupleExact _) (wpAny_newObj_type (wpAny_bind (wpAny_pure (wpAny_pure ⟨_, rfl, wpAny_pure h⟩))) htake)
    | exact wpAny_bind (wpAny_bind (m := Builtin.Tuple.tupleExact _) (wpAny_newObj_type (wpAny_pure (wpAny_pure ⟨_, rfl, wpAny_pure h⟩)) htake))
    | exact wpAny_bind (wpAny_bind (m := Builtin.Tuple.tupleExact _) (wpAny_newObj_type (wpAny_pure ⟨_, rfl, wpAny_pure h⟩) htake))
end
end HT

namespace L2
open PySem PySem.Spec PyProof.Rows

/-! ### the parts of a slice -/
abbrev TO := St → Hp → (Option Int → Hp → Prop) → Prop
/-- a slice's part (left out, or an int) -/
def PO (X : Cx) (e : Option Expr) (t : TO) : Prop :=
  ∀ (pins : List (Addr × Obj)) (s : Shared) (σ : St) (H : Hp) (Q : Option Int → Hp → Prop), Inv X pins σ H s → t σ H Q →
    wpAny (model X.prog X.w) X.A (evalPart e X.env) (fun u s' => ∃ o H', Inv X pins σ H' s' ∧ IsPart u o ∧ Q o H') X.xe s
def tNoPart : TO := fun _ H Q => Q none H
def tPart (t : TE) : TO := fun σ H Q => t σ H fun x H1 => ∃ i, x = .int i ∧ Q (some i) H1

theorem intsAre_of {ns : List Int} : ∀ {us : List Value}, Vals (ns.map V.int) us → IntsAre us ns := by
  induction ns with
  | nil => intro us r; rw [List.map_nil] at r; cases r; exact .nil
  | cons n ns ih =>
    intro us r
    rw [List.map_cons] at r
    cases r with
    | cons r1 r2 =>
      obtain ⟨t, e⟩ := r1
      subst e
      exact .cons n t (ih r2)

section
variable {X : Cx} {e : Expr} {te : TE} {lo hi : Option Expr} {tl th : TO} {pos p2 : Pos}

theorem po_none : PO X none tNoPart := by
  intro pins s σ H Q I h
  rw [evalPart_none]
  exact wpAny_pure ⟨none, H, I, .none, h⟩
theorem po_some (h : PE X e te) : PO X (some e) (tPart te) := by
  intro pins s σ H Q I hw
  rw [evalPart_some]
  refine thn (h pins s σ H _ I hw) fun u s1 ⟨x, H1, I1, r1, q1⟩ => ?_
  obtain ⟨i, rfl, q⟩ := q1
  obtain ⟨t, rfl⟩ := r1
  exact ⟨some i, H1, I1, .int i t, q⟩

/-- what a slice of a value is, by values: the slice object stands at sl -/
def SlR (X : Cx) (r : V → Option Int → Option Int → Hp → VK → Prop) : Prop :=
  ∀ (pins : List (Addr × Obj)) (s : Shared) (σ : St) (H : Hp) (x : V) (v vl vu : Value) (lo hi : Option Int) (sl : Addr) (Q : VK), Inv X pins σ H s → RelV x v → s.heap.IsSliceOf sl vl vu .none → IsPart vl lo → IsPart vu hi → r x lo hi H Q →
    ∃ T id, typeLookup (.type T) "__getitem__" = pure (some (.builtin id)) ∧ s.TypeIs v T ∧ wpAny (model X.prog X.w) X.A (getItem v (.ref sl)) (EP X pins σ Q) X.xe s
theorem SlR.or {r r' : V → Option Int → Option Int → Hp → VK → Prop} (h : SlR X r) (h' : SlR X r') : SlR X (fun x lo hi H Q => r x lo hi H Q ∨ r' x lo hi H Q) := by
  intro pins s σ H x v vl vu lo hi sl Q I rx hs pl pu q
  rcases q with q | q
  · exact h pins s σ H x v vl vu lo hi sl Q I rx hs pl pu q
  · exact h' pins s σ H x v vl vu lo hi sl Q I rx hs pl pu q
def tSl (r : V → Option Int → Option Int → Hp → VK → Prop) (te : TE) (tl th : TO) : TE := fun σ H Q => te σ H fun x H1 => tl σ H1 fun l H2 => th σ H2 fun u H3 => r x l u H3 Q
/-- a[lo:hi], any a -/
theorem pe_slice {r : V → Option Int → Option Int → Hp → VK → Prop} (hr : SlR X r) (he : PE X e te) (hl : PO X lo tl) (hu : PO X hi th) : PE X (.Subscript e (.Slice lo hi none p2) pos) (tSl r te tl th) := by
  intro pins s σ H Q I h
  refine Subscript_ (thn (he pins s σ H _ I h) fun v s1 ⟨x, H1, I1, r1, q1⟩ => ?_)
  refine wpAny_Slice (thn (hl pins s1 σ H1 _ I1 q1) fun vl s2 ⟨l, H2, I2, pl, q2⟩ => thn (hu pins s2 σ H2 _ I2 q2) fun vu s3 ⟨u, H3, I3, pu, q3⟩ => ?_)
  rw [evalPart_none]
  refine wpAny_pure ?_
  have I4 : Inv X pins σ H3 { s3 with heap := s3.heap.push { cls := .type "slice", data := .fields #[vl, vu, .none] } } := I3.kept (t' := s3.toks) fun b ob q => Heap.get?_push_of_some _ q
  obtain ⟨T, id, hT, ht, hg⟩ := hr pins { s3 with heap := s3.heap.push { cls := .type "slice", data := .fields #[vl, vu, .none] } } σ H3 x v vl vu l u s3.heap.objs.size Q I4 r1 (Heap.IsSliceOf.new ..) pl pu q3
  show wpAny (model X.prog X.w) X.A (subscriptTail e (.Slice lo hi none p2) v (.ref s3.heap.objs.size)) (EP X pins σ Q) X.xe { s3 with heap := s3.heap.push { cls := .type "slice", data := .fields #[vl, vu, .none] } }
  exact tail_any (ops := [.ref s3.heap.objs.size, v]) ht hT hg (by with_unfolding_all rfl)

/-- the items of xs[lo:hi] -/
def cutV (xs : List V) (lo hi : Option Int) : List V := (xs.drop (HT.sIx xs.length 0 lo)).take (HT.sIx xs.length xs.length hi - HT.sIx xs.length 0 lo)
theorem cutV_length (xs : List V) (lo hi : Option Int) : (cutV xs lo hi).length ≤ xs.length := by
  unfold cutV
  rw [List.length_take, List.length_drop]
  omega
/-- t[lo:hi], not the whole of it (the whole would be t itself) -/
def rSlT (K : PySem.W.Frag) : V → Option Int → Option Int → Hp → VK → Prop := fun x lo hi H Q => ∃ a xs, x = .ref a ∧ SqT K H a xs ∧
  ¬ (HT.sIx xs.length 0 lo = 0 ∧ HT.sIx xs.length xs.length hi = xs.length) ∧ ∀ p, H p = none → Q (.ref p) (upd H p (.tup (cutV xs lo hi)))
theorem sl_tup : SlR X (rSlT X.K) := by
  intro pins s σ H x v vl vu lo hi sl Q I rx hs pl pu h
  obtain ⟨a, xs, rfl, hx, hw, q⟩ := h
  cases rx
  obtain ⟨its, r, ht, hz⟩ := I.tuple hx
  have hlen : its.toArray.size = xs.length := by rw [List.size_toArray]; exact r.length.symm
  refine ⟨"tuple", _, PyProof.Rows.slot_tuple_getitem.lookup, ht.typeIs, ?_⟩
  refine HT.getItem_tuple_cut ht hs pl pu (by rw [hlen]; exact hw) ?_ (by rw [hlen]; exact hz)
  rw [hlen]
  refine ⟨.ref s.heap.objs.size, _, I.laid (t' := s.toks) (o := .tup (cutV xs lo hi)) (fun b ob q => Heap.get?_push_of_some _ q) (Nat.le_refl _) ?_, rfl, q _ (I.hok.fresh (Nat.le_refl _))⟩
  exact ⟨Nat.le_trans (cutV_length xs lo hi) hz, _, (r.drop (HT.sIx xs.length 0 lo)).take (HT.sIx xs.length xs.length hi - HT.sIx xs.length 0 lo), IsTup.new _ _⟩

/-! ### t < u, t + u -/
def rLtT (K : PySem.W.Frag) : R2 := fun x y H Q => ∃ a b ns ms, x = .ref a ∧ y = .ref b ∧ SqT K H a (ns.map V.int) ∧ SqT K H b (ms.map V.int) ∧ Q (.bl (HT.lexLt ns ms)) H
theorem op_ltT (hu : X.A.units < cLine) : OpR X (compareOp .Lt) (rLtT X.K) := by
  intro pins s σ H x y v u Q I rx ry h
  obtain ⟨a, b, ns, ms, rfl, rfl, ha, hb, q⟩ := h
  cases rx
  cases ry
  obtain ⟨its, r1, p1, _⟩ := I.tuple ha
  obtain ⟨its2, r2, p2, _⟩ := I.tuple hb
  have i1 : IntsAre its.toArray.toList ns := intsAre_of r1
  have i2 : IntsAre its2.toArray.toList ms := intsAre_of r2
  exact HT.lt_tupInts p1 p2 i1 i2 hu ⟨.bl (HT.lexLt ns ms), H, I, rfl, q⟩
/-- t + u, t not empty: u empty gives t itself -/
def rCatT (K : PySem.W.Frag) : R2 := fun x y H Q => ∃ a b xs ys, x = .ref a ∧ y = .ref b ∧ SqT K H a xs ∧ SqT K H b ys ∧ xs ≠ [] ∧ xs.length + ys.length ≤ sizeLine ∧
  (ys = [] → Q (.ref a) H) ∧ (ys ≠ [] → ∀ p, H p = none → Q (.ref p) (upd H p (.tup (xs ++ ys))))
theorem Vals.nil_iff {xs : List V} {us : List Value} (r : Vals xs us) : us = [] ↔ xs = [] := by
  cases r with
  | nil => simp
  | cons _ _ => simp
theorem op_catT : OpR X (binaryOp .Add) (rCatT X.K) := by
  intro pins s σ H x y v u Q I rx ry h
  obtain ⟨a, b, xs, ys, rfl, rfl, ha, hb, hx, hz, q1, q2⟩ := h
  cases rx
  cases ry
  obtain ⟨its, r1, p1, _⟩ := I.tuple ha
  obtain ⟨its2, r2, p2, _⟩ := I.tuple hb
  refine HT.cat_tup p1 p2 (fun z => hx (r1.nil_iff.mp z)) (fun z => ⟨.ref a, H, I, rfl, q1 (r2.nil_iff.mp z)⟩) (fun z => ?_) (by rw [← r1.length, ← r2.length]; exact hz)
  refine ⟨.ref s.heap.objs.size, _, I.laid (t' := s.toks) (o := .tup (xs ++ ys)) (fun b ob q => Heap.get?_push_of_some _ q) (Nat.le_refl _) ?_, rfl, q2 (fun w => z (r2.nil_iff.mpr w)) _ (I.hok.fresh (Nat.le_refl _))⟩
  exact ⟨by rw [List.length_append]; exact hz, _, r1.append r2, IsTup.new _ _⟩
/-- tuple(t) -/
theorem call_tupleT : CallR X (.type "tuple") (fun xs H Q => ∃ a ys, xs = [.ref a] ∧ SqT X.K H a ys ∧ Q (.ref a) H) := by
  intro pins s σ H xs us Q I r h
  obtain ⟨a, ys, rfl, ha, q⟩ := h
  obtain ⟨u, rfl, ru⟩ := vals1 r
  cases ru
  obtain ⟨its, _, p1, _⟩ := I.tuple ha
  exact call_tuple_same (items := its.toArray) p1 ⟨.ref a, H, I, rfl, q⟩
end
end L2

namespace L2
open PySem PySem.Spec PyProof.Rows

/-! ### places -/
/-- the place that an index of any sign means -/
def ixN (n : Nat) (i : Int) : Option Nat := if 0 ≤ i then (if i < n then some i.toNat else none) else if -(n : Int) ≤ i then some (i + n).toNat else none
def atI {α : Type} (xs : List α) (i : Int) : Option α := (ixN xs.length i).bind fun j => xs[j]?
theorem ixN_seq {n : Nat} {i : Int} {j : Nat} (h : ixN n i = some j) : seqIndex? i n = some j ∧ j < n ∧ -(n : Int) ≤ i ∧ i < n := by
  unfold ixN at h
  by_cases h0 : 0 ≤ i
  · rw [if_pos h0] at h
    by_cases h1 : i < n
    · rw [if_pos h1] at h
      have e : i.toNat = j := Option.some.inj h
      exact ⟨by rw [seqIndex_of h0 h1, e], by omega, by omega, h1⟩
    · rw [if_neg h1] at h; cases h
  · rw [if_neg h0] at h
    by_cases h1 : -(n : Int) ≤ i
    · rw [if_pos h1] at h
      have e : (i + n).toNat = j := Option.some.inj h
      exact ⟨by rw [seqIndex_neg (by omega) h1, e], by omega, h1, by omega⟩
    · rw [if_neg h1] at h; cases h
theorem atI_get {α : Type} {xs : List α} {i : Int} {v : α} (h : atI xs i = some v) : ∃ j, seqIndex? i xs.length = some j ∧ xs[j]? = some v ∧ j < xs.length ∧ -(xs.length : Int) ≤ i ∧ i < xs.length := by
  unfold atI at h
  cases e : ixN xs.length i with
  | none => rw [e] at h; cases h
  | some j =>
    rw [e] at h
    obtain ⟨h1, h2, h3, h4⟩ := ixN_seq e
    exact ⟨j, h1, h, h2, h3, h4⟩
theorem atI_nat {α : Type} {xs : List α} {j : Nat} {v : α} (h : xs[j]? = some v) : atI xs (j : Int) = some v := by
  have hj : j < xs.length := (List.getElem?_eq_some_iff.mp h).1
  have e : ixN xs.length (j : Int) = some j := by
    unfold ixN
    rw [if_pos (by omega), if_pos (by omega)]; simp
  unfold atI; rw [e]; exact h
theorem atI_last {α : Type} (xs : List α) (v : α) : atI (xs ++ [v]) (-1) = some v := by
  have hl : (xs ++ [v]).length = xs.length + 1 := by simp
  have e : ixN (xs ++ [v]).length (-1) = some xs.length := by
    unfold ixN
    rw [hl, if_neg (by decide), if_pos (by omega)]
    congr 1
    omega
  unfold atI
  rw [e]
  show (xs ++ [v])[xs.length]? = some v
  simp

/-! ### what may be subscripted -/
/-- what stands as an index of a plain subscript -/
def PlainIx (b : Expr) : Prop := ∀ o i, subscripted b false o i = operate [o, i] (getItem o i)
/-- a subscript by values -/
def IxR (X : Cx) (r : R2) : Prop :=
  ∀ (value slice : Expr) (pins : List (Addr × Obj)) (s : Shared) (σ : St) (H : Hp) (x y : V) (v u : Value) (Q : VK), Inv X pins σ H s → RelV x v → RelV y u → r x y H Q →
    subscripted slice false v u = operate [v, u] (getItem v u) → wpAny (model X.prog X.w) X.A (subscriptTail value slice v u) (EP X pins σ Q) X.xe s
/-- a call of a builtin's method by values: the receiver, the arguments -/
def MtR (X : Cx) (id : String) (r : V → List V → Hp → VK → Prop) : Prop :=
  ∀ (pins : List (Addr × Obj)) (s : Shared) (σ : St) (H : Hp) (x : V) (xs : List V) (v : Value) (us : List Value) (Q : VK), Inv X pins σ H s → RelV x v → Vals xs us → r x xs H Q →
    wpAny (model X.prog X.w) X.A (call (.builtin id) (v :: us)) (EP X pins σ Q) X.xe s
section
variable {X : Cx} {a b : Expr} {ta tb : TE} {pos : Pos}
theorem IxR.or {r r' : R2} (h : IxR X r) (h' : IxR X r') : IxR X (fun x y H Q => r x y H Q ∨ r' x y H Q) := by
  intro value slice pins s σ H x y v u Q I rx ry q hs
  rcases q with q | q
  · exact h value slice pins s σ H x y v u Q I rx ry q hs
  · exact h' value slice pins s σ H x y v u Q I rx ry q hs
theorem MtR.or {id : String} {r r' : V → List V → Hp → VK → Prop} (h : MtR X id r) (h' : MtR X id r') : MtR X id (fun x xs H Q => r x xs H Q ∨ r' x xs H Q) := by
  intro pins s σ H x xs v us Q I rx rs q
  rcases q with q | q
  · exact h pins s σ H x xs v us Q I rx rs q
  · exact h' pins s σ H x xs v us Q I rx rs q
/-- a[b] -/
theorem pe_ix {r : R2} (hr : IxR X r) (ha : PE X a ta) (hb : PE X b tb) (hs : PlainIx b) : PE X (.Subscript a b pos) (tOp r ta tb) := by
  intro pins s σ H Q I h
  exact Subscript_ (binT ha hb I h fun v u s2 x y H2 I2 rx ry q => hr a b pins s2 σ H2 x y v u Q I2 rx ry q (hs _ _))

def rIxL (K : PySem.W.Frag) : R2 := fun x y H Q => ∃ p xs i v, x = .ref p ∧ y = .int i ∧ SqL K H p xs ∧ atI xs i = some v ∧ Q v H
def rIxT (K : PySem.W.Frag) : R2 := fun x y H Q => ∃ p xs i v, x = .ref p ∧ y = .int i ∧ SqT K H p xs ∧ atI xs i = some v ∧ Q v H
def rIxS : R2 := fun x y H Q => ∃ z i c, x = .str z ∧ y = .int i ∧ z.length ≤ sizeLine ∧ atI z.cps.toList i = some c ∧ Q (.str ⟨#[c]⟩) H
theorem ix_list : IxR X (rIxL X.K) := by
  intro value slice pins s σ H x y v u Q I rx ry h hs
  obtain ⟨p, xs, i, z, rfl, rfl, hq, he, q⟩ := h
  cases rx
  obtain ⟨t, rfl⟩ := ry
  obtain ⟨its, r, pl, hz⟩ := I.list hq
  obtain ⟨j, h1, h2, h3, h4, h5⟩ := atI_get he
  obtain ⟨w, ew, rw'⟩ := r.get h2
  have hl := r.length
  have hn := line63
  have fin : EP X pins σ Q w s := ⟨z, H, I, rw', q⟩
  by_cases h0 : 0 ≤ i
  · have hj : i.toNat = j := by
      rw [seqIndex_of h0 h5] at h1
      exact Option.some.inj h1
    exact item_listR pl.isList h0 (by omega) (by rw [hj]; simpa using ew) fin hs
  · have hj : (i + (its.toArray.size : Int)).toNat = j := by
      rw [seqIndex_neg (by omega) h4] at h1
      rw [List.size_toArray, ← hl]
      exact Option.some.inj h1
    exact subscriptTail_builtinR (x := w) pl.isList.typeIs slot_list_getitem.lookup
      (wpAny_getItem_list_neg (Q := fun r s' => r = w ∧ EP X pins σ Q r s') pl.isList (by omega) (by rw [List.size_toArray] <;> omega) (by omega) (by rw [hj]; simpa using ew) ⟨rfl, fin⟩) hs
theorem ix_tup : IxR X (rIxT X.K) := by
  intro value slice pins s σ H x y v u Q I rx ry h hs
  obtain ⟨p, xs, i, z, rfl, rfl, hq, he, q⟩ := h
  cases rx
  obtain ⟨t, rfl⟩ := ry
  obtain ⟨its, r, pl, hz⟩ := I.tuple hq
  obtain ⟨j, h1, h2, h3, h4, h5⟩ := atI_get he
  obtain ⟨w, ew, rw'⟩ := r.get h2
  have hl := r.length
  have hn := line63
  have fin : EP X pins σ Q w s := ⟨z, H, I, rw', q⟩
  exact subscriptTail_builtinR (x := w) pl.typeIs slot_tuple_getitem.lookup
    (getItem_tuple (j := j) (Q := fun r s' => r = w ∧ EP X pins σ Q r s') pl (by omega) (by omega) (by rw [List.size_toArray, ← hl]; exact h1) (by simpa using ew) ⟨rfl, fin⟩) hs
theorem ix_str : IxR X rIxS := by
  intro value slice pins s σ H x y v u Q I rx ry h hs
  obtain ⟨z, i, c, rfl, rfl, hz, he, q⟩ := h
  obtain ⟨t, rfl⟩ := rx
  obtain ⟨t', rfl⟩ := ry
  obtain ⟨j, h1, h2, h3, h4, h5⟩ := atI_get he
  have hl : z.cps.toList.length = z.length := by simp [Str.length]
  rw [hl] at h1 h4 h5
  have hn := line63
  exact tail_any (typeIs_str s z t) slot_str_getitem.lookup (getItem_str (c := c) (by
    have e1 : decide (i < -(2 ^ 63 : Int)) = false := decide_eq_false (by omega)
    have e2 : decide (i ≥ 2 ^ 63) = false := decide_eq_false (by omega)
    rw [e1, e2, Bool.or_false]) (by rw [h1]; simpa using h2) ⟨.str ⟨#[c]⟩, H, I.tok _, ⟨_, rfl⟩, q⟩) hs
/-- list, tuple or str -/
def rIx (K : PySem.W.Frag) : R2 := fun x y H Q => rIxL K x y H Q ∨ rIxT K x y H Q ∨ rIxS x y H Q
theorem ix_seq : IxR X (rIx X.K) := ix_list.or (ix_tup.or ix_str)

/-! ### xs[i] = v, any sign -/
/-- the list's object behind a store -/
theorem mapSeq_set (its : List Value) (n j : Nat) (u : Value) : Obj.mapSeq (·.setIfInBounds j u) { cls := .type "list", data := .seq its.toArray n } = { cls := .type "list", data := .seq (its.set j u).toArray n } := by
  simp [Obj.mapSeq]
theorem Inv.lst {pins : List (Addr × Obj)} {σ : St} {H : Hp} {s : Shared} {p : Addr} {xs : List V} (I : Inv X pins σ H s) (h : H p = some (.lst xs)) :
    ∃ (its : List Value) (n : Nat), Vals xs its ∧ s.heap.get? p = some { cls := .type "list", data := .seq its.toArray n } ∧ xs.length ≤ sizeLine := by
  obtain ⟨z, its, n, r, e⟩ := I.hok p _ h
  exact ⟨its, n, r, e, z⟩
/-- the list at p is written by an update of its object -/
theorem Inv.lstUpd {pins : List (Addr × Obj)} {σ : St} {H : Hp} {s : Shared} {p : Addr} {xs ys : List V} {its its' : List Value} {n n' : Nat} {f : Obj → Obj} (I : Inv X pins σ H s) (h : H p = some (.lst xs))
    (ho : s.heap.get? p = some { cls := .type "list", data := .seq its.toArray n }) (hf : f { cls := .type "list", data := .seq its.toArray n } = { cls := .type "list", data := .seq its'.toArray n' }) (r : Vals ys its') (hz : ys.length ≤ sizeLine) (t : Nat) :
    Inv X pins σ (upd H p (.lst ys)) { s with heap := s.heap.update p f, toks := t } := by
  have e : (s.heap.update p f).get? p = some { cls := .type "list", data := .seq its'.toArray n' } := by
    rw [Heap.get?_update_self f ho (by rw [hf] <;> rfl), hf]
  refine I.write (x := p) (e := p) (by rw [h]; trivial) (.inl rfl) (fun b u hb q => (Heap.get?_update_other _ _ (Ne.symm hb)).trans q) ⟨_, e⟩ ?_
  exact ⟨hz, its', n', r, e⟩
def rSetL : V → V → V → Hp → (Hp → Prop) → Prop := fun o i v H Q => ∃ p xs k j, o = .ref p ∧ i = .int k ∧ H p = some (.lst xs) ∧ ixN xs.length k = some j ∧ Q (upd H p (.lst (xs.set j v)))
theorem set_list : PSet X rSetL := by
  intro pins s σ H o i v ov iv u Q I ro ri rv h
  obtain ⟨p, xs, k, j, rfl, rfl, hp, hj, q⟩ := h
  cases ro
  obtain ⟨t, rfl⟩ := ri
  obtain ⟨its, n, r, ho, hz⟩ := I.lst hp
  obtain ⟨h1, h2, h3, h4⟩ := ixN_seq hj
  have hl := r.length
  have hn := line63
  have I' : Inv X pins σ (upd H p (.lst (xs.set j v))) { s with heap := s.heap.update p (Obj.mapSeq (·.setIfInBounds j u)) } :=
    I.lstUpd hp ho (mapSeq_set its n j u) (r.set rv j) (by rw [List.length_set]; exact hz) s.toks
  by_cases h0 : 0 ≤ k
  · have hk : k.toNat = j := by
      rw [seqIndex_of h0 h4] at h1
      exact Option.some.inj h1
    exact PySem.W.ki_setAt ho h0 (by omega) (by rw [List.size_toArray, ← hl]; exact h4) (by rw [hk]; exact ⟨_, I', q⟩)
  · have hk : (k + (its.toArray.size : Int)).toNat = j := by
      rw [seqIndex_neg (by omega) h3] at h1
      rw [List.size_toArray, ← hl]
      exact Option.some.inj h1
    exact PySem.W.ki_setBack ho (by omega) (by rw [List.size_toArray, ← hl]; exact h3) (by omega) (by rw [hk]; exact ⟨_, I', q⟩)

/-! ### slices -/
theorem slice_bounds (lo hi : Option Int) (n : Nat) : (sliceBounds lo hi none n).1 = ((HT.sIx n 0 lo : Nat) : Int) ∧ (sliceBounds lo hi none n).2.1 = ((HT.sIx n n hi : Nat) : Int) ∧ (sliceBounds lo hi none n).2.2 = 1 := by
  refine ⟨?_, ?_, rfl⟩
  · cases lo with
    | none => simp [sliceBounds, HT.sIx]
    | some i =>
      simp only [sliceBounds, HT.sIx, Option.getD_none, show (1 : Int) > 0 by decide, if_true]
      by_cases h : i < 0
      · simp only [h, if_true] <;> omega
      · simp only [h, if_false] <;> omega
  · cases hi with
    | none => simp [sliceBounds, HT.sIx]
    | some i =>
      simp only [sliceBounds, HT.sIx, Option.getD_none, show (1 : Int) > 0 by decide, if_true]
      by_cases h : i < 0
      · simp only [h, if_true] <;> omega
      · simp only [h, if_false] <;> omega
theorem slicePick_cut (its : List Value) (lo hi : Option Int) : slicePick its.toArray lo hi none = ((its.drop (HT.sIx its.length 0 lo)).take (HT.sIx its.length its.length hi - HT.sIx its.length 0 lo)).toArray := by
  obtain ⟨h1, h2, h3⟩ := slice_bounds lo hi its.toArray.size
  unfold slicePick
  rw [h1, h2, h3]
  simp only [sliceRange_one, pick_run, List.size_toArray] <;> rfl
/-- xs[lo:hi] of a list: a new list -/
def rSlL (K : PySem.W.Frag) : V → Option Int → Option Int → Hp → VK → Prop := fun x lo hi H Q => ∃ a xs, x = .ref a ∧ SqL K H a xs ∧ ∀ p, H p = none → Q (.ref p) (upd H p (.lst (cutV xs lo hi)))
theorem sl_list : SlR X (rSlL X.K) := by
  intro pins s σ H x v vl vu lo hi sl Q I rx hs pl pu h
  obtain ⟨a, xs, rfl, hx, q⟩ := h
  cases rx
  obtain ⟨its, r, ht, hz⟩ := I.list hx
  have hlen := r.length
  refine ⟨"list", _, slot_list_getitem.lookup, ht.isList.typeIs, ?_⟩
  refine wpAny_getItem_list_slice ht.isList hs pl pu .none (by simp) ?_ (by rw [List.size_toArray] <;> omega)
  rw [slicePick_cut, ← hlen]
  refine ⟨.ref s.heap.objs.size, _, I.laid (t' := s.toks) (o := .lst (cutV xs lo hi)) (fun b ob q => Heap.get?_push_of_some _ q) (Nat.le_refl _) ?_, rfl, q _ (I.hok.fresh (Nat.le_refl _))⟩
  exact ⟨Nat.le_trans (cutV_length xs lo hi) hz, _, 0, (r.drop (HT.sIx xs.length 0 lo)).take (HT.sIx xs.length xs.length hi - HT.sIx xs.length 0 lo), Heap.get?_push_size _ rfl⟩

/-! ### in, not in: flat items -/
def flatV : V → Bool
  | .non => true
  | .bl _ => true
  | .int _ => true
  | .str _ => true
  | _ => false
/-- == of flat values -/
def eqV : V → V → Bool
  | .non, .non => true
  | .bl a, .bl b => a == b
  | .bl a, .int b => (if a then 1 else 0) == b
  | .int a, .bl b => a == (if b then 1 else 0)
  | .int a, .int b => a == b
  | .str a, .str b => a == b
  | _, _ => false
theorem eqAt_V {A : Around} {s : Shared} {y x : V} {u v : Value} (ry : RelV y u) (rx : RelV x v) (fy : flatV y = true) (fx : flatV x = true) : SeqAt.EqAt A s u v (eqV y x) := by
  cases y with
  | non =>
    cases ry
    cases x with
    | non => cases rx; exact SeqAt.EqAt.same _
    | bl b => cases rx; exact SeqAt.EqAt.none_bool b
    | int b => obtain ⟨t, rfl⟩ := rx; exact SeqAt.EqAt.none_int b t
    | str b => obtain ⟨t, rfl⟩ := rx; exact SeqAt.EqAt.none_str b t
    | _ => exact absurd (show false = true from fx) Bool.false_ne_true
  | bl a =>
    cases ry
    cases x with
    | non => cases rx; exact SeqAt.EqAt.bool_none a
    | bl b => cases rx; exact SeqAt.EqAt.bool_bool a b
    | int b => obtain ⟨t, rfl⟩ := rx; exact SeqAt.EqAt.bool_int a b t
    | str b => obtain ⟨t, rfl⟩ := rx; exact SeqAt.EqAt.bool_str a b t
    | _ => exact absurd (show false = true from fx) Bool.false_ne_true
  | int a =>
    obtain ⟨t', rfl⟩ := ry
    cases x with
    | non => cases rx; exact SeqAt.EqAt.int_none a t'
    | bl b => cases rx; exact SeqAt.EqAt.int_bool a t' b
    | int b => obtain ⟨t, rfl⟩ := rx; exact SeqAt.EqAt.int_int a t' b t
    | str b => obtain ⟨t, rfl⟩ := rx; exact SeqAt.EqAt.int_str a t' b t
    | _ => exact absurd (show false = true from fx) Bool.false_ne_true
  | str a =>
    obtain ⟨t', rfl⟩ := ry
    cases x with
    | non => cases rx; exact SeqAt.EqAt.str_none a t'
    | bl b => cases rx; exact SeqAt.EqAt.str_bool a t' b
    | int b => obtain ⟨t, rfl⟩ := rx; exact SeqAt.EqAt.str_int a t' b t
    | str b => obtain ⟨t, rfl⟩ := rx; exact SeqAt.EqAt.str_str a t' b t
    | _ => exact absurd (show false = true from fx) Bool.false_ne_true
  | _ => exact absurd (show false = true from fy) Bool.false_ne_true
/-- the items' answers, read off the values (a value's own answer does not lean on its token) -/
def eqU (x : V) (u : Value) : Bool := match u with
  | .none => eqV .non x
  | .bool b => eqV (.bl b) x
  | .int i _ => eqV (.int i) x
  | .str z _ => eqV (.str z) x
  | _ => false
theorem eqU_of {x y : V} {u : Value} (r : RelV y u) (f : flatV y = true) : eqU x u = eqV y x := by
  cases y with
  | non => cases r; rfl
  | bl b => cases r; rfl
  | int i => obtain ⟨t, rfl⟩ := r; rfl
  | str z => obtain ⟨t, rfl⟩ := r; rfl
  | _ => exact absurd (show false = true from f) Bool.false_ne_true
theorem any_eqU {x : V} : ∀ {xs : List V} {us : List Value}, Vals xs us → xs.all flatV = true → us.any (eqU x) = xs.any fun y => eqV y x
  | _, _, .nil, _ => rfl
  | y :: xs, u :: us, .cons r t, f => by
    rw [List.all_cons, Bool.and_eq_true] at f
    rw [List.any_cons, List.any_cons, eqU_of r f.1, any_eqU t f.2]
theorem mem_eqAt {A : Around} {s : Shared} {x : V} {v : Value} (rx : RelV x v) (fx : flatV x = true) : ∀ {xs : List V} {us : List Value}, Vals xs us → xs.all flatV = true → ∀ u ∈ us, SeqAt.EqAt A s u v (eqU x u)
  | _, _, .nil, _ => fun u hu => by cases hu
  | y :: xs, u :: us, .cons r t, f => fun u' hu => by
    rw [List.all_cons, Bool.and_eq_true] at f
    rcases List.mem_cons.mp hu with rfl | hu
    · rw [eqU_of r f.1]; exact eqAt_V r rx f.1 fx
    · exact mem_eqAt rx fx t f.2 u' hu
def inV (x : V) (xs : List V) : Bool := xs.any fun y => eqV y x
/-- x in a list or tuple of flat items -/
def rIn (K : PySem.W.Frag) (neg : Bool) : R2 := fun x y H Q => ∃ p xs, y = .ref p ∧ (SqL K H p xs ∨ SqT K H p xs) ∧ flatV x = true ∧ xs.all flatV = true ∧ Q (.bl (if neg then !inV x xs else inV x xs)) H
theorem op_in_seq : OpR X (compareOp .In) (rIn X.K false) := by
  intro pins s σ H x y v u Q I rx ry h
  obtain ⟨p, xs, rfl, hq, fx, fs, q⟩ := h
  cases ry
  rcases hq with hq | hq
  · obtain ⟨its, r, pl, hz⟩ := I.list hq
    refine SeqAt.in_listAt (eqU x) pl.isList (fun w hw => mem_eqAt rx fx r fs w (by simpa using hw)) ⟨.bl _, H, I, rfl, ?_⟩
    rw [show its.toArray.any (eqU x) = its.any (eqU x) by simp, any_eqU r fs]
    exact q
  · obtain ⟨its, r, pl, hz⟩ := I.tuple hq
    refine SeqAt.in_tupleAt (eqU x) pl (fun w hw => mem_eqAt rx fx r fs w (by simpa using hw)) ⟨.bl _, H, I, rfl, ?_⟩
    rw [show its.toArray.any (eqU x) = its.any (eqU x) by simp, any_eqU r fs]
    exact q
theorem op_notIn_seq : OpR X (compareOp .NotIn) (rIn X.K true) := by
  intro pins s σ H x y v u Q I rx ry h
  obtain ⟨p, xs, rfl, hq, fx, fs, q⟩ := h
  cases ry
  rcases hq with hq | hq
  · obtain ⟨its, r, pl, hz⟩ := I.list hq
    refine SeqAt.notIn_listAt (eqU x) pl.isList (fun w hw => mem_eqAt rx fx r fs w (by simpa using hw)) ⟨.bl _, H, I, rfl, ?_⟩
    rw [show its.toArray.any (eqU x) = its.any (eqU x) by simp, any_eqU r fs]
    exact q
  · obtain ⟨its, r, pl, hz⟩ := I.tuple hq
    refine SeqAt.notIn_tupleAt (eqU x) pl (fun w hw => mem_eqAt rx fx r fs w (by simpa using hw)) ⟨.bl _, H, I, rfl, ?_⟩
    rw [show its.toArray.any (eqU x) = its.any (eqU x) by simp, any_eqU r fs]
    exact q
theorem op_notIn_str : OpR X (compareOp .NotIn) (fun x y H Q => ∃ i j, x = .str i ∧ y = .str j ∧ Q (.bl (!(!(Builtin.Str.occurrences j i 0 j.length 1).isEmpty))) H) := by
  intro pins s σ H x y v u Q I rx ry h
  obtain ⟨i, j, rfl, rfl, q⟩ := h
  obtain ⟨t, rfl⟩ := rx
  obtain ⟨t', rfl⟩ := ry
  exact notIn_str ⟨.bl _, H, I, rfl, q⟩

/-! ### len, list(x), tuple(x) of any list or tuple that is read -/
theorem call_len_seq : CallR X (.builtin "len") (fun xs H Q => ∃ p ys, xs = [.ref p] ∧ (SqL X.K H p ys ∨ SqT X.K H p ys) ∧ Q (.int ys.length) H) := by
  intro pins s σ H xs us Q I r h
  obtain ⟨p, ys, rfl, hq, q⟩ := h
  obtain ⟨u, rfl, rx⟩ := vals1 r
  cases rx
  have hn := line63
  rcases hq with hq | hq
  · obtain ⟨its, r', pl, hz⟩ := I.list hq
    have hlen := r'.length
    exact Calls.call_len_list pl.isList (by simp only [List.size_toArray] <;> omega) ⟨.int ys.length, H, I.tok _, ⟨s.toks + 1, by rw [List.size_toArray, hlen]⟩, q⟩
  · obtain ⟨its, r', pl, hz⟩ := I.tuple hq
    have hlen := r'.length
    exact len_tuple pl (by simp only [List.size_toArray] <;> omega) ⟨.int ys.length, H, I.tok _, ⟨s.toks + 1, by rw [List.size_toArray, hlen]⟩, q⟩
theorem call_len_str : CallR X (.builtin "len") (fun xs H Q => ∃ z, xs = [.str z] ∧ z.length ≤ sizeLine ∧ Q (.int z.length) H) := by
  intro pins s σ H xs us Q I r h
  obtain ⟨z, rfl, hz, q⟩ := h
  obtain ⟨u, rfl, t, rfl⟩ := vals1 r
  have hn := line63
  exact len_str (by omega) ⟨.int z.length, H, I.tok _, ⟨_, rfl⟩, q⟩
theorem CallR.or {f : Value} {r r' : List V → Hp → VK → Prop} (h : CallR X f r) (h' : CallR X f r') : CallR X f (fun xs H Q => r xs H Q ∨ r' xs H Q) := by
  intro pins s σ H xs us Q I rs q
  rcases q with q | q
  · exact h pins s σ H xs us Q I rs q
  · exact h' pins s σ H xs us Q I rs q
theorem call_list_of : CallR X (.type "list") (fun xs H Q => ∃ p ys, xs = [.ref p] ∧ (SqL X.K H p ys ∨ SqT X.K H p ys) ∧ ∀ l, H l = none → Q (.ref l) (upd H l (.lst ys))) := by
  intro pins s σ H xs us Q I r h
  obtain ⟨p, ys, rfl, hq, q⟩ := h
  obtain ⟨u, rfl, rx⟩ := vals1 r
  cases rx
  have fin : ∀ (its : List Value), Vals ys its → ys.length ≤ sizeLine → ∀ (h' : Heap) (c' : Nat), (∀ b o', s.heap.get? b = some o' → h'.get? b = some o') →
      h'.get? s.heap.objs.size = some { cls := .type "list", dict := none, data := .seq its.toArray c', slots := #[] } → EP X pins σ Q (.ref s.heap.objs.size) { s with heap := h' } := fun its r' hz h' c' kp e =>
    ⟨.ref s.heap.objs.size, _, I.laid (t' := s.toks) kp (Nat.le_refl _) (show ObjOk X.prog X.w _ h' _ (.lst ys) from ⟨hz, its, c', r', e⟩), rfl, q _ (I.hok.fresh (Nat.le_refl _))⟩
  rcases hq with hq | hq
  · obtain ⟨its, r', pl, hz⟩ := I.list hq
    have hlen := r'.length
    obtain ⟨o, ho, hc, n, hd⟩ := pl.isList
    exact call_list_seq p (.inl rfl) ho hc hd (fun h' c' kp e => fin its r' hz h' c' kp e) (by simp only [List.size_toArray] <;> omega)
  · obtain ⟨its, r', pl, hz⟩ := I.tuple hq
    have hlen := r'.length
    obtain ⟨o, ho, hc, n, hd⟩ := pl
    exact call_list_seq p (.inr rfl) ho hc hd (fun h' c' kp e => fin its r' hz h' c' kp e) (by simp only [List.size_toArray] <;> omega)
theorem call_tuple_of : CallR X (.type "tuple") (fun xs H Q => ∃ p ys, xs = [.ref p] ∧ ((SqL X.K H p ys ∧ ∀ l, H l = none → Q (.ref l) (upd H l (.tup ys))) ∨ (SqT X.K H p ys ∧ Q (.ref p) H))) := by
  intro pins s σ H xs us Q I r h
  obtain ⟨p, ys, rfl, h⟩ := h
  obtain ⟨u, rfl, rx⟩ := vals1 r
  cases rx
  rcases h with ⟨hq, q⟩ | ⟨hq, q⟩
  · obtain ⟨its, r', pl, hz⟩ := I.list hq
    have hlen := r'.length
    refine call_tuple_list pl.isList (fun h' kp => ?_) (by simp only [List.size_toArray] <;> omega)
    have I1 : Inv X pins σ H { s with heap := h' } := I.kept (t' := s.toks) kp
    have I2 : Inv X pins σ (upd H h'.objs.size (.tup ys)) { s with heap := h'.push { cls := .type "tuple", data := .seq its.toArray } } :=
      I1.laid (t' := s.toks) (fun b o e => Heap.get?_push_of_some _ e) (Nat.le_refl _) (show ObjOk X.prog X.w _ _ _ (.tup ys) from ⟨hz, its, r', IsTup.new _ _⟩)
    exact ⟨.ref h'.objs.size, _, I2, rfl, q _ (I1.hok.fresh (Nat.le_refl _))⟩
  · obtain ⟨its, r', pl, hz⟩ := I.tuple hq
    exact call_tuple_same pl ⟨.ref p, H, I, rfl, q⟩

/-! ### the call of a builtin's method: o.m(..) -/
/-- the value is of that builtin type -/
def tyV (K : PySem.W.Frag) (T : String) (x : V) (H : Hp) : Prop := match x with
  | .str _ => T = "str"
  | .int _ => T = "int"
  | .ref p => (T = "list" ∧ ∃ xs, SqL K H p xs) ∨ (T = "tuple" ∧ ∃ o, K.lookup p = some o ∧ o.cls = .type "tuple" ∧ o.dict = none) ∨
      (T = "dict" ∧ ((∃ kvs, H p = some (.dK kvs)) ∨ ∃ kvs, H p = some (.dT kvs))) ∨ (T = "set" ∧ ∃ S n, H p = some (.set S n))
  | _ => False
theorem tyV_is {pins : List (Addr × Obj)} {σ : St} {H : Hp} {s : Shared} {T : String} {x : V} {v : Value} (I : Inv X pins σ H s) (r : RelV x v) (ty : tyV X.K T x H) :
    s.TypeIs v T ∧ ∀ a, v = .ref a → ∃ ob, s.heap.get? a = some ob ∧ ob.dict = none := by
  cases x with
  | str z =>
    obtain ⟨t, rfl⟩ := r
    cases (show T = "str" from ty)
    exact ⟨typeIs_str s z t, fun _ e => nomatch e⟩
  | int i =>
    obtain ⟨t, rfl⟩ := r
    cases (show T = "int" from ty)
    exact ⟨typeIs_int s i t, fun _ e => nomatch e⟩
  | ref p =>
    cases r
    rcases ty with ⟨rfl, xs, hq⟩ | ⟨rfl, o, hk, hc, hd⟩ | ⟨rfl, hk⟩ | ⟨rfl, S, n, hk⟩
    · obtain ⟨its, _, pl, _⟩ := I.list hq
      refine ⟨pl.isList.typeIs, fun a e => ?_⟩
      cases e
      obtain ⟨o, n, e, c, hd, _⟩ := pl
      exact ⟨o, e, hd⟩
    · refine ⟨⟨o, I.kIn p o hk, hc⟩, fun a e => ?_⟩
      cases e
      exact ⟨o, I.kIn _ o hk, hd⟩
    · have z : ∃ o, s.heap.get? p = some o ∧ o.ExactDict := by
        rcases hk with ⟨kvs, hk⟩ | ⟨kvs, hk⟩
        · obtain ⟨_, _, _, _, o, _, _, e, ex, _⟩ := I.hok p _ hk
          exact ⟨o, e, ex⟩
        · obtain ⟨_, _, _, _, o, _, _, e, ex, _⟩ := I.hok p _ hk
          exact ⟨o, e, ex⟩
      obtain ⟨o, e, ex⟩ := z
      refine ⟨⟨o, e, ex.1⟩, fun a e2 => ?_⟩
      cases e2
      exact ⟨o, e, ex.2.1⟩
    · obtain ⟨o, _, _, _, e, ex, _⟩ := I.hok p _ hk
      refine ⟨⟨o, e, ex.1⟩, fun a e2 => ?_⟩
      cases e2
      exact ⟨o, e, ex.2.1⟩
  | _ => exact False.elim ty
def tBM0 (K : PySem.W.Frag) (T : String) (r : V → List V → Hp → VK → Prop) (to : TE) : TE := fun σ H Q => to σ H fun x H1 => tyV K T x H1 ∧ r x [] H1 Q
def tBM (K : PySem.W.Frag) (T : String) (r : V → List V → Hp → VK → Prop) (to : TE) (t : TA) : TE := fun σ H Q => to σ H fun x H1 => tyV K T x H1 ∧ t σ H1 fun xs H2 => r x xs H2 Q
variable {o e : Expr} {es : List Expr} {to : TE} {t : TA} {name : Str} {apos cpos : Pos} {T id : String} {r : V → List V → Hp → VK → Prop}
theorem pe_bm0 (pa : PlainAttrs T) (slot : Slot T name id) (hty : typeOf (.builtin id) = pure (.type "method_descriptor")) (hm : MtR X id r) (ho : PE X o to)
    (hbase : attributeBase o name X.env (eval o X.env) = eval o X.env := by rfl) (hline : (apos.endLine == cpos.line) = true := by rfl) : PE X (.Call (.Attribute o name apos) [] [] cpos) (tBM0 X.K T r to) := by
  intro pins s σ H Q I h
  refine wpAny_Call_method0_late hbase hline (thn (ho pins s σ H _ I h) fun v s1 ⟨x, H1, I1, r1, ty, q1⟩ => ?_)
  obtain ⟨h1, h2⟩ := tyV_is I1 r1 ty
  exact ⟨T, id, pa, slot, hty, h1, h2, Calls.callWith_builtin rfl (PySem.evalArgs_none (hm pins s1 σ H1 x [] v [] Q I1 r1 .nil q1))⟩
theorem pe_bm (pa : PlainAttrs T) (slot : Slot T name id) (hty : typeOf (.builtin id) = pure (.type "method_descriptor")) (hm : MtR X id r) (ho : PE X o to) (ha : PA X (e :: es) t)
    (hbase : attributeBase o name X.env (eval o X.env) = eval o X.env := by rfl)
    (hfew : ((backTo cpos (starEach (e :: es) X.env)).all (fun x => !x.1) && (backToKw cpos (keywordEach [] X.env)).all (fun x => x.1.isSome)
      && decide ((e :: es).length + ([] : List Keyword).length + (if ([] : List Keyword).isEmpty then 0 else 1) < 30)) = true := by rfl)
    (hline : (apos.endLine == cpos.line) = true := by rfl) (hs : starEach (e :: es) X.env = (false, eval e X.env) :: starEach es X.env := by rfl) (hplain : (backTo cpos (starEach es X.env)).any (·.1) = false := by rfl) :
    PE X (.Call (.Attribute o name apos) (e :: es) [] cpos) (tBM X.K T r to t) := by
  intro pins s σ H Q I h
  refine wpAny_Call_method_late hbase hfew hline rfl (thn (ho pins s σ H _ I h) fun v s1 ⟨x, H1, I1, r1, ty, q1⟩ => ?_)
  obtain ⟨h1, h2⟩ := tyV_is I1 r1 ty
  refine ⟨T, id, pa, slot, hty, h1, h2, ?_⟩
  have hA := ha cpos pins s1 σ H1 _ I1 q1
  rw [hs] at hA ⊢
  refine Calls.callWith_builtin (by show (false || (backTo cpos (starEach es X.env)).any (·.1)) = false; rw [hplain] <;> rfl) (Calls.evalArgs_plain ?_)
  exact thn hA fun us s2 ⟨vs, H2, I2, r2, q2⟩ => hm pins s2 σ H2 x vs v us Q I2 r1 r2 q2
/- xs.append(e), list.index on a module's tuple .. are MtR facts of 06m -/
end
end L2

namespace L2
open PySem PySem.Spec PyProof.Rows

def MtM (X : Cx) (id : String) (r : V → List V → Hp → VK → Prop) : Prop :=
  ∀ (pins : List (Addr × Obj)) (s : Shared) (σ : St) (H : Hp) (x : V) (xs : List V) (v : Value) (us : List Value) (Q : VK), Inv X pins σ H s → RelV x v → Vals xs us → r x xs H Q →
    wpAny (model X.prog X.w) X.A (call (.builtin id) (v :: us)) (EP X pins σ Q) X.xe s

/-! ### lists of values -/
theorem Vals.one : ∀ {x : V} {us : List Value}, Vals [x] us → ∃ u, us = [u] ∧ RelV x u
  | _, _, .cons r .nil => ⟨_, rfl, r⟩
theorem Vals.two : ∀ {x y : V} {us : List Value}, Vals [x, y] us → ∃ u v, us = [u, v] ∧ RelV x u ∧ RelV y v
  | _, _, _, .cons r (.cons q .nil) => ⟨_, _, rfl, r, q⟩
theorem Vals.zero : ∀ {us : List Value}, Vals [] us → us = []
  | _, .nil => rfl
theorem Vals.dropLast {xs : List V} {us : List Value} (h : Vals xs us) : Vals xs.dropLast us.dropLast := by
  induction h with
  | nil => exact .nil
  | cons r t ih =>
    cases t with
    | nil => exact .nil
    | cons q t' => exact .cons r ih
theorem Vals.eraseIdx : ∀ {xs : List V} {us : List Value} (i : Nat), Vals xs us → Vals (xs.eraseIdx i) (us.eraseIdx i)
  | _, _, _, .nil => .nil
  | _, _, 0, .cons _ t => t
  | _, _, i + 1, .cons r t => .cons r (Vals.eraseIdx i t)
theorem Vals.reverse {xs : List V} {us : List Value} (h : Vals xs us) : Vals xs.reverse us.reverse := by
  induction h with
  | nil => exact .nil
  | cons r t ih => rw [List.reverse_cons, List.reverse_cons]; exact Vals.append ih (.cons r .nil)
theorem Vals.rep {xs : List V} {us : List Value} (h : Vals xs us) : ∀ k : Nat, Vals (List.replicate k xs).flatten (List.replicate k us).flatten
  | 0 => .nil
  | k + 1 => by
    rw [List.replicate_succ, List.replicate_succ, List.flatten_cons, List.flatten_cons]
    exact Vals.append h (Vals.rep h k)
theorem erase_last {α : Type} (l : List α) : l.eraseIdx (l.length - 1) = l.dropLast := by
  induction l with
  | nil => rfl
  | cons a r ih =>
    cases r with
    | nil => rfl
    | cons b r =>
      have e : (a :: b :: r).length - 1 = ((b :: r).length - 1) + 1 := by
        have h1 : (a :: b :: r).length = r.length + 2 := rfl
        have h2 : (b :: r).length = r.length + 1 := rfl
        omega
      rw [e, List.eraseIdx_cons_succ, ih]
      all_goals rfl
theorem len_erase {α : Type} : ∀ (l : List α) (i : Nat), (l.eraseIdx i).length ≤ l.length
  | [], _ => Nat.le_refl _
  | _ :: _, 0 => Nat.le_succ _
  | _ :: r, i + 1 => Nat.succ_le_succ (len_erase r i)
theorem foldl_rep (its : List Value) : ∀ (k : Nat) (acc : List Value),
    List.foldl (fun x1 x2 => x1 ++ x2) acc.toArray (List.replicate k its.toArray) = (acc ++ (List.replicate k its).flatten).toArray
  | 0, acc => by simp
  | k + 1, acc => by
    have e : acc.toArray ++ its.toArray = (acc ++ its).toArray := by simp
    have e2 : (acc ++ its) ++ (List.replicate k its).flatten = acc ++ (List.replicate (k + 1) its).flatten := by
      rw [List.replicate_succ, List.flatten_cons, List.append_assoc]
    rw [← e2, ← foldl_rep its k (acc ++ its), ← e, List.replicate_succ, List.foldl_cons]

section
variable {X : Cx} {pins : List (Addr × Obj)} {σ : St} {H : Hp} {s : Shared} {l b : Addr} {xs ys zs : List V}

/-! ### the two steps: a tracked list is rewritten, a new list is laid -/
theorem Inv.lset {its its' : List Value} {n : Nat} {f : Array Value → Array Value} {t' : Nat} (I : Inv X pins σ H s) (hH : H l = some (.lst xs))
    (e : s.heap.get? l = some { cls := .type "list", data := .seq its.toArray n }) (hf : f its.toArray = its'.toArray) (hv : Vals ys its') (hz : ys.length ≤ sizeLine) :
    Inv X pins σ (upd H l (.lst ys)) { s with heap := s.heap.update l (Obj.mapSeq f), toks := t' } := by
  have q := PySem.IsL.update e f
  rw [hf] at q
  refine I.write (x := l) (e := l) (by rw [hH]; exact trivial) (.inl rfl) (fun b' u hb hu => (Heap.get?_update_other s.heap (Obj.mapSeq f) (Ne.symm hb)).trans hu) ⟨_, q⟩ ?_
  exact ⟨hz, its', _, hv, q⟩
theorem Inv.lnew {its : List Value} {t' : Nat} (I : Inv X pins σ H s) (hv : Vals ys its) (hz : ys.length ≤ sizeLine) :
    Inv X pins σ (upd H s.heap.objs.size (.lst ys)) { s with heap := s.heap.push { cls := .type "list", data := .seq its.toArray }, toks := t' } :=
  I.laid (fun _ _ q => Heap.get?_push_of_some _ q) (Nat.le_refl _) ⟨hz, its, 0, hv, Heap.get?_push_size _ rfl⟩
theorem Inv.fresh (I : Inv X pins σ H s) : H s.heap.objs.size = none := I.hok.fresh (Nat.le_refl _)
theorem Inv.lstM (I : Inv X pins σ H s) (hH : H l = some (.lst xs)) : xs.length ≤ sizeLine ∧ ∃ (its : List Value) (n : Nat), Vals xs its ∧ xs.length = its.length ∧ s.heap.get? l = some { cls := .type "list", data := .seq its.toArray n } := by
  obtain ⟨z, its, n, r, e⟩ := I.hok l _ hH
  exact ⟨z, its, n, r, r.length, e⟩

theorem notLongL {n : Nat} (h : n ≤ sizeLine) : Builtin.List.listTooLong n = false := by
  unfold Builtin.List.listTooLong
  exact decide_eq_false (by omega)
end

section
variable {X : Cx}

/-! ### methods -/
def rAppend : V → List V → Hp → VK → Prop := fun x vs H Q => ∃ l xs y, x = .ref l ∧ vs = [y] ∧ H l = some (.lst xs) ∧ xs.length < sizeLine ∧ Q .non (upd H l (.lst (xs ++ [y])))
theorem mt_append : MtM X "list.append" rAppend := by
  intro pins s σ H x vs v us Q I rx rv h
  obtain ⟨l, xs, y, rfl, rfl, hH, hz, q⟩ := h
  cases rx
  obtain ⟨u, rfl, ru⟩ := rv.one
  obtain ⟨z, its, n, r, hl, e⟩ := I.lstM hH
  refine call_meets F.slot_list_append ⟨_, e, rfl⟩ F.entry_list_append (F.args_list_append_2 _ _) (PySem.list_append l its.toArray n u (by rw [List.size_toArray]; omega)) ⟨e, ?_⟩
  refine ⟨.non, _, I.lset (its' := its ++ [u]) hH e (by simp) (r.append (.cons ru .nil)) ?_, rfl, q⟩
  rw [List.length_append, List.length_singleton]
  omega

def rExtend : V → List V → Hp → VK → Prop := fun x vs H Q => ∃ l b xs zs, x = .ref l ∧ vs = [.ref b] ∧ H l = some (.lst xs) ∧ H b = some (.lst zs) ∧ xs.length + zs.length ≤ sizeLine ∧ Q .non (upd H l (.lst (xs ++ zs)))
theorem mt_extend : MtM X "list.extend" rExtend := by
  intro pins s σ H x vs v us Q I rx rv h
  obtain ⟨l, b, xs, zs, rfl, rfl, hH, hB, hz, q⟩ := h
  cases rx
  obtain ⟨u, rfl, ru⟩ := rv.one
  cases ru
  obtain ⟨z, its, n, r, hl, e⟩ := I.lstM hH
  obtain ⟨z2, its2, n2, r2, hl2, e2⟩ := I.lstM hB
  have hsz : its.toArray.size + its2.toArray.size ≤ sizeLine := by rw [List.size_toArray, List.size_toArray]; omega
  have hlong : ¬ (!its.toArray.isEmpty && Builtin.List.listTooLong (its.toArray.size + its2.toArray.size)) = true := by
    rw [notLongL hsz, Bool.and_false]
    exact Bool.false_ne_true
  refine call_meets F.slot_list_extend ⟨_, e, rfl⟩ F.entry_list_extend (F.args_list_extend_2 _ _)
    (AutoSeq1.list_extend_list_list_0 l its.toArray n b its2.toArray n2 hlong (by rw [List.size_toArray]; omega) (by omega)) ⟨e, e2, ?_⟩
  refine ⟨.non, _, I.lset (its' := its ++ its2) hH e (by simp) (r.append r2) ?_, rfl, q⟩
  rw [List.length_append]
  omega

def rPop : V → List V → Hp → VK → Prop := fun x vs H Q => ∃ l xs y, x = .ref l ∧ vs = [] ∧ H l = some (.lst xs) ∧ xs[xs.length - 1]? = some y ∧ Q y (upd H l (.lst xs.dropLast))
theorem mt_pop : MtM X "list.pop" rPop := by
  intro pins s σ H x vs v us Q I rx rv h
  obtain ⟨l, xs, y, rfl, rfl, hH, hy, q⟩ := h
  cases rx
  have hus := rv.zero
  subst hus
  obtain ⟨z, its, n, r, hl, e⟩ := I.lstM hH
  obtain ⟨u, hu, ru⟩ := r.get hy
  have hy' : its.toArray[its.toArray.size - 1]? = some u := by
    show its.toArray[its.length - 1]? = some u
    rw [← Array.getElem?_toList, ← hl]
    exact hu
  refine call_meets F.slot_list_pop ⟨_, e, rfl⟩ F.entry_list_pop (F.args_list_pop_1 _) (MeetsSeq.list_pop_last l its.toArray n u hy' (by rw [List.size_toArray]; omega)) ⟨e, ?_⟩
  refine ⟨y, _, I.lset (its' := its.dropLast) hH e ?_ r.dropLast ?_, ru, q⟩
  · show its.toArray.eraseIdxIfInBounds (its.toArray.size - 1) = its.dropLast.toArray
    rw [List.size_toArray, List.eraseIdxIfInBounds_toArray, erase_last]
  · rw [List.length_dropLast]
    omega

def rPopAt : V → List V → Hp → VK → Prop := fun x vs H Q => ∃ l xs i k y, x = .ref l ∧ vs = [.int i] ∧ H l = some (.lst xs) ∧ -(2 ^ 63) ≤ i ∧ i < 2 ^ 63 ∧ seqIndex? i xs.length = some k ∧ xs[k]? = some y ∧ Q y (upd H l (.lst (xs.eraseIdx k)))
theorem mt_popAt : MtM X "list.pop" rPopAt := by
  intro pins s σ H x vs v us Q I rx rv h
  obtain ⟨l, xs, i, k, y, rfl, rfl, hH, h1, h2, hk, hy, q⟩ := h
  cases rx
  obtain ⟨u, rfl, ru⟩ := rv.one
  obtain ⟨t, rfl⟩ := ru
  obtain ⟨z, its, n, r, hl, e⟩ := I.lstM hH
  obtain ⟨w, hw, rw'⟩ := r.get hy
  refine call_meets F.slot_list_pop ⟨_, e, rfl⟩ F.entry_list_pop (F.args_list_pop_2 _ _)
    (MeetsSeq.list_pop_at l its.toArray n i t k w (fitsIndex_both h1 h2) (by rw [List.size_toArray, ← hl]; exact hk) (by rw [← Array.getElem?_toList]; exact hw) (by rw [List.size_toArray]; omega)) ⟨e, ?_⟩
  refine ⟨y, _, I.lset (its' := its.eraseIdx k) hH e ?_ (r.eraseIdx k) ?_, rw', q⟩
  · show its.toArray.eraseIdxIfInBounds k = (its.eraseIdx k).toArray
    rw [List.eraseIdxIfInBounds_toArray]
  · have := len_erase xs k
    omega

def rReverse : V → List V → Hp → VK → Prop := fun x vs H Q => ∃ l xs, x = .ref l ∧ vs = [] ∧ H l = some (.lst xs) ∧ Q .non (upd H l (.lst xs.reverse))
theorem mt_reverse : MtM X "list.reverse" rReverse := by
  intro pins s σ H x vs v us Q I rx rv h
  obtain ⟨l, xs, rfl, rfl, hH, q⟩ := h
  cases rx
  have hus := rv.zero
  subst hus
  obtain ⟨z, its, n, r, hl, e⟩ := I.lstM hH
  refine call_meets F.slot_list_reverse ⟨_, e, rfl⟩ F.entry_list_reverse (F.args_list_reverse_1 _) (AutoSeq1.list_reverse_list_0 l its.toArray n (by rw [List.size_toArray]; omega)) ⟨e, ?_⟩
  refine ⟨.non, _, I.lset (its' := its.reverse) hH e (by simp) r.reverse ?_, rfl, q⟩
  rw [List.length_reverse]
  omega

def rClear : V → List V → Hp → VK → Prop := fun x vs H Q => ∃ l xs, x = .ref l ∧ vs = [] ∧ H l = some (.lst xs) ∧ Q .non (upd H l (.lst []))
theorem mt_clear : MtM X "list.clear" rClear := by
  intro pins s σ H x vs v us Q I rx rv h
  obtain ⟨l, xs, rfl, rfl, hH, q⟩ := h
  cases rx
  have hus := rv.zero
  subst hus
  obtain ⟨z, its, n, r, hl, e⟩ := I.lstM hH
  refine call_meets F.slot_list_clear ⟨_, e, rfl⟩ F.entry_list_clear (F.args_list_clear_1 _) (AutoSeq1.list_clear_list_0 l its.toArray n (by rw [List.size_toArray]; omega)) ⟨e, ?_⟩
  exact ⟨.non, _, I.lset (its' := []) (ys := []) hH e rfl .nil (Nat.zero_le _), rfl, q⟩

/-! ### list + list, list += list, list * int -/
def rCat : R2 := fun x y H Q => ∃ l b xs zs, x = .ref l ∧ y = .ref b ∧ H l = some (.lst xs) ∧ H b = some (.lst zs) ∧ xs.length + zs.length ≤ sizeLine ∧ ∀ p, H p = none → Q (.ref p) (upd H p (.lst (xs ++ zs)))
theorem op_cat : OpR X (binaryOp .Add) rCat := by
  intro pins s σ H x y v u Q I rx ry h
  obtain ⟨l, b, xs, zs, rfl, rfl, hH, hB, hz, q⟩ := h
  cases rx
  cases ry
  obtain ⟨z, its, n, r, hl, e⟩ := I.lstM hH
  obtain ⟨z2, its2, n2, r2, hl2, e2⟩ := I.lstM hB
  refine PySem.P.add_list e e2 ?_ (by rw [List.size_toArray, List.size_toArray]; omega)
  have ea : its.toArray ++ its2.toArray = (its ++ its2).toArray := by simp
  rw [ea]
  exact ⟨.ref _, _, I.lnew (t' := s.toks) (r.append r2) (by rw [List.length_append]; omega), rfl, q _ I.fresh⟩
/-- a list times an int (a negative one is nothing) -/
def rRep : R2 := fun x y H Q => ∃ l k xs, x = .ref l ∧ y = .int k ∧ H l = some (.lst xs) ∧ -(2 ^ 63) ≤ k ∧ k < 2 ^ 63 ∧ xs.length * k.toNat ≤ sizeLine ∧
  ∀ p, H p = none → Q (.ref p) (upd H p (.lst (List.replicate k.toNat xs).flatten))
theorem len_rep {α : Type} (xs : List α) (k : Nat) : (List.replicate k xs).flatten.length = k * xs.length := by
  induction k with
  | zero => simp
  | succ k ih => rw [List.replicate_succ, List.flatten_cons, List.length_append, ih, Nat.succ_mul, Nat.add_comm]
theorem op_rep : OpR X (binaryOp .Mult) rRep := by
  intro pins s σ H x y v u Q I rx ry h
  obtain ⟨l, k, xs, rfl, rfl, hH, h1, h2, hz, q⟩ := h
  cases rx
  obtain ⟨t, rfl⟩ := ry
  obtain ⟨z, its, n, r, hl, e⟩ := I.lstM hH
  have hlen : its.toArray.size * k.toNat ≤ sizeLine := by rw [List.size_toArray, ← hl]; exact hz
  have hcap : ¬ its.toArray.size * k.toNat > (2 ^ 63 - 1) / 8 := by
    have : (sizeLine : Nat) ≤ (2 ^ 63 - 1) / 8 := by decide
    omega
  have hfit : ¬ (!Builtin.List.listFitsIndex k) = true := by
    rw [fitsIndex_both h1 h2]
    exact Bool.false_ne_true
  have hlong : ¬ Builtin.List.listTooLong (its.toArray.size * k.toNat) = true := by
    rw [notLongL hlen]
    exact Bool.false_ne_true
  have hnew : List.foldl (fun x1 x2 => x1 ++ x2) #[] (List.replicate (if its.toArray.isEmpty = true then 0 else k.toNat) its.toArray) = (List.replicate k.toNat its).flatten.toArray := by
    have f0 : ∀ m : Nat, List.foldl (fun x1 x2 => x1 ++ x2) #[] (List.replicate m its.toArray) = (List.replicate m its).flatten.toArray := fun m => by
      have := foldl_rep its m []
      rw [List.nil_append] at this
      exact this
    rw [f0]
    cases its with
    | nil => simp
    | cons a r' => rw [if_neg (by simp)]
  refine wpAny_binaryOp_repeat_ref (T := "list") (U := "int") (by decide) ⟨_, e, rfl⟩ (fun s' => typeIs_int s' k t) noFill_list_mul F.fills_int_mul F.slot_int_rmul repeat_list F.slot_int_index.lookup
    (call_meets F.slot_int_rmul (typeIs_int s k t) F.entry_int_rmul (F.args_int_rmul_2 _ _) (int___rmul___int_list k t l its.toArray n)
      ⟨e, rfl, ⟨_, e, rfl⟩, call_meets F.slot_list_mul ⟨_, e, rfl⟩ F.entry_list_mul (F.args_list_mul_2 _ _) (AutoListH.list___mul___list_int_3 l its.toArray n k t hfit hcap hlong) ⟨e, ?_⟩⟩)
  rw [hnew]
  exact ⟨.ref _, _, I.lnew (t' := s.toks) (r.rep k.toNat) (by rw [len_rep, Nat.mul_comm]; exact hz), rfl, q _ I.fresh⟩

/-! ### del xs[i] -/
theorem del_list {pins : List (Addr × Obj)} {s : Shared} {σ : St} {H : Hp} {l : Addr} {xs : List V} {i : Int} {t : Tok} {k : Nat} {Q : Unit → Shared → Prop} (I : Inv X pins σ H s) (hH : H l = some (.lst xs))
    (h1 : -(2 ^ 63) ≤ i) (h2 : i < 2 ^ 63) (hk : seqIndex? i xs.length = some k) (h : ∀ s', Inv X pins σ (upd H l (.lst (xs.eraseIdx k))) s' → Q () s') :
    wpAny (model X.prog X.w) X.A (delItem (.ref l) (.int i t)) Q X.xe s := by
  obtain ⟨z, its, n, r, hl, e⟩ := I.lstM hH
  refine PySem.P.delItem_list (k := k) e (fitsIndex_both h1 h2) (by rw [List.size_toArray, ← hl]; exact hk) (h _ ?_) (by rw [List.size_toArray]; omega)
  refine I.lset (its' := its.eraseIdx k) (t' := s.toks) hH e ?_ (r.eraseIdx k) ?_
  · show its.toArray.eraseIdxIfInBounds k = (its.eraseIdx k).toArray
    rw [List.eraseIdxIfInBounds_toArray]
  · have := len_erase xs k
    omega
end

/-! ### xs[a:b] = ys -/
section
variable {prog : Program} {w : World} {A : Around} {E : Value → Shared → Prop} {s : Shared}
theorem splice_eq (its its2 : List Value) (a c : Nat) : its.toArray.extract 0 a ++ its2.toArray ++ its.toArray.extract c its.toArray.size = (its.take a ++ its2 ++ its.drop c).toArray := by
  apply Array.toList_inj.mp
  first
    | (simp
       exact List.take_of_length_le (by simp))
    | simp [List.take_of_length_le]
    | simp
theorem bounds_run {a c n : Nat} (hac : a ≤ c) (hc : c ≤ n) : sliceBounds (some (a : Int)) (some (c : Int)) none n = ((a : Int), (c : Int), 1) := by
  simp only [sliceBounds, Option.getD_none]
  have h1 : ¬ ((a : Int) < 0) := by omega
  have h2 : ¬ ((c : Int) < 0) := by omega
  simp only [h1, h2, if_false, show (1 : Int) > 0 by decide, if_true]
  congr 1
  · omega
  · congr 1; omega
set_option maxRecDepth 100000 in
/-- list.__setitem__ with a slice of step one and another list -/
theorem setItem_slice {l b sl : Addr} {items new : Array Value} {n n2 : Nat} {vl vu : Value} {a c : Nat} {Q : Unit → Shared → Prop}
    (e : s.heap.get? l = some { cls := .type "list", data := .seq items n }) (e2 : s.heap.get? b = some { cls := .type "list", data := .seq new n2 }) (hne : l ≠ b)
    (hs : s.heap.IsSliceOf sl vl vu .none) (pl : IsPart vl (some (a : Int))) (pu : IsPart vu (some (c : Int))) (hac : a ≤ c) (hc : c ≤ items.size)
    (hsz : items.size + new.size ≤ sizeLine) (h : Q () { s with heap := s.heap.update l (Obj.mapSeq fun xs => xs.extract 0 a ++ new ++ xs.extract c xs.size) }) :
    wpAny (model prog w) A (setItem (.ref l) (.ref sl) (.ref b)) Q E s := by
  have hl : s.heap.IsList l items := PySem.IsL.isList e
  have hb : s.heap.IsList b new := PySem.IsL.isList e2
  obtain ⟨os, hos, hcs, hds⟩ := id hs
  have hTs : s.TypeIs (.ref sl) "slice" := ⟨os, hos, hcs⟩
  have hstep : ¬ ((rawPart none == rawInt 0) = true) := Bool.false_ne_true
  have hsame : Builtin.List.listSameRef (.ref l) (.ref b) = false := by
    unfold Builtin.List.listSameRef
    exact beq_eq_false_iff_ne.mpr hne
  have hmax : (max (a : Int) (c : Int)).toNat = c := by omega
  have hz' : ((fun xs : Array Value => xs.extract 0 a ++ new ++ xs.extract c xs.size) items).size ≤ sizeLine + 1 := by
    simp only [Array.size_append, Array.size_extract]
    omega
  unfold setItem
  try with_reducible refine wpAny_holding ?_
  first | refine wpAny_bind (wpAny_pure ?_) | skip
  refine wpAny_bind (wpAny_sequenceKey hl.typeIs (by decide) ?_)
  refine wpAny_bind (wpAny_callSpecial?_slot (name := Str.ofString "__setitem__") hl.typeIs slot_list_setitem
    (wpAny_call_entry slot_list_setitem hl.typeIs entry_list_setitem ?_ (args_list_setitem _ _ _)))
  show wpAny _ _ (Builtin.List.listSubscript? (.ref sl) >>= _) _ _ s
  refine wpAny_bind ?_
  unfold Builtin.List.listSubscript?
  refine wpAny_bind (wpAny_specialOf hTs slice_no_index ?_)
  simp only [Option.isNone_none, if_true]
  refine wpAny_pure ?_
  show wpAny _ _ (typeOf (.ref sl) >>= _) _ _ s
  refine wpAny_bind (wpAny_typeOf hTs ?_)
  first
    | rw [if_neg (by decide)]
    | refine PySem.W.KFB.if_not (by decide) ?_
  rw [listSliceParts_eq]
  refine wpAny_bind (wpAny_bind (wpAny_field hos hds (x := .none) rfl (wpAny_bind (wpAny_listPart .none ?_))))
  rw [if_neg hstep]
  refine wpAny_bind (wpAny_field hos hds (x := vl) rfl (wpAny_bind (wpAny_listPart pl ?_)))
  refine wpAny_bind (wpAny_field hos hds (x := vu) rfl (wpAny_bind (wpAny_listPart pu (wpAny_pure ?_))))
  first
    | simp only [hsame, Bool.false_eq_true, if_false]
    | refine PySem.W.KFB.if_not hsame ?_
    | (dsimp only
       rw [if_neg (by rw [hsame]; exact Bool.false_ne_true)])
  refine wpAny_bind (m := Builtin.List.listAllItems (.ref b) "must assign iterable to extended slice") ?_
  unfold Builtin.List.listAllItems
  refine wpAny_bind (wpAny_typeOf hb.typeIs ?_)
  first
    | refine PySem.W.KFB.if_so (by decide) ?_
    | rw [if_pos (by decide)]
    | simp only [beq_self_eq_true, Bool.true_or, if_true]
  unfold Builtin.List.listItems
  refine wpAny_bind (wpAny_seqItems e2 rfl (wpAny_pure ?_))
  refine wpAny_bind (wpAny_bind (wpAny_seqItems e rfl (wpAny_pure ?_)))
  refine wpAny_bind (wpAny_of_eq ((sliceIndices_raw (some (a : Int)) (some (c : Int)) none items.size (by simp)).trans (congrArg (pure : Int × Int × Int → Sem (Int × Int × Int)) (bounds_run hac hc))) ?_)
  show wpAny _ _ (if ((1 : Int) == 1) = true then _ else _) _ _ s
  rw [if_pos (by decide)]
  refine wpAny_bind (wpAny_rule ?_)
  first
    | simp only [notLongL hsz, Bool.false_eq_true, if_false]
    | refine PySem.W.KFB.if_not (notLongL hsz) ?_
  first | refine wpAny_bind (wpAny_pure ?_) | skip
  show wpAny _ _ (updateSeq l (fun xs => xs.extract 0 ((a : Int)).toNat ++ new ++ xs.extract (max (a : Int) (c : Int)).toNat xs.size) >>= _) _ _ s
  rw [hmax, Int.toNat_natCast]
  refine wpAny_bind (wpAny_updateSeq (hz := Nat.le_trans (Nat.le_add_right _ _) hsz) (_hz' := hz') e rfl ?_)
  refine wpAny_bind (wpAny_letGo ?_)
  first
    | exact wpAny_bind (wpAny_pure (wpAny_pure ⟨.none, rfl, wpAny_pure h⟩))
    | exact wpAny_pure ⟨.none, rfl, wpAny_pure h⟩
end

section
variable {X : Cx}
/-- xs[a:c] = ys of another list, at the value level: sl is the slice object that was just made -/
theorem set_slice {pins : List (Addr × Obj)} {s : Shared} {σ : St} {H : Hp} {l b sl : Addr} {xs ys : List V} {a c : Int} {vl vu : Value} {Q : Unit → Shared → Prop} (I : Inv X pins σ H s)
    (hH : H l = some (.lst xs)) (hB : H b = some (.lst ys)) (hne : l ≠ b) (hs : s.heap.IsSliceOf sl vl vu .none) (ra : RelV (.int a) vl) (rc : RelV (.int c) vu) (h0 : 0 ≤ a) (hac : a ≤ c) (hc : c ≤ xs.length)
    (hz : xs.length + ys.length ≤ sizeLine) (h : ∀ s', Inv X pins σ (upd H l (.lst (xs.take a.toNat ++ ys ++ xs.drop c.toNat))) s' → Q () s') :
    wpAny (model X.prog X.w) X.A (setItem (.ref l) (.ref sl) (.ref b)) Q X.xe s := by
  obtain ⟨ta, rfl⟩ := ra
  obtain ⟨tc, rfl⟩ := rc
  obtain ⟨z, its, n, r, hl, e⟩ := I.lstM hH
  obtain ⟨z2, its2, n2, r2, hl2, e2⟩ := I.lstM hB
  obtain ⟨a', rfl⟩ := Int.eq_ofNat_of_zero_le h0
  obtain ⟨c', rfl⟩ := Int.eq_ofNat_of_zero_le (Int.le_trans h0 hac)
  simp only [Int.toNat_natCast] at h
  refine setItem_slice (a := a') (c := c') e e2 hne hs (.int _ _) (.int _ _) (by omega) (by rw [List.size_toArray]; omega) (by rw [List.size_toArray, List.size_toArray]; omega) (h _ ?_)
  refine I.lset (its' := its.take a' ++ its2 ++ its.drop c') (t' := s.toks) hH e ?_ (Vals.append (Vals.append (r.take _) r2) (r.drop _)) ?_
  · exact splice_eq its its2 a' c'
  · rw [List.length_append, List.length_append, List.length_take, List.length_drop]
    omega
end
end L2

namespace Att
open PySem PySem.W PySem.Calls PyProof.Rows

/-! ### the script -/
theorem ints_of_wellAll {P : Params} {h : Heap} : ∀ (ns : List Int) (vs : List Value), WellAll P h vs (ns.map WData.int) → IntsAre vs ns := by
  intro ns
  induction ns with
  | nil =>
    intro vs w
    rw [List.map_nil] at w
    cases w
    exact .nil
  | cons n ns ih =>
    intro vs w
    rw [List.map_cons] at w
    cases w with
    | cons a b =>
      cases a
      exact .cons _ _ (ih _ b)

theorem script_of {l : OpenLaw} {n : Nat} (hn : l.most = some n) {P : Params} {h : Heap} {args : List WData} {vals : List Value}
    (hpre : l.row.toRowW.claim.pre args = true) (hwl : WellAll P h vals args) :
    ∃ a vs ns, vals = [Value.ref a] ∧ args = [WData.list (ns.map WData.int)] ∧ h.get? a = some { cls := .type "list", data := .seq vs.toArray } ∧ IntsAre vs ns ∧ ns.length ≤ n := by
  have hsh : WShape.hasAll [] args [.list .int] = true := (pre_splitW hpre).1
  have hc : l.pre.holds [] { args := args } = true := (pre_splitW hpre).2
  obtain ⟨d, r, rfl, h1, h2⟩ := hasAllW_cons hsh
  obtain rfl := hasAllW_nil h2
  obtain ⟨xs, rfl, h3⟩ := hasW_list h1
  obtain ⟨ns, rfl⟩ := items_int h3
  have hlen : ns.length ≤ n := by
    unfold OpenLaw.pre at hc
    have h4 : (WTm.not (.lt (.lit (.int (n : Int))) (.len (.arg 0)))).holds [] { args := [.list (ns.map .int)] } = true := by
      have h4 := (holds_andW hc).1
      rw [hn] at h4
      exact h4
    have h5 := condW_of h4 (w_not (w_lt w_lit (w_len_list (w_arg rfl))))
    rw [List.length_map] at h5
    refine Nat.le_of_not_lt fun q => ?_
    have q' : (n : Int) < ((ns.length : Nat) : Int) := by omega
    first
      | (rw [decide_eq_true q'] at h5; exact absurd h5 (by decide))
      | (simp at h5; omega)
  cases hwl with
  | cons w1 w2 =>
    cases w2
    cases w1 with
    | list ho hall => exact ⟨_, _, ns, rfl, rfl, ho, ints_of_wellAll ns _ hall, hlen⟩

theorem post_true (l : OpenLaw) (args : List WData) : l.row.toRowW.claim.post args (.bool true) args = true :=
  postW_of (r := l.row.toRowW) (X := (true == true))
    (show WShape.has [] (.bool true) .bool = true by first | rfl | decide | simp [WShape.has, WShape.arms, WShape.armsAll])
    (show (WTm.eq .res (.lit (.bool true))).value [] { args := args, res := some (.bool true), after := args } = some (.bool (true == true)) from w_eq_bool (w_res rfl) w_lit) rfl

/-! ### the attachment: holds_open's last premise (the goal 'hc' behind k_head) from a wpAny of the law's body -/
theorem attach {l : OpenLaw} {n : Nat} {q : Program} {loose : List Str} {XP : (Str → Option Value) → Heap → Prop} {YP : World → Heap → Prop} {d : DefRec} {x : Str}
    (hn : l.most = some n) (hdf : d.params.defaults = [])
    (hbind : ∀ pm cd doc v : Value, bindArgs (docDef d.name d.params d.body d.scope pm cd doc) ⟨[v], []⟩ = pure [(x, v)])
    (hx : d.scope.names.lookup x = some .local ∨ d.scope.names.lookup x = some .cell)
    (hk : d.scope.kind = .function) (hco : d.scope.isCoroutine = false) (hgen : d.scope.isGenerator = false)
    (body : ∀ (w : World) (s₀ s₁ s : Shared) (mg mb : Str → Option Value) (fa : Addr) (o : Obj) (pm cd doc : Value) (a : Addr) (vs : List Value) (ns : List Int),
      Ground q loose [] XP w s₀ mg mb s₁.heap → YP w s₁.heap →
      s₁.heap.get? fa = some o → o.data = .func (docDef d.name d.params d.body d.scope pm cd doc) → s₁.heap.CodeRec cd d.name → mg d.name = some (.ref fa) →
      s₁.heap.get? a = some { cls := .type "list", data := .seq vs.toArray } → IntsAre vs ns → ns.length ≤ n →
      s.gens = #[] → s.os = s₁.os →
      Fr s₁.heap s₁.heap.objs.size s.heap (bindL (envOfC d.name d.scope s₁.heap.objs.size fa cd).kindOf [(x, .ref a)] fun _ => none) →
      Cl s₁.heap.objs.size (cellsFrom (s₁.heap.objs.size + 1) d.scope.names []) s.heap (bindC (envOfC d.name d.scope s₁.heap.objs.size fa cd).kindOf [(x, .ref a)] fun _ => none) →
      wpAny (model l.prog w) (callerA.deeper (envOfC d.name d.scope s₁.heap.objs.size fa cd)) (execs d.body (envOfC d.name d.scope s₁.heap.objs.size fa cd))
        (fun f s' => f = .ret (.bool true) ∧ OldK s₁.heap s'.heap ∧ s'.os = s₁.os ∧ AllBare s'.gens) (fun _ _ => False) s) :
    WalkO q loose XP YP l.row.toRowW d [] (fun f vs => PySem.call f vs) := by
  intro w s₀ s₁ mg mb G Y fa o pm cd doc dV kV ho hd hcd hD hmg hg args vals as hpre hlay hrd hwl hlo
  obtain rfl : dV = .none := Dflts.none hD hdf
  obtain rfl : kV = .none := Dflts.noKw hD
  obtain ⟨a, vs, ns, rfl, rfl, hobj, hints, hlen⟩ := script_of hn hpre hwl
  refine enter_call ?_
  refine call_cells_ret (o := o) (by rw [depth_caller]; decide) ho (fd_plain hd) G.T.nolimit hcd (hbind pm cd doc (.ref a)) (fun y hy => ?_) (fun h₁ tk F X => ?_) hco hgen hk
  · obtain rfl : y = (x, Value.ref a) := List.mem_singleton.mp hy
    rcases hx with e | e
    · exact .inl e
    · exact .inr ⟨e, cellsFrom_some _ _ _ (.inl e)⟩
  · refine wpAny_mono (body w s₀ s₁ { s₁ with heap := h₁, toks := tk } mg mb fa o pm cd doc a vs ns G Y ho (fd_plain hd) hcd hmg hobj hints hlen hg rfl F X) (fun f s' hq => ?_) (fun _ _ hq => hq)
    obtain ⟨rfl, h2, h3, h4⟩ := hq
    exact ⟨.inl ⟨.bool true, .bool true, [], rfl, fun _ => rfl, .bool true, post_true l _, fun _ => ⟨List.Pairwise.nil, fun _ hm => (nomatch hm)⟩⟩, h2, h3, h4⟩

/-- the same from a codeAny of the CALL (for a layer whose function contracts speak of calls) -/
theorem attach_call {l : OpenLaw} {n : Nat} {q : Program} {loose : List Str} {XP : (Str → Option Value) → Heap → Prop} {YP : World → Heap → Prop} {d : DefRec}
    (hn : l.most = some n) (hdf : d.params.defaults = [])
    (call : ∀ (w : World) (s₀ s₁ : Shared) (mg mb : Str → Option Value) (fa : Addr) (o : Obj) (pm cd doc : Value) (a : Addr) (vs : List Value) (ns : List Int),
      Ground q loose [] XP w s₀ mg mb s₁.heap → YP w s₁.heap →
      s₁.heap.get? fa = some o → o.data = .func (docDef d.name d.params d.body d.scope pm cd doc) → s₁.heap.CodeRec cd d.name → mg d.name = some (.ref fa) →
      s₁.heap.get? a = some { cls := .type "list", data := .seq vs.toArray } → IntsAre vs ns → ns.length ≤ n → s₁.gens = #[] →
      codeAny (model l.prog w) callerA (.call (.ref fa) ⟨[.ref a], []⟩) (fun r s' => r = .ok (.ret (.bool true)) ∧ OldK s₁.heap s'.heap ∧ s'.os = s₁.os ∧ AllBare s'.gens) s₁) :
    WalkO q loose XP YP l.row.toRowW d [] (fun f vs => PySem.call f vs) := by
  intro w s₀ s₁ mg mb G Y fa o pm cd doc dV kV ho hd hcd hD hmg hg args vals as hpre hlay hrd hwl hlo
  obtain rfl : dV = .none := Dflts.none hD hdf
  obtain rfl : kV = .none := Dflts.noKw hD
  obtain ⟨a, vs, ns, rfl, rfl, hobj, hints, hlen⟩ := script_of hn hpre hwl
  refine enter_call (codeAny_mono (call w s₀ s₁ mg mb fa o pm cd doc a vs ns G Y ho (fd_plain hd) hcd hmg hobj hints hlen hg) fun r s' hq => ?_)
  obtain ⟨rfl, h2, h3, h4⟩ := hq
  exact ⟨.inl ⟨.bool true, .bool true, [], rfl, fun _ => rfl, .bool true, post_true l _, fun _ => ⟨List.Pairwise.nil, fun _ hm => (nomatch hm)⟩⟩, h2, h3, h4⟩

/-- the same where the top left finished generators (o_head chose holds_openN): nothing may have changed at all and no generator may be left -/
theorem attachN {l : OpenLaw} {n : Nat} {q : Program} {loose : List Str} {XP : (Str → Option Value) → Heap → Prop} {YP : World → Heap → Prop} {d : DefRec} {x : Str}
    (hn : l.most = some n) (hdf : d.params.defaults = [])
    (hbind : ∀ pm cd doc v : Value, bindArgs (docDef d.name d.params d.body d.scope pm cd doc) ⟨[v], []⟩ = pure [(x, v)])
    (hx : d.scope.names.lookup x = some .local ∨ d.scope.names.lookup x = some .cell)
    (hk : d.scope.kind = .function) (hco : d.scope.isCoroutine = false) (hgen : d.scope.isGenerator = false)
    (body : ∀ (w : World) (s₀ s₁ s : Shared) (mg mb : Str → Option Value) (fa : Addr) (o : Obj) (pm cd doc : Value) (a : Addr) (vs : List Value) (ns : List Int),
      Ground q loose [] XP w s₀ mg mb s₁.heap → YP w s₁.heap →
      s₁.heap.get? fa = some o → o.data = .func (docDef d.name d.params d.body d.scope pm cd doc) → s₁.heap.CodeRec cd d.name → mg d.name = some (.ref fa) →
      s₁.heap.get? a = some { cls := .type "list", data := .seq vs.toArray } → IntsAre vs ns → ns.length ≤ n →
      s.gens = #[] → s.os = s₁.os →
      Fr s₁.heap s₁.heap.objs.size s.heap (bindL (envOfC d.name d.scope s₁.heap.objs.size fa cd).kindOf [(x, .ref a)] fun _ => none) →
      Cl s₁.heap.objs.size (cellsFrom (s₁.heap.objs.size + 1) d.scope.names []) s.heap (bindC (envOfC d.name d.scope s₁.heap.objs.size fa cd).kindOf [(x, .ref a)] fun _ => none) →
      wpAny (model l.prog w) (callerA.deeper (envOfC d.name d.scope s₁.heap.objs.size fa cd)) (execs d.body (envOfC d.name d.scope s₁.heap.objs.size fa cd))
        (fun f s' => f = .ret (.bool true) ∧ (∀ b o, s₁.heap.get? b = some o → s'.heap.get? b = some o) ∧ s'.os = s₁.os ∧ s'.gens = #[]) (fun _ _ => False) s) :
    WalkN q loose XP YP l.row.toRowW d [] (fun f vs => PySem.call f vs) := by
  intro w s₀ s₁ mg mb G Y fa o pm cd doc dV kV ho hd hcd hD hmg hg args vals as hpre hlay hrd hwl hlo
  obtain rfl : dV = .none := Dflts.none hD hdf
  obtain rfl : kV = .none := Dflts.noKw hD
  obtain ⟨a, vs, ns, rfl, rfl, hobj, hints, hlen⟩ := script_of hn hpre hwl
  refine enter_callW ?_
  refine call_cells_ret (o := o) (by rw [depth_caller]; decide) ho (fd_plain hd) G.T.nolimit hcd (hbind pm cd doc (.ref a)) (fun y hy => ?_) (fun h₁ tk F X => ?_) hco hgen hk
  · obtain rfl : y = (x, Value.ref a) := List.mem_singleton.mp hy
    rcases hx with e | e
    · exact .inl e
    · exact .inr ⟨e, cellsFrom_some _ _ _ (.inl e)⟩
  · refine wpAny_mono (body w s₀ s₁ { s₁ with heap := h₁, toks := tk } mg mb fa o pm cd doc a vs ns G Y ho (fd_plain hd) hcd hmg hobj hints hlen hg rfl F X) (fun f s' hq => ?_) (fun _ _ hq => hq)
    obtain ⟨rfl, h2, h3, h4⟩ := hq
    exact ⟨.inl ⟨.bool true, .bool true, [], rfl, fun _ => rfl, .bool true, post_true l _, fun _ => ⟨List.Pairwise.nil, fun _ hm => (nomatch hm)⟩⟩, h2, h3, h4⟩

/-! ### rules over ANY heap (no ledger) from facts about the written part K: the library's own take a ledger (News) for what they write -/
section
variable {prog : Program} {w : World} {A : Around} {E : Value → Shared → Prop} {s : Shared} {K : Frag}

/-- a def of the module, or a method (qual 'C.m'), entered: the frame is the next address; cells behind it -/
theorem call_fn {R : Result → Shared → Prop} {name qual : Str} {params : Arguments} {body : List Stmt} {scope : Scope} {dV kV doc pm cdv ct oc : Value} {an od : Option Addr} {osl : Array (Option Value)} {f : Addr} {args : Args} {binds : List (Str × Value)}
    (X : K.In s.heap) (hlim : s.heap.NoLimit) (ho : K.lookup f = some ⟨oc, od, .func (fnOf name qual params body scope dV kV doc pm an cdv ct), osl⟩) (hcd : codeIn K cdv qual = true) (hroom : A.depth < recursionLimit)
    (hbind : BindsTo s (fnOf name qual params body scope dV kV doc pm an cdv ct) args binds)
    (hkind : (binds.all fun y => scope.names.lookup y.1 == some .local || scope.names.lookup y.1 == some .cell) = true)
    (h : ∀ s₁, InCallC s s.heap.objs.size (bindL (envOfC qual scope s.heap.objs.size f cdv).kindOf binds fun _ => none) (cellsFrom (s.heap.objs.size + 1) scope.names [])
        (bindC (envOfC qual scope s.heap.objs.size f cdv).kindOf binds fun _ => none) s₁ →
      wpAny (model prog w) (A.deeper (envOfC qual scope s.heap.objs.size f cdv)) (execs body (envOfC qual scope s.heap.objs.size f cdv))
        (fun fl s' => R (.ok (.ret (match fl with | .ret v => v | _ => .none))) s')
        (fun e s' => wpAny (model prog w) (A.deeper (envOfC qual scope s.heap.objs.size f cdv)) (leaving (envOfC qual scope s.heap.objs.size f cdv) e) (fun _ s'' => R (.error e) s'') (fun e' s'' => R (.error e') s'') s') s₁)
    (hco : scope.isCoroutine = false) (hgen : scope.isGenerator = false) (hk : scope.kind = .function) : codeAny (model prog w) A (.call (.ref f) args) R s := by
  refine codeAny_call_function hroom (X _ _ ho) rfl hco hgen rfl (codeRec_of X hcd) (hbind _ _ _ _ ?_)
  refine wpAny_newFunctionEnv_cells hk (kindsX hkind _) fun env he s₁ x => ?_
  subst he
  exact ⟨hlim.keeps x.toInCall.keep, codeAny_func (h s₁ x)⟩

/-- C(..): dict at size, instance at size + 1, then __init__ -/
theorem make_obj {R : Result → Shared → Prop} {C fI : Addr} {rest : List Value} {kw : List (Str × Value)}
    (X : K.In s.heap) (hm : makesIn K C = true) (hi : findIn K (.ref C) "__init__" = some (some (.ref fI))) (hf : isFn K (.ref fI) = true)
    (h : codeAny (model prog w) (A.under (.builtin "type.__call__" ⟨.ref C :: rest, kw⟩)) (.call (.ref fI) ⟨.ref (s.heap.objs.size + 1) :: rest, kw⟩) (InitBack (s.heap.objs.size + 1) R)
      { s with heap := (s.heap.push emptyDict).push (instObj C s.heap.objs.size) }) : codeAny (model prog w) A (.call (.ref C) ⟨rest, kw⟩) R s := by
  obtain ⟨hh, g, d, t, os⟩ := s
  exact make_core (makes_of X hm) (looks_findIn X hi) (fun self => bind_fn X self (beq_iff_eq.mp hf)) (.inl rfl) h

/-- x.name where the instance's dict holds the name and the class does not -/
theorem get_field {x C : Addr} {ox : Obj} {es : List DictEntry} {n : Nat} {name : Str} {expr : Bool} {v : Value} {Q : Value → Shared → Prop}
    (X : K.In s.heap) (I : PySem.W.InstAt s.heap x ox C (some (dictOf es n))) (hg : plainGet K C name = true) (hh : hasDictIn K C = true) (ha : findIn K (.ref C) name = some none)
    (hl : getL name es = some (some v)) (hv : handedIn v = true) (h : Q v { s with toks := s.toks + 1 }) : wpAny (model prog w) A (getAttr (.ref x) name expr) Q E s :=
  get_value X I (plainGet_of hg).1 (findObj_own hh ha rfl hl) hv h

/-- x.m(..): the method found in the class -/
theorem get_method {x C f : Addr} {ox : Obj} {es : List DictEntry} {n : Nat} {name : Str} {pl : Sem Bool} {Q : Value × List Value → Shared → Prop}
    (X : K.In s.heap) (I : PySem.W.InstAt s.heap x ox C (some (dictOf es n))) (hg : plainGet K C name = true) (hf : findIn K (.ref C) name = some (some (.ref f))) (ht : isFn K (.ref f) = true)
    (hl : getL name es = some none) (h : Q (.ref f, [.ref x]) s) : wpAny (model prog w) A (getMethod (.ref x) name pl) Q E s :=
  method_fn X I (plainGet_of hg).1 (plainGet_of hg).2 hf (beq_iff_eq.mp ht) (by show (lookIn name (dictOf es n)).map _ = _; rw [lookIn_dict, hl]; rfl) h

/-! the whole heap as the ledger: makes every rule that writes through a ledger a rule over any heap -/
def noObjs (h : Heap) : Heap := { h with objs := #[] }
theorem noObjs_get (h : Heap) (b : Addr) : (noObjs h).get? b = none := by
  cases e : (noObjs h).get? b with
  | none => rfl
  | some o => exact absurd (Heap.lt_size e) (Nat.not_lt_zero _)
def ledger (h : Heap) (L d : Addr) : List (Addr × Obj) := (List.range h.objs.size).filterMap fun a => if a = L ∨ a = d then none else (h.get? a).map fun o => (a, o)
theorem mem_ledger {h : Heap} {L d a : Addr} {o : Obj} : (a, o) ∈ ledger h L d ↔ a ≠ L ∧ a ≠ d ∧ h.get? a = some o := by
  unfold ledger
  rw [List.mem_filterMap]
  constructor
  · rintro ⟨b, _, e⟩
    split at e
    · cases e
    · rename_i hb
      obtain ⟨o', ho, e'⟩ := Option.map_eq_some_iff.mp e
      cases e'
      exact ⟨fun q => hb (.inl q), fun q => hb (.inr q), ho⟩
  · rintro ⟨n1, n2, ho⟩
    refine ⟨a, List.mem_range.mpr (Heap.lt_size ho), ?_⟩
    rw [if_neg (show ¬ (a = L ∨ a = d) from fun q => q.elim n1 n2), ho] <;> rfl
theorem news_ledger {h : Heap} {L d : Addr} {od : Obj} (hne : d ≠ L) (ho : h.get? d = some od) : News (noObjs h) L h ([] ++ (d, od) :: ledger h L d) := by
  rintro ⟨a, o⟩ hp
  rcases List.mem_cons.mp hp with e | hp
  · cases e
    exact ⟨ho, hne, noObjs_get _ _⟩
  · obtain ⟨n1, n2, e⟩ := mem_ledger.mp hp
    exact ⟨e, n1, noObjs_get _ _⟩
theorem fr_all {h : Heap} {L : Addr} {m : Str → Option Value} (n : h.Ns L m) : Fr (noObjs h) L h m :=
  ⟨n, fun b o e => (by rw [noObjs_get] at e; cases e), Nat.zero_le _⟩
/-- Upd of the head entry (for append_K, setItem_K ..) -/
theorem upd_ledger {h : Heap} {L d : Addr} {o o' : Obj} : Upd d o o' ((d, o) :: ledger h L d) ((d, o') :: ledger h L d) :=
  .head fun ⟨_, _⟩ hp => (mem_ledger.mp hp).2.1

/-- x.name = v over any heap: L is any namespace of the heap (the frame's, say): its map stays, its object is not told; all else but the dict stays -/
theorem set_field {x C dx L : Addr} {ox : Obj} {m : Str → Option Value} {es es' : List DictEntry} {n n' : Nat} {name : Str} {v : Value} {Q : Unit → Shared → Prop}
    (X : K.In s.heap) (I : PySem.W.InstAt s.heap x ox C (some (dictOf es n))) (hd : ox.dict = some dx) (hL : s.heap.Ns L m) (hne : dx ≠ L)
    (hs : findIn K (.ref C) "__setattr__" = some (some (.builtin "object.__setattr__"))) (hp : plainOver K C = true) (ht : takerIn K C name = some none) (hh : hasDictIn K C = true) (hl : (getL name es).isSome = true)
    (e : (putL name (PyData.keyHash w.params name) (.str name (s.toks + 1)) v es, putN name es n) = (es', n')) (hz : es'.length ≤ 1000)
    (h : ∀ h' : Heap, h'.Ns L m → h'.get? dx = some (dictOf es' n') → (∀ b o, b ≠ dx → b ≠ L → s.heap.get? b = some o → h'.get? b = some o) → Q () { s with heap := h', toks := s.toks + 2 }) :
    wpAny (model prog w) A (setAttr (.ref x) name v) Q E s := by
  obtain ⟨e1, e2⟩ := Prod.mk.inj e
  have hdx : s.heap.get? dx = some (dictOf es n) := by
    have := I.dict
    rw [hd] at this
    exact this
  refine set_plain X I hs (osa_dict (s := { s with toks := s.toks + 1 }) (h₀ := noObjs s.heap) (L := L) (m := m) (od := dictOf es n) (od' := dictOf es' n') (es := es') (n := n') (pre := []) (post := ledger s.heap L dx)
    (fr_all hL) (news_ledger hne hdx) X I hd hp ht hh hl (fun _ q => nomatch q) (fun ⟨_, _⟩ q => (mem_ledger.mp q).2.1) (by rw [putName_dict, e1, e2]) rfl hz fun h' F' N' => ?_)
  exact h h' F'.ns (N'.get (List.Mem.head _)) fun b o n1 n2 ho => N'.get (List.Mem.tail _ (mem_ledger.mpr ⟨n2, n1, ho⟩))
end
end Att

namespace L2
open PySem PySem.Spec PyProof.Rows

theorem vals_ints : ∀ {vs : List Value} {ns : List Int}, IntsAre vs ns → Vals (ns.map V.int) vs
  | _, _, .nil => .nil
  | _, _, .cons n t h => .cons ⟨t, rfl⟩ (vals_ints h)

/-- nothing is tracked but the script, known to the object (or it is an object of the module) -/
def Only (H : Hp) : Prop := ∀ b, H b = none ∨ ∃ o xs, H b = some (.frz o (.lst xs))

/-- THE HEAD: the law's promise, at the heap behind the top. F, the promise of the law's def, may use that base is part of the heap (so K.In base, base.Ns mainGlobals mg stand in Mod) -/
theorem law_call {P : Program} {w : World} {K : PySem.W.Frag} {mg mb : Str → Option Value} {CX : CXT} {k : Nat} {fa a : Addr} {fd : FuncData} {x : Str} {sp : Sp} {s₁ : Shared} {vs : List Value} {ns : List Int}
    (KX : K.In s₁.heap) (hns : s₁.heap.Ns mainGlobals mg) (hb : s₁.heap.Ns builtinsNs mb) (hbb : ∀ x : Str, x ≠ "__name__" → mb x = bootBuiltins x) (hlim : s₁.heap.NoLimit) (hg : s₁.gens = #[])
    (ha : s₁.heap.get? a = some { cls := .type "list", data := .seq vs.toArray }) (hi : IntsAre vs ns) (hl : ns.length ≤ sizeLine) (hr : Room k callerA)
    (F : ∀ base : Heap, K.In base → base.Ns mainGlobals mg → FnOk P w K mg base CX k fa fd [x] sp) (hbind : ∀ (s : Shared) (u : Value), BindsTo s fd ⟨[u], []⟩ [(x, u)])
    (hsp : ∀ H : Hp, Only H → SqL K H a (ns.map V.int) → sp [.ref a] H (fun v _ => v = .bl true) fun _ _ _ => False)
    (hCX : ∀ H e s', CX [] H s₁ (fun _ _ _ => False) e s' → False) :
    codeAny (model P w) callerA (.call (.ref fa) ⟨[.ref a], []⟩) (fun r s' => r = .ok (.ret (.bool true)) ∧ OldK s₁.heap s'.heap ∧ s'.os = s₁.os ∧ AllBare s'.gens) s₁ := by
  have rv := vals_ints hi
  have lenV := hi.length
  -- from an abstract heap in which nothing but the script may be tracked
  have core : ∀ H : Hp, Only H → SqL K H a (ns.map V.int) → HOk P w H s₁.heap → (∀ b, H b ≠ none → b = a) → (H a ≠ none → K.lookup a = none) →
      codeAny (model P w) callerA (.call (.ref fa) ⟨[.ref a], []⟩) (fun r s' => r = .ok (.ret (.bool true)) ∧ OldK s₁.heap s'.heap ∧ s'.os = s₁.os ∧ AllBare s'.gens) s₁ := by
    intro H hO hS hok hA hK
    have base_of : ∀ {b : Addr} {o : Obj}, s₁.heap.get? b = some o → H b = none → (hidT s₁.heap H).get? b = some o := fun e n => hidT_get e n
    have noA : ∀ {b : Addr} {o : Obj} {es : Array DictEntry} {ep : Nat}, s₁.heap.get? b = some o → o.data = .dict es ep → H b = none := fun {b o es ep} e d => by
      cases q : H b with
      | none => rfl
      | some u =>
        have e' : b = a := hA b (by rw [q]; simp)
        subst e'
        rw [ha] at e; cases e
        have d' : Data.seq vs.toArray _ = Data.dict es ep := d
        cases d'
    have nsK : ∀ {b : Addr} {m : Str → Option Value}, s₁.heap.Ns b m → (hidT s₁.heap H).Ns b m := fun {b m} ⟨o, es, ep, e, d, r⟩ => ⟨o, es, ep, base_of e (noA e d), d, r⟩
    have hKb : K.In (hidT s₁.heap H) := fun b o e => base_of (KX b o e) (by
      cases q : H b with
      | none => rfl
      | some u =>
        have e' : b = a := hA b (by rw [q]; simp)
        subst e'
        rw [hK (by rw [q]; simp)] at e; cases e)
    have hM : Mod K mg (hidT s₁.heap H) := ⟨hKb, nsK hns, ⟨mb, nsK hb, hbb⟩, let ⟨mc, h1, h2⟩ := hlim; ⟨mc, nsK h1, h2⟩⟩
    have e0 : Env0 P w K mg (hidT s₁.heap H) callerA [] s₁ H := ⟨rfl, hM, fun b o e => of_hidT e, Nat.le_of_eq (hidT_size _ _), trivial, fun b hb => absurd (show b ∈ ([] : List Addr) from hb) (by simp), hok, .of_eq hg⟩
    refine codeAny_mono ((F _ hKb (nsK hns)).run callerA [] s₁ H ⟨[.ref a], []⟩ [.ref a] [.ref a] _ _ hr e0 (hbind s₁ (.ref a)) (.cons rfl .nil) (hsp H hO hS)) fun r s' h => ?_
    cases r with
    | error e => exact (hCX H e s' h).elim
    | ok fl =>
      cases fl with
      | next => exact False.elim h
      | brk => exact False.elim h
      | cont => exact False.elim h
      | ret u =>
        obtain ⟨v, H', os, bare, un, hok', r', q⟩ := h
        have q' : v = .bl true := q
        subst q'
        obtain rfl : u = Value.bool true := r'
        refine ⟨rfl, OldK.of_keep fun b o e => ?_, os, bare⟩
        cases q : H b with
        | none => exact un.keep b o e q (by intro z; exact absurd (show b ∈ ([] : List Addr) from z) (by simp)) (by simp)
        | some u =>
          rcases hO b with z | ⟨ob, xs, z⟩
          · rw [q] at z; cases z
          · have z2 := un.frzs b ob _ z
            obtain ⟨e1, _⟩ := hok b _ z
            obtain ⟨e2, _⟩ := hok' b _ z2
            rw [e] at e1; cases e1
            exact e2
  cases hk : K.lookup a with
  | some o =>
    -- the script is one of the module's own objects
    have e := KX a o hk
    rw [ha] at e
    cases e
    refine core (fun _ => none) (fun _ => .inl rfl) (.inr ⟨_, vs.toArray, _, hk, rfl, rfl, rfl, by rw [List.size_toArray, lenV]; exact hl, by simpa using rv⟩) (fun b u z => by have z' : (none : Option HO) = some u := z; cases z') (fun b z => absurd rfl z) fun z => absurd rfl z
  | none =>
    refine core (fun b => if b = a then some (.frz { cls := .type "list", data := .seq vs.toArray } (.lst (ns.map V.int))) else none) (fun b => ?_) (.inl (.inr ⟨{ cls := .type "list", data := .seq vs.toArray }, if_pos rfl⟩)) (fun b u z => ?_) (fun b z => ?_) fun _ => hk
    · by_cases hb : b = a
      · exact .inr ⟨_, _, if_pos hb⟩
      · exact .inl (if_neg hb)
    · by_cases hb : b = a
      · have z' := (if_pos hb).symm.trans z
        cases z'
        subst hb
        exact ⟨ha, by rw [List.length_map]; exact hl, vs, _, rv, ha⟩
      · have z' := (if_neg hb).symm.trans z
        cases z'
    · by_cases hb : b = a
      · exact hb
      · exact absurd (if_neg hb) z
end L2

namespace L2
open PySem PySem.Spec PyProof.Rows

abbrev KOf {K : PySem.W.Frag} {h : Heap} (_ : K.In h) : PySem.W.Frag := K

/-- the goal that k_head leaves (case hc), from the law's promise. F gives the function object fd (K's own) once, then the promise over every base -/
theorem walk_of {l : PySem.W.OpenLaw} {n k : Nat} {q : Program} {loose : List Str} {XP : (Str → Option Value) → Heap → Prop} {YP : World → Heap → Prop} {d : DefRec} {K : Params → PySem.W.Frag} {CX : World → CXT} {sp : World → Sp} {x : Str}
    (hn : l.most = some n) (hn2 : n ≤ sizeLine) (hdf : d.params.defaults = []) (hr : Room k callerA)
    (hY : ∀ (w : World) (h : Heap), YP w h → (K w.params).In h)
    (F : ∀ (w : World) (mg : Str → Option Value) (fa : Addr) (h : Heap), (K w.params).In h → h.Ns mainGlobals mg → mg d.name = some (.ref fa) →
      ∃ fd : FuncData, (∀ (s : Shared) (u : Value), BindsTo s fd ⟨[u], []⟩ [(x, u)]) ∧
        ∀ base : Heap, (K w.params).In base → base.Ns mainGlobals mg → FnOk l.prog w (K w.params) mg base (CX w) k fa fd [x] (sp w))
    (hsp : ∀ (w : World) (H : Hp) (a : Addr) (ns : List Int), ns.length ≤ n → Only H → SqL (K w.params) H a (ns.map V.int) → sp w [.ref a] H (fun v _ => v = .bl true) fun _ _ _ => False)
    (hCX : ∀ (w : World) (H : Hp) (s : Shared) (e : Value) (s' : Shared), CX w [] H s (fun _ _ _ => False) e s' → False) :
    PySem.W.WalkO q loose XP YP l.row.toRowW d [] (fun f vs => PySem.call f vs) := by
  refine Att.attach_call hn hdf fun w s₀ s₁ mg mb fa o pm cd doc a vs ns G Y ho hd hcd hmg hobj hints hlen hg => ?_
  have KX := hY w _ Y
  obtain ⟨fd, hb, hF⟩ := F w mg fa _ KX G.T.g hmg
  exact law_call KX G.T.g G.T.b G.T.builtins G.T.nolimit hg hobj hints (Nat.le_trans hlen hn2) hr hF hb (fun H hO hS => hsp w H a ns hlen hO hS) fun H e s' => hCX w H s₁ e s'
/-- the same where the promise hangs on the written part alone: (sp := My.sp_law), no hole under a binder -/
theorem walk_ofK {l : PySem.W.OpenLaw} {n k : Nat} {q : Program} {loose : List Str} {XP : (Str → Option Value) → Heap → Prop} {YP : World → Heap → Prop} {d : DefRec} {K : Params → PySem.W.Frag} {CX : CXT} {sp : PySem.W.Frag → Sp} {x : Str}
    (hn : l.most = some n) (hn2 : n ≤ sizeLine) (hdf : d.params.defaults = []) (hr : Room k callerA)
    (hY : ∀ (w : World) (h : Heap), YP w h → (K w.params).In h)
    (F : ∀ (w : World) (mg : Str → Option Value) (fa : Addr) (h : Heap), (K w.params).In h → h.Ns mainGlobals mg → mg d.name = some (.ref fa) →
      ∃ fd : FuncData, (∀ (s : Shared) (u : Value), BindsTo s fd ⟨[u], []⟩ [(x, u)]) ∧
        ∀ base : Heap, (K w.params).In base → base.Ns mainGlobals mg → FnOk l.prog w (K w.params) mg base CX k fa fd [x] (sp (K w.params)))
    (hsp : ∀ (K : PySem.W.Frag) (H : Hp) (a : Addr) (ns : List Int), ns.length ≤ n → Only H → SqL K H a (ns.map V.int) → sp K [.ref a] H (fun v _ => v = .bl true) fun _ _ _ => False)
    (hCX : ∀ (H : Hp) (s : Shared) (e : Value) (s' : Shared), CX [] H s (fun _ _ _ => False) e s' → False) :
    PySem.W.WalkO q loose XP YP l.row.toRowW d [] (fun f vs => PySem.call f vs) :=
  walk_of (K := K) (CX := fun _ => CX) (sp := fun w => sp (K w.params)) hn hn2 hdf hr hY F (fun w H a ns h1 h2 h3 => hsp (K w.params) H a ns h1 h2 h3) fun _ H s e s' => hCX H s e s'
end L2

/- THE LAST THEOREM (shape; LID, My.* are yours):
   My.Adr: a structure of the addresses that your layer names (classes, functions); My.Txt K t: a structure (Prop) of the equations over K;
   My.txt_mk : {K} {implicit addresses ..} (e1 : nsIn K mainGlobals "law" = some (some (.ref f))) (e2 : K.lookup f = some ⟨oc, od, .func (fnOf "law" "law" params body scope dV kV doc pm an cdv ct), sl⟩) (e3 : codeIn K cdv "law" = true) .. : ∃ t, My.Txt K t

set_option maxRecDepth 100000 in
set_option maxHeartbeats 0 in
theorem PySem.Challenge.cw_LID_holds : PySem.Challenge.rw_LID.Holds := by
  w_on; o_law; k_head; (case hw => w_witness2)
  k_fill
  refine L2.walk_of (l := PySem.Challenge.rw_LID) (n := 63) (k := 40) (x := "script") (CX := fun w => ..) (sp := fun _ => My.sp_law) rfl (by decide) rfl ⟨rfl, by decide, by decide⟩ (fun w h Y => PySem.W.kIn_of Y) ?F ?S ?C
  case F =>
    intro w mg fa h KX G hmg
    have T : ∃ t, My.Txt (L2.KOf KX) t := by
      dsimp only [L2.KOf]                          -- K must stand as «<heap const> w.params» for k_is
      refine' My.txt_mk ?e1 ?e2 ?e3 ..
      (case e1 => PySem.W.k_is)                    -- in the order: a name -> its address -> its object -> its parts
      (case e2 => PySem.W.k_is)
      ..
    obtain ⟨t, T⟩ := T
    have e0 := hmg.symm.trans (PySem.W.mg_of KX G T.law)
    cases e0                                       -- fa is the law's own address
    exact ⟨_, fun s u => .of_eq rfl, fun base kb nb => My.law_fn T kb nb⟩     -- if «.of_eq rfl» comes too early: refine' ⟨_, ?b, fun base kb nb => My.law_fn T kb nb⟩; exact fun s u => .of_eq rfl
  case S => exact fun w H a ns hl hO hS => ..
  case C => exact ..
(the tactic k_is has no namespace: write k_is) -/

/-! SHORT WORDS over the layer: a def of the text, its body, what a loop and a test want. -/
namespace L2
open PySem PySem.Spec PyProof.Rows

/-! ### the text by places -/
/-- the j-th statement of a class's body -/
def inClass (s : Stmt) (j : Nat) : Stmt := match s with
  | .ClassDef _ _ _ body _ _ _ _ _ _ _ => body.getD j (.Pass ⟨0, 0, 0, 0⟩)
  | _ => .Pass ⟨0, 0, 0, 0⟩
def defArgs (s : Stmt) : Arguments := match s with
  | .FunctionDef _ a _ _ _ _ _ _ _ _ => a
  | _ => { posonlyargs := [], args := [], vararg := none, kwonlyargs := [], kw_defaults := [], kwarg := none, defaults := [] }
def defBody (s : Stmt) : List Stmt := match s with
  | .FunctionDef _ _ b _ _ _ _ _ _ _ => b
  | _ => []
def defScope (s : Stmt) : Scope := match s with
  | .FunctionDef _ _ _ _ _ _ sc _ _ _ => sc
  | _ => { kind := .function, names := [], isGenerator := false, isCoroutine := false }

/-! ### no exception leaves a def -/
abbrev CX0 : CXT := fun _ _ _ _ _ _ => False
abbrev E0 : XK := fun _ _ _ => False
theorem pass0 {X : Cx} : Passes CX0 X E0 := fun _ _ _ _ _ _ _ h => h.elim

/-! ### a def (or method) of the text as it stands behind the top -/
structure Fun (K : PySem.W.Frag) (x qual : Str) (st : Stmt) (f : Addr) (fd : FuncData) : Prop where
  ex : ∃ (oc : Value) (od : Option Addr) (kV doc pm : Value) (an : Option Addr) (cdv ct : Value) (osl : Array (Option Value)),
    fd = PySem.W.fnOf x qual (defArgs st) (defBody st) (defScope st) .none kV doc pm an cdv ct ∧ K.lookup f = some ⟨oc, od, .func fd, osl⟩ ∧ PySem.W.codeIn K cdv qual = true
  kp : PySem.W.keepIn K (.ref f) = true
section
variable {P : Program} {w : World} {K : PySem.W.Frag} {mg : Str → Option Value} {base : Heap}
/-- THE RULE for a def: its body as a term of rules, and the reading of that term -/
theorem Fun.ok {x qual : Str} {st : Stmt} {f : Addr} {fd : FuncData} {N ps : List Str} {k : Nat} {sp : Sp} (F : Fun K x qual st f fd) (S : FnScope N ps (defScope st)) (len : ∀ vs H Q E, sp vs H Q E → vs.length = ps.length)
    (hbody : ∀ (cdv : Value) (A : Around) (outer : List Env) (s : Shared) (H : Hp) (vs : List V) (Q : VK) (E : XK), Room k (A.deeper (envOfC qual (defScope st) s.heap.objs.size f cdv)) → sp vs H Q E →
      ∃ t, PSs (cxOf CX0 P w K mg base N qual (defScope st) f cdv A outer s H E).nox (defBody st) t ∧ t { nx := fun _ H' => Q .non H', rt := Q } (start N vs) H) : FnOk P w K mg base CX0 (k + 1) f fd ps sp := by
  obtain ⟨oc, od, kV, doc, pm, an, cdv, ct, osl, rfl, lk, hcd⟩ := F.ex
  refine fn_of lk hcd S len fun A outer s H vs Q E hr hsp => ?_
  obtain ⟨t, h, q⟩ := hbody cdv A outer s H vs Q E hr hsp
  exact ⟨t, h.nox, q⟩
/-- how its arguments bind (no defaults): h is «fun _ _ _ _ _ _ us hl => match us, hl with | [_, _], _ => rfl», one _ a parameter -/
theorem Fun.binds {x qual : Str} {st : Stmt} {f : Addr} {fd : FuncData} {ps : List Str} (F : Fun K x qual st f fd)
    (h : ∀ (kV doc pm : Value) (an : Option Addr) (cdv ct : Value) (us : List Value), us.length = ps.length → bindArgs (PySem.W.fnOf x qual (defArgs st) (defBody st) (defScope st) .none kV doc pm an cdv ct) ⟨us, []⟩ = pure (ps.zip us)) : Binds K fd ps [] := by
  obtain ⟨oc, od, kV, doc, pm, an, cdv, ct, osl, rfl, lk, hcd⟩ := F.ex
  exact .all (h kV doc pm an cdv ct)
theorem fun_mk {x qual : Str} {st : Stmt} {f : Addr} {oc : Value} {od an : Option Addr} {osl : Array (Option Value)} {kV doc pm cdv ct : Value} (l : K.lookup f = some ⟨oc, od, .func (PySem.W.fnOf x qual (defArgs st) (defBody st) (defScope st) .none kV doc pm an cdv ct), osl⟩)
    (c : PySem.W.codeIn K cdv qual = true) (k : PySem.W.keepIn K (.ref f) = true) : Fun K x qual st f (PySem.W.fnOf x qual (defArgs st) (defBody st) (defScope st) .none kV doc pm an cdv ct) := ⟨⟨oc, od, kV, doc, pm, an, cdv, ct, osl, rfl, l, c⟩, k⟩
end
theorem hu_of {A : Around} {k : Nat} (hr : Room k A) : A.units + 1 < cLine := Nat.lt_of_le_of_lt (Nat.add_le_add_left (by decide : 1 ≤ 64) _) hr.units
theorem small1000 {n : Nat} (h : n ≤ 1000) : n < sizeLine := Nat.lt_of_le_of_lt h (by decide)

/-! ### expressions in short: the name that stands in the i-th slot -/
section
variable {X : Cx}
theorem pv (i : Nat) {x : Str} {pos : Pos} (hN : X.N[i]? = some x := by rfl) (hv : Vis X.env.scope x := by first | exact Or.inl rfl | exact Or.inr (Or.inl rfl) | exact Or.inr (Or.inr rfl)) (hd : (x == ("__debug__" : Str)) = false := by decide)
    (hcd : (x == ("__classdict__" : Str)) = false := by decide) : PE X (.Name x pos) (tVar i) := pe_var hN hv hd hcd
end

/-! ### tests -/
theorem iteF {A B : Prop} (h : B) : if false = true then A else B := by
  rw [if_neg Bool.false_ne_true]
  exact h
theorem iteT {A B : Prop} (h : A) : if true = true then A else B := by
  rw [if_pos rfl]
  exact h
theorem ite2 {c A B : Prop} [Decidable c] (h1 : c → A) (h2 : ¬ c → B) : if c then A else B := by
  by_cases h : c
  · rw [if_pos h]
    exact h1 h
  · rw [if_neg h]
    exact h2 h
theorem iteNS {c A B : Prop} [Decidable c] (hc : c) (h : B) : if (!decide c) = true then A else B := by
  rw [decide_eq_true hc]
  exact iteF h

/-! ### heaps -/
/-- all that was tracked is as it was -/
def Same (H H' : Hp) : Prop := ∀ b o, H b = some o → H' b = some o
theorem Same.refl (H : Hp) : Same H H := fun _ _ h => h
theorem Same.trans {H H1 H2 : Hp} (a : Same H H1) (b : Same H1 H2) : Same H H2 := fun c o h => b c o (a c o h)
theorem Same.free {H H' : Hp} (e : Same H H') {l : Addr} (h : H' l = Option.none) : H l = Option.none := by
  cases q : H l with
  | none => rfl
  | some o =>
    rw [e l o q] at h
    cases h
theorem Same.seq {K : PySem.W.Frag} {H H' : Hp} {a : Addr} {xs : List V} (e : Same H H') (h : SqL K H a xs) : SqL K H' a xs := by
  rcases h with (h | ⟨o, h⟩) | h
  · exact .inl (.inl (e _ _ h))
  · exact .inl (.inr ⟨o, e _ _ h⟩)
  · exact .inr h

end L2

set_option maxHeartbeats 4000000
/-! EXTENSION 1: built-in calls over lists, isinstance, products of any size, the script's sizes -/
namespace L2
open PySem PySem.Spec PyProof.Rows

/-! ### products -/
def rMul : R2 := fun x y H Q => ∃ i j, x = .int i ∧ y = .int j ∧ IntMulOk i j ∧ Q (.int (i * j)) H
section
variable {X : Cx}
theorem op_mulB : OpR X (binaryOp .Mult) rMul := by
  intro pins s σ H x y v u Q I rx ry h
  obtain ⟨i, j, rfl, rfl, hc, q⟩ := h
  obtain ⟨t, rfl⟩ := rx
  obtain ⟨t', rfl⟩ := ry
  exact mul_int ⟨.int (i * j), H, I.tok _, ⟨_, rfl⟩, q⟩ hc

/-! ### isinstance with a type of Python's own -/
def TyN (K : PySem.W.Frag) (H : Hp) (x : V) (tx : String) : Prop := match x with
  | .int _ => tx = "int"
  | .bl _ => tx = "bool"
  | .str _ => tx = "str"
  | .ref p => (tx = "list" ∧ ∃ xs, SqL K H p xs) ∨ (tx = "tuple" ∧ ∃ xs, SqT K H p xs)
  | _ => False
/-- isinstance of a value of the type tx, asked for T -/
inductive IsiR : String → String → Bool → Prop where
  | int_int : IsiR "int" "int" true
  | int_bool : IsiR "int" "bool" false
  | int_str : IsiR "int" "str" false
  | int_list : IsiR "int" "list" false
  | int_tuple : IsiR "int" "tuple" false
  | bool_int : IsiR "bool" "int" true
  | bool_bool : IsiR "bool" "bool" true
  | bool_str : IsiR "bool" "str" false
  | bool_list : IsiR "bool" "list" false
  | bool_tuple : IsiR "bool" "tuple" false
  | str_int : IsiR "str" "int" false
  | str_bool : IsiR "str" "bool" false
  | str_str : IsiR "str" "str" true
  | str_list : IsiR "str" "list" false
  | str_tuple : IsiR "str" "tuple" false
  | list_int : IsiR "list" "int" false
  | list_bool : IsiR "list" "bool" false
  | list_str : IsiR "list" "str" false
  | list_list : IsiR "list" "list" true
  | list_tuple : IsiR "list" "tuple" false
  | tuple_int : IsiR "tuple" "int" false
  | tuple_bool : IsiR "tuple" "bool" false
  | tuple_str : IsiR "tuple" "str" false
  | tuple_list : IsiR "tuple" "list" false
  | tuple_tuple : IsiR "tuple" "tuple" true
theorem call_isi : CallR X (.builtin "isinstance") (fun xs H Q => ∃ x T tx b, xs = [x, .ty T] ∧ TyN X.K H x tx ∧ IsiR tx T b ∧ Q (.bl b) H) := by
  intro pins s σ H xs us Q I r h
  obtain ⟨x, T, tx, b, rfl, ht, ho, q⟩ := h
  obtain ⟨u, v, rfl, rx, rT⟩ := r.two
  obtain rfl : v = Value.type T := rT
  have fin1 : EP X pins σ Q (.bool b) s := ⟨.bl b, H, I, rfl, q⟩
  have fin2 : EP X pins σ Q (.bool b) { s with toks := s.toks + 1 } := ⟨.bl b, H, I.tok _, rfl, q⟩
  cases x with
  | int i =>
    obtain ⟨t, rfl⟩ := rx
    have ht : tx = "int" := ht
    cases ho with
    | int_int => exact IsiPair.int_int fin1
    | int_bool => exact IsiPair.int_bool fin2
    | int_str => exact IsiPair.int_str fin2
    | int_list => exact IsiPair.int_list fin2
    | int_tuple => exact IsiPair.int_tuple fin2
    | bool_int => exact absurd ht (by decide +kernel)
    | bool_bool => exact absurd ht (by decide +kernel)
    | bool_str => exact absurd ht (by decide +kernel)
    | bool_list => exact absurd ht (by decide +kernel)
    | bool_tuple => exact absurd ht (by decide +kernel)
    | str_int => exact absurd ht (by decide +kernel)
    | str_bool => exact absurd ht (by decide +kernel)
    | str_str => exact absurd ht (by decide +kernel)
    | str_list => exact absurd ht (by decide +kernel)
    | str_tuple => exact absurd ht (by decide +kernel)
    | list_int => exact absurd ht (by decide +kernel)
    | list_bool => exact absurd ht (by decide +kernel)
    | list_str => exact absurd ht (by decide +kernel)
    | list_list => exact absurd ht (by decide +kernel)
    | list_tuple => exact absurd ht (by decide +kernel)
    | tuple_int => exact absurd ht (by decide +kernel)
    | tuple_bool => exact absurd ht (by decide +kernel)
    | tuple_str => exact absurd ht (by decide +kernel)
    | tuple_list => exact absurd ht (by decide +kernel)
    | tuple_tuple => exact absurd ht (by decide +kernel)
  | bl i =>
    cases rx
    have ht : tx = "bool" := ht
    cases ho with
    | int_int => exact absurd ht (by decide +kernel)
    | int_bool => exact absurd ht (by decide +kernel)
    | int_str => exact absurd ht (by decide +kernel)
    | int_list => exact absurd ht (by decide +kernel)
    | int_tuple => exact absurd ht (by decide +kernel)
    | bool_int => exact IsiPair.bool_int fin1
    | bool_bool => exact IsiPair.bool_bool fin1
    | bool_str => exact IsiPair.bool_str fin2
    | bool_list => exact IsiPair.bool_list fin2
    | bool_tuple => exact IsiPair.bool_tuple fin2
    | str_int => exact absurd ht (by decide +kernel)
    | str_bool => exact absurd ht (by decide +kernel)
    | str_str => exact absurd ht (by decide +kernel)
    | str_list => exact absurd ht (by decide +kernel)
    | str_tuple => exact absurd ht (by decide +kernel)
    | list_int => exact absurd ht (by decide +kernel)
    | list_bool => exact absurd ht (by decide +kernel)
    | list_str => exact absurd ht (by decide +kernel)
    | list_list => exact absurd ht (by decide +kernel)
    | list_tuple => exact absurd ht (by decide +kernel)
    | tuple_int => exact absurd ht (by decide +kernel)
    | tuple_bool => exact absurd ht (by decide +kernel)
    | tuple_str => exact absurd ht (by decide +kernel)
    | tuple_list => exact absurd ht (by decide +kernel)
    | tuple_tuple => exact absurd ht (by decide +kernel)
  | str i =>
    obtain ⟨t, rfl⟩ := rx
    have ht : tx = "str" := ht
    cases ho with
    | int_int => exact absurd ht (by decide +kernel)
    | int_bool => exact absurd ht (by decide +kernel)
    | int_str => exact absurd ht (by decide +kernel)
    | int_list => exact absurd ht (by decide +kernel)
    | int_tuple => exact absurd ht (by decide +kernel)
    | bool_int => exact absurd ht (by decide +kernel)
    | bool_bool => exact absurd ht (by decide +kernel)
    | bool_str => exact absurd ht (by decide +kernel)
    | bool_list => exact absurd ht (by decide +kernel)
    | bool_tuple => exact absurd ht (by decide +kernel)
    | str_int => exact IsiPair.str_int fin2
    | str_bool => exact IsiPair.str_bool fin2
    | str_str => exact IsiPair.str_str fin1
    | str_list => exact IsiPair.str_list fin2
    | str_tuple => exact IsiPair.str_tuple fin2
    | list_int => exact absurd ht (by decide +kernel)
    | list_bool => exact absurd ht (by decide +kernel)
    | list_str => exact absurd ht (by decide +kernel)
    | list_list => exact absurd ht (by decide +kernel)
    | list_tuple => exact absurd ht (by decide +kernel)
    | tuple_int => exact absurd ht (by decide +kernel)
    | tuple_bool => exact absurd ht (by decide +kernel)
    | tuple_str => exact absurd ht (by decide +kernel)
    | tuple_list => exact absurd ht (by decide +kernel)
    | tuple_tuple => exact absurd ht (by decide +kernel)
  | ref p =>
    cases rx
    have ht : (tx = "list" ∧ ∃ xs, SqL X.K H p xs) ∨ (tx = "tuple" ∧ ∃ xs, SqT X.K H p xs) := ht
    rcases ht with ⟨ht, ys, hq⟩ | ⟨ht, ys, hq⟩
    · obtain ⟨its, rv, ⟨o, n, e, c, d, dt⟩, hz⟩ := I.list hq
      cases ho with
      | int_int => exact absurd ht (by decide +kernel)
      | int_bool => exact absurd ht (by decide +kernel)
      | int_str => exact absurd ht (by decide +kernel)
      | int_list => exact absurd ht (by decide +kernel)
      | int_tuple => exact absurd ht (by decide +kernel)
      | bool_int => exact absurd ht (by decide +kernel)
      | bool_bool => exact absurd ht (by decide +kernel)
      | bool_str => exact absurd ht (by decide +kernel)
      | bool_list => exact absurd ht (by decide +kernel)
      | bool_tuple => exact absurd ht (by decide +kernel)
      | str_int => exact absurd ht (by decide +kernel)
      | str_bool => exact absurd ht (by decide +kernel)
      | str_str => exact absurd ht (by decide +kernel)
      | str_list => exact absurd ht (by decide +kernel)
      | str_tuple => exact absurd ht (by decide +kernel)
      | list_int => exact IsiPair.list_int e c fin2
      | list_bool => exact IsiPair.list_bool e c fin2
      | list_str => exact IsiPair.list_str e c fin2
      | list_list => exact IsiPair.list_list e c fin1
      | list_tuple => exact IsiPair.list_tuple e c fin2
      | tuple_int => exact absurd ht (by decide +kernel)
      | tuple_bool => exact absurd ht (by decide +kernel)
      | tuple_str => exact absurd ht (by decide +kernel)
      | tuple_list => exact absurd ht (by decide +kernel)
      | tuple_tuple => exact absurd ht (by decide +kernel)
    · obtain ⟨its, rv, ⟨o, e, c, n, d⟩, hz⟩ := I.tuple hq
      cases ho with
      | int_int => exact absurd ht (by decide +kernel)
      | int_bool => exact absurd ht (by decide +kernel)
      | int_str => exact absurd ht (by decide +kernel)
      | int_list => exact absurd ht (by decide +kernel)
      | int_tuple => exact absurd ht (by decide +kernel)
      | bool_int => exact absurd ht (by decide +kernel)
      | bool_bool => exact absurd ht (by decide +kernel)
      | bool_str => exact absurd ht (by decide +kernel)
      | bool_list => exact absurd ht (by decide +kernel)
      | bool_tuple => exact absurd ht (by decide +kernel)
      | str_int => exact absurd ht (by decide +kernel)
      | str_bool => exact absurd ht (by decide +kernel)
      | str_str => exact absurd ht (by decide +kernel)
      | str_list => exact absurd ht (by decide +kernel)
      | str_tuple => exact absurd ht (by decide +kernel)
      | list_int => exact absurd ht (by decide +kernel)
      | list_bool => exact absurd ht (by decide +kernel)
      | list_str => exact absurd ht (by decide +kernel)
      | list_list => exact absurd ht (by decide +kernel)
      | list_tuple => exact absurd ht (by decide +kernel)
      | tuple_int => exact IsiPair.tuple_int e c fin2
      | tuple_bool => exact IsiPair.tuple_bool e c fin2
      | tuple_str => exact IsiPair.tuple_str e c fin2
      | tuple_list => exact IsiPair.tuple_list e c fin2
      | tuple_tuple => exact IsiPair.tuple_tuple e c fin1
  | _ => exact (show False from ht).elim

/-! ### all, any of a list of truths -/
theorem vals_bl_get : ∀ {bs : List Bool} {us : List Value} {i : Nat} {u : Value}, Vals (bs.map V.bl) us → us[i]? = some u → ∃ b, bs[i]? = some b ∧ u = .bool b
  | [], _, _, _, .nil, e => by simp at e
  | b :: bs, _, 0, _, .cons r _, e => by
    simp at e
    subst e
    exact ⟨b, rfl, r⟩
  | b :: bs, _, i + 1, _, .cons _ t, e => by
    obtain ⟨c, h1, h2⟩ := vals_bl_get (i := i) t (by simpa using e)
    exact ⟨c, by simpa using h1, h2⟩
theorem all_range (bs : List Bool) : ((List.range bs.length).all fun i => (bs[i]?).getD true) = bs.all id := by
  rw [Bool.eq_iff_iff, List.all_eq_true, List.all_eq_true]
  constructor
  · intro h b hb
    obtain ⟨i, hi, e⟩ := List.mem_iff_getElem.mp hb
    have q := h i (List.mem_range.mpr hi)
    rw [List.getElem?_eq_getElem hi, e] at q
    exact q
  · intro h i hi
    have hi' := List.mem_range.mp hi
    rw [List.getElem?_eq_getElem hi']
    exact h _ (List.getElem_mem hi')
theorem any_range (bs : List Bool) : ((List.range bs.length).any fun i => (bs[i]?).getD true) = bs.any id := by
  rw [Bool.eq_iff_iff, List.any_eq_true, List.any_eq_true]
  constructor
  · rintro ⟨i, hi, q⟩
    have hi' := List.mem_range.mp hi
    rw [List.getElem?_eq_getElem hi'] at q
    exact ⟨_, List.getElem_mem hi', q⟩
  · rintro ⟨b, hb, q⟩
    obtain ⟨i, hi, e⟩ := List.mem_iff_getElem.mp hb
    refine ⟨i, List.mem_range.mpr hi, ?_⟩
    rw [List.getElem?_eq_getElem hi, e]
    exact q
theorem kept_of_iter {s : Shared} {h' : Heap} {o : Obj} (hk : ∀ b x, b ∉ [s.heap.objs.size] → (s.heap.push o).get? b = some x → h'.get? b = some x) : ∀ b x, s.heap.get? b = some x → h'.get? b = some x :=
  fun b x e => hk b x (fun hm => by rw [List.mem_singleton.mp hm] at e; exact Nat.lt_irrefl _ (Heap.lt_size e)) (Heap.get?_push_of_some _ e)
theorem call_all (hc : X.calm = true) : CallR X (.builtin "all") (fun xs H Q => ∃ (p : Addr) (bs : List Bool), xs = [.ref p] ∧ SqL X.K H p (bs.map V.bl) ∧ Q (.bl (bs.all id)) H) := by
  intro pins s σ H xs us Q I r h
  obtain ⟨p, bs, rfl, hq, q⟩ := h
  obtain ⟨u, rfl, r1⟩ := r.one
  obtain rfl : u = Value.ref p := r1
  obtain ⟨its, rv, pl, hz⟩ := I.list hq
  have hl := pl.isList
  have hlen : bs.length = its.length := by have := rv.length; rwa [List.length_map] at this
  have hlt : p < s.heap.objs.size := by obtain ⟨_, _, e, _⟩ := pl; exact Heap.lt_size e
  refine call_all_walk (wpAny_pyIter_list hl ?_)
  refine ⟨s.heap.objs.size, [s.heap.objs.size, p], [s.heap.objs.size], its.toArray.size, _, _, fun i => (bs[i]?).getD true, rfl, Walks.list (A := X.A.in1) (I.ok.hd hc) _ p (Nat.ne_of_lt hlt) its.toArray,
    ⟨⟨_, Heap.get?_push_size _ rfl, rfl, rfl⟩, hl.push _⟩, fun i v s' Q' E' hP hQ => ?_, fun h' tk hk => ?_⟩
  · obtain ⟨b, e, rfl⟩ := vals_bl_get rv (i := i) (u := v) (by simpa using hP)
    simp only [e, Option.getD_some] at hQ
    exact wpAny_truthy_bool hQ
  · have e : ((List.range its.toArray.size).all fun i => (bs[i]?).getD true) = bs.all id := by
      rw [List.size_toArray, ← hlen]
      exact all_range bs
    rw [e]
    exact ⟨.bl _, H, I.kept (kept_of_iter hk), rfl, q⟩
theorem call_any (hc : X.calm = true) : CallR X (.builtin "any") (fun xs H Q => ∃ (p : Addr) (bs : List Bool), xs = [.ref p] ∧ SqL X.K H p (bs.map V.bl) ∧ Q (.bl (bs.any id)) H) := by
  intro pins s σ H xs us Q I r h
  obtain ⟨p, bs, rfl, hq, q⟩ := h
  obtain ⟨u, rfl, r1⟩ := r.one
  obtain rfl : u = Value.ref p := r1
  obtain ⟨its, rv, pl, hz⟩ := I.list hq
  have hl := pl.isList
  have hlen : bs.length = its.length := by have := rv.length; rwa [List.length_map] at this
  have hlt : p < s.heap.objs.size := by obtain ⟨_, _, e, _⟩ := pl; exact Heap.lt_size e
  refine call_any_walk (wpAny_pyIter_list hl ?_)
  refine ⟨s.heap.objs.size, [s.heap.objs.size, p], [s.heap.objs.size], its.toArray.size, _, _, fun i => (bs[i]?).getD true, rfl, Walks.list (A := X.A.in1) (I.ok.hd hc) _ p (Nat.ne_of_lt hlt) its.toArray,
    ⟨⟨_, Heap.get?_push_size _ rfl, rfl, rfl⟩, hl.push _⟩, fun i v s' Q' E' hP hQ => ?_, fun h' tk hk => ?_⟩
  · obtain ⟨b, e, rfl⟩ := vals_bl_get rv (i := i) (u := v) (by simpa using hP)
    simp only [e, Option.getD_some] at hQ
    exact wpAny_truthy_bool hQ
  · have e : ((List.range its.toArray.size).any fun i => (bs[i]?).getD true) = bs.any id := by
      rw [List.size_toArray, ← hlen]
      exact any_range bs
    rw [e]
    exact ⟨.bl _, H, I.kept (kept_of_iter hk), rfl, q⟩
end

/-! ### a def of the text by its promise -/
structure Def (P : Program) (w : World) (K : PySem.W.Frag) (mg : Str → Option Value) (base : Heap) (k : Nat) (x : Str) (ps : List Str) (sp : Sp) : Prop where
  ex : ∃ f fd, FnOk P w K mg base CX0 k f fd ps sp ∧ mg x = some (.ref f) ∧ PySem.W.keepIn K (.ref f) = true ∧ Binds K fd ps []
def tDef (sp : Sp) (t : TA) : TE := fun σ H Q => t σ H fun vs H1 => sp vs H1 Q E0
section
variable {X : Cx}
theorem pe_def {k : Nat} {x : Str} {ps : List Str} {sp : Sp} {p pos : Pos} {e : Expr} {es : List Expr} {t : TA} (d : Def X.prog X.w X.K X.mg X.base k x ps sp) (hr : Room k X.A) (ha : PA X (e :: es) t) (hg : Gl X x := by rfl)
    (hdb : (x == ("__debug__" : Str)) = false := by decide) (he : starEach (e :: es) X.env = (false, eval e X.env) :: starEach es X.env := by rfl) (hpl : (backTo pos (starEach es X.env)).any (·.1) = false := by rfl) :
    PE X (.Call (.Name x p) (e :: es) [] pos) (tDef sp t) := by
  obtain ⟨f, fd, F, hm, hk, hb⟩ := d.ex
  intro pins s σ H Q I h
  have e1 : (fun vs H1 => sp (vs ++ []) H1 Q E0) = fun vs H1 => sp vs H1 Q E0 := by
    funext vs H1
    rw [List.append_nil]
  refine pe_call F hr hg hm hk hb .nil pass0 ha hdb he hpl pins s σ H Q I ?_
  show t σ H fun vs H1 => sp (vs ++ []) H1 Q E0
  rw [e1]
  exact h
theorem pe_def0 {k : Nat} {x : Str} {ps : List Str} {sp : Sp} {p pos : Pos} (d : Def X.prog X.w X.K X.mg X.base k x ps sp) (hr : Room k X.A) (hg : Gl X x := by rfl)
    (hdb : (x == ("__debug__" : Str)) = false := by decide) :
    PE X (.Call (.Name x p) [] [] pos) (tDef sp tNil) := by
  obtain ⟨f, fd, F, hm, hk, hb⟩ := d.ex
  exact pe_call0 F hr hg hm hk hb .nil pass0 hdb
end
end L2

/-! ### the head, with the sizes of the script's ints -/
namespace Att
open PySem PySem.W PySem.Calls PyProof.Rows
theorem weight_mem : ∀ (ns : List Int) (n : Int), n ∈ ns → WData.weight (.int n) ≤ WData.weightAll (ns.map WData.int)
  | m :: ns, n, h => by
    rw [List.map_cons]
    simp only [WData.weightAll]
    rcases List.mem_cons.mp h with rfl | h
    · omega
    · have := weight_mem ns n h
      omega
theorem bits_of {ns : List Int} (h : WData.layableAll [.list (ns.map WData.int)] = true) : ∀ n ∈ ns, Builtin.Int.intBits n ≤ 1048576 := by
  intro n hn
  have h1 : WData.layable (.list (ns.map WData.int)) = true := by
    have h2 : ([WData.list (ns.map WData.int)].all WData.layable) = true := h
    rw [List.all_cons, Bool.and_eq_true] at h2
    exact h2.1
  unfold WData.layable at h1
  rw [Bool.and_eq_true] at h1
  have h3 := of_decide_eq_true h1.2
  have h4 := weight_mem ns n hn
  have h5 : WData.weight (.int n) = Builtin.Int.intBits n := by
    unfold WData.weight Builtin.Int.intBits
    rfl
  have h6 : WData.weight (.list (ns.map WData.int)) = WData.weightAll (ns.map WData.int) := by
    conv => lhs; unfold WData.weight
  rw [h6] at h3
  rw [h5] at h4
  have h7 : (2 : Nat) ^ 20 = 1048576 := by decide
  omega
theorem attach_callB {l : OpenLaw} {n : Nat} {q : Program} {loose : List Str} {XP : (Str → Option Value) → Heap → Prop} {YP : World → Heap → Prop} {d : DefRec}
    (hn : l.most = some n) (hdf : d.params.defaults = [])
    (call : ∀ (w : World) (s₀ s₁ : Shared) (mg mb : Str → Option Value) (fa : Addr) (o : Obj) (pm cd doc : Value) (a : Addr) (vs : List Value) (ns : List Int),
      Ground q loose [] XP w s₀ mg mb s₁.heap → YP w s₁.heap →
      s₁.heap.get? fa = some o → o.data = .func (docDef d.name d.params d.body d.scope pm cd doc) → s₁.heap.CodeRec cd d.name → mg d.name = some (.ref fa) →
      s₁.heap.get? a = some { cls := .type "list", data := .seq vs.toArray } → IntsAre vs ns → ns.length ≤ n → s₁.gens = #[] → (∀ n ∈ ns, Builtin.Int.intBits n ≤ 1048576) →
      codeAny (model l.prog w) callerA (.call (.ref fa) ⟨[.ref a], []⟩) (fun r s' => r = .ok (.ret (.bool true)) ∧ OldK s₁.heap s'.heap ∧ s'.os = s₁.os ∧ AllBare s'.gens) s₁) :
    WalkO q loose XP YP l.row.toRowW d [] (fun f vs => PySem.call f vs) := by
  intro w s₀ s₁ mg mb G Y fa o pm cd doc dV kV ho hd hcd hD hmg hg args vals as hpre hlay hrd hwl hlo
  obtain rfl : dV = .none := Dflts.none hD hdf
  obtain rfl : kV = .none := Dflts.noKw hD
  obtain ⟨a, vs, ns, rfl, rfl, hobj, hints, hlen⟩ := script_of hn hpre hwl
  refine enter_call (codeAny_mono (call w s₀ s₁ mg mb fa o pm cd doc a vs ns G Y ho (fd_plain hd) hcd hmg hobj hints hlen hg (bits_of hlay)) fun r s' hq => ?_)
  obtain ⟨rfl, h2, h3, h4⟩ := hq
  exact ⟨.inl ⟨.bool true, .bool true, [], rfl, fun _ => rfl, .bool true, post_true l _, fun _ => ⟨List.Pairwise.nil, fun _ hm => (nomatch hm)⟩⟩, h2, h3, h4⟩
end Att
namespace L2
open PySem PySem.Spec PyProof.Rows
/-- a list that is read, whose object bears nothing else -/
def SqS (K : PySem.W.Frag) (H : Hp) (a : Addr) (xs : List V) : Prop :=
  Rd H a (.lst xs) ∨
    ∃ (o : Obj) (its : Array Value) (n : Nat), K.lookup a = some o ∧ o.cls = .type "list" ∧ o.dict = none ∧ o.slots = #[] ∧ o.data = .seq its n ∧ its.size ≤ sizeLine ∧ Vals xs its.toList
theorem SqS.sq {K : PySem.W.Frag} {H : Hp} {a : Addr} {xs : List V} (h : SqS K H a xs) : SqL K H a xs := by
  rcases h with h | ⟨o, its, n, h1, h2, h3, _, h5, h6, h7⟩
  · exact .inl h
  · exact .inr ⟨o, its, n, h1, h2, h3, h5, h6, h7⟩
theorem Inv.listS {X : Cx} {pins : List (Addr × Obj)} {σ : St} {H : Hp} {s : Shared} {a : Addr} {xs : List V} (I : Inv X pins σ H s) (h : SqS X.K H a xs) : ∃ (its : List Value) (n : Nat), Vals xs its ∧ s.heap.get? a = some { cls := .type "list", data := .seq its.toArray n } ∧ xs.length ≤ sizeLine := by
  rcases h with h | ⟨o, its, n, hk, hc, hd, hsl, hs, hz, r⟩
  · obtain ⟨z, its, n, r, e⟩ := h.ok I.hok
    exact ⟨its, n, r, e, z⟩
  · have e := I.kIn a o hk
    obtain ⟨cls, dict, data, slots⟩ := o
    simp only at hc hd hsl hs
    subst hc hd hsl hs
    refine ⟨its.toList, n, r, by simpa using e, ?_⟩
    have := r.length
    simp only [Array.length_toList] at this
    omega
/-- the promise of every law: True, of a list of at most 63 ints of at most 2 ** 20 bits -/
def spLaw (K : PySem.W.Frag) : Sp := fun vs H Q _ => ∃ (a : Addr) (ns : List Int), vs = [.ref a] ∧ SqS K H a (ns.map V.int) ∧ ns.length ≤ 63 ∧ (∀ n ∈ ns, Builtin.Int.intBits n ≤ 1048576) ∧ ∀ H', Q (.bl true) H'
theorem walk_law {l : PySem.W.OpenLaw} {k : Nat} {q : Program} {loose : List Str} {XP : (Str → Option Value) → Heap → Prop} {YP : World → Heap → Prop} {d : DefRec} {K : Params → PySem.W.Frag} {x : Str}
    (hn : l.most = some 63) (hdf : d.params.defaults = []) (hr : Room k callerA)
    (hY : ∀ (w : World) (h : Heap), YP w h → (K w.params).In h)
    (F : ∀ (w : World) (mg : Str → Option Value) (fa : Addr) (h : Heap), (K w.params).In h → h.Ns mainGlobals mg → mg d.name = some (.ref fa) →
      ∃ fd : FuncData, (∀ (s : Shared) (u : Value), BindsTo s fd ⟨[u], []⟩ [(x, u)]) ∧
        ∀ base : Heap, (K w.params).In base → base.Ns mainGlobals mg → FnOk l.prog w (K w.params) mg base CX0 k fa fd [x] (spLaw (K w.params))) :
    PySem.W.WalkO q loose XP YP l.row.toRowW d [] (fun f vs => PySem.call f vs) := by
  refine Att.attach_callB hn hdf fun w s₀ s₁ mg mb fa o pm cd doc a vs ns G Y ho hd hcd hmg hobj hints hlen hg hbits => ?_
  have KX := hY w _ Y
  obtain ⟨fd, hb, hF⟩ := F w mg fa _ KX G.T.g hmg
  have hS' : ∀ {H : Hp}, SqL (K w.params) H a (ns.map V.int) → SqS (K w.params) H a (ns.map V.int) := fun {H} h => by
    rcases h with h | ⟨o, its, n, h1, h2, h3, h5, h6, h7⟩
    · exact .inl h
    · have e := KX a o h1
      rw [hobj] at e
      cases e
      exact .inr ⟨_, its, n, h1, h2, h3, rfl, h5, h6, h7⟩
  exact law_call KX G.T.g G.T.b G.T.builtins G.T.nolimit hg hobj hints (Nat.le_trans hlen (by decide)) hr hF hb (fun H hO hS => ⟨a, ns, rfl, hS' hS, hlen, hbits, fun _ => rfl⟩) fun H e s' h => h
end L2

/-! EXTENSION 2: list comprehensions with one for, any target, at most one test -/
namespace L2
open PySem PySem.Spec PyProof.Rows

/-- the context within a comprehension's block: the same slots; what it binds itself is local there -/
abbrev blk (X : Cx) (scope : Scope) (cl : List (Str × Addr)) (C : Addr) (s₀ : Shared) (H₀ : Hp) (ex : List Addr) : Cx :=
  { X with s₀ := s₀, H₀ := H₀, env := compEnvC scope cl C X.env, outer := X.stack, ex := ex, fn := fun _ => false, pn := [], xe := fun _ _ => False }

/-! ### the closure -/
def closOf (cells : List (Str × Addr)) : List (Str × NameKind) → List (Str × Addr) → List (Str × Addr)
  | [], acc => acc
  | (n, k) :: r, acc => if (k == .free) = true then closOf cells r ((n, (cells.lookup n).getD 0) :: acc) else closOf cells r acc
theorem closFor_go {env : Env} : ∀ (names : List (Str × NameKind)) (acc : List (Str × Addr)), (∀ x ∈ names, x.2 = .free → ∃ c, env.cells.lookup x.1 = some c) →
    (forIn names acc fun (x : Str × NameKind) (cs : List (Str × Addr)) => (if (x.2 == .free) = true then (do let c ← cellOf env x.1; pure (ForInStep.yield ((x.1, c) :: cs))) else pure (ForInStep.yield cs) : Sem (ForInStep (List (Str × Addr))))) = (pure (closOf env.cells names acc) : Sem (List (Str × Addr)))
  | [], acc, _ => rfl
  | (n, k) :: r, acc, h => by
    rw [List.forIn_cons]
    have hr : ∀ x ∈ r, x.2 = .free → ∃ c, env.cells.lookup x.1 = some c := fun x hx => h x (List.mem_cons_of_mem _ hx)
    by_cases hk : (k == NameKind.free) = true
    · obtain ⟨c, hc⟩ := h (n, k) List.mem_cons_self (by simpa using hk)
      have e1 : cellOf env n = pure c := by unfold cellOf; rw [hc]
      simp only [hk, if_true, e1, pure_bind]
      have e2 : closOf env.cells ((n, k) :: r) acc = closOf env.cells r ((n, c) :: acc) := by
        conv => lhs; unfold closOf
        rw [if_pos hk, hc]
        all_goals rfl
      rw [e2]
      exact closFor_go r _ hr
    · simp only [hk, if_false, pure_bind]
      have e2 : closOf env.cells ((n, k) :: r) acc = closOf env.cells r acc := by
        conv => lhs; unfold closOf
        rw [if_neg hk]
      rw [e2]
      exact closFor_go r _ hr
theorem closFor_of {env : Env} {scope : Scope} (h : ∀ x ∈ scope.names, x.2 = .free → ∃ c, env.cells.lookup x.1 = some c) : closureFor scope env = pure (closOf env.cells scope.names []) := by
  have q := closFor_go (env := env) scope.names [] h
  unfold closureFor
  have e : (forIn scope.names ([] : List (Str × Addr)) fun (x : Str × NameKind) (r : List (Str × Addr)) =>
      (match x with
      | (name, kind) => if (kind == NameKind.free) = true then (do let c ← cellOf env name; pure (ForInStep.yield ((name, c) :: r))) else pure (ForInStep.yield r) : Sem (ForInStep (List (Str × Addr))))) = pure (closOf env.cells scope.names []) := q
  first
    | (show (do let r ← (forIn scope.names ([] : List (Str × Addr)) _); pure r) = _; erw [e]; rfl)
    | (simp only [bind_pure]; exact e)
    | exact e
theorem closOf_sound {cells : List (Str × Addr)} : ∀ (names : List (Str × NameKind)) (acc : List (Str × Addr)), (∀ x ∈ names, x.2 = .free → ∃ c, cells.lookup x.1 = some c) → (∀ y c, acc.lookup y = some c → cells.lookup y = some c) →
    ∀ y c, (closOf cells names acc).lookup y = some c → cells.lookup y = some c
  | [], _, _, ha => ha
  | (n, k) :: r, acc, h, ha => by
    have hr : ∀ x ∈ r, x.2 = .free → ∃ c, cells.lookup x.1 = some c := fun x hx => h x (List.mem_cons_of_mem _ hx)
    unfold closOf
    by_cases hk : (k == NameKind.free) = true
    · rw [if_pos hk]
      obtain ⟨c, hc⟩ := h (n, k) List.mem_cons_self (by simpa using hk)
      refine closOf_sound r _ hr fun y d e => ?_
      rw [List.lookup_cons] at e
      cases q : y == n with
      | true =>
        rw [q] at e
        have e' : (cells.lookup n).getD 0 = d := Option.some.inj e
        have yn : y = n := by simpa using q
        subst yn
        have hc' : cells.lookup y = some c := hc
        rw [hc'] at e' ⊢
        exact congrArg some e'
      | false =>
        rw [q] at e
        exact ha y d e
    · rw [if_neg hk]
      exact closOf_sound r acc hr ha
theorem closOf_keeps {cells : List (Str × Addr)} : ∀ (names : List (Str × NameKind)) (acc : List (Str × Addr)) (y : Str), (∃ c, acc.lookup y = some c) → ∃ c, (closOf cells names acc).lookup y = some c
  | [], _, _, h => h
  | (n, k) :: r, acc, y, h => by
    unfold closOf
    split
    · refine closOf_keeps r _ y ?_
      rw [List.lookup_cons]
      cases q : y == n with
      | true => exact ⟨_, rfl⟩
      | false => exact h
    · exact closOf_keeps r acc y h
theorem closOf_has {cells : List (Str × Addr)} : ∀ (names : List (Str × NameKind)) (acc : List (Str × Addr)) (y : Str), (y, NameKind.free) ∈ names → ∃ c, (closOf cells names acc).lookup y = some c
  | (n, k) :: r, acc, y, h => by
    unfold closOf
    rcases List.mem_cons.mp h with e | h
    · have e1 : y = n := congrArg Prod.fst e
      have e2 : NameKind.free = k := congrArg Prod.snd e
      subst e1
      subst e2
      rw [if_pos (by rfl)]
      refine closOf_keeps r _ y ?_
      rw [List.lookup_cons, beq_self_eq_true]
      exact ⟨_, rfl⟩
    · split
      · exact closOf_has r _ y h
      · exact closOf_has r _ y h
/-- a name's kind in the block -/
theorem lookup_relabel {env : Env} {x : Str} : ∀ (names : List (Str × NameKind)),
    (names.map fun (n, k) => if (k == NameKind.free && env.scope.kind == .function && env.kindOf n == some .cell) then (n, NameKind.cell) else (n, k)).lookup x
      = (names.lookup x).map fun k => if (k == NameKind.free && env.scope.kind == .function && env.kindOf x == some .cell) = true then NameKind.cell else k
  | [] => rfl
  | (n, k) :: r => by
    have ih := lookup_relabel (env := env) (x := x) r
    show List.lookup x ((if (k == NameKind.free && env.scope.kind == .function && env.kindOf n == some .cell) = true then (n, NameKind.cell) else (n, k)) :: _) = _
    rw [List.lookup_cons (a := x) (as := r)]
    cases hx : x == n with
    | true =>
      have e : x = n := by simpa using hx
      subst e
      by_cases hc : (k == NameKind.free && env.scope.kind == .function && env.kindOf x == some .cell) = true
      · rw [if_pos hc, List.lookup_cons, beq_self_eq_true]
        show some NameKind.cell = some (if _ then _ else _)
        rw [if_pos hc]
      · rw [if_neg hc, List.lookup_cons, beq_self_eq_true]
        show some k = some (if _ then _ else _)
        rw [if_neg hc]
    | false =>
      by_cases hc : (k == NameKind.free && env.scope.kind == .function && env.kindOf n == some .cell) = true
      · rw [if_pos hc, List.lookup_cons, hx]; exact ih
      · rw [if_neg hc, List.lookup_cons, hx]; exact ih
theorem mem_of_look {x : Str} {k : NameKind} : ∀ {names : List (Str × NameKind)}, names.lookup x = some k → (x, k) ∈ names
  | (n, k') :: r, h => by
    rw [List.lookup_cons] at h
    cases hx : x == n with
    | true =>
      rw [hx] at h
      have e : x = n := by simpa using hx
      subst e
      cases h
      exact List.mem_cons_self
    | false =>
      rw [hx] at h
      exact List.mem_cons_of_mem _ (mem_of_look h)

/-- what the rule asks of a comprehension's scope, upon the scope around it -/
structure CScope (X : Cx) (ks : List Nat) (scope : Scope) : Prop where
  kind : scope.kind = .function
  cell : ∀ y ∈ scope.names, y.2 ≠ .cell
  names : ∀ y ∈ scope.names, y.2 = .local → scope.names.lookup y.1 = some .local
  freeB : (scope.names.all fun y => !(y.2 == NameKind.free) || (X.env.kindOf y.1 == some NameKind.cell || X.env.kindOf y.1 == some NameKind.free)) = true
  slotsB : (X.N.zipIdx.all fun p => !(scope.names.lookup p.1 == some NameKind.local) || ks.contains p.2) = true
theorem CScope.free {X : Cx} {ks : List Nat} {scope : Scope} (S : CScope X ks scope) : ∀ y ∈ scope.names, y.2 = .free → X.env.kindOf y.1 = some .cell ∨ X.env.kindOf y.1 = some .free := fun y hy hk => by
  have h := List.all_eq_true.mp S.freeB y hy
  rw [hk] at h
  simpa using h
theorem CScope.slots {X : Cx} {ks : List Nat} {scope : Scope} (S : CScope X ks scope) : ∀ p ∈ X.N.zipIdx, scope.names.lookup p.1 = some .local → p.2 ∈ ks := fun p hp hk => by
  have h := List.all_eq_true.mp S.slotsB p hp
  rw [hk] at h
  simpa using h
/-- the slots that a comprehension binds -/
def clr : List Nat → St → St
  | [], σ => σ
  | k :: ks, σ => clr ks (σ.set k none)
theorem clr_length : ∀ (ks : List Nat) (σ : St), (clr ks σ).length = σ.length
  | [], _ => rfl
  | k :: ks, σ => by
    show (clr ks (σ.set k none)).length = _
    rw [clr_length ks, List.length_set]
theorem clr_get : ∀ (ks : List Nat) (σ : St) {i : Nat} {v : V}, (clr ks σ)[i]? = some (some v) → σ[i]? = some (some v) ∧ i ∉ ks
  | [], _, _, _, h => ⟨h, List.not_mem_nil⟩
  | k :: ks, σ, i, v, h => by
    obtain ⟨h1, h2⟩ := clr_get ks (σ.set k none) h
    by_cases e : i = k
    · subst e
      rw [List.getElem?_set_self'] at h1
      cases q : σ[i]? with
      | none => rw [q] at h1; cases h1
      | some o => rw [q] at h1; cases h1
    · rw [List.getElem?_set_ne (Ne.symm e)] at h1
      exact ⟨h1, fun z => (List.mem_cons.mp z).elim e h2⟩

/-! ### the tests -/
def PIf (Y : Cx) (ifs : List Expr) (t : TT) : Prop :=
  ∀ (pins : List (Addr × Obj)) (s : Shared) (σ : St) (H : Hp) (Q : Bool → Hp → Prop), Inv Y pins σ H s → t σ H Q →
    wpAny (model Y.prog Y.w) Y.A (forIn ifs true fun c r => if r = true then do let ok ← isTrue c Y.env (eval c Y.env); pure (ForInStep.yield ok) else pure (ForInStep.yield r)) (TP Y pins σ Q) Y.xe s
def tYes : TT := fun _ H Q => Q true H
theorem pif_nil {Y : Cx} : PIf Y [] tYes := fun _ _ _ H _ I h => wpAny_tests_nil ⟨H, I, h⟩
theorem pif_one {Y : Cx} {c : Expr} {t : TT} (h : PT Y c t) : PIf Y [c] t := fun pins s σ H Q I q => wpAny_tests_one (h pins s σ H Q I q)

/-! ### the turns -/
theorem comp_loop {prog : Program} {w : World} {A : Around} {R : Result → Shared → Prop} {s : Shared} {elt target iter : Expr} {ifs : List Expr} {scope : Scope} {pos : Pos} {it acc : Value} {env : Env} (I : Nat → Shared → Prop)
    (turn : ∀ n s, I n s → wpAny (model prog w) A (pyNext it) (fun r s₁ => match r with
      | none => R (.ok .next) s₁
      | some v => wpAny (model prog w) A (letOwnedTupleGo target it v) (fun _ s₁' => wpAny (model prog w) A (assign target env v) (fun _ s₂ =>
          wpAny (model prog w) A (forIn ifs true fun c r => if r = true then do let ok ← isTrue c env (eval c env); pure (ForInStep.yield ok) else pure (ForInStep.yield r)) (fun ok s₃ =>
            if ok = true then wpAny (model prog w) A (eval elt env) (fun x s₄ =>
              wpAny (model prog w) A (call (.builtin "list.append") [acc, x]) (fun _ s₅ => ∃ m, m < n ∧ I m s₅) (fun _ _ => False) s₄) (fun _ _ => False) s₃
            else ∃ m, m < n ∧ I m s₃) (fun _ _ => False) s₂) (fun _ _ => False) s₁') (fun _ _ => False) s₁) (fun _ _ => False) s)
    (n : Nat) (h : I n s) :
    codeAny (model prog w) A (.compLoop (.ListComp elt [⟨target, iter, ifs, 0⟩] scope pos) 0 it acc env) R s := by
  refine codeAny_loop rfl I (fun n s hI => ?_) n h
  show wpAny _ A ((compTurn (.ListComp elt [⟨target, iter, ifs, 0⟩] scope pos) 0 it acc env).onRaise (fun x => do noteFrame x env; theTreesLotGoes x)) _ _ s
  refine wpAny_noted ?_
  rw [compTurn_list]
  refine wpAny_bind (wpAny_standAt (wpAny_bind (wpAny_mono (turn n s hI) (fun r s₁ h₁ => ?_) fun _ _ h' => h'.elim)))
  cases r with
  | none => exact wpAny_pure h₁
  | some v =>
    refine wpAny_bind (wpAny_mono h₁ (fun _ s₁' h₁' => ?_) fun _ _ h' => h'.elim)
    refine wpAny_bind (wpAny_mono h₁' (fun _ s₂ h₂ => wpAny_bind (wpAny_mono h₂ (fun ok s₃ h₃ => ?_) fun _ _ h' => h'.elim)) fun _ _ h' => h'.elim)
    cases ok with
    | false => exact wpAny_pure ⟨rfl, h₃⟩
    | true =>
      exact wpAny_bind (wpAny_bind (wpAny_mono h₃ (fun x s₄ h₄ => wpAny_bind (wpAny_mono h₄ (fun _ s₅ h₅ => wpAny_pure (wpAny_pure ⟨rfl, h₅⟩)) fun _ _ h' => h'.elim)) fun _ _ h' => h'.elim))

/-! ### a list that stands untracked is tracked from here on -/
theorem Inv.track {X : Cx} {pins : List (Addr × Obj)} {σ : St} {H : Hp} {s : Shared} {D : Addr} {its : List Value} {ys : List V} {n : Nat} (I : Inv X pins σ H s) (hn : H D = none) (hl : X.s₀.heap.objs.size ≤ D) (hL : D ≠ X.env.locals)
    (hc : ∀ x c, X.env.cells.lookup x = some c → c ≠ D) (hp : ∀ p ∈ X.pn ++ pins, p.1 ≠ D) (e : s.heap.get? D = some { cls := .type "list", data := .seq its.toArray n }) (rv : Vals ys its) (hz : ys.length ≤ sizeLine) :
    Inv X pins σ (upd H D (.lst ys)) s := by
  have old : ∀ b o, X.s₀.heap.get? b = some o → b ≠ D := fun b o q z => by
    subst z
    exact absurd (Nat.lt_of_lt_of_le (Heap.lt_size q) hl) (Nat.lt_irrefl _)
  have ne : ∀ b o, H b = some o → b ≠ D := fun b o q => ne_of_none q hn
  refine ⟨I.ok, I.os, I.bare, ⟨I.base.keep, I.base.slot, fun b o q n' hx => ?_, I.base.there, fun b xs q => ?_, fun b o u q => ?_, fun b ps q => ?_⟩, I.loc, I.cell, ?_, fun x c q => ?_, fun p q => ?_, fun b u q => ?_, I.len⟩
  · rw [upd_ne (old b o q)]
    exact I.base.free b o q n' hx
  · have z := I.base.tups b xs q
    rw [upd_ne (ne _ _ z)]
    exact z
  · have z := I.base.frzs b o u q
    rw [upd_ne (ne _ _ z)]
    exact z
  · obtain ⟨more, z⟩ := I.base.tbls b ps q
    exact ⟨more, by rw [upd_ne (ne _ _ z)]; exact z⟩
  · rw [upd_ne (Ne.symm hL)]
    exact I.free
  · rw [upd_ne (hc x c q)]
    exact I.freeC x c q
  · obtain ⟨h1, h2, h3⟩ := I.pin p q
    exact ⟨h1, by rw [upd_ne (hp p q)]; exact h2, h3⟩
  · by_cases hb : b = D
    · subst hb
      rw [upd_same] at q
      cases q
      exact ⟨hz, its, n, rv, e⟩
    · rw [upd_ne hb] at q
      exact (I.hok b u q).stay (fun c v _ z => z) (fun c z => by rw [upd_ne (ne _ _ z)]; exact z) fun c xs z => by rw [upd_ne (ne _ _ z)]; exact z

/-! ### the reading -/
/-- the block's slots but its own are as they were -/
def Ext (ks : List Nat) (σ σ2 : St) : Prop := σ2.length = σ.length ∧ ∀ (i : Nat) (v : V), (clr ks σ)[i]? = some (some v) → σ2[i]? = some (some v)
theorem Ext.name {k : Nat} {σ : St} {x : V} : Ext [k] σ (σ.set k (some x)) := by
  refine ⟨by rw [List.length_set], fun i v h => ?_⟩
  obtain ⟨h1, h2⟩ := clr_get [k] σ h
  have e : i ≠ k := fun z => h2 (by rw [z]; exact List.mem_cons_self)
  rw [List.getElem?_set_ne (Ne.symm e)]
  exact h1
theorem Ext.two {k j : Nat} {σ : St} {x y : V} : Ext [k, j] σ ((σ.set k (some x)).set j (some y)) := by
  refine ⟨by rw [List.length_set, List.length_set], fun i v h => ?_⟩
  obtain ⟨h1, h2⟩ := clr_get [k, j] σ h
  have e : i ≠ k := fun z => h2 (by rw [z]; exact List.mem_cons_self)
  have e' : i ≠ j := fun z => h2 (by rw [z]; exact List.mem_cons_of_mem _ List.mem_cons_self)
  rw [List.getElem?_set_ne (Ne.symm e'), List.getElem?_set_ne (Ne.symm e)]
  exact h1
/-- what is asked from the iterator on: F of the list that comes out -/
def CGo (ks : List Nat) (g : TG) (tc : TT) (te : TE) (σ : St) (F : Addr → Hp → Prop) (J : It) (H1 : Hp) : Prop :=
  ∃ W : Nat → Nat → List V → Hp → Prop, (∃ m, W 0 m [] H1) ∧ ∀ i m ys H, W i m ys H →
    (J.stop i H ∧ ∀ D, H D = none → F D (upd H D (.lst ys))) ∨
    (J.go i H ∧ ys.length < sizeLine ∧ ∃ N : List V → Hp → Prop, (∀ ys' H', N ys' H' → ∃ m', m' < m ∧ W (i + 1) m' ys' H') ∧ ∀ x H', J.yld i H x H' → g x (clr ks σ) H' fun σ2 H2 => Ext ks σ σ2 ∧ tc σ2 H2 fun b H3 =>
      if b = true then te σ2 H3 fun v H4 => N (ys ++ [v]) H4 else N ys H3)
def tComp (ks : List Nat) (wi : TI) (g : TG) (tc : TT) (te : TE) : TE := fun σ H Q => wi σ H (CGo ks g tc te σ fun D H' => Q (.ref D) H')
/-- name = [..] on one line -/
def tSetComp (k : Nat) (ks : List Nat) (wi : TI) (g : TG) (tc : TT) (te : TE) : TS := fun D σ H => wi σ H (CGo ks g tc te σ fun a H' => D.nx (σ.set k (some (.ref a))) H')

section
variable {X : Cx}
/-- the block runs: F of the new list; the block's own namespace C still stands -/
theorem blk_run {tg iter elt : Expr} {ifs : List Expr} {scope : Scope} {pos : Pos} {ks : List Nat} {g : TG} {tc : TT} {te : TE} {F : Addr → Hp → Prop} {RR : Value → Addr → Result → Shared → Prop} {E : Value → Shared → Prop}
    {pins : List (Addr × Obj)} {σ : St} {s2 : Shared} {itv : Value} (S : CScope X ks scope) (hc : X.calm = true)
    (hg : ∀ cl C s₀ H₀ ex, PG (blk X scope cl C s₀ H₀ ex) tg g) (hi : ∀ cl C s₀ H₀ ex, PIf (blk X scope cl C s₀ H₀ ex) ifs tc) (he : ∀ cl C s₀ H₀ ex, PE (blk X scope cl C s₀ H₀ ex) elt te)
    (h : PIE X pins σ tg (CGo ks g tc te σ F) itv s2)
    (hRR : ∀ D C s' H', Inv X pins σ H' s' → (∃ m, s'.heap.Ns C m) → FpOk X pins H' C → F D H' → RR (.ref D) C (.ok .next) s') :
    wpAny (model X.prog X.w) X.A (newList []) (fun acc s₃ => wpAny (model X.prog X.w) X.A (newFunctionEnv scope X.env.globals (closOf X.env.cells scope.names []) [] X.env.qual none .none (some X.env)) (fun cenv s₄ =>
      codeAny (model X.prog X.w) X.A (.compStart (.ListComp elt [⟨tg, iter, ifs, 0⟩] scope pos) 0 itv acc { cenv with scope := relabel scope X.env }) (RR acc cenv.locals) s₄) E s₃) E s2 := by
  obtain ⟨it, fp, tn, J, H2, rfl, I2, T, st2, f2, W, ⟨m0, w0⟩, turn⟩ := h
  refine wpAny_newObj_type (wpAny_newFunctionEnv S.cell (by intro y hy; simp at hy) (fun h₁ hns₁ hsb₁ => ?_) S.kind)
  dsimp only at hns₁ hsb₁ ⊢
  -- the list's place D, the block's namespace C
  have hD2 : s2.heap.get? s2.heap.objs.size = none := Heap.get?_none_of_le (Nat.le_refl _)
  have nD : H2 s2.heap.objs.size = none := I2.hok.fresh (Nat.le_refl _)
  have I3 : Inv X pins σ H2 { s2 with heap := s2.heap.push { cls := .type "list", dict := none, data := .seq ([] : List Value).toArray } } := I2.kept (t' := s2.toks) fun b o e => Heap.get?_push_of_some _ e
  have eD3 : (s2.heap.push { cls := .type "list", dict := none, data := .seq ([] : List Value).toArray }).get? s2.heap.objs.size = some { cls := .type "list", dict := none, data := .seq ([] : List Value).toArray } := Heap.get?_push_size _ rfl
  have hsz3 : (s2.heap.push { cls := .type "list", dict := none, data := .seq ([] : List Value).toArray }).objs.size = s2.heap.objs.size + 1 := Heap.size_push _ _
  have fD := I2.fpOk (b := s2.heap.objs.size) (Nat.le_refl _) nD
  have fplt : ∀ b ∈ fp, b < s2.heap.objs.size := fun b hb => by
    obtain ⟨o, e, _⟩ := T.obj _ _ st2 b hb
    exact Heap.lt_size e
  have hDfp : s2.heap.objs.size ∉ fp := fun z => Nat.lt_irrefl _ (fplt _ z)
  generalize hs3 : ({ s2 with heap := s2.heap.push { cls := .type "list", dict := none, data := .seq ([] : List Value).toArray } } : Shared) = s3 at I3
  generalize hDD : s2.heap.objs.size = D at *
  have s3h : s3.heap = s2.heap.push { cls := .type "list", dict := none, data := .seq ([] : List Value).toArray } := by rw [← hs3]
  rw [← s3h] at hns₁ hsb₁ eD3 hsz3
  have fC := I3.fpOk (H' := H2) (b := s3.heap.objs.size) (Nat.le_refl _) (I3.hok.fresh (Nat.le_refl _))
  have old : ∀ b o, s3.heap.get? b = some o → h₁.get? b = some o := fun b o e => hsb₁.extBut b o (Nat.ne_of_lt (Heap.lt_size e)) (Heap.get?_push_of_some _ e)
  generalize hCC : s3.heap.objs.size = C at *
  have hDltC : D < C := by rw [hsz3]; exact Nat.lt_succ_self _
  have hDC : D ≠ C := Nat.ne_of_lt hDltC
  have hclos := closFor_of (env := X.env) (scope := scope) fun x hx hk => I2.ok.has x.1 (S.free x hx hk)
  have csound : ∀ y c, (closOf X.env.cells scope.names []).lookup y = some c → X.env.cells.lookup y = some c :=
    closOf_sound scope.names [] (fun x hx hk => I2.ok.has x.1 (S.free x hx hk)) fun y c e => by cases e
  generalize hcl : closOf X.env.cells scope.names [] = cl at *
  have kin : ∀ y, (compEnvC scope cl C X.env).kindOf y = (scope.names.lookup y).map fun k => if (k == NameKind.free && X.env.scope.kind == .function && X.env.kindOf y == some .cell) = true then NameKind.cell else k := fun y => lookup_relabel scope.names
  have isFree : ∀ y, ((compEnvC scope cl C X.env).kindOf y = some .cell ∨ (compEnvC scope cl C X.env).kindOf y = some .free) → (y, NameKind.free) ∈ scope.names := fun y hy => by
    rw [kin y] at hy
    cases q : scope.names.lookup y with
    | none =>
      rw [q] at hy
      rcases hy with z | z <;> cases z
    | some k =>
      rw [q] at hy
      have hm := mem_of_look q
      cases k with
      | free => exact hm
      | cell => exact absurd rfl (S.cell _ hm)
      | _ =>
        rcases hy with z | z
        · exact absurd (Option.some.inj z) (by simp)
        · exact absurd (Option.some.inj z) (by simp)
  have neFs : ∀ b, FpOk X pins H2 b → b ∉ frs X.stack := fun b f z => by
    rcases List.mem_cons.mp (I2.stkSub b z) with e | e
    · exact f.2.1 e
    · exact f.2.2.1 e
  -- the block's context stands
  have exs : ∀ b ∈ D :: fp, FpOk X pins H2 b := fun b hb => by
    rcases List.mem_cons.mp hb with e | e
    · rw [e]; exact fD
    · exact f2 b e
  have exlt : ∀ b ∈ D :: fp, b < C := fun b hb => by
    rcases List.mem_cons.mp hb with e | e
    · rw [e]; exact hDltC
    · exact Nat.lt_trans (fplt b e) hDltC
  have okY : (blk X scope cl C s3 H2 (D :: fp)).Ok :=
    { mod := I2.ok.mod, kind := S.kind, glob := I2.ok.glob, blt := I2.ok.blt, above := Nat.le_of_eq hCC
      inj := fun x y c h1 h2 => I2.ok.inj x y c (csound _ _ h1) (csound _ _ h2)
      has := fun y hy => by
        have z := closOf_has (cells := X.env.cells) scope.names [] y (isFree y hy)
        rw [hcl] at z
        exact z
      cab := fun _ _ z => by cases z
      hd := I2.ok.hd, frames := I2.ok.frames, stk := .inl rfl
      exf := fun b hb => ⟨Nat.ne_of_lt (exlt b hb), fun x c e z => (exs b hb).2.2.2.2.1 x c (csound _ _ e) z⟩
      bs := I3.bs
      bsz := Nat.le_trans I2.ok.bsz I3.sz
      noex := fun b o e hb => by
        rcases (exs b hb).2.2.2.1 with z | z
        · exact I2.ok.noex b o e z
        · exact absurd (Nat.lt_of_lt_of_le (Heap.lt_size e) (Nat.le_trans I2.ok.bsz z)) (Nat.lt_irrefl _)
      exfs := fun b hb => neFs b (exs b hb)
      funs := I3.stack
      frf := I3.stkFree }
  have outP : ∀ p ∈ X.pn ++ pins, p.1 ≠ C ∧ p.1 ∉ frs X.stack ∧ p.1 ≠ D := fun p hp => by
    obtain ⟨e, n, ne, nf, d⟩ := I2.pin p hp
    have lt : p.1 < D := by rw [← hDD]; exact Heap.lt_size e
    refine ⟨Nat.ne_of_lt (Nat.lt_trans lt hDltC), fun z => ?_, Nat.ne_of_lt lt⟩
    rcases List.mem_cons.mp (I2.stkSub p.1 z) with q | q
    · exact ne q
    · exact nf q
  have I4 : Inv (blk X scope cl C s3 H2 (D :: fp)) (X.pn ++ pins) (clr ks σ) H2 { s3 with heap := h₁, toks := s3.toks + ([] : List (Str × Value)).length } := by
    refine ⟨okY, rfl, I3.bare, Un.kept old, ⟨_, hns₁, fun i x v e1 e2 e3 => ?_⟩, fun x c e => ?_, ?_, fun x c e => ?_, fun p hp => ?_, I3.hok.kept old, ?_⟩
    · obtain ⟨e2, nk⟩ := clr_get ks σ e2
      have hv : (compEnvC scope cl C X.env).kindOf x = some .cell ∨ (compEnvC scope cl C X.env).kindOf x = some .free := by
        rcases e3 with z | z | z
        · exfalso
          have z' : (compEnvC scope cl C X.env).kindOf x = some .local := z
          rw [kin x] at z'
          have hm : (x, i) ∈ X.N.zipIdx := by
            rw [List.mem_zipIdx_iff_getElem?]
            exact e1
          refine nk (S.slots (x, i) hm ?_)
          show scope.names.lookup x = some .local
          cases q : scope.names.lookup x with
          | none => rw [q] at z'; cases z'
          | some k =>
            rw [q] at z'
            have z2 := Option.some.inj z'
            cases k with
            | «local» => rfl
            | free =>
              exfalso
              dsimp only at z2
              split at z2 <;> cases z2
            | _ => exact absurd z2 (by simp)
        · exact .inl z
        · exact .inr z
      have hf := isFree x hv
      have hX := S.free (x, .free) hf rfl
      obtain ⟨m, hn, hl⟩ := I3.loc
      obtain ⟨u, r, lk⟩ := hl i x v e1 e2 (by rcases hX with z | z; exact .inr (.inl z); exact .inr (.inr z))
      refine ⟨u, r, .inr ⟨hv, ?_⟩⟩
      have z := closOf_has (cells := X.env.cells) scope.names [] x hf
      rw [hcl] at z
      obtain ⟨c, hcx⟩ := z
      rcases lk with ⟨kl, _⟩ | ⟨_, c', e', z'⟩
      · have hX' : X.env.kindOf x = some .cell ∨ X.env.kindOf x = some .free := hX
        rw [kl] at hX'
        rcases hX' with z | z <;> cases z
      · have q := csound x c hcx
        rw [e'] at q
        cases q
        obtain ⟨o, ho, hd⟩ := z'
        exact ⟨c, hcx, o, old _ _ ho, hd⟩
    · obtain ⟨v, o, ho, hd⟩ := I3.cell x c (csound x c e)
      exact ⟨v, o, old _ _ ho, hd⟩
    · exact I3.hok.fresh (Nat.le_of_eq hCC)
    · exact I3.freeC x c (csound x c e)
    · have hp' : p ∈ X.pn ++ pins := hp
      obtain ⟨e, n, ne, nf, d⟩ := I3.pin p hp'
      exact ⟨old _ _ e, n, (outP p hp').1, (outP p hp').2.1, d⟩
    · rw [clr_length]
      exact I3.len
  -- what holds between two turns
  have fpY : ∀ {pl : List (Addr × Obj)} {H' : Hp}, (∀ p ∈ pl, p.1 ∉ fp) → (∀ b ∈ fp, H' b = none) → ∀ b ∈ fp, FpOk (blk X scope cl C s3 H2 (D :: fp)) ((X.pn ++ pins) ++ pl) H' b := fun {pl H'} hpl hn b hb => by
    have f := f2 b hb
    refine ⟨hn b hb, Nat.ne_of_lt (exlt b (List.mem_cons_of_mem _ hb)), neFs b f, .inl (List.mem_cons_of_mem _ hb), fun x c e z => f.2.2.2.2.1 x c (csound x c e) z, fun p hp => ?_⟩
    have hp' : p ∈ (X.pn ++ pins) ++ pl := hp
    rcases List.mem_append.mp hp' with q | q
    · exact f.2.2.2.2.2 p q
    · exact fun z => hpl p q (by rw [z]; exact hb)
  have start : ∀ s₅ : Shared, s₅ = { s3 with heap := h₁, toks := s3.toks + ([] : List (Str × Value)).length } →
      codeAny (model X.prog X.w) X.A (.compLoop (.ListComp elt [⟨tg, iter, ifs, 0⟩] scope pos) 0 (.ref it) (.ref D) (compEnvC scope cl C X.env)) (RR (.ref D) C) s₅ := by
    rintro s₅ rfl
    refine comp_loop (fun n s' => ∃ i H' ys its nn, Inv (blk X scope cl C s3 H2 (D :: fp)) (X.pn ++ pins) (clr ks σ) H' s' ∧ tn i s'.heap ∧ (∀ b ∈ fp, H' b = none) ∧ H' D = none ∧ s'.heap.get? D = some { cls := .type "list", data := .seq its nn } ∧ Vals ys its.toList ∧ ys.length ≤ sizeLine ∧ W i n ys H') ?_ m0
      ⟨0, H2, [], #[], 0, I4, T.keep _ _ _ st2 (fun b hb o e => old _ _ (by rw [s3h]; exact Heap.get?_push_of_some _ e)), fun b hb => (f2 b hb).1, nD, old _ _ eD3, .nil, Nat.zero_le _, w0⟩
    rintro n s6 ⟨i, H6, ys, its, nn, I6, st6, fr6, nD6, eD6, rv6, hz6, w6⟩
    have I6' : Inv (blk X scope cl C s3 H2 (D :: fp)) ((X.pn ++ pins) ++ [(D, { cls := .type "list", data := .seq its nn })]) (clr ks σ) H6 s6 := I6.pins_of fun p hp => (List.mem_append.mp hp).elim (fun z => I6.pin p (List.mem_append_right _ z)) fun z => by
      obtain rfl := List.mem_singleton.mp z
      exact ⟨eD6, nD6, hDC, neFs D fD, fun v q => by cases q⟩
    have plD : ∀ p ∈ [((D, { cls := .type "list", data := .seq its nn }) : Addr × Obj)], p.1 ∉ fp := fun p hp => by
      obtain rfl := List.mem_singleton.mp hp
      exact hDfp
    rcases turn i n ys H6 w6 with ⟨stop, fin⟩ | ⟨go, hz, N, hN, step⟩
    · refine thn (T.done (blk X scope cl C s3 H2 (D :: fp)) rfl rfl rfl hc i _ s6 (clr ks σ) H6 _ I6' (fpY plD fr6) st6 stop) fun r s7 ⟨hr, I7⟩ => ?_
      subst hr
      -- back in the frame around
      have IX : Inv X pins σ H6 s7 := I3.call' (ch := D :: fp) I7.os I7.base I7.hok I7.bare fun b hb => ⟨(exs b hb).2.2.2.1, (exs b hb).2.1, (exs b hb).2.2.2.2.1, (exs b hb).2.2.2.2.2⟩
      have eD7 := (I7.pin (D, { cls := .type "list", data := .seq its nn }) (List.mem_append_right _ (List.mem_append_right _ (List.mem_singleton.mpr rfl)))).1
      have rv7 : Vals ys its.toList := rv6
      have IT : Inv X pins σ (upd H6 D (.lst ys)) s7 := IX.track (its := its.toList) (n := nn) nD6 (by
        have := I2.sz
        omega) fD.2.1 fD.2.2.2.2.1 fD.2.2.2.2.2 (by simpa using eD7) rv7 hz6
      obtain ⟨m7, hn7, _⟩ := I7.loc
      refine hRR D C s7 _ IT ⟨m7, hn7⟩ ⟨?_, fC.2⟩ (fin D nD6)
      rw [upd_ne (Ne.symm hDC)]
      exact I7.free
    · refine thn (T.item (blk X scope cl C s3 H2 (D :: fp)) rfl rfl rfl hc i _ s6 (clr ks σ) H6 _ I6' (fpY plD fr6) st6 go) fun r s7 ⟨u, hr, h7⟩ => ?_
      subst hr
      refine thn h7 fun _ s8 ⟨x, H8, I8, r8, y8, st8, fr8⟩ => ?_
      have I8' := I8.pinned (fpY plD fr8) (T.obj _ _ st8)
      refine thn (hg cl C s3 H2 (D :: fp) _ s8 (clr ks σ) H8 x u _ I8' r8 (step x H8 y8)) fun _ s9 ⟨σ9, H9, I9, hE, q9⟩ => ?_
      refine thn (hi cl C s3 H2 (D :: fp) _ s9 σ9 H9 _ I9 q9) fun ok s10 ⟨H10, I10, q10⟩ => ?_
      have memD : (D, ({ cls := .type "list", data := .seq its nn } : Obj)) ∈ ([] : List (Addr × Obj)) ++ (((X.pn ++ pins) ++ [(D, { cls := .type "list", data := .seq its nn })]) ++ pinsAt fp s8.heap) := List.mem_append_right _ (List.mem_append_left _ (List.mem_append_right _ (List.mem_singleton.mpr rfl)))
      have keepT : ∀ {σ' : St} {H' : Hp} {s' : Shared}, Inv (blk X scope cl C s3 H2 (D :: fp)) (((X.pn ++ pins) ++ [(D, { cls := .type "list", data := .seq its nn })]) ++ pinsAt fp s8.heap) σ' H' s' → tn (i + 1) s'.heap ∧ (∀ b ∈ fp, H' b = none) := fun {σ' H' s'} I' =>
        ⟨T.keep _ _ _ st8 fun b hb o e => (I'.pin (b, o) (List.mem_append_right _ (List.mem_append_right _ (mem_pinsAt hb e)))).1, fun b hb => by
          obtain ⟨o, e, d⟩ := T.obj _ _ st8 b hb
          exact (I'.pin (b, o) (List.mem_append_right _ (List.mem_append_right _ (mem_pinsAt hb e)))).2.1⟩
      cases ok with
      | false =>
        obtain ⟨m', hm, w10⟩ := hN ys H10 q10
        obtain ⟨k1, k2⟩ := keepT I10
        obtain ⟨p1, p2, _⟩ := I10.pin _ memD
        exact ⟨m', hm, i + 1, H10, ys, its, nn, I10.unpinned.unpinned.weak (by rw [clr_length]; exact hE.1.symm) hE.2, k1, k2, p2, p1, rv6, hz6, w10⟩
      | true =>
        refine thn (he cl C s3 H2 (D :: fp) _ s10 σ9 H10 _ I10 q10) fun vv s11 ⟨v, H11, I11, r11, n11⟩ => ?_
        obtain ⟨m', hm, w11⟩ := hN _ _ n11
        obtain ⟨k1, k2⟩ := keepT I11
        obtain ⟨p1, p2, _⟩ := I11.pin _ memD
        have hlen : ys.length = its.size := by have := rv6.length; simpa using this
        refine call_meets PySem.F.slot_list_append ⟨_, p1, rfl⟩ PySem.F.entry_list_append (PySem.F.args_list_append_2 _ _) (PySem.list_append D its nn vv (by omega)) ⟨p1, ?_⟩
        have q := PySem.IsL.update p1 fun xs => xs.push vv
        refine ⟨m', hm, i + 1, H11, ys ++ [v], its.push vv, _, (I11.unpinned.unpinned.weak (by rw [clr_length]; exact hE.1.symm) hE.2).turned (fun b o hb e => (Heap.get?_update_other _ _ (Ne.symm hb)).trans e) p2 hDC (.inl List.mem_cons_self) (fun x c e z => fD.2.2.2.2.1 x c (csound x c e) z) (fun p hp => (outP p hp).2.2), ?_, k2, p2, q, ?_, ?_, w11⟩
        · refine T.keep _ _ _ k1 fun b hb o e => (Heap.get?_update_other _ _ ?_).trans e
          intro z
          exact hDfp (by rw [z]; exact hb)
        · have : (its.push vv).toList = its.toList ++ [vv] := by simp
          rw [this]
          exact rv6.append (.cons r11 .nil)
        · rw [List.length_append, List.length_singleton]
          omega
  have hCC' : (s2.heap.push { cls := .type "list", dict := none, data := .seq ([] : List Value).toArray }).objs.size = C := by rw [← s3h]; exact hCC
  rw [hCC']
  exact codeAny_compStart_list (start _ (by rw [← hs3])) (T.self _ 0 _ _ _ (T.keep _ _ _ st2 (fun b hb o e => old _ _ (by rw [s3h]; exact Heap.get?_push_of_some _ e))) (start _ (by rw [← hs3])))
theorem pe_comp {tg iter elt : Expr} {ifs : List Expr} {scope : Scope} {pos : Pos} {ks : List Nat} {wi : TI} {g : TG} {tc : TT} {te : TE} (S : CScope X ks scope) (hc : X.calm = true) (hit : PI X tg iter wi)
    (hg : ∀ cl C s₀ H₀ ex, PG (blk X scope cl C s₀ H₀ ex) tg g) (hi : ∀ cl C s₀ H₀ ex, PIf (blk X scope cl C s₀ H₀ ex) ifs tc) (he : ∀ cl C s₀ H₀ ex, PE (blk X scope cl C s₀ H₀ ex) elt te)
    (hs : ∀ x, foldedSetIterable iter X.env x = pure x := by intro _; rfl) : PE X (.ListComp elt [⟨tg, iter, ifs, 0⟩] scope pos) (tComp ks wi g tc te) := by
  intro pins s σ H Q I h
  rw [eval_ListComp]
  refine wpAny_comprehension_free (use := none) rfl hs (closFor_of fun x hx hk => I.ok.has x.1 (S.free x hx hk)) S.kind S.names (thn (hit pins s σ H _ I h) fun v s1 h1 => thn h1 fun itv s2 h2 => ?_)
  refine blk_run (RR := fun acc C => compPost (model X.prog X.w) X.A X.xe none (EP X pins σ Q) acc C) S hc hg hi he h2 ?_
  rintro D C s' H' I' ⟨m, hn⟩ f q
  exact ⟨m, hn, fun h'' sb => ⟨.ref D, H', I'.turned (t' := s'.toks) (fun b o hb e => (sb.2 b hb).trans e) f.1 f.2.1 f.2.2.2.1 f.2.2.2.2.1 f.2.2.2.2.2, rfl, q⟩⟩
theorem ps_setComp {i : Nat} {y : Str} {py spos : Pos} {tg iter elt : Expr} {ifs : List Expr} {scope : Scope} {pos : Pos} {ks : List Nat} {wi : TI} {g : TG} {tc : TT} {te : TE} (hN : X.N.Nodup) (hi' : X.N[i]? = some y) (hy : Loc X.env.scope y)
    (S : CScope X ks scope) (hc : X.calm = true) (hit : PI X tg iter wi)
    (hg : ∀ cl C s₀ H₀ ex, PG (blk X scope cl C s₀ H₀ ex) tg g) (hi : ∀ cl C s₀ H₀ ex, PIf (blk X scope cl C s₀ H₀ ex) ifs tc) (he : ∀ cl C s₀ H₀ ex, PE (blk X scope cl C s₀ H₀ ex) elt te)
    (hsw : swapsWith (.ListComp elt [⟨tg, iter, ifs, 0⟩] scope pos) (some (.Name y py)) spos.line X.env = pure true := by rfl)
    (hs : ∀ x, foldedSetIterable iter X.env x = pure x := by intro _; rfl) (hf : X.fn y = true ∨ X.env.scope.names.lookup y = some .local := by first | exact .inl rfl | exact .inr rfl | assumption) :
    PS X (.Assign [.Name y py] (.ListComp elt [⟨tg, iter, ifs, 0⟩] scope pos) spos) (tSetComp i ks wi g tc te) := by
  intro pins s σ H D I h
  rw [exec_Assign_Name_used _ _ _ _ hsw]
  refine wpAny_bind (wpAny_standAt (wpAny_bind ?_))
  show wpAny _ X.A (do let _ ← comprehension (.ListComp elt [⟨tg, iter, ifs, 0⟩] scope pos) scope X.env _ (newList []) false (eval iter X.env) (some (assign (.Name y py) X.env))) _ _ s
  refine wpAny_bind (wpAny_mono (wpAny_comprehension_free (use := some (assign (.Name y py) X.env)) (Q := fun _ s' => SP X pins D .next s') rfl hs (closFor_of fun x hx hk => I.ok.has x.1 (S.free x hx hk)) S.kind S.names
    (thn (hit pins s σ H _ I h) fun v s1 h1 => thn h1 fun itv s2 h2 => ?_)) (fun _ s' hq => wpAny_pure (wpAny_pure hq)) fun _ _ e => e)
  refine blk_run (RR := fun acc C => compPost (model X.prog X.w) X.A X.xe (some (assign (.Name y py) X.env)) (fun _ s' => SP X pins D .next s') acc C) S hc hg hi he h2 ?_
  rintro L C s' H' I' ⟨m, hn⟩ f q
  show wpAny _ _ (assign (.Name y py) X.env (.ref L)) _ _ s'
  refine wpAny_assign_Name (store_ok2 (v := .ref L) I' hN hi' hy rfl (fun s'' I'' hh => ?_) hf)
  obtain ⟨a, sb, ha⟩ := hh
  have hCa : C ≠ a := by
    rcases ha with e | e
    · rw [e]; exact f.2.1
    · exact fun z => f.2.2.2.2.1 y a e z.symm
  exact ⟨m, hn.sameBut sb hCa, fun h'' sb' => ⟨_, H', I''.turned (t' := s''.toks) (fun b o hb e => (sb'.2 b hb).trans e) f.1 f.2.1 f.2.2.2.1 f.2.2.2.2.1 f.2.2.2.2.2, q⟩⟩
end

/-! ### the forms one uses: a plain target in the slot k -/
theorem comp_list {K : PySem.W.Frag} {a : Addr} {xs : List V} {k : Nat} {tc : TT} {te : TE} {σ : St} {F : Addr → Hp → Prop} {H : Hp} (Pv : Nat → List V → Hp → Prop) (h0 : Pv 0 [] H) (hl : ∀ i ys H, i ≤ xs.length → Pv i ys H → SqL K H a xs ∧ ys.length ≤ i) (hz : xs.length ≤ sizeLine)
    (hs : ∀ i x ys H, xs[i]? = some x → Pv i ys H → tc (σ.set k (some x)) H fun b H3 => if b = true then te (σ.set k (some x)) H3 fun v H4 => Pv (i + 1) (ys ++ [v]) H4 else Pv (i + 1) ys H3)
    (hd : ∀ ys H, Pv xs.length ys H → ∀ D, H D = none → F D (upd H D (.lst ys))) : CGo [k] (gName k) tc te σ F (Itl K a) H := by
  refine ⟨fun i m ys H => m = xs.length - i ∧ i ≤ xs.length ∧ Pv i ys H, ⟨xs.length, by simp, Nat.zero_le _, h0⟩, ?_⟩
  rintro i m ys H ⟨rfl, hi, p⟩
  obtain ⟨q, hy⟩ := hl i ys H hi p
  by_cases hlt : i < xs.length
  · refine .inr ⟨⟨xs, xs[i], q, by simp [hlt]⟩, by omega, Pv (i + 1), fun ys' H' p' => ⟨xs.length - (i + 1), by omega, rfl, hlt, p'⟩, fun x H' y => ?_⟩
    obtain ⟨e, y⟩ := y
    subst e
    have z := hs i x ys _ (y xs q) p
    have es : (clr [k] σ).set k (some x) = σ.set k (some x) := by
      show (σ.set k none).set k (some x) = _
      rw [List.set_set]
    have go : ∀ τ, τ = σ.set k (some x) → Ext [k] σ τ ∧ tc τ H' fun b H3 => if b = true then te τ H3 fun v H4 => Pv (i + 1) (ys ++ [v]) H4 else Pv (i + 1) ys H3 := by
      rintro τ rfl
      exact ⟨Ext.name, z⟩
    exact go _ es
  · have e : i = xs.length := by omega
    subst e
    exact .inl ⟨⟨xs, q, Nat.le_refl _⟩, hd ys H p⟩
theorem comp_range {lo : Int} {n : Nat} {k : Nat} {tc : TT} {te : TE} {σ : St} {F : Addr → Hp → Prop} {H : Hp} (Pv : Nat → List V → Hp → Prop) (h0 : Pv 0 [] H) (hl : ∀ i ys H, i ≤ n → Pv i ys H → ys.length ≤ i) (hz : n ≤ sizeLine)
    (hs : ∀ i ys H, i < n → Pv i ys H → tc (σ.set k (some (.int (lo + i)))) H fun b H3 => if b = true then te (σ.set k (some (.int (lo + i)))) H3 fun v H4 => Pv (i + 1) (ys ++ [v]) H4 else Pv (i + 1) ys H3)
    (hd : ∀ ys H, Pv n ys H → ∀ D, H D = none → F D (upd H D (.lst ys))) : CGo [k] (gName k) tc te σ F (Itr lo n) H := by
  refine ⟨fun i m ys H => m = n - i ∧ i ≤ n ∧ Pv i ys H, ⟨n, by simp, Nat.zero_le _, h0⟩, ?_⟩
  rintro i m ys H ⟨rfl, hi, p⟩
  have hy := hl i ys H hi p
  by_cases hlt : i < n
  · refine .inr ⟨hlt, by omega, Pv (i + 1), fun ys' H' p' => ⟨n - (i + 1), by omega, rfl, hlt, p'⟩, fun x H' y => ?_⟩
    obtain ⟨e, y⟩ := y
    subst e y
    have z := hs i ys _ hlt p
    have es : (clr [k] σ).set k (some (.int (lo + i))) = σ.set k (some (.int (lo + i))) := by
      show (σ.set k none).set k _ = _
      rw [List.set_set]
    have go : ∀ τ, τ = σ.set k (some (.int (lo + i))) → Ext [k] σ τ ∧ tc τ H' fun b H3 => if b = true then te τ H3 fun v H4 => Pv (i + 1) (ys ++ [v]) H4 else Pv (i + 1) ys H3 := by
      rintro τ rfl
      exact ⟨Ext.name, z⟩
    exact go _ es
  · have e : i = n := by omega
    subst e
    exact .inl ⟨Nat.le_refl _, hd ys H p⟩
end L2

/-! EXTENSION 6: max, min, sorted, list of a list of ints; [::-1]; == of two lists or tuples of flat values -/
namespace L2
open PySem PySem.Spec PyProof.Rows
section
variable {X : Cx}
theorem call_maxL (hc : X.calm = true) : CallR X (.builtin "max") (fun xs H Q => ∃ (p : Addr) (ns : List Int), xs = [.ref p] ∧ SqL X.K H p (ns.map V.int) ∧ ns ≠ [] ∧ ∀ M, M ∈ ns → (∀ a ∈ ns, a ≤ M) → Q (.int M) H) := by
  intro pins s σ H xs us Q I r h
  obtain ⟨p, ns, rfl, hp, hne, q⟩ := h
  obtain ⟨u, rfl, ru⟩ := r.one
  obtain rfl : u = Value.ref p := ru
  obtain ⟨its, rv, pl, _⟩ := I.list hp
  have hi : IntsAre its ns := intsAre_of rv
  have hl := pl.isList
  obtain ⟨xs, e⟩ := hi.allInts.items
  have hns : ns = xs.toList.map (·.1) := by
    rw [← hi.numsOf, ← nums_intItems, ← e]
  have hsz : 0 < xs.size := by
    have h3 := List.length_pos_iff.mpr hne
    rw [hns, List.length_map, Array.length_toList] at h3
    exact h3
  rw [e] at hl
  refine max_intList (I.ok.hd hc) hl hsz fun v h' tk hv hk => ?_
  obtain ⟨t, rfl⟩ := intItems_at hv
  obtain ⟨h1, h2⟩ := argBest_gt (numAt xs) (xs.size - 1)
  refine ⟨.int _, H, I.kept hk, ⟨t, rfl⟩, q _ ?_ fun a ha => ?_⟩
  · rw [hns, numAt_eq]; exact getD_mem (by rw [List.length_map, Array.length_toList]; omega)
  · rw [hns] at ha
    obtain ⟨j, hj, rfl⟩ := mem_getD ha
    rw [List.length_map, Array.length_toList] at hj
    rw [← numAt_eq]; exact h2 j (by omega)
theorem call_minL (hc : X.calm = true) : CallR X (.builtin "min") (fun xs H Q => ∃ (p : Addr) (ns : List Int), xs = [.ref p] ∧ SqL X.K H p (ns.map V.int) ∧ ns ≠ [] ∧ ∀ M, M ∈ ns → (∀ a ∈ ns, M ≤ a) → Q (.int M) H) := by
  intro pins s σ H xs us Q I r h
  obtain ⟨p, ns, rfl, hp, hne, q⟩ := h
  obtain ⟨u, rfl, ru⟩ := r.one
  obtain rfl : u = Value.ref p := ru
  obtain ⟨its, rv, pl, _⟩ := I.list hp
  have hi : IntsAre its ns := intsAre_of rv
  have hl := pl.isList
  obtain ⟨xs, e⟩ := hi.allInts.items
  have hns : ns = xs.toList.map (·.1) := by
    rw [← hi.numsOf, ← nums_intItems, ← e]
  have hsz : 0 < xs.size := by
    have h3 := List.length_pos_iff.mpr hne
    rw [hns, List.length_map, Array.length_toList] at h3
    exact h3
  rw [e] at hl
  refine min_intList (I.ok.hd hc) hl hsz fun v h' tk hv hk => ?_
  obtain ⟨t, rfl⟩ := intItems_at hv
  obtain ⟨h1, h2⟩ := argBest_lt (numAt xs) (xs.size - 1)
  refine ⟨.int _, H, I.kept hk, ⟨t, rfl⟩, q _ ?_ fun a ha => ?_⟩
  · rw [hns, numAt_eq]; exact getD_mem (by rw [List.length_map, Array.length_toList]; omega)
  · rw [hns] at ha
    obtain ⟨j, hj, rfl⟩ := mem_getD ha
    rw [List.length_map, Array.length_toList] at hj
    rw [← numAt_eq]; exact h2 j (by omega)
/-- sorted of a short list of ints -/
theorem call_sortedI : CallR X (.builtin "sorted") (fun xs H Q => ∃ (p : Addr) (ns : List Int), xs = [.ref p] ∧ SqL X.K H p (ns.map V.int) ∧ ns.length < 64 ∧ ∀ (l : Addr) (ms : List Int), H l = none → ms.Perm ns → ms.Pairwise (· ≤ ·) → Q (.ref l) (upd H l (.lst (ms.map V.int)))) := by
  intro pins s σ H xs us Q I r h
  obtain ⟨p, ns, rfl, hp, h64, q⟩ := h
  obtain ⟨u, rfl, ru⟩ := r.one
  obtain rfl : u = Value.ref p := ru
  obtain ⟨its, rv, pl, hz⟩ := I.list hp
  have hi : IntsAre its ns := intsAre_of rv
  have hlen := rv.length
  rw [List.length_map] at hlen
  refine sorted_ints pl.isList hi (by omega) fun out ns' a1 a2 a3 => ?_
  obtain ⟨e, he⟩ := sortedAll_at s.heap its out
  have hl' : ns'.length = ns.length := a2.length_eq
  refine ⟨.ref (s.heap.objs.size + 1), _, I.laid (t' := s.toks) (fun _ _ => sortedAll_old) (Nat.le_succ _) ?_, rfl, q _ ns' (I.hok.fresh (Nat.le_succ _)) a2 a3⟩
  refine ⟨?_, out.toList, e, vals_ints a1, ?_⟩
  · rw [List.length_map] at hz ⊢
    omega
  · rw [he]
    try rfl
/-- xs[::-1] -/
def tRev (K : PySem.W.Frag) (te : TE) (ts : TO) : TE := fun σ H Q => te σ H fun x H1 => ts σ H1 fun k H2 => k = some (-1) ∧ ∃ a xs, x = .ref a ∧ SqL K H2 a xs ∧ ∀ p, H2 p = none → Q (.ref p) (upd H2 p (.lst xs.reverse))
theorem pe_rev {e st : Expr} {te : TE} {ts : TO} {pos p2 : Pos} (he : PE X e te) (hst : PO X (some st) ts) (hops : ∀ o i, subscripted (.Slice none none (some st) p2) false o i = operate [o, i] (getItem o i) := by intros; rfl) : PE X (.Subscript e (.Slice none none (some st) p2) pos) (tRev X.K te ts) := by
  intro pins s σ H Q I h
  refine Subscript_ (thn (he pins s σ H _ I h) fun v s1 ⟨x, H1, I1, r1, q1⟩ => ?_)
  refine wpAny_Slice ?_
  rw [evalPart_none]
  refine wpAny_pure (wpAny_pure (thn (hst pins s1 σ H1 _ I1 q1) fun vs s2 ⟨k, H2, I2, pk, hk, a, xs, ex, hx, q⟩ => ?_))
  subst ex
  subst hk
  cases r1
  have I3 : Inv X pins σ H2 { s2 with heap := s2.heap.push { cls := .type "slice", data := .fields #[.none, .none, vs] } } := I2.kept (t' := s2.toks) fun b ob q => Heap.get?_push_of_some _ q
  obtain ⟨its, rv, pl, hz⟩ := I3.list hx
  have hlen := rv.length
  show wpAny (model X.prog X.w) X.A (subscriptTail e (.Slice none none (some st) p2) (.ref a) (.ref s2.heap.objs.size)) (EP X pins σ Q) X.xe { s2 with heap := s2.heap.push { cls := .type "slice", data := .fields #[.none, .none, vs] } }
  refine tail_any (ops := [.ref a, .ref s2.heap.objs.size]) pl.isList.typeIs slot_list_getitem.lookup (wpAny_getItem_list_slice pl.isList (Heap.IsSliceOf.new ..) .none .none pk (by decide) ?_ (by rw [List.size_toArray]; omega)) (hops _ _)
  rw [PySem.W.krv_pick]
  have e2 : its.toArray.toList.reverse.toArray = its.reverse.toArray := by simp
  rw [e2]
  refine ⟨.ref _, _, I3.laid (t' := s2.toks) (o := .lst xs.reverse) (fun b ob q => Heap.get?_push_of_some _ q) (Nat.le_refl _) ?_, rfl, q _ (I3.hok.fresh (Nat.le_refl _))⟩
  exact ⟨by rw [List.length_reverse]; exact hz, _, 0, rv.reverse, Heap.get?_push_size _ rfl⟩
/-! ### == of two lists, of two tuples -/
def eqVs : List V → List V → Bool
  | [], [] => true
  | x :: xs, y :: ys => eqV x y && eqVs xs ys
  | _, _ => false
end
theorem eqVs_range : ∀ (xs ys : List V), xs.length = ys.length → ((List.range xs.length).all fun j => eqV (xs.getD j .non) (ys.getD j .non)) = eqVs xs ys
  | [], [], _ => rfl
  | x :: xs, y :: ys, h => by
    have h' : xs.length = ys.length := by simpa using h
    have ih := eqVs_range xs ys h'
    show (List.range (xs.length + 1)).all _ = _
    rw [List.range_succ_eq_map, List.all_cons, List.all_map]
    show (eqV x y && _) = (eqV x y && eqVs xs ys)
    rw [← ih]
    rfl
  | [], _ :: _, h => by simp at h
  | _ :: _, [], h => by simp at h
theorem eqVs_len : ∀ (xs ys : List V), xs.length ≠ ys.length → eqVs xs ys = false
  | [], [], h => absurd rfl h
  | [], _ :: _, _ => rfl
  | _ :: _, [], _ => rfl
  | x :: xs, y :: ys, h => by
    show (eqV x y && eqVs xs ys) = false
    rw [eqVs_len xs ys (by simpa using h), Bool.and_false]
def rEqSeq (K : PySem.W.Frag) : R2 := fun x y H Q => ∃ p q xs ys, x = .ref p ∧ y = .ref q ∧ ((SqL K H p xs ∧ SqL K H q ys) ∨ (SqT K H p xs ∧ SqT K H q ys)) ∧ xs.all flatV = true ∧ ys.all flatV = true ∧ Q (.bl (eqVs xs ys)) H
theorem items_eqAt {A : Around} {s : Shared} {xs ys : List V} {us ws : List Value} (r : Vals xs us) (r' : Vals ys ws) (fx : xs.all flatV = true) (fy : ys.all flatV = true) (j : Nat) (h1 : j < us.length) (h2 : j < ws.length) :
    SeqAt.EqAt A s us[j] ws[j] (eqV (xs.getD j .non) (ys.getD j .non)) := by
  have l1 := r.length
  have l2 := r'.length
  have e1 : xs[j]? = some xs[j] := List.getElem?_eq_getElem (by omega)
  have e2 : ys[j]? = some ys[j] := List.getElem?_eq_getElem (by omega)
  obtain ⟨u, hu, ru⟩ := r.get e1
  obtain ⟨v, hv, rv⟩ := r'.get e2
  rw [List.getElem?_eq_getElem h1] at hu
  rw [List.getElem?_eq_getElem h2] at hv
  rw [Option.some.inj hu, Option.some.inj hv]
  have g1 : xs.getD j .non = xs[j] := by rw [List.getD_eq_getElem?_getD, e1]; rfl
  have g2 : ys.getD j .non = ys[j] := by rw [List.getD_eq_getElem?_getD, e2]; rfl
  rw [g1, g2]
  exact eqAt_V ru rv (List.all_eq_true.mp fx _ (List.getElem_mem _)) (List.all_eq_true.mp fy _ (List.getElem_mem _))
section
variable {X : Cx}
theorem op_eqSeq (hu : X.A.units < cLine) : OpR X (compareOp .Eq) (rEqSeq X.K) := by
  intro pins s σ H x y v u Q I rx ry h
  obtain ⟨p, q, xs, ys, rfl, rfl, hs, fx, fy, hq⟩ := h
  cases rx
  cases ry
  have fin : EP X pins σ Q (.bool (eqVs xs ys)) s := ⟨.bl _, H, I, rfl, hq⟩
  rcases hs with ⟨h1, h2⟩ | ⟨h1, h2⟩
  · obtain ⟨its, r1, p1, _⟩ := I.list h1
    obtain ⟨jts, r2, p2, _⟩ := I.list h2
    have l1 := r1.length
    have l2 := r2.length
    by_cases hl : xs.length = ys.length
    · refine SeqAt.eq_listAt (e := fun j => eqV (xs.getD j .non) (ys.getD j .non)) p1.isList p2.isList (by simp only [List.size_toArray]; omega) hu (fun j h1 h2 => ?_) ?_
      · simp only [List.size_toArray] at h1 h2
        simp only [List.getElem_toArray]
        exact items_eqAt r1 r2 fx fy j h1 h2
      · rw [List.size_toArray, ← l1, eqVs_range xs ys hl]
        exact fin
    · refine SeqAt.eq_list_lengthsAt p1.isList p2.isList (by simp only [List.size_toArray, bne_iff_ne, ne_eq]; omega) hu ?_
      rw [eqVs_len xs ys hl] at fin
      exact fin
  · obtain ⟨its, r1, p1, _⟩ := I.tuple h1
    obtain ⟨jts, r2, p2, _⟩ := I.tuple h2
    have l1 := r1.length
    have l2 := r2.length
    refine SeqAt.eq_tupleAt (e := fun j => eqV (xs.getD j .non) (ys.getD j .non)) (show s.heap.IsTuple p its.toArray from p1) (show s.heap.IsTuple q jts.toArray from p2) hu (fun j h1 h2 => ?_) ?_
    · simp only [List.size_toArray] at h1 h2
      simp only [List.getElem_toArray]
      exact items_eqAt r1 r2 fx fy j h1 h2
    · simp only [List.size_toArray]
      by_cases hl : xs.length = ys.length
      · have e : (its.length == jts.length) = true := by rw [beq_iff_eq]; omega
        rw [e, Bool.and_true, show min its.length jts.length = xs.length by omega, eqVs_range xs ys hl]
        exact fin
      · have e : (its.length == jts.length) = false := by rw [beq_eq_false_iff_ne]; omega
        rw [e, Bool.and_false]
        rw [eqVs_len xs ys hl] at fin
        exact fin
end
/-- of ints -/
theorem eqVs_ints : ∀ xs ys : List Int, eqVs (xs.map V.int) (ys.map V.int) = decide (xs = ys)
  | [], [] => rfl
  | [], _ :: _ => rfl
  | _ :: _, [] => rfl
  | x :: xs, y :: ys => by
    show (eqV (.int x) (.int y) && eqVs (xs.map V.int) (ys.map V.int)) = _
    rw [eqVs_ints xs ys]
    show ((x == y) && _) = _
    rw [Bool.eq_iff_iff]
    simp
theorem flat_ints (xs : List Int) : (xs.map V.int).all flatV = true := by
  rw [List.all_eq_true]
  intro v hv
  obtain ⟨i, _, rfl⟩ := List.mem_map.mp hv
  rfl
end L2

/-! EXTENSION 5: texts -/
namespace L2
open PySem PySem.Spec PyProof.Rows
/-- the signs of a text, one by one -/
def Its (z : Str) : It := ⟨fun i _ => i < z.cps.size, fun i H x H' => H' = H ∧ ∃ c, z.cps[i]? = some c ∧ x = .str ⟨#[c]⟩, fun i _ => z.cps.size ≤ i⟩
theorem go_str {M : Model} {A : Around} {E : Value → Shared → Prop} {s : Shared} {tg : Expr} {it : Addr} {x : Str} {t : Tok} {Q : Unit → Shared → Prop} (hQ : Q () s) : wpAny M A (letOwnedTupleGo tg (.ref it) (.str x t)) Q E s := by
  unfold letOwnedTupleGo
  cases tg <;> exact wpAny_pure hQ
theorem turn_ascii {P : Program} {w : World} {K : PySem.W.Frag} {tg : Expr} (it : Addr) (z : Str) (t : Tok) : Turn P w K tg (Its z) [it] it (fun i h => h.IsStrIter it "str_ascii_iterator" z t i) where
  mem := by simp
  obj := fun i h st b hb => by
    have e : b = it := by simpa using hb
    subst e
    obtain ⟨o, e, c, d⟩ := st
    exact ⟨o, e, fun v q => by rw [d] at q; cases q⟩
  keep := fun i h h' st k => let ⟨o, e, r⟩ := st; ⟨o, k it (by simp) o e, r⟩
  item := by
    intro X hP hw hK hc i pins s σ H E I hf st hg
    subst hP hw hK
    obtain ⟨f0, f1, f2, f3, f4, f5⟩ := hf it (by simp)
    have hg' : i < z.cps.size := hg
    refine wpAny_pyNext_ascii_item st (c := z.cps[i]) (by simp [hg']) fun h' hit' hs' => ?_
    have I1 : Inv X pins σ H { s with heap := h', toks := s.toks + 1 } := I.turned (fun b o hb e => hs'.extBut b o hb e) f0 f1 f3 f4 f5
    exact ⟨_, rfl, go_str ⟨.str ⟨#[z.cps[i]]⟩, H, I1, ⟨_, rfl⟩, ⟨rfl, _, by simp [hg'], rfl⟩, hit', fun b hb => (hf b hb).1⟩⟩
  done := by
    intro X hP hw hK hc i pins s σ H E I hf st hg
    subst hP hw hK
    obtain ⟨f0, f1, f2, f3, f4, f5⟩ := hf it (by simp)
    have hg' : z.cps.size ≤ i := hg
    exact wpAny_pyNext_ascii_end (I.ok.hd hc) st (by simp [hg']) fun h' he' => ⟨rfl, I.turned (t' := s.toks) (fun b o hb e => he' b o hb e) f0 f1 f3 f4 f5⟩
  self := fun _ _ _ _ _ st h => wpAny_pyIter_striter_ascii st h
theorem turn_wide {P : Program} {w : World} {K : PySem.W.Frag} {tg : Expr} (it : Addr) (z : Str) (t : Tok) : Turn P w K tg (Its z) [it] it (fun i h => h.IsStrIter it "str_iterator" z t i) where
  mem := by simp
  obj := fun i h st b hb => by
    have e : b = it := by simpa using hb
    subst e
    obtain ⟨o, e, c, d⟩ := st
    exact ⟨o, e, fun v q => by rw [d] at q; cases q⟩
  keep := fun i h h' st k => let ⟨o, e, r⟩ := st; ⟨o, k it (by simp) o e, r⟩
  item := by
    intro X hP hw hK hc i pins s σ H E I hf st hg
    subst hP hw hK
    obtain ⟨f0, f1, f2, f3, f4, f5⟩ := hf it (by simp)
    have hg' : i < z.cps.size := hg
    refine wpAny_pyNext_wide_item st (c := z.cps[i]) (by simp [hg']) fun h' hit' hs' => ?_
    have I1 : Inv X pins σ H { s with heap := h', toks := s.toks + 1 } := I.turned (fun b o hb e => hs'.extBut b o hb e) f0 f1 f3 f4 f5
    exact ⟨_, rfl, go_str ⟨.str ⟨#[z.cps[i]]⟩, H, I1, ⟨_, rfl⟩, ⟨rfl, _, by simp [hg'], rfl⟩, hit', fun b hb => (hf b hb).1⟩⟩
  done := by
    intro X hP hw hK hc i pins s σ H E I hf st hg
    subst hP hw hK
    obtain ⟨f0, f1, f2, f3, f4, f5⟩ := hf it (by simp)
    have hg' : z.cps.size ≤ i := hg
    exact wpAny_pyNext_wide_end (I.ok.hd hc) st (by simp [hg']) fun h' he' => ⟨rfl, I.turned (t' := s.toks) (fun b o hb e => he' b o hb e) f0 f1 f3 f4 f5⟩
  self := fun _ _ _ _ _ st h => wpAny_pyIter_striter_wide st h
section
variable {X : Cx}
def iStr (tl : TE) : TI := fun σ H R => tl σ H fun x H1 => ∃ z, x = .str z ∧ R (Its z) H1
theorem pi_str {tg l : Expr} {tl : TE} (hl : PE X l tl) : PI X tg l (iStr tl) := by
  intro pins s σ H R I h
  refine thn (hl pins s σ H _ I h) fun v s1 ⟨x, H1, I1, r1, q1⟩ => ?_
  obtain ⟨z, e, q⟩ := q1
  subst e
  obtain ⟨t, rfl⟩ := r1
  have fp : ∀ b ∈ [s1.heap.objs.size], FpOk X pins H1 b := fun b hb => by
    have e : b = s1.heap.objs.size := by simpa using hb
    subst e
    exact I1.fpOk (Nat.le_refl _) (I1.hok.fresh (Nat.le_refl _))
  cases ha : z.cps.all (· < 128)
  · exact wpAny_pyIter_wide ha ⟨s1.heap.objs.size, [s1.heap.objs.size], _, _, H1, rfl, I1.kept (t' := s1.toks) fun b o e => Heap.get?_push_of_some _ e, turn_wide _ z t, ⟨_, Heap.get?_push_size _ rfl, rfl, rfl⟩, fp, q⟩
  · exact wpAny_pyIter_ascii ha ⟨s1.heap.objs.size, [s1.heap.objs.size], _, _, H1, rfl, I1.kept (t' := s1.toks) fun b o e => Heap.get?_push_of_some _ e, turn_ascii _ z t, ⟨_, Heap.get?_push_size _ rfl, rfl, rfl⟩, fp, q⟩
/-- a cut of a text -/
def rSlS : V → Option Int → Option Int → Hp → VK → Prop := fun x lo hi H Q => ∃ z, x = .str z ∧ z.length ≤ sizeLine ∧ Q (.str (Txt.slice z lo hi)) H
theorem sl_str : SlR X rSlS := by
  intro pins s σ H x v vl vu lo hi sl Q I rx hs pl pu h
  obtain ⟨z, rfl, hz, q⟩ := h
  obtain ⟨t, rfl⟩ := rx
  refine ⟨"str", _, F.slot_str_getitem.lookup, typeIs_str s z t, ?_⟩
  obtain ⟨o, e, c, d⟩ := hs
  have go : ∀ (l u : Option (Int × Tok)), vl = partValue l → vu = partValue u → lo = l.map (·.1) → hi = u.map (·.1) → wpAny (model X.prog X.w) X.A (getItem (.str z t) (.ref sl)) (EP X pins σ Q) X.xe s := by
    rintro l u rfl rfl rfl rfl
    refine wpAny_getItem_str_slice (l := l) (u := u) (st := none) ⟨o, e, c, d⟩ rfl ?_
    unfold sliceMade
    unfold Txt.slice at q
    have e1 : ((((none : Option (Int × Tok)).map (·.1)).getD 1 == 1 && (slicePicked z l u none).length == z.length) = true) = (((1 : Int) == 1 && (Builtin.Str.strSliceIndices (l.map (·.1)) (u.map (·.1)) 1 z.length).length == z.length) = true) := rfl
    split
    · rename_i hh
      rw [if_pos (e1 ▸ hh)] at q
      exact ⟨.str z, H, I, ⟨t, rfl⟩, q⟩
    · rename_i hh
      rw [if_neg (e1 ▸ hh)] at q
      refine ⟨Nat.le_trans (Nat.le_trans (List.length_filterMap_le _ _) (sliceIndices_le _ _ _)) hz, .str _, H, I.tok _, ⟨_, rfl⟩, q⟩
  cases pl with
  | none =>
    cases pu with
    | none => exact go none none rfl rfl rfl rfl
    | int j u => exact go none (some (j, u)) rfl rfl rfl rfl
  | int i t' =>
    cases pu with
    | none => exact go (some (i, t')) none rfl rfl rfl rfl
    | int j u => exact go (some (i, t')) (some (j, u)) rfl rfl rfl rfl
def rStarts : V → List V → Hp → VK → Prop := fun x vs H Q => ∃ z y, x = .str z ∧ vs = [.str y] ∧ Q (.bl (Txt.startswith z y)) H
theorem mt_startswith : MtR X "str.startswith" rStarts := by
  intro pins s σ H x xs v us Q I rx rv h
  obtain ⟨z, y, rfl, rfl, q⟩ := h
  obtain ⟨t, rfl⟩ := rx
  obtain ⟨u, rfl, t', rfl⟩ := rv.one
  exact SC.startswith ⟨.bl _, H, I, rfl, q⟩
theorem vals_strs : ∀ {ys : List Str} {us : List Value}, Vals (ys.map V.str) us → StrsAre us ys
  | [], _, .nil => .nil
  | y :: ys, _, .cons r t => by
    obtain ⟨k, rfl⟩ := r
    exact .cons _ _ (vals_strs t)
def rJoin (K : PySem.W.Frag) : V → List V → Hp → VK → Prop := fun x vs H Q => ∃ (z : Str) (p : Addr) (ys : List Str), x = .str z ∧ vs = [.ref p] ∧ SqL K H p (ys.map V.str) ∧ (ys.map (·.length)).sum + ys.length * z.length ≤ 16777216 ∧ Q (.str (Txt.join z ys)) H
theorem mt_join : MtR X "str.join" (rJoin X.K) := by
  intro pins s σ H x xs v us Q I rx rv h
  obtain ⟨z, p, ys, rfl, rfl, hp, hz, q⟩ := h
  obtain ⟨t, rfl⟩ := rx
  obtain ⟨u, rfl, ru⟩ := rv.one
  obtain rfl : u = Value.ref p := ru
  obtain ⟨its, r, pl, _⟩ := I.list hp
  exact join_list pl.isList (by simpa using vals_strs r) hz fun t' k => ⟨.str _, H, I.tok _, ⟨_, rfl⟩, q⟩
end
end L2

/-! EXTENSION 3: one rule for each form of the text, whatever the kinds; and how each reading is gone through -/
namespace L2
open PySem PySem.Spec PyProof.Rows
section
variable {X : Cx}
def rAddS : R2 := fun x y H Q => ∃ i j, x = .str i ∧ y = .str j ∧ i.length + j.length ≤ sizeLine ∧ Q (.str (i ++ j)) H
def rAddU (K : PySem.W.Frag) : R2 := fun x y H Q => rI0 (fun i j => .int (i + j)) x y H Q ∨ rAddS x y H Q ∨ rCat x y H Q ∨ rCatT K x y H Q
theorem op_addU : OpR X (binaryOp .Add) (rAddU X.K) := op_add.or (op_add_str.or (op_cat.or op_catT))
def rMulU : R2 := fun x y H Q => rMul x y H Q ∨ rRep x y H Q
theorem op_mulU : OpR X (binaryOp .Mult) rMulU := op_mulB.or op_rep
abbrev rLtI : R2 := rI0 fun i j => .bl (decide (i < j))
theorem op_ltU : OpR X (compareOp .Lt) rLtI := op_lt
abbrev rEqU : R2 := rEq
theorem op_eqU : OpR X (compareOp .Eq) rEqU := op_eq
abbrev rNeU : R2 := rNe
theorem op_neU : OpR X (compareOp .NotEq) rNeU := op_ne
def rSlU (K : PySem.W.Frag) : V → Option Int → Option Int → Hp → VK → Prop := fun x lo hi H Q => rSlL K x lo hi H Q ∨ rSlT K x lo hi H Q
theorem sl_U : SlR X (rSlU X.K) := SlR.or sl_list sl_tup
def rLen (K : PySem.W.Frag) : List V → Hp → VK → Prop := fun xs H Q => ∃ x n, xs = [x] ∧ LenV K x H n ∧ Q (.int n) H
theorem call_lenU : CallR X (.builtin "len") (rLen X.K) := call_len
def rAbs : List V → Hp → VK → Prop := fun xs H Q => ∃ i, xs = [.int i] ∧ Q (.int (if i < 0 then -i else i)) H
theorem call_absU : CallR X (.builtin "abs") rAbs := call_abs
def rDivmod : List V → Hp → VK → Prop := fun xs H Q => ∃ i j, xs = [.int i, .int j] ∧ CDiv i j ∧ ∀ p, H p = none → Q (.ref p) (upd H p (.tup [.int (i / j), .int (i % j)]))
theorem call_divmodU : CallR X (.builtin "divmod") rDivmod := call_divmod
def rIsi (K : PySem.W.Frag) : List V → Hp → VK → Prop := fun xs H Q => ∃ x T tx b, xs = [x, .ty T] ∧ TyN K H x tx ∧ IsiR tx T b ∧ Q (.bl b) H
theorem call_isinstanceU : CallR X (.builtin "isinstance") (rIsi X.K) := call_isi
def rAll (K : PySem.W.Frag) : List V → Hp → VK → Prop := fun xs H Q => ∃ (p : Addr) (bs : List Bool), xs = [.ref p] ∧ SqL K H p (bs.map V.bl) ∧ Q (.bl (bs.all id)) H
theorem call_allU (hc : X.calm = true := by rfl) : CallR X (.builtin "all") (rAll X.K) := call_all hc
def rAny (K : PySem.W.Frag) : List V → Hp → VK → Prop := fun xs H Q => ∃ (p : Addr) (bs : List Bool), xs = [.ref p] ∧ SqL K H p (bs.map V.bl) ∧ Q (.bl (bs.any id)) H
theorem call_anyU (hc : X.calm = true := by rfl) : CallR X (.builtin "any") (rAny X.K) := call_any hc
def rMax2 : List V → Hp → VK → Prop := fun xs H Q => ∃ i j, xs = [.int i, .int j] ∧ Q (.int (if j > i then j else i)) H
def rMin2 : List V → Hp → VK → Prop := fun xs H Q => ∃ i j, xs = [.int i, .int j] ∧ Q (.int (if j < i then j else i)) H
def rMaxL (K : PySem.W.Frag) : List V → Hp → VK → Prop := fun xs H Q => ∃ (p : Addr) (ns : List Int), xs = [.ref p] ∧ SqL K H p (ns.map V.int) ∧ ns ≠ [] ∧ ∀ M, M ∈ ns → (∀ a ∈ ns, a ≤ M) → Q (.int M) H
def rMinL (K : PySem.W.Frag) : List V → Hp → VK → Prop := fun xs H Q => ∃ (p : Addr) (ns : List Int), xs = [.ref p] ∧ SqL K H p (ns.map V.int) ∧ ns ≠ [] ∧ ∀ M, M ∈ ns → (∀ a ∈ ns, M ≤ a) → Q (.int M) H
def rMax (K : PySem.W.Frag) : List V → Hp → VK → Prop := fun xs H Q => rMax2 xs H Q ∨ rMaxL K xs H Q
def rMin (K : PySem.W.Frag) : List V → Hp → VK → Prop := fun xs H Q => rMin2 xs H Q ∨ rMinL K xs H Q
theorem call_maxU (hc : X.calm = true := by rfl) : CallR X (.builtin "max") (rMax X.K) := (call_max2 hc).or (call_maxL hc)
theorem call_minU (hc : X.calm = true := by rfl) : CallR X (.builtin "min") (rMin X.K) := (call_min2 hc).or (call_minL hc)
def iU (K : PySem.W.Frag) (tl : TE) : TI := fun σ H R => tl σ H fun x H1 => ∃ a, x = .ref a ∧ (((∃ xs, SqL K H1 a xs) ∧ R (Itl K a) H1) ∨ ((∃ xs, SqT K H1 a xs) ∧ R (Itt K a) H1))
theorem pi_U {tg l : Expr} {tl : TE} (hl : PE X l tl) : PI X tg l (iU X.K tl) := by
  intro pins s σ H R I h
  refine thn (hl pins s σ H _ I h) fun v s1 ⟨x, H1, I1, r1, q1⟩ => ?_
  obtain ⟨a, e, q⟩ := q1
  subst e
  cases r1
  rcases q with ⟨⟨xs, hq⟩, q⟩ | ⟨⟨xs, hq⟩, q⟩
  · obtain ⟨its, rv, p, hz⟩ := I1.list hq
    refine wpAny_pyIter_list p.isList ?_
    refine ⟨s1.heap.objs.size, [s1.heap.objs.size], _, _, H1, rfl, I1.kept (t' := s1.toks) fun b o e => Heap.get?_push_of_some _ e, turn_list a _, ⟨_, Heap.get?_push_size _ rfl, rfl, rfl⟩, fun b hb => ?_, q⟩
    have e : b = s1.heap.objs.size := by simpa using hb
    subst e
    exact I1.fpOk (Nat.le_refl _) (I1.hok.fresh (Nat.le_refl _))
  · obtain ⟨its, rv, p, hz⟩ := I1.tuple hq
    refine wpAny_pyIter_tuple (show s1.heap.IsTuple a its.toArray from p) ?_
    refine ⟨s1.heap.objs.size, [s1.heap.objs.size], _, _, H1, rfl, I1.kept (t' := s1.toks) fun b o e => Heap.get?_push_of_some _ e, turn_tuple a _, ⟨_, Heap.get?_push_size _ rfl, rfl, rfl⟩, fun b hb => ?_, q⟩
    have e : b = s1.heap.objs.size := by simpa using hb
    subst e
    exact I1.fpOk (Nat.le_refl _) (I1.hok.fresh (Nat.le_refl _))
theorem pe_ty {x : Str} {ty : String} {pos : Pos} (hm : X.mg x = none) (hv : bootBuiltins x = some (.type ty)) (hg : Gl X x := by rfl) (hn : x ≠ "__name__" := by decide) (hd : (x == ("__debug__" : Str)) = false := by decide) : PE X (.Name x pos) (tC (.ty ty)) :=
  pe_bltn (v := .ty ty) hg hm hv rfl hn hd
def GlV (mg : Str → Option Value) (x : Str) (v : V) : Prop := ∃ u, mg x = some u ∧ RelV v u
theorem pe_glb {x : Str} {v : V} {pos : Pos} (h : GlV X.mg x v) (hg : Gl X x := by rfl) (hd : (x == ("__debug__" : Str)) = false := by decide) : PE X (.Name x pos) (tC v) := by
  obtain ⟨u, hm, r⟩ := h
  exact pe_glob hg hm r hd
end
theorem bt_len : bootBuiltins "len" = some (.builtin "len") := PySem.boot_len
theorem bt_abs : bootBuiltins "abs" = some (.builtin "abs") := by decide +kernel
theorem bt_divmod : bootBuiltins "divmod" = some (.builtin "divmod") := by decide +kernel
theorem bt_isinstance : bootBuiltins "isinstance" = some (.builtin "isinstance") := by decide +kernel
theorem bt_all : bootBuiltins "all" = some (.builtin "all") := by decide +kernel
theorem bt_any : bootBuiltins "any" = some (.builtin "any") := by decide +kernel
theorem bt_max : bootBuiltins "max" = some (.builtin "max") := by decide +kernel
theorem bt_min : bootBuiltins "min" = some (.builtin "min") := by decide +kernel
theorem bt_sum : bootBuiltins "sum" = some (.builtin "sum") := by decide +kernel
theorem bt_sorted : bootBuiltins "sorted" = some (.builtin "sorted") := by decide +kernel
theorem bt_int : bootBuiltins "int" = some (.type "int") := by decide +kernel
theorem bt_bool : bootBuiltins "bool" = some (.type "bool") := by decide +kernel
theorem bt_str : bootBuiltins "str" = some (.type "str") := by decide +kernel
theorem bt_list : bootBuiltins "list" = some (.type "list") := by decide +kernel
theorem bt_tuple : bootBuiltins "tuple" = some (.type "tuple") := by decide +kernel

/-! ### readings, one step each: the head of the goal tells which -/
section
variable {t u : TS} {D : Ends} {σ : St} {H : Hp} {te ta tb tc : TE} {g : TG} {i : Nat} {v : V} {Q : VK} {c : TT} {K : PySem.W.Frag} {r r' : R2}
theorem rd_seq (h : t { D with nx := u D } σ H) : tSeq t u D σ H := h
theorem rd_next (h : D.nx σ H) : tNext D σ H := h
theorem rd_asg (h : te σ H fun x H1 => g x σ H1 D.nx) : tAsg te g D σ H := h
theorem rd_gname {Q : St → Hp → Prop} (h : Q (σ.set i (some v)) H) : gName i v σ H Q := h
theorem rd_ret (h : te σ H D.rt) : tRet te D σ H := h
theorem rd_drop (h : te σ H fun _ H1 => D.nx σ H1) : tDrop te D σ H := h
theorem rd_var (e : σ[i]? = some (some v)) (h : Q v H) : tVar i σ H Q := ⟨v, e, h⟩
theorem rd_c (h : Q v H) : tC v σ H Q := h
theorem rd_op (h : ta σ H fun x H1 => tb σ H1 fun y H2 => r x y H2 Q) : tOp r ta tb σ H Q := h
theorem rd_un {r : V → Hp → VK → Prop} (h : ta σ H fun x H1 => r x H1 Q) : tUn r ta σ H Q := h
theorem rd_i0 {g : Int → Int → V} {i j : Int} (h : Q (g i j) H) : rI0 g (.int i) (.int j) H Q := ⟨i, j, rfl, rfl, h⟩
theorem rd_i {C : Int → Int → Prop} {g : Int → Int → V} {i j : Int} (hc : C i j) (h : Q (g i j) H) : rI C g (.int i) (.int j) H Q := ⟨i, j, rfl, rfl, hc, h⟩
theorem rd_u {g : Int → V} {i : Int} (h : Q (g i) H) : rU g (.int i) H Q := ⟨i, rfl, h⟩
theorem rd_addI {i j : Int} (h : Q (.int (i + j)) H) : rAddU K (.int i) (.int j) H Q := .inl ⟨i, j, rfl, rfl, h⟩
theorem rd_addS {i j : Str} (hz : i.length + j.length ≤ sizeLine) (h : Q (.str (i ++ j)) H) : rAddU K (.str i) (.str j) H Q := .inr (.inl ⟨i, j, rfl, rfl, hz, h⟩)
theorem rd_addL {l b : Addr} {xs zs : List V} (h1 : H l = some (.lst xs)) (h2 : H b = some (.lst zs)) (hz : xs.length + zs.length ≤ sizeLine) (h : ∀ p, H p = none → Q (.ref p) (upd H p (.lst (xs ++ zs)))) : rAddU K (.ref l) (.ref b) H Q :=
  .inr (.inr (.inl ⟨l, b, xs, zs, rfl, rfl, h1, h2, hz, h⟩))
theorem rd_mulI {i j : Int} (hc : IntMulOk i j) (h : Q (.int (i * j)) H) : rMulU (.int i) (.int j) H Q := .inl ⟨i, j, rfl, rfl, hc, h⟩
theorem rd_eq {x y : V} (hs : scal x y = true) (h : Q (.bl (decide (x = y))) H) : rEq x y H Q := ⟨hs, h⟩
theorem rd_ne {x y : V} (hs : scal x y = true) (h : Q (.bl (!decide (x = y))) H) : rNe x y H Q := ⟨hs, h⟩
theorem rd_test {Q : Bool → Hp → Prop} (h : te σ H fun x H' => ∃ k, x = .bl k ∧ Q k H') : tTest te σ H Q := h
theorem rd_exbl {b : Bool} {Q : Bool → Prop} (h : Q b) : ∃ k, V.bl b = .bl k ∧ Q k := ⟨b, rfl, h⟩
theorem rd_tru {b : Bool} {Q : Bool → Prop} (h : Q b) : ∃ k, TruV K (.bl b) H k ∧ Q k := ⟨b, rfl, h⟩
theorem rd_ifS (h : c σ H fun b H1 => if b = true then t D σ H1 else u D σ H1) : tIfS c t u D σ H := h
theorem rd_if {tt : TT} (h : tt σ H fun c H1 => if c = true then ta σ H1 Q else tb σ H1 Q) : tIf tt ta tb σ H Q := h
theorem rd_not {tt : TT} {Q : Bool → Hp → Prop} (h : tt σ H fun c H1 => Q (!c) H1) : tNot tt σ H Q := h
theorem rd_and {tt uu : TT} {Q : Bool → Hp → Prop} (h : tt σ H fun c H1 => if c = true then uu σ H1 Q else Q false H1) : tAnd tt uu σ H Q := h
theorem rd_or {tt uu : TT} {Q : Bool → Hp → Prop} (h : tt σ H fun c H1 => if c = true then Q true H1 else uu σ H1 Q) : tOr tt uu σ H Q := h
theorem rd_andV (h : ta σ H fun x H1 => ∃ c, x = .bl c ∧ if c = true then tb σ H1 Q else Q (.bl false) H1) : tAndV ta tb σ H Q := h
theorem rd_orV (h : ta σ H fun x H1 => ∃ c, x = .bl c ∧ if c = true then Q (.bl true) H1 else tb σ H1 Q) : tOrV ta tb σ H Q := h
theorem rd_notV (h : ta σ H fun x H1 => ∃ c, x = .bl c ∧ Q (.bl (!c)) H1) : tNotV ta σ H Q := h
theorem rd_chain (h : ta σ H fun x H1 => tb σ H1 fun y H2 => r x y H2 fun z H3 => ∃ k, z = .bl k ∧ (if k = true then tc σ H3 fun w' H4 => r' y w' H4 Q else Q (.bl false) H3)) : tChain r r' ta tb tc σ H Q := h
theorem rd_nil {Q : List V → Hp → Prop} (h : Q [] H) : tNil σ H Q := h
theorem rd_cons {tr : TA} {Q : List V → Hp → Prop} (h : ta σ H fun x H1 => tr σ H1 fun xs H2 => Q (x :: xs) H2) : tCons ta tr σ H Q := h
theorem rd_lst {t : TA} (h : t σ H fun xs H1 => xs.length ≤ sizeLine ∧ ∀ p, H1 p = none → Q (.ref p) (upd H1 p (.lst xs))) : tLst t σ H Q := h
theorem rd_tup {t : TA} (h : t σ H fun xs H1 => xs.length ≤ sizeLine ∧ ∀ p, H1 p = none → Q (.ref p) (upd H1 p (.tup xs))) : tTup t σ H Q := h
theorem rd_call {sp : Sp} {dvs : List V} {E : XK} {t : TA} (h : t σ H fun vs H1 => sp (vs ++ dvs) H1 Q E) : tCall sp dvs E t σ H Q := h
theorem rd_def {sp : Sp} {t : TA} (h : t σ H fun vs H1 => sp vs H1 Q E0) : tDef sp t σ H Q := h
theorem rd_cb {r : List V → Hp → VK → Prop} {t : TA} (h : t σ H fun vs H1 => r vs H1 Q) : tCB r t σ H Q := h
theorem rd_bm {T : String} {r : V → List V → Hp → VK → Prop} {to : TE} {t : TA} (h : to σ H fun x H1 => tyV K T x H1 ∧ t σ H1 fun xs H2 => r x xs H2 Q) : tBM K T r to t σ H Q := h
theorem rd_ixL {p : Addr} {xs : List V} {i : Int} {v : V} (h1 : SqL K H p xs) (h2 : atI xs i = some v) (h : Q v H) : rIx K (.ref p) (.int i) H Q := .inl ⟨p, xs, i, v, rfl, rfl, h1, h2, h⟩
theorem rd_ixT {p : Addr} {xs : List V} {i : Int} {v : V} (h1 : SqT K H p xs) (h2 : atI xs i = some v) (h : Q v H) : rIx K (.ref p) (.int i) H Q := .inr (.inl ⟨p, xs, i, v, rfl, rfl, h1, h2, h⟩)
theorem rd_ixS {z : Str} {i : Int} {c : Nat} (h1 : z.length ≤ sizeLine) (h2 : atI z.cps.toList i = some c) (h : Q (.str ⟨#[c]⟩) H) : rIx K (.str z) (.int i) H Q := .inr (.inr ⟨z, i, c, rfl, rfl, h1, h2, h⟩)
theorem rd_lenL {p : Addr} {xs : List V} (h1 : SqL K H p xs) (h : Q (.int xs.length) H) : rLen K [.ref p] H Q := ⟨_, _, rfl, .inl ⟨xs, h1, rfl⟩, h⟩
theorem rd_lenT {p : Addr} {xs : List V} (h1 : SqT K H p xs) (h : Q (.int xs.length) H) : rLen K [.ref p] H Q := ⟨_, _, rfl, .inr ⟨xs, h1, rfl⟩, h⟩
theorem rd_lenS {z : Str} (h1 : z.length ≤ sizeLine) (h : Q (.int z.length) H) : rLen K [.str z] H Q := ⟨_, _, rfl, ⟨h1, rfl⟩, h⟩
theorem rd_abs {i : Int} (h : Q (.int (if i < 0 then -i else i)) H) : rAbs [.int i] H Q := ⟨i, rfl, h⟩
theorem rd_divmod {i j : Int} (hc : CDiv i j) (h : ∀ p, H p = none → Q (.ref p) (upd H p (.tup [.int (i / j), .int (i % j)]))) : rDivmod [.int i, .int j] H Q := ⟨i, j, rfl, hc, h⟩
theorem rd_max2 {i j : Int} (h : Q (.int (if j > i then j else i)) H) : rMax K [.int i, .int j] H Q := .inl ⟨i, j, rfl, h⟩
theorem rd_min2 {i j : Int} (h : Q (.int (if j < i then j else i)) H) : rMin K [.int i, .int j] H Q := .inl ⟨i, j, rfl, h⟩
theorem rd_maxL {p : Addr} {ns : List Int} (h1 : SqL K H p (ns.map V.int)) (h2 : ns ≠ []) (h : ∀ M, M ∈ ns → (∀ a ∈ ns, a ≤ M) → Q (.int M) H) : rMax K [.ref p] H Q := .inr ⟨p, ns, rfl, h1, h2, h⟩
theorem rd_minL {p : Addr} {ns : List Int} (h1 : SqL K H p (ns.map V.int)) (h2 : ns ≠ []) (h : ∀ M, M ∈ ns → (∀ a ∈ ns, M ≤ a) → Q (.int M) H) : rMin K [.ref p] H Q := .inr ⟨p, ns, rfl, h1, h2, h⟩
theorem rd_all {p : Addr} {bs : List Bool} (h1 : SqL K H p (bs.map V.bl)) (h : Q (.bl (bs.all id)) H) : rAll K [.ref p] H Q := ⟨p, bs, rfl, h1, h⟩
theorem rd_any {p : Addr} {bs : List Bool} (h1 : SqL K H p (bs.map V.bl)) (h : Q (.bl (bs.any id)) H) : rAny K [.ref p] H Q := ⟨p, bs, rfl, h1, h⟩
theorem rd_isi {x : V} {T tx : String} {b : Bool} (h2 : TyN K H x tx) (h1 : IsiR tx T b) (h : Q (.bl b) H) : rIsi K [x, .ty T] H Q := ⟨x, T, tx, b, rfl, h2, h1, h⟩
theorem rd_isiI {i : Int} (h : Q (.bl true) H) : rIsi K [.int i, .ty "int"] H Q := rd_isi rfl .int_int h
theorem rd_isiB {i : Int} (h : Q (.bl false) H) : rIsi K [.int i, .ty "bool"] H Q := rd_isi rfl .int_bool h
theorem rd_isbB {b : Bool} (h : Q (.bl true) H) : rIsi K [.bl b, .ty "bool"] H Q := rd_isi rfl .bool_bool h
theorem rd_gtup {n : Nat} {t : TGs} {a : Addr} {xs : List V} {Q : St → Hp → Prop} (h1 : SqT K H a xs) (h2 : xs.length = n) (h : t xs σ H Q) : gTup K n t (.ref a) σ H Q := ⟨a, xs, rfl, h1, h2, h⟩
theorem rd_gcons {t : TG} {u : TGs} {r : List V} {Q : St → Hp → Prop} (h : t v σ H fun σ' H' => u r σ' H' Q) : gCons t u (v :: r) σ H Q := ⟨v, r, rfl, h⟩
theorem rd_gnil {Q : St → Hp → Prop} (h : Q σ H) : gNil [] σ H Q := ⟨rfl, h⟩
theorem rd_append {l : Addr} {xs : List V} {y : V} (h1 : H l = some (.lst xs)) (hz : xs.length < sizeLine) (h : Q .non (upd H l (.lst (xs ++ [y])))) : rAppend (.ref l) [y] H Q := ⟨l, xs, y, rfl, rfl, h1, hz, h⟩
theorem rd_for {wi : TI} {tb : TS} (h : wi σ H fun J H1 => ∃ W : Nat → Nat → St → Hp → Prop, (∃ m, W 0 m σ H1) ∧ ∀ i m σ H, W i m σ H →
    (J.stop i H ∧ D.nx σ H) ∨ (J.go i H ∧ ∃ N : St → Hp → Prop, (∀ σ' H', N σ' H' → ∃ m', m' < m ∧ W (i + 1) m' σ' H') ∧ ∀ x H', J.yld i H x H' → g x σ H' fun σ2 H2 => tb { D with nx := N, ct := N, bk := D.nx } σ2 H2)) : tFor wi g tb D σ H := h
theorem rd_rng1 {ta : TA} {R : It → Hp → Prop} (h : ta σ H fun vs H1 => ∃ j : Int, vs = [.int j] ∧ -(2 ^ 62) ≤ j ∧ j < 2 ^ 62 ∧ R (Itr 0 j.toNat) H1) : iRng1 ta σ H R := h
theorem rd_rng2 {ta : TA} {R : It → Hp → Prop} (h : ta σ H fun vs H1 => ∃ i j : Int, vs = [.int i, .int j] ∧ (-(2 ^ 62) ≤ i ∧ i < 2 ^ 62 ∧ -(2 ^ 62) ≤ j ∧ j < 2 ^ 62) ∧ R (Itr i (j - i).toNat) H1) : iRng2 ta σ H R := h
theorem rd_sl {r : V → Option Int → Option Int → Hp → VK → Prop} {tl th : TO} (h : te σ H fun x H1 => tl σ H1 fun l H2 => th σ H2 fun u H3 => r x l u H3 Q) : tSl r te tl th σ H Q := h
theorem rd_noP {Q : Option Int → Hp → Prop} (h : Q none H) : tNoPart σ H Q := h
theorem rd_part {Q : Option Int → Hp → Prop} (h : te σ H fun x H1 => ∃ i, x = .int i ∧ Q (some i) H1) : tPart te σ H Q := h
theorem rd_exint {i : Int} {Q : Int → Prop} (h : Q i) : ∃ k, V.int i = .int k ∧ Q k := ⟨i, rfl, h⟩
theorem rd_slL {a : Addr} {xs : List V} {lo hi : Option Int} (h1 : SqL K H a xs) (h : ∀ p, H p = none → Q (.ref p) (upd H p (.lst (cutV xs lo hi)))) : rSlU K (.ref a) lo hi H Q := .inl ⟨a, xs, rfl, h1, h⟩
theorem rd_iU {R : It → Hp → Prop} (h : te σ H fun x H1 => ∃ a, x = .ref a ∧ (((∃ xs, SqL K H1 a xs) ∧ R (Itl K a) H1) ∨ ((∃ xs, SqT K H1 a xs) ∧ R (Itt K a) H1))) : iU K te σ H R := h
theorem rd_comp {ks : List Nat} {wi : TI} {tc : TT} (h : wi σ H (CGo ks g tc te σ fun D H' => Q (.ref D) H')) : tComp ks wi g tc te σ H Q := h
theorem rd_yes {Q : Bool → Hp → Prop} (h : Q true H) : tYes σ H Q := h
theorem ev_and {a b : Bool} (ha : ∀ Q : VK, Q (.bl a) H → ta σ H Q) (hb : a = true → ∀ Q : VK, Q (.bl b) H → tb σ H Q) (h : Q (.bl (a && b)) H) : tAndV ta tb σ H Q := by
  refine ha _ ⟨a, rfl, ?_⟩
  cases a with
  | false => exact iteF h
  | true => exact iteT (hb rfl _ h)
theorem ev_or {a b : Bool} (ha : ∀ Q : VK, Q (.bl a) H → ta σ H Q) (hb : a = false → ∀ Q : VK, Q (.bl b) H → tb σ H Q) (h : Q (.bl (a || b)) H) : tOrV ta tb σ H Q := by
  refine ha _ ⟨a, rfl, ?_⟩
  cases a with
  | true => exact iteT h
  | false => exact iteF (hb rfl _ h)
theorem q_eq {b b' : Bool} (h : Q (.bl b) H) (e : b = b') : Q (.bl b') H := e ▸ h
theorem q_int {b b' : Int} (h : Q (.int b) H) (e : b = b') : Q (.int b') H := e ▸ h
theorem rd_tyL {p : Addr} {xs : List V} (h : SqL K H p xs) : tyV K "list" (.ref p) H := .inl ⟨rfl, xs, h⟩
end
/-- a test that is a decision: both ways with its fact -/
theorem if_dec {p A B : Prop} [Decidable p] (h1 : p → A) (h2 : ¬ p → B) : if decide p = true then A else B := by
  by_cases h : p
  · rw [if_pos (decide_eq_true h)]; exact h1 h
  · rw [if_neg (by rw [decide_eq_false h]; decide)]; exact h2 h
theorem if_ndec {p A B : Prop} [Decidable p] (h1 : ¬ p → A) (h2 : p → B) : if (!decide p) = true then A else B := by
  by_cases h : p
  · rw [if_neg (by rw [decide_eq_true h]; decide)]; exact h2 h
  · rw [if_pos (by rw [decide_eq_false h]; rfl)]; exact h1 h
theorem if_bool {b : Bool} {A B : Prop} (h1 : b = true → A) (h2 : b = false → B) : if b = true then A else B := by
  cases b
  · exact iteF (h2 rfl)
  · exact iteT (h1 rfl)
theorem iteNT {A B : Prop} (h : B) : if (!true) = true then A else B := iteF h
theorem iteNF {A B : Prop} (h : A) : if (!false) = true then A else B := iteT h
theorem same_new {H : Hp} {p : Addr} (h : H p = none) (o : HO) : Same H (upd H p o) := fun b u q => by rw [upd_ne (ne_of_none q h)]; exact q
theorem same_upd {H H' : Hp} {p : Addr} (h : Same H H') (hp : H p = none) (o : HO) : Same H (upd H' p o) := fun b u q => by rw [upd_ne (ne_of_none q hp)]; exact h b u q
theorem small {n : Nat} (h : n ≤ 100000) : n ≤ sizeLine := Nat.le_trans h (by decide)
theorem smallLt {n : Nat} (h : n ≤ 100000) : n < sizeLine := Nat.lt_of_le_of_lt h (by decide)
end L2

/-! EXTENSION 4: a def of the text's top -/
namespace L2
open PySem PySem.Spec PyProof.Rows
structure Top (K : PySem.W.Frag) (mg : Str → Option Value) (x : Str) (st : Stmt) : Prop where
  ex : ∃ f fd, Fun K x x st f fd ∧ mg x = some (.ref f)
theorem top_mk {K : PySem.W.Frag} {h : Heap} {mg : Str → Option Value} (X : K.In h) (G : h.Ns mainGlobals mg) {x : Str} {st : Stmt} {f : Addr} {oc : Value} {od an : Option Addr} {osl : Array (Option Value)} {kV doc pm cdv ct : Value}
    (a : PySem.W.nsIn K mainGlobals x = some (some (.ref f))) (l : K.lookup f = some ⟨oc, od, .func (PySem.W.fnOf x x (defArgs st) (defBody st) (defScope st) .none kV doc pm an cdv ct), osl⟩)
    (c : PySem.W.codeIn K cdv x = true) (k : PySem.W.keepIn K (.ref f) = true) : Top K mg x st := ⟨f, _, fun_mk l c k, PySem.W.mg_of X G a⟩
theorem glb_mk {K : PySem.W.Frag} {h : Heap} {mg : Str → Option Value} (X : K.In h) (G : h.Ns mainGlobals mg) {x : Str} {v : V} {u : Value} (a : PySem.W.nsIn K mainGlobals x = some (some u)) (r : RelV v u) : GlV mg x v := ⟨u, PySem.W.mg_of X G a, r⟩
section
variable {P : Program} {w : World} {K : PySem.W.Frag} {mg : Str → Option Value} {base : Heap}
theorem Top.mk_def {x : Str} {st : Stmt} {N ps : List Str} {k : Nat} {sp : Sp} (F : Top K mg x st) (S : FnScope N ps (defScope st))
    (hb : ∀ (kV doc pm : Value) (an : Option Addr) (cdv ct : Value) (us : List Value), us.length = ps.length → bindArgs (PySem.W.fnOf x x (defArgs st) (defBody st) (defScope st) .none kV doc pm an cdv ct) ⟨us, []⟩ = pure (ps.zip us))
    (len : ∀ vs H Q E, sp vs H Q E → vs.length = ps.length)
    (hbody : ∀ (f : Addr) (cdv : Value) (A : Around) (outer : List Env) (s : Shared) (H : Hp) (vs : List V) (Q : VK) (E : XK), Room k (A.deeper (envOfC x (defScope st) s.heap.objs.size f cdv)) → sp vs H Q E →
      ∃ t, PSs (cxOf CX0 P w K mg base N x (defScope st) f cdv A outer s H E).nox (defBody st) t ∧ t { nx := fun _ H' => Q .non H', rt := Q } (start N vs) H) : Def P w K mg base (k + 1) x ps sp := by
  obtain ⟨f, fd, F, hm⟩ := F.ex
  exact ⟨f, fd, F.ok S len (fun cdv A outer s H vs Q E hr h => hbody f cdv A outer s H vs Q E hr h), hm, F.kp, F.binds hb⟩
end
/-! ### sizes of ints -/
theorem bits_lt {a : Int} {n : Nat} (h : Builtin.Int.intBits a ≤ n) : a.natAbs < 2 ^ n := by
  unfold Builtin.Int.intBits at h
  by_cases e : a = 0
  · subst e
    exact Nat.two_pow_pos n
  · rw [if_neg (by simpa using e)] at h
    have h0 : a.natAbs ≠ 0 := by omega
    exact (Nat.log2_lt h0).mp (by omega)
theorem bits_le {a : Int} {n : Nat} (h : a.natAbs < 2 ^ n) : Builtin.Int.intBits a ≤ n := by
  unfold Builtin.Int.intBits
  by_cases e : a = 0
  · subst e
    exact Nat.zero_le _
  · rw [if_neg (by simpa using e)]
    have h0 : a.natAbs ≠ 0 := by omega
    have := (Nat.log2_lt h0).mpr h
    omega
theorem mulOk_bits {a b : Int} (h : Builtin.Int.intBits a + Builtin.Int.intBits b ≤ 134217728) : IntMulOk a b := by
  have e : (2 : Nat) ^ 27 = 134217728 := by decide
  have h : Builtin.Int.intTooBig (Builtin.Int.intBits a + Builtin.Int.intBits b) = false := by
    unfold Builtin.Int.intTooBig bitsLine
    exact decide_eq_false (by omega)
  unfold IntMulOk
  rw [h]
  simp
theorem mulOk_r {a b : Int} (h1 : -(2 ^ 64) < b) (h2 : b < 2 ^ 64) : IntMulOk a b := IntMulOk.of_right (intBits_le_64 h1 h2)
theorem mulOk_l {a b : Int} (h1 : -(2 ^ 64) < a) (h2 : a < 2 ^ 64) : IntMulOk a b := IntMulOk.of_left (intBits_le_64 h1 h2)
end L2

/-! TREES 1: values as trees; how a tree lies in the heap; who owns what -/
namespace TL
open PySem PySem.Spec PyProof.Rows L2

/-- a value as a tree. o: this one list (or object) is held by this place alone, and may be changed through it; else it is never changed again -/
inductive T where
  | non | bl (b : Bool) | int (i : Int) | str (x : Str) | ty (n : String)
  | lst (o : Bool) (xs : List T)
  | tup (xs : List T)
  | ins (o : Bool) (c : Str) (ns : List Str) (xs : List T)

mutual
/-- from here on nobody changes it -/
def frz : T → T
  | .lst _ xs => .lst false (frzs xs)
  | .tup xs => .tup (frzs xs)
  | .ins _ c ns xs => .ins false c ns (frzs xs)
  | .non => .non
  | .bl b => .bl b
  | .int i => .int i
  | .str x => .str x
  | .ty n => .ty n
def frzs : List T → List T
  | [] => []
  | t :: ts => frz t :: frzs ts
end
mutual
/-- nothing in it is owned -/
def noOwn : T → Bool
  | .lst o xs => !o && noOwns xs
  | .tup xs => noOwns xs
  | .ins o _ _ xs => !o && noOwns xs
  | .non => true
  | .bl _ => true
  | .int _ => true
  | .str _ => true
  | .ty _ => true
def noOwns : List T → Bool
  | [] => true
  | t :: ts => noOwn t && noOwns ts
end
mutual
/-- everything in it is owned -/
def clean : T → Bool
  | .lst o xs => o && cleans xs
  | .tup xs => cleans xs
  | .ins o _ _ xs => o && cleans xs
  | .non => true
  | .bl _ => true
  | .int _ => true
  | .str _ => true
  | .ty _ => true
def cleans : List T → Bool
  | [] => true
  | t :: ts => clean t && cleans ts
end
theorem frzs_eq : ∀ ts, frzs ts = ts.map frz
  | [] => rfl
  | t :: ts => by simp [frzs, frzs_eq ts]
theorem noOwns_eq : ∀ ts, noOwns ts = ts.all noOwn
  | [] => rfl
  | t :: ts => by simp [noOwns, noOwns_eq ts]
theorem cleans_eq : ∀ ts, cleans ts = ts.all clean
  | [] => rfl
  | t :: ts => by simp [cleans, cleans_eq ts]
mutual
theorem noOwn_frz : ∀ t, noOwn (frz t) = true
  | .lst _ xs => by simp [frz, noOwn, noOwns_frzs xs]
  | .tup xs => by simp [frz, noOwn, noOwns_frzs xs]
  | .ins _ _ _ xs => by simp [frz, noOwn, noOwns_frzs xs]
  | .non => rfl
  | .bl _ => rfl
  | .int _ => rfl
  | .str _ => rfl
  | .ty _ => rfl
theorem noOwns_frzs : ∀ ts, noOwns (frzs ts) = true
  | [] => rfl
  | t :: ts => by simp [frzs, noOwns, noOwn_frz t, noOwns_frzs ts]
end
mutual
theorem frz_noOwn : ∀ t, noOwn t = true → frz t = t
  | .lst o xs, h => by
    simp only [noOwn, Bool.and_eq_true, Bool.not_eq_true'] at h
    rw [frz, frzs_noOwns xs h.2, h.1]
  | .tup xs, h => by
    simp only [noOwn] at h
    rw [frz, frzs_noOwns xs h]
  | .ins o _ _ xs, h => by
    simp only [noOwn, Bool.and_eq_true, Bool.not_eq_true'] at h
    rw [frz, frzs_noOwns xs h.2, h.1]
  | .non, _ => rfl
  | .bl _, _ => rfl
  | .int _, _ => rfl
  | .str _, _ => rfl
  | .ty _, _ => rfl
theorem frzs_noOwns : ∀ ts, noOwns ts = true → frzs ts = ts
  | [], _ => rfl
  | t :: ts, h => by
    simp only [noOwns, Bool.and_eq_true] at h
    rw [frzs, frz_noOwn t h.1, frzs_noOwns ts h.2]
end

/-- what a run of a piece of code tells -/
structure Exc where
  c : Str
  ns : List Str
  xs : List T
inductive Res (α : Type) where
  | ok (a : α) | ex (x : Exc) | no
def Res.bind {α β : Type} : Res α → (α → Res β) → Res β
  | .ok a, f => f a
  | .ex x, _ => .ex x
  | .no, _ => .no
abbrev Fr := List (Option T)
inductive Out where
  | nx (ρ : Fr) | rt (t : T) | bk (ρ : Fr) | ct (ρ : Fr) | ex (x : Exc) | no

/-! ### a tree in the heap -/
def imm : HO → Bool
  | .tup _ => true
  | .frz _ _ => true
  | _ => false
/-- a list that nobody changes: frozen here, frozen from the beginning, or of the module -/
def FzL (K : PySem.W.Frag) (H : Hp) (Z : Addr → Prop) (a : Addr) (xs : List V) : Prop :=
  (H a = some (.lst xs) ∧ Z a) ∨ (∃ o, H a = some (.frz o (.lst xs))) ∨
    ∃ (o : Obj) (its : Array Value) (n : Nat), K.lookup a = some o ∧ o.cls = .type "list" ∧ o.dict = none ∧ o.slots = #[] ∧ o.data = .seq its n ∧ its.size ≤ sizeLine ∧ Vals xs its.toList
theorem FzL.sqS {K : PySem.W.Frag} {H : Hp} {Z : Addr → Prop} {a : Addr} {xs : List V} (h : FzL K H Z a xs) : SqS K H a xs := by
  rcases h with ⟨h, _⟩ | ⟨o, h⟩ | h
  · exact .inl (.inl h)
  · exact .inl (.inr ⟨o, h⟩)
  · exact .inr h
theorem FzL.sq {K : PySem.W.Frag} {H : Hp} {Z : Addr → Prop} {a : Addr} {xs : List V} (h : FzL K H Z a xs) : SqL K H a xs := h.sqS.sq

section
variable (K : PySem.W.Frag) (cn : Str → Option Addr)
mutual
def Rep (H : Hp) (Z : Addr → Prop) : T → V → List Addr → Prop
  | .non, v, A => v = .non ∧ A = []
  | .bl b, v, A => v = .bl b ∧ A = []
  | .int i, v, A => v = .int i ∧ A = []
  | .str x, v, A => v = .str x ∧ A = []
  | .ty n, v, A => v = .ty n ∧ A = []
  | .lst true ts, v, A => ∃ a vs B, v = .ref a ∧ A = a :: B ∧ H a = some (.lst vs) ∧ Reps H Z ts vs B
  | .lst false ts, v, A => ∃ a vs, v = .ref a ∧ A = [] ∧ FzL K H Z a vs ∧ Reps H Z ts vs []
  | .tup ts, v, A => ∃ a vs, v = .ref a ∧ SqT K H a vs ∧ Reps H Z ts vs A
  | .ins true c ns ts, v, A => ∃ a C dx vs B, v = .ref a ∧ A = a :: B ∧ cn c = some C ∧ H a = some (.ins C dx (ns.zip vs)) ∧ ns.length = vs.length ∧ Reps H Z ts vs B
  | .ins false c ns ts, v, A => ∃ a C dx vs, v = .ref a ∧ A = [] ∧ cn c = some C ∧ H a = some (.ins C dx (ns.zip vs)) ∧ Z a ∧ ns.length = vs.length ∧ Reps H Z ts vs []
def Reps (H : Hp) (Z : Addr → Prop) : List T → List V → List Addr → Prop
  | [], vs, A => vs = [] ∧ A = []
  | t :: ts, vs, A => ∃ v r B C, vs = v :: r ∧ A = B ++ C ∧ Rep H Z t v B ∧ Reps H Z ts r C
end
end

section
variable {K : PySem.W.Frag} {cn : Str → Option Addr} {H H' : Hp} {Z Z' : Addr → Prop}
theorem FzL.keep {a : Addr} {xs : List V} (h : FzL K H Z a xs) (hk : ∀ a o, H a = some o → (Z a ∨ imm o = true) → H' a = some o) (hz : ∀ a, Z a → Z' a) : FzL K H' Z' a xs := by
  rcases h with ⟨h, z⟩ | ⟨o, h⟩ | h
  · exact .inl ⟨hk _ _ h (.inl z), hz _ z⟩
  · exact .inr (.inl ⟨o, hk _ _ h (.inr rfl)⟩)
  · exact .inr (.inr h)
theorem SqT.keep {a : Addr} {xs : List V} (h : SqT K H a xs) (hk : ∀ a o, H a = some o → imm o = true → H' a = some o) : SqT K H' a xs := by
  rcases h with (h | ⟨o, h⟩) | h
  · exact .inl (.inl (hk _ _ h rfl))
  · exact .inl (.inr ⟨o, hk _ _ h rfl⟩)
  · exact .inr h
mutual
theorem Rep.keep : ∀ (t : T) {v : V} {A : List Addr}, Rep K cn H Z t v A → (∀ a o, H a = some o → (a ∈ A ∨ Z a ∨ imm o = true) → H' a = some o) → (∀ a, Z a → Z' a) → Rep K cn H' Z' t v A
  | .non, _, _, h, _, _ => by simpa only [Rep] using h
  | .bl _, _, _, h, _, _ => by simpa only [Rep] using h
  | .int _, _, _, h, _, _ => by simpa only [Rep] using h
  | .str _, _, _, h, _, _ => by simpa only [Rep] using h
  | .ty _, _, _, h, _, _ => by simpa only [Rep] using h
  | .lst true ts, v, A, h, hk, hz => by
    simp only [Rep] at h ⊢
    obtain ⟨a, vs, B, rfl, rfl, e, r⟩ := h
    exact ⟨a, vs, B, rfl, rfl, hk a _ e (.inl List.mem_cons_self), Reps.keep ts r (fun b o q c => hk b o q (c.imp_left (List.mem_cons_of_mem _))) hz⟩
  | .lst false ts, v, A, h, hk, hz => by
    simp only [Rep] at h ⊢
    obtain ⟨a, vs, rfl, rfl, e, r⟩ := h
    exact ⟨a, vs, rfl, rfl, e.keep (fun b o q c => hk b o q (.inr c)) hz, Reps.keep ts r hk hz⟩
  | .tup ts, v, A, h, hk, hz => by
    simp only [Rep] at h ⊢
    obtain ⟨a, vs, rfl, e, r⟩ := h
    exact ⟨a, vs, rfl, SqT.keep e (fun b o q c => hk b o q (.inr (.inr c))), Reps.keep ts r hk hz⟩
  | .ins true c ns ts, v, A, h, hk, hz => by
    simp only [Rep] at h ⊢
    obtain ⟨a, C, dx, vs, B, rfl, rfl, hc, e, l, r⟩ := h
    exact ⟨a, C, dx, vs, B, rfl, rfl, hc, hk a _ e (.inl List.mem_cons_self), l, Reps.keep ts r (fun b o q c => hk b o q (c.imp_left (List.mem_cons_of_mem _))) hz⟩
  | .ins false c ns ts, v, A, h, hk, hz => by
    simp only [Rep] at h ⊢
    obtain ⟨a, C, dx, vs, rfl, rfl, hc, e, z, l, r⟩ := h
    exact ⟨a, C, dx, vs, rfl, rfl, hc, hk a _ e (.inr (.inl z)), hz a z, l, Reps.keep ts r hk hz⟩
theorem Reps.keep : ∀ (ts : List T) {vs : List V} {A : List Addr}, Reps K cn H Z ts vs A → (∀ a o, H a = some o → (a ∈ A ∨ Z a ∨ imm o = true) → H' a = some o) → (∀ a, Z a → Z' a) → Reps K cn H' Z' ts vs A
  | [], _, _, h, _, _ => by simpa only [Reps] using h
  | t :: ts, vs, A, h, hk, hz => by
    simp only [Reps] at h ⊢
    obtain ⟨v, r, B, C, rfl, rfl, h1, h2⟩ := h
    exact ⟨v, r, B, C, rfl, rfl, Rep.keep t h1 (fun b o q c => hk b o q (c.imp_left (List.mem_append_left _))) hz, Reps.keep ts h2 (fun b o q c => hk b o q (c.imp_left (List.mem_append_right _))) hz⟩
end
theorem Rep.same {t : T} {v : V} {A : List Addr} (h : Rep K cn H Z t v A) (s : Same H H') (hz : ∀ a, Z a → Z' a) : Rep K cn H' Z' t v A := Rep.keep t h (fun a o q _ => s a o q) hz
theorem Reps.same {t : List T} {v : List V} {A : List Addr} (h : Reps K cn H Z t v A) (s : Same H H') (hz : ∀ a, Z a → Z' a) : Reps K cn H' Z' t v A := Reps.keep t h (fun a o q _ => s a o q) hz
theorem imm_ne {a b : Addr} {o o' : HO} (h : H a = some o) (h' : H b = some o') (i : imm o = true) (i' : imm o' = false) : a ≠ b := by
  rintro rfl
  rw [h] at h'
  cases h'
  rw [i] at i'
  cases i'
theorem Rep.upd {t : T} {v : V} {A : List Addr} {a : Addr} {o o' : HO} (h : Rep K cn H Z t v A) (ha : H a = some o) (hi : imm o = false) (hA : a ∉ A) (hZ : ¬ Z a) : Rep K cn (L2.upd H a o') Z t v A :=
  Rep.keep t h (fun b u q c => by
    rw [upd_ne]
    · exact q
    · rcases c with c | c | c
      · rintro rfl; exact hA c
      · rintro rfl; exact hZ c
      · exact imm_ne q ha c hi) (fun _ z => z)
theorem Reps.upd {t : List T} {v : List V} {A : List Addr} {a : Addr} {o o' : HO} (h : Reps K cn H Z t v A) (ha : H a = some o) (hi : imm o = false) (hA : a ∉ A) (hZ : ¬ Z a) : Reps K cn (L2.upd H a o') Z t v A :=
  Reps.keep t h (fun b u q c => by
    rw [upd_ne]
    · exact q
    · rcases c with c | c | c
      · rintro rfl; exact hA c
      · rintro rfl; exact hZ c
      · exact imm_ne q ha c hi) (fun _ z => z)
mutual
theorem Rep.frz : ∀ (t : T) {v : V} {A : List Addr}, Rep K cn H Z t v A → (∀ a, Z a → Z' a) → (∀ a ∈ A, Z' a) → Rep K cn H Z' (frz t) v []
  | .non, _, _, h, _, _ => by simp only [Rep, TL.frz] at h ⊢; exact ⟨h.1, trivial⟩
  | .bl _, _, _, h, _, _ => by simp only [Rep, TL.frz] at h ⊢; exact ⟨h.1, trivial⟩
  | .int _, _, _, h, _, _ => by simp only [Rep, TL.frz] at h ⊢; exact ⟨h.1, trivial⟩
  | .str _, _, _, h, _, _ => by simp only [Rep, TL.frz] at h ⊢; exact ⟨h.1, trivial⟩
  | .ty _, _, _, h, _, _ => by simp only [Rep, TL.frz] at h ⊢; exact ⟨h.1, trivial⟩
  | .lst true ts, v, A, h, hz, hA => by
    simp only [Rep, TL.frz] at h ⊢
    obtain ⟨a, vs, B, rfl, rfl, e, r⟩ := h
    exact ⟨a, vs, rfl, trivial, .inl ⟨e, hA a List.mem_cons_self⟩, Reps.frz ts r hz fun b hb => hA b (List.mem_cons_of_mem _ hb)⟩
  | .lst false ts, v, A, h, hz, hA => by
    simp only [Rep, TL.frz] at h ⊢
    obtain ⟨a, vs, rfl, rfl, e, r⟩ := h
    exact ⟨a, vs, rfl, trivial, e.keep (fun _ _ q _ => q) hz, Reps.frz ts r hz hA⟩
  | .tup ts, v, A, h, hz, hA => by
    simp only [Rep, TL.frz] at h ⊢
    obtain ⟨a, vs, rfl, e, r⟩ := h
    exact ⟨a, vs, rfl, e, Reps.frz ts r hz hA⟩
  | .ins true c ns ts, v, A, h, hz, hA => by
    simp only [Rep, TL.frz] at h ⊢
    obtain ⟨a, C, dx, vs, B, rfl, rfl, hc, e, l, r⟩ := h
    exact ⟨a, C, dx, vs, rfl, trivial, hc, e, hA a List.mem_cons_self, l, Reps.frz ts r hz fun b hb => hA b (List.mem_cons_of_mem _ hb)⟩
  | .ins false c ns ts, v, A, h, hz, hA => by
    simp only [Rep, TL.frz] at h ⊢
    obtain ⟨a, C, dx, vs, rfl, rfl, hc, e, z, l, r⟩ := h
    exact ⟨a, C, dx, vs, rfl, trivial, hc, e, hz a z, l, Reps.frz ts r hz hA⟩
theorem Reps.frz : ∀ (ts : List T) {vs : List V} {A : List Addr}, Reps K cn H Z ts vs A → (∀ a, Z a → Z' a) → (∀ a ∈ A, Z' a) → Reps K cn H Z' (frzs ts) vs []
  | [], _, _, h, _, _ => by simp only [Reps, TL.frzs] at h ⊢; exact ⟨h.1, trivial⟩
  | t :: ts, vs, A, h, hz, hA => by
    simp only [Reps, TL.frzs] at h ⊢
    obtain ⟨v, r, B, C, rfl, rfl, h1, h2⟩ := h
    exact ⟨v, r, [], [], rfl, rfl, Rep.frz t h1 hz fun b hb => hA b (List.mem_append_left _ hb), Reps.frz ts h2 hz fun b hb => hA b (List.mem_append_right _ hb)⟩
end
mutual
/-- an owned tree lies whatever is frozen -/
theorem Rep.any : ∀ (t : T) {v : V} {A : List Addr}, clean t = true → Rep K cn H Z t v A → Rep K cn H Z' t v A
  | .non, _, _, _, h => by simpa only [Rep] using h
  | .bl _, _, _, _, h => by simpa only [Rep] using h
  | .int _, _, _, _, h => by simpa only [Rep] using h
  | .str _, _, _, _, h => by simpa only [Rep] using h
  | .ty _, _, _, _, h => by simpa only [Rep] using h
  | .lst true ts, v, A, c, h => by
    simp only [Rep, clean, Bool.true_and] at h c ⊢
    obtain ⟨a, vs, B, rfl, rfl, e, r⟩ := h
    exact ⟨a, vs, B, rfl, rfl, e, Reps.any ts c r⟩
  | .lst false ts, v, A, c, h => by simp [clean] at c
  | .tup ts, v, A, c, h => by
    simp only [Rep, clean] at h c ⊢
    obtain ⟨a, vs, rfl, e, r⟩ := h
    exact ⟨a, vs, rfl, e, Reps.any ts c r⟩
  | .ins true cc ns ts, v, A, c, h => by
    simp only [Rep, clean, Bool.true_and] at h c ⊢
    obtain ⟨a, C, dx, vs, B, rfl, rfl, hc, e, l, r⟩ := h
    exact ⟨a, C, dx, vs, B, rfl, rfl, hc, e, l, Reps.any ts c r⟩
  | .ins false cc ns ts, v, A, c, h => by simp [clean] at c
theorem Reps.any : ∀ (ts : List T) {vs : List V} {A : List Addr}, cleans ts = true → Reps K cn H Z ts vs A → Reps K cn H Z' ts vs A
  | [], _, _, _, h => by simpa only [Reps] using h
  | t :: ts, vs, A, c, h => by
    simp only [Reps, cleans, Bool.and_eq_true] at h c ⊢
    obtain ⟨v, r, B, C, rfl, rfl, h1, h2⟩ := h
    exact ⟨v, r, B, C, rfl, rfl, Rep.any t c.1 h1, Reps.any ts c.2 h2⟩
end
mutual
theorem Rep.bare : ∀ (t : T) {v : V} {A : List Addr}, noOwn t = true → Rep K cn H Z t v A → A = []
  | .non, _, _, _, h => by simp only [Rep] at h; exact h.2
  | .bl _, _, _, _, h => by simp only [Rep] at h; exact h.2
  | .int _, _, _, _, h => by simp only [Rep] at h; exact h.2
  | .str _, _, _, _, h => by simp only [Rep] at h; exact h.2
  | .ty _, _, _, _, h => by simp only [Rep] at h; exact h.2
  | .lst true ts, v, A, c, h => by simp [noOwn] at c
  | .lst false ts, v, A, c, h => by
    simp only [Rep] at h
    obtain ⟨a, vs, rfl, rfl, e, r⟩ := h
    rfl
  | .tup ts, v, A, c, h => by
    simp only [Rep, noOwn] at h c
    obtain ⟨a, vs, rfl, e, r⟩ := h
    exact Reps.bare ts c r
  | .ins true cc ns ts, v, A, c, h => by simp [noOwn] at c
  | .ins false cc ns ts, v, A, c, h => by
    simp only [Rep] at h
    obtain ⟨a, C, dx, vs, rfl, rfl, _⟩ := h
    rfl
theorem Reps.bare : ∀ (ts : List T) {vs : List V} {A : List Addr}, noOwns ts = true → Reps K cn H Z ts vs A → A = []
  | [], _, _, _, h => by simp only [Reps] at h; exact h.2
  | t :: ts, vs, A, c, h => by
    simp only [Reps, noOwns, Bool.and_eq_true] at h c
    obtain ⟨v, r, B, C, rfl, rfl, h1, h2⟩ := h
    rw [Rep.bare t c.1 h1, Reps.bare ts c.2 h2]
    rfl
end
mutual
theorem Rep.dom : ∀ (t : T) {v : V} {A : List Addr}, Rep K cn H Z t v A → ∀ a ∈ A, ∃ o, H a = some o ∧ imm o = false
  | .non, _, _, h => by simp only [Rep] at h; rw [h.2]; intro a ha; cases ha
  | .bl _, _, _, h => by simp only [Rep] at h; rw [h.2]; intro a ha; cases ha
  | .int _, _, _, h => by simp only [Rep] at h; rw [h.2]; intro a ha; cases ha
  | .str _, _, _, h => by simp only [Rep] at h; rw [h.2]; intro a ha; cases ha
  | .ty _, _, _, h => by simp only [Rep] at h; rw [h.2]; intro a ha; cases ha
  | .lst true ts, v, A, h => by
    simp only [Rep] at h
    obtain ⟨a, vs, B, rfl, rfl, e, r⟩ := h
    intro b hb
    rcases List.mem_cons.mp hb with rfl | hb
    · exact ⟨_, e, rfl⟩
    · exact Reps.dom ts r b hb
  | .lst false ts, v, A, h => by
    simp only [Rep] at h
    obtain ⟨a, vs, rfl, rfl, e, r⟩ := h
    intro a ha; cases ha
  | .tup ts, v, A, h => by
    simp only [Rep] at h
    obtain ⟨a, vs, rfl, e, r⟩ := h
    exact Reps.dom ts r
  | .ins true cc ns ts, v, A, h => by
    simp only [Rep] at h
    obtain ⟨a, C, dx, vs, B, rfl, rfl, hc, e, l, r⟩ := h
    intro b hb
    rcases List.mem_cons.mp hb with rfl | hb
    · exact ⟨_, e, rfl⟩
    · exact Reps.dom ts r b hb
  | .ins false cc ns ts, v, A, h => by
    simp only [Rep] at h
    obtain ⟨a, C, dx, vs, rfl, rfl, _⟩ := h
    intro a ha; cases ha
theorem Reps.dom : ∀ (ts : List T) {vs : List V} {A : List Addr}, Reps K cn H Z ts vs A → ∀ a ∈ A, ∃ o, H a = some o ∧ imm o = false
  | [], _, _, h => by simp only [Reps] at h; rw [h.2]; intro a ha; cases ha
  | t :: ts, vs, A, h => by
    simp only [Reps] at h
    obtain ⟨v, r, B, C, rfl, rfl, h1, h2⟩ := h
    intro a ha
    rcases List.mem_append.mp ha with ha | ha
    · exact Rep.dom t h1 a ha
    · exact Reps.dom ts h2 a ha
end
theorem Reps.length : ∀ (ts : List T) {vs : List V} {A : List Addr}, Reps K cn H Z ts vs A → vs.length = ts.length
  | [], _, _, h => by simp only [Reps] at h; rw [h.1]; rfl
  | t :: ts, vs, A, h => by
    simp only [Reps] at h
    obtain ⟨v, r, B, C, rfl, rfl, h1, h2⟩ := h
    simp [Reps.length ts h2]
/-- the place i: its tree, value, what it owns (a part of the whole) -/
theorem Reps.get : ∀ (ts : List T) {vs : List V} {A : List Addr} {i : Nat} {t : T}, Reps K cn H Z ts vs A → ts[i]? = some t → ∃ v B, vs[i]? = some v ∧ Rep K cn H Z t v B ∧ (∀ b ∈ B, b ∈ A) ∧ B.Sublist A
  | [], _, _, _, _, h, e => by simp at e
  | t :: ts, vs, A, 0, t', h, e => by
    simp only [Reps] at h
    obtain ⟨v, r, B, C, rfl, rfl, h1, h2⟩ := h
    simp at e
    subst e
    exact ⟨v, B, rfl, h1, fun b hb => List.mem_append_left _ hb, List.sublist_append_left _ _⟩
  | t :: ts, vs, A, i + 1, t', h, e => by
    simp only [Reps] at h
    obtain ⟨v, r, B, C, rfl, rfl, h1, h2⟩ := h
    obtain ⟨v', B', e1, e2, e3, e4⟩ := Reps.get ts (i := i) h2 (by simpa using e)
    exact ⟨v', B', by simpa using e1, e2, fun b hb => List.mem_append_right _ (e3 b hb), e4.trans (List.sublist_append_right _ _)⟩
theorem Reps.append : ∀ (ts : List T) {us : List T} {vs ws : List V} {A B : List Addr}, Reps K cn H Z ts vs A → Reps K cn H Z us ws B → Reps K cn H Z (ts ++ us) (vs ++ ws) (A ++ B)
  | [], us, vs, ws, A, B, h, h' => by
    simp only [Reps] at h
    obtain ⟨rfl, rfl⟩ := h
    exact h'
  | t :: ts, us, vs, ws, A, B, h, h' => by
    simp only [Reps, List.cons_append] at h ⊢
    obtain ⟨v, r, C, D, rfl, rfl, h1, h2⟩ := h
    exact ⟨v, r ++ ws, C, D ++ B, rfl, by simp, h1, Reps.append ts h2 h'⟩
theorem Reps.one {t : T} {v : V} {B : List Addr} (h : Rep K cn H Z t v B) : Reps K cn H Z [t] [v] B := by
  simp only [Reps]
  exact ⟨v, [], B, [], rfl, by simp, h, rfl, rfl⟩
theorem Reps.nil : Reps K cn H Z [] [] [] := by simp [Reps]
/-- bare trees: nothing is owned, so any choice of places is again so -/
theorem Reps.take : ∀ (n : Nat) (ts : List T) {vs : List V}, Reps K cn H Z ts vs [] → Reps K cn H Z (ts.take n) (vs.take n) []
  | 0, ts, vs, h => by simp [Reps]
  | n + 1, [], vs, h => by
    simp only [Reps] at h
    obtain ⟨rfl, _⟩ := h
    simp [Reps]
  | n + 1, t :: ts, vs, h => by
    simp only [Reps] at h
    obtain ⟨v, r, B, C, rfl, e, h1, h2⟩ := h
    have eb : B = [] ∧ C = [] := by simpa using e.symm
    obtain ⟨rfl, rfl⟩ := eb
    simp only [List.take_succ_cons, Reps]
    exact ⟨v, r.take n, [], [], rfl, rfl, h1, Reps.take n ts h2⟩
theorem Reps.drop : ∀ (n : Nat) (ts : List T) {vs : List V}, Reps K cn H Z ts vs [] → Reps K cn H Z (ts.drop n) (vs.drop n) []
  | 0, ts, vs, h => h
  | n + 1, [], vs, h => by
    simp only [Reps] at h
    obtain ⟨rfl, _⟩ := h
    simp [Reps]
  | n + 1, t :: ts, vs, h => by
    simp only [Reps] at h
    obtain ⟨v, r, B, C, rfl, e, h1, h2⟩ := h
    have eb : B = [] ∧ C = [] := by simpa using e.symm
    obtain ⟨rfl, rfl⟩ := eb
    simpa using Reps.drop n ts h2
theorem Reps.reverse : ∀ (ts : List T) {vs : List V}, Reps K cn H Z ts vs [] → Reps K cn H Z ts.reverse vs.reverse []
  | [], vs, h => by
    simp only [Reps] at h
    obtain ⟨rfl, _⟩ := h
    simp [Reps]
  | t :: ts, vs, h => by
    simp only [Reps] at h
    obtain ⟨v, r, B, C, rfl, e, h1, h2⟩ := h
    have eb : B = [] ∧ C = [] := by simpa using e.symm
    obtain ⟨rfl, rfl⟩ := eb
    simp only [List.reverse_cons]
    exact Reps.append _ (Reps.reverse ts h2) (Reps.one h1)
end
end TL

/-! TREES 2: frames of trees; what a piece of code may do; the judgements -/
namespace TL
open PySem PySem.Spec PyProof.Rows L2
abbrev St := L2.St
theorem same_new {H : Hp} {p : Addr} (h : H p = none) (o : HO) : Same H (L2.upd H p o) := fun b u q => by rw [upd_ne (ne_of_none q h)]; exact q
theorem nomem {α : Type} {P : α → Prop} : ∀ b ∈ ([] : List α), P b := fun _ h => nomatch h

def Slot (K : PySem.W.Frag) (cn : Str → Option Addr) (H : Hp) (Z : Addr → Prop) (o : Option T) (w : Option V) (A : List Addr) : Prop :=
  match o with
  | none => A = []
  | some t => ∃ v, w = some v ∧ Rep K cn H Z t v A
def Slots (K : PySem.W.Frag) (cn : Str → Option Addr) (H : Hp) (Z : Addr → Prop) : Fr → St → List (List Addr) → Prop
  | [], σ, As => σ = [] ∧ As = []
  | o :: ρ, σ, As => ∃ w σ' A As', σ = w :: σ' ∧ As = A :: As' ∧ Slot K cn H Z o w A ∧ Slots K cn H Z ρ σ' As'
structure Frm (K : PySem.W.Frag) (cn : Str → Option Addr) (H : Hp) (Z : Addr → Prop) (ρ : Fr) (σ : St) (As : List (List Addr)) : Prop where
  sl : Slots K cn H Z ρ σ As
  nd : As.flatten.Nodup
  nz : ∀ a ∈ As.flatten, ¬ Z a
  zi : ∀ a, Z a → H a ≠ none
/-- from one point of a run to a later one -/
structure Ev (As : List (List Addr)) (H : Hp) (Z : Addr → Prop) (As' : List (List Addr)) (H' : Hp) (Z' : Addr → Prop) : Prop where
  keep : ∀ a o, H a = some o → a ∉ As.flatten → H' a = some o
  own : ∀ a ∈ As'.flatten, a ∈ As.flatten ∨ H a = none
  zz : ∀ a, Z a → Z' a
  zn : ∀ a, Z' a → Z a ∨ a ∈ As.flatten ∨ H a = none
  dom : ∀ a, H' a = none → H a = none
theorem Ev.refl {As : List (List Addr)} {H : Hp} {Z : Addr → Prop} : Ev As H Z As H Z :=
  ⟨fun _ _ h _ => h, fun _ h => .inl h, fun _ h => h, fun _ h => .inl h, fun _ h => h⟩
theorem Ev.trans {As As1 As2 : List (List Addr)} {H H1 H2 : Hp} {Z Z1 Z2 : Addr → Prop} (a : Ev As H Z As1 H1 Z1) (b : Ev As1 H1 Z1 As2 H2 Z2) : Ev As H Z As2 H2 Z2 where
  keep := fun x o h n => b.keep x o (a.keep x o h n) fun q => by
    rcases a.own x q with q | q
    · exact n q
    · rw [h] at q; cases q
  own := fun x h => by
    rcases b.own x h with q | q
    · exact a.own x q
    · exact .inr (a.dom x q)
  zz := fun x h => b.zz x (a.zz x h)
  zn := fun x h => by
    rcases b.zn x h with q | q | q
    · exact a.zn x q
    · exact .inr (a.own x q)
    · exact .inr (.inr (a.dom x q))
  dom := fun x h => a.dom x (b.dom x h)

/-- behind an expression: its tree t, the value v; what the tree owns (B) is new, or moved out of the slots mv -/
structure Post (K : PySem.W.Frag) (cn : Str → Option Addr) (As : List (List Addr)) (H : Hp) (Z : Addr → Prop) (mv : List Nat) (H' : Hp) (Z' : Addr → Prop) (t : T) (v : V) (B : List Addr) : Prop where
  same : Same H H'
  zz : ∀ a, Z a → Z' a
  zn : ∀ a, Z' a → Z a ∨ H a = none
  zi : ∀ a, Z' a → H' a ≠ none
  rep : Rep K cn H' Z' t v B
  nd : B.Nodup
  bz : ∀ b ∈ B, ¬ Z' b
  bn : ∀ b ∈ B, H b = none ∨ ∃ i ∈ mv, b ∈ As.getD i []
/-- behind an expression whose tree is only looked at -/
structure PostB (K : PySem.W.Frag) (cn : Str → Option Addr) (H : Hp) (Z : Addr → Prop) (H' : Hp) (Z' : Addr → Prop) (t : T) (v : V) (B : List Addr) : Prop where
  same : Same H H'
  zz : ∀ a, Z a → Z' a
  zn : ∀ a, Z' a → Z a ∨ H a = none
  zi : ∀ a, Z' a → H' a ≠ none
  rep : Rep K cn H' Z' t v B
/-- behind a refusal -/
structure XPost (K : PySem.W.Frag) (cn : Str → Option Addr) (As : List (List Addr)) (H : Hp) (Z : Addr → Prop) (x : Exc) (C : Addr) (a : Option Addr) (H' : Hp) (Z' : Addr → Prop) : Prop where
  ev : Ev As H Z [] H' Z'
  cls : cn x.c = some C
  zi : ∀ a, Z' a → H' a ≠ none
  flds : ∃ dx vs, a = some dx ∧ H' dx = some (.xd (x.ns.zip vs)) ∧ x.ns.length = vs.length ∧ Reps K cn H' Z' x.xs vs []

section
variable (K : PySem.W.Frag) (cn : Str → Option Addr) (E : XK)
def WpX (As : List (List Addr)) (H : Hp) (Z : Addr → Prop) (x : Exc) : Prop := ∀ C a H' Z', XPost K cn As H Z x C a H' Z' → E (.ref C) a H'
def WpE (As : List (List Addr)) (H : Hp) (Z : Addr → Prop) (mv : List Nat) (Q : VK) : Res T → Prop
  | .ok t => ∀ v H' Z' B, Post K cn As H Z mv H' Z' t v B → Q v H'
  | .ex x => WpX K cn E As H Z x
  | .no => False
def WpB (As : List (List Addr)) (H : Hp) (Z : Addr → Prop) (Q : VK) : Res T → Prop
  | .ok t => ∀ v H' Z' B, PostB K cn H Z H' Z' t v B → Q v H'
  | .ex x => WpX K cn E As H Z x
  | .no => False
/-- a test -/
structure PostT (H : Hp) (Z : Addr → Prop) (H' : Hp) (Z' : Addr → Prop) : Prop where
  same : Same H H'
  zz : ∀ a, Z a → Z' a
  zn : ∀ a, Z' a → Z a ∨ H a = none
  zi : ∀ a, Z' a → H' a ≠ none
def WpT (As : List (List Addr)) (H : Hp) (Z : Addr → Prop) (Q : Bool → Hp → Prop) : Res Bool → Prop
  | .ok b => ∀ H' Z', PostT H Z H' Z' → Q b H'
  | .ex x => WpX K cn E As H Z x
  | .no => False
/-- behind a return -/
structure PostR (As : List (List Addr)) (H : Hp) (Z : Addr → Prop) (t : T) (v : V) (H' : Hp) (Z' : Addr → Prop) (B : List Addr) : Prop where
  ev : Ev As H Z [B] H' Z'
  rep : Rep K cn H' Z' t v B
  nd : B.Nodup
  bz : ∀ b ∈ B, ¬ Z' b
  zi : ∀ a, Z' a → H' a ≠ none
def Wp (As : List (List Addr)) (H : Hp) (Z : Addr → Prop) (D : Ends) : Out → Prop
  | .nx ρ => ∀ σ' As' H' Z', Frm K cn H' Z' ρ σ' As' → Ev As H Z As' H' Z' → D.nx σ' H'
  | .bk ρ => ∀ σ' As' H' Z', Frm K cn H' Z' ρ σ' As' → Ev As H Z As' H' Z' → D.bk σ' H'
  | .ct ρ => ∀ σ' As' H' Z', Frm K cn H' Z' ρ σ' As' → Ev As H Z As' H' Z' → D.ct σ' H'
  | .rt t => ∀ v H' Z' B, PostR K cn As H Z t v H' Z' B → D.rt v H'
  | .ex x => WpX K cn E As H Z x
  | .no => False
/-- te is told by d -/
def RE (mv : List Nat) (te : TE) (d : Fr → Res T) : Prop := ∀ As H Z ρ σ, Frm K cn H Z ρ σ As → ∀ Q, WpE K cn E As H Z mv Q (d ρ) → te σ H Q
def RB (te : TE) (d : Fr → Res T) : Prop := ∀ As H Z ρ σ, Frm K cn H Z ρ σ As → ∀ Q, WpB K cn E As H Z Q (d ρ) → te σ H Q
def RT (tt : TT) (d : Fr → Res Bool) : Prop := ∀ As H Z ρ σ, Frm K cn H Z ρ σ As → ∀ Q, WpT K cn E As H Z Q (d ρ) → tt σ H Q
def RS (ts : TS) (d : Fr → Out) : Prop := ∀ As H Z ρ σ, Frm K cn H Z ρ σ As → ∀ D, Wp K cn E As H Z D (d ρ) → ts D σ H
end

section
variable {K : PySem.W.Frag} {cn : Str → Option Addr} {E : XK} {As As1 : List (List Addr)} {H H1 : Hp} {Z Z1 : Addr → Prop} {ρ : Fr} {σ : St}
theorem WpX.ev {x : Exc} (h : WpX K cn E As H Z x) (e : Ev As H Z As1 H1 Z1) : WpX K cn E As1 H1 Z1 x := fun C a H' Z' p => h C a H' Z' ⟨e.trans p.ev, p.cls, p.zi, p.flds⟩
theorem Wp.ev {D : Ends} {o : Out} (h : Wp K cn E As H Z D o) (e : Ev As H Z As1 H1 Z1) : Wp K cn E As1 H1 Z1 D o := by
  cases o with
  | nx ρ => exact fun σ' As' H' Z' f q => h σ' As' H' Z' f (e.trans q)
  | bk ρ => exact fun σ' As' H' Z' f q => h σ' As' H' Z' f (e.trans q)
  | ct ρ => exact fun σ' As' H' Z' f q => h σ' As' H' Z' f (e.trans q)
  | rt t => exact fun v H' Z' B p => h v H' Z' B ⟨e.trans p.ev, p.rep, p.nd, p.bz, p.zi⟩
  | ex x => exact WpX.ev h e
  | no => exact h
/-- nothing but new things -/
structure Mo (H : Hp) (Z : Addr → Prop) (H' : Hp) (Z' : Addr → Prop) : Prop where
  same : Same H H'
  zz : ∀ a, Z a → Z' a
  zn : ∀ a, Z' a → Z a ∨ H a = none
  zi : ∀ a, Z' a → H' a ≠ none
theorem Mo.ev {H' : Hp} {Z' : Addr → Prop} (m : Mo H Z H' Z') : Ev As H Z As H' Z' :=
  ⟨fun a o h _ => m.same a o h, fun _ h => .inl h, m.zz, fun a h => (m.zn a h).imp_right .inr, fun a h => m.same.free h⟩
theorem Mo.trans {H2 : Hp} {Z2 : Addr → Prop} (a : Mo H Z H1 Z1) (b : Mo H1 Z1 H2 Z2) : Mo H Z H2 Z2 :=
  ⟨a.same.trans b.same, fun x h => b.zz x (a.zz x h), fun x h => by
    rcases b.zn x h with q | q
    · exact a.zn x q
    · exact .inr (a.same.free q), b.zi⟩
theorem Frm.mo0 (F : Frm K cn H Z ρ σ As) : Mo H Z H Z := ⟨Same.refl _, fun _ h => h, fun _ h => .inl h, F.zi⟩
theorem Post.mo {H' : Hp} {Z' : Addr → Prop} {mv : List Nat} {t : T} {v : V} {B : List Addr} (p : Post K cn As H Z mv H' Z' t v B) : Mo H Z H' Z' := ⟨p.same, p.zz, p.zn, p.zi⟩
theorem PostB.mo {H' : Hp} {Z' : Addr → Prop} {t : T} {v : V} {B : List Addr} (p : PostB K cn H Z H' Z' t v B) : Mo H Z H' Z' := ⟨p.same, p.zz, p.zn, p.zi⟩
theorem PostT.mo {H' : Hp} {Z' : Addr → Prop} (p : PostT H Z H' Z') : Mo H Z H' Z' := ⟨p.same, p.zz, p.zn, p.zi⟩
theorem Mo.postT {H' : Hp} {Z' : Addr → Prop} (p : Mo H Z H' Z') : PostT H Z H' Z' := ⟨p.same, p.zz, p.zn, p.zi⟩
theorem Slot.mo {H' : Hp} {Z' : Addr → Prop} {o : Option T} {w : Option V} {A : List Addr} (h : Slot K cn H Z o w A) (s : Same H H') (hz : ∀ a, Z a → Z' a) : Slot K cn H' Z' o w A := by
  cases o with
  | none => exact h
  | some t => obtain ⟨v, e, r⟩ := h; exact ⟨v, e, r.same s hz⟩
theorem Slots.mo {H' : Hp} {Z' : Addr → Prop} (s : Same H H') (hz : ∀ a, Z a → Z' a) : ∀ {ρ : Fr} {σ : St} {As : List (List Addr)}, Slots K cn H Z ρ σ As → Slots K cn H' Z' ρ σ As
  | [], _, _, h => h
  | o :: ρ, _, _, h => by
    obtain ⟨w, σ', A, As', rfl, rfl, h1, h2⟩ := h
    exact ⟨w, σ', A, As', rfl, rfl, h1.mo s hz, Slots.mo s hz h2⟩
theorem Slots.dom : ∀ {ρ : Fr} {σ : St} {As : List (List Addr)}, Slots K cn H Z ρ σ As → ∀ a ∈ As.flatten, ∃ o, H a = some o ∧ imm o = false
  | [], _, _, h, a, ha => by obtain ⟨rfl, rfl⟩ := h; simp at ha
  | o :: ρ, _, _, h, a, ha => by
    obtain ⟨w, σ', A, As', rfl, rfl, h1, h2⟩ := h
    rw [List.flatten_cons, List.mem_append] at ha
    rcases ha with ha | ha
    · cases o with
      | none => have : A = [] := h1; subst this; cases ha
      | some t => obtain ⟨v, e, r⟩ := h1; exact r.dom t a ha
    · exact Slots.dom h2 a ha
theorem Frm.mo {H' : Hp} {Z' : Addr → Prop} (F : Frm K cn H Z ρ σ As) (m : Mo H Z H' Z') : Frm K cn H' Z' ρ σ As := by
  refine ⟨F.sl.mo m.same m.zz, F.nd, fun a ha z => ?_, m.zi⟩
  rcases m.zn a z with q | q
  · exact F.nz a ha q
  · obtain ⟨o, e, _⟩ := F.sl.dom a ha
    rw [e] at q
    cases q
theorem WpE.mo {H' : Hp} {Z' : Addr → Prop} {mv : List Nat} {Q : VK} {r : Res T} (F : Frm K cn H Z ρ σ As) (h : WpE K cn E As H Z mv Q r) (m : Mo H Z H' Z') : WpE K cn E As H' Z' mv Q r := by
  cases r with
  | ok t => exact fun v H2 Z2 B p => h v H2 Z2 B ⟨m.same.trans p.same, fun a q => p.zz a (m.zz a q), (m.trans p.mo).zn, p.zi, p.rep, p.nd, p.bz, fun b hb => (p.bn b hb).imp_left m.same.free⟩
  | ex x => exact WpX.ev h m.ev
  | no => exact h
theorem WpB.mo {H' : Hp} {Z' : Addr → Prop} {Q : VK} {r : Res T} (h : WpB K cn E As H Z Q r) (m : Mo H Z H' Z') : WpB K cn E As H' Z' Q r := by
  cases r with
  | ok t => exact fun v H2 Z2 B p => h v H2 Z2 B ⟨m.same.trans p.same, fun a q => p.zz a (m.zz a q), (m.trans p.mo).zn, p.zi, p.rep⟩
  | ex x => exact WpX.ev h m.ev
  | no => exact h
theorem WpT.mo {H' : Hp} {Z' : Addr → Prop} {Q : Bool → Hp → Prop} {r : Res Bool} (h : WpT K cn E As H Z Q r) (m : Mo H Z H' Z') : WpT K cn E As H' Z' Q r := by
  cases r with
  | ok b => exact fun H2 Z2 p => h H2 Z2 (m.trans p.mo).postT
  | ex x => exact WpX.ev h m.ev
  | no => exact h
theorem Slots.get : ∀ {ρ : Fr} {σ : St} {As : List (List Addr)} {i : Nat} {t : T}, Slots K cn H Z ρ σ As → ρ[i]? = some (some t) → ∃ v, σ[i]? = some (some v) ∧ Rep K cn H Z t v (As.getD i [])
  | [], _, _, _, _, h, e => by simp at e
  | o :: ρ, _, _, 0, t, h, e => by
    obtain ⟨w, σ', A, As', rfl, rfl, h1, h2⟩ := h
    simp at e
    subst e
    obtain ⟨v, rfl, r⟩ := h1
    exact ⟨v, rfl, r⟩
  | o :: ρ, _, _, i + 1, t, h, e => by
    obtain ⟨w, σ', A, As', rfl, rfl, h1, h2⟩ := h
    obtain ⟨v, e1, e2⟩ := Slots.get (i := i) h2 (by simpa using e)
    exact ⟨v, by simpa using e1, by simpa using e2⟩
theorem Slots.set {t : T} {v : V} {B : List Addr} (r : Rep K cn H Z t v B) : ∀ {ρ : Fr} {σ : St} {As : List (List Addr)} (i : Nat), Slots K cn H Z ρ σ As → Slots K cn H Z (ρ.set i (some t)) (σ.set i (some v)) (As.set i B)
  | [], _, _, _, h => by obtain ⟨rfl, rfl⟩ := h; exact ⟨rfl, rfl⟩
  | o :: ρ, _, _, 0, h => by
    obtain ⟨w, σ', A, As', rfl, rfl, h1, h2⟩ := h
    exact ⟨some v, σ', B, As', rfl, rfl, ⟨v, rfl, r⟩, h2⟩
  | o :: ρ, _, _, i + 1, h => by
    obtain ⟨w, σ', A, As', rfl, rfl, h1, h2⟩ := h
    exact ⟨w, σ'.set i (some v), A, As'.set i B, rfl, rfl, h1, Slots.set r i h2⟩
theorem Slots.kill : ∀ {ρ : Fr} {σ : St} {As : List (List Addr)} (i : Nat), Slots K cn H Z ρ σ As → Slots K cn H Z (ρ.set i none) σ (As.set i [])
  | [], _, _, _, h => by obtain ⟨rfl, rfl⟩ := h; exact ⟨rfl, rfl⟩
  | o :: ρ, _, _, 0, h => by
    obtain ⟨w, σ', A, As', rfl, rfl, h1, h2⟩ := h
    exact ⟨w, σ', [], As', rfl, rfl, rfl, h2⟩
  | o :: ρ, _, _, i + 1, h => by
    obtain ⟨w, σ', A, As', rfl, rfl, h1, h2⟩ := h
    exact ⟨w, σ', A, As'.set i [], rfl, rfl, h1, Slots.kill i h2⟩
/-- the value's side alone is forgotten -/
theorem Slots.kill2 (o : Option V) : ∀ {ρ : Fr} {σ : St} {As : List (List Addr)} (i : Nat), Slots K cn H Z ρ σ As → Slots K cn H Z (ρ.set i none) (σ.set i o) (As.set i [])
  | [], _, _, _, h => by obtain ⟨rfl, rfl⟩ := h; exact ⟨rfl, rfl⟩
  | o :: ρ, _, _, 0, h => by
    obtain ⟨w, σ', A, As', rfl, rfl, h1, h2⟩ := h
    exact ⟨_, σ', [], As', rfl, rfl, rfl, h2⟩
  | o :: ρ, _, _, i + 1, h => by
    obtain ⟨w, σ', A, As', rfl, rfl, h1, h2⟩ := h
    exact ⟨w, _, A, As'.set i [], rfl, rfl, h1, Slots.kill2 _ i h2⟩
theorem flat_set_mem {B : List Addr} {a : Addr} : ∀ {As : List (List Addr)} {i : Nat}, a ∈ (As.set i B).flatten → a ∈ B ∨ a ∈ As.flatten
  | [], _, h => by simp at h
  | A :: As, 0, h => by
    rw [List.set_cons_zero, List.flatten_cons, List.mem_append] at h
    rw [List.flatten_cons, List.mem_append]
    exact h.imp_right .inr
  | A :: As, i + 1, h => by
    rw [List.set_cons_succ, List.flatten_cons, List.mem_append] at h
    rw [List.flatten_cons, List.mem_append]
    rcases h with h | h
    · exact .inr (.inl h)
    · exact (flat_set_mem h).imp_right .inr
theorem flat_set_nd {B : List Addr} (hB : B.Nodup) : ∀ {As : List (List Addr)} {i : Nat}, As.flatten.Nodup → (∀ b ∈ B, b ∈ As.flatten → b ∈ As.getD i []) → (As.set i B).flatten.Nodup
  | [], _, h, _ => h
  | A :: As, 0, h, d => by
    rw [List.flatten_cons, List.nodup_append] at h
    rw [List.set_cons_zero, List.flatten_cons, List.nodup_append]
    refine ⟨hB, h.2.1, fun b hb c hc e => ?_⟩
    subst e
    have q := d b hb (by rw [List.flatten_cons, List.mem_append]; exact .inr hc)
    exact h.2.2 b (by simpa using q) b hc rfl
  | A :: As, i + 1, h, d => by
    rw [List.flatten_cons, List.nodup_append] at h
    rw [List.set_cons_succ, List.flatten_cons, List.nodup_append]
    have d' : ∀ b ∈ B, b ∈ As.flatten → b ∈ As.getD i [] := fun b hb hc => by
      have q := d b hb (by rw [List.flatten_cons, List.mem_append]; exact .inr hc)
      simpa using q
    refine ⟨h.1, flat_set_nd hB h.2.1 d', fun a ha c hc e => ?_⟩
    subst e
    rcases flat_set_mem hc with q | q
    · have z := d a q (by rw [List.flatten_cons, List.mem_append]; exact .inl ha)
      have z' : a ∈ As.getD i [] := by simpa using z
      have z2 : a ∈ As.flatten := by
        rw [List.getD_eq_getElem?_getD] at z'
        cases e : As[i]? with
        | none => rw [e] at z'; cases z'
        | some C => rw [e] at z'; exact List.mem_flatten.mpr ⟨C, List.mem_of_getElem? e, z'⟩
      exact h.2.2 a ha a z2 rfl
    · exact h.2.2 a ha a q rfl
theorem mem_getD_flat {a : Addr} {i : Nat} (h : a ∈ As.getD i []) : a ∈ As.flatten := by
  rw [List.getD_eq_getElem?_getD] at h
  cases e : As[i]? with
  | none => rw [e] at h; cases h
  | some C => rw [e] at h; exact List.mem_flatten.mpr ⟨C, List.mem_of_getElem? e, h⟩
/-- a slot gets a new tree -/
theorem Frm.set {t : T} {v : V} {B : List Addr} (F : Frm K cn H Z ρ σ As) (r : Rep K cn H Z t v B) (nd : B.Nodup) (bz : ∀ b ∈ B, ¬ Z b) (i : Nat) (fr : ∀ b ∈ B, b ∈ As.flatten → b ∈ As.getD i []) : Frm K cn H Z (ρ.set i (some t)) (σ.set i (some v)) (As.set i B) :=
  ⟨F.sl.set r i, flat_set_nd nd F.nd fr, fun a ha => (flat_set_mem ha).elim (bz a) (F.nz a), F.zi⟩
theorem Frm.kill (F : Frm K cn H Z ρ σ As) (i : Nat) : Frm K cn H Z (ρ.set i none) σ (As.set i []) :=
  ⟨F.sl.kill i, flat_set_nd List.nodup_nil F.nd (fun b hb => by cases hb), fun a ha => (flat_set_mem ha).elim (fun q => by cases q) (F.nz a), F.zi⟩
/-- slots moved out -/
def kills : List Nat → Fr → Fr
  | [], ρ => ρ
  | i :: is, ρ => kills is (ρ.set i none)
def killA : List Nat → List (List Addr) → List (List Addr)
  | [], As => As
  | i :: is, As => killA is (As.set i [])
theorem Frm.kills (mv : List Nat) : ∀ {ρ : Fr} {As : List (List Addr)}, Frm K cn H Z ρ σ As → Frm K cn H Z (TL.kills mv ρ) σ (killA mv As) := by
  induction mv with
  | nil => exact fun F => F
  | cons i is ih => exact fun F => ih (F.kill i)
theorem killA_mem {mv : List Nat} {a : Addr} : ∀ {As : List (List Addr)}, a ∈ (killA mv As).flatten → a ∈ As.flatten := by
  induction mv with
  | nil => exact fun h => h
  | cons i is ih => exact fun h => (flat_set_mem (ih h)).elim (fun q => by cases q) id
theorem killA_out {mv : List Nat} {i : Nat} {a : Addr} : ∀ {As : List (List Addr)}, As.flatten.Nodup → i ∈ mv → a ∈ As.getD i [] → a ∉ (killA mv As).flatten := by
  induction mv with
  | nil => exact fun _ h => by cases h
  | cons j js ih =>
    intro As nd hi ha hm
    by_cases e : i = j
    · subst e
      have h1 := killA_mem (mv := js) (As := As.set i []) hm
      -- a stands in As at i alone
      have : ∀ {As : List (List Addr)} {i : Nat}, As.flatten.Nodup → a ∈ As.getD i [] → a ∉ (As.set i []).flatten := by
        intro As
        induction As with
        | nil => intro i _ h; simp at h
        | cons A As ih2 =>
          intro i nd h hm
          rw [List.flatten_cons, List.nodup_append] at nd
          cases i with
          | zero =>
            rw [List.set_cons_zero, List.flatten_cons, List.nil_append] at hm
            exact nd.2.2 a (by simpa using h) a hm rfl
          | succ i =>
            rw [List.set_cons_succ, List.flatten_cons, List.mem_append] at hm
            have h' : a ∈ As.getD i [] := by simpa using h
            rcases hm with hm | hm
            · exact nd.2.2 a hm a (mem_getD_flat h') rfl
            · exact ih2 nd.2.1 h' hm
      exact this nd ha h1
    · have hi' : i ∈ js := (List.mem_cons.mp hi).resolve_left e
      refine ih (As := As.set j []) (flat_set_nd List.nodup_nil nd (fun b hb => by cases hb)) hi' ?_ hm
      rw [List.getD_eq_getElem?_getD, List.getElem?_set_ne (Ne.symm e), ← List.getD_eq_getElem?_getD]
      exact ha
/-- a slot frozen -/
def frzAt (i : Nat) (ρ : Fr) : Fr := match ρ[i]? with
  | some (some t) => ρ.set i (some (frz t))
  | _ => ρ
theorem Frm.frz (F : Frm K cn H Z ρ σ As) (i : Nat) : ∃ Z' As', Frm K cn H Z' (frzAt i ρ) σ As' ∧ Ev As H Z As' H Z' := by
  unfold frzAt
  cases e : ρ[i]? with
  | none => exact ⟨Z, As, F, Ev.refl⟩
  | some o =>
    cases o with
    | none => exact ⟨Z, As, F, Ev.refl⟩
    | some t =>
      obtain ⟨v, es, r⟩ := F.sl.get e
      let Z' : Addr → Prop := fun a => Z a ∨ a ∈ As.getD i []
      have hz : ∀ a, Z a → Z' a := fun a h => .inl h
      have r' : Rep K cn H Z' (TL.frz t) v [] := Rep.frz t r hz fun a ha => .inr ha
      have sl : Slots K cn H Z' (ρ.set i (some (TL.frz t))) (σ.set i (some v)) (As.set i []) := (F.sl.mo (Same.refl _) hz).set r' i
      have es2 : σ.set i (some v) = σ := by
        apply List.ext_getElem?
        intro j
        by_cases ej : i = j
        · subst ej
          rw [List.getElem?_set_self', es]
          rfl
        · rw [List.getElem?_set_ne ej]
      rw [es2] at sl
      refine ⟨Z', As.set i [], ⟨sl, flat_set_nd List.nodup_nil F.nd (fun b hb => by cases hb), fun a ha z => ?_, fun a z => ?_⟩, ⟨fun _ _ h _ => h, fun a ha => ?_, hz, fun a z => ?_, fun _ h => h⟩⟩
      · rcases z with z | z
        · exact (flat_set_mem ha).elim (fun q => by cases q) (fun q => F.nz a q z)
        · exact killA_out (mv := [i]) F.nd List.mem_cons_self z ha
      · rcases z with z | z
        · exact F.zi a z
        · obtain ⟨o, q, _⟩ := F.sl.dom a (mem_getD_flat z)
          rw [q]
          exact fun h => by cases h
      · exact .inl ((flat_set_mem ha).elim (fun q => by cases q) id)
      · rcases z with z | z
        · exact .inl z
        · exact .inr (.inl (mem_getD_flat z))
end
end TL

/-! TREES 3: expressions, tests, statements, one rule each -/
namespace TL
open PySem PySem.Spec PyProof.Rows L2
section
variable {K : PySem.W.Frag} {cn : Str → Option Addr} {E : XK}

theorem WpB.wpE {As : List (List Addr)} {H : Hp} {Z : Addr → Prop} {Q : VK} {r : Res T} {mv : List Nat} (w : WpB K cn E As H Z Q r) : WpE K cn E As H Z mv Q r := by
  cases r with
  | ok t => exact fun v H' Z' B p => w v H' Z' B ⟨p.same, p.zz, p.zn, p.zi, p.rep⟩
  | ex x => exact w
  | no => exact w
/-- what is made may be looked at -/
theorem RE.rb {mv : List Nat} {te : TE} {d : Fr → Res T} (h : RE K cn E mv te d) : RB K cn E te d := fun As H Z ρ σ F Q w => h As H Z ρ σ F Q w.wpE

/-! ### names -/
def dVar (i : Nat) : Fr → Res T := fun ρ => match ρ[i]? with
  | some (some t) => .ok t
  | _ => .no
theorem rb_var (i : Nat) : RB K cn E (tVar i) (dVar i) := fun As H Z ρ σ F Q w => by
  unfold dVar at w
  cases e : ρ[i]? with
  | none => rw [e] at w; exact False.elim w
  | some o =>
    rw [e] at w
    cases o with
    | none => exact False.elim w
    | some t =>
      obtain ⟨v, es, r⟩ := F.sl.get e
      exact ⟨v, es, w v H Z _ ⟨Same.refl _, fun _ h => h, fun _ h => .inl h, F.zi, r⟩⟩
/-- a name taken for good -/
theorem re_mv (i : Nat) : RE K cn E [i] (tVar i) (dVar i) := fun As H Z ρ σ F Q w => by
  unfold dVar at w
  cases e : ρ[i]? with
  | none => rw [e] at w; exact False.elim w
  | some o =>
    rw [e] at w
    cases o with
    | none => exact False.elim w
    | some t =>
      obtain ⟨v, es, r⟩ := F.sl.get e
      refine ⟨v, es, w v H Z _ ⟨Same.refl _, fun _ h => h, fun _ h => .inl h, F.zi, r, ?_, fun b hb => F.nz b (mem_getD_flat hb), fun b hb => .inr ⟨i, List.mem_cons_self, hb⟩⟩⟩
      have nd := F.nd
      rw [List.getD_eq_getElem?_getD]
      cases q : As[i]? with
      | none => exact List.nodup_nil
      | some C => exact List.Nodup.sublist (List.sublist_flatten_of_mem (List.mem_of_getElem? q)) nd
/-- looked at, and nothing in it is owned -/
def dChk (d : Fr → Res T) : Fr → Res T := fun ρ => (d ρ).bind fun t => if noOwn t = true then .ok t else .no
theorem RB.chk {te : TE} {d : Fr → Res T} (h : RB K cn E te d) : RE K cn E [] te (dChk d) := fun As H Z ρ σ F Q w => h As H Z ρ σ F Q (by
  unfold dChk at w
  cases e : d ρ with
  | ok t =>
    rw [e] at w
    intro v H' Z' B p
    by_cases c : noOwn t = true
    · simp only [Res.bind, if_pos c] at w
      have := p.rep.bare t c
      subst this
      exact w v H' Z' [] ⟨p.same, p.zz, p.zn, p.zi, p.rep, List.nodup_nil, nomem, nomem⟩
    · simp only [Res.bind, if_neg c] at w
      exact False.elim w
  | ex x => rw [e] at w; exact w
  | no => rw [e] at w; exact w)
theorem re_var (i : Nat) : RE K cn E [] (tVar i) (dChk (dVar i)) := (rb_var i).chk
/-- made, and frozen on the spot -/
def dFrz (d : Fr → Res T) : Fr → Res T := fun ρ => (d ρ).bind fun t => .ok (frz t)
theorem RE.frz {te : TE} {d : Fr → Res T} (h : RE K cn E [] te d) : RE K cn E [] te (dFrz d) := fun As H Z ρ σ F Q w => h As H Z ρ σ F Q (by
  unfold dFrz at w
  cases e : d ρ with
  | ok t =>
    rw [e] at w
    intro v H' Z' B p
    refine w v H' (fun a => Z' a ∨ a ∈ B) [] ⟨p.same, fun a h => .inl (p.zz a h), fun a h => ?_, fun a h => ?_, Rep.frz t p.rep (fun a h => .inl h) (fun a h => .inr h), List.nodup_nil, nomem, nomem⟩
    · rcases h with h | h
      · exact p.zn a h
      · rcases p.bn a h with q | ⟨i, q, _⟩
        · exact .inr q
        · cases q
    · rcases h with h | h
      · exact p.zi a h
      · obtain ⟨o, q, _⟩ := p.rep.dom t a h
        rw [q]
        exact (fun z => nomatch z)
  | ex x => rw [e] at w; exact w
  | no => rw [e] at w; exact w)

/-! ### constants -/
def dC (t : T) : Fr → Res T := fun _ => .ok t
theorem re_c {t : T} {v : V} (h : ∀ H Z, Rep K cn H Z t v []) : RE K cn E [] (tC v) (dC t) := fun As H Z ρ σ F Q w =>
  w v H Z [] ⟨Same.refl _, fun _ h => h, fun _ h => .inl h, F.zi, h H Z, List.nodup_nil, nomem, nomem⟩
theorem re_int {i : Int} : RE K cn E [] (tC (.int i)) (dC (.int i)) := re_c fun H Z => by simp [Rep]
theorem re_str {i : Str} : RE K cn E [] (tC (.str i)) (dC (.str i)) := re_c fun H Z => by simp [Rep]
theorem re_bl {i : Bool} : RE K cn E [] (tC (.bl i)) (dC (.bl i)) := re_c fun H Z => by simp [Rep]
theorem re_non : RE K cn E [] (tC .non) (dC .non) := re_c fun H Z => by simp [Rep]
theorem re_ty {n : String} : RE K cn E [] (tC (.ty n)) (dC (.ty n)) := re_c fun H Z => by simp [Rep]

/-! ### operators -/
/-- an operator on two values that are looked at -/
def R2R (K : PySem.W.Frag) (cn : Str → Option Addr) (r : R2) (f : T → T → Res T) : Prop :=
  ∀ (E : XK) (As : List (List Addr)) (H : Hp) (Z : Addr → Prop) (t u : T) (x y : V) (A B : List Addr) (Q : VK), (∀ a, Z a → H a ≠ none) → Rep K cn H Z t x A → Rep K cn H Z u y B → WpE K cn E As H Z [] Q (f t u) → r x y H Q
def dBin (f : T → T → Res T) (a b : Fr → Res T) : Fr → Res T := fun ρ => (a ρ).bind fun x => (b ρ).bind fun y => f x y
theorem re_op {r : R2} {f : T → T → Res T} {ta tb : TE} {a b : Fr → Res T} (hr : R2R K cn r f) (ha : RB K cn E ta a) (hb : RB K cn E tb b) : RE K cn E [] (tOp r ta tb) (dBin f a b) := fun As H Z ρ σ F Q w => by
  unfold dBin at w
  refine ha As H Z ρ σ F _ ?_
  cases e : a ρ with
  | ok t =>
    rw [e] at w
    intro v H1 Z1 B p
    refine hb As H1 Z1 ρ σ (F.mo p.mo) _ ?_
    simp only [Res.bind] at w
    cases e2 : b ρ with
    | ok u =>
      rw [e2] at w
      intro v2 H2 Z2 B2 p2
      exact hr E As H2 Z2 t u v v2 B B2 Q p2.zi (p.rep.same p2.same p2.zz) p2.rep (w.mo F (p.mo.trans p2.mo))
    | ex x => rw [e2] at w; exact WpX.ev w p.mo.ev
    | no => rw [e2] at w; exact w
  | ex x => rw [e] at w; exact w
  | no => rw [e] at w; exact w
def dUn (f : T → Res T) (a : Fr → Res T) : Fr → Res T := fun ρ => (a ρ).bind f
def R1R (K : PySem.W.Frag) (cn : Str → Option Addr) (r : V → Hp → VK → Prop) (f : T → Res T) : Prop :=
  ∀ (E : XK) (As : List (List Addr)) (H : Hp) (Z : Addr → Prop) (t : T) (x : V) (A : List Addr) (Q : VK), (∀ a, Z a → H a ≠ none) → Rep K cn H Z t x A → WpE K cn E As H Z [] Q (f t) → r x H Q
theorem re_un {r : V → Hp → VK → Prop} {f : T → Res T} {ta : TE} {a : Fr → Res T} (hr : R1R K cn r f) (ha : RB K cn E ta a) : RE K cn E [] (tUn r ta) (dUn f a) := fun As H Z ρ σ F Q w => by
  unfold dUn at w
  refine ha As H Z ρ σ F _ ?_
  cases e : a ρ with
  | ok t =>
    rw [e] at w
    exact fun v H1 Z1 B p => hr E As H1 Z1 t v B Q p.zi p.rep (WpE.mo F w p.mo)
  | ex x => rw [e] at w; exact w
  | no => rw [e] at w; exact w
/-- a op1 b op2 c -/
def dChain (f g : T → T → Res T) (a b c : Fr → Res T) : Fr → Res T := fun ρ => (a ρ).bind fun x => (b ρ).bind fun y => (f x y).bind fun k => match k with
  | .bl true => (c ρ).bind fun z => g y z
  | .bl false => .ok (.bl false)
  | _ => .no
theorem WpE.bl {As : List (List Addr)} {H : Hp} {Z : Addr → Prop} {b : Bool} {Q : VK} (w : WpE K cn E As H Z [] Q (.ok (.bl b))) (zi : ∀ a, Z a → H a ≠ none) : Q (.bl b) H :=
  w (.bl b) H Z [] ⟨Same.refl _, fun _ h => h, fun _ h => .inl h, zi, by simp [Rep], List.nodup_nil, nomem, nomem⟩
theorem re_chain {r r' : R2} {f g : T → T → Res T} {ta tb tc : TE} {a b c : Fr → Res T} (hr : R2R K cn r f) (hr' : R2R K cn r' g) (ha : RB K cn E ta a) (hb : RB K cn E tb b) (hc : RB K cn E tc c) : RE K cn E [] (tChain r r' ta tb tc) (dChain f g a b c) := fun As H Z ρ σ F Q w => by
  unfold dChain at w
  refine ha As H Z ρ σ F _ ?_
  cases e : a ρ with
  | ok t =>
    rw [e] at w
    intro v H1 Z1 B p
    refine hb As H1 Z1 ρ σ (F.mo p.mo) _ ?_
    simp only [Res.bind] at w
    cases e2 : b ρ with
    | ok u =>
      rw [e2] at w
      intro v2 H2 Z2 B2 p2
      refine hr E As H2 Z2 t u v v2 B B2 _ p2.zi (p.rep.same p2.same p2.zz) p2.rep ?_
      simp only at w
      cases e3 : f t u with
      | ok k =>
        rw [e3] at w
        intro v3 H3 Z3 B3 p3
        have m3 := (p.mo.trans p2.mo).trans p3.mo
        cases k with
        | bl k =>
          have q := p3.rep
          simp only [Rep] at q
          obtain ⟨rfl, rfl⟩ := q
          refine ⟨k, rfl, ?_⟩
          cases k with
          | true =>
            rw [if_pos rfl]
            refine hc As H3 Z3 ρ σ (F.mo m3) _ ?_
            simp only at w
            cases e4 : c ρ with
            | ok z =>
              rw [e4] at w
              intro v4 H4 Z4 B4 p4
              exact hr' E As H4 Z4 u z v2 v4 B2 B4 Q p4.zi (p2.rep.same (p3.same.trans p4.same) (fun a h => p4.zz a (p3.zz a h))) p4.rep (WpE.mo F w (m3.trans p4.mo))
            | ex x => rw [e4] at w; exact WpX.ev w m3.ev
            | no => rw [e4] at w; exact w
          | false =>
            rw [if_neg (by decide)]
            exact WpE.bl (WpE.mo F w m3) p3.zi
        | _ => exact False.elim w
      | ex x => rw [e3] at w; exact WpX.ev w (p.mo.trans p2.mo).ev
      | no => rw [e3] at w; exact w
    | ex x => rw [e2] at w; exact WpX.ev w p.mo.ev
    | no => rw [e2] at w; exact w
  | ex x => rw [e] at w; exact w
  | no => rw [e] at w; exact w

/-! ### and, or, not, a choice -/
def dAndV (a b : Fr → Res T) : Fr → Res T := fun ρ => (a ρ).bind fun x => match x with
  | .bl true => b ρ
  | .bl false => .ok (.bl false)
  | _ => .no
def dOrV (a b : Fr → Res T) : Fr → Res T := fun ρ => (a ρ).bind fun x => match x with
  | .bl true => .ok (.bl true)
  | .bl false => b ρ
  | _ => .no
def dNotV (a : Fr → Res T) : Fr → Res T := fun ρ => (a ρ).bind fun x => match x with
  | .bl b => .ok (.bl (!b))
  | _ => .no
theorem re_andV {ta tb : TE} {a b : Fr → Res T} (ha : RB K cn E ta a) (hb : RE K cn E [] tb b) : RE K cn E [] (tAndV ta tb) (dAndV a b) := fun As H Z ρ σ F Q w => by
  unfold dAndV at w
  refine ha As H Z ρ σ F _ ?_
  cases e : a ρ with
  | ok t =>
    rw [e] at w
    intro v H1 Z1 B p
    cases t with
    | bl k =>
      have q := p.rep
      simp only [Rep] at q
      obtain ⟨rfl, rfl⟩ := q
      refine ⟨k, rfl, ?_⟩
      cases k with
      | true => rw [if_pos rfl]; exact hb As H1 Z1 ρ σ (F.mo p.mo) Q (WpE.mo F w p.mo)
      | false => rw [if_neg (by decide)]; exact WpE.bl (WpE.mo F w p.mo) p.zi
    | _ => exact False.elim w
  | ex x => rw [e] at w; exact w
  | no => rw [e] at w; exact w
theorem re_orV {ta tb : TE} {a b : Fr → Res T} (ha : RB K cn E ta a) (hb : RE K cn E [] tb b) : RE K cn E [] (tOrV ta tb) (dOrV a b) := fun As H Z ρ σ F Q w => by
  unfold dOrV at w
  refine ha As H Z ρ σ F _ ?_
  cases e : a ρ with
  | ok t =>
    rw [e] at w
    intro v H1 Z1 B p
    cases t with
    | bl k =>
      have q := p.rep
      simp only [Rep] at q
      obtain ⟨rfl, rfl⟩ := q
      refine ⟨k, rfl, ?_⟩
      cases k with
      | false => rw [if_neg (by decide)]; exact hb As H1 Z1 ρ σ (F.mo p.mo) Q (WpE.mo F w p.mo)
      | true => rw [if_pos rfl]; exact WpE.bl (WpE.mo F w p.mo) p.zi
    | _ => exact False.elim w
  | ex x => rw [e] at w; exact w
  | no => rw [e] at w; exact w
theorem re_notV {ta : TE} {a : Fr → Res T} (ha : RB K cn E ta a) : RE K cn E [] (tNotV ta) (dNotV a) := fun As H Z ρ σ F Q w => by
  unfold dNotV at w
  refine ha As H Z ρ σ F _ ?_
  cases e : a ρ with
  | ok t =>
    rw [e] at w
    intro v H1 Z1 B p
    cases t with
    | bl k =>
      have q := p.rep
      simp only [Rep] at q
      obtain ⟨rfl, rfl⟩ := q
      exact ⟨k, rfl, WpE.bl (WpE.mo F w p.mo) p.zi⟩
    | _ => exact False.elim w
  | ex x => rw [e] at w; exact w
  | no => rw [e] at w; exact w
def dIf (c : Fr → Res Bool) (a b : Fr → Res T) : Fr → Res T := fun ρ => (c ρ).bind fun k => if k = true then a ρ else b ρ
theorem re_if {tt : TT} {ta tb : TE} {c : Fr → Res Bool} {a b : Fr → Res T} (hc : RT K cn E tt c) (ha : RE K cn E [] ta a) (hb : RE K cn E [] tb b) : RE K cn E [] (tIf tt ta tb) (dIf c a b) := fun As H Z ρ σ F Q w => by
  unfold dIf at w
  refine hc As H Z ρ σ F _ ?_
  cases e : c ρ with
  | ok k =>
    rw [e] at w
    intro H1 Z1 p
    simp only [Res.bind] at w
    split
    · next h => rw [if_pos h] at w; exact ha As H1 Z1 ρ σ (F.mo p.mo) Q (WpE.mo F w p.mo)
    · next h => rw [if_neg h] at w; exact hb As H1 Z1 ρ σ (F.mo p.mo) Q (WpE.mo F w p.mo)
  | ex x => rw [e] at w; exact w
  | no => rw [e] at w; exact w

/-! ### tests -/
def toB : T → Res Bool
  | .bl b => .ok b
  | _ => .no
def dTest (a : Fr → Res T) : Fr → Res Bool := fun ρ => (a ρ).bind toB
theorem rt_test {ta : TE} {a : Fr → Res T} (ha : RB K cn E ta a) : RT K cn E (tTest ta) (dTest a) := fun As H Z ρ σ F Q w => by
  unfold dTest at w
  refine ha As H Z ρ σ F _ ?_
  cases e : a ρ with
  | ok t =>
    rw [e] at w
    intro v H1 Z1 B p
    cases t with
    | bl k =>
      have q := p.rep
      simp only [Rep] at q
      obtain ⟨rfl, rfl⟩ := q
      exact ⟨k, rfl, w H1 Z1 p.mo.postT⟩
    | _ => exact False.elim w
  | ex x => rw [e] at w; exact w
  | no => rw [e] at w; exact w
/-- a value's truth -/
def truT : T → Res Bool
  | .non => .ok false
  | .bl b => .ok b
  | .int i => .ok (i != 0)
  | .str x => if x.length ≤ sizeLine then .ok ((x.length : Int) != 0) else .no
  | .lst _ xs => .ok (!xs.isEmpty)
  | .tup xs => .ok (!xs.isEmpty)
  | _ => .no
def dTru (a : Fr → Res T) : Fr → Res Bool := fun ρ => (a ρ).bind truT
theorem Reps.isEmpty {H : Hp} {Z : Addr → Prop} {ts : List T} {vs : List V} {A : List Addr} (r : Reps K cn H Z ts vs A) : vs.isEmpty = ts.isEmpty := by
  have h := Reps.length ts r
  cases ts <;> cases vs <;> simp_all
theorem truT_ok {H : Hp} {Z : Addr → Prop} {t : T} {v : V} {B : List Addr} {k : Bool} (r : Rep K cn H Z t v B) (h : truT t = .ok k) : TruV K v H k := by
  cases t with
  | non => simp only [Rep] at r; obtain ⟨rfl, _⟩ := r; cases h; rfl
  | bl b => simp only [Rep] at r; obtain ⟨rfl, _⟩ := r; cases h; rfl
  | int b => simp only [Rep] at r; obtain ⟨rfl, _⟩ := r; cases h; rfl
  | str b =>
    simp only [Rep] at r
    obtain ⟨rfl, _⟩ := r
    simp only [truT] at h
    split at h
    · cases h; exact ⟨by assumption, rfl⟩
    · cases h
  | lst o xs =>
    cases h
    cases o with
    | true =>
      simp only [Rep] at r
      obtain ⟨a, vs, B, rfl, rfl, e, r⟩ := r
      exact .inl ⟨vs, SqL.of e, by rw [r.isEmpty]⟩
    | false =>
      simp only [Rep] at r
      obtain ⟨a, vs, rfl, rfl, e, r⟩ := r
      exact .inl ⟨vs, e.sq, by rw [r.isEmpty]⟩
  | tup xs =>
    cases h
    simp only [Rep] at r
    obtain ⟨a, vs, rfl, e, r⟩ := r
    exact .inr (.inl ⟨vs, e, by rw [r.isEmpty]⟩)
  | ty _ => cases h
  | ins _ _ _ _ => cases h
theorem truT_noex {t : T} {x : Exc} (h : truT t = .ex x) : False := by
  cases t <;> simp only [truT] at h <;> first | cases h | (split at h <;> cases h)
theorem rt_tru {ta : TE} {a : Fr → Res T} (ha : RB K cn E ta a) : RT K cn E (fun σ H Q => ta σ H fun x H' => ∃ k, TruV K x H' k ∧ Q k H') (dTru a) := fun As H Z ρ σ F Q w => by
  unfold dTru at w
  refine ha As H Z ρ σ F _ ?_
  cases e : a ρ with
  | ok t =>
    rw [e] at w
    intro v H1 Z1 B p
    simp only [Res.bind] at w
    cases e2 : truT t with
    | ok k => rw [e2] at w; exact ⟨k, truT_ok p.rep e2, w H1 Z1 p.mo.postT⟩
    | ex x => exact (truT_noex e2).elim
    | no => rw [e2] at w; exact w.elim
  | ex x => rw [e] at w; exact w
  | no => rw [e] at w; exact w
def dNot (c : Fr → Res Bool) : Fr → Res Bool := fun ρ => (c ρ).bind fun k => .ok (!k)
def dAnd (c d : Fr → Res Bool) : Fr → Res Bool := fun ρ => (c ρ).bind fun k => if k = true then d ρ else .ok false
def dOr (c d : Fr → Res Bool) : Fr → Res Bool := fun ρ => (c ρ).bind fun k => if k = true then .ok true else d ρ
theorem rt_not {tt : TT} {c : Fr → Res Bool} (hc : RT K cn E tt c) : RT K cn E (tNot tt) (dNot c) := fun As H Z ρ σ F Q w => by
  unfold dNot at w
  refine hc As H Z ρ σ F _ ?_
  cases e : c ρ with
  | ok k => rw [e] at w; exact fun H1 Z1 p => w H1 Z1 p
  | ex x => rw [e] at w; exact w
  | no => rw [e] at w; exact w
theorem rt_and {tt uu : TT} {c d : Fr → Res Bool} (hc : RT K cn E tt c) (hd : RT K cn E uu d) : RT K cn E (tAnd tt uu) (dAnd c d) := fun As H Z ρ σ F Q w => by
  unfold dAnd at w
  refine hc As H Z ρ σ F _ ?_
  cases e : c ρ with
  | ok k =>
    rw [e] at w
    intro H1 Z1 p
    cases k with
    | true => rw [if_pos rfl]; exact hd As H1 Z1 ρ σ (F.mo p.mo) Q (WpT.mo w p.mo)
    | false => rw [if_neg (by decide)]; exact w H1 Z1 p
  | ex x => rw [e] at w; exact w
  | no => rw [e] at w; exact w
theorem rt_or {tt uu : TT} {c d : Fr → Res Bool} (hc : RT K cn E tt c) (hd : RT K cn E uu d) : RT K cn E (tOr tt uu) (dOr c d) := fun As H Z ρ σ F Q w => by
  unfold dOr at w
  refine hc As H Z ρ σ F _ ?_
  cases e : c ρ with
  | ok k =>
    rw [e] at w
    intro H1 Z1 p
    cases k with
    | false => rw [if_neg (by decide)]; exact hd As H1 Z1 ρ σ (F.mo p.mo) Q (WpT.mo w p.mo)
    | true => rw [if_pos rfl]; exact w H1 Z1 p
  | ex x => rw [e] at w; exact w
  | no => rw [e] at w; exact w
end
end TL

/-! TREES 4: argument lists, displays, calls, cuts, comprehensions -/
namespace TL
open PySem PySem.Spec PyProof.Rows L2
section
variable {K : PySem.W.Frag} {cn : Str → Option Addr} {E : XK}

structure PostA (K : PySem.W.Frag) (cn : Str → Option Addr) (As : List (List Addr)) (H : Hp) (Z : Addr → Prop) (mv : List Nat) (H' : Hp) (Z' : Addr → Prop) (ts : List T) (vs : List V) (B : List Addr) : Prop where
  mo : Mo H Z H' Z'
  rep : Reps K cn H' Z' ts vs B
  nd : B.Nodup
  bz : ∀ b ∈ B, ¬ Z' b
  bn : ∀ b ∈ B, H b = none ∨ ∃ i ∈ mv, b ∈ As.getD i []
def WpA (K : PySem.W.Frag) (cn : Str → Option Addr) (E : XK) (As : List (List Addr)) (H : Hp) (Z : Addr → Prop) (mv : List Nat) (Q : List V → Hp → Prop) : Res (List T) → Prop
  | .ok ts => ∀ vs H' Z' B, PostA K cn As H Z mv H' Z' ts vs B → Q vs H'
  | .ex x => WpX K cn E As H Z x
  | .no => False
def WpAB (K : PySem.W.Frag) (cn : Str → Option Addr) (E : XK) (As : List (List Addr)) (H : Hp) (Z : Addr → Prop) (Q : List V → Hp → Prop) : Res (List T) → Prop
  | .ok ts => ∀ vs H' Z' B, Mo H Z H' Z' → Reps K cn H' Z' ts vs B → Q vs H'
  | .ex x => WpX K cn E As H Z x
  | .no => False
def RA (K : PySem.W.Frag) (cn : Str → Option Addr) (E : XK) (mv : List Nat) (ta : TA) (d : Fr → Res (List T)) : Prop := ∀ As H Z ρ σ, Frm K cn H Z ρ σ As → ∀ Q, WpA K cn E As H Z mv Q (d ρ) → ta σ H Q
def RAB (K : PySem.W.Frag) (cn : Str → Option Addr) (E : XK) (ta : TA) (d : Fr → Res (List T)) : Prop := ∀ As H Z ρ σ, Frm K cn H Z ρ σ As → ∀ Q, WpAB K cn E As H Z Q (d ρ) → ta σ H Q
def dNil : Fr → Res (List T) := fun _ => .ok []
def dCons (a : Fr → Res T) (r : Fr → Res (List T)) : Fr → Res (List T) := fun ρ => (a ρ).bind fun t => (r ρ).bind fun ts => .ok (t :: ts)
theorem ra_nil : RA K cn E [] tNil dNil := fun As H Z ρ σ F Q w => w [] H Z [] ⟨F.mo0, Reps.nil, List.nodup_nil, nomem, nomem⟩
theorem rab_nil : RAB K cn E tNil dNil := fun As H Z ρ σ F Q w => w [] H Z [] F.mo0 Reps.nil
theorem getD_inj {As : List (List Addr)} {a : Addr} : ∀ {i j : Nat}, As.flatten.Nodup → a ∈ As.getD i [] → a ∈ As.getD j [] → i = j := by
  induction As with
  | nil => intro i j _ h; simp at h
  | cons A As ih =>
    intro i j nd h1 h2
    rw [List.flatten_cons, List.nodup_append] at nd
    cases i with
    | zero =>
      cases j with
      | zero => rfl
      | succ j => exact absurd rfl (nd.2.2 a (by simpa using h1) a (mem_getD_flat (by simpa using h2)))
    | succ i =>
      cases j with
      | zero => exact absurd rfl (nd.2.2 a (by simpa using h2) a (mem_getD_flat (by simpa using h1)))
      | succ j => exact congrArg (· + 1) (ih (i := i) (j := j) nd.2.1 (by simpa using h1) (by simpa using h2))
theorem ra_cons {mv mw : List Nat} {te : TE} {tr : TA} {a : Fr → Res T} {r : Fr → Res (List T)} (ha : RE K cn E mv te a) (hr : RA K cn E mw tr r) (hd : (mv.all fun i => !mw.contains i) = true := by rfl) : RA K cn E (mv ++ mw) (tCons te tr) (dCons a r) := fun As H Z ρ σ F Q w => by
  unfold dCons at w
  refine ha As H Z ρ σ F _ ?_
  cases e : a ρ with
  | ok t =>
    rw [e] at w
    intro v H1 Z1 B p
    refine hr As H1 Z1 ρ σ (F.mo p.mo) _ ?_
    simp only [Res.bind] at w
    cases e2 : r ρ with
    | ok ts =>
      rw [e2] at w
      intro vs H2 Z2 B2 p2
      refine w (v :: vs) H2 Z2 (B ++ B2) ⟨p.mo.trans p2.mo, ?_, ?_, ?_, ?_⟩
      · simp only [Reps]
        exact ⟨v, vs, B, B2, rfl, rfl, p.rep.same p2.mo.same p2.mo.zz, p2.rep⟩
      · rw [List.nodup_append]
        refine ⟨p.nd, p2.nd, fun b hb c hc z => ?_⟩
        subst z
        obtain ⟨o, ho, _⟩ := p.rep.dom t b hb
        rcases p2.bn b hc with q | ⟨j, hj, q⟩
        · rw [ho] at q; cases q
        · rcases p.bn b hb with z | ⟨i, hi, z⟩
          · obtain ⟨o', ho', _⟩ := F.sl.dom b (mem_getD_flat q)
            rw [ho'] at z; cases z
          · have eij := getD_inj F.nd z q
            subst eij
            have hh := List.all_eq_true.mp hd i hi
            simp at hh
            exact hh hj
      · intro b hb
        rcases List.mem_append.mp hb with hb | hb
        · intro z
          rcases p2.mo.zn b z with z | z
          · exact p.bz b hb z
          · obtain ⟨o, ho, _⟩ := p.rep.dom t b hb
            rw [ho] at z; cases z
        · exact p2.bz b hb
      · intro b hb
        rcases List.mem_append.mp hb with hb | hb
        · exact (p.bn b hb).imp_right fun ⟨i, hi, z⟩ => ⟨i, List.mem_append_left _ hi, z⟩
        · rcases p2.bn b hb with z | ⟨i, hi, z⟩
          · exact .inl (p.same.free z)
          · exact .inr ⟨i, List.mem_append_right _ hi, z⟩
    | ex x => rw [e2] at w; exact WpX.ev w p.mo.ev
    | no => rw [e2] at w; exact w
  | ex x => rw [e] at w; exact w
  | no => rw [e] at w; exact w
theorem rab_cons {te : TE} {tr : TA} {a : Fr → Res T} {r : Fr → Res (List T)} (ha : RB K cn E te a) (hr : RAB K cn E tr r) : RAB K cn E (tCons te tr) (dCons a r) := fun As H Z ρ σ F Q w => by
  unfold dCons at w
  refine ha As H Z ρ σ F _ ?_
  cases e : a ρ with
  | ok t =>
    rw [e] at w
    intro v H1 Z1 B p
    refine hr As H1 Z1 ρ σ (F.mo p.mo) _ ?_
    simp only [Res.bind] at w
    cases e2 : r ρ with
    | ok ts =>
      rw [e2] at w
      intro vs H2 Z2 B2 m2 r2
      refine w (v :: vs) H2 Z2 (B ++ B2) (p.mo.trans m2) ?_
      simp only [Reps]
      exact ⟨v, vs, B, B2, rfl, rfl, p.rep.same m2.same m2.zz, r2⟩
    | ex x => rw [e2] at w; exact WpX.ev w p.mo.ev
    | no => rw [e2] at w; exact w
  | ex x => rw [e] at w; exact w
  | no => rw [e] at w; exact w

/-! ### displays -/
def dLst (r : Fr → Res (List T)) : Fr → Res T := fun ρ => (r ρ).bind fun ts => if ts.length ≤ sizeLine then .ok (.lst true ts) else .no
def dTup (r : Fr → Res (List T)) : Fr → Res T := fun ρ => (r ρ).bind fun ts => if ts.length ≤ sizeLine then .ok (.tup ts) else .no
/-- a new thing at p -/
theorem Mo.new {H : Hp} {Z : Addr → Prop} {p : Addr} (o : HO) (hp : H p = none) (zi : ∀ a, Z a → H a ≠ none) : Mo H Z (L2.upd H p o) Z :=
  ⟨same_new hp o, fun _ h => h, fun _ h => .inl h, fun a h => by
    by_cases e : a = p
    · subst e; rw [upd_same]; exact (fun z => nomatch z)
    · rw [upd_ne e]; exact zi a h⟩
theorem re_lst {mv : List Nat} {ta : TA} {r : Fr → Res (List T)} (h : RA K cn E mv ta r) : RE K cn E mv (tLst ta) (dLst r) := fun As H Z ρ σ F Q w => by
  unfold dLst at w
  refine h As H Z ρ σ F _ ?_
  cases e : r ρ with
  | ok ts =>
    rw [e] at w
    intro vs H1 Z1 B p
    simp only [Res.bind] at w
    split at w
    · next hl =>
      refine ⟨by rw [Reps.length ts p.rep]; exact hl, fun q hq => ?_⟩
      have hZ : ¬ Z1 q := fun z => p.mo.zi q z hq
      have m := Mo.new (.lst vs) hq p.mo.zi
      refine w (.ref q) _ Z1 (q :: B) ⟨(p.mo.trans m).same, (p.mo.trans m).zz, (p.mo.trans m).zn, m.zi, ?_, ?_, ?_, ?_⟩
      · simp only [Rep]
        exact ⟨q, vs, B, rfl, rfl, upd_same, p.rep.same m.same m.zz⟩
      · refine List.nodup_cons.mpr ⟨fun hb => ?_, p.nd⟩
        obtain ⟨o, ho, _⟩ := Reps.dom ts p.rep q hb
        rw [ho] at hq; cases hq
      · intro b hb
        rcases List.mem_cons.mp hb with rfl | hb
        · exact hZ
        · exact p.bz b hb
      · intro b hb
        rcases List.mem_cons.mp hb with rfl | hb
        · exact .inl (p.mo.same.free hq)
        · exact p.bn b hb
    · exact w.elim
  | ex x => rw [e] at w; exact w
  | no => rw [e] at w; exact w
theorem re_tup {mv : List Nat} {ta : TA} {r : Fr → Res (List T)} (h : RA K cn E mv ta r) : RE K cn E mv (tTup ta) (dTup r) := fun As H Z ρ σ F Q w => by
  unfold dTup at w
  refine h As H Z ρ σ F _ ?_
  cases e : r ρ with
  | ok ts =>
    rw [e] at w
    intro vs H1 Z1 B p
    simp only [Res.bind] at w
    split at w
    · next hl =>
      refine ⟨by rw [Reps.length ts p.rep]; exact hl, fun q hq => ?_⟩
      have m := Mo.new (.tup vs) hq p.mo.zi
      refine w (.ref q) _ Z1 B ⟨(p.mo.trans m).same, (p.mo.trans m).zz, (p.mo.trans m).zn, m.zi, ?_, p.nd, p.bz, p.bn⟩
      simp only [Rep]
      exact ⟨q, vs, rfl, SqT.of upd_same, p.rep.same m.same m.zz⟩
    · exact w.elim
  | ex x => rw [e] at w; exact w
  | no => rw [e] at w; exact w

/-! ### calls of Python's own -/
def RCR (K : PySem.W.Frag) (cn : Str → Option Addr) (r : List V → Hp → VK → Prop) (f : List T → Res T) : Prop :=
  ∀ (E : XK) (As : List (List Addr)) (H : Hp) (Z : Addr → Prop) (ts : List T) (xs : List V) (A : List Addr) (Q : VK), (∀ a, Z a → H a ≠ none) → Reps K cn H Z ts xs A → WpE K cn E As H Z [] Q (f ts) → r xs H Q
def dCB (f : List T → Res T) (r : Fr → Res (List T)) : Fr → Res T := fun ρ => (r ρ).bind f
theorem re_cb {r : List V → Hp → VK → Prop} {f : List T → Res T} {ta : TA} {a : Fr → Res (List T)} (hr : RCR K cn r f) (ha : RAB K cn E ta a) : RE K cn E [] (tCB r ta) (dCB f a) := fun As H Z ρ σ F Q w => by
  unfold dCB at w
  refine ha As H Z ρ σ F _ ?_
  cases e : a ρ with
  | ok ts => rw [e] at w; exact fun vs H1 Z1 B m p => hr E As H1 Z1 ts vs B Q m.zi p (WpE.mo F w m)
  | ex x => rw [e] at w; exact w
  | no => rw [e] at w; exact w
/-- a method of Python's own that changes nothing -/
def RMR (K : PySem.W.Frag) (cn : Str → Option Addr) (ty : String) (r : V → List V → Hp → VK → Prop) (f : T → List T → Res T) : Prop :=
  ∀ (E : XK) (As : List (List Addr)) (H : Hp) (Z : Addr → Prop) (t : T) (ts : List T) (x : V) (xs : List V) (A B : List Addr) (Q : VK), (∀ a, Z a → H a ≠ none) → Rep K cn H Z t x A → Reps K cn H Z ts xs B → WpE K cn E As H Z [] Q (f t ts) → r x xs H Q
def dBM (ok : T → Bool) (f : T → List T → Res T) (o : Fr → Res T) (r : Fr → Res (List T)) : Fr → Res T := fun ρ => (o ρ).bind fun t => if ok t = true then (r ρ).bind fun ts => f t ts else .no
def isStrT : T → Bool
  | .str _ => true
  | _ => false
def isLstT : T → Bool
  | .lst _ _ => true
  | _ => false
theorem isStrT_ty {H : Hp} {Z : Addr → Prop} {t : T} {v : V} {B : List Addr} (h : isStrT t = true) (r : Rep K cn H Z t v B) : tyV K "str" v H := by
  cases t with
  | str x => simp only [Rep] at r; obtain ⟨rfl, _⟩ := r; rfl
  | _ => cases h
theorem Rep.lstSq {H : Hp} {Z : Addr → Prop} {o : Bool} {ts : List T} {v : V} {B : List Addr} (r : Rep K cn H Z (.lst o ts) v B) : ∃ a vs C, v = .ref a ∧ SqS K H a vs ∧ Reps K cn H Z ts vs C ∧ C.Sublist B := by
  cases o with
  | true =>
    simp only [Rep] at r
    obtain ⟨a, vs, C, rfl, rfl, e, r⟩ := r
    exact ⟨a, vs, C, rfl, .inl (.inl e), r, List.sublist_cons_self _ _⟩
  | false =>
    simp only [Rep] at r
    obtain ⟨a, vs, rfl, rfl, e, r⟩ := r
    exact ⟨a, vs, [], rfl, e.sqS, r, List.Sublist.slnil⟩
theorem isLstT_ty {H : Hp} {Z : Addr → Prop} {t : T} {v : V} {B : List Addr} (h : isLstT t = true) (r : Rep K cn H Z t v B) : tyV K "list" v H := by
  cases t with
  | lst o xs => obtain ⟨a, vs, C, rfl, s, _⟩ := r.lstSq; exact .inl ⟨rfl, vs, s.sq⟩
  | _ => cases h
theorem re_bm {ty : String} {r : V → List V → Hp → VK → Prop} {f : T → List T → Res T} {ok : T → Bool} {to : TE} {ta : TA} {o : Fr → Res T} {a : Fr → Res (List T)} (hty : ∀ {H : Hp} {Z : Addr → Prop} {t : T} {v : V} {B : List Addr}, ok t = true → Rep K cn H Z t v B → tyV K ty v H) (hr : RMR K cn ty r f)
    (ho : RB K cn E to o) (ha : RAB K cn E ta a) : RE K cn E [] (tBM K ty r to ta) (dBM ok f o a) := fun As H Z ρ σ F Q w => by
  unfold dBM at w
  refine ho As H Z ρ σ F _ ?_
  cases e : o ρ with
  | ok t =>
    rw [e] at w
    intro v H1 Z1 B p
    simp only [Res.bind] at w
    split at w
    · next hok =>
      refine ⟨hty hok p.rep, ha As H1 Z1 ρ σ (F.mo p.mo) _ ?_⟩
      cases e2 : a ρ with
      | ok ts => rw [e2] at w; exact fun vs H2 Z2 B2 m r2 => hr E As H2 Z2 t ts v vs B B2 Q m.zi (p.rep.same m.same m.zz) r2 (WpE.mo F w (p.mo.trans m))
      | ex x => rw [e2] at w; exact WpX.ev w p.mo.ev
      | no => rw [e2] at w; exact w
    · exact w.elim
  | ex x => rw [e] at w; exact w
  | no => rw [e] at w; exact w

/-! ### calls of defs -/
/-- the promise of a def of n parameters that is told by F -/
def spT (K : PySem.W.Frag) (cn : Str → Option Addr) (n : Nat) (F : List T → Res T) : Sp := fun vs H Q E => vs.length = n ∧ ∃ ts Z, (∀ a, Z a → H a ≠ none) ∧ Reps K cn H Z ts vs [] ∧ WpE K cn E [] H Z [] Q (F ts)
/-- of a def that refuses nothing -/
def dDef (n : Nat) (F : List T → Res T) (r : Fr → Res (List T)) : Fr → Res T := fun ρ => (r ρ).bind fun ts => if ts.length = n then match F (frzs ts) with
  | .ok t => if (clean t || noOwns ts) = true then .ok t else .no
  | _ => .no else .no
theorem re_def {n : Nat} {G : List T → Res T} {ta : TA} {a : Fr → Res (List T)} (ha : RAB K cn E ta a) : RE K cn E [] (tDef (spT K cn n G) ta) (dDef n G a) := fun As H Z ρ σ F Q w => by
  unfold dDef at w
  refine ha As H Z ρ σ F _ ?_
  cases e : a ρ with
  | ok ts =>
    rw [e] at w
    intro vs H1 Z1 B m r1
    simp only [Res.bind] at w
    split at w
    · next hn =>
      refine ⟨by rw [Reps.length ts r1, hn], frzs ts, (fun a => Z1 a ∨ a ∈ B), fun a h => ?_, Reps.frz ts r1 (fun a h => .inl h) (fun a h => .inr h), ?_⟩
      · rcases h with h | h
        · exact m.zi a h
        · obtain ⟨o, q, _⟩ := Reps.dom ts r1 a h
          rw [q]
          exact (fun z => nomatch z)
      cases e2 : G (frzs ts) with
      | ok t =>
        rw [e2] at w
        intro v H2 Z2 C p
        simp only at w
        split at w
        · next hc =>
          rw [Bool.or_eq_true] at hc
          have bn : ∀ b ∈ C, H1 b = none := fun b hb => (p.bn b hb).resolve_right (fun ⟨i, hi, _⟩ => by cases hi)
          by_cases hcl : clean t = true
          · refine w v H2 Z1 C ⟨m.same.trans p.same, m.zz, fun a h => m.zn a h, fun a h => ?_, Rep.any t hcl p.rep, p.nd, fun b hb z => ?_, fun b hb => .inl (m.same.free (bn b hb))⟩
            · intro q
              exact m.zi a h (p.same.free q)
            · exact m.zi b z (bn b hb)
          · have hno := hc.resolve_left hcl
            have hB := Reps.bare ts hno r1
            subst hB
            refine w v H2 Z2 C ⟨m.same.trans p.same, fun a h => p.zz a (.inl (m.zz a h)), fun a h => ?_, p.zi, p.rep, p.nd, p.bz, fun b hb => .inl (m.same.free (bn b hb))⟩
            rcases p.zn a h with (h | h) | h
            · exact m.zn a h
            · cases h
            · exact .inr (m.same.free h)
        · exact w.elim
      | ex x => rw [e2] at w; exact w.elim
      | no => rw [e2] at w; exact w.elim
    · exact w.elim
  | ex x => rw [e] at w; exact w
  | no => rw [e] at w; exact w

/-! ### cuts -/
def WpO (K : PySem.W.Frag) (cn : Str → Option Addr) (E : XK) (As : List (List Addr)) (H : Hp) (Z : Addr → Prop) (Q : Option Int → Hp → Prop) : Res (Option Int) → Prop
  | .ok o => ∀ H' Z', Mo H Z H' Z' → Q o H'
  | .ex x => WpX K cn E As H Z x
  | .no => False
def RO (K : PySem.W.Frag) (cn : Str → Option Addr) (E : XK) (t : TO) (d : Fr → Res (Option Int)) : Prop := ∀ As H Z ρ σ, Frm K cn H Z ρ σ As → ∀ Q, WpO K cn E As H Z Q (d ρ) → t σ H Q
def dNoPart : Fr → Res (Option Int) := fun _ => .ok none
def toI : T → Res (Option Int)
  | .int i => .ok (some i)
  | _ => .no
def dPart (a : Fr → Res T) : Fr → Res (Option Int) := fun ρ => (a ρ).bind toI
theorem ro_none : RO K cn E tNoPart dNoPart := fun As H Z ρ σ F Q w => w H Z F.mo0
theorem ro_some {te : TE} {a : Fr → Res T} (ha : RB K cn E te a) : RO K cn E (tPart te) (dPart a) := fun As H Z ρ σ F Q w => by
  unfold dPart at w
  refine ha As H Z ρ σ F _ ?_
  cases e : a ρ with
  | ok t =>
    rw [e] at w
    intro v H1 Z1 B p
    cases t with
    | int i =>
      have q := p.rep
      simp only [Rep] at q
      obtain ⟨rfl, rfl⟩ := q
      exact ⟨i, rfl, w H1 Z1 p.mo⟩
    | _ => exact False.elim w
  | ex x => rw [e] at w; exact w
  | no => rw [e] at w; exact w
def RSR (K : PySem.W.Frag) (cn : Str → Option Addr) (r : V → Option Int → Option Int → Hp → VK → Prop) (f : T → Option Int → Option Int → Res T) : Prop :=
  ∀ (E : XK) (As : List (List Addr)) (H : Hp) (Z : Addr → Prop) (t : T) (x : V) (A : List Addr) (lo hi : Option Int) (Q : VK), (∀ a, Z a → H a ≠ none) → Rep K cn H Z t x A → WpE K cn E As H Z [] Q (f t lo hi) → r x lo hi H Q
def dSl (f : T → Option Int → Option Int → Res T) (a : Fr → Res T) (l h : Fr → Res (Option Int)) : Fr → Res T := fun ρ => (a ρ).bind fun t => (l ρ).bind fun lo => (h ρ).bind fun hi => f t lo hi
theorem re_sl {r : V → Option Int → Option Int → Hp → VK → Prop} {f : T → Option Int → Option Int → Res T} {te : TE} {tl th : TO} {a : Fr → Res T} {l h : Fr → Res (Option Int)} (hr : RSR K cn r f) (ha : RB K cn E te a) (hl : RO K cn E tl l) (hh : RO K cn E th h) : RE K cn E [] (tSl r te tl th) (dSl f a l h) := fun As H Z ρ σ F Q w => by
  unfold dSl at w
  refine ha As H Z ρ σ F _ ?_
  cases e : a ρ with
  | ok t =>
    rw [e] at w
    intro v H1 Z1 B p
    refine hl As H1 Z1 ρ σ (F.mo p.mo) _ ?_
    simp only [Res.bind] at w
    cases e2 : l ρ with
    | ok lo =>
      rw [e2] at w
      intro H2 Z2 m2
      have m12 := p.mo.trans m2
      refine hh As H2 Z2 ρ σ (F.mo m12) _ ?_
      simp only at w
      cases e3 : h ρ with
      | ok hi =>
        rw [e3] at w
        intro H3 Z3 m3
        exact hr E As H3 Z3 t v B lo hi Q m3.zi (p.rep.same (m2.same.trans m3.same) fun a h => m3.zz a (m2.zz a h)) (WpE.mo F w (m12.trans m3))
      | ex x => rw [e3] at w; exact WpX.ev w m12.ev
      | no => rw [e3] at w; exact w
    | ex x => rw [e2] at w; exact WpX.ev w p.mo.ev
    | no => rw [e2] at w; exact w
  | ex x => rw [e] at w; exact w
  | no => rw [e] at w; exact w
end
end TL

/-! TREES 5: what a loop walks, comprehensions, targets, statements, defs -/
namespace TL
open PySem PySem.Spec PyProof.Rows L2
section
variable {K : PySem.W.Frag} {cn : Str → Option Addr} {E : XK}

/-! ### what is walked -/
def Src (K : PySem.W.Frag) (cn : Str → Option Addr) (fz : Bool) (H : Hp) (Z : Addr → Prop) (J : It) (ts : List T) : Prop :=
  (∃ a vs, J = Itl K a ∧ (if fz = true then FzL K H Z a vs else SqL K H a vs) ∧ Reps K cn H Z ts vs []) ∨
  (∃ a vs, J = Itt K a ∧ SqT K H a vs ∧ Reps K cn H Z ts vs []) ∨
  (∃ (lo : Int) (n : Nat), J = Itr lo n ∧ ts = (List.range n).map fun i => T.int (lo + (i : Nat))) ∨
  (∃ z : Str, J = Its z ∧ ts = z.cps.toList.map fun c => T.str ⟨#[c]⟩)
theorem fzif_sq {fz : Bool} {H : Hp} {Z : Addr → Prop} {a : Addr} {vs : List V} (h : if fz = true then FzL K H Z a vs else SqL K H a vs) : SqL K H a vs := by
  cases fz with
  | true => rw [if_pos rfl] at h; exact h.sq
  | false => rw [if_neg (by decide)] at h; exact h
theorem Src.turn {fz : Bool} {H : Hp} {Z : Addr → Prop} {J : It} {ts : List T} {i : Nat} {t : T} (h : Src K cn fz H Z J ts) (e : ts[i]? = some t) : J.go i H ∧ ∀ x H', J.yld i H x H' → H' = H ∧ Rep K cn H Z t x [] := by
  rcases h with ⟨a, vs, rfl, hs, r⟩ | ⟨a, vs, rfl, hs, r⟩ | ⟨lo, n, rfl, rfl⟩ | ⟨z, rfl, rfl⟩
  · obtain ⟨v, B, ev, rv, hB, _⟩ := Reps.get ts r e
    have hs := fzif_sq hs
    have eB : B = [] := List.eq_nil_iff_forall_not_mem.mpr fun b hb => by cases hB b hb
    subst eB
    refine ⟨⟨vs, v, hs, ev⟩, fun x H' ⟨e1, e2⟩ => ⟨e1, ?_⟩⟩
    have := e2 vs hs
    rw [ev] at this
    cases this
    exact rv
  · obtain ⟨v, B, ev, rv, hB, _⟩ := Reps.get ts r e
    have eB : B = [] := List.eq_nil_iff_forall_not_mem.mpr fun b hb => by cases hB b hb
    subst eB
    refine ⟨⟨vs, v, hs, ev⟩, fun x H' ⟨e1, e2⟩ => ⟨e1, ?_⟩⟩
    have := e2 vs hs
    rw [ev] at this
    cases this
    exact rv
  · rw [List.getElem?_map] at e
    cases q : (List.range n)[i]? with
    | none => rw [q] at e; cases e
    | some j =>
      rw [q] at e
      obtain ⟨h1, h2⟩ := List.getElem?_eq_some_iff.mp q
      simp at h1 h2
      subst h2
      cases e
      refine ⟨h1, fun x H' ⟨e1, e2⟩ => ⟨e1, ?_⟩⟩
      subst e2
      simp [Rep]
  · rw [List.getElem?_map] at e
    cases q : z.cps.toList[i]? with
    | none => rw [q] at e; cases e
    | some c =>
      rw [q] at e
      cases e
      have h1 := (List.getElem?_eq_some_iff.mp q).1
      refine ⟨show i < z.cps.size by simpa using h1, fun x H' ⟨e1, c', e2, e3⟩ => ⟨e1, ?_⟩⟩
      rw [← Array.getElem?_toList] at e2
      rw [q] at e2
      cases e2
      subst e3
      simp [Rep]
theorem Src.stop {fz : Bool} {H : Hp} {Z : Addr → Prop} {J : It} {ts : List T} {i : Nat} (h : Src K cn fz H Z J ts) (e : ts.length ≤ i) : J.stop i H := by
  rcases h with ⟨a, vs, rfl, hs, r⟩ | ⟨a, vs, rfl, hs, r⟩ | ⟨lo, n, rfl, rfl⟩ | ⟨z, rfl, rfl⟩
  · exact ⟨vs, fzif_sq hs, by rw [Reps.length ts r]; exact e⟩
  · exact ⟨vs, hs, by rw [Reps.length ts r]; exact e⟩
  · show n ≤ i
    simpa using e
  · have : z.cps.size ≤ i := by simpa using e
    exact this
theorem Same.sqT {H H' : Hp} {a : Addr} {xs : List V} (e : Same H H') (h : SqT K H a xs) : SqT K H' a xs := SqT.keep h fun b o q _ => e b o q
theorem Src.mo {fz : Bool} {H H' : Hp} {Z Z' : Addr → Prop} {J : It} {ts : List T} (h : Src K cn fz H Z J ts) (m : Mo H Z H' Z') : Src K cn fz H' Z' J ts := by
  rcases h with ⟨a, vs, rfl, hs, r⟩ | ⟨a, vs, rfl, hs, r⟩ | h | h
  · refine .inl ⟨a, vs, rfl, ?_, r.same m.same m.zz⟩
    cases fz with
    | true => rw [if_pos rfl] at hs ⊢; exact hs.keep (fun b o q _ => m.same b o q) m.zz
    | false => rw [if_neg (by decide)] at hs ⊢; exact m.same.seq hs
  · exact .inr (.inl ⟨a, vs, rfl, Same.sqT m.same hs, r.same m.same m.zz⟩)
  · exact .inr (.inr (.inl h))
  · exact .inr (.inr (.inr h))
theorem Src.ev {H H' : Hp} {Z Z' : Addr → Prop} {J : It} {ts : List T} {ρ : Fr} {σ : St} {As As' : List (List Addr)} (h : Src K cn true H Z J ts) (F : Frm K cn H Z ρ σ As) (e : Ev As H Z As' H' Z') : Src K cn true H' Z' J ts := by
  have kz : ∀ b o, H b = some o → (Z b ∨ imm o = true) → H' b = some o := fun b o q c => e.keep b o q fun hb => by
    rcases c with c | c
    · exact F.nz b hb c
    · obtain ⟨o', q', i'⟩ := F.sl.dom b hb
      rw [q] at q'
      cases q'
      rw [c] at i'
      cases i'
  rcases h with ⟨a, vs, rfl, hs, r⟩ | ⟨a, vs, rfl, hs, r⟩ | h | h
  · rw [if_pos rfl] at hs
    refine .inl ⟨a, vs, rfl, ?_, Reps.keep ts r (fun b o q c => kz b o q (c.resolve_left ((fun z => nomatch z)))) e.zz⟩
    rw [if_pos rfl]
    exact hs.keep kz e.zz
  · exact .inr (.inl ⟨a, vs, rfl, SqT.keep hs (fun b o q c => kz b o q (.inr c)), Reps.keep ts r (fun b o q c => kz b o q (c.resolve_left ((fun z => nomatch z)))) e.zz⟩)
  · exact .inr (.inr (.inl h))
  · exact .inr (.inr (.inr h))
def WpI (K : PySem.W.Frag) (cn : Str → Option Addr) (E : XK) (fz : Bool) (As : List (List Addr)) (H : Hp) (Z : Addr → Prop) (R : It → Hp → Prop) : Res (List T) → Prop
  | .ok ts => ∀ J H' Z', Mo H Z H' Z' → Src K cn fz H' Z' J ts → R J H'
  | .ex x => WpX K cn E As H Z x
  | .no => False
def RI (K : PySem.W.Frag) (cn : Str → Option Addr) (E : XK) (fz : Bool) (wi : TI) (d : Fr → Res (List T)) : Prop := ∀ As H Z ρ σ, Frm K cn H Z ρ σ As → ∀ R, WpI K cn E fz As H Z R (d ρ) → wi σ H R
/-- a condition that must hold (and is never reckoned out) -/
noncomputable def gate {α : Type} (p : Prop) (a : Res α) : Res α := @ite _ p (Classical.propDecidable p) a .no
theorem gate_true {α : Type} (a : Res α) : gate True a = a := by unfold gate; rw [if_pos trivial]
theorem gate_pos {α : Type} {p : Prop} {a : Res α} (h : p) : gate p a = a := by unfold gate; rw [if_pos h]
theorem WpI.gate {fz : Bool} {As : List (List Addr)} {H : Hp} {Z : Addr → Prop} {R : It → Hp → Prop} {p : Prop} {r : Res (List T)} (w : WpI K cn E fz As H Z R (TL.gate p r)) : p ∧ WpI K cn E fz As H Z R r := by
  unfold TL.gate at w
  split at w
  · exact ⟨by assumption, w⟩
  · exact w.elim
theorem WpE.gate {As : List (List Addr)} {H : Hp} {Z : Addr → Prop} {mv : List Nat} {Q : VK} {p : Prop} {r : Res T} (w : WpE K cn E As H Z mv Q (TL.gate p r)) : p ∧ WpE K cn E As H Z mv Q r := by
  unfold TL.gate at w
  split at w
  · exact ⟨by assumption, w⟩
  · exact w.elim
def intsT (lo : Int) (n : Nat) : List T := (List.range n).map fun i => T.int (lo + (i : Nat))
noncomputable def rng1 : List T → Res (List T)
  | [.int j] => gate (-(2 ^ 62) ≤ j ∧ j < 2 ^ 62) (.ok (intsT 0 j.toNat))
  | _ => .no
noncomputable def rng2 : List T → Res (List T)
  | [.int i, .int j] => gate (-(2 ^ 62) ≤ i ∧ i < 2 ^ 62 ∧ -(2 ^ 62) ≤ j ∧ j < 2 ^ 62) (.ok (intsT i (j - i).toNat))
  | _ => .no
def dRng (f : List T → Res (List T)) (a : Fr → Res (List T)) : Fr → Res (List T) := fun ρ => (a ρ).bind f
theorem Reps.ints1 {H : Hp} {Z : Addr → Prop} {i : Int} {vs : List V} {A : List Addr} (r : Reps K cn H Z [.int i] vs A) : vs = [.int i] := by
  simp only [Reps, Rep] at r
  obtain ⟨v, w, B, C, rfl, rfl, ⟨rfl, rfl⟩, rfl, rfl⟩ := r
  rfl
theorem Reps.ints2 {H : Hp} {Z : Addr → Prop} {i j : Int} {vs : List V} {A : List Addr} (r : Reps K cn H Z [.int i, .int j] vs A) : vs = [.int i, .int j] := by
  simp only [Reps, Rep] at r
  obtain ⟨v, w, B, C, rfl, rfl, ⟨rfl, rfl⟩, v2, w2, B2, C2, rfl, rfl, ⟨rfl, rfl⟩, rfl, rfl⟩ := r
  rfl
theorem ri_rng1 {fz : Bool} {ta : TA} {a : Fr → Res (List T)} (ha : RAB K cn E ta a) : RI K cn E fz (iRng1 ta) (dRng rng1 a) := fun As H Z ρ σ F R w => by
  unfold dRng at w
  refine ha As H Z ρ σ F _ ?_
  cases e : a ρ with
  | ok ts =>
    rw [e] at w
    intro vs H1 Z1 B m r
    simp only [Res.bind] at w
    unfold rng1 at w
    split at w
    · next j =>
      obtain ⟨hb, w⟩ := w.gate
      exact ⟨j, r.ints1, hb.1, hb.2, w (Itr 0 j.toNat) H1 Z1 m (.inr (.inr (.inl ⟨0, j.toNat, rfl, rfl⟩)))⟩
    · exact w.elim
  | ex x => rw [e] at w; exact w
  | no => rw [e] at w; exact w
theorem ri_rng2 {fz : Bool} {ta : TA} {a : Fr → Res (List T)} (ha : RAB K cn E ta a) : RI K cn E fz (iRng2 ta) (dRng rng2 a) := fun As H Z ρ σ F R w => by
  unfold dRng at w
  refine ha As H Z ρ σ F _ ?_
  cases e : a ρ with
  | ok ts =>
    rw [e] at w
    intro vs H1 Z1 B m r
    simp only [Res.bind] at w
    unfold rng2 at w
    split at w
    · next i j =>
      obtain ⟨hb, w⟩ := w.gate
      exact ⟨i, j, r.ints2, hb, w (Itr i (j - i).toNat) H1 Z1 m (.inr (.inr (.inl ⟨i, _, rfl, rfl⟩)))⟩
    · exact w.elim
  | ex x => rw [e] at w; exact w
  | no => rw [e] at w; exact w
/-- a list, a tuple, a text -/
def iV (K : PySem.W.Frag) (tl : TE) : TI := fun σ H R => tl σ H fun x H1 => (∃ a, x = .ref a ∧ (((∃ xs, SqL K H1 a xs) ∧ R (Itl K a) H1) ∨ ((∃ xs, SqT K H1 a xs) ∧ R (Itt K a) H1))) ∨ ∃ z, x = .str z ∧ R (Its z) H1
/-- the items, while nothing is changed -/
def itC : T → Res (List T)
  | .lst _ ts => if noOwns ts = true then .ok ts else .no
  | .tup ts => if noOwns ts = true then .ok ts else .no
  | .str z => .ok (z.cps.toList.map fun c => T.str ⟨#[c]⟩)
  | _ => .no
/-- the items of what nobody changes -/
def itF : T → Res (List T)
  | .lst o ts => if (!o && noOwns ts) = true then .ok ts else .no
  | .tup ts => if noOwns ts = true then .ok ts else .no
  | .str z => .ok (z.cps.toList.map fun c => T.str ⟨#[c]⟩)
  | _ => .no
def dIt (f : T → Res (List T)) (a : Fr → Res T) : Fr → Res (List T) := fun ρ => (a ρ).bind f
theorem Reps.bareE {H : Hp} {Z : Addr → Prop} {ts : List T} {vs : List V} {A : List Addr} (r : Reps K cn H Z ts vs A) (h : noOwns ts = true) : Reps K cn H Z ts vs [] := by
  have := Reps.bare ts h r
  subst this
  exact r
theorem ri_C {tl : TE} {a : Fr → Res T} (ha : RB K cn E tl a) : RI K cn E false (iV K tl) (dIt itC a) := fun As H Z ρ σ F R w => by
  unfold dIt at w
  refine ha As H Z ρ σ F _ ?_
  cases e : a ρ with
  | ok t =>
    rw [e] at w
    intro v H1 Z1 B p
    simp only [Res.bind] at w
    cases t with
    | lst o ts =>
      simp only [itC] at w
      split at w
      · next hn =>
        obtain ⟨b, vs, C, rfl, hs, r, _⟩ := p.rep.lstSq
        have hs := hs.sq
        exact .inl ⟨b, rfl, .inl ⟨⟨vs, hs⟩, w _ H1 Z1 p.mo (.inl ⟨b, vs, rfl, by rw [if_neg (by decide)]; exact hs, r.bareE hn⟩)⟩⟩
      · exact w.elim
    | tup ts =>
      simp only [itC] at w
      split at w
      · next hn =>
        have q := p.rep
        simp only [Rep] at q
        obtain ⟨b, vs, rfl, hs, r⟩ := q
        exact .inl ⟨b, rfl, .inr ⟨⟨vs, hs⟩, w _ H1 Z1 p.mo (.inr (.inl ⟨b, vs, rfl, hs, r.bareE hn⟩))⟩⟩
      · exact w.elim
    | str z =>
      have q := p.rep
      simp only [Rep] at q
      obtain ⟨rfl, _⟩ := q
      exact .inr ⟨z, rfl, w _ H1 Z1 p.mo (.inr (.inr (.inr ⟨z, rfl, rfl⟩)))⟩
    | _ => exact w.elim
  | ex x => rw [e] at w; exact w
  | no => rw [e] at w; exact w
theorem ri_F {tl : TE} {a : Fr → Res T} (ha : RB K cn E tl a) : RI K cn E true (iV K tl) (dIt itF a) := fun As H Z ρ σ F R w => by
  unfold dIt at w
  refine ha As H Z ρ σ F _ ?_
  cases e : a ρ with
  | ok t =>
    rw [e] at w
    intro v H1 Z1 B p
    simp only [Res.bind] at w
    cases t with
    | lst o ts =>
      simp only [itF] at w
      split at w
      · next hn =>
        rw [Bool.and_eq_true] at hn
        cases o with
        | true => exact absurd hn.1 (by decide)
        | false =>
          have q := p.rep
          simp only [Rep] at q
          obtain ⟨b, vs, rfl, rfl, hs, r⟩ := q
          exact .inl ⟨b, rfl, .inl ⟨⟨vs, hs.sq⟩, w _ H1 Z1 p.mo (.inl ⟨b, vs, rfl, by rw [if_pos rfl]; exact hs, r⟩)⟩⟩
      · exact w.elim
    | tup ts =>
      simp only [itF] at w
      split at w
      · next hn =>
        have q := p.rep
        simp only [Rep] at q
        obtain ⟨b, vs, rfl, hs, r⟩ := q
        exact .inl ⟨b, rfl, .inr ⟨⟨vs, hs⟩, w _ H1 Z1 p.mo (.inr (.inl ⟨b, vs, rfl, hs, r.bareE hn⟩))⟩⟩
      · exact w.elim
    | str z =>
      have q := p.rep
      simp only [Rep] at q
      obtain ⟨rfl, _⟩ := q
      exact .inr ⟨z, rfl, w _ H1 Z1 p.mo (.inr (.inr (.inr ⟨z, rfl, rfl⟩)))⟩
    | _ => exact w.elim
  | ex x => rw [e] at w; exact w
  | no => rw [e] at w; exact w

/-! ### targets -/
def RG (K : PySem.W.Frag) (cn : Str → Option Addr) (ks : List Nat) (g : TG) (b : T → Fr → Option Fr) : Prop :=
  ∀ As H Z ρ σ t v B, Frm K cn H Z ρ σ As → Rep K cn H Z t v B → B.Nodup → (∀ x ∈ B, ¬ Z x) → (∀ x ∈ B, x ∉ As.flatten) → ∀ (Q : St → Hp → Prop) ρ', b t ρ = some ρ' →
    (∀ σ' As', Frm K cn H Z ρ' σ' As' → (∀ a ∈ As'.flatten, a ∈ As.flatten ∨ a ∈ B) → σ'.length = σ.length → (∀ i, i ∉ ks → σ'[i]? = σ[i]?) → Q σ' H) → g v σ H Q
structure RGs (K : PySem.W.Frag) (cn : Str → Option Addr) (ks : List Nat) (n : Nat) (g : TGs) (b : List T → Fr → Option Fr) : Prop where
  len : ∀ ts ρ ρ', b ts ρ = some ρ' → ts.length = n
  run : ∀ As H Z ρ σ ts vs B, Frm K cn H Z ρ σ As → Reps K cn H Z ts vs B → B.Nodup → (∀ x ∈ B, ¬ Z x) → (∀ x ∈ B, x ∉ As.flatten) → ∀ (Q : St → Hp → Prop) ρ', b ts ρ = some ρ' →
    (∀ σ' As', Frm K cn H Z ρ' σ' As' → (∀ a ∈ As'.flatten, a ∈ As.flatten ∨ a ∈ B) → σ'.length = σ.length → (∀ i, i ∉ ks → σ'[i]? = σ[i]?) → Q σ' H) → g vs σ H Q
def bName (i : Nat) : T → Fr → Option Fr := fun t ρ => some (ρ.set i (some t))
def bNil : List T → Fr → Option Fr
  | [], ρ => some ρ
  | _ :: _, _ => none
def bCons (b : T → Fr → Option Fr) (bs : List T → Fr → Option Fr) : List T → Fr → Option Fr
  | [], _ => none
  | t :: ts, ρ => match b t ρ with
    | some ρ1 => bs ts ρ1
    | none => none
def bTup (bs : List T → Fr → Option Fr) : T → Fr → Option Fr
  | .tup ts, ρ => bs ts ρ
  | _, _ => none
theorem rg_name (i : Nat) : RG K cn [i] (gName i) (bName i) := fun As H Z ρ σ t v B F r nd bz bo Q ρ' e h => by
  cases e
  refine h _ (As.set i B) (F.set r nd bz i fun b hb hA => absurd hA (bo b hb)) (fun a ha => (flat_set_mem ha).symm) (by rw [List.length_set]) fun j hj => ?_
  rw [List.getElem?_set_ne (fun z => hj (by rw [z]; exact List.mem_cons_self))]
theorem rgs_nil : RGs K cn [] 0 gNil bNil where
  len := fun ts ρ ρ' e => by
    cases ts with
    | nil => rfl
    | cons _ _ => cases e
  run := fun As H Z ρ σ ts vs B F r nd bz bo Q ρ' e h => by
    cases ts with
    | nil =>
      cases e
      simp only [Reps] at r
      exact ⟨r.1, h σ As F (fun a ha => .inl ha) rfl fun _ _ => rfl⟩
    | cons _ _ => cases e
theorem rgs_cons {ks ls : List Nat} {n : Nat} {g : TG} {gs : TGs} {b : T → Fr → Option Fr} {bs : List T → Fr → Option Fr} (h1 : RG K cn ks g b) (h2 : RGs K cn ls n gs bs) : RGs K cn (ks ++ ls) (n + 1) (gCons g gs) (bCons b bs) where
  len := fun ts ρ ρ' e => by
    cases ts with
    | nil => cases e
    | cons t ts =>
      simp only [bCons] at e
      cases e1 : b t ρ with
      | none => rw [e1] at e; cases e
      | some ρ1 => rw [e1] at e; rw [List.length_cons, h2.len ts ρ1 ρ' e]
  run := fun As H Z ρ σ ts vs B F r nd bz bo Q ρ' e h => by
    cases ts with
    | nil => cases e
    | cons t ts =>
      simp only [bCons] at e
      cases e1 : b t ρ with
      | none => rw [e1] at e; cases e
      | some ρ1 =>
        rw [e1] at e
        simp only [Reps] at r
        obtain ⟨v, vs', B1, B2, rfl, rfl, r1, r2⟩ := r
        rw [List.nodup_append] at nd
        refine ⟨v, vs', rfl, h1 As H Z ρ σ t v B1 F r1 nd.1 (fun x hx => bz x (List.mem_append_left _ hx)) (fun x hx => bo x (List.mem_append_left _ hx)) _ ρ1 e1 fun σ1 As1 F1 o1 l1 k1 => ?_⟩
        refine h2.run As1 H Z ρ1 σ1 ts vs' B2 F1 r2 nd.2.1 (fun x hx => bz x (List.mem_append_right _ hx)) (fun x hx hA => ?_) Q ρ' e fun σ2 As2 F2 o2 l2 k2 => ?_
        · rcases o1 x hA with z | z
          · exact bo x (List.mem_append_right _ hx) z
          · exact nd.2.2 x z x hx rfl
        · refine h σ2 As2 F2 (fun a ha => ?_) (l2.trans l1) fun i hi => ?_
          · rcases o2 a ha with z | z
            · exact (o1 a z).imp_right (List.mem_append_left _)
            · exact .inr (List.mem_append_right _ z)
          · rw [k2 i (fun z => hi (List.mem_append_right _ z)), k1 i (fun z => hi (List.mem_append_left _ z))]
theorem rg_tup {ks : List Nat} {n : Nat} {gs : TGs} {bs : List T → Fr → Option Fr} (h : RGs K cn ks n gs bs) : RG K cn ks (gTup K n gs) (bTup bs) := fun As H Z ρ σ t v B F r nd bz bo Q ρ' e h' => by
  cases t with
  | tup ts =>
    simp only [bTup] at e
    simp only [Rep] at r
    obtain ⟨a, vs, rfl, hs, r⟩ := r
    exact ⟨a, vs, rfl, hs, by rw [Reps.length ts r]; exact h.len ts ρ ρ' e, h.run As H Z ρ σ ts vs B F r nd bz bo Q ρ' e h'⟩
  | _ => cases e

/-! ### comprehensions -/
def compL (b : T → Fr → Option Fr) (c : Fr → Res Bool) (d : Fr → Res T) (ρ : Fr) : List T → Res (List T)
  | [] => .ok []
  | t :: ts => match b t ρ with
    | none => .no
    | some ρ1 => (c ρ1).bind fun k => if k = true then (d ρ1).bind fun u => (compL b c d ρ ts).bind fun us => .ok (u :: us) else compL b c d ρ ts
def dComp (ks : List Nat) (di : Fr → Res (List T)) (b : T → Fr → Option Fr) (c : Fr → Res Bool) (d : Fr → Res T) : Fr → Res T := fun ρ =>
  (di ρ).bind fun ts => if ts.length ≤ sizeLine then (compL b c d (kills ks ρ) ts).bind fun us => .ok (.lst true us) else .no
def dYes : Fr → Res Bool := fun _ => .ok true
theorem rt_yes : RT K cn E tYes dYes := fun As H Z ρ σ F Q w => w H Z F.mo0.postT
theorem Slots.clr {H : Hp} {Z : Addr → Prop} (ks : List Nat) : ∀ {ρ : Fr} {σ : St} {As : List (List Addr)}, Slots K cn H Z ρ σ As → Slots K cn H Z (kills ks ρ) (L2.clr ks σ) (killA ks As) := by
  induction ks with
  | nil => exact fun h => h
  | cons k ks ih => exact fun h => ih (h.kill2 none k)
theorem Frm.clr {H : Hp} {Z : Addr → Prop} {ρ : Fr} {σ : St} {As : List (List Addr)} (ks : List Nat) (F : Frm K cn H Z ρ σ As) : Frm K cn H Z (TL.kills ks ρ) (L2.clr ks σ) (killA ks As) :=
  ⟨F.sl.clr ks, (F.kills ks).nd, (F.kills ks).nz, F.zi⟩
theorem comp_go {ks : List Nat} {g : TG} {tc : TT} {te : TE} {b : T → Fr → Option Fr} {c : Fr → Res Bool} {d : Fr → Res T} (hg : RG K cn ks g b) (hc : RT K cn E tc c) (he : RE K cn E [] te d)
    {As : List (List Addr)} {H : Hp} {Z : Addr → Prop} {ρ : Fr} {σ : St} (F : Frm K cn H Z ρ σ As) {J : It} {ts : List T} (hs : Src K cn false H Z J ts) (hl : ts.length ≤ sizeLine) {Q : VK}
    (w : WpE K cn E As H Z [] Q ((compL b c d (kills ks ρ) ts).bind fun us => .ok (.lst true us))) : CGo ks g tc te σ (fun D H' => Q (.ref D) H') J H := by
  let R (us : List T) (rest : List T) : Res T := (compL b c d (kills ks ρ) rest).bind fun us' => .ok (.lst true (us ++ us'))
  refine ⟨fun i m ys H' => m = ts.length - i ∧ i ≤ ts.length ∧ ∃ us Z' B, Mo H Z H' Z' ∧ Reps K cn H' Z' us ys B ∧ B.Nodup ∧ (∀ x ∈ B, ¬ Z' x ∧ H x = none) ∧ us.length ≤ i ∧ WpE K cn E As H Z [] Q (R us (ts.drop i)), ⟨ts.length, by simp, Nat.zero_le _, [], Z, [], F.mo0, Reps.nil, List.nodup_nil, nomem, Nat.le_refl _, ?_⟩, ?_⟩
  · simpa [R] using w
  rintro i m ys H1 ⟨rfl, hi, us, Z1, B, m1, r1, nd, bz, hul, w⟩
  have hyl := Reps.length us r1
  have s1 := hs.mo m1
  by_cases hlt : i < ts.length
  · obtain ⟨t, et⟩ : ∃ t, ts[i]? = some t := ⟨ts[i], List.getElem?_eq_getElem hlt⟩
    obtain ⟨go, yl⟩ := s1.turn et
    have ed : ts.drop i = t :: ts.drop (i + 1) := by
      have := List.getElem?_eq_some_iff.mp et
      obtain ⟨h1, h2⟩ := this
      rw [← h2]
      exact List.drop_eq_getElem_cons hlt
    refine .inr ⟨go, by omega, _, fun ys' H' p' => ⟨ts.length - (i + 1), by omega, p'⟩, fun x H' y => ?_⟩
    obtain ⟨rfl, rx⟩ := yl x H' y
    have F1 := (F.mo m1).clr ks
    rw [ed] at w
    simp only [R, compL] at w
    cases eb : b t (kills ks ρ) with
    | none => rw [eb] at w; exact w.elim
    | some ρ1 =>
      rw [eb] at w
      simp only at w
      refine hg (killA ks As) H' Z1 (kills ks ρ) (L2.clr ks σ) t x [] F1 rx List.nodup_nil (nomem) (nomem) _ ρ1 eb fun σ2 As2 F2 o2 l2 k2 => ⟨⟨?_, fun j v hj => ?_⟩, ?_⟩
      · rw [l2, clr_length]
      · have := (clr_get ks σ hj).2
        rw [k2 j this, hj]
      refine hc As2 H' Z1 ρ1 σ2 F2 _ ?_
      have toX : ∀ {x : Exc} {H2 : Hp} {Z2 : Addr → Prop}, Mo H' Z1 H2 Z2 → WpX K cn E As H Z x → WpX K cn E As2 H2 Z2 x := by
        intro x H2 Z2 m2 h
        refine h.ev (m1.trans m2).ev |>.ev ⟨fun _ _ q _ => q, fun a ha => ?_, fun _ q => q, fun _ q => .inl q, fun _ q => q⟩
        rcases o2 a ha with z | z
        · exact .inl (killA_mem z)
        · cases z
      cases ec : c ρ1 with
      | ok k =>
        rw [ec] at w
        intro H2 Z2 p2
        simp only [Res.bind] at w
        cases k with
        | true =>
          rw [if_pos rfl] at w
          rw [if_pos rfl]
          refine he As2 H2 Z2 ρ1 σ2 (F2.mo p2.mo) _ ?_
          cases ee : d ρ1 with
          | ok u =>
            rw [ee] at w
            intro v H3 Z3 C p3
            have m3 := (m1.trans p2.mo).trans p3.mo
            have bnC : ∀ y ∈ C, H2 y = none := fun y hy => (p3.bn y hy).resolve_right (fun ⟨i, hi, _⟩ => by cases hi)
            refine ⟨rfl, hlt, us ++ [u], Z3, B ++ C, m3, Reps.append us (r1.same (p2.same.trans p3.same) (fun a h => p3.zz a (p2.zz a h))) (Reps.one p3.rep), ?_, ?_, by simp; omega, ?_⟩
            · rw [List.nodup_append]
              refine ⟨nd, p3.nd, fun x hx y hy e => ?_⟩
              subst e
              obtain ⟨o, ho, _⟩ := Reps.dom us r1 x hx
              have := bnC x hy
              rw [p2.same x o ho] at this
              cases this
            · intro x hx
              rcases List.mem_append.mp hx with hx | hx
              · refine ⟨fun z => ?_, (bz x hx).2⟩
                obtain ⟨o, ho, _⟩ := Reps.dom us r1 x hx
                rcases (p2.mo.trans p3.mo).zn x z with z | z
                · exact (bz x hx).1 z
                · rw [ho] at z; cases z
              · exact ⟨p3.bz x hx, (m1.trans p2.mo).same.free (bnC x hx)⟩
            · simp only [R]
              have : ∀ r : Res (List T), ((r.bind fun us' => Res.ok (u :: us')).bind fun us' => Res.ok (T.lst true (us ++ us'))) = r.bind fun us' => Res.ok (T.lst true (us ++ [u] ++ us')) := by
                intro r
                cases r <;> simp [Res.bind]
              simp only at w
              rw [← this]
              exact w
          | ex x => rw [ee] at w; exact toX p2.mo w
          | no => rw [ee] at w; exact w.elim
        | false =>
          rw [if_neg (by decide)] at w
          rw [if_neg (by decide)]
          refine ⟨rfl, hlt, us, Z2, B, m1.trans p2.mo, r1.same p2.same p2.zz, nd, fun x hx => ⟨fun z => ?_, (bz x hx).2⟩, by omega, w⟩
          obtain ⟨o, ho, _⟩ := Reps.dom us r1 x hx
          rcases p2.zn x z with z | z
          · exact (bz x hx).1 z
          · rw [ho] at z; cases z
      | ex x => rw [ec] at w; exact toX ⟨Same.refl _, fun _ h => h, fun _ h => .inl h, m1.zi⟩ w
      | no => rw [ec] at w; exact w.elim
  · have ei : i = ts.length := by omega
    subst ei
    refine .inl ⟨s1.stop (Nat.le_refl _), fun D hD => ?_⟩
    rw [List.drop_length] at w
    simp only [R, compL, Res.bind, List.append_nil] at w
    have hm := m1.trans (Mo.new (.lst ys) hD m1.zi)
    refine w (.ref D) _ Z1 (D :: B) ⟨hm.same, hm.zz, hm.zn, hm.zi, ?_, ?_, ?_, ?_⟩
    · simp only [Rep]
      exact ⟨D, ys, B, rfl, rfl, upd_same, r1.same (same_new hD _) (fun _ h => h)⟩
    · refine List.nodup_cons.mpr ⟨fun hb => ?_, nd⟩
      obtain ⟨o, ho, _⟩ := Reps.dom us r1 D hb
      rw [ho] at hD; cases hD
    · intro x hx
      rcases List.mem_cons.mp hx with rfl | hx
      · exact fun z => m1.zi _ z hD
      · exact (bz x hx).1
    · intro x hx
      rcases List.mem_cons.mp hx with rfl | hx
      · exact .inl (m1.same.free hD)
      · exact .inl (bz x hx).2
theorem re_comp {ks : List Nat} {wi : TI} {g : TG} {tc : TT} {te : TE} {di : Fr → Res (List T)} {b : T → Fr → Option Fr} {c : Fr → Res Bool} {d : Fr → Res T} (hi : RI K cn E false wi di) (hg : RG K cn ks g b) (hc : RT K cn E tc c) (he : RE K cn E [] te d) :
    RE K cn E [] (tComp ks wi g tc te) (dComp ks di b c d) := fun As H Z ρ σ F Q w => by
  unfold dComp at w
  refine hi As H Z ρ σ F _ ?_
  cases e : di ρ with
  | ok ts =>
    rw [e] at w
    intro J H1 Z1 m s
    simp only [Res.bind] at w
    split at w
    · next hl => exact comp_go hg hc he (F.mo m) s hl (WpE.mo F w m)
    · exact w.elim
  | ex x => rw [e] at w; exact w
  | no => rw [e] at w; exact w

/-! ### statements -/
def sSeq (a b : Fr → Out) : Fr → Out := fun ρ => match a ρ with
  | .nx ρ' => b ρ'
  | o => o
def sNext : Fr → Out := fun ρ => .nx ρ
theorem rs_next : RS K cn E tNext sNext := fun As H Z ρ σ F D w => w σ As H Z F Ev.refl
theorem rs_seq {t u : TS} {a b : Fr → Out} (ha : RS K cn E t a) (hb : RS K cn E u b) : RS K cn E (tSeq t u) (sSeq a b) := fun As H Z ρ σ F D w => by
  unfold sSeq at w
  refine ha As H Z ρ σ F _ ?_
  cases e : a ρ with
  | nx ρ' =>
    rw [e] at w
    exact fun σ' As' H' Z' F' ev => hb As' H' Z' ρ' σ' F' D (Wp.ev w ev)
  | bk ρ' => rw [e] at w; exact w
  | ct ρ' => rw [e] at w; exact w
  | rt t => rw [e] at w; exact w
  | ex x => rw [e] at w; exact w
  | no => rw [e] at w; exact w
/-- ahead of a statement slots may be frozen -/
theorem RS.frz {t : TS} {a : Fr → Out} (i : Nat) (h : RS K cn E t a) : RS K cn E t (fun ρ => a (frzAt i ρ)) := fun As H Z ρ σ F D w => by
  obtain ⟨Z', As', F', ev⟩ := F.frz i
  exact h As' H Z' _ σ F' D (Wp.ev w ev)
def sAsg (mv : List Nat) (d : Fr → Res T) (b : T → Fr → Option Fr) : Fr → Out := fun ρ => match d ρ with
  | .ok t => match b t (kills mv ρ) with
    | some ρ' => .nx ρ'
    | none => .no
  | .ex x => .ex x
  | .no => .no
theorem Post.out {As : List (List Addr)} {H H' : Hp} {Z Z' : Addr → Prop} {ρ : Fr} {σ : St} {mv : List Nat} {t : T} {v : V} {B : List Addr} (F : Frm K cn H Z ρ σ As) (p : Post K cn As H Z mv H' Z' t v B) : ∀ x ∈ B, x ∉ (killA mv As).flatten := fun x hx hA => by
  rcases p.bn x hx with z | ⟨i, hi, z⟩
  · obtain ⟨o, ho, _⟩ := F.sl.dom x (killA_mem hA)
    rw [ho] at z; cases z
  · exact killA_out F.nd hi z hA
theorem Post.inA {As : List (List Addr)} {H H' : Hp} {Z Z' : Addr → Prop} {mv : List Nat} {t : T} {v : V} {B : List Addr} (p : Post K cn As H Z mv H' Z' t v B) : ∀ x ∈ B, x ∈ As.flatten ∨ H x = none := fun x hx => by
  rcases p.bn x hx with z | ⟨i, hi, z⟩
  · exact .inr z
  · exact .inl (mem_getD_flat z)
theorem rs_asg {ks mv : List Nat} {te : TE} {g : TG} {d : Fr → Res T} {b : T → Fr → Option Fr} (he : RE K cn E mv te d) (hg : RG K cn ks g b) : RS K cn E (tAsg te g) (sAsg mv d b) := fun As H Z ρ σ F D w => by
  unfold sAsg at w
  refine he As H Z ρ σ F _ ?_
  cases e : d ρ with
  | ok t =>
    rw [e] at w
    intro v H1 Z1 B p
    simp only at w
    cases eb : b t (kills mv ρ) with
    | none => rw [eb] at w; exact w.elim
    | some ρ' =>
      rw [eb] at w
      refine hg (killA mv As) H1 Z1 (kills mv ρ) σ t v B ((F.mo p.mo).kills mv) p.rep p.nd p.bz (p.out F) _ ρ' eb fun σ' As' F' o' _ _ => ?_
      refine w σ' As' H1 Z1 F' ⟨fun a o h _ => p.same a o h, fun a ha => ?_, p.zz, fun a h => (p.zn a h).imp_right .inr, fun a h => p.same.free h⟩
      rcases o' a ha with z | z
      · exact .inl (killA_mem z)
      · exact p.inA a z
  | ex x => rw [e] at w; exact w
  | no => rw [e] at w; exact w
theorem rs_setComp {k : Nat} {ks : List Nat} {wi : TI} {g : TG} {tc : TT} {te : TE} {di : Fr → Res (List T)} {b : T → Fr → Option Fr} {c : Fr → Res Bool} {d : Fr → Res T} (hi : RI K cn E false wi di) (hg : RG K cn ks g b) (hc : RT K cn E tc c) (he : RE K cn E [] te d) :
    RS K cn E (tSetComp k ks wi g tc te) (sAsg [] (dComp ks di b c d) (bName k)) := fun As H Z ρ σ F D w =>
  rs_asg (re_comp hi hg hc he) (rg_name k) As H Z ρ σ F D w
def sRet (mv : List Nat) (d : Fr → Res T) : Fr → Out := fun ρ => match d ρ with
  | .ok t => .rt t
  | .ex x => .ex x
  | .no => .no
theorem rs_ret {mv : List Nat} {te : TE} {d : Fr → Res T} (he : RE K cn E mv te d) : RS K cn E (tRet te) (sRet mv d) := fun As H Z ρ σ F D w => by
  unfold sRet at w
  refine he As H Z ρ σ F _ ?_
  cases e : d ρ with
  | ok t =>
    rw [e] at w
    intro v H1 Z1 B p
    refine w v H1 Z1 B ⟨⟨fun a o h _ => p.same a o h, fun a ha => ?_, p.zz, fun a h => (p.zn a h).imp_right .inr, fun a h => p.same.free h⟩, p.rep, p.nd, p.bz, p.zi⟩
    rw [List.flatten_cons, List.flatten_nil, List.append_nil] at ha
    exact p.inA a ha
  | ex x => rw [e] at w; exact w
  | no => rw [e] at w; exact w
def sIf (c : Fr → Res Bool) (a b : Fr → Out) : Fr → Out := fun ρ => match c ρ with
  | .ok k => if k = true then a ρ else b ρ
  | .ex x => .ex x
  | .no => .no
theorem rs_if {tt : TT} {t u : TS} {c : Fr → Res Bool} {a b : Fr → Out} (hc : RT K cn E tt c) (ha : RS K cn E t a) (hb : RS K cn E u b) : RS K cn E (tIfS tt t u) (sIf c a b) := fun As H Z ρ σ F D w => by
  unfold sIf at w
  refine hc As H Z ρ σ F _ ?_
  cases e : c ρ with
  | ok k =>
    rw [e] at w
    intro H1 Z1 p
    simp only at w
    split
    · next h => rw [if_pos h] at w; exact ha As H1 Z1 ρ σ (F.mo p.mo) D (Wp.ev w p.mo.ev)
    · next h => rw [if_neg h] at w; exact hb As H1 Z1 ρ σ (F.mo p.mo) D (Wp.ev w p.mo.ev)
  | ex x => rw [e] at w; exact w
  | no => rw [e] at w; exact w
def sDrop (d : Fr → Res T) : Fr → Out := fun ρ => match d ρ with
  | .ok _ => .nx ρ
  | .ex x => .ex x
  | .no => .no
theorem rs_drop {te : TE} {d : Fr → Res T} (he : RE K cn E [] te d) : RS K cn E (tDrop te) (sDrop d) := fun As H Z ρ σ F D w => by
  unfold sDrop at w
  refine he As H Z ρ σ F _ ?_
  cases e : d ρ with
  | ok t => rw [e] at w; exact fun v H1 Z1 B p => w σ As H1 Z1 (F.mo p.mo) p.mo.ev
  | ex x => rw [e] at w; exact w
  | no => rw [e] at w; exact w
def sBreak : Fr → Out := fun ρ => .bk ρ
def sCont : Fr → Out := fun ρ => .ct ρ
theorem rs_break : RS K cn E tBreak sBreak := fun As H Z ρ σ F D w => w σ As H Z F Ev.refl
theorem rs_cont : RS K cn E tCont sCont := fun As H Z ρ σ F D w => w σ As H Z F Ev.refl
/-! ### loops -/
def forL (b : T → Fr → Option Fr) (body : Fr → Out) : List T → Fr → Out
  | [], ρ => .nx ρ
  | t :: ts, ρ => match b t ρ with
    | none => .no
    | some ρ1 => match body ρ1 with
      | .nx ρ2 => forL b body ts ρ2
      | .ct ρ2 => forL b body ts ρ2
      | .bk ρ2 => .nx ρ2
      | o => o
def sFor (di : Fr → Res (List T)) (b : T → Fr → Option Fr) (body : Fr → Out) : Fr → Out := fun ρ => match di ρ with
  | .ok ts => forL b body ts ρ
  | .ex x => .ex x
  | .no => .no
theorem rs_for {ks : List Nat} {wi : TI} {g : TG} {tb : TS} {di : Fr → Res (List T)} {b : T → Fr → Option Fr} {body : Fr → Out} (hi : RI K cn E true wi di) (hg : RG K cn ks g b) (hb : RS K cn E tb body) : RS K cn E (tFor wi g tb) (sFor di b body) := fun As H Z ρ σ F D w => by
  unfold sFor at w
  refine hi As H Z ρ σ F _ ?_
  cases e : di ρ with
  | ok ts =>
    rw [e] at w
    intro J H1 Z1 m s
    refine ⟨fun i k σ' H' => k = ts.length - i ∧ i ≤ ts.length ∧ ∃ ρ' Z' As', Frm K cn H' Z' ρ' σ' As' ∧ Src K cn true H' Z' J ts ∧ Wp K cn E As' H' Z' D (forL b body (ts.drop i) ρ'), ⟨ts.length, by simp, Nat.zero_le _, ρ, Z1, As, F.mo m, s, Wp.ev w m.ev⟩, ?_⟩
    rintro i k σ1 H2 ⟨rfl, hle, ρ1, Z2, As1, F1, s1, w1⟩
    by_cases hlt : i < ts.length
    · obtain ⟨t, et⟩ : ∃ t, ts[i]? = some t := ⟨ts[i], List.getElem?_eq_getElem hlt⟩
      obtain ⟨go, yl⟩ := s1.turn et
      have ed : ts.drop i = t :: ts.drop (i + 1) := by
        obtain ⟨h1, h2⟩ := List.getElem?_eq_some_iff.mp et
        rw [← h2]
        exact List.drop_eq_getElem_cons hlt
      refine .inr ⟨go, _, fun σ' H' p' => ⟨ts.length - (i + 1), by omega, p'⟩, fun x H' y => ?_⟩
      obtain ⟨rfl, rx⟩ := yl x H' y
      rw [ed] at w1
      simp only [forL] at w1
      cases eb : b t ρ1 with
      | none => rw [eb] at w1; exact w1.elim
      | some ρ2 =>
        rw [eb] at w1
        simp only at w1
        refine hg As1 H' Z2 ρ1 σ1 t x [] F1 rx List.nodup_nil (nomem) (nomem) _ ρ2 eb fun σ2 As2 F2 o2 _ _ => ?_
        have ev2 : Ev As1 H' Z2 As2 H' Z2 := ⟨fun _ _ q _ => q, fun a ha => .inl ((o2 a ha).resolve_right ((fun z => nomatch z))), fun _ q => q, fun _ q => .inl q, fun _ q => q⟩
        refine hb As2 H' Z2 ρ2 σ2 F2 _ ?_
        have w2 := Wp.ev w1 ev2
        cases eo : body ρ2 with
        | nx ρ3 =>
          rw [eo] at w2
          exact fun σ' As' H'' Z' F' ev => ⟨rfl, hlt, ρ3, Z', As', F', (s1.ev F1 ev2).ev F2 ev, Wp.ev w2 ev⟩
        | ct ρ3 =>
          rw [eo] at w2
          exact fun σ' As' H'' Z' F' ev => ⟨rfl, hlt, ρ3, Z', As', F', (s1.ev F1 ev2).ev F2 ev, Wp.ev w2 ev⟩
        | bk ρ3 => rw [eo] at w2; exact w2
        | rt t => rw [eo] at w2; exact w2
        | ex x => rw [eo] at w2; exact w2
        | no => rw [eo] at w2; exact w2
    · have ei : i = ts.length := by omega
      subst ei
      rw [List.drop_length] at w1
      exact .inl ⟨s1.stop (Nat.le_refl _), w1 σ1 As1 H2 Z2 F1 Ev.refl⟩
  | ex x => rw [e] at w; exact w
  | no => rw [e] at w; exact w
def whileN (c : Fr → Res Bool) (body : Fr → Out) : Nat → Fr → Out
  | 0, _ => .no
  | n + 1, ρ => match c ρ with
    | .ok k => if k = true then match body ρ with
        | .nx ρ2 => whileN c body n ρ2
        | .ct ρ2 => whileN c body n ρ2
        | .bk ρ2 => .nx ρ2
        | o => o
      else .nx ρ
    | .ex x => .ex x
    | .no => .no
/-- more turns than any loop here takes (which number it is must not be reckoned out) -/
theorem many_ex : ∃ n : Nat, 10 ^ 12 ≤ n := ⟨_, Nat.le_refl _⟩
noncomputable def manyTurns : Nat := Classical.choose many_ex
theorem many_le : 10 ^ 12 ≤ manyTurns := Classical.choose_spec many_ex
noncomputable def sWhile (c : Fr → Res Bool) (body : Fr → Out) : Fr → Out := whileN c body manyTurns
theorem rs_while {tc : TT} {tb : TS} {c : Fr → Res Bool} {body : Fr → Out} (hc : RT K cn E tc c) (hb : RS K cn E tb body) : RS K cn E (tWhile tc tb) (sWhile c body) := fun As H Z ρ σ F D w => by
  unfold sWhile at w
  refine ⟨fun n σ' H' => ∃ ρ' Z' As', Frm K cn H' Z' ρ' σ' As' ∧ Wp K cn E As' H' Z' D (whileN c body n ρ'), ⟨manyTurns, ρ, Z, As, F, w⟩, ?_⟩
  rintro n σ1 H1 ⟨ρ1, Z1, As1, F1, w1⟩
  cases n with
  | zero => exact w1.elim
  | succ n =>
    refine hc As1 H1 Z1 ρ1 σ1 F1 _ ?_
    simp only [whileN] at w1
    cases ec : c ρ1 with
    | ok k =>
      rw [ec] at w1
      intro H2 Z2 p2
      simp only at w1
      cases k with
      | true =>
        rw [if_pos rfl] at w1
        rw [if_pos rfl]
        refine ⟨fun σ' H' => ∃ ρ' Z' As', Frm K cn H' Z' ρ' σ' As' ∧ Wp K cn E As' H' Z' D (whileN c body n ρ'), fun σ' H' p' => ⟨n, Nat.lt_succ_self _, p'⟩, ?_⟩
        refine hb As1 H2 Z2 ρ1 σ1 (F1.mo p2.mo) _ ?_
        have w2 := Wp.ev w1 p2.mo.ev
        cases eo : body ρ1 with
        | nx ρ3 => rw [eo] at w2; exact fun σ' As' H'' Z' F' ev => ⟨ρ3, Z', As', F', Wp.ev w2 ev⟩
        | ct ρ3 => rw [eo] at w2; exact fun σ' As' H'' Z' F' ev => ⟨ρ3, Z', As', F', Wp.ev w2 ev⟩
        | bk ρ3 => rw [eo] at w2; exact w2
        | rt t => rw [eo] at w2; exact w2
        | ex x => rw [eo] at w2; exact w2
        | no => rw [eo] at w2; exact w2
      | false =>
        rw [if_neg (by decide)] at w1
        rw [if_neg (by decide)]
        exact w1 σ1 As1 H2 Z2 (F1.mo p2.mo) p2.mo.ev
    | ex x => rw [ec] at w1; exact w1
    | no => rw [ec] at w1; exact w1
end
end TL

/-! TREES 6: a place within a tree that is changed; defs -/
namespace TL
open PySem PySem.Spec PyProof.Rows L2
section
variable {K : PySem.W.Frag} {cn : Str → Option Addr} {E : XK}

def setAt (t' : T) : List Nat → T → Option T
  | [], _ => some t'
  | k :: p, .lst o ts => match ts[k]? with
    | some t => (setAt t' p t).map fun u => .lst o (ts.set k u)
    | none => none
  | k :: p, .tup ts => match ts[k]? with
    | some t => (setAt t' p t).map fun u => .tup (ts.set k u)
    | none => none
  | _ :: _, _ => none
/-- the node u at the path p of the tree t0; and how another one is put there -/
structure Plug (K : PySem.W.Frag) (cn : Str → Option Addr) (H : Hp) (Z : Addr → Prop) (t0 : T) (v0 : V) (A0 : List Addr) (p : List Nat) (u : T) (v : V) (B : List Addr) : Prop where
  rep : Rep K cn H Z u v B
  sub : B.Sublist A0
  plug : ∀ H' Z' u' B', (∀ a, Z a → Z' a) → (∀ b o, H b = some o → ((b ∈ A0 ∧ b ∉ B) ∨ Z b ∨ imm o = true) → H' b = some o) → Rep K cn H' Z' u' v B' → B'.Nodup → (∀ x ∈ B', x ∈ A0 → x ∈ B) →
    ∃ t' A', setAt u' p t0 = some t' ∧ Rep K cn H' Z' t' v0 A' ∧ A'.Nodup ∧ ∀ x ∈ A', (x ∈ A0 ∧ x ∉ B) ∨ x ∈ B'
theorem Plug.mo {H H1 : Hp} {Z Z1 : Addr → Prop} {t0 u : T} {v0 v : V} {A0 B : List Addr} {p : List Nat} (h : Plug K cn H Z t0 v0 A0 p u v B) (s : Same H H1) (zz : ∀ a, Z a → Z1 a) : Plug K cn H1 Z1 t0 v0 A0 p u v B :=
  ⟨h.rep.same s zz, h.sub, fun H' Z' u' B' z k => h.plug H' Z' u' B' (fun a q => z a (zz a q)) fun b o q c => k b o (s b o q) (by
    rcases c with c | c | c
    · exact .inl c
    · exact .inr (.inl (zz b c))
    · exact .inr (.inr c))⟩
theorem Plug.root {H : Hp} {Z : Addr → Prop} {t0 : T} {v0 : V} {A0 : List Addr} (h : Rep K cn H Z t0 v0 A0) : Plug K cn H Z t0 v0 A0 [] t0 v0 A0 :=
  ⟨h, List.Sublist.refl _, fun H' Z' u' B' z k r nd _ => ⟨u', B', rfl, r, nd, fun x hx => .inr hx⟩⟩
/-- one place of a row of trees -/
theorem Reps.splice {H : Hp} {Z : Addr → Prop} : ∀ (ts : List T) {vs : List V} {A : List Addr} {k : Nat} {t : T}, Reps K cn H Z ts vs A → ts[k]? = some t → ∃ v B1 B B2, vs[k]? = some v ∧ A = B1 ++ B ++ B2 ∧ Rep K cn H Z t v B ∧
    ∀ H' Z' t' B', (∀ a, Z a → Z' a) → (∀ b o, H b = some o → (b ∈ B1 ∨ b ∈ B2 ∨ Z b ∨ imm o = true) → H' b = some o) → Rep K cn H' Z' t' v B' → Reps K cn H' Z' (ts.set k t') vs (B1 ++ B' ++ B2)
  | [], _, _, _, _, h, e => by simp at e
  | t :: ts, vs, A, 0, t', h, e => by
    simp only [Reps] at h
    obtain ⟨v, r, B, C, rfl, rfl, h1, h2⟩ := h
    simp at e
    subst e
    refine ⟨v, [], B, C, rfl, by simp, h1, fun H' Z' u B' z k q => ?_⟩
    simp only [List.set_cons_zero, Reps]
    exact ⟨v, r, B', C, rfl, by simp, q, Reps.keep ts h2 (fun b o e c => k b o e (.inr c)) z⟩
  | t :: ts, vs, A, k + 1, t', h, e => by
    simp only [Reps] at h
    obtain ⟨v, r, B, C, rfl, rfl, h1, h2⟩ := h
    obtain ⟨v', B1, B', B2, e1, rfl, e3, e4⟩ := Reps.splice ts (k := k) h2 (by simpa using e)
    refine ⟨v', B ++ B1, B', B2, by simpa using e1, by simp, e3, fun H' Z' u C' z kk q => ?_⟩
    simp only [List.set_cons_succ, Reps]
    refine ⟨v, r, B, B1 ++ C' ++ B2, rfl, by simp, Rep.keep t h1 (fun b o e c => kk b o e ?_) z, e4 H' Z' u C' z (fun b o e c => kk b o e ?_) q⟩
    · rcases c with c | c
      · exact .inl (List.mem_append_left _ c)
      · exact .inr (.inr c)
    · rcases c with c | c
      · exact .inl (List.mem_append_right _ c)
      · exact .inr c
def nodeAt : List Nat → T → Option T
  | [], t => some t
  | k :: p, .lst _ ts => (ts[k]?).bind (nodeAt p)
  | k :: p, .tup ts => (ts[k]?).bind (nodeAt p)
  | _ :: _, _ => none
theorem setAt_step {t' u2 : T} {k : Nat} : ∀ (p : List Nat) (t0 u : T), nodeAt p t0 = some u → setAt t' [k] u = some u2 → setAt t' (p ++ [k]) t0 = setAt u2 p t0
  | [], t0, u, h, e => by cases h; exact e
  | j :: p, t0, u, h, e => by
    cases t0 with
    | lst o ts =>
      simp only [nodeAt] at h
      cases q : ts[j]? with
      | none => rw [q] at h; cases h
      | some t =>
        rw [q] at h
        simp only [List.cons_append, setAt, q]
        rw [setAt_step p t u h e]
    | tup ts =>
      simp only [nodeAt] at h
      cases q : ts[j]? with
      | none => rw [q] at h; cases h
      | some t =>
        rw [q] at h
        simp only [List.cons_append, setAt, q]
        rw [setAt_step p t u h e]
    | _ => cases h
theorem nodeAt_app {k : Nat} : ∀ (p : List Nat) (t0 u u2 : T), nodeAt p t0 = some u → nodeAt [k] u = some u2 → nodeAt (p ++ [k]) t0 = some u2
  | [], t0, u, u2, h, e => by cases h; exact e
  | j :: p, t0, u, u2, h, e => by
    cases t0 with
    | lst o ts =>
      simp only [nodeAt, List.cons_append] at h ⊢
      cases q : ts[j]? with
      | none => rw [q] at h; cases h
      | some t => rw [q] at h; exact nodeAt_app p t u u2 h e
    | tup ts =>
      simp only [nodeAt, List.cons_append] at h ⊢
      cases q : ts[j]? with
      | none => rw [q] at h; cases h
      | some t => rw [q] at h; exact nodeAt_app p t u u2 h e
    | _ => cases h
/-- the node u with other items -/
def reKid (u : T) (ts : List T) : T := match u with
  | .lst o _ => .lst o ts
  | _ => .tup ts
/-- one step down -/
theorem Plug.step {H : Hp} {Z : Addr → Prop} {t0 u u2 : T} {v0 v : V} {A0 B : List Addr} {p : List Nat} {k : Nat} (h : Plug K cn H Z t0 v0 A0 p u v B) (nd : A0.Nodup) (hn : nodeAt p t0 = some u) {ts : List T} {vs : List V} {C : List Addr} (r : Reps K cn H Z ts vs C) (hC : C.Sublist B) (e : ts[k]? = some u2)
    (hs : ∀ t', setAt t' [k] u = some (reKid u (ts.set k t')))
    (back : ∀ H' Z' t' C', (∀ a, Z a → Z' a) → (∀ b o, H b = some o → ((b ∈ B ∧ b ∉ C) ∨ Z b ∨ imm o = true) → H' b = some o) → Reps K cn H' Z' (ts.set k t') vs C' → C'.Nodup → (∀ x ∈ C', x ∈ B → x ∈ C) → ∃ B', Rep K cn H' Z' (reKid u (ts.set k t')) v B' ∧ B'.Nodup ∧ ∀ x ∈ B', (x ∈ B ∧ x ∉ C) ∨ x ∈ C') :
    ∃ w D, vs[k]? = some w ∧ Plug K cn H Z t0 v0 A0 (p ++ [k]) u2 w D := by
  obtain ⟨w, B1, D, B2, ew, rfl, rw', put⟩ := Reps.splice ts r e
  have ndB : B.Nodup := nd.sublist h.sub
  have ndC := ndB.sublist hC
  have dsub : D.Sublist (B1 ++ D ++ B2) := (List.sublist_append_right B1 D).trans (List.sublist_append_left _ B2)
  have hDB : ∀ x ∈ D, x ∈ B := fun x hx => hC.mem (dsub.mem hx)
  refine ⟨w, D, ew, rw', dsub.trans (hC.trans h.sub), fun H' Z' u' D' z kk q ndD hD => ?_⟩
  have nd1 := ndC
  rw [List.append_assoc, List.nodup_append] at nd1
  obtain ⟨n1, n2, n3⟩ := nd1
  rw [List.nodup_append] at n2
  obtain ⟨n4, n5, n6⟩ := n2
  have inC1 : ∀ x ∈ B1, x ∈ B1 ++ D ++ B2 := fun x hx => List.mem_append_left _ (List.mem_append_left _ hx)
  have inC2 : ∀ x ∈ B2, x ∈ B1 ++ D ++ B2 := fun x hx => List.mem_append_right _ hx
  have o1 : ∀ x ∈ B1, x ∈ A0 ∧ x ∉ D := fun x hx => ⟨h.sub.mem (hC.mem (inC1 x hx)), fun hd => n3 x hx x (List.mem_append_left _ hd) rfl⟩
  have o2 : ∀ x ∈ B2, x ∈ A0 ∧ x ∉ D := fun x hx => ⟨h.sub.mem (hC.mem (inC2 x hx)), fun hd => n6 x hd x hx rfl⟩
  have rs := put H' Z' u' D' z (fun b o q c => kk b o q (by
    rcases c with c | c | c
    · exact .inl (o1 b c)
    · exact .inl (o2 b c)
    · exact .inr c)) q
  have ndN : (B1 ++ D' ++ B2).Nodup := by
    rw [List.append_assoc, List.nodup_append]
    refine ⟨n1, ?_, fun x hx y hy e => ?_⟩
    · rw [List.nodup_append]
      refine ⟨ndD, n5, fun x hx y hy e => ?_⟩
      subst e
      exact (o2 x hy).2 (hD x hx (o2 x hy).1)
    · subst e
      rcases List.mem_append.mp hy with hy | hy
      · exact (o1 x hx).2 (hD x hy (o1 x hx).1)
      · exact n3 x hx x (List.mem_append_right _ hy) rfl
  obtain ⟨B', rB, ndB', hB'⟩ := back H' Z' u' _ z (fun b o q c => kk b o q (by
    rcases c with ⟨c1, c2⟩ | c
    · exact .inl ⟨h.sub.mem c1, fun hd => c2 (dsub.mem hd)⟩
    · exact .inr c)) rs ndN (fun x hx hb => by
      rcases List.mem_append.mp hx with hx | hx
      · rcases List.mem_append.mp hx with hx | hx
        · exact inC1 x hx
        · exact dsub.mem (hD x hx (h.sub.mem hb))
      · exact inC2 x hx)
  obtain ⟨t', A', e1, r1, nd', hA'⟩ := h.plug H' Z' _ B' z (fun b o q c => kk b o q (by
    rcases c with ⟨c1, c2⟩ | c
    · exact .inl ⟨c1, fun hd => c2 (hDB b hd)⟩
    · exact .inr c)) rB ndB' (fun x hx ha => by
      rcases hB' x hx with ⟨q, _⟩ | q
      · exact q
      · rcases List.mem_append.mp q with q | q
        · rcases List.mem_append.mp q with q | q
          · exact hC.mem (inC1 x q)
          · exact hDB x (hD x q ha)
        · exact hC.mem (inC2 x q))
  refine ⟨t', A', ?_, r1, nd', fun x hx => ?_⟩
  · rw [setAt_step p t0 u hn (hs u')]
    exact e1
  · rcases hA' x hx with ⟨q1, q2⟩ | q
    · exact .inl ⟨q1, fun hd => q2 (hDB x hd)⟩
    · rcases hB' x q with ⟨q1, q2⟩ | q
      · exact .inl ⟨h.sub.mem q1, fun hd => q2 (dsub.mem hd)⟩
      · rcases List.mem_append.mp q with q | q
        · rcases List.mem_append.mp q with q | q
          · exact .inl (o1 x q)
          · exact .inr q
        · exact .inl (o2 x q)

/-! ### a path of indices from a name -/
def WpP (K : PySem.W.Frag) (cn : Str → Option Addr) (E : XK) (As : List (List Addr)) (H : Hp) (Z : Addr → Prop) (A0 : List Addr) (t0 : T) (v0 : V) (Q : VK) : Res (List Nat) → Prop
  | .ok p => ∀ u v B H' Z', Mo H Z H' Z' → nodeAt p t0 = some u → Plug K cn H' Z' t0 v0 A0 p u v B → Q v H'
  | .ex x => WpX K cn E As H Z x
  | .no => False
def RP (K : PySem.W.Frag) (cn : Str → Option Addr) (E : XK) (j : Nat) (to : TE) (d : Fr → Res (List Nat)) : Prop := ∀ As H Z ρ σ, Frm K cn H Z ρ σ As → ∀ t0 v0, ρ[j]? = some (some t0) → σ[j]? = some (some v0) → Rep K cn H Z t0 v0 (As.getD j []) → ∀ Q, WpP K cn E As H Z (As.getD j []) t0 v0 Q (d ρ) → to σ H Q
def pRoot : Fr → Res (List Nat) := fun _ => .ok []
theorem rp_var (j : Nat) : RP K cn E j (tVar j) pRoot := fun As H Z ρ σ F t0 v0 e1 e2 r Q w => ⟨v0, e2, w t0 v0 _ H Z F.mo0 rfl (Plug.root r)⟩
/-- the items of a node that may be changed -/
def kids : T → Option (List T)
  | .lst o ts => if o = true then some ts else none
  | .tup ts => some ts
  | _ => none
def pIx (j : Nat) (d : Fr → Res (List Nat)) (i : Fr → Res T) : Fr → Res (List Nat) := fun ρ => (d ρ).bind fun p => (i ρ).bind fun x => match ρ[j]?, x with
  | some (some t0), .int n => match (nodeAt p t0).bind kids with
    | some ts => match ixN ts.length n with
      | some k => .ok (p ++ [k])
      | none => .no
    | none => .no
  | _, _ => .no
theorem getD_nd {As : List (List Addr)} (h : As.flatten.Nodup) (i : Nat) : (As.getD i []).Nodup := by
  rw [List.getD_eq_getElem?_getD]
  cases q : As[i]? with
  | none => exact List.nodup_nil
  | some C => exact List.Nodup.sublist (List.sublist_flatten_of_mem (List.mem_of_getElem? q)) h
theorem ixN_lt {n k : Nat} {i : Int} (h : ixN n i = some k) : k < n := (ixN_seq h).2.1
theorem atI_ixN {α : Type} {xs : List α} {i : Int} {k : Nat} {v : α} (h : ixN xs.length i = some k) (e : xs[k]? = some v) : atI xs i = some v := by
  unfold atI
  rw [h]
  exact e
/-- rIx of a list, a tuple, a text: what the layer's index asks -/
theorem rp_ix {j : Nat} {to ti : TE} {d : Fr → Res (List Nat)} {i : Fr → Res T} (hd : RP K cn E j to d) (hi : RB K cn E ti i) : RP K cn E j (tOp (rIx K) to ti) (pIx j d i) := fun As H Z ρ σ F t0 v0 e1 e2 r Q w => by
  have nd := getD_nd F.nd j
  unfold pIx at w
  refine hd As H Z ρ σ F t0 v0 e1 e2 r _ ?_
  cases ed : d ρ with
  | ok p =>
    rw [ed] at w
    intro u v B H1 Z1 m1 hn pl
    refine hi As H1 Z1 ρ σ (F.mo m1) _ ?_
    simp only [Res.bind] at w
    cases ei : i ρ with
    | ok x =>
      rw [ei] at w
      intro vi H2 Z2 C p2
      simp only [e1] at w
      cases x with
      | int n =>
        have qi := p2.rep
        simp only [Rep] at qi
        obtain ⟨rfl, _⟩ := qi
        simp only [hn] at w
        have m2 := m1.trans p2.mo
        have pl2 := pl.mo p2.same p2.zz
        cases u with
        | lst o ts =>
          cases o with
          | false => simp only [Option.bind, kids, Bool.false_eq_true, if_false] at w; exact w.elim
          | true =>
            simp only [Option.bind, kids, if_true] at w
            cases ek : ixN ts.length n with
            | none => rw [ek] at w; exact w.elim
            | some k =>
              rw [ek] at w
              obtain ⟨u2, eu⟩ : ∃ u2, ts[k]? = some u2 := ⟨ts[k]'(ixN_lt ek), List.getElem?_eq_getElem _⟩
              have q := pl2.rep
              simp only [Rep] at q
              obtain ⟨a, vs, B', rfl, rfl, ea, rs⟩ := q
              have ndB : (a :: B').Nodup := nd.sublist pl2.sub
              obtain ⟨wv, D, ew, pl3⟩ := pl2.step nd hn rs (List.sublist_cons_self _ _) eu (fun t' => by simp [setAt, eu, reKid]) (fun H' Z' t' C' z kk rr ndC hC => by
                refine ⟨a :: C', ?_, List.nodup_cons.mpr ⟨fun ha => (List.nodup_cons.mp ndB).1 (hC a ha List.mem_cons_self), ndC⟩, fun x hx => ?_⟩
                · simp only [reKid, Rep]
                  exact ⟨a, vs, C', rfl, rfl, kk a _ ea (.inl ⟨List.mem_cons_self, (List.nodup_cons.mp ndB).1⟩), rr⟩
                · rcases List.mem_cons.mp hx with rfl | hx
                  · exact .inl ⟨List.mem_cons_self, (List.nodup_cons.mp ndB).1⟩
                  · exact .inr hx)
              refine .inl ⟨a, vs, n, wv, rfl, rfl, SqL.of ea, atI_ixN (by rw [Reps.length ts rs]; exact ek) ew, w u2 wv D H2 Z2 m2 (nodeAt_app p t0 _ u2 hn (by simp [nodeAt, eu])) pl3⟩
        | tup ts =>
          simp only [Option.bind, kids] at w
          cases ek : ixN ts.length n with
          | none => rw [ek] at w; exact w.elim
          | some k =>
            rw [ek] at w
            obtain ⟨u2, eu⟩ : ∃ u2, ts[k]? = some u2 := ⟨ts[k]'(ixN_lt ek), List.getElem?_eq_getElem _⟩
            have q := pl2.rep
            simp only [Rep] at q
            obtain ⟨a, vs, rfl, ea, rs⟩ := q
            obtain ⟨wv, D, ew, pl3⟩ := pl2.step nd hn rs (List.Sublist.refl _) eu (fun t' => by simp [setAt, eu, reKid]) (fun H' Z' t' C' z kk rr ndC hC => by
              refine ⟨C', ?_, ndC, fun x hx => .inr hx⟩
              simp only [reKid, Rep]
              exact ⟨a, vs, rfl, SqT.keep ea (fun b o q i => kk b o q (.inr (.inr i))), rr⟩)
            refine .inr (.inl ⟨a, vs, n, wv, rfl, rfl, ea, atI_ixN (by rw [Reps.length ts rs]; exact ek) ew, w u2 wv D H2 Z2 m2 (nodeAt_app p t0 _ u2 hn (by simp [nodeAt, eu])) pl3⟩)
        | _ => simp only [Option.bind, kids] at w; exact w.elim
      | _ => exact w.elim
    | ex x => rw [ei] at w; exact WpX.ev w m1.ev
    | no => rw [ei] at w; exact w
  | ex x => rw [ed] at w; exact w
  | no => rw [ed] at w; exact w

/-! ### a list at a path is changed -/
/-- slot j, the path, the node's new items -/
def putAt (j : Nat) (p : List Nat) (us : List T) (ρ : Fr) : Out := match ρ[j]? with
  | some (some t0) => match setAt (.lst true us) p t0 with
    | some t' => .nx (ρ.set j (some t'))
    | none => .no
  | _ => .no
/-- the heap behind it; C: what the new items own, of the old ones' or of a moved or new thing's -/
theorem put_ok {As As1 : List (List Addr)} {H H1 : Hp} {Z Z1 : Addr → Prop} {ρ1 : Fr} {σ : St} {j : Nat} {t0 : T} {v0 : V} {p : List Nat} {us us' : List T} {v : V} {B : List Addr} {D : Ends}
    (F1 : Frm K cn H1 Z1 ρ1 σ As1) (e1 : ρ1[j]? = some (some t0)) (e2 : σ[j]? = some (some v0)) (pl : Plug K cn H1 Z1 t0 v0 (As1.getD j []) p (.lst true us) v B)
    {a : Addr} {ws ws' : List V} {C0 C : List Addr} (ev : v = .ref a) (eB : B = a :: C0) (ha : H1 a = some (.lst ws)) (hC : Reps K cn H1 Z1 us' ws' C) (ndC : C.Nodup) (hCz : ∀ x ∈ C, ¬ Z1 x) (hCa : ∀ x ∈ C, x ∈ As1.flatten → x ∈ C0)
    (evl : Ev As H Z As1 H1 Z1) (hCn : ∀ x ∈ C, x ∈ As.flatten ∨ H x = none) (w : Wp K cn E As H Z D (putAt j p us' ρ1)) : D.nx σ (L2.upd H1 a (.lst ws')) := by
  subst ev eB
  have nd := getD_nd F1.nd j
  have ndB : (a :: C0).Nodup := nd.sublist pl.sub
  have aA : a ∈ As1.getD j [] := pl.sub.mem List.mem_cons_self
  have aZ : ¬ Z1 a := F1.nz a (mem_getD_flat aA)
  have aC : a ∉ C := fun h => (List.nodup_cons.mp ndB).1 (hCa a h (mem_getD_flat aA))
  obtain ⟨t', A', es, r', ndA, hA⟩ := pl.plug (L2.upd H1 a (.lst ws')) Z1 (.lst true us') (a :: C) (fun _ h => h) (fun b o q c => by
    rw [upd_ne]
    · exact q
    · rintro rfl
      rcases c with c | c | c
      · exact c.2 List.mem_cons_self
      · exact aZ c
      · rw [ha] at q; cases q; cases c) (by
    simp only [Rep]
    exact ⟨a, ws', C, rfl, rfl, upd_same, Reps.upd hC ha rfl aC aZ⟩) (List.nodup_cons.mpr ⟨aC, ndC⟩) (fun x hx hxa => by
      rcases List.mem_cons.mp hx with rfl | hx
      · exact List.mem_cons_self
      · exact List.mem_cons_of_mem _ (hCa x hx (mem_getD_flat hxa)))
  unfold putAt at w
  rw [e1] at w
  simp only [es] at w
  have hA' : ∀ x ∈ A', x ∈ As1.getD j [] ∨ x ∈ C := fun x hx => by
    rcases hA x hx with q | q
    · exact .inl q.1
    · rcases List.mem_cons.mp q with rfl | q
      · exact .inl aA
      · exact .inr q
  -- the other slots
  have slots : ∀ {ρ : Fr} {σ : St} {As : List (List Addr)} {i : Nat}, Slots K cn H1 Z1 ρ σ As → As.flatten.Nodup → (∀ x ∈ As.flatten, x = a → x ∈ As.getD i []) → σ[i]? = some (some v0) → Slots K cn (L2.upd H1 a (.lst ws')) Z1 (ρ.set i (some t')) σ (As.set i A') := by
    intro ρ
    induction ρ with
    | nil => intro σ As i h _ _ e; obtain ⟨rfl, rfl⟩ := h; simp at e
    | cons o ρ ih =>
      intro σ As i h nd hx e
      obtain ⟨w', σ', A, As', rfl, rfl, h1, h2⟩ := h
      rw [List.flatten_cons, List.nodup_append] at nd
      cases i with
      | zero =>
        simp at e
        subst e
        refine ⟨_, σ', A', As', rfl, rfl, ⟨v0, rfl, r'⟩, ?_⟩
        have na : a ∉ As'.flatten := fun h => by
          have := hx a (by rw [List.flatten_cons, List.mem_append]; exact .inr h) rfl
          exact nd.2.2 a (by simpa using this) a h rfl
        have : ∀ {ρ : Fr} {σ : St} {As : List (List Addr)}, Slots K cn H1 Z1 ρ σ As → a ∉ As.flatten → Slots K cn (L2.upd H1 a (.lst ws')) Z1 ρ σ As := by
          intro ρ
          induction ρ with
          | nil => intro σ As h _; exact h
          | cons o ρ ih =>
            intro σ As h hn
            obtain ⟨w', σ', A, As', rfl, rfl, h1, h2⟩ := h
            rw [List.flatten_cons, List.mem_append, not_or] at hn
            refine ⟨w', σ', A, As', rfl, rfl, ?_, ih h2 hn.2⟩
            cases o with
            | none => exact h1
            | some t => obtain ⟨v, e, r⟩ := h1; exact ⟨v, e, r.upd ha rfl hn.1 aZ⟩
        exact this h2 na
      | succ i =>
        refine ⟨w', σ', A, As'.set i A', rfl, rfl, ?_, ih h2 nd.2.1 (fun x hx' ex => ?_) (by simpa using e)⟩
        · have na : a ∉ A := fun h => by
            have := hx a (by rw [List.flatten_cons, List.mem_append]; exact .inl h) rfl
            have : a ∈ As'.getD i [] := by simpa using this
            exact nd.2.2 a h a (mem_getD_flat this) rfl
          cases o with
          | none => exact h1
          | some t => obtain ⟨v, e, r⟩ := h1; exact ⟨v, e, r.upd ha rfl na aZ⟩
        · have := hx x (by rw [List.flatten_cons, List.mem_append]; exact .inr hx') ex
          simpa using this
  refine w σ (As1.set j A') _ Z1 ⟨slots F1.sl F1.nd (fun x _ ex => by rw [ex]; exact aA) e2, flat_set_nd ndA F1.nd (fun b hb hf => ?_), fun b hb z => ?_, fun b z => ?_⟩ ?_
  · rcases hA' b hb with q | q
    · exact q
    · exact pl.sub.mem (List.mem_cons_of_mem _ (hCa b q hf))
  · rcases flat_set_mem hb with q | q
    · rcases hA' b q with q | q
      · exact F1.nz b (mem_getD_flat q) z
      · exact hCz b q z
    · exact F1.nz b q z
  · by_cases e : b = a
    · rw [e, upd_same]; exact (fun z => nomatch z)
    · rw [upd_ne e]; exact F1.zi b z
  · refine ⟨fun b o q hb => ?_, fun b hb => ?_, evl.zz, evl.zn, fun b hb => evl.dom b ?_⟩
    · rw [upd_ne]
      · exact evl.keep b o q hb
      · rintro rfl
        rcases evl.own b (mem_getD_flat aA) with z | z
        · exact hb z
        · rw [q] at z; cases z
    · rcases flat_set_mem hb with q | q
      · rcases hA' b q with q | q
        · exact evl.own b (mem_getD_flat q)
        · exact hCn b q
      · exact evl.own b q
    · by_cases e : b = a
      · rw [e, upd_same] at hb; cases hb
      · rw [upd_ne e] at hb; exact hb
/-- name[..].append(e) -/
def sApp (j : Nat) (mv : List Nat) (d : Fr → Res (List Nat)) (e : Fr → Res T) : Fr → Out := fun ρ => match ρ[j]? with
  | some (some t0) => match d ρ with
    | .ok p => match nodeAt p t0 with
      | some (.lst true us) => match e ρ with
        | .ok t => if us.length < sizeLine then putAt j p (us ++ [t]) (kills mv ρ) else .no
        | .ex x => .ex x
        | .no => .no
      | _ => .no
    | .ex x => .ex x
    | .no => .no
  | _ => .no
theorem killA_getD {j : Nat} : ∀ (mv : List Nat), mv.contains j = false → ∀ As : List (List Addr), (killA mv As).getD j [] = As.getD j []
  | [], _, _ => rfl
  | i :: is, h, As => by
    simp only [List.contains_cons, Bool.or_eq_false_iff, beq_eq_false_iff_ne] at h
    show (killA is (As.set i [])).getD j [] = _
    rw [killA_getD is h.2, List.getD_eq_getElem?_getD, List.getElem?_set_ne (Ne.symm h.1), ← List.getD_eq_getElem?_getD]
theorem kills_get {j : Nat} : ∀ (mv : List Nat), mv.contains j = false → ∀ ρ : Fr, (kills mv ρ)[j]? = ρ[j]?
  | [], _, _ => rfl
  | i :: is, h, ρ => by
    simp only [List.contains_cons, Bool.or_eq_false_iff, beq_eq_false_iff_ne] at h
    show (kills is (ρ.set i none))[j]? = _
    rw [kills_get is h.2, List.getElem?_set_ne (Ne.symm h.1)]
theorem rs_app {j : Nat} {mv : List Nat} {to te : TE} {d : Fr → Res (List Nat)} {e : Fr → Res T} (hd : RP K cn E j to d) (he : RE K cn E mv te e) (hj : mv.contains j = false := by rfl) : RS K cn E (tDrop (tBM K "list" rAppend to (tCons te tNil))) (sApp j mv d e) := fun As H Z ρ σ F D w => by
  unfold sApp at w
  cases e1 : ρ[j]? with
  | none => rw [e1] at w; exact w.elim
  | some o =>
    rw [e1] at w
    cases o with
    | none => exact w.elim
    | some t0 =>
      obtain ⟨v0, e2, r0⟩ := F.sl.get e1
      refine hd As H Z ρ σ F t0 v0 e1 e2 r0 _ ?_
      simp only at w
      cases ed : d ρ with
      | ok p =>
        rw [ed] at w
        intro u v B H1 Z1 m1 hn pl
        simp only [hn] at w
        split at w
        · next us hq =>
          cases hq
          have q := pl.rep
          simp only [Rep] at q
          obtain ⟨a, ws, C0, rfl, rfl, ea, rs⟩ := q
          refine ⟨.inl ⟨rfl, ws, SqL.of ea⟩, he As H1 Z1 ρ σ (F.mo m1) _ ?_⟩
          cases ee : e ρ with
          | ok t =>
            rw [ee] at w
            intro y H2 Z2 C p2
            simp only at w
            split at w
            · next hlen =>
              have pl2 := pl.mo p2.same p2.zz
              have ea2 := p2.same _ _ ea
              have rs2 := rs.same p2.same p2.zz
              refine ⟨a, ws, y, rfl, rfl, ea2, by rw [Reps.length us rs]; exact hlen, ?_⟩
              have m2 := m1.trans p2.mo
              have F2 := (F.mo m2).kills mv
              have gD : (killA mv As).getD j [] = As.getD j [] := killA_getD mv hj As
              have pl3 : Plug K cn H2 Z2 t0 v0 ((killA mv As).getD j []) p (.lst true us) (.ref a) (a :: C0) := by rw [gD]; exact pl2
              have ndB : (a :: C0).Nodup := (getD_nd F.nd j).sublist pl.sub
              have c0A : ∀ x ∈ C0, x ∈ As.getD j [] := fun x hx => pl.sub.mem (List.mem_cons_of_mem _ hx)
              have cOut : ∀ x ∈ C, x ∉ (killA mv As).flatten := fun x hx hA => by
                rcases p2.bn x hx with z | ⟨i, hi, z⟩
                · obtain ⟨o, ho, _⟩ := (F.mo m1).sl.dom x (killA_mem hA)
                  rw [ho] at z; cases z
                · exact killA_out F.nd hi z hA
              have c0In : ∀ x ∈ C0, x ∈ (killA mv As).flatten := fun x hx => mem_getD_flat (i := j) (by rw [gD]; exact c0A x hx)
              refine put_ok (As := As) (H := H) (Z := Z) (E := E) F2 (by rw [kills_get mv hj]; exact e1) e2 pl3 rfl rfl ea2 (us' := us ++ [t]) (ws' := ws ++ [y]) (C := C0 ++ C) (Reps.append us rs2 (Reps.one p2.rep)) ?_ ?_ ?_ ?_ ?_ w
              · rw [List.nodup_append]
                exact ⟨(List.nodup_cons.mp ndB).2, p2.nd, fun x hx y hy e => by subst e; exact cOut x hy (c0In x hx)⟩
              · intro x hx
                rcases List.mem_append.mp hx with hx | hx
                · exact F2.nz x (c0In x hx)
                · exact p2.bz x hx
              · intro x hx hA
                rcases List.mem_append.mp hx with hx | hx
                · exact hx
                · exact absurd hA (cOut x hx)
              · exact ⟨fun b o q _ => m2.same b o q, fun b hb => .inl (killA_mem hb), m2.zz, fun b h => (m2.zn b h).imp_right .inr, fun b h => m2.same.free h⟩
              · intro x hx
                rcases List.mem_append.mp hx with hx | hx
                · exact .inl (mem_getD_flat (c0A x hx))
                · rcases p2.bn x hx with z | ⟨i, hi, z⟩
                  · exact .inr (m1.same.free z)
                  · exact .inl (mem_getD_flat z)
            · exact w.elim
          | ex x => rw [ee] at w; exact WpX.ev w m1.ev
          | no => rw [ee] at w; exact w
        · exact w.elim
      | ex x => rw [ed] at w; exact w
      | no => rw [ed] at w; exact w
/-- name[..][i] = e -/
def sSet (j : Nat) (mv : List Nat) (e : Fr → Res T) (d : Fr → Res (List Nat)) (i : Fr → Res T) : Fr → Out := fun ρ => match e ρ with
  | .ok t => match (kills mv ρ)[j]? with
    | some (some t0) => match d (kills mv ρ) with
      | .ok p => match nodeAt p t0 with
        | some (.lst true us) => match i (kills mv ρ) with
          | .ok (.int n) => match ixN us.length n with
            | some k => putAt j p (us.set k t) (kills mv ρ)
            | none => .no
          | .ok _ => .no
          | .ex x => .ex x
          | .no => .no
        | _ => .no
      | .ex x => .ex x
      | .no => .no
    | _ => .no
  | .ex x => .ex x
  | .no => .no
/-- one place of a row is another value -/
theorem Reps.put {H : Hp} {Z : Addr → Prop} {t : T} {y : V} {C : List Addr} (rt : Rep K cn H Z t y C) : ∀ (us : List T) {ws : List V} {A : List Addr} {k : Nat}, Reps K cn H Z us ws A → k < us.length → ∃ B1 Bo B2, A = B1 ++ Bo ++ B2 ∧ Reps K cn H Z (us.set k t) (ws.set k y) (B1 ++ C ++ B2)
  | [], _, _, _, _, e => by simp at e
  | u :: us, ws, A, 0, r, e => by
    simp only [Reps] at r
    obtain ⟨v, r', P, Q', rfl, rfl, h1, h2⟩ := r
    refine ⟨[], P, Q', by simp, ?_⟩
    simp only [List.set_cons_zero, Reps]
    exact ⟨y, r', C, Q', rfl, by simp, rt, h2⟩
  | u :: us, ws, A, k + 1, r, e => by
    simp only [Reps] at r
    obtain ⟨v, r', P, Q', rfl, rfl, h1, h2⟩ := r
    obtain ⟨X1, X2, X3, rfl, hr⟩ := Reps.put rt us (k := k) h2 (by simpa using e)
    refine ⟨P ++ X1, X2, X3, by simp, ?_⟩
    simp only [List.set_cons_succ, Reps]
    exact ⟨v, r'.set k y, P, X1 ++ C ++ X3, rfl, by simp, h1, hr⟩
theorem rs_set {j : Nat} {mv : List Nat} {te to ti : TE} {e : Fr → Res T} {d : Fr → Res (List Nat)} {i : Fr → Res T} (he : RE K cn E mv te e) (hd : RP K cn E j to d) (hi : RB K cn E ti i) : RS K cn E (tAsg te (gSub to ti rSetL)) (sSet j mv e d i) := fun As H Z ρ σ F D w => by
  unfold sSet at w
  refine he As H Z ρ σ F _ ?_
  cases ee : e ρ with
  | ok t =>
    rw [ee] at w
    intro y H1 Z1 C p1
    simp only at w
    have F1 := (F.mo p1.mo).kills mv
    cases e1 : (kills mv ρ)[j]? with
    | none => rw [e1] at w; exact w.elim
    | some o =>
      rw [e1] at w
      cases o with
      | none => exact w.elim
      | some t0 =>
        obtain ⟨v0, e2, r0⟩ := F1.sl.get e1
        simp only at w
        have ev1 : Ev As H Z (killA mv As) H1 Z1 := ⟨fun b o q _ => p1.same b o q, fun b hb => .inl (killA_mem hb), p1.zz, fun b h => (p1.zn b h).imp_right .inr, fun b h => p1.same.free h⟩
        refine hd (killA mv As) H1 Z1 (kills mv ρ) σ F1 t0 v0 e1 e2 r0 _ ?_
        cases ed : d (kills mv ρ) with
        | ok p =>
          rw [ed] at w
          intro u v B H2 Z2 m2 hn pl
          simp only [hn] at w
          split at w
          · next us hq =>
            cases hq
            refine hi (killA mv As) H2 Z2 (kills mv ρ) σ (F1.mo m2) _ ?_
            cases ei : i (kills mv ρ) with
            | ok x =>
              rw [ei] at w
              intro vi H3 Z3 Bi p3
              cases x with
              | int n =>
                simp only at w
                have qi := p3.rep
                simp only [Rep] at qi
                obtain ⟨rfl, _⟩ := qi
                cases ek : ixN us.length n with
                | none => rw [ek] at w; exact w.elim
                | some k =>
                  rw [ek] at w
                  have m3 := m2.trans p3.mo
                  have pl3 := pl.mo p3.same p3.zz
                  have q := pl3.rep
                  simp only [Rep] at q
                  obtain ⟨a, ws, C0, rfl, rfl, ea, rs⟩ := q
                  have rt : Rep K cn H3 Z3 t y C := p1.rep.same m3.same m3.zz
                  have F3 := F1.mo m3
                  have lw := Reps.length us rs
                  obtain ⟨B1, Bo, B2, rfl, rs'⟩ := Reps.put rt us rs (ixN_lt ek)
                  refine ⟨a, ws, n, k, rfl, rfl, ea, by rw [lw]; exact ek, ?_⟩
                  have ndB : (a :: (B1 ++ Bo ++ B2)).Nodup := (getD_nd F1.nd j).sublist pl.sub
                  have cA : ∀ x ∈ B1 ++ Bo ++ B2, x ∈ (killA mv As).getD j [] := fun x hx => pl.sub.mem (List.mem_cons_of_mem _ hx)
                  have i1 : ∀ x ∈ B1, x ∈ B1 ++ Bo ++ B2 := fun x hx => List.mem_append_left _ (List.mem_append_left _ hx)
                  have i2 : ∀ x ∈ B2, x ∈ B1 ++ Bo ++ B2 := fun x hx => List.mem_append_right _ hx
                  have cOut := p1.out F
                  have nd1 := (List.nodup_cons.mp ndB).2
                  rw [List.append_assoc, List.nodup_append] at nd1
                  obtain ⟨n1, n2, n3⟩ := nd1
                  rw [List.nodup_append] at n2
                  refine put_ok (As := As) (H := H) (Z := Z) (E := E) F3 e1 e2 pl3 rfl rfl ea (us' := us.set k t) (ws' := ws.set k y) (C := B1 ++ C ++ B2) rs' ?_ ?_ ?_ (ev1.trans m3.ev) ?_ w
                  · rw [List.append_assoc, List.nodup_append]
                    refine ⟨n1, ?_, fun x hx z hz e => ?_⟩
                    · rw [List.nodup_append]
                      exact ⟨p1.nd, n2.2.1, fun x hx z hz e => by subst e; exact cOut x hx (mem_getD_flat (cA x (i2 x hz)))⟩
                    · subst e
                      rcases List.mem_append.mp hz with hz | hz
                      · exact cOut x hz (mem_getD_flat (cA x (i1 x hx)))
                      · exact n3 x hx x (List.mem_append_right _ hz) rfl
                  · intro x hx
                    rcases List.mem_append.mp hx with hx | hx
                    · rcases List.mem_append.mp hx with hx | hx
                      · exact F3.nz x (mem_getD_flat (cA x (i1 x hx)))
                      · intro z
                        rcases m3.zn x z with z | z
                        · exact p1.bz x hx z
                        · obtain ⟨o, ho, _⟩ := p1.rep.dom t x hx
                          rw [ho] at z; cases z
                    · exact F3.nz x (mem_getD_flat (cA x (i2 x hx)))
                  · intro x hx hA
                    rcases List.mem_append.mp hx with hx | hx
                    · rcases List.mem_append.mp hx with hx | hx
                      · exact i1 x hx
                      · exact absurd hA (cOut x hx)
                    · exact i2 x hx
                  · intro x hx
                    rcases List.mem_append.mp hx with hx | hx
                    · rcases List.mem_append.mp hx with hx | hx
                      · exact .inl (killA_mem (mem_getD_flat (cA x (i1 x hx))))
                      · exact p1.inA x hx
                    · exact .inl (killA_mem (mem_getD_flat (cA x (i2 x hx))))
              | _ => exact w.elim
            | ex x => rw [ei] at w; exact WpX.ev w (ev1.trans m2.ev)
            | no => rw [ei] at w; exact w
          · exact w.elim
        | ex x => rw [ed] at w; exact WpX.ev w ev1
        | no => rw [ed] at w; exact w
  | ex x => rw [ee] at w; exact w
  | no => rw [ee] at w; exact w

/-! ### defs -/
def fin : Out → Res T
  | .nx _ => .ok .non
  | .rt t => .ok t
  | .ex x => .ex x
  | _ => .no
/-- the frame at the entry: n slots -/
def ini (n : Nat) (ts : List T) : Fr := ts.map some ++ List.replicate (n - ts.length) none
theorem slots_rep {H : Hp} {Z : Addr → Prop} : ∀ (m : Nat), Slots K cn H Z (List.replicate m none) (List.replicate m none) (List.replicate m [])
  | 0 => ⟨rfl, rfl⟩
  | m + 1 => ⟨none, List.replicate m none, [], List.replicate m [], rfl, rfl, rfl, slots_rep m⟩
theorem slots_ini {H : Hp} {Z : Addr → Prop} {m : Nat} : ∀ (ts : List T) {vs : List V}, Reps K cn H Z ts vs [] → Slots K cn H Z (ts.map some ++ List.replicate m none) (vs.map some ++ List.replicate m none) (List.replicate (ts.length + m) [])
  | [], vs, h => by
    simp only [Reps] at h
    obtain ⟨rfl, _⟩ := h
    simpa using slots_rep m
  | t :: ts, vs, h => by
    simp only [Reps] at h
    obtain ⟨v, r, B, C, rfl, e, h1, h2⟩ := h
    have eb : B = [] ∧ C = [] := by simpa using e.symm
    obtain ⟨rfl, rfl⟩ := eb
    have := slots_ini (m := m) ts h2
    refine ⟨some v, _, [], List.replicate (ts.length + m) [], rfl, ?_, ⟨v, rfl, h1⟩, this⟩
    rw [List.length_cons, show ts.length + 1 + m = (ts.length + m) + 1 by omega]
    rfl
theorem flat_rep : ∀ m : Nat, (List.replicate m ([] : List Addr)).flatten = []
  | 0 => rfl
  | m + 1 => by rw [List.replicate_succ, List.flatten_cons, flat_rep m]; rfl
theorem fn_tree {P : Program} {w : World} {mg : Str → Option Value} {base : Heap} {x qual : Str} {st : Stmt} {f : Addr} {fd : FuncData} {N ps : List Str} {k : Nat} {d : Fr → Out} (F : Fun K x qual st f fd) (S : FnScope N ps (defScope st))
    (hbody : ∀ (cdv : Value) (A : Around) (outer : List Env) (s : Shared) (H : Hp) (E : XK), Room k (A.deeper (envOfC qual (defScope st) s.heap.objs.size f cdv)) →
      ∃ t, PSs (cxOf CX0 P w K mg base N qual (defScope st) f cdv A outer s H E).nox (defBody st) t ∧ RS K cn E t d) {n : Nat} {G : List T → Res T} (hn : ps.length = n) (hG : ∀ ts, G ts = fin (d (ini N.length ts))) : FnOk P w K mg base CX0 (k + 1) f fd ps (spT K cn n G) := by
  have eG : G = fun ts => fin (d (ini N.length ts)) := funext hG
  subst hn eG
  refine F.ok S (fun vs H Q E h => h.1) fun cdv A outer s H vs Q E hr h => ?_
  obtain ⟨hl, ts, Z, zi, r, w⟩ := h
  obtain ⟨t, hp, ht⟩ := hbody cdv A outer s H E hr
  refine ⟨t, hp, ?_⟩
  have lt := Reps.length ts r
  have sl : Slots K cn H Z (ini N.length ts) (L2.start N vs) (List.replicate (ts.length + (N.length - ts.length)) []) := by
    unfold ini L2.start
    rw [lt]
    exact slots_ini ts r
  have F0 : Frm K cn H Z (ini N.length ts) (L2.start N vs) (List.replicate (ts.length + (N.length - ts.length)) []) := ⟨sl, by rw [flat_rep]; exact List.nodup_nil, by rw [flat_rep]; exact nomem, zi⟩
  refine ht _ H Z _ _ F0 _ ?_
  have bn : ∀ {B : List Addr} {H' : Hp} {Z' : Addr → Prop}, Ev (List.replicate (ts.length + (N.length - ts.length)) []) H Z [B] H' Z' → ∀ b ∈ B, H b = none := fun {B H' Z'} e b hb => by
    rcases e.own b (by simpa using hb) with q | q
    · rw [flat_rep] at q; cases q
    · exact q
  have sm : ∀ {As' : List (List Addr)} {H' : Hp} {Z' : Addr → Prop}, Ev (List.replicate (ts.length + (N.length - ts.length)) []) H Z As' H' Z' → Same H H' ∧ ∀ a, Z' a → Z a ∨ H a = none := fun {As' H' Z'} e => ⟨fun b o q => e.keep b o q (by rw [flat_rep]; exact (fun z => nomatch z)), fun a z => by
    rcases e.zn a z with q | q | q
    · exact .inl q
    · rw [flat_rep] at q; cases q
    · exact .inr q⟩
  cases ed : d (ini N.length ts) with
  | nx ρ =>
    simp only [ed, fin] at w
    intro σ' As' H' Z' F' ev
    exact w .non H' Z' [] ⟨(sm ev).1, ev.zz, (sm ev).2, F'.zi, by simp [Rep], List.nodup_nil, nomem, nomem⟩
  | rt t =>
    simp only [ed, fin] at w
    intro v H' Z' B p
    exact w v H' Z' B ⟨(sm p.ev).1, p.ev.zz, (sm p.ev).2, p.zi, p.rep, p.nd, p.bz, fun b hb => .inl (bn p.ev b hb)⟩
  | ex x =>
    simp only [ed, fin] at w
    exact WpX.ev w ⟨fun _ _ q _ => q, fun a ha => (by rw [flat_rep] at ha; exact nomatch ha), fun _ h => h, fun _ h => .inl h, fun _ h => h⟩
  | bk ρ => simp only [ed, fin] at w; exact w.elim
  | ct ρ => simp only [ed, fin] at w; exact w.elim
  | no => simp only [ed, fin] at w; exact w.elim
theorem def_tree {P : Program} {w : World} {mg : Str → Option Value} {base : Heap} {x : Str} {st : Stmt} {N ps : List Str} {k : Nat} {d : Fr → Out} (F : Top K mg x st) (S : FnScope N ps (defScope st))
    (hb : ∀ (kV doc pm : Value) (an : Option Addr) (cdv ct : Value) (us : List Value), us.length = ps.length → bindArgs (PySem.W.fnOf x x (defArgs st) (defBody st) (defScope st) .none kV doc pm an cdv ct) ⟨us, []⟩ = pure (ps.zip us))
    (hbody : ∀ (f : Addr) (cdv : Value) (A : Around) (outer : List Env) (s : Shared) (H : Hp) (E : XK), Room k (A.deeper (envOfC x (defScope st) s.heap.objs.size f cdv)) →
      ∃ t, PSs (cxOf CX0 P w K mg base N x (defScope st) f cdv A outer s H E).nox (defBody st) t ∧ RS K cn E t d) {n : Nat} {G : List T → Res T} (hn : ps.length = n) (hG : ∀ ts, G ts = fin (d (ini N.length ts))) : Def P w K mg base (k + 1) x ps (spT K cn n G) := by
  obtain ⟨f, fd, F, hm⟩ := F.ex
  exact ⟨f, fd, fn_tree F S (fun cdv A outer s H E hr => hbody f cdv A outer s H E hr) hn hG, hm, F.kp, F.binds hb⟩
/-- the law's own promise from its tree -/
theorem law_fn {P : Program} {w : World} {mg : Str → Option Value} {base : Heap} {k : Nat} {f : Addr} {fd : FuncData} {p : Str} {G : List T → Res T} (F : FnOk P w K mg base CX0 k f fd [p] (spT K cn 1 G))
    (h : ∀ ns : List Int, ns.length ≤ 63 → (∀ n ∈ ns, Builtin.Int.intBits n ≤ 1048576) → G [.lst false (ns.map .int)] = .ok (.bl true)) : FnOk P w K mg base CX0 k f fd [p] (spLaw K) := by
  refine F.imp fun vs H Q E q => ?_
  obtain ⟨a, ns, rfl, hs, h63, hbits, hq⟩ := q
  have rints : ∀ (Z : Addr → Prop) (ns : List Int), Reps K cn H Z (ns.map T.int) (ns.map V.int) [] := by
    intro Z ns
    induction ns with
    | nil => simp [Reps]
    | cons n ns ih =>
      simp only [List.map_cons, Reps]
      exact ⟨.int n, ns.map V.int, [], [], rfl, rfl, by simp [Rep], ih⟩
  refine ⟨rfl, [.lst false (ns.map .int)], fun b => b = a ∧ H b ≠ none, fun b z => z.2, Reps.one ?_, ?_⟩
  · simp only [Rep]
    refine ⟨a, ns.map V.int, rfl, trivial, ?_, rints _ ns⟩
    rcases hs with (hs | ⟨o, hs⟩) | hs
    · exact .inl ⟨hs, rfl, by rw [hs]; exact (fun z => nomatch z)⟩
    · exact .inr (.inl ⟨o, hs⟩)
    · exact .inr (.inr hs)
  · rw [h ns h63 hbits]
    intro v H' Z' B p
    have q := p.rep
    simp only [Rep] at q
    rw [q.1]
    exact hq H'
end
end TL

/-! TREES 7a: == and in, however deep; sums of rules, as trees need them -/
namespace L2
open PySem PySem.Spec PyProof.Rows

/-! ### equality of values through lists and tuples -/
def EqD (K : PySem.W.Frag) (H : Hp) : Nat → V → V → Bool → Prop
  | 0, x, y, b => flatV x = true ∧ flatV y = true ∧ b = eqV x y
  | n + 1, x, y, b => (flatV x = true ∧ flatV y = true ∧ b = eqV x y) ∨
      (∃ p q xs ys, x = .ref p ∧ y = .ref q ∧ SqL K H p xs ∧ SqL K H q ys ∧ ((xs.length ≠ ys.length ∧ b = false) ∨
        (xs.length = ys.length ∧ ∃ es : List Bool, es.length = xs.length ∧ (∀ (j : Nat) x y e, xs[j]? = some x → ys[j]? = some y → es[j]? = some e → EqD K H n x y e) ∧ b = es.all id))) ∨
      (∃ p q xs ys, x = .ref p ∧ y = .ref q ∧ SqT K H p xs ∧ SqT K H q ys ∧ ∃ es : List Bool, es.length = min xs.length ys.length ∧
        (∀ (j : Nat) x y e, xs[j]? = some x → ys[j]? = some y → es[j]? = some e → EqD K H n x y e) ∧ b = (es.all id && xs.length == ys.length))
theorem eqV_self : ∀ {x : V}, flatV x = true → eqV x x = true
  | .non, _ => rfl
  | .bl b, _ => by simp [eqV]
  | .int i, _ => by simp [eqV]
  | .str s, _ => by simp [eqV]
theorem all_getD (es : List Bool) : ((List.range es.length).all fun j => es.getD j true) = es.all id := by
  induction es with
  | nil => rfl
  | cons b es ih =>
    show (List.range (es.length + 1)).all _ = _
    rw [List.range_succ_eq_map, List.all_cons, List.all_map]
    show (b && _) = (b && es.all id)
    rw [← ih]
    rfl
section
variable {X : Cx} {pins : List (Addr × Obj)} {σ : St} {H : Hp} {s : Shared}
theorem EqD.self (I : Inv X pins σ H s) : ∀ (n : Nat) (x : V) (b : Bool), EqD X.K H n x x b → b = true
  | 0, x, b, h => by
    obtain ⟨h1, _, rfl⟩ := h
    exact eqV_self h1
  | n + 1, x, b, h => by
    rcases h with ⟨h1, _, rfl⟩ | ⟨p, q, xs, ys, e1, e2, s1, s2, h⟩ | ⟨p, q, xs, ys, e1, e2, s1, s2, es, hl, he, rfl⟩
    · exact eqV_self h1
    · rw [e1] at e2
      cases e2
      have := I.list_inj s1 s2
      subst this
      rcases h with ⟨h, _⟩ | ⟨_, es, hl, he, rfl⟩
      · exact absurd rfl h
      · rw [List.all_eq_true]
        intro e hm
        obtain ⟨j, hj, rfl⟩ := List.getElem_of_mem hm
        exact EqD.self I n xs[j] es[j] (he j xs[j] xs[j] es[j] (List.getElem?_eq_getElem (by omega)) (List.getElem?_eq_getElem (by omega)) (List.getElem?_eq_getElem hj))
    · rw [e1] at e2
      cases e2
      have := I.tuple_inj s1 s2
      subst this
      rw [beq_self_eq_true, Bool.and_true, List.all_eq_true]
      intro e hm
      obtain ⟨j, hj, rfl⟩ := List.getElem_of_mem hm
      have hx : j < xs.length := by omega
      exact EqD.self I n xs[j] es[j] (he j xs[j] xs[j] es[j] (List.getElem?_eq_getElem hx) (List.getElem?_eq_getElem hx) (List.getElem?_eq_getElem hj))
theorem vals_at {xs : List V} {us : List Value} {j : Nat} (r : Vals xs us) (h : j < us.length) : ∃ x, xs[j]? = some x ∧ RelV x us[j] := by
  have l := r.length
  have e1 : xs[j]? = some xs[j] := List.getElem?_eq_getElem (by omega)
  obtain ⟨u, hu, ru⟩ := r.get e1
  rw [List.getElem?_eq_getElem h] at hu
  exact ⟨xs[j], e1, by rw [Option.some.inj hu]; exact ru⟩
theorem eqAt_D (I : Inv X pins σ H s) : ∀ (n : Nat) {A : Around} {x y : V} {u v : Value} {b : Bool}, A.units + n < cLine → RelV x u → RelV y v → EqD X.K H n x y b → SeqAt.EqAt A s u v b
  | 0, A, x, y, u, v, b, hu, rx, ry, h => by
    obtain ⟨h1, h2, rfl⟩ := h
    exact eqAt_V rx ry h1 h2
  | n + 1, A, x, y, u, v, b, hu, rx, ry, h => by
    have h0 := h
    rcases h with ⟨h1, h2, rfl⟩ | ⟨p, q, xs, ys, rfl, rfl, s1, s2, h⟩ | ⟨p, q, xs, ys, rfl, rfl, s1, s2, es, hl, he, rfl⟩
    · exact eqAt_V rx ry h1 h2
    · cases rx
      cases ry
      by_cases hpq : p = q
      · subst hpq
        rw [EqD.self I (n + 1) _ b h0]
        exact SeqAt.EqAt.same _
      · obtain ⟨its, r1, p1, _⟩ := I.list s1
        obtain ⟨jts, r2, p2, _⟩ := I.list s2
        have l1 := r1.length
        have l2 := r2.length
        refine SeqAt.EqAt.of_refs hpq ?_
        rcases h with ⟨hne, rfl⟩ | ⟨heq, es, hl, he, rfl⟩
        · exact SeqAt.RcAt.lists_lengths p1.isList p2.isList (by simp only [List.size_toArray, bne_iff_ne, ne_eq]; omega) (by omega)
        · have := SeqAt.RcAt.lists (A := A) (s := s) (e := fun j => es.getD j true) p1.isList p2.isList (by simp only [List.size_toArray]; omega) (by omega) (fun j h1 h2 => by
            simp only [List.size_toArray] at h1 h2
            simp only [List.getElem_toArray]
            obtain ⟨x, ex, rx⟩ := vals_at r1 h1
            obtain ⟨y, ey, ry⟩ := vals_at r2 h2
            have hj : j < es.length := by omega
            have eg : es.getD j true = es[j] := by rw [List.getD_eq_getElem?_getD, List.getElem?_eq_getElem hj]; rfl
            rw [eg]
            exact eqAt_D I n (by show A.units + 1 + n < cLine; omega) rx ry (he j x y es[j] ex ey (List.getElem?_eq_getElem hj)))
          rw [List.size_toArray, show its.length = es.length by omega, all_getD] at this
          exact this
    · cases rx
      cases ry
      by_cases hpq : p = q
      · subst hpq
        rw [EqD.self I (n + 1) _ _ h0]
        exact SeqAt.EqAt.same _
      · obtain ⟨its, r1, p1, _⟩ := I.tuple s1
        obtain ⟨jts, r2, p2, _⟩ := I.tuple s2
        have l1 := r1.length
        have l2 := r2.length
        refine SeqAt.EqAt.of_refs hpq ?_
        have := SeqAt.RcAt.tuples (A := A) (s := s) (e := fun j => es.getD j true) (show s.heap.IsTuple p its.toArray from p1) (show s.heap.IsTuple q jts.toArray from p2) (by omega) (fun j h1 h2 => by
          simp only [List.size_toArray] at h1 h2
          simp only [List.getElem_toArray]
          obtain ⟨x, ex, rx⟩ := vals_at r1 h1
          obtain ⟨y, ey, ry⟩ := vals_at r2 h2
          have hj : j < es.length := by omega
          have eg : es.getD j true = es[j] := by rw [List.getD_eq_getElem?_getD, List.getElem?_eq_getElem hj]; rfl
          rw [eg]
          exact eqAt_D I n (by show A.units + 1 + n < cLine; omega) rx ry (he j x y es[j] ex ey (List.getElem?_eq_getElem hj)))
        simp only [List.size_toArray] at this
        rw [show min its.length jts.length = es.length by omega, all_getD, ← l1, ← l2] at this
        exact this
/-- == : two scalars, two lists, two tuples -/
def rEqD (K : PySem.W.Frag) (n : Nat) : R2 := fun x y H Q => rEq x y H Q ∨ (∃ p q b, x = .ref p ∧ y = .ref q ∧ EqD K H n x y b ∧ Q (.bl b) H)
theorem op_eqD {n : Nat} (hu : X.A.units + n < cLine) : OpR X (compareOp .Eq) (rEqD X.K n) := by
  intro pins s σ H x y v u Q I rx ry h
  rcases h with h | ⟨p, q, b, rfl, rfl, h, hq⟩
  · exact op_eq pins s σ H x y v u Q I rx ry h
  · cases rx
    cases ry
    have fin : EP X pins σ Q (.bool b) s := ⟨.bl b, H, I, rfl, hq⟩
    cases n with
    | zero => exact absurd h.1 (fun z => by cases z)
    | succ n =>
      rcases h with ⟨h1, _, _⟩ | ⟨p, q, xs, ys, e1, e2, s1, s2, h⟩ | ⟨p, q, xs, ys, e1, e2, s1, s2, es, hl, he, rfl⟩
      · exact absurd h1 (fun z => by cases z)
      · cases e1
        cases e2
        obtain ⟨its, r1, p1, _⟩ := I.list s1
        obtain ⟨jts, r2, p2, _⟩ := I.list s2
        have l1 := r1.length
        have l2 := r2.length
        rcases h with ⟨hne, rfl⟩ | ⟨heq, es, hl, he, rfl⟩
        · exact SeqAt.eq_list_lengthsAt p1.isList p2.isList (by simp only [List.size_toArray, bne_iff_ne, ne_eq]; omega) (by omega) fin
        · refine SeqAt.eq_listAt (e := fun j => es.getD j true) p1.isList p2.isList (by simp only [List.size_toArray]; omega) (by omega) (fun j h1 h2 => ?_) ?_
          · simp only [List.size_toArray] at h1 h2
            simp only [List.getElem_toArray]
            obtain ⟨x, ex, rx⟩ := vals_at r1 h1
            obtain ⟨y, ey, ry⟩ := vals_at r2 h2
            have hj : j < es.length := by omega
            have eg : es.getD j true = es[j] := by rw [List.getD_eq_getElem?_getD, List.getElem?_eq_getElem hj]; rfl
            rw [eg]
            exact eqAt_D I n (by show X.A.units + 1 + n < cLine; omega) rx ry (he j x y es[j] ex ey (List.getElem?_eq_getElem hj))
          · rw [List.size_toArray, show its.length = es.length by omega, all_getD]
            exact fin
      · cases e1
        cases e2
        obtain ⟨its, r1, p1, _⟩ := I.tuple s1
        obtain ⟨jts, r2, p2, _⟩ := I.tuple s2
        have l1 := r1.length
        have l2 := r2.length
        refine SeqAt.eq_tupleAt (e := fun j => es.getD j true) (show s.heap.IsTuple p its.toArray from p1) (show s.heap.IsTuple q jts.toArray from p2) (by omega) (fun j h1 h2 => ?_) ?_
        · simp only [List.size_toArray] at h1 h2
          simp only [List.getElem_toArray]
          obtain ⟨x, ex, rx⟩ := vals_at r1 h1
          obtain ⟨y, ey, ry⟩ := vals_at r2 h2
          have hj : j < es.length := by omega
          have eg : es.getD j true = es[j] := by rw [List.getD_eq_getElem?_getD, List.getElem?_eq_getElem hj]; rfl
          rw [eg]
          exact eqAt_D I n (by show X.A.units + 1 + n < cLine; omega) rx ry (he j x y es[j] ex ey (List.getElem?_eq_getElem hj))
        · simp only [List.size_toArray]
          rw [show min its.length jts.length = es.length by omega, all_getD, ← l1, ← l2]
          exact fin
/-- in, not in : a list, a tuple, a text -/
def rInD (K : PySem.W.Frag) (n : Nat) (neg : Bool) : R2 := fun x y H Q => (∃ p ys, y = .ref p ∧ (SqL K H p ys ∨ SqT K H p ys) ∧ ∃ es : List Bool, es.length = ys.length ∧ (∀ (j : Nat) y e, ys[j]? = some y → es[j]? = some e → EqD K H n y x e) ∧ Q (.bl (if neg then !es.any id else es.any id)) H) ∨
  (∃ i j, x = .str i ∧ y = .str j ∧ Q (.bl (if neg then !(!(Builtin.Str.occurrences j i 0 j.length 1).isEmpty) else (!(Builtin.Str.occurrences j i 0 j.length 1).isEmpty))) H)
theorem EqD.det (I : Inv X pins σ H s) : ∀ (n : Nat) (x y : V) (b c : Bool), EqD X.K H n x y b → EqD X.K H n x y c → b = c := by
  intro n
  induction n with
  | zero => intro x y b c h1 h2; rw [h1.2.2, h2.2.2]
  | succ n ih =>
    intro x y b c h1 h2
    have flat_ref : ∀ {p : Addr}, flatV (.ref p) = true → False := fun h => by cases h
    rcases h1 with ⟨a1, a2, rfl⟩ | ⟨p, q, xs, ys, rfl, rfl, s1, s2, h1⟩ | ⟨p, q, xs, ys, rfl, rfl, s1, s2, es, hl, he, rfl⟩
    · rcases h2 with ⟨b1, b2, rfl⟩ | ⟨p, q, xs, ys, rfl, rfl, _⟩ | ⟨p, q, xs, ys, rfl, rfl, _⟩
      · rfl
      · exact (flat_ref a1).elim
      · exact (flat_ref a1).elim
    · rcases h2 with ⟨b1, b2, rfl⟩ | ⟨p', q', xs', ys', e1, e2, t1, t2, h2⟩ | ⟨p', q', xs', ys', e1, e2, t1, t2, _⟩
      · exact (flat_ref b1).elim
      · cases e1
        cases e2
        have z1 := I.list_inj s1 t1
        have z2 := I.list_inj s2 t2
        subst z1 z2
        rcases h1 with ⟨n1, rfl⟩ | ⟨n1, es, hl, he, rfl⟩
        · rcases h2 with ⟨n2, rfl⟩ | ⟨n2, _⟩
          · rfl
          · exact absurd n2 n1
        · rcases h2 with ⟨n2, rfl⟩ | ⟨n2, es', hl', he', rfl⟩
          · exact absurd n1 n2
          · have : es = es' := by
              apply List.ext_getElem (by omega)
              intro j h1 h2
              exact ih xs[j] ys[j] es[j] es'[j] (he j _ _ _ (List.getElem?_eq_getElem (by omega)) (List.getElem?_eq_getElem (by omega)) (List.getElem?_eq_getElem h1)) (he' j _ _ _ (List.getElem?_eq_getElem (by omega)) (List.getElem?_eq_getElem (by omega)) (List.getElem?_eq_getElem h2))
            rw [this]
      · cases e1
        obtain ⟨_, _, ⟨o, n', eo, c1, _⟩, _⟩ := I.list s1
        obtain ⟨_, _, ⟨o', eo', c2, _⟩, _⟩ := I.tuple t1
        rw [eo] at eo'
        cases eo'
        rw [c1] at c2
        exact absurd c2 (by decide)
    · rcases h2 with ⟨b1, b2, rfl⟩ | ⟨p', q', xs', ys', e1, e2, t1, t2, h2⟩ | ⟨p', q', xs', ys', e1, e2, t1, t2, es', hl', he', rfl⟩
      · exact (flat_ref b1).elim
      · cases e1
        obtain ⟨_, _, ⟨o, n', eo, c1, _⟩, _⟩ := I.list t1
        obtain ⟨_, _, ⟨o', eo', c2, _⟩, _⟩ := I.tuple s1
        rw [eo] at eo'
        cases eo'
        rw [c1] at c2
        exact absurd c2 (by decide)
      · cases e1
        cases e2
        have z1 := I.tuple_inj s1 t1
        have z2 := I.tuple_inj s2 t2
        subst z1 z2
        have : es = es' := by
          apply List.ext_getElem (by omega)
          intro j h1 h2
          have hx : j < xs.length := by omega
          have hy : j < ys.length := by omega
          exact ih xs[j] ys[j] es[j] es'[j] (he j _ _ _ (List.getElem?_eq_getElem hx) (List.getElem?_eq_getElem hy) (List.getElem?_eq_getElem h1)) (he' j _ _ _ (List.getElem?_eq_getElem hx) (List.getElem?_eq_getElem hy) (List.getElem?_eq_getElem h2))
        rw [this]
/-- the answer for each item, told by the item's value -/
theorem any_D (I : Inv X pins σ H s) {n : Nat} {x : V} {ys : List V} {us : List Value} {es : List Bool} (r : Vals ys us) (hl : es.length = ys.length) (he : ∀ (j : Nat) y e, ys[j]? = some y → es[j]? = some e → EqD X.K H n y x e) :
    ∃ e : Value → Bool, (∀ u ∈ us, ∃ y, RelV y u ∧ EqD X.K H n y x (e u)) ∧ us.any e = es.any id := by
  refine ⟨fun u => @decide (∃ y, RelV y u ∧ EqD X.K H n y x true) (Classical.propDecidable _), ?_, ?_⟩
  · intro u hu
    obtain ⟨j, hj, rfl⟩ := List.getElem_of_mem hu
    obtain ⟨y, ey, ry⟩ := vals_at r hj
    have lj : j < es.length := by rw [hl, r.length]; exact hj
    have q := he j y es[j] ey (List.getElem?_eq_getElem lj)
    refine ⟨y, ry, ?_⟩
    by_cases c : ∃ y, RelV y us[j] ∧ EqD X.K H n y x true
    · obtain ⟨y', ry', q'⟩ := c
      have := ry.inj ry'
      subst this
      simp only [show (∃ y, RelV y us[j] ∧ EqD X.K H n y x true) from ⟨y, ry, q'⟩, decide_true]
      exact q'
    · simp only [c, decide_false]
      cases eb : es[j] with
      | false => rw [eb] at q; exact q
      | true => rw [eb] at q; exact absurd ⟨y, ry, q⟩ c
  · rw [Bool.eq_iff_iff, List.any_eq_true, List.any_eq_true]
    constructor
    · rintro ⟨u, hu, c⟩
      obtain ⟨j, hj, rfl⟩ := List.getElem_of_mem hu
      obtain ⟨y, ey, ry⟩ := vals_at r hj
      have lj : j < es.length := by rw [hl, r.length]; exact hj
      obtain ⟨y', ry', q'⟩ := @of_decide_eq_true _ (Classical.propDecidable _) c
      have := ry.inj ry'
      subst this
      have q := he j y es[j] ey (List.getElem?_eq_getElem lj)
      exact ⟨es[j], List.getElem_mem lj, EqD.det I n y x es[j] true q q'⟩
    · rintro ⟨e, hm, c⟩
      obtain ⟨j, hj, rfl⟩ := List.getElem_of_mem hm
      have c' : es[j] = true := c
      have lj : j < us.length := by rw [← r.length, ← hl]; exact hj
      obtain ⟨y, ey, ry⟩ := vals_at r lj
      have q := he j y es[j] ey (List.getElem?_eq_getElem hj)
      rw [c'] at q
      exact ⟨us[j], List.getElem_mem lj, @decide_eq_true _ (Classical.propDecidable _) ⟨y, ry, q⟩⟩
theorem op_inD {n : Nat} (hu : X.A.units + n + 1 < cLine) : OpR X (compareOp .In) (rInD X.K n false) := by
  intro pins s σ H x y v u Q I rx ry h
  rcases h with ⟨p, ys, rfl, hs, es, hl, he, q⟩ | ⟨i, j, rfl, rfl, q⟩
  · cases ry
    rcases hs with hs | hs
    · obtain ⟨its, r, pl, _⟩ := I.list hs
      obtain ⟨e, h1, h2⟩ := any_D I r hl he
      refine SeqAt.in_listAt e pl.isList (fun y hy => ?_) ?_
      · obtain ⟨y', ry', q'⟩ := h1 y (by simpa using hy)
        exact eqAt_D I n (by show X.A.units + 1 + n < cLine; omega) ry' rx q'
      · exact ⟨.bl _, H, I, by rw [List.any_toArray, h2]; rfl, q⟩
    · obtain ⟨its, r, pl, _⟩ := I.tuple hs
      obtain ⟨e, h1, h2⟩ := any_D I r hl he
      refine SeqAt.in_tupleAt e (show s.heap.IsTuple p its.toArray from pl) (fun y hy => ?_) ?_
      · obtain ⟨y', ry', q'⟩ := h1 y (by simpa using hy)
        exact eqAt_D I n (by show X.A.units + 1 + n < cLine; omega) ry' rx q'
      · exact ⟨.bl _, H, I, by rw [List.any_toArray, h2]; rfl, q⟩
  · exact op_in_str pins s σ H _ _ v u Q I rx ry ⟨i, j, rfl, rfl, q⟩
theorem op_notInD {n : Nat} (hu : X.A.units + n + 1 < cLine) : OpR X (compareOp .NotIn) (rInD X.K n true) := by
  intro pins s σ H x y v u Q I rx ry h
  rcases h with ⟨p, ys, rfl, hs, es, hl, he, q⟩ | ⟨i, j, rfl, rfl, q⟩
  · cases ry
    rcases hs with hs | hs
    · obtain ⟨its, r, pl, _⟩ := I.list hs
      obtain ⟨e, h1, h2⟩ := any_D I r hl he
      refine SeqAt.notIn_listAt e pl.isList (fun y hy => ?_) ?_
      · obtain ⟨y', ry', q'⟩ := h1 y (by simpa using hy)
        exact eqAt_D I n (by show X.A.units + 1 + n < cLine; omega) ry' rx q'
      · exact ⟨.bl _, H, I, by rw [List.any_toArray, h2]; rfl, q⟩
    · obtain ⟨its, r, pl, _⟩ := I.tuple hs
      obtain ⟨e, h1, h2⟩ := any_D I r hl he
      refine SeqAt.notIn_tupleAt e (show s.heap.IsTuple p its.toArray from pl) (fun y hy => ?_) ?_
      · obtain ⟨y', ry', q'⟩ := h1 y (by simpa using hy)
        exact eqAt_D I n (by show X.A.units + 1 + n < cLine; omega) ry' rx q'
      · exact ⟨.bl _, H, I, by rw [List.any_toArray, h2]; rfl, q⟩
  · exact op_notIn_str pins s σ H _ _ v u Q I rx ry ⟨i, j, rfl, rfl, q⟩
/-- is None, is True, is False -/
def rIsU : R2 := fun x y H Q => (y = .non ∧ Q (.bl (decide (x = .non))) H) ∨ (∃ a b, x = .bl a ∧ y = .bl b ∧ Q (.bl (a == b)) H)
theorem op_isU : OpR X (compareOp .Is) rIsU := by
  intro pins s σ H x y v u Q I rx ry h
  rcases h with h | ⟨a, b, rfl, rfl, q⟩
  · exact op_isN pins s σ H x y v u Q I rx ry h
  · cases rx
    cases ry
    exact is_bool ⟨.bl _, H, I, rfl, q⟩
end
end L2

/-! TREES 8: Python's own operators and functions upon trees -/
namespace L2
open PySem PySem.Spec PyProof.Rows
/-- a text so many times -/
def repS (z : Str) (k : Nat) : Str := ⟨((List.replicate k z.cps.toList).flatten).toArray⟩
theorem foldl_repS (z : Str) : ∀ (k : Nat) (acc : List Nat), List.foldl (fun x1 x2 => x1 ++ x2) acc.toArray (List.replicate k z.cps) = (acc ++ (List.replicate k z.cps.toList).flatten).toArray
  | 0, acc => by simp
  | k + 1, acc => by
    rw [List.replicate_succ, List.foldl_cons, List.replicate_succ, List.flatten_cons]
    have e : acc.toArray ++ z.cps = (acc ++ z.cps.toList).toArray := by simp
    rw [e, foldl_repS z k, List.append_assoc]
section
variable {X : Cx}
def rCatS (K : PySem.W.Frag) : R2 := fun x y H Q => ∃ l b xs zs, x = .ref l ∧ y = .ref b ∧ SqS K H l xs ∧ SqS K H b zs ∧ xs.length + zs.length ≤ sizeLine ∧ ∀ p, H p = none → Q (.ref p) (upd H p (.lst (xs ++ zs)))
theorem op_catS : OpR X (binaryOp .Add) (rCatS X.K) := by
  intro pins s σ H x y v u Q I rx ry h
  obtain ⟨l, b, xs, zs, rfl, rfl, hH, hB, hz, q⟩ := h
  cases rx
  cases ry
  obtain ⟨its, n, r, e, _⟩ := I.listS hH
  obtain ⟨its2, n2, r2, e2, _⟩ := I.listS hB
  have hl := r.length
  have hl2 := r2.length
  refine PySem.P.add_list e e2 ?_ (by rw [List.size_toArray, List.size_toArray]; omega)
  have ea : its.toArray ++ its2.toArray = (its ++ its2).toArray := by simp
  rw [ea]
  exact ⟨.ref _, _, I.lnew (t' := s.toks) (r.append r2) (by rw [List.length_append]; omega), rfl, q _ I.fresh⟩
def rAddT (K : PySem.W.Frag) : R2 := fun x y H Q => rI0 (fun i j => .int (i + j)) x y H Q ∨ rAddS x y H Q ∨ rCatS K x y H Q ∨ rCatT K x y H Q
theorem op_addT (K : PySem.W.Frag) (hK : X.K = K := by rfl) : OpR X (binaryOp .Add) (rAddT K) := by
  subst hK
  exact op_add.or (op_add_str.or (op_catS.or op_catT))
def rMulS : R2 := fun x y H Q => ∃ z k, x = .str z ∧ y = .int k ∧ -(2 ^ 63) ≤ k ∧ k < 2 ^ 62 ∧ z.length * k.toNat ≤ sizeLine ∧ Q (.str (repS z k.toNat)) H
theorem op_mulS : OpR X (binaryOp .Mult) rMulS := by
  intro pins s σ H x y v u Q I rx ry h
  obtain ⟨z, k, rfl, rfl, h1, h2, hz, q⟩ := h
  obtain ⟨t, rfl⟩ := rx
  obtain ⟨t', rfl⟩ := ry
  have hn := sizeLine_eq
  refine PySem.P.mul_str ?_ ?_ ?_ ?_
  · rw [decide_eq_false (by omega), decide_eq_false (by omega)]
    rfl
  · intro hk _
    have hk1 : 1 ≤ k := by omega
    have : ((z.length : Int)) ≤ 16777216 := by
      have : z.length * 1 ≤ z.length * k.toNat := Nat.mul_le_mul_left _ (by omega)
      omega
    have hq : (2 ^ 63 - 1 : Int) / k ≥ (z.length : Int) := by
      refine (Int.le_ediv_iff_mul_le (by omega)).mpr ?_
      have e : (z.length : Int) * k = ((z.length * k.toNat : Nat) : Int) := by
        rw [Int.natCast_mul, Int.toNat_of_nonneg (by omega)]
      rw [e]
      omega
    omega
  · intro _ _
    unfold Builtin.Str.tooLong
    exact decide_eq_false (by omega)
  · split
    · next hk =>
      have e : repS z k.toNat = Str.empty := by
        have : k.toNat = 0 := by omega
        rw [this]
        rfl
      rw [e] at q
      exact ⟨by decide, .str _, H, I.tok _, ⟨_, rfl⟩, q⟩
    · next hk =>
      split
      · next hc =>
        have e : repS z k.toNat = z := by
          rw [Bool.or_eq_true, beq_iff_eq, beq_iff_eq] at hc
          rcases hc with hc | hc
          · subst hc
            simp [repS]
          · have hz0 : z.cps.toList = [] := by
              have : z.cps.toList.length = 0 := by rw [Array.length_toList]; exact hc
              exact List.eq_nil_of_length_eq_zero this
            have : (List.replicate k.toNat z.cps.toList).flatten = [] := by
              rw [hz0]
              simp
            unfold repS
            rw [this]
            obtain ⟨⟨l⟩⟩ := z
            simp at hz0
            rw [hz0]
        rw [e] at q
        exact ⟨.str _, H, I, ⟨_, rfl⟩, q⟩
      · have e : (⟨(List.replicate k.toNat z.cps).foldl (· ++ ·) #[]⟩ : Str) = repS z k.toNat := by
          have := foldl_repS z k.toNat []
          rw [List.nil_append] at this
          unfold repS
          rw [← this]
        rw [e]
        refine ⟨?_, .str _, H, I.tok _, ⟨_, rfl⟩, q⟩
        show ((List.replicate k.toNat z.cps.toList).flatten.toArray).size ≤ sizeLine
        rw [List.size_toArray, len_rep, Array.length_toList, Nat.mul_comm]
        exact hz
def rMulT : R2 := fun x y H Q => rMul x y H Q ∨ rMulS x y H Q
theorem op_mulT : OpR X (binaryOp .Mult) rMulT := op_mulB.or op_mulS
end
end L2
namespace TL
open PySem PySem.Spec PyProof.Rows L2
section
variable {K : PySem.W.Frag} {cn : Str → Option Addr} {E : XK} {As : List (List Addr)} {H : Hp} {Z : Addr → Prop} {Q : VK}
theorem WpE.val {t : T} {v : V} (w : WpE K cn E As H Z [] Q (.ok t)) (zi : ∀ a, Z a → H a ≠ none) (r : Rep K cn H Z t v []) : Q v H :=
  w v H Z [] ⟨Same.refl _, fun _ h => h, fun _ h => .inl h, zi, r, List.nodup_nil, nomem, nomem⟩
theorem WpE.newL {ts : List T} {vs : List V} (w : WpE K cn E As H Z [] Q (.ok (.lst true ts))) (zi : ∀ a, Z a → H a ≠ none) (r : Reps K cn H Z ts vs []) (p : Addr) (hp : H p = none) : Q (.ref p) (L2.upd H p (.lst vs)) := by
  have m := Mo.new (.lst vs) hp zi
  refine w (.ref p) _ Z [p] ⟨m.same, m.zz, m.zn, m.zi, ?_, by simp, fun b hb => ?_, fun b hb => ?_⟩
  · simp only [Rep]
    exact ⟨p, vs, [], rfl, rfl, upd_same, r.same m.same m.zz⟩
  · rw [List.mem_singleton.mp hb]; exact fun z => zi p z hp
  · rw [List.mem_singleton.mp hb]; exact .inl hp
theorem WpE.newT {ts : List T} {vs : List V} (w : WpE K cn E As H Z [] Q (.ok (.tup ts))) (zi : ∀ a, Z a → H a ≠ none) (r : Reps K cn H Z ts vs []) (p : Addr) (hp : H p = none) : Q (.ref p) (L2.upd H p (.tup vs)) := by
  have m := Mo.new (.tup vs) hp zi
  refine w (.ref p) _ Z [] ⟨m.same, m.zz, m.zn, m.zi, ?_, List.nodup_nil, nomem, nomem⟩
  simp only [Rep]
  exact ⟨p, vs, rfl, SqT.of upd_same, r.same m.same m.zz⟩
theorem Rep.int {i : Int} {v : V} {A : List Addr} (h : Rep K cn H Z (.int i) v A) : v = .int i := by simp only [Rep] at h; exact h.1
theorem Rep.str {i : Str} {v : V} {A : List Addr} (h : Rep K cn H Z (.str i) v A) : v = .str i := by simp only [Rep] at h; exact h.1
theorem Rep.bl {i : Bool} {v : V} {A : List Addr} (h : Rep K cn H Z (.bl i) v A) : v = .bl i := by simp only [Rep] at h; exact h.1
theorem Rep.non {v : V} {A : List Addr} (h : Rep K cn H Z .non v A) : v = .non := by simp only [Rep] at h; exact h.1
theorem Rep.tupS {ts : List T} {v : V} {A : List Addr} (h : Rep K cn H Z (.tup ts) v A) : ∃ a vs, v = .ref a ∧ SqT K H a vs ∧ Reps K cn H Z ts vs A := by simp only [Rep] at h; exact h
theorem rInt (i : Int) : Rep K cn H Z (.int i) (.int i) [] := by simp [Rep]
theorem rBl (i : Bool) : Rep K cn H Z (.bl i) (.bl i) [] := by simp [Rep]
theorem rStr (i : Str) : Rep K cn H Z (.str i) (.str i) [] := by simp [Rep]
theorem rNon : Rep K cn H Z .non .non [] := by simp [Rep]

/-! ### operators -/
noncomputable def addT : T → T → Res T
  | .int i, .int j => .ok (.int (i + j))
  | .str a, .str b => gate (a.length + b.length ≤ sizeLine) (.ok (.str (a ++ b)))
  | .lst _ xs, .lst _ ys => gate ((noOwns xs && noOwns ys) = true ∧ xs.length + ys.length ≤ sizeLine) (.ok (.lst true (xs ++ ys)))
  | .tup xs, .tup ys => gate ((noOwns xs && noOwns ys) = true ∧ xs.length + ys.length ≤ sizeLine ∧ xs.isEmpty = false ∧ ys.isEmpty = false) (.ok (.tup (xs ++ ys)))
  | _, _ => .no
theorem r_add : R2R K cn (rAddT K) addT := fun E As H Z t u x y A B Q zi rt ru w => by
  unfold addT at w
  split at w
  · next i j => rw [rt.int, ru.int]; exact .inl ⟨i, j, rfl, rfl, w.val zi (rInt _)⟩
  · next a b =>
    obtain ⟨h, w⟩ := w.gate
    rw [rt.str, ru.str]; exact .inr (.inl ⟨a, b, rfl, rfl, h, w.val zi (rStr _)⟩)
  · next o xs o' ys =>
    obtain ⟨h, w⟩ := w.gate
    rw [Bool.and_eq_true] at h
    obtain ⟨a, vs, C, rfl, hs, r1, _⟩ := rt.lstSq
    obtain ⟨b, ws, D, rfl, hs', r2, _⟩ := ru.lstSq
    exact .inr (.inr (.inl ⟨a, b, vs, ws, rfl, rfl, hs, hs', by rw [Reps.length xs r1, Reps.length ys r2]; exact h.2, fun p hp => w.newL zi (Reps.append xs (r1.bareE h.1.1) (r2.bareE h.1.2)) p hp⟩))
  · next xs ys =>
    obtain ⟨h, w⟩ := w.gate
    rw [Bool.and_eq_true] at h
    obtain ⟨a, vs, rfl, hs, r1⟩ := rt.tupS
    obtain ⟨b, ws, rfl, hs', r2⟩ := ru.tupS
    have e1 := r1.isEmpty
    have e2 := r2.isEmpty
    refine .inr (.inr (.inr ⟨a, b, vs, ws, rfl, rfl, hs, hs', fun z => ?_, by rw [Reps.length xs r1, Reps.length ys r2]; exact h.2.1, fun z => ?_, fun _ p hp => w.newT zi (Reps.append xs (r1.bareE h.1.1) (r2.bareE h.1.2)) p hp⟩))
    · rw [z, h.2.2.1] at e1; cases e1
    · rw [z, h.2.2.2] at e2; cases e2
  · exact w.elim
def intOp (f : Int → Int → Res T) : T → T → Res T
  | .int i, .int j => f i j
  | _, _ => .no
theorem r_i0 {g : Int → Int → T} {g' : Int → Int → V} (hg : ∀ i j H Z, Rep K cn H Z (g i j) (g' i j) []) : R2R K cn (rI0 g') (intOp fun i j => .ok (g i j)) := fun E As H Z t u x y A B Q zi rt ru w => by
  unfold intOp at w
  split at w
  · next i j => rw [rt.int, ru.int]; exact ⟨i, j, rfl, rfl, w.val zi (hg i j _ _)⟩
  · exact w.elim
theorem r_i {C : Int → Int → Prop} {g : Int → Int → T} {g' : Int → Int → V} (hg : ∀ i j H Z, Rep K cn H Z (g i j) (g' i j) []) : R2R K cn (rI C g') (intOp fun i j => gate (C i j) (.ok (g i j))) := fun E As H Z t u x y A B Q zi rt ru w => by
  unfold intOp at w
  split at w
  · next i j =>
    obtain ⟨h, w⟩ := WpE.gate w
    rw [rt.int, ru.int]; exact ⟨i, j, rfl, rfl, h, w.val zi (hg i j _ _)⟩
  · exact w.elim
def subT := intOp fun i j => .ok (.int (i - j))
theorem r_sub : R2R K cn (rI0 fun i j => .int (i - j)) subT := r_i0 fun _ _ _ _ => rInt _
def ltT := intOp fun i j => .ok (.bl (decide (i < j)))
def leT := intOp fun i j => .ok (.bl (decide (i ≤ j)))
def gtT := intOp fun i j => .ok (.bl (decide (j < i)))
def geT := intOp fun i j => .ok (.bl (decide (j ≤ i)))
theorem r_lt : R2R K cn (rI0 fun i j => .bl (decide (i < j))) ltT := r_i0 fun _ _ _ _ => rBl _
theorem r_le : R2R K cn (rI0 fun i j => .bl (decide (i ≤ j))) leT := r_i0 fun _ _ _ _ => rBl _
theorem r_gt : R2R K cn (rI0 fun i j => .bl (decide (j < i))) gtT := r_i0 fun _ _ _ _ => rBl _
theorem r_ge : R2R K cn (rI0 fun i j => .bl (decide (j ≤ i))) geT := r_i0 fun _ _ _ _ => rBl _
noncomputable def fdivT := intOp fun i j => gate (CDiv i j) (.ok (.int (i / j)))
theorem r_fdiv : R2R K cn (rI CDiv fun i j => .int (i / j)) fdivT := r_i fun _ _ _ _ => rInt _
noncomputable def modT := intOp fun i j => gate (0 < j) (.ok (.int (i % j)))
theorem r_mod : R2R K cn (rI (fun _ j => 0 < j) fun i j => .int (i % j)) modT := r_i (C := fun _ j => 0 < j) fun _ _ _ _ => rInt _
noncomputable def powT := intOp fun i j => gate (CPow i j) (.ok (.int (i ^ j.toNat)))
theorem r_pow : R2R K cn (rI CPow fun i j => .int (i ^ j.toNat)) powT := r_i fun _ _ _ _ => rInt _
/-- products: one factor below 2 ** 64, or both of some bits -/
def mulOk (i j : Int) : Prop := (-(2 ^ 64) < i ∧ i < 2 ^ 64) ∨ (-(2 ^ 64) < j ∧ j < 2 ^ 64) ∨ Builtin.Int.intBits i + Builtin.Int.intBits j ≤ 134217728
theorem mulOk.ok {i j : Int} (h : mulOk i j) : IntMulOk i j := by
  rcases h with h | h | h
  · exact mulOk_l h.1 h.2
  · exact mulOk_r h.1 h.2
  · exact mulOk_bits h
noncomputable def mulT : T → T → Res T
  | .int i, .int j => gate (mulOk i j) (.ok (.int (i * j)))
  | .str z, .int k => gate (-(2 ^ 63) ≤ k ∧ k < 2 ^ 62 ∧ z.length * k.toNat ≤ sizeLine) (.ok (.str (repS z k.toNat)))
  | _, _ => .no
theorem r_mul : R2R K cn rMulT mulT := fun E As H Z t u x y A B Q zi rt ru w => by
  unfold mulT at w
  split at w
  · next i j =>
    obtain ⟨h, w⟩ := w.gate
    rw [rt.int, ru.int]; exact .inl ⟨i, j, rfl, rfl, h.ok, w.val zi (rInt _)⟩
  · next z k =>
    obtain ⟨h, w⟩ := w.gate
    rw [rt.str, ru.int]; exact .inr ⟨z, k, rfl, rfl, h.1, h.2.1, h.2.2, w.val zi (rStr _)⟩
  · exact w.elim
def negT : T → Res T
  | .int i => .ok (.int (-i))
  | _ => .no
theorem r_neg : R1R K cn (rU fun i => .int (-i)) negT := fun E As H Z t x A Q zi rt w => by
  unfold negT at w
  split at w
  · next i => rw [rt.int]; exact ⟨i, rfl, w.val zi (rInt _)⟩
  · exact w.elim
def isT : T → T → Res T
  | .bl a, .bl b => .ok (.bl (a == b))
  | .non, .non => .ok (.bl true)
  | _, .non => .ok (.bl false)
  | _, _ => .no
theorem Rep.notNon {t : T} {v : V} {A : List Addr} (h : Rep K cn H Z t v A) (n : t ≠ .non) : v ≠ .non := by
  cases t with
  | non => exact absurd rfl n
  | bl _ => rw [h.bl]; exact fun z => nomatch z
  | int _ => rw [h.int]; exact fun z => nomatch z
  | str _ => rw [h.str]; exact fun z => nomatch z
  | ty _ => simp only [Rep] at h; rw [h.1]; exact fun z => nomatch z
  | lst o ts => obtain ⟨a, vs, C, rfl, _⟩ := h.lstSq; exact fun z => nomatch z
  | tup ts => obtain ⟨a, vs, rfl, _⟩ := h.tupS; exact fun z => nomatch z
  | ins o c ns ts =>
    cases o with
    | true => simp only [Rep] at h; obtain ⟨a, C, dx, vs, B, rfl, _⟩ := h; exact fun z => nomatch z
    | false => simp only [Rep] at h; obtain ⟨a, C, dx, vs, rfl, _⟩ := h; exact fun z => nomatch z
theorem r_is : R2R K cn rIsU isT := fun E As H Z t u x y A B Q zi rt ru w => by
  unfold isT at w
  split at w
  · next a b => rw [rt.bl, ru.bl]; exact .inr ⟨a, b, rfl, rfl, w.val zi (rBl _)⟩
  · rw [rt.non, ru.non]; exact .inl ⟨rfl, w.val zi (rBl _)⟩
  · next h1 h2 => rw [ru.non]; exact .inl ⟨rfl, by rw [decide_eq_false (rt.notNon (by rintro rfl; exact h2 rfl))]; exact w.val zi (rBl _)⟩
  · exact w.elim
def isNotT : T → T → Res T
  | .non, .non => .ok (.bl false)
  | _, .non => .ok (.bl true)
  | _, _ => .no
theorem r_isNot : R2R K cn (fun x y H Q => y = .non ∧ Q (.bl (!decide (x = .non))) H) isNotT := fun E As H Z t u x y A B Q zi rt ru w => by
  unfold isNotT at w
  split at w
  · rw [rt.non, ru.non]; exact ⟨rfl, w.val zi (rBl _)⟩
  · next h2 => rw [ru.non]; exact ⟨rfl, by rw [decide_eq_false (rt.notNon (by rintro rfl; exact h2 rfl))]; exact w.val zi (rBl _)⟩
  · exact w.elim

/-! ### equality -/
/-- == of flat trees -/
def eqFlat : T → T → Option Bool
  | .non, .non => some true
  | .non, .bl _ => some false
  | .non, .int _ => some false
  | .non, .str _ => some false
  | .bl _, .non => some false
  | .bl a, .bl b => some (a == b)
  | .bl a, .int b => some ((if a then 1 else 0) == b)
  | .bl _, .str _ => some false
  | .int _, .non => some false
  | .int a, .bl b => some (a == (if b then 1 else 0))
  | .int a, .int b => some (a == b)
  | .int _, .str _ => some false
  | .str _, .non => some false
  | .str _, .bl _ => some false
  | .str _, .int _ => some false
  | .str a, .str b => some (a == b)
  | _, _ => none
mutual
/-- == , n deep -/
def eqF : Nat → T → T → Option Bool
  | n + 1, .lst _ xs, .lst _ ys => if xs.length = ys.length then (eqFs n xs ys).map fun es => es.all id else some false
  | n + 1, .tup xs, .tup ys => (eqFs n xs ys).map fun es => es.all id && xs.length == ys.length
  | _, t, u => eqFlat t u
/-- the answers item by item, as far as both go -/
def eqFs : Nat → List T → List T → Option (List Bool)
  | n, x :: xs, y :: ys => (eqF n x y).bind fun b => (eqFs n xs ys).map fun es => b :: es
  | _, _, _ => some []
end
theorem eqFlat_ok {t u : T} {x y : V} {A B : List Addr} {b : Bool} (rt : Rep K cn H Z t x A) (ru : Rep K cn H Z u y B) (h : eqFlat t u = some b) : flatV x = true ∧ flatV y = true ∧ b = eqV x y := by
  unfold eqFlat at h
  split at h
  all_goals first
    | (simp only [Rep] at rt ru; obtain ⟨rfl, _⟩ := rt; obtain ⟨rfl, _⟩ := ru; cases h; exact ⟨rfl, rfl, rfl⟩)
    | cases h
theorem eqFlat_D {n : Nat} {t u : T} {x y : V} {A B : List Addr} {b : Bool} (rt : Rep K cn H Z t x A) (ru : Rep K cn H Z u y B) (h : eqFlat t u = some b) : EqD K H n x y b := by
  have q := eqFlat_ok rt ru h
  cases n with
  | zero => exact q
  | succ n => exact .inl q
theorem eqFs_of {n : Nat} (ih : ∀ (t u : T) {x y : V} {A B : List Addr} {b : Bool}, Rep K cn H Z t x A → Rep K cn H Z u y B → eqF n t u = some b → EqD K H n x y b) : ∀ (ts us : List T) {vs ws : List V} {A B : List Addr} {es : List Bool}, Reps K cn H Z ts vs A → Reps K cn H Z us ws B → eqFs n ts us = some es →
    es.length = min ts.length us.length ∧ ∀ (j : Nat) x y e, vs[j]? = some x → ws[j]? = some y → es[j]? = some e → EqD K H n x y e
  | x :: xs, y :: ys, vs, ws, A, B, es, r1, r2, h => by
    simp only [Reps] at r1 r2
    obtain ⟨v, vs', B1, C1, rfl, rfl, a1, a2⟩ := r1
    obtain ⟨w, ws', B2, C2, rfl, rfl, b1, b2⟩ := r2
    rw [eqFs, Option.bind_eq_some_iff] at h
    obtain ⟨b, h1, h⟩ := h
    rw [Option.map_eq_some_iff] at h
    obtain ⟨es', h2, rfl⟩ := h
    obtain ⟨q1, q2⟩ := eqFs_of ih xs ys a2 b2 h2
    refine ⟨by simp only [List.length_cons]; omega, fun j x' y' e e1 e2 e3 => ?_⟩
    cases j with
    | zero =>
      simp at e1 e2 e3
      subst e1 e2 e3
      exact ih x y a1 b1 h1
    | succ j => exact q2 j x' y' e (by simpa using e1) (by simpa using e2) (by simpa using e3)
  | [], us, vs, ws, A, B, es, r1, r2, h => by
    have e : eqFs n [] us = some [] := by cases us <;> rfl
    rw [e] at h
    cases h
    exact ⟨by simp, fun j x y e _ _ e3 => by simp at e3⟩
  | t :: ts, [], vs, ws, A, B, es, r1, r2, h => by
    have e : eqFs n (t :: ts) [] = some [] := rfl
    rw [e] at h
    cases h
    exact ⟨by simp, fun j x y e _ _ e3 => by simp at e3⟩
theorem eqF_ok (n : Nat) : ∀ (t u : T) {x y : V} {A B : List Addr} {b : Bool}, Rep K cn H Z t x A → Rep K cn H Z u y B → eqF n t u = some b → EqD K H n x y b := by
  induction n with
  | zero =>
    intro t u x y A B b rt ru h
    have e : eqF 0 t u = eqFlat t u := by cases t <;> cases u <;> rfl
    rw [e] at h
    exact eqFlat_D rt ru h
  | succ n ih =>
    intro t u x y A B b rt ru h
    by_cases h1 : ∃ o o' xs ys, t = .lst o xs ∧ u = .lst o' ys
    · obtain ⟨o, o', xs, ys, rfl, rfl⟩ := h1
      obtain ⟨a, vs, C, rfl, hs, r1, _⟩ := rt.lstSq
      obtain ⟨b', ws, D, rfl, hs', r2, _⟩ := ru.lstSq
      rw [eqF] at h
      have l1 := Reps.length xs r1
      have l2 := Reps.length ys r2
      split at h
      · next hl =>
        rw [Option.map_eq_some_iff] at h
        obtain ⟨es, h1, rfl⟩ := h
        obtain ⟨q1, q2⟩ := eqFs_of ih xs ys r1 r2 h1
        exact .inr (.inl ⟨a, b', vs, ws, rfl, rfl, hs.sq, hs'.sq, .inr ⟨by omega, es, by rw [q1]; omega, q2, rfl⟩⟩)
      · next hl =>
        cases h
        exact .inr (.inl ⟨a, b', vs, ws, rfl, rfl, hs.sq, hs'.sq, .inl ⟨by omega, rfl⟩⟩)
    · by_cases h2 : ∃ xs ys, t = .tup xs ∧ u = .tup ys
      · obtain ⟨xs, ys, rfl, rfl⟩ := h2
        obtain ⟨a, vs, rfl, hs, r1⟩ := rt.tupS
        obtain ⟨b', ws, rfl, hs', r2⟩ := ru.tupS
        rw [eqF] at h
        have l1 := Reps.length xs r1
        have l2 := Reps.length ys r2
        rw [Option.map_eq_some_iff] at h
        obtain ⟨es, h1, rfl⟩ := h
        obtain ⟨q1, q2⟩ := eqFs_of ih xs ys r1 r2 h1
        exact .inr (.inr ⟨a, b', vs, ws, rfl, rfl, hs, hs', es, by rw [q1]; omega, q2, by rw [l1, l2]⟩)
      · have e : eqF (n + 1) t u = eqFlat t u := by
          cases t <;> cases u <;> first | rfl | exact absurd ⟨_, _, _, _, rfl, rfl⟩ h1 | exact absurd ⟨_, _, rfl, rfl⟩ h2
        rw [e] at h
        exact eqFlat_D rt ru h
def eqDeep : Nat := 6
def isSeq : T → Bool
  | .lst _ _ => true
  | .tup _ => true
  | _ => false
def scalT : T → T → Bool
  | .bl _, .int _ => false
  | .int _, .bl _ => false
  | t, u => !isSeq t && !isSeq u
def eqB (t u : T) : Option Bool := if isSeq t = true ∧ isSeq u = true then eqF eqDeep t u else if scalT t u = true then eqFlat t u else none
def eqT (t u : T) : Res T := match eqB t u with
  | some b => .ok (.bl b)
  | none => .no
theorem Rep.seqRef {t : T} {v : V} {A : List Addr} (h : Rep K cn H Z t v A) (i : isSeq t = true) : ∃ a, v = .ref a := by
  cases t with
  | lst o ts => obtain ⟨a, vs, C, rfl, _⟩ := h.lstSq; exact ⟨a, rfl⟩
  | tup ts => obtain ⟨a, vs, rfl, _⟩ := h.tupS; exact ⟨a, rfl⟩
  | _ => cases i
theorem scal_ok {t u : T} {x y : V} {A B : List Addr} {b : Bool} (rt : Rep K cn H Z t x A) (ru : Rep K cn H Z u y B) (hs : scalT t u = true) (h : eqFlat t u = some b) : scal x y = true ∧ b = decide (x = y) := by
  unfold eqFlat at h
  split at h
  all_goals first
    | (cases hs; done)
    | (simp only [Rep] at rt ru; obtain ⟨rfl, _⟩ := rt; obtain ⟨rfl, _⟩ := ru; cases h; exact ⟨rfl, by first | rfl | (rw [dec_int]) | (rw [dec_bl]) | (rw [dec_str]) | (symm; exact decide_eq_false (fun z => nomatch z))⟩)
    | (cases h; done)
theorem r_eq : R2R K cn (rEqD K eqDeep) eqT := fun E As H Z t u x y A B Q zi rt ru w => by
  unfold eqT at w
  split at w
  · next b h =>
    unfold eqB at h
    split at h
    · next hs =>
      obtain ⟨p, rfl⟩ := rt.seqRef hs.1
      obtain ⟨q, rfl⟩ := ru.seqRef hs.2
      exact .inr ⟨p, q, b, rfl, rfl, eqF_ok eqDeep t u rt ru h, w.val zi (rBl _)⟩
    · split at h
      · next hs =>
        obtain ⟨q1, rfl⟩ := scal_ok rt ru hs h
        exact .inl ⟨q1, w.val zi (rBl _)⟩
      · cases h
  · exact w.elim
def neT (t u : T) : Res T := if scalT t u = true then match eqFlat t u with
  | some b => .ok (.bl (!b))
  | none => .no else .no
theorem r_ne : R2R K cn rNe neT := fun E As H Z t u x y A B Q zi rt ru w => by
  unfold neT at w
  split at w
  · next hs =>
    split at w
    · next b h =>
      obtain ⟨q1, rfl⟩ := scal_ok rt ru hs h
      exact ⟨q1, w.val zi (rBl _)⟩
    · exact w.elim
  · exact w.elim
/-- t in u -/
def occ (j i : Str) : Bool := !(Builtin.Str.occurrences j i 0 j.length 1).isEmpty
def inEs (t : T) : List T → Option (List Bool)
  | [] => some []
  | u :: us => (eqF eqDeep u t).bind fun b => (inEs t us).map fun es => b :: es
theorem inEs_ok {t : T} {x : V} {A : List Addr} (rt : Rep K cn H Z t x A) : ∀ (us : List T) {ws : List V} {B : List Addr} {es : List Bool}, Reps K cn H Z us ws B → inEs t us = some es → es.length = ws.length ∧ ∀ (j : Nat) y e, ws[j]? = some y → es[j]? = some e → EqD K H eqDeep y x e
  | [], ws, B, es, r, h => by
    simp only [Reps] at r
    obtain ⟨rfl, _⟩ := r
    cases h
    exact ⟨rfl, fun j y e e1 => by simp at e1⟩
  | u :: us, ws, B, es, r, h => by
    simp only [Reps] at r
    obtain ⟨w, ws', B1, C1, rfl, rfl, a1, a2⟩ := r
    rw [inEs, Option.bind_eq_some_iff] at h
    obtain ⟨b, h1, h⟩ := h
    rw [Option.map_eq_some_iff] at h
    obtain ⟨es', h2, rfl⟩ := h
    obtain ⟨q1, q2⟩ := inEs_ok rt us a2 h2
    refine ⟨by simp [q1], fun j y e e1 e2 => ?_⟩
    cases j with
    | zero =>
      simp at e1 e2
      subst e1 e2
      exact eqF_ok eqDeep u t a1 rt h1
    | succ j => exact q2 j y e (by simpa using e1) (by simpa using e2)
def inT (neg : Bool) : T → T → Res T
  | t, .lst _ us => match inEs t us with
    | some es => .ok (.bl (if neg = true then !es.any id else es.any id))
    | none => .no
  | t, .tup us => match inEs t us with
    | some es => .ok (.bl (if neg = true then !es.any id else es.any id))
    | none => .no
  | .str i, .str j => .ok (.bl (if neg = true then !occ j i else occ j i))
  | _, _ => .no
theorem r_in {neg : Bool} : R2R K cn (rInD K eqDeep neg) (inT neg) := fun E As H Z t u x y A B Q zi rt ru w => by
  unfold inT at w
  split at w
  · next t o us =>
    split at w
    · next es h =>
      obtain ⟨a, vs, C, rfl, hs, r1, _⟩ := ru.lstSq
      obtain ⟨q1, q2⟩ := inEs_ok rt us r1 h
      exact .inl ⟨a, vs, rfl, .inl hs.sq, es, q1, q2, w.val zi (rBl _)⟩
    · exact w.elim
  · next t us =>
    split at w
    · next es h =>
      obtain ⟨a, vs, rfl, hs, r1⟩ := ru.tupS
      obtain ⟨q1, q2⟩ := inEs_ok rt us r1 h
      exact .inl ⟨a, vs, rfl, .inr hs, es, q1, q2, w.val zi (rBl _)⟩
    · exact w.elim
  · next i j => rw [rt.str, ru.str]; exact .inr ⟨i, j, rfl, rfl, w.val zi (rBl _)⟩
  · exact w.elim

end
end TL

/-! TREES 9: indices, cuts, Python's own functions, upon trees -/
namespace L2
open PySem PySem.Spec PyProof.Rows
section
variable {X : Cx} (K : PySem.W.Frag)
theorem op_eqK {n : Nat} {k : Nat} (hr : Room k X.A) (hn : n ≤ 60 := by decide) (hK : X.K = K := by rfl) : OpR X (compareOp .Eq) (rEqD K n) := by
  subst hK
  exact op_eqD (by have := hr.units; omega)
theorem op_inK {n : Nat} {k : Nat} (hr : Room k X.A) (hn : n ≤ 60 := by decide) (hK : X.K = K := by rfl) : OpR X (compareOp .In) (rInD K n false) := by
  subst hK
  exact op_inD (by have := hr.units; omega)
theorem op_notInK {n : Nat} {k : Nat} (hr : Room k X.A) (hn : n ≤ 60 := by decide) (hK : X.K = K := by rfl) : OpR X (compareOp .NotIn) (rInD K n true) := by
  subst hK
  exact op_notInD (by have := hr.units; omega)
theorem ix_K (hK : X.K = K := by rfl) : IxR X (rIx K) := by
  subst hK
  exact ix_seq
/-- a cut of a tuple, the whole too -/
def rSlT2 : V → Option Int → Option Int → Hp → VK → Prop := fun x lo hi H Q => ∃ a xs, x = .ref a ∧ SqT K H a xs ∧ (¬ (HT.sIx xs.length 0 lo = 0 ∧ HT.sIx xs.length xs.length hi = xs.length)) ∧ ∀ p, H p = none → Q (.ref p) (upd H p (.tup (cutV xs lo hi)))
def rSlV : V → Option Int → Option Int → Hp → VK → Prop := fun x lo hi H Q => rSlL K x lo hi H Q ∨ rSlT K x lo hi H Q ∨ rSlS x lo hi H Q
theorem sl_K (hK : X.K = K := by rfl) : SlR X (rSlV K) := by
  subst hK
  exact SlR.or sl_list (SlR.or sl_tup sl_str)
theorem pt_truthK {a : Expr} {ta : TE} (ha : PE X a ta) (he : ∀ whole, isTrue a X.env whole = (do let v ← whole; standAt a.pos; holding [v] (truthy v))) (hK : X.K = K := by rfl) :
    PT X a (fun σ H Q => ta σ H fun x H' => ∃ k, TruV K x H' k ∧ Q k H') := by
  subst hK
  exact pt_truth ha he
theorem pi_V {tg l : Expr} {tl : TE} (hl : PE X l tl) (hK : X.K = K := by rfl) : PI X tg l (TL.iV K tl) := by
  subst hK
  intro pins s σ H R I h
  refine thn (hl pins s σ H _ I h) fun v s1 ⟨x, H1, I1, r1, q1⟩ => ?_
  rcases q1 with ⟨a, e, q⟩ | ⟨z, e, q⟩
  · subst e
    cases r1
    rcases q with ⟨⟨xs, hq⟩, q⟩ | ⟨⟨xs, hq⟩, q⟩
    · obtain ⟨its, rv, p, hz⟩ := I1.list hq
      refine wpAny_pyIter_list p.isList ?_
      refine ⟨s1.heap.objs.size, [s1.heap.objs.size], _, _, H1, rfl, I1.kept (t' := s1.toks) fun b o e => Heap.get?_push_of_some _ e, turn_list a _, ⟨_, Heap.get?_push_size _ rfl, rfl, rfl⟩, fun b hb => ?_, q⟩
      have e : b = s1.heap.objs.size := by simpa using hb
      subst e
      exact I1.fpOk (Nat.le_refl _) (I1.hok.fresh (Nat.le_refl _))
    · obtain ⟨its, rv, p, hz⟩ := I1.tuple hq
      refine wpAny_pyIter_tuple (show s1.heap.IsTuple a its.toArray from p) ?_
      refine ⟨s1.heap.objs.size, [s1.heap.objs.size], _, _, H1, rfl, I1.kept (t' := s1.toks) fun b o e => Heap.get?_push_of_some _ e, turn_tuple a _, ⟨_, Heap.get?_push_size _ rfl, rfl, rfl⟩, fun b hb => ?_, q⟩
      have e : b = s1.heap.objs.size := by simpa using hb
      subst e
      exact I1.fpOk (Nat.le_refl _) (I1.hok.fresh (Nat.le_refl _))
  · subst e
    obtain ⟨t, rfl⟩ := r1
    have fp : ∀ b ∈ [s1.heap.objs.size], FpOk X pins H1 b := fun b hb => by
      have e : b = s1.heap.objs.size := by simpa using hb
      subst e
      exact I1.fpOk (Nat.le_refl _) (I1.hok.fresh (Nat.le_refl _))
    cases ha : z.cps.all (· < 128)
    · exact wpAny_pyIter_wide ha ⟨s1.heap.objs.size, [s1.heap.objs.size], _, _, H1, rfl, I1.kept (t' := s1.toks) fun b o e => Heap.get?_push_of_some _ e, turn_wide _ z t, ⟨_, Heap.get?_push_size _ rfl, rfl, rfl⟩, fp, q⟩
    · exact wpAny_pyIter_ascii ha ⟨s1.heap.objs.size, [s1.heap.objs.size], _, _, H1, rfl, I1.kept (t' := s1.toks) fun b o e => Heap.get?_push_of_some _ e, turn_ascii _ z t, ⟨_, Heap.get?_push_size _ rfl, rfl, rfl⟩, fp, q⟩
theorem pg_tupK {es : List Expr} {k : Nat} {t : TGs} {pos : Pos} (n : Nat) (hc : X.calm = true) (h : PGs X es t)
    (hn : (assignEach es X.env).length = n := by rfl) (hst : (assignEach es X.env).findIdx? (·.1) = none := by rfl) (hK : X.K = K := by rfl) : PG X (.Tuple es k pos) (gTup K n t) := by
  subst hK
  exact pg_tup hc h hn hst
theorem pe_bmK {o e : Expr} {es : List Expr} {to : TE} {t : TA} {name : Str} {apos cpos : Pos} {T id : String} {r : V → List V → Hp → VK → Prop} (pa : PlainAttrs T) (slot : Slot T name id) (hty : typeOf (.builtin id) = pure (.type "method_descriptor")) (hm : MtR X id r) (ho : PE X o to) (ha : PA X (e :: es) t)
    (hbase : attributeBase o name X.env (eval o X.env) = eval o X.env := by rfl)
    (hfew : ((backTo cpos (starEach (e :: es) X.env)).all (fun x => !x.1) && (backToKw cpos (keywordEach [] X.env)).all (fun x => x.1.isSome)
      && decide ((e :: es).length + ([] : List Keyword).length + (if ([] : List Keyword).isEmpty then 0 else 1) < 30)) = true := by rfl)
    (hline : (apos.endLine == cpos.line) = true := by rfl) (hs : starEach (e :: es) X.env = (false, eval e X.env) :: starEach es X.env := by rfl) (hplain : (backTo cpos (starEach es X.env)).any (·.1) = false := by rfl) (hK : X.K = K := by rfl) :
    PE X (.Call (.Attribute o name apos) (e :: es) [] cpos) (tBM K T r to t) := by
  subst hK
  exact pe_bm pa slot hty hm ho ha hbase hfew hline hs hplain
theorem pe_revK {e st : Expr} {te : TE} {ts : TO} {pos p2 : Pos} (he : PE X e te) (hst : PO X (some st) ts) (hops : ∀ o i, subscripted (.Slice none none (some st) p2) false o i = operate [o, i] (getItem o i) := by intros; rfl) (hK : X.K = K := by rfl) : PE X (.Subscript e (.Slice none none (some st) p2) pos) (tRev K te ts) := by
  subst hK
  exact pe_rev he hst hops
theorem call_lenK (hK : X.K = K := by rfl) : CallR X (.builtin "len") (rLen K) := by subst hK; exact call_len
theorem call_absK (hK : X.K = K := by rfl) : CallR X (.builtin "abs") rAbs := call_abs
theorem call_divmodK (hK : X.K = K := by rfl) : CallR X (.builtin "divmod") rDivmod := call_divmod
theorem call_isinstanceK (hK : X.K = K := by rfl) : CallR X (.builtin "isinstance") (rIsi K) := by subst hK; exact call_isi
theorem call_allK (hc : X.calm = true := by rfl) (hK : X.K = K := by rfl) : CallR X (.builtin "all") (rAll K) := by subst hK; exact call_all hc
theorem call_anyK (hc : X.calm = true := by rfl) (hK : X.K = K := by rfl) : CallR X (.builtin "any") (rAny K) := by subst hK; exact call_any hc
theorem call_maxK (hc : X.calm = true := by rfl) (hK : X.K = K := by rfl) : CallR X (.builtin "max") (rMax K) := by subst hK; exact call_maxU hc
theorem call_minK (hc : X.calm = true := by rfl) (hK : X.K = K := by rfl) : CallR X (.builtin "min") (rMin K) := by subst hK; exact call_minU hc
def rSortI : List V → Hp → VK → Prop := fun xs H Q => ∃ (p : Addr) (ns : List Int), xs = [.ref p] ∧ SqL K H p (ns.map V.int) ∧ ns.length < 64 ∧ ∀ (l : Addr) (ms : List Int), H l = none → ms.Perm ns → ms.Pairwise (· ≤ ·) → Q (.ref l) (upd H l (.lst (ms.map V.int)))
theorem call_sortedK (hK : X.K = K := by rfl) : CallR X (.builtin "sorted") (rSortI K) := by subst hK; exact call_sortedI
def rListO : List V → Hp → VK → Prop := fun xs H Q => ∃ p ys, xs = [.ref p] ∧ (SqL K H p ys ∨ SqT K H p ys) ∧ ∀ l, H l = none → Q (.ref l) (upd H l (.lst ys))
theorem call_listK (hK : X.K = K := by rfl) : CallR X (.type "list") (rListO K) := by subst hK; exact call_list_of
theorem mt_joinK (hK : X.K = K := by rfl) : MtR X "str.join" (rJoin K) := by subst hK; exact mt_join
end
end L2
namespace TL
open PySem PySem.Spec PyProof.Rows L2
section
variable {K : PySem.W.Frag} {cn : Str → Option Addr} {E : XK} {As : List (List Addr)} {H : Hp} {Z : Addr → Prop} {Q : VK}
/-! ### indices: a look into -/
def ixT : T → T → Res T
  | .lst _ ts, .int n => match atI ts n with
    | some t => .ok t
    | none => .no
  | .tup ts, .int n => match atI ts n with
    | some t => .ok t
    | none => .no
  | .str z, .int n => if z.length ≤ sizeLine then match atI z.cps.toList n with
    | some c => .ok (.str ⟨#[c]⟩)
    | none => .no else .no
  | _, _ => .no
theorem Reps.atI {ts : List T} {vs : List V} {A : List Addr} {n : Int} {t : T} (r : Reps K cn H Z ts vs A) (h : L2.atI ts n = some t) : ∃ v B, L2.atI vs n = some v ∧ Rep K cn H Z t v B := by
  unfold L2.atI at h ⊢
  rw [Option.bind_eq_some_iff] at h
  obtain ⟨j, h1, h2⟩ := h
  obtain ⟨v, B, e, rv, _⟩ := Reps.get ts r h2
  exact ⟨v, B, by rw [Reps.length ts r, h1]; exact e, rv⟩
theorem rb_ix {ta tb : TE} {a b : Fr → Res T} (ha : RB K cn E ta a) (hb : RB K cn E tb b) : RB K cn E (tOp (rIx K) ta tb) (dBin ixT a b) := fun As H Z ρ σ F Q w => by
  unfold dBin at w
  refine ha As H Z ρ σ F _ ?_
  cases e : a ρ with
  | ok t =>
    rw [e] at w
    intro v H1 Z1 B p
    refine hb As H1 Z1 ρ σ (F.mo p.mo) _ ?_
    simp only [Res.bind] at w
    cases e2 : b ρ with
    | ok u =>
      rw [e2] at w
      intro v2 H2 Z2 B2 p2
      have rt := p.rep.same p2.same p2.zz
      have m := p.mo.trans p2.mo
      have fin : ∀ {t : T} {v : V} {C : List Addr}, WpB K cn E As H Z Q (.ok t) → Rep K cn H2 Z2 t v C → Q v H2 := fun w r => w _ H2 Z2 _ ⟨m.same, m.zz, m.zn, m.zi, r⟩
      simp only at w
      unfold ixT at w
      split at w
      · next o ts n =>
        split at w
        · next t' h =>
          obtain ⟨q, vs, C, rfl, hs, r, _⟩ := rt.lstSq
          obtain ⟨v', D, e3, rv⟩ := r.atI h
          exact .inl ⟨q, vs, n, v', rfl, p2.rep.int, hs.sq, e3, fin w rv⟩
        · exact w.elim
      · next ts n =>
        split at w
        · next t' h =>
          obtain ⟨q, vs, rfl, hs, r⟩ := rt.tupS
          obtain ⟨v', D, e3, rv⟩ := r.atI h
          exact .inr (.inl ⟨q, vs, n, v', rfl, p2.rep.int, hs, e3, fin w rv⟩)
        · exact w.elim
      · next z n =>
        split at w
        · next hz =>
          split at w
          · next c h => exact .inr (.inr ⟨z, n, c, rt.str, p2.rep.int, hz, h, fin w (rStr _)⟩)
          · exact w.elim
        · exact w.elim
      · exact w.elim
    | ex x => rw [e2] at w; exact WpX.ev w p.mo.ev
    | no => rw [e2] at w; exact w
  | ex x => rw [e] at w; exact w
  | no => rw [e] at w; exact w
theorem re_ix {ta tb : TE} {a b : Fr → Res T} (ha : RB K cn E ta a) (hb : RB K cn E tb b) : RE K cn E [] (tOp (rIx K) ta tb) (dChk (dBin ixT a b)) := (rb_ix ha hb).chk
/-! ### cuts -/
def cutT {α : Type} (xs : List α) (lo hi : Option Int) : List α := (xs.drop (HT.sIx xs.length 0 lo)).take (HT.sIx xs.length xs.length hi - HT.sIx xs.length 0 lo)
def slT : T → Option Int → Option Int → Res T
  | .lst _ ts, lo, hi => if noOwns ts = true then .ok (.lst true (cutT ts lo hi)) else .no
  | .tup ts, lo, hi => if noOwns ts = true ∧ ¬ (HT.sIx ts.length 0 lo = 0 ∧ HT.sIx ts.length ts.length hi = ts.length) then .ok (.tup (cutT ts lo hi)) else .no
  | .str z, lo, hi => if z.length ≤ sizeLine then .ok (.str (Txt.slice z lo hi)) else .no
  | _, _, _ => .no
theorem Reps.cut {ts : List T} {vs : List V} (r : Reps K cn H Z ts vs []) (lo hi : Option Int) : Reps K cn H Z (cutT ts lo hi) (cutV vs lo hi) [] := by
  unfold cutT cutV
  rw [Reps.length ts r]
  exact Reps.take _ _ (Reps.drop _ _ r)
theorem r_sl : RSR K cn (rSlV K) slT := fun E As H Z t x A lo hi Q zi rt w => by
  cases t with
  | lst o ts =>
    simp only [slT] at w
    split at w
    · next h =>
      obtain ⟨q, vs, C, rfl, hs, r, _⟩ := rt.lstSq
      exact .inl ⟨q, vs, rfl, hs.sq, fun p hp => w.newL zi ((r.bareE h).cut lo hi) p hp⟩
    · exact w.elim
  | tup ts =>
    simp only [slT] at w
    split at w
    · next h =>
      obtain ⟨q, vs, rfl, hs, r⟩ := rt.tupS
      exact .inr (.inl ⟨q, vs, rfl, hs, by rw [Reps.length ts r]; exact h.2, fun p hp => w.newT zi ((r.bareE h.1).cut lo hi) p hp⟩)
    · exact w.elim
  | str z =>
    simp only [slT] at w
    split at w
    · next h => rw [rt.str]; exact .inr (.inr ⟨z, rfl, h, w.val zi (rStr _)⟩)
    · exact w.elim
  | _ => exact w.elim
def revT (k : Option Int) : T → Res T
  | .lst _ ts => if noOwns ts = true ∧ k = some (-1) then .ok (.lst true ts.reverse) else .no
  | _ => .no
def dRev (a : Fr → Res T) (s : Fr → Res (Option Int)) : Fr → Res T := fun ρ => (a ρ).bind fun t => (s ρ).bind fun k => revT k t
theorem re_rev {te : TE} {ts : TO} {a : Fr → Res T} {s : Fr → Res (Option Int)} (ha : RB K cn E te a) (hs : RO K cn E ts s) : RE K cn E [] (tRev K te ts) (dRev a s) := fun As H Z ρ σ F Q w => by
  unfold dRev at w
  refine ha As H Z ρ σ F _ ?_
  cases e : a ρ with
  | ok t =>
    rw [e] at w
    intro v H1 Z1 B p
    refine hs As H1 Z1 ρ σ (F.mo p.mo) _ ?_
    simp only [Res.bind] at w
    cases e2 : s ρ with
    | ok k =>
      rw [e2] at w
      intro H2 Z2 m2
      have m := p.mo.trans m2
      simp only at w
      have w2 := WpE.mo F w m
      cases t with
      | lst o ts =>
        simp only [revT] at w2
        split at w2
        · next h =>
          obtain ⟨q, vs, C, rfl, hs, r, _⟩ := (p.rep.same m2.same m2.zz).lstSq
          exact ⟨h.2, q, vs, rfl, hs.sq, fun p hp => WpE.newL w2 m.zi (Reps.reverse ts (r.bareE h.1)) p hp⟩
        · exact w2.elim
      | _ => exact w2.elim
    | ex x => rw [e2] at w; exact WpX.ev w p.mo.ev
    | no => rw [e2] at w; exact w
  | ex x => rw [e] at w; exact w
  | no => rw [e] at w; exact w

/-! ### functions -/
theorem Reps.one1 {t : T} {vs : List V} {A : List Addr} (r : Reps K cn H Z [t] vs A) : ∃ v, vs = [v] ∧ Rep K cn H Z t v A := by
  simp only [Reps] at r
  obtain ⟨v, w, B, C, rfl, rfl, r, rfl, rfl⟩ := r
  exact ⟨v, rfl, by simpa using r⟩
theorem Reps.two2 {t u : T} {vs : List V} {A : List Addr} (r : Reps K cn H Z [t, u] vs A) : ∃ v w B C, vs = [v, w] ∧ A = B ++ C ∧ Rep K cn H Z t v B ∧ Rep K cn H Z u w C := by
  simp only [Reps] at r
  obtain ⟨v, w, B, C, rfl, rfl, r, v2, w2, B2, C2, rfl, rfl, r2, rfl, rfl⟩ := r
  exact ⟨v, v2, B, B2, rfl, by simp, r, r2⟩
def lenT : List T → Res T
  | [.str z] => if z.length ≤ sizeLine then .ok (.int z.length) else .no
  | [.lst _ ts] => .ok (.int ts.length)
  | [.tup ts] => .ok (.int ts.length)
  | _ => .no
theorem r_len : RCR K cn (rLen K) lenT := fun E As H Z ts xs A Q zi r w => by
  unfold lenT at w
  split at w
  · next z =>
    split at w
    · next h => obtain ⟨v, rfl, rv⟩ := r.one1; rw [rv.str]; exact ⟨_, _, rfl, ⟨h, rfl⟩, w.val zi (rInt _)⟩
    · exact w.elim
  · next o ts =>
    obtain ⟨v, rfl, rv⟩ := r.one1
    obtain ⟨q, vs, C, rfl, hs, r', _⟩ := rv.lstSq
    exact ⟨_, _, rfl, .inl ⟨vs, hs.sq, rfl⟩, by rw [Reps.length ts r']; exact w.val zi (rInt _)⟩
  · next ts =>
    obtain ⟨v, rfl, rv⟩ := r.one1
    obtain ⟨q, vs, rfl, hs, r'⟩ := rv.tupS
    exact ⟨_, _, rfl, .inr ⟨vs, hs, rfl⟩, by rw [Reps.length ts r']; exact w.val zi (rInt _)⟩
  · exact w.elim
def absT : List T → Res T
  | [.int i] => .ok (.int (if i < 0 then -i else i))
  | _ => .no
theorem r_abs : RCR K cn rAbs absT := fun E As H Z ts xs A Q zi r w => by
  unfold absT at w
  split at w
  · next i => rw [r.ints1]; exact ⟨i, rfl, w.val zi (rInt _)⟩
  · exact w.elim
noncomputable def divmodT : List T → Res T
  | [.int i, .int j] => gate (CDiv i j) (.ok (.tup [.int (i / j), .int (i % j)]))
  | _ => .no
theorem rep2 (i j : Int) : Reps K cn H Z [.int i, .int j] [.int i, .int j] [] := by
  simp only [Reps]
  exact ⟨_, _, [], [], rfl, rfl, rInt _, _, _, [], [], rfl, rfl, rInt _, rfl, rfl⟩
theorem r_divmod : RCR K cn rDivmod divmodT := fun E As H Z ts xs A Q zi r w => by
  unfold divmodT at w
  split at w
  · next i j =>
    obtain ⟨h, w⟩ := w.gate
    rw [r.ints2]; exact ⟨i, j, rfl, h, fun p hp => w.newT zi (rep2 _ _) p hp⟩
  · exact w.elim
def tyOfT : T → Option String
  | .int _ => some "int"
  | .bl _ => some "bool"
  | .str _ => some "str"
  | .lst _ _ => some "list"
  | .tup _ => some "tuple"
  | _ => none
def isiB (tx ty : String) : Option Bool :=
  if (ty = "int" ∨ ty = "bool" ∨ ty = "str" ∨ ty = "list" ∨ ty = "tuple") then some (tx = ty ∨ (tx = "bool" ∧ ty = "int")) else none
theorem isiB_ok {tx ty : String} {b : Bool} {t : T} (h0 : tyOfT t = some tx) (h : isiB tx ty = some b) : IsiR tx ty b := by
  have hx : tx = "int" ∨ tx = "bool" ∨ tx = "str" ∨ tx = "list" ∨ tx = "tuple" := by
    cases t <;> simp [tyOfT] at h0 <;> subst h0 <;> simp
  unfold isiB at h
  split at h
  · next hy =>
    cases h
    rcases hx with rfl | rfl | rfl | rfl | rfl <;> rcases hy with rfl | rfl | rfl | rfl | rfl <;> constructor
  · cases h
theorem tyOfT_ok {t : T} {v : V} {A : List Addr} {tx : String} (r : Rep K cn H Z t v A) (h : tyOfT t = some tx) : TyN K H v tx := by
  cases t with
  | int i => rw [r.int]; cases h; rfl
  | bl i => rw [r.bl]; cases h; rfl
  | str i => rw [r.str]; cases h; rfl
  | lst o ts => obtain ⟨q, vs, C, rfl, hs, _⟩ := r.lstSq; cases h; exact .inl ⟨rfl, vs, hs.sq⟩
  | tup ts => obtain ⟨q, vs, rfl, hs, _⟩ := r.tupS; cases h; exact .inr ⟨rfl, vs, hs⟩
  | _ => cases h
def isiT : List T → Res T
  | [t, .ty n] => match tyOfT t with
    | some tx => match isiB tx n with
      | some b => .ok (.bl b)
      | none => .no
    | none => .no
  | _ => .no
theorem r_isi : RCR K cn (rIsi K) isiT := fun E As H Z ts xs A Q zi r w => by
  unfold isiT at w
  split at w
  · next t n =>
    split at w
    · next tx h1 =>
      split at w
      · next b h2 =>
        obtain ⟨v, u, B, C, rfl, _, r1, r2⟩ := r.two2
        simp only [Rep] at r2
        rw [r2.1]
        exact ⟨v, n, tx, b, rfl, tyOfT_ok r1 h1, isiB_ok h1 h2, w.val zi (rBl _)⟩
      · exact w.elim
    · exact w.elim
  · exact w.elim
/-- a row of truths -/
def bools : List T → Option (List Bool)
  | [] => some []
  | .bl b :: ts => (bools ts).map (b :: ·)
  | _ :: _ => none
theorem bools_ok : ∀ (ts : List T) {vs : List V} {A : List Addr} {bs : List Bool}, Reps K cn H Z ts vs A → bools ts = some bs → vs = bs.map V.bl
  | [], vs, A, bs, r, h => by
    simp only [Reps] at r
    cases h
    exact r.1
  | t :: ts, vs, A, bs, r, h => by
    simp only [Reps] at r
    obtain ⟨v, vs', B, C, rfl, rfl, r1, r2⟩ := r
    cases t with
    | bl b =>
      simp only [bools] at h
      rw [Option.map_eq_some_iff] at h
      obtain ⟨bs', h1, rfl⟩ := h
      rw [bools_ok ts r2 h1, r1.bl]
      rfl
    | _ => cases h
def allT (any : Bool) : List T → Res T
  | [.lst _ ts] => match bools ts with
    | some bs => .ok (.bl (if any = true then bs.any id else bs.all id))
    | none => .no
  | _ => .no
theorem r_all : RCR K cn (rAll K) (allT false) := fun E As H Z ts xs A Q zi r w => by
  unfold allT at w
  split at w
  · next o ts =>
    split at w
    · next bs h =>
      obtain ⟨v, rfl, rv⟩ := r.one1
      obtain ⟨q, vs, C, rfl, hs, r', _⟩ := rv.lstSq
      have := bools_ok ts r' h
      subst this
      exact ⟨q, bs, rfl, hs.sq, w.val zi (rBl _)⟩
    · exact w.elim
  · exact w.elim
theorem r_any : RCR K cn (rAny K) (allT true) := fun E As H Z ts xs A Q zi r w => by
  unfold allT at w
  split at w
  · next o ts =>
    split at w
    · next bs h =>
      obtain ⟨v, rfl, rv⟩ := r.one1
      obtain ⟨q, vs, C, rfl, hs, r', _⟩ := rv.lstSq
      have := bools_ok ts r' h
      subst this
      exact ⟨q, bs, rfl, hs.sq, w.val zi (rBl _)⟩
    · exact w.elim
  · exact w.elim
/-- a row of whole numbers -/
def nums : List T → Option (List Int)
  | [] => some []
  | .int b :: ts => (nums ts).map (b :: ·)
  | _ :: _ => none
theorem nums_ok : ∀ (ts : List T) {vs : List V} {A : List Addr} {bs : List Int}, Reps K cn H Z ts vs A → nums ts = some bs → vs = bs.map V.int
  | [], vs, A, bs, r, h => by
    simp only [Reps] at r
    cases h
    exact r.1
  | t :: ts, vs, A, bs, r, h => by
    simp only [Reps] at r
    obtain ⟨v, vs', B, C, rfl, rfl, r1, r2⟩ := r
    cases t with
    | int b =>
      simp only [nums] at h
      rw [Option.map_eq_some_iff] at h
      obtain ⟨bs', h1, rfl⟩ := h
      rw [nums_ok ts r2 h1, r1.int]
      rfl
    | _ => cases h
theorem nums_map : ∀ ns : List Int, nums (ns.map T.int) = some ns
  | [] => rfl
  | n :: ns => by simp [nums, nums_map ns]
theorem bools_map : ∀ ns : List Bool, bools (ns.map T.bl) = some ns
  | [] => rfl
  | n :: ns => by simp [bools, bools_map ns]
theorem repI : ∀ ns : List Int, Reps K cn H Z (ns.map T.int) (ns.map V.int) []
  | [] => by simp [Reps]
  | n :: ns => by
    simp only [List.map_cons, Reps]
    exact ⟨_, _, [], [], rfl, rfl, rInt _, repI ns⟩
/-- the greatest, the least of some -/
def maxI : List Int → Int
  | [] => 0
  | n :: ns => ns.foldl (fun a b => if b > a then b else a) n
def minI : List Int → Int
  | [] => 0
  | n :: ns => ns.foldl (fun a b => if b < a then b else a) n
theorem maxI_spec : ∀ (n : Int) (ns : List Int), (ns.foldl (fun a b => if b > a then b else a) n ∈ n :: ns) ∧ ∀ a ∈ n :: ns, a ≤ ns.foldl (fun a b => if b > a then b else a) n
  | n, [] => by simp
  | n, m :: ns => by
    simp only [List.foldl_cons]
    have ih := maxI_spec (if m > n then m else n) ns
    refine ⟨?_, fun a ha => ?_⟩
    · rcases List.mem_cons.mp ih.1 with h | h
      · rw [h]; split <;> simp
      · exact List.mem_cons_of_mem _ (List.mem_cons_of_mem _ h)
    · have h1 := ih.2 (if m > n then m else n) List.mem_cons_self
      rcases List.mem_cons.mp ha with rfl | ha
      · split at h1 <;> rename_i hc
        · simp only [hc, if_true]; omega
        · simp only [hc, if_false]; exact h1
      · rcases List.mem_cons.mp ha with rfl | ha
        · split at h1 <;> rename_i hc
          · simp only [hc, if_true]; exact h1
          · simp only [hc, if_false]; omega
        · exact ih.2 a (List.mem_cons_of_mem _ ha)
theorem minI_spec : ∀ (n : Int) (ns : List Int), (ns.foldl (fun a b => if b < a then b else a) n ∈ n :: ns) ∧ ∀ a ∈ n :: ns, ns.foldl (fun a b => if b < a then b else a) n ≤ a
  | n, [] => by simp
  | n, m :: ns => by
    simp only [List.foldl_cons]
    have ih := minI_spec (if m < n then m else n) ns
    refine ⟨?_, fun a ha => ?_⟩
    · rcases List.mem_cons.mp ih.1 with h | h
      · rw [h]; split <;> simp
      · exact List.mem_cons_of_mem _ (List.mem_cons_of_mem _ h)
    · have h1 := ih.2 (if m < n then m else n) List.mem_cons_self
      rcases List.mem_cons.mp ha with rfl | ha
      · split at h1 <;> rename_i hc
        · simp only [hc, if_true]; omega
        · simp only [hc, if_false]; exact h1
      · rcases List.mem_cons.mp ha with rfl | ha
        · split at h1 <;> rename_i hc
          · simp only [hc, if_true]; exact h1
          · simp only [hc, if_false]; omega
        · exact ih.2 a (List.mem_cons_of_mem _ ha)
def maxT : List T → Res T
  | [.int i, .int j] => .ok (.int (if j > i then j else i))
  | [.lst _ ts] => match nums ts with
    | some (n :: ns) => .ok (.int (maxI (n :: ns)))
    | _ => .no
  | _ => .no
def minT : List T → Res T
  | [.int i, .int j] => .ok (.int (if j < i then j else i))
  | [.lst _ ts] => match nums ts with
    | some (n :: ns) => .ok (.int (minI (n :: ns)))
    | _ => .no
  | _ => .no
theorem r_max : RCR K cn (rMax K) maxT := fun E As H Z ts xs A Q zi r w => by
  unfold maxT at w
  split at w
  · next i j => rw [r.ints2]; exact .inl ⟨i, j, rfl, w.val zi (rInt _)⟩
  · next o ts =>
    split at w
    · next n ns h =>
      obtain ⟨v, rfl, rv⟩ := r.one1
      obtain ⟨q, vs, C, rfl, hs, r', _⟩ := rv.lstSq
      have := nums_ok ts r' h
      subst this
      refine .inr ⟨q, n :: ns, rfl, hs.sq, List.cons_ne_nil _ _, fun M h1 h2 => ?_⟩
      obtain ⟨g1, g2⟩ := maxI_spec n ns
      have : M = maxI (n :: ns) := Int.le_antisymm (g2 M h1) (h2 _ g1)
      rw [this]
      exact w.val zi (rInt _)
    · exact w.elim
  · exact w.elim
theorem r_min : RCR K cn (rMin K) minT := fun E As H Z ts xs A Q zi r w => by
  unfold minT at w
  split at w
  · next i j => rw [r.ints2]; exact .inl ⟨i, j, rfl, w.val zi (rInt _)⟩
  · next o ts =>
    split at w
    · next n ns h =>
      obtain ⟨v, rfl, rv⟩ := r.one1
      obtain ⟨q, vs, C, rfl, hs, r', _⟩ := rv.lstSq
      have := nums_ok ts r' h
      subst this
      refine .inr ⟨q, n :: ns, rfl, hs.sq, List.cons_ne_nil _ _, fun M h1 h2 => ?_⟩
      obtain ⟨g1, g2⟩ := minI_spec n ns
      have : M = minI (n :: ns) := Int.le_antisymm (h2 _ g1) (g2 M h1)
      rw [this]
      exact w.val zi (rInt _)
    · exact w.elim
  · exact w.elim
/-- sorted -/
def insI (n : Int) : List Int → List Int
  | [] => [n]
  | m :: ms => if n ≤ m then n :: m :: ms else m :: insI n ms
def sortI : List Int → List Int
  | [] => []
  | n :: ns => insI n (sortI ns)
theorem insI_perm (n : Int) : ∀ ms, (insI n ms).Perm (n :: ms)
  | [] => List.Perm.refl _
  | m :: ms => by
    unfold insI
    split
    · exact List.Perm.refl _
    · exact ((insI_perm n ms).cons m).trans (List.Perm.swap n m ms)
theorem sortI_perm : ∀ ns, (sortI ns).Perm ns
  | [] => List.Perm.refl _
  | n :: ns => (insI_perm n _).trans ((sortI_perm ns).cons n)
theorem insI_sorted (n : Int) : ∀ ms : List Int, ms.Pairwise (· ≤ ·) → (insI n ms).Pairwise (· ≤ ·)
  | [], _ => by simp [insI]
  | m :: ms, h => by
    unfold insI
    rw [List.pairwise_cons] at h
    split
    · next hc =>
      rw [List.pairwise_cons]
      refine ⟨fun a ha => ?_, List.pairwise_cons.mpr h⟩
      rcases List.mem_cons.mp ha with rfl | ha
      · exact hc
      · exact Int.le_trans hc (h.1 a ha)
    · next hc =>
      rw [List.pairwise_cons]
      refine ⟨fun a ha => ?_, insI_sorted n ms h.2⟩
      have := (insI_perm n ms).mem_iff.mp ha
      rcases List.mem_cons.mp this with rfl | h'
      · omega
      · exact h.1 a h'
theorem sortI_sorted : ∀ ns, (sortI ns).Pairwise (· ≤ ·)
  | [] => List.Pairwise.nil
  | n :: ns => insI_sorted n _ (sortI_sorted ns)
theorem sorted_one : ∀ {ms ns : List Int}, ms.Perm ns → ms.Pairwise (· ≤ ·) → ns.Pairwise (· ≤ ·) → ms = ns
  | [], ns, p, _, _ => (List.Perm.nil_eq p)
  | m :: ms, [], p, _, _ => absurd p.length_eq (by simp)
  | m :: ms, n :: ns, p, h1, h2 => by
    rw [List.pairwise_cons] at h1 h2
    have e : m = n := by
      have a : m ∈ n :: ns := p.mem_iff.mp List.mem_cons_self
      have b : n ∈ m :: ms := p.mem_iff.mpr List.mem_cons_self
      rcases List.mem_cons.mp a with a | a
      · exact a
      · rcases List.mem_cons.mp b with b | b
        · exact b.symm
        · exact Int.le_antisymm (h1.1 n b) (h2.1 m a)
    subst e
    rw [sorted_one ((List.perm_cons m).mp p) h1.2 h2.2]
def sortedT : List T → Res T
  | [.lst _ ts] => match nums ts with
    | some ns => if ns.length < 64 then .ok (.lst true ((sortI ns).map .int)) else .no
    | none => .no
  | _ => .no
theorem r_sorted : RCR K cn (rSortI K) sortedT := fun E As H Z ts xs A Q zi r w => by
  unfold sortedT at w
  split at w
  · next o ts =>
    split at w
    · next ns h =>
      split at w
      · next hl =>
        obtain ⟨v, rfl, rv⟩ := r.one1
        obtain ⟨q, vs, C, rfl, hs, r', _⟩ := rv.lstSq
        have := nums_ok ts r' h
        subst this
        refine ⟨q, ns, rfl, hs.sq, hl, fun l ms hl hp hs => ?_⟩
        have e : ms = sortI ns := sorted_one (hp.trans (sortI_perm ns).symm) hs (sortI_sorted ns)
        rw [e]
        exact w.newL zi (repI _) l hl
      · exact w.elim
    · exact w.elim
  · exact w.elim
def listT : List T → Res T
  | [.lst _ ts] => if noOwns ts = true then .ok (.lst true ts) else .no
  | [.tup ts] => if noOwns ts = true then .ok (.lst true ts) else .no
  | _ => .no
theorem r_list : RCR K cn (rListO K) listT := fun E As H Z ts xs A Q zi r w => by
  unfold listT at w
  split at w
  · next o ts =>
    split at w
    · next h =>
      obtain ⟨v, rfl, rv⟩ := r.one1
      obtain ⟨q, vs, C, rfl, hs, r', _⟩ := rv.lstSq
      exact ⟨q, vs, rfl, .inl hs.sq, fun l hl => w.newL zi (r'.bareE h) l hl⟩
    · exact w.elim
  · next ts =>
    split at w
    · next h =>
      obtain ⟨v, rfl, rv⟩ := r.one1
      obtain ⟨q, vs, rfl, hs, r'⟩ := rv.tupS
      exact ⟨q, vs, rfl, .inr hs, fun l hl => w.newL zi (r'.bareE h) l hl⟩
    · exact w.elim
  · exact w.elim
def startsT : T → List T → Res T
  | .str z, [.str y] => .ok (.bl (Txt.startswith z y))
  | _, _ => .no
theorem r_starts : RMR K cn "str" rStarts startsT := fun E As H Z t ts x xs A B Q zi rt r w => by
  unfold startsT at w
  split at w
  · next z y =>
    obtain ⟨v, rfl, rv⟩ := r.one1
    rw [rt.str, rv.str]
    exact ⟨z, y, rfl, rfl, w.val zi (rBl _)⟩
  · exact w.elim
def strsT : List T → Option (List Str)
  | [] => some []
  | .str b :: ts => (strsT ts).map (b :: ·)
  | _ :: _ => none
theorem strs_ok : ∀ (ts : List T) {vs : List V} {A : List Addr} {bs : List Str}, Reps K cn H Z ts vs A → strsT ts = some bs → vs = bs.map V.str
  | [], vs, A, bs, r, h => by
    simp only [Reps] at r
    cases h
    exact r.1
  | t :: ts, vs, A, bs, r, h => by
    simp only [Reps] at r
    obtain ⟨v, vs', B, C, rfl, rfl, r1, r2⟩ := r
    cases t with
    | str b =>
      simp only [strsT] at h
      rw [Option.map_eq_some_iff] at h
      obtain ⟨bs', h1, rfl⟩ := h
      rw [strs_ok ts r2 h1, r1.str]
      rfl
    | _ => cases h
theorem strsT_map : ∀ ns : List Str, strsT (ns.map T.str) = some ns
  | [] => rfl
  | n :: ns => by simp [strsT, strsT_map ns]
def joinT : T → List T → Res T
  | .str z, [.lst _ ts] => match strsT ts with
    | some ys => if (ys.map (·.length)).sum + ys.length * z.length ≤ 16777216 then .ok (.str (Txt.join z ys)) else .no
    | none => .no
  | _, _ => .no
theorem r_join : RMR K cn "str" (rJoin K) joinT := fun E As H Z t ts x xs A B Q zi rt r w => by
  unfold joinT at w
  split at w
  · next z o ts =>
    split at w
    · next ys h =>
      split at w
      · next hz =>
        obtain ⟨v, rfl, rv⟩ := r.one1
        obtain ⟨q, vs, C, rfl, hs, r', _⟩ := rv.lstSq
        have := strs_ok ts r' h
        subst this
        rw [rt.str]
        exact ⟨z, q, ys, rfl, rfl, hs.sq, hz, w.val zi (rStr _)⟩
      · exact w.elim
    · exact w.elim
  · exact w.elim
end
end TL

/-! TREES A: how a tree's run is reckoned: loops, comprehensions, texts -/
namespace TL
open PySem PySem.Spec PyProof.Rows L2
theorem bind_ok {α β : Type} (a : α) (f : α → Res β) : (Res.ok a).bind f = f a := rfl
theorem compL_map {b : T → Fr → Option Fr} {c : Fr → Res Bool} {d : Fr → Res T} {ρ : Fr} {f : T → T} : ∀ {ts : List T}, (∀ t ∈ ts, ∃ ρ1, b t ρ = some ρ1 ∧ c ρ1 = .ok true ∧ d ρ1 = .ok (f t)) → compL b c d ρ ts = .ok (ts.map f)
  | [], _ => rfl
  | t :: ts, h => by
    obtain ⟨ρ1, h1, h2, h3⟩ := h t List.mem_cons_self
    simp only [compL, h1, h2, h3, bind_ok, if_true, compL_map (fun u hu => h u (List.mem_cons_of_mem _ hu)), List.map_cons]
theorem compL_filter {b : T → Fr → Option Fr} {c : Fr → Res Bool} {d : Fr → Res T} {ρ : Fr} {p : T → Bool} {f : T → T} : ∀ {ts : List T}, (∀ t ∈ ts, ∃ ρ1, b t ρ = some ρ1 ∧ c ρ1 = .ok (p t) ∧ (p t = true → d ρ1 = .ok (f t))) → compL b c d ρ ts = .ok ((ts.filter p).map f)
  | [], _ => rfl
  | t :: ts, h => by
    obtain ⟨ρ1, h1, h2, h3⟩ := h t List.mem_cons_self
    have ih := compL_filter (b := b) (c := c) (d := d) (ρ := ρ) (p := p) (f := f) (fun u hu => h u (List.mem_cons_of_mem _ hu))
    cases hp : p t with
    | true => simp only [compL, h1, h2, hp, h3 hp, bind_ok, if_true, ih, List.filter_cons, List.map_cons]
    | false => simp only [compL, h1, h2, hp, bind_ok, Bool.false_eq_true, if_false, ih, List.filter_cons]
/-- a loop that goes through, by what holds between its turns -/
theorem forL_inv {b : T → Fr → Option Fr} {body : Fr → Out} (P : Nat → Fr → Prop) : ∀ (ts : List T) (k : Nat) {ρ : Fr}, P k ρ → (∀ i t ρ, ts[i]? = some t → P (k + i) ρ → ∃ ρ1 ρ2, b t ρ = some ρ1 ∧ (body ρ1 = .nx ρ2 ∨ body ρ1 = .ct ρ2) ∧ P (k + i + 1) ρ2) → ∃ ρ', forL b body ts ρ = .nx ρ' ∧ P (k + ts.length) ρ'
  | [], k, ρ, h0, _ => ⟨ρ, rfl, h0⟩
  | t :: ts, k, ρ, h0, hs => by
    obtain ⟨ρ1, ρ2, h1, h2, h3⟩ := hs 0 t ρ rfl h0
    obtain ⟨ρ', h4, h5⟩ := forL_inv (b := b) (body := body) P ts (k + 1) h3 (fun i u ρ e p => by
      have := hs (i + 1) u ρ (by simpa using e) (by rw [show k + (i + 1) = k + 1 + i by omega]; exact p)
      rw [show k + (i + 1) + 1 = k + 1 + i + 1 by omega] at this
      exact this)
    refine ⟨ρ', ?_, by rw [List.length_cons, show k + (ts.length + 1) = k + 1 + ts.length by omega]; exact h5⟩
    rcases h2 with h2 | h2 <;> simp only [forL, h1, h2, h4]
theorem whileN_inv {c : Fr → Res Bool} {body : Fr → Out} (P : Nat → Fr → Prop) (hs : ∀ m ρ, P m ρ → (c ρ = .ok false) ∨ (c ρ = .ok true ∧ ∃ ρ2 m', (body ρ = .nx ρ2 ∨ body ρ = .ct ρ2) ∧ m' < m ∧ P m' ρ2)) : ∀ (n m : Nat) {ρ : Fr}, P m ρ → m < n → ∃ ρ' m', whileN c body n ρ = .nx ρ' ∧ P m' ρ' ∧ c ρ' = .ok false
  | 0, m, ρ, _, hm => by omega
  | n + 1, m, ρ, h0, hm => by
    rcases hs m ρ h0 with h | ⟨h, ρ2, m', h2, hl, hp⟩
    · exact ⟨ρ, m, by simp only [whileN, h, Bool.false_eq_true, if_false], h0, h⟩
    · obtain ⟨ρ', m'', h4, h5, h6⟩ := whileN_inv P hs n m' hp (by omega)
      refine ⟨ρ', m'', ?_, h5, h6⟩
      rcases h2 with h2 | h2 <;> simp only [whileN, h, h2, if_true, h4]
/-- what is wanted behind a turn -/
def Go (P : Fr → Prop) : Out → Prop
  | .nx ρ => P ρ
  | .ct ρ => P ρ
  | _ => False
def GoB (P : Fr → Prop) (body : Fr → Out) : Option Fr → Prop
  | some ρ => Go P (body ρ)
  | none => False
theorem go_nx {P : Fr → Prop} {ρ : Fr} : Go P (.nx ρ) = P ρ := rfl
theorem go_ct {P : Fr → Prop} {ρ : Fr} : Go P (.ct ρ) = P ρ := rfl
theorem goB_some {P : Fr → Prop} {body : Fr → Out} {ρ : Fr} : GoB P body (some ρ) = Go P (body ρ) := rfl
theorem forL_of {b : T → Fr → Option Fr} {body : Fr → Out} {ts : List T} {ρ : Fr} {o : Out} (P : Nat → Fr → Prop) (h : forL b body ts ρ = o) (h0 : P 0 ρ) (hs : ∀ i t ρ, ts[i]? = some t → P i ρ → GoB (P (i + 1)) body (b t ρ)) : ∃ ρ', o = .nx ρ' ∧ P ts.length ρ' := by
  obtain ⟨ρ', h1, h2⟩ := forL_inv (b := b) (body := body) P ts 0 h0 (fun i t ρ e p => by
    have := hs i t ρ e (by rw [Nat.zero_add] at p; exact p)
    rw [Nat.zero_add]
    cases e1 : b t ρ with
    | none => rw [e1] at this; exact this.elim
    | some ρ1 =>
      rw [e1] at this
      have g : Go (P (i + 1)) (body ρ1) := this
      cases e2 : body ρ1 with
      | nx ρ2 => rw [e2] at g; exact ⟨ρ1, ρ2, rfl, .inl e2, g⟩
      | ct ρ2 => rw [e2] at g; exact ⟨ρ1, ρ2, rfl, .inr e2, g⟩
      | _ => rw [e2] at g; exact g.elim)
  rw [Nat.zero_add] at h2
  exact ⟨ρ', by rw [← h, h1], h2⟩
/-- a loop that may be left ahead of its end -/
def Leave (P B : Fr → Prop) (R : T → Prop) : Out → Prop
  | .nx ρ => P ρ
  | .ct ρ => P ρ
  | .bk ρ => B ρ
  | .rt t => R t
  | _ => False
def LeaveB (P B : Fr → Prop) (R : T → Prop) (body : Fr → Out) : Option Fr → Prop
  | some ρ => Leave P B R (body ρ)
  | none => False
theorem forL_leave {b : T → Fr → Option Fr} {body : Fr → Out} (P : Nat → Fr → Prop) (B : Fr → Prop) (R : T → Prop) : ∀ (ts : List T) (k : Nat) {ρ : Fr}, P k ρ → (∀ i t ρ, ts[i]? = some t → P (k + i) ρ → LeaveB (P (k + i + 1)) B R body (b t ρ)) →
    (∃ ρ', forL b body ts ρ = .nx ρ' ∧ (P (k + ts.length) ρ' ∨ B ρ')) ∨ ∃ t, forL b body ts ρ = .rt t ∧ R t
  | [], k, ρ, h0, _ => .inl ⟨ρ, rfl, .inl h0⟩
  | t :: ts, k, ρ, h0, hs => by
    have h1 := hs 0 t ρ rfl h0
    have next : ∀ {ρ2 : Fr}, P (k + 1) ρ2 → (∃ ρ', forL b body ts ρ2 = .nx ρ' ∧ (P (k + (ts.length + 1)) ρ' ∨ B ρ')) ∨ ∃ t, forL b body ts ρ2 = .rt t ∧ R t := by
      intro ρ2 p
      have := forL_leave (b := b) (body := body) P B R ts (k + 1) p (fun i u ρ e p => by
        have := hs (i + 1) u ρ (by simpa using e) (by rw [show k + (i + 1) = k + 1 + i by omega]; exact p)
        rw [show k + (i + 1) + 1 = k + 1 + i + 1 by omega] at this
        exact this)
      rw [show k + 1 + ts.length = k + (ts.length + 1) by omega] at this
      exact this
    rw [List.length_cons]
    simp only [forL]
    cases e1 : b t ρ with
    | none => rw [e1] at h1; exact h1.elim
    | some ρ1 =>
      rw [e1] at h1
      have g : Leave (P (k + 0 + 1)) B R (body ρ1) := h1
      simp only
      cases e2 : body ρ1 with
      | nx ρ2 => rw [e2] at g; exact next g
      | ct ρ2 => rw [e2] at g; exact next g
      | bk ρ2 => rw [e2] at g; exact .inl ⟨ρ2, rfl, .inr g⟩
      | rt t => rw [e2] at g; exact .inr ⟨t, rfl, g⟩
      | _ => rw [e2] at g; exact g.elim
theorem forL_exit {b : T → Fr → Option Fr} {body : Fr → Out} {ts : List T} {ρ : Fr} {o : Out} (P : Nat → Fr → Prop) (B : Fr → Prop) (R : T → Prop) (h : forL b body ts ρ = o) (h0 : P 0 ρ) (hs : ∀ i t ρ, ts[i]? = some t → P i ρ → LeaveB (P (i + 1)) B R body (b t ρ)) :
    (∃ ρ', o = .nx ρ' ∧ (P ts.length ρ' ∨ B ρ')) ∨ ∃ t, o = .rt t ∧ R t := by
  have := forL_leave (b := b) (body := body) P B R ts 0 h0 (fun i t ρ e p => by
    rw [Nat.zero_add] at p ⊢
    exact hs i t ρ e p)
  rw [Nat.zero_add, h] at this
  exact this
def GoW (P : Fr → Prop) (body : Fr → Out) (ρ : Fr) : Res Bool → Prop
  | .ok true => Go P (body ρ)
  | .ok false => True
  | _ => False
theorem whileN_of {c : Fr → Res Bool} {body : Fr → Out} {ρ : Fr} {o : Out} {m : Nat} (P : Nat → Fr → Prop) (h : sWhile c body ρ = o) (h0 : P m ρ) (hm : m < 10 ^ 12) (hs : ∀ m ρ, P m ρ → GoW (fun ρ2 => ∃ m', m' < m ∧ P m' ρ2) body ρ (c ρ)) : ∃ ρ' m', o = .nx ρ' ∧ P m' ρ' ∧ c ρ' = .ok false := by
  obtain ⟨ρ', m', h1, h2, h3⟩ := whileN_inv (c := c) (body := body) P (fun m ρ p => by
    have g := hs m ρ p
    cases e : c ρ with
    | ok k =>
      rw [e] at g
      cases k with
      | false => exact .inl rfl
      | true =>
        have g' : Go (fun ρ2 => ∃ m', m' < m ∧ P m' ρ2) (body ρ) := g
        refine .inr ⟨rfl, ?_⟩
        cases e2 : body ρ with
        | nx ρ2 => rw [e2] at g'; obtain ⟨m', q1, q2⟩ := g'; exact ⟨ρ2, m', .inl rfl, q1, q2⟩
        | ct ρ2 => rw [e2] at g'; obtain ⟨m', q1, q2⟩ := g'; exact ⟨ρ2, m', .inr rfl, q1, q2⟩
        | _ => rw [e2] at g'; exact g'.elim
    | _ => rw [e] at g; exact g.elim) manyTurns m h0 (Nat.lt_of_lt_of_le hm many_le)
  exact ⟨ρ', m', by rw [← h]; exact h1, h2, h3⟩
/-! ### one row an operation -/
theorem add_ii (i j : Int) : addT (.int i) (.int j) = .ok (.int (i + j)) := rfl
theorem add_ss (a b : Str) : addT (.str a) (.str b) = gate (a.length + b.length ≤ sizeLine) (.ok (.str (a ++ b))) := rfl
theorem add_ll (o o' : Bool) (xs ys : List T) : addT (.lst o xs) (.lst o' ys) = gate ((noOwns xs && noOwns ys) = true ∧ xs.length + ys.length ≤ sizeLine) (.ok (.lst true (xs ++ ys))) := rfl
theorem add_tt (xs ys : List T) : addT (.tup xs) (.tup ys) = gate ((noOwns xs && noOwns ys) = true ∧ xs.length + ys.length ≤ sizeLine ∧ xs.isEmpty = false ∧ ys.isEmpty = false) (.ok (.tup (xs ++ ys))) := rfl
theorem sub_ii (i j : Int) : subT (.int i) (.int j) = .ok (.int (i - j)) := rfl
theorem mul_ii (i j : Int) : mulT (.int i) (.int j) = gate (mulOk i j) (.ok (.int (i * j))) := rfl
theorem mul_si (z : Str) (k : Int) : mulT (.str z) (.int k) = gate (-(2 ^ 63) ≤ k ∧ k < 2 ^ 62 ∧ z.length * k.toNat ≤ sizeLine) (.ok (.str (repS z k.toNat))) := rfl
theorem fdiv_ii (i j : Int) : fdivT (.int i) (.int j) = gate (CDiv i j) (.ok (.int (i / j))) := rfl
theorem mod_ii (i j : Int) : modT (.int i) (.int j) = gate (0 < j) (.ok (.int (i % j))) := rfl
theorem pow_ii (i j : Int) : powT (.int i) (.int j) = gate (CPow i j) (.ok (.int (i ^ j.toNat))) := rfl
theorem neg_i (i : Int) : negT (.int i) = .ok (.int (-i)) := rfl
theorem lt_ii (i j : Int) : ltT (.int i) (.int j) = .ok (.bl (decide (i < j))) := rfl
theorem le_ii (i j : Int) : leT (.int i) (.int j) = .ok (.bl (decide (i ≤ j))) := rfl
theorem gt_ii (i j : Int) : gtT (.int i) (.int j) = .ok (.bl (decide (j < i))) := rfl
theorem ge_ii (i j : Int) : geT (.int i) (.int j) = .ok (.bl (decide (j ≤ i))) := rfl
theorem is_bb (a b : Bool) : isT (.bl a) (.bl b) = .ok (.bl (a == b)) := rfl
theorem is_nn : isT .non .non = .ok (.bl true) := rfl
theorem is_in (i : Int) : isT (.int i) .non = .ok (.bl false) := rfl
theorem is_sn (i : Str) : isT (.str i) .non = .ok (.bl false) := rfl
theorem is_ln (o : Bool) (i : List T) : isT (.lst o i) .non = .ok (.bl false) := rfl
theorem is_tn (i : List T) : isT (.tup i) .non = .ok (.bl false) := rfl
theorem isnot_nn : isNotT .non .non = .ok (.bl false) := rfl
theorem isnot_in (i : Int) : isNotT (.int i) .non = .ok (.bl true) := rfl
theorem isnot_sn (i : Str) : isNotT (.str i) .non = .ok (.bl true) := rfl
theorem isnot_ln (o : Bool) (i : List T) : isNotT (.lst o i) .non = .ok (.bl true) := rfl
theorem isnot_tn (i : List T) : isNotT (.tup i) .non = .ok (.bl true) := rfl
theorem eq_ii (i j : Int) : eqT (.int i) (.int j) = .ok (.bl (i == j)) := rfl
theorem eq_ss (i j : Str) : eqT (.str i) (.str j) = .ok (.bl (i == j)) := rfl
theorem eq_bb (i j : Bool) : eqT (.bl i) (.bl j) = .ok (.bl (i == j)) := rfl
theorem ne_ii (i j : Int) : neT (.int i) (.int j) = .ok (.bl (!(i == j))) := rfl
theorem ne_ss (i j : Str) : neT (.str i) (.str j) = .ok (.bl (!(i == j))) := rfl
theorem ne_bb (i j : Bool) : neT (.bl i) (.bl j) = .ok (.bl (!(i == j))) := rfl
theorem in_ss (n : Bool) (i j : Str) : inT n (.str i) (.str j) = .ok (.bl (if n = true then !occ j i else occ j i)) := rfl
theorem ix_li (o : Bool) (ts : List T) (n : Int) : ixT (.lst o ts) (.int n) = match atI ts n with | some t => .ok t | none => .no := rfl
theorem ix_ti (ts : List T) (n : Int) : ixT (.tup ts) (.int n) = match atI ts n with | some t => .ok t | none => .no := rfl
theorem ix_si (z : Str) (n : Int) : ixT (.str z) (.int n) = if z.length ≤ sizeLine then match atI z.cps.toList n with | some c => .ok (.str ⟨#[c]⟩) | none => .no else .no := rfl
theorem sl_l (o : Bool) (ts : List T) (lo hi : Option Int) : slT (.lst o ts) lo hi = if noOwns ts = true then .ok (.lst true (cutT ts lo hi)) else .no := rfl
theorem sl_t (ts : List T) (lo hi : Option Int) : slT (.tup ts) lo hi = if noOwns ts = true ∧ ¬ (HT.sIx ts.length 0 lo = 0 ∧ HT.sIx ts.length ts.length hi = ts.length) then .ok (.tup (cutT ts lo hi)) else .no := rfl
theorem sl_s (z : Str) (lo hi : Option Int) : slT (.str z) lo hi = if z.length ≤ sizeLine then .ok (.str (Txt.slice z lo hi)) else .no := rfl
theorem len_s (z : Str) : lenT [.str z] = if z.length ≤ sizeLine then .ok (.int z.length) else .no := rfl
theorem len_l (o : Bool) (ts : List T) : lenT [.lst o ts] = .ok (.int ts.length) := rfl
theorem len_t (ts : List T) : lenT [.tup ts] = .ok (.int ts.length) := rfl
theorem abs_i (i : Int) : absT [.int i] = .ok (.int (if i < 0 then -i else i)) := rfl
theorem divmod_ii (i j : Int) : divmodT [.int i, .int j] = gate (CDiv i j) (.ok (.tup [.int (i / j), .int (i % j)])) := rfl
theorem isi_i (i : Int) : isiT [.int i, .ty "int"] = .ok (.bl true) := by with_unfolding_all rfl
theorem isi_ib (i : Int) : isiT [.int i, .ty "bool"] = .ok (.bl false) := by with_unfolding_all rfl
theorem isi_b (i : Bool) : isiT [.bl i, .ty "bool"] = .ok (.bl true) := by with_unfolding_all rfl
theorem isi_bi (i : Bool) : isiT [.bl i, .ty "int"] = .ok (.bl true) := by with_unfolding_all rfl
theorem isi_t (i : List T) : isiT [.tup i, .ty "tuple"] = .ok (.bl true) := by with_unfolding_all rfl
theorem isi_l (o : Bool) (i : List T) : isiT [.lst o i, .ty "list"] = .ok (.bl true) := by with_unfolding_all rfl
theorem isi_s (i : Str) : isiT [.str i, .ty "str"] = .ok (.bl true) := by with_unfolding_all rfl
theorem isi_si (i : Str) : isiT [.str i, .ty "int"] = .ok (.bl false) := by with_unfolding_all rfl
theorem all_l (a o : Bool) (bs : List Bool) : allT a [.lst o (bs.map .bl)] = .ok (.bl (if a = true then bs.any id else bs.all id)) := by
  simp only [allT, bools_map]
theorem max_ii (i j : Int) : maxT [.int i, .int j] = .ok (.int (if j > i then j else i)) := rfl
theorem min_ii (i j : Int) : minT [.int i, .int j] = .ok (.int (if j < i then j else i)) := rfl
theorem max_l (o : Bool) (n : Int) (ns : List Int) : maxT [.lst o ((n :: ns).map .int)] = .ok (.int (maxI (n :: ns))) := by
  simp only [maxT, nums_map]
theorem min_l (o : Bool) (n : Int) (ns : List Int) : minT [.lst o ((n :: ns).map .int)] = .ok (.int (minI (n :: ns))) := by
  simp only [minT, nums_map]
theorem sorted_l (o : Bool) (ns : List Int) : sortedT [.lst o (ns.map .int)] = if ns.length < 64 then .ok (.lst true ((sortI ns).map .int)) else .no := by
  simp only [sortedT, nums_map]
theorem list_l (o : Bool) (ts : List T) : listT [.lst o ts] = if noOwns ts = true then .ok (.lst true ts) else .no := rfl
theorem list_t (ts : List T) : listT [.tup ts] = if noOwns ts = true then .ok (.lst true ts) else .no := rfl
theorem starts_ss (z y : Str) : startsT (.str z) [.str y] = .ok (.bl (Txt.startswith z y)) := rfl
theorem join_sl (z : Str) (o : Bool) (ys : List Str) : joinT (.str z) [.lst o (ys.map .str)] = if (ys.map (·.length)).sum + ys.length * z.length ≤ 16777216 then .ok (.str (Txt.join z ys)) else .no := by
  simp only [joinT, strsT_map]
theorem itC_l (o : Bool) (ts : List T) : itC (.lst o ts) = if noOwns ts = true then .ok ts else .no := rfl
theorem itC_t (ts : List T) : itC (.tup ts) = if noOwns ts = true then .ok ts else .no := rfl
theorem itC_s (z : Str) : itC (.str z) = .ok (z.cps.toList.map fun c => T.str ⟨#[c]⟩) := rfl
theorem itF_l (ts : List T) : itF (.lst false ts) = if noOwns ts = true then .ok ts else .no := by simp only [itF, Bool.not_false, Bool.true_and]
theorem itF_t (ts : List T) : itF (.tup ts) = if noOwns ts = true then .ok ts else .no := rfl
theorem itF_s (z : Str) : itF (.str z) = .ok (z.cps.toList.map fun c => T.str ⟨#[c]⟩) := rfl
theorem rng_1 (j : Int) : rng1 [.int j] = gate (-(2 ^ 62) ≤ j ∧ j < 2 ^ 62) (.ok (intsT 0 j.toNat)) := rfl
theorem rng_2 (i j : Int) : rng2 [.int i, .int j] = gate (-(2 ^ 62) ≤ i ∧ i < 2 ^ 62 ∧ -(2 ^ 62) ≤ j ∧ j < 2 ^ 62) (.ok (intsT i (j - i).toNat)) := rfl
theorem tru_b (b : Bool) : truT (.bl b) = .ok b := rfl
theorem tru_i (b : Int) : truT (.int b) = .ok (b != 0) := rfl
theorem tru_n : truT .non = .ok false := rfl
theorem tru_l (o : Bool) (b : List T) : truT (.lst o b) = .ok (!b.isEmpty) := rfl
theorem toB_b (b : Bool) : toB (.bl b) = .ok b := rfl
theorem toI_i (i : Int) : toI (.int i) = .ok (some i) := rfl
theorem rev_l (o : Bool) (ts : List T) : revT (some (-1)) (.lst o ts) = if noOwns ts = true then .ok (.lst true ts.reverse) else .no := by
  simp only [revT, and_true]
theorem compL_name {α : Type} {k : Nat} {d : Fr → Res T} {ρ : Fr} {g f : α → T} : ∀ {l : List α}, (∀ a ∈ l, d (ρ.set k (some (g a))) = .ok (f a)) → compL (bName k) dYes d ρ (l.map g) = .ok (l.map f)
  | [], _ => rfl
  | a :: l, h => by
    simp only [List.map_cons, compL, bName, dYes, bind_ok, if_true, h a List.mem_cons_self, compL_name (fun u hu => h u (List.mem_cons_of_mem _ hu))]
theorem compL_pick {α : Type} {k : Nat} {c : Fr → Res Bool} {d : Fr → Res T} {ρ : Fr} {g f : α → T} {p : α → Bool} : ∀ {l : List α}, (∀ a ∈ l, c (ρ.set k (some (g a))) = .ok (p a) ∧ (p a = true → d (ρ.set k (some (g a))) = .ok (f a))) → compL (bName k) c d ρ (l.map g) = .ok ((l.filter p).map f)
  | [], _ => rfl
  | a :: l, h => by
    obtain ⟨h1, h2⟩ := h a List.mem_cons_self
    have ih := compL_pick (k := k) (c := c) (d := d) (ρ := ρ) (g := g) (f := f) (p := p) (l := l) (fun u hu => h u (List.mem_cons_of_mem _ hu))
    cases hp : p a with
    | true => simp only [List.map_cons, compL, bName, h1, hp, h2 hp, bind_ok, if_true, List.filter_cons, ih]
    | false => simp only [List.map_cons, compL, bName, h1, hp, bind_ok, Bool.false_eq_true, if_false, List.filter_cons, ih]
theorem atI_in {α : Type} {xs : List α} {i : Int} (h0 : 0 ≤ i) (h1 : i < xs.length) : ∃ v ∈ xs, atI xs i = some v := by
  have hk : i.toNat < xs.length := by omega
  refine ⟨xs[i.toNat], List.getElem_mem hk, ?_⟩
  have := atI_nat (xs := xs) (j := i.toNat) (v := xs[i.toNat]) (List.getElem?_eq_getElem hk)
  rwa [show ((i.toNat : Nat) : Int) = i by omega] at this
theorem intsT_get {lo : Int} {n i : Nat} {t : T} (h : (intsT lo n)[i]? = some t) : i < n ∧ t = .int (lo + i) := by
  unfold intsT at h
  rw [List.getElem?_map] at h
  cases q : (List.range n)[i]? with
  | none => rw [q] at h; cases h
  | some j =>
    rw [q] at h
    obtain ⟨h1, h2⟩ := List.getElem?_eq_some_iff.mp q
    simp at h1 h2
    subst h2
    cases h
    exact ⟨h1, rfl⟩
theorem intsT_len (lo : Int) (n : Nat) : (intsT lo n).length = n := by simp [intsT]
theorem noOwns_map {α : Type} {g : α → T} (h : ∀ a, noOwn (g a) = true) : ∀ l : List α, noOwns (l.map g) = true
  | [] => rfl
  | a :: l => by simp only [List.map_cons, noOwns, h a, noOwns_map h l, Bool.and_self]
theorem frzs_map {α : Type} {g : α → T} (h : ∀ a, frz (g a) = g a) : ∀ l : List α, frzs (l.map g) = l.map g
  | [] => rfl
  | a :: l => by simp only [List.map_cons, frzs, h a, frzs_map h l]
theorem cleans_map {α : Type} {g : α → T} (h : ∀ a, clean (g a) = true) : ∀ l : List α, cleans (l.map g) = true
  | [] => rfl
  | a :: l => by simp only [List.map_cons, cleans, h a, cleans_map h l, Bool.and_self]
theorem noOwns_ints (l : List Int) : noOwns (l.map T.int) = true := noOwns_map (fun _ => rfl) l
theorem frzs_ints (l : List Int) : frzs (l.map T.int) = l.map T.int := frzs_map (fun _ => rfl) l
theorem cleans_ints (l : List Int) : cleans (l.map T.int) = true := cleans_map (fun _ => rfl) l
theorem noOwns_strs (l : List Str) : noOwns (l.map T.str) = true := noOwns_map (fun _ => rfl) l
theorem frzs_strs (l : List Str) : frzs (l.map T.str) = l.map T.str := frzs_map (fun _ => rfl) l
theorem cleans_strs (l : List Str) : cleans (l.map T.str) = true := cleans_map (fun _ => rfl) l
/-! ### texts -/
theorem sliceR (p q : Nat) : sliceRange (p : Int) (q : Int) 1 = (List.range (q - p)).map fun k => p + k := by
  unfold sliceRange
  simp only [show (1 : Int) > 0 by decide, if_true]
  have ec : (if (p : Int) < (q : Int) then ((q : Int) - (p : Int) + 1 - 1) / 1 else 0).toNat = q - p := by
    split
    · rw [Int.ediv_one]; omega
    · omega
  rw [ec]
  apply List.map_congr_left
  intro k _
  omega
theorem sliceIdx (lo hi : Option Int) (n : Nat) : Builtin.Str.strSliceIndices lo hi 1 n = (List.range (HT.sIx n n hi - HT.sIx n 0 lo)).map fun k => HT.sIx n 0 lo + k := by
  have c : ∀ (i : Int) (d : Nat), max 0 (min (if i < 0 then i + (n : Int) else i) (n : Int)) = ((HT.sIx n d (some i) : Nat) : Int) := by
    intro i d
    simp only [HT.sIx]
    split <;> omega
  rw [← sliceR]
  unfold Builtin.Str.strSliceIndices
  simp only [show (1 : Int) > 0 by decide, if_true]
  cases lo with
  | none =>
    cases hi with
    | none => rfl
    | some j => simp only [c j n]; rfl
  | some i =>
    cases hi with
    | none => simp only [c i 0]; rfl
    | some j => simp only [c i 0, c j n]
theorem slice_codes (z : Str) (lo hi : Option Int) : (Txt.slice z lo hi).cps.toList = cutT z.cps.toList lo hi := by
  have l1 := HT.sIx_le z.length 0 (Nat.zero_le _) lo
  have l2 := HT.sIx_le z.length z.length (Nat.le_refl _) hi
  have hn : z.cps.toList.length = z.length := Array.length_toList
  unfold Txt.slice cutT
  rw [sliceIdx, hn]
  generalize HT.sIx z.length 0 lo = p at l1 ⊢
  generalize HT.sIx z.length z.length hi = q at l2 ⊢
  split
  · next h =>
    simp only [beq_self_eq_true, Bool.true_and, List.length_map, List.length_range, beq_iff_eq] at h
    have hp : z.length = 0 ∨ p = 0 := by omega
    have : z.cps.toList.take (q - p) = z.cps.toList := List.take_of_length_le (by omega)
    rcases hp with hp | hp
    · have : z.cps.toList = [] := List.eq_nil_of_length_eq_zero (by omega)
      rw [this]
      simp
    · rw [hp, List.drop_zero]
      rw [hp] at this
      exact this.symm
  · rw [List.toList_toArray]
    apply List.ext_getElem?
    intro j
    rw [List.filterMap_map]
    have : ∀ (m : Nat), p + m ≤ z.length → ((List.range m).filterMap ((fun x => z.cps[x]?) ∘ fun k => p + k)) = ((z.cps.toList.drop p).take m) := by
      intro m
      induction m with
      | zero => intro _; simp
      | succ m ih =>
        intro hm
        rw [List.range_succ, List.filterMap_append, ih (by omega), List.take_succ]
        congr 1
        have hlt : p + m < z.cps.toList.length := by omega
        rw [List.getElem?_drop]
        simp only [List.filterMap_cons, Function.comp, List.filterMap_nil]
        rw [← Array.getElem?_toList]
        rw [List.getElem?_eq_getElem hlt]
        rfl
    by_cases hpq : p ≤ q
    · rw [this (q - p) (by omega)]
    · have : q - p = 0 := by omega
      rw [this]
      simp
theorem str_eq {a b : Str} (h : a.cps.toList = b.cps.toList) : a = b := by
  obtain ⟨⟨x⟩⟩ := a
  obtain ⟨⟨y⟩⟩ := b
  simp at h
  rw [h]
theorem str_len (z : Str) : z.length = z.cps.toList.length := Array.length_toList.symm
theorem append_codes (a b : Str) : (a ++ b).cps.toList = a.cps.toList ++ b.cps.toList := by
  show (a.cps ++ b.cps).toList = _
  simp
theorem append_len (a b : Str) : (a ++ b).length = a.length + b.length := by
  rw [str_len, str_len, str_len, append_codes, List.length_append]
theorem rep_len (z : Str) (k : Nat) : (repS z k).length = k * z.length := by
  show ((List.replicate k z.cps.toList).flatten.toArray).size = _
  rw [List.size_toArray, len_rep, Array.length_toList]
  rfl
end TL

/-! how a tree's run is reckoned, as one word: walk_at "ev" -/
local macro_rules | `(tactic| walk_at "ev") => `(tactic| simp only [TL.sSeq, TL.sAsg, TL.sRet, TL.sIf, TL.sDrop, TL.sFor, TL.sNext, TL.sBreak, TL.sCont, TL.dVar, TL.dC, TL.dChk, TL.dBin, TL.dUn, TL.dChain, TL.dAndV, TL.dOrV, TL.dNotV, TL.dIf, TL.dTest, TL.dTru, TL.dNot, TL.dAnd, TL.dOr, TL.dLst, TL.dTup, TL.dCons, TL.dNil, TL.dCB, TL.dDef, TL.dBM, TL.dSl, TL.dPart, TL.dNoPart, TL.dIt, TL.dRng, TL.dComp, TL.dYes, TL.dFrz, TL.dRev, TL.frzAt, TL.kills, TL.bName, TL.bTup, TL.bCons, TL.bNil, TL.fin, TL.ini, TL.bind_ok, TL.pRoot, TL.frz, TL.frzs, TL.noOwn, TL.noOwns, TL.clean, TL.cleans, TL.isStrT, TL.isLstT, TL.noOwns_ints, TL.frzs_ints, TL.cleans_ints, TL.noOwns_strs, TL.frzs_strs, TL.cleans_strs, TL.sApp, TL.sSet, TL.nodeAt, TL.setAt, TL.putAt, TL.GoW, TL.Leave, TL.LeaveB, TL.add_ii, TL.add_ss, TL.add_ll, TL.add_tt, TL.sub_ii, TL.mul_ii, TL.mul_si, TL.fdiv_ii, TL.mod_ii, TL.pow_ii, TL.neg_i, TL.lt_ii, TL.le_ii, TL.gt_ii, TL.ge_ii, TL.is_bb, TL.is_nn, TL.is_in, TL.is_sn, TL.is_ln, TL.is_tn, TL.isnot_nn, TL.isnot_in, TL.isnot_sn, TL.isnot_ln, TL.isnot_tn, TL.eq_ii, TL.eq_ss, TL.eq_bb, TL.ne_ii, TL.ne_ss, TL.ne_bb, TL.in_ss, TL.ix_li, TL.ix_ti, TL.ix_si, TL.sl_l, TL.sl_t, TL.sl_s, TL.len_s, TL.len_l, TL.len_t, TL.abs_i, TL.divmod_ii, TL.isi_i, TL.isi_ib, TL.isi_b, TL.isi_bi, TL.isi_t, TL.isi_l, TL.isi_s, TL.isi_si, TL.all_l, TL.max_ii, TL.min_ii, TL.max_l, TL.min_l, TL.sorted_l, TL.list_l, TL.list_t, TL.starts_ss, TL.join_sl, TL.itC_l, TL.itC_t, TL.itC_s, TL.itF_l, TL.itF_t, TL.itF_s, TL.rng_1, TL.rng_2, TL.tru_b, TL.tru_i, TL.tru_n, TL.tru_l, TL.toB_b, TL.toI_i, TL.rev_l, TL.gate_true, TL.go_nx, TL.go_ct, TL.goB_some,
  List.length_map, Option.map_some, List.map_cons, List.map_nil, List.length_cons, List.length_nil, List.replicate_succ, List.replicate_zero, List.cons_append, List.nil_append, List.set_cons_zero, List.set_cons_succ, List.getElem?_cons_zero, List.getElem?_cons_succ, Nat.reduceAdd, Nat.reduceSub, Bool.not_true, Bool.not_false, Bool.and_true, Bool.true_and, Bool.and_false, Bool.false_and, Bool.or_true, Bool.true_or, Bool.or_false, Bool.false_or, if_true, if_false, Bool.false_eq_true, reduceIte, reduceCtorEq, decide_true, decide_false, and_self, and_true, true_and, Bool.and_self, *])

/-! Nk02: the text of inkyears_k02_inks, as trees (printed by gen2.py) -/
namespace Nk02
open PySem L2 TL
def top (i : Nat) : Stmt := PySem.Challenge.pw_inkyears_k02_inks.main.body.getD i (.Pass ⟨0, 0, 0, 0⟩)
noncomputable def D_is_whole : Fr → Out :=
    (sRet [] (dAndV (dCB isiT (dCons (dVar 0) (dCons (dC (.ty "int")) dNil))) (dNotV (dCB isiT (dCons (dVar 0) (dCons (dC (.ty "bool")) dNil))))))
noncomputable def F_is_whole : List T → Res T := fun ts => fin (D_is_whole (ini 1 ts))
noncomputable def D_is_whole_from : Fr → Out :=
    (sRet [] (dAndV (dDef 1 F_is_whole (dCons (dVar 0) dNil)) (dChain leT leT (dVar 1) (dVar 0) (dVar 2))))
noncomputable def F_is_whole_from : List T → Res T := fun ts => fin (D_is_whole_from (ini 3 ts))
noncomputable def D_is_table : Fr → Out :=
    (sSeq (sIf (dNot (dTest (dChain leT leT (dC (.int 1)) (dCB lenT (dCons (dVar 0) dNil)) (dC (.int 60))))) (sRet [] (dC (.bl false))) sNext)
    (sSeq (sIf (dNot (dTru (dCB (allT false) (dCons (dComp [1] (dIt itC (dVar 0)) (bName 1) dYes (dDef 3 F_is_whole_from (dCons (dVar 1) (dCons (dC (.int 0)) (dCons (dC (.int 1000000)) dNil))))) dNil)))) (sRet [] (dC (.bl false))) sNext)
    (sRet [] (dCB (allT false) (dCons (dComp [2] (dRng rng2 (dCons (dC (.int 1)) (dCons (dCB lenT (dCons (dVar 0) dNil)) dNil))) (bName 2) dYes (dBin leT (dBin ixT (dVar 0) (dVar 2)) (dBin ixT (dVar 0) (dBin subT (dVar 2) (dC (.int 1)))))) dNil)))))
noncomputable def F_is_table : List T → Res T := fun ts => fin (D_is_table (ini 3 ts))
noncomputable def D_darkness_at : Fr → Out :=
    (sSeq (sAsg [] (dBin subT (dCB lenT (dCons (dVar 0) dNil)) (dC (.int 1))) (bName 2))
    (sRet [] (dChk (dBin ixT (dVar 0) (dCB maxT (dCons (dC (.int 0)) (dCons (dCB minT (dCons (dVar 1) (dCons (dVar 2) dNil))) dNil)))))))
noncomputable def F_darkness_at : List T → Res T := fun ts => fin (D_darkness_at (ini 3 ts))
noncomputable def D_ages_of : Fr → Out :=
    (sSeq (sAsg [] (dBin subT (dCB lenT (dCons (dVar 0) dNil)) (dC (.int 1))) (bName 4))
    (sSeq (sAsg [] (dComp [7] (dRng rng1 (dCons (dBin addT (dCB minT (dCons (dVar 4) (dCons (dVar 3) dNil))) (dC (.int 1))) dNil)) (bName 7) (dTest (dBin leT (dCB absT (dCons (dBin subT (dBin ixT (dVar 0) (dVar 7)) (dVar 1)) dNil)) (dVar 2))) (dChk (dVar 7))) (bName 5))
    (sSeq (sIf (dTest (dBin eqT (dCB lenT (dCons (dVar 5) dNil)) (dC (.int 0)))) (sRet [] (dC .non)) sNext)
    (sSeq (sAsg [] (dChk (dBin ixT (dVar 5) (dBin subT (dCB lenT (dCons (dVar 5) dNil)) (dC (.int 1))))) (bName 6))
    (sRet [] (dTup (dCons (dChk (dBin ixT (dVar 5) (dC (.int 0)))) (dCons (dIf (dTest (dBin eqT (dVar 6) (dVar 4))) (dChk (dVar 3)) (dChk (dVar 6))) dNil))))))))
noncomputable def F_ages_of : List T → Res T := fun ts => fin (D_ages_of (ini 8 ts))
noncomputable def D_law_spread : Fr → Out :=
    (sSeq (sAsg [] (dLst dNil) (bName 2))
    (sSeq (sAsg [] (dBin fdivT (dVar 0) (dC (.int 2))) (bName 3))
    (sSeq (sFor (dRng rng1 (dCons (dBin mulT (dVar 1) (dBin subT (dC (.int 1)) (dBin modT (dVar 0) (dC (.int 2))))) dNil)) (bName 4) (sSeq (sAsg [] (dCB divmodT (dCons (dVar 3) (dCons (dBin powT (dC (.int 10)) (dC (.int 9))) dNil))) (bTup (bCons (bName 3) (bCons (bName 5) bNil))))
    (sApp 2 [] pRoot (dChk (dVar 5)))))
    (sSeq (sAsg [] (dBin addT (dBin modT (dVar 3) (dC (.int 998244341))) (dC (.int 5))) (bName 3))
    (sSeq (sWhile (dTest (dBin ltT (dCB lenT (dCons (dVar 2) dNil)) (dVar 1))) (sSeq (sFor (dRng rng1 (dCons (dC (.int 2)) dNil)) (bName 6) (sSeq (sAsg [] (dCB divmodT (dCons (dVar 3) (dCons (dC (.int 4099)) dNil))) (bTup (bCons (bName 7) (bCons (bName 8) bNil))))
    (sAsg [] (dBin modT (dBin addT (dBin addT (dBin addT (dBin mulT (dVar 8) (dC (.int 240007))) (dBin mulT (dVar 7) (dC (.int 89)))) (dBin mulT (dC (.int 1201)) (dCB lenT (dCons (dVar 2) dNil)))) (dC (.int 11))) (dC (.int 998244353))) (bName 3))))
    (sApp 2 [] pRoot (dBin fdivT (dVar 3) (dC (.int 5))))))
    (sRet [2] (dVar 2)))))))
noncomputable def F_law_spread : List T → Res T := fun ts => fin (D_law_spread (ini 9 ts))
noncomputable def D_law_list : Fr → Out :=
    (sSeq (sAsg [] (dDef 2 F_law_spread (dCons (dVar 0) (dCons (dC (.int 7)) dNil))) (bName 1))
    (sSeq (sAsg [] (dChk (dBin ixT (dLst (dCons (dBin powT (dC (.int 10)) (dC (.int 6))) (dCons (dC (.int 100)) (dCons (dBin modT (dBin ixT (dVar 1) (dC (.int 0))) (dBin addT (dBin powT (dC (.int 10)) (dC (.int 6))) (dC (.int 1)))) dNil)))) (dBin modT (dBin ixT (dVar 1) (dC (.int 1))) (dC (.int 3))))) (bName 2))
    (sSeq (sAsg [] (dLst dNil) (bName 3))
    (sSeq (sFor (dIt itF (dFrz (dDef 2 F_law_spread (dCons (dBin fdivT (dVar 0) (dC (.int 5))) (dCons (dBin ixT (dLst (dCons (dBin addT (dC (.int 1)) (dBin modT (dBin ixT (dVar 1) (dC (.int 2))) (dC (.int 61)))) (dCons (dC (.int 60)) (dCons (dC (.int 61)) (dCons (dBin addT (dC (.int 1)) (dBin modT (dBin ixT (dVar 1) (dC (.int 2))) (dC (.int 6)))) dNil))))) (dBin modT (dBin ixT (dVar 1) (dC (.int 3))) (dC (.int 4)))) dNil))))) (bName 4) (sSeq (sApp 3 [] pRoot (dChk (dVar 2)))
    (sAsg [] (dCB maxT (dCons (dC (.int 0)) (dCons (dBin subT (dVar 2) (dBin modT (dVar 4) (dBin ixT (dLst (dCons (dC (.int 2)) (dCons (dC (.int 9)) (dCons (dC (.int 40)) (dCons (dC (.int 30011)) (dCons (dBin addT (dBin powT (dC (.int 10)) (dC (.int 6))) (dC (.int 1))) dNil)))))) (dBin modT (dBin ixT (dVar 1) (dC (.int 4))) (dC (.int 5)))))) dNil))) (bName 2))))
    (sSeq (sIf (dTest (dBin eqT (dBin modT (dBin ixT (dVar 1) (dC (.int 5))) (dC (.int 4))) (dC (.int 3)))) (sSeq (sAsg [] (dBin modT (dBin ixT (dVar 1) (dC (.int 6))) (dCB lenT (dCons (dVar 3) dNil))) (bName 5))
    (sSet 3 [] (dChk (dBin ixT (dLst (dCons (dBin addT (dBin ixT (dVar 3) (dVar 5)) (dC (.int 1))) (dCons (dBin addT (dBin powT (dC (.int 10)) (dC (.int 6))) (dC (.int 1))) (dCons (dUn negT (dC (.int 1))) (dCons (dBin addT (dBin ixT (dVar 3) (dBin subT (dVar 5) (dC (.int 1)))) (dC (.int 1))) dNil))))) (dBin modT (dBin fdivT (dBin ixT (dVar 1) (dC (.int 6))) (dC (.int 61))) (dC (.int 4))))) pRoot (dVar 5))) sNext)
    (sRet [3] (dVar 3)))))))
noncomputable def F_law_list : List T → Res T := fun ts => fin (D_law_list (ini 6 ts))
noncomputable def D_law_good : Fr → Out :=
    (sSeq (sIf (dOr (dTest (dBin ltT (dCB lenT (dCons (dVar 0) dNil)) (dC (.int 1)))) (dOr (dTest (dBin gtT (dCB lenT (dCons (dVar 0) dNil)) (dC (.int 60)))) (dOr (dTest (dBin gtT (dCB maxT (dCons (dVar 0) dNil)) (dBin powT (dC (.int 10)) (dC (.int 6))))) (dTest (dBin ltT (dCB minT (dCons (dVar 0) dNil)) (dC (.int 0))))))) (sRet [] (dC (.bl false))) sNext)
    (sRet [] (dBin eqT (dVar 0) (dRev (dCB sortedT (dCons (dVar 0) dNil)) (dPart (dUn negT (dC (.int 1))))))))
noncomputable def F_law_good : List T → Res T := fun ts => fin (D_law_good (ini 1 ts))
noncomputable def D_law_at : Fr → Out :=
    (sSeq (sAsg [] (dChk (dBin ixT (dVar 0) (dC (.int 0)))) (bName 2))
    (sSeq (sFor (dRng rng1 (dCons (dCB minT (dCons (dBin addT (dVar 1) (dC (.int 1))) (dCons (dCB lenT (dCons (dVar 0) dNil)) dNil))) dNil)) (bName 3) (sAsg [] (dChk (dBin ixT (dVar 0) (dVar 3))) (bName 2)))
    (sRet [] (dChk (dVar 2)))))
noncomputable def F_law_at : List T → Res T := fun ts => fin (D_law_at (ini 4 ts))
noncomputable def D_law_ages : Fr → Out :=
    (sSeq (sAsg [] (dLst dNil) (bName 4))
    (sSeq (sFor (dRng rng1 (dCons (dBin addT (dVar 3) (dC (.int 1))) dNil)) (bName 5) (sIf (dTest (dBin leT (dCB absT (dCons (dBin subT (dBin ixT (dVar 0) (dCB minT (dCons (dVar 5) (dCons (dBin subT (dCB lenT (dCons (dVar 0) dNil)) (dC (.int 1))) dNil)))) (dVar 1)) dNil)) (dVar 2))) (sApp 4 [] pRoot (dChk (dVar 5))) sNext))
    (sSeq (sIf (dTest (dBin eqT (dVar 4) (dLst dNil))) (sRet [] (dC .non)) sNext)
    (sRet [] (dTup (dCons (dChk (dBin ixT (dVar 4) (dC (.int 0)))) (dCons (dChk (dBin ixT (dVar 4) (dUn negT (dC (.int 1))))) dNil)))))))
noncomputable def F_law_ages : List T → Res T := fun ts => fin (D_law_ages (ini 6 ts))
noncomputable def D_law_told : Fr → Out :=
    (sSeq (sIf (dTest (dBin isT (dVar 1) (dC .non))) (sRet [] (dBin isT (dVar 0) (dC .non))) sNext)
    (sRet [] (dAndV (dCB isiT (dCons (dVar 0) (dCons (dC (.ty "tuple")) dNil))) (dAndV (dBin eqT (dVar 0) (dVar 1)) (dNotV (dCB (allT true) (dCons (dComp [2] (dIt itC (dVar 0)) (bName 2) dYes (dCB isiT (dCons (dVar 2) (dCons (dC (.ty "bool")) dNil)))) dNil)))))))
noncomputable def F_law_told : List T → Res T := fun ts => fin (D_law_told (ini 3 ts))
noncomputable def D_law_right : Fr → Out :=
    (sSeq (sAsg [] (dDef 1 F_law_list (dCons (dVar 0) dNil)) (bName 1))
    (sSeq (sAsg [] (dCB listT (dCons (dVar 1) dNil)) (bName 2))
    (sSeq (sAsg [] (dDef 1 F_is_table (dCons (dVar 2) dNil)) (bName 3))
    (sSeq (sIf (dOr (dNot (dTru (dCB isiT (dCons (dVar 3) (dCons (dC (.ty "bool")) dNil))))) (dTest (dBin neT (dVar 3) (dDef 1 F_law_good (dCons (dVar 1) dNil))))) (sRet [] (dC (.bl false))) sNext)
    (sSeq (sIf (dNot (dTru (dVar 3))) (sRet [] (dBin eqT (dVar 2) (dVar 1))) sNext)
    (sSeq (sAsg [] (dDef 2 F_law_spread (dCons (dBin addT (dVar 0) (dC (.int 5))) (dCons (dC (.int 6)) dNil))) (bName 4))
    (sSeq (sFor (dIt itF (dFrz (dLst (dCons (dC (.int 0)) (dCons (dBin subT (dCB lenT (dCons (dVar 1) dNil)) (dC (.int 1))) (dCons (dCB lenT (dCons (dVar 1) dNil)) (dCons (dBin modT (dBin ixT (dVar 4) (dC (.int 0))) (dC (.int 70))) (dCons (dC (.int 300)) dNil)))))))) (bName 5) (sSeq (sAsg [] (dDef 2 F_darkness_at (dCons (dVar 2) (dCons (dVar 5) dNil))) (bName 6))
    (sIf (dOr (dNot (dTru (dCB isiT (dCons (dVar 6) (dCons (dC (.ty "int")) dNil))))) (dOr (dTru (dCB isiT (dCons (dVar 6) (dCons (dC (.ty "bool")) dNil)))) (dTest (dBin neT (dVar 6) (dDef 2 F_law_at (dCons (dVar 1) (dCons (dVar 5) dNil))))))) (sRet [] (dC (.bl false))) sNext)))
    (sSeq (sAsg [] (dBin modT (dBin ixT (dVar 4) (dC (.int 1))) (dBin addT (dBin powT (dC (.int 10)) (dC (.int 6))) (dC (.int 1)))) (bName 6))
    (sSeq (sIf (dTest (dBin eqT (dBin modT (dBin ixT (dVar 4) (dC (.int 2))) (dC (.int 2))) (dC (.int 0)))) (sAsg [] (dCB maxT (dCons (dC (.int 0)) (dCons (dCB minT (dCons (dBin powT (dC (.int 10)) (dC (.int 6))) (dCons (dBin subT (dBin addT (dBin ixT (dVar 1) (dBin modT (dBin ixT (dVar 4) (dC (.int 3))) (dCB lenT (dCons (dVar 1) dNil)))) (dBin modT (dBin ixT (dVar 4) (dC (.int 4))) (dC (.int 5)))) (dC (.int 2))) dNil))) dNil))) (bName 6)) sNext)
    (sSeq (sAsg [] (dChk (dBin ixT (dLst (dCons (dC (.int 0)) (dCons (dC (.int 1)) (dCons (dC (.int 2)) (dCons (dBin modT (dBin ixT (dVar 4) (dC (.int 4))) (dC (.int 50))) (dCons (dBin modT (dBin ixT (dVar 4) (dC (.int 4))) (dBin addT (dBin powT (dC (.int 10)) (dC (.int 6))) (dC (.int 1)))) dNil)))))) (dBin modT (dBin ixT (dVar 4) (dC (.int 5))) (dC (.int 5))))) (bName 7))
    (sSeq (sAsg [] (dChk (dBin ixT (dLst (dCons (dC (.int 0)) (dCons (dC (.int 300)) (dCons (dBin modT (dBin ixT (dVar 4) (dC (.int 0))) (dC (.int 301))) (dCons (dBin subT (dCB lenT (dCons (dVar 1) dNil)) (dC (.int 1))) dNil))))) (dBin modT (dBin fdivT (dBin ixT (dVar 4) (dC (.int 2))) (dC (.int 2))) (dC (.int 4))))) (bName 8))
    (sSeq (sIf (dNot (dTru (dDef 2 F_law_told (dCons (dDef 4 F_ages_of (dCons (dVar 2) (dCons (dVar 6) (dCons (dVar 7) (dCons (dVar 8) dNil))))) (dCons (dDef 4 F_law_ages (dCons (dVar 1) (dCons (dVar 6) (dCons (dVar 7) (dCons (dVar 8) dNil))))) dNil))))) (sRet [] (dC (.bl false))) sNext)
    (sRet [] (dBin eqT (dVar 2) (dVar 1)))))))))))))))
noncomputable def F_law_right : List T → Res T := fun ts => fin (D_law_right (ini 9 ts))
noncomputable def D_law_stirred : Fr → Out :=
    (sSeq (sAsg [] (dC (.int 0)) (bName 2))
    (sSeq (sAsg [] (dBin addT (dBin modT (dBin addT (dBin modT (dVar 0) (dC (.int 998244341))) (dBin mulT (dC (.int 7919)) (dVar 1))) (dC (.int 998244353))) (dC (.int 3))) (bName 3))
    (sSeq (sFor (dRng rng1 (dCons (dC (.int 4)) dNil)) (bName 4) (sSeq (sAsg [] (dCB divmodT (dCons (dVar 3) (dCons (dC (.int 4099)) dNil))) (bTup (bCons (bName 5) (bCons (bName 6) bNil))))
    (sSeq (sAsg [] (dBin modT (dBin addT (dBin addT (dBin addT (dBin mulT (dVar 6) (dC (.int 240007))) (dBin mulT (dVar 5) (dC (.int 89)))) (dBin mulT (dC (.int 1201)) (dVar 4))) (dC (.int 11))) (dC (.int 998244353))) (bName 3))
    (sAsg [] (dBin addT (dBin mulT (dVar 2) (dC (.int 998244353))) (dVar 3)) (bName 2)))))
    (sRet [] (dChk (dVar 2))))))
noncomputable def F_law_stirred : List T → Res T := fun ts => fin (D_law_stirred (ini 7 ts))
noncomputable def D_law_stirred_script : Fr → Out :=
    (sSeq (sAsg [] (dLst dNil) (bName 1))
    (sSeq (sFor (dRng rng1 (dCons (dCB minT (dCons (dCB lenT (dCons (dVar 0) dNil)) (dCons (dC (.int 64)) dNil))) dNil)) (bName 2) (sSeq (sAsg [] (dCB absT (dCons (dBin ixT (dVar 0) (dVar 2)) dNil)) (bName 3))
    (sSeq (sAsg [] (dC (.int 1)) (bName 4))
    (sSeq (sWhile (dTest (dBin leT (dVar 4) (dVar 3))) (sAsg [] (dBin mulT (dVar 4) (dBin powT (dC (.int 10)) (dC (.int 6)))) (bName 4)))
    (sApp 1 [] pRoot (dBin addT (dVar 3) (dBin mulT (dVar 4) (dDef 2 F_law_stirred (dCons (dVar 3) (dCons (dVar 2) dNil))))))))))
    (sRet [1] (dVar 1))))
noncomputable def F_law_stirred_script : List T → Res T := fun ts => fin (D_law_stirred_script (ini 5 ts))
noncomputable def D_law : Fr → Out :=
    (sSeq (sAsg [] (dDef 1 F_law_stirred_script (dCons (dVar 0) dNil)) (bName 0))
    (sSeq (sFor (dIt itF (dFrz (dBin addT (dSl slT (dVar 0) dNoPart (dPart (dC (.int 10)))) (dLst (dCons (dC (.int 7)) dNil))))) (bName 1) (sIf (dNot (dTru (dDef 1 F_law_right (dCons (dCB absT (dCons (dVar 1) dNil)) dNil)))) (sRet [] (dC (.bl false))) sNext))
    (sRet [] (dBin isT (dDef 1 F_is_table (dCons (dLst dNil) dNil)) (dC (.bl false))))))
noncomputable def F_law : List T → Res T := fun ts => fin (D_law (ini 2 ts))
structure Txt (mg : Str → Option Value) : Prop where
  n_abs : mg "abs" = none
  n_all : mg "all" = none
  n_any : mg "any" = none
  n_bool : mg "bool" = none
  n_divmod : mg "divmod" = none
  n_int : mg "int" = none
  n_isinstance : mg "isinstance" = none
  n_len : mg "len" = none
  n_list : mg "list" = none
  n_max : mg "max" = none
  n_min : mg "min" = none
  n_range : mg "range" = none
  n_sorted : mg "sorted" = none
  n_tuple : mg "tuple" = none
  g_DARKEST : GlV mg "DARKEST" (.int 1000000)
  g_MOST_AGES : GlV mg "MOST_AGES" (.int 60)
section
variable {P : Program} {w : World} {K : PySem.W.Frag} {cn : Str → Option Addr} {mg : Str → Option Value} {base : Heap}
abbrev s_is_whole : Stmt := top 1
theorem sc_is_whole : FnScope ["some"] ["some"] (defScope s_is_whole) := ⟨rfl, rfl, rfl, by decide +kernel, rfl, by decide +kernel, by decide +kernel⟩
theorem d_is_whole (F : Top K mg "is_whole" s_is_whole) (T : Txt mg)  : Def P w K mg base 1 "is_whole" ["some"] (spT K cn 1 F_is_whole) := by
  refine def_tree (d := D_is_whole) F sc_is_whole (fun _ _ _ _ _ _ us hl => match us, hl with | [_], _ => rfl) (fun f cdv A outer s H E hr => ⟨_, (pss_one (ps_ret (pe_and (pe_callB (call_isinstanceK K) rfl T.n_isinstance bt_isinstance (pa_cons (pv 0) (pa_cons (pe_ty T.n_int bt_int) pa_nil))) (pe_one (pe_not (pe_callB (call_isinstanceK K) rfl T.n_isinstance bt_isinstance (pa_cons (pv 0) (pa_cons (pe_ty T.n_bool bt_bool) pa_nil)))))))),
    (rs_ret (re_andV (RE.rb (re_cb r_isi (rab_cons (rb_var 0) (rab_cons (RE.rb re_ty) rab_nil)))) (re_notV (RE.rb (re_cb r_isi (rab_cons (rb_var 0) (rab_cons (RE.rb re_ty) rab_nil)))))))⟩) rfl (fun _ => rfl)
abbrev s_is_whole_from : Stmt := top 2
theorem sc_is_whole_from : FnScope ["some", "low", "high"] ["some", "low", "high"] (defScope s_is_whole_from) := ⟨rfl, rfl, rfl, by decide +kernel, rfl, by decide +kernel, by decide +kernel⟩
theorem d_is_whole_from (F : Top K mg "is_whole_from" s_is_whole_from) (T : Txt mg) (d_is_whole : Def P w K mg base 1 "is_whole" ["some"] (spT K cn 1 F_is_whole)) : Def P w K mg base 2 "is_whole_from" ["some", "low", "high"] (spT K cn 3 F_is_whole_from) := by
  refine def_tree (d := D_is_whole_from) F sc_is_whole_from (fun _ _ _ _ _ _ us hl => match us, hl with | [_, _, _], _ => rfl) (fun f cdv A outer s H E hr => ⟨_, (pss_one (ps_ret (pe_and (pe_def d_is_whole (hr.mono (by decide)) (pa_cons (pv 0) pa_nil)) (pe_one (pe_chain op_le op_le (pv 1) (pv 0) (pv 2)))))),
    (rs_ret (re_andV (RE.rb (re_def (rab_cons (rb_var 0) rab_nil))) (re_chain r_le r_le (rb_var 1) (rb_var 0) (rb_var 2))))⟩) rfl (fun _ => rfl)
abbrev s_is_table : Stmt := top 6
theorem sc_is_table : FnScope ["some", "dark", "age"] ["some"] (defScope s_is_table) := ⟨rfl, rfl, rfl, by decide +kernel, rfl, by decide +kernel, by decide +kernel⟩
theorem d_is_table (F : Top K mg "is_table" s_is_table) (T : Txt mg) (d_is_whole_from : Def P w K mg base 2 "is_whole_from" ["some", "low", "high"] (spT K cn 3 F_is_whole_from)) : Def P w K mg base 3 "is_table" ["some"] (spT K cn 1 F_is_table) := by
  refine def_tree (d := D_is_table) F sc_is_table (fun _ _ _ _ _ _ us hl => match us, hl with | [_], _ => rfl) (fun f cdv A outer s H E hr => ⟨_, (pss_cons (ps_if (pt_not (pt_chain op_le op_le pe_int (pe_callB (call_lenK K) rfl T.n_len bt_len (pa_cons (pv 0) pa_nil)) (pe_glb T.g_MOST_AGES))) (pss_one (ps_ret pe_bl)) pss_nil)
      (pss_cons (ps_if (pt_not (pt_truthK K (pe_callB (call_allK K) rfl T.n_all bt_all (pa_cons (pe_comp (ks := [1]) ⟨rfl, by decide +kernel, by decide +kernel, by rfl, by rfl⟩ rfl (pi_V K (pv 0)) (fun _ _ _ _ _ => (pg_name (i := 1) sc_is_table.nd rfl (by first | exact .inl rfl | exact .inr rfl))) (fun _ _ _ _ _ => pif_nil) (fun _ _ _ _ _ => (pe_def d_is_whole_from (hr.mono (by decide)) (pa_cons (pv 1) (pa_cons pe_int (pa_cons (pe_glb T.g_DARKEST) pa_nil)))))) pa_nil)) (fun _ => rfl))) (pss_one (ps_ret pe_bl)) pss_nil)
      (pss_one (ps_ret (pe_callB (call_allK K) rfl T.n_all bt_all (pa_cons (pe_comp (ks := [2]) ⟨rfl, by decide +kernel, by decide +kernel, by rfl, by rfl⟩ rfl (pi_range2 rfl T.n_range (pa_cons pe_int (pa_cons (pe_callB (call_lenK K) rfl T.n_len bt_len (pa_cons (pv 0) pa_nil)) pa_nil))) (fun _ _ _ _ _ => (pg_name (i := 2) sc_is_table.nd rfl (by first | exact .inl rfl | exact .inr rfl))) (fun _ _ _ _ _ => pif_nil) (fun _ _ _ _ _ => (pe_cmpR op_le (pe_ix (ix_K K) (pv 0) (pv 2) (fun _ _ => rfl)) (pe_ix (ix_K K) (pv 0) (pe_op op_sub (pv 2) pe_int) (fun _ _ => rfl)) (nomark _)))) pa_nil)))))),
    (rs_seq (rs_if (rt_not (rt_test (RE.rb (re_chain r_le r_le (RE.rb re_int) (RE.rb (re_cb r_len (rab_cons (rb_var 0) rab_nil))) (RE.rb re_int))))) (rs_ret re_bl) rs_next)
      (rs_seq (rs_if (rt_not (rt_tru (RE.rb (re_cb r_all (rab_cons (RE.rb (re_comp (ri_C (rb_var 0)) (rg_name 1) rt_yes (re_def (rab_cons (rb_var 1) (rab_cons (RE.rb re_int) (rab_cons (RE.rb re_int) rab_nil)))))) rab_nil))))) (rs_ret re_bl) rs_next)
      (rs_ret (re_cb r_all (rab_cons (RE.rb (re_comp (ri_rng2 (rab_cons (RE.rb re_int) (rab_cons (RE.rb (re_cb r_len (rab_cons (rb_var 0) rab_nil))) rab_nil))) (rg_name 2) rt_yes (re_op r_le (rb_ix (rb_var 0) (rb_var 2)) (rb_ix (rb_var 0) (RE.rb (re_op r_sub (rb_var 2) (RE.rb re_int))))))) rab_nil)))))⟩) rfl (fun _ => rfl)
abbrev s_darkness_at : Stmt := top 7
theorem sc_darkness_at : FnScope ["table", "age", "last"] ["table", "age"] (defScope s_darkness_at) := ⟨rfl, rfl, rfl, by decide +kernel, rfl, by decide +kernel, by decide +kernel⟩
theorem d_darkness_at (F : Top K mg "darkness_at" s_darkness_at) (T : Txt mg)  : Def P w K mg base 1 "darkness_at" ["table", "age"] (spT K cn 2 F_darkness_at) := by
  refine def_tree (d := D_darkness_at) F sc_darkness_at (fun _ _ _ _ _ _ us hl => match us, hl with | [_, _], _ => rfl) (fun f cdv A outer s H E hr => ⟨_, (pss_cons (ps_set (i := 2) sc_darkness_at.nd rfl (by first | exact .inl rfl | exact .inr rfl) (pe_op op_sub (pe_callB (call_lenK K) rfl T.n_len bt_len (pa_cons (pv 0) pa_nil)) pe_int))
      (pss_one (ps_ret (pe_ix (ix_K K) (pv 0) (pe_callB (call_maxK K) rfl T.n_max bt_max (pa_cons pe_int (pa_cons (pe_callB (call_minK K) rfl T.n_min bt_min (pa_cons (pv 1) (pa_cons (pv 2) pa_nil))) pa_nil))) (fun _ _ => rfl))))),
    (rs_seq (rs_asg (re_op r_sub (RE.rb (re_cb r_len (rab_cons (rb_var 0) rab_nil))) (RE.rb re_int)) (rg_name 2))
      (rs_ret (RB.chk (rb_ix (rb_var 0) (RE.rb (re_cb r_max (rab_cons (RE.rb re_int) (rab_cons (RE.rb (re_cb r_min (rab_cons (rb_var 1) (rab_cons (rb_var 2) rab_nil)))) rab_nil))))))))⟩) rfl (fun _ => rfl)
abbrev s_ages_of : Stmt := top 8
theorem sc_ages_of : FnScope ["table", "dark", "error", "greatest", "last", "ages", "most", "age"] ["table", "dark", "error", "greatest"] (defScope s_ages_of) := ⟨rfl, rfl, rfl, by decide +kernel, rfl, by decide +kernel, by decide +kernel⟩
theorem d_ages_of (F : Top K mg "ages_of" s_ages_of) (T : Txt mg)  : Def P w K mg base 1 "ages_of" ["table", "dark", "error", "greatest"] (spT K cn 4 F_ages_of) := by
  refine def_tree (d := D_ages_of) F sc_ages_of (fun _ _ _ _ _ _ us hl => match us, hl with | [_, _, _, _], _ => rfl) (fun f cdv A outer s H E hr => ⟨_, (pss_cons (ps_set (i := 4) sc_ages_of.nd rfl (by first | exact .inl rfl | exact .inr rfl) (pe_op op_sub (pe_callB (call_lenK K) rfl T.n_len bt_len (pa_cons (pv 0) pa_nil)) pe_int))
      (pss_cons (ps_setComp (i := 5) sc_ages_of.nd rfl (by first | exact .inl rfl | exact .inr rfl) (ks := [7]) ⟨rfl, by decide +kernel, by decide +kernel, by rfl, by rfl⟩ rfl (pi_range1 rfl T.n_range (pa_cons (pe_op (op_addT K) (pe_callB (call_minK K) rfl T.n_min bt_min (pa_cons (pv 4) (pa_cons (pv 3) pa_nil))) pe_int) pa_nil)) (fun _ _ _ _ _ => (pg_name (i := 7) sc_ages_of.nd rfl (by first | exact .inl rfl | exact .inr rfl))) (fun _ _ _ _ _ => (pif_one (pt_cmpR op_le (pe_callB (call_absK K) rfl T.n_abs bt_abs (pa_cons (pe_op op_sub (pe_ix (ix_K K) (pv 0) (pv 7) (fun _ _ => rfl)) (pv 1)) pa_nil)) (pv 2) (nomark _)))) (fun _ _ _ _ _ => (pv 7)))
      (pss_cons (ps_if (pt_cmpR (op_eqK K (n := eqDeep) hr) (pe_callB (call_lenK K) rfl T.n_len bt_len (pa_cons (pv 5) pa_nil)) pe_int (nomark _)) (pss_one (ps_ret pe_non)) pss_nil)
      (pss_cons (ps_set (i := 6) sc_ages_of.nd rfl (by first | exact .inl rfl | exact .inr rfl) (pe_ix (ix_K K) (pv 5) (pe_op op_sub (pe_callB (call_lenK K) rfl T.n_len bt_len (pa_cons (pv 5) pa_nil)) pe_int) (fun _ _ => rfl)))
      (pss_one (ps_ret (pe_tup (pa_cons (pe_ix (ix_K K) (pv 5) pe_int (fun _ _ => rfl)) (pa_cons (pe_ifExp (pt_cmpR (op_eqK K (n := eqDeep) hr) (pv 6) (pv 4) (nomark _)) (pv 3) (pv 6)) pa_nil))))))))),
    (rs_seq (rs_asg (re_op r_sub (RE.rb (re_cb r_len (rab_cons (rb_var 0) rab_nil))) (RE.rb re_int)) (rg_name 4))
      (rs_seq (rs_setComp (ri_rng1 (rab_cons (RE.rb (re_op r_add (RE.rb (re_cb r_min (rab_cons (rb_var 4) (rab_cons (rb_var 3) rab_nil)))) (RE.rb re_int))) rab_nil)) (rg_name 7) (rt_test (RE.rb (re_op r_le (RE.rb (re_cb r_abs (rab_cons (RE.rb (re_op r_sub (rb_ix (rb_var 0) (rb_var 7)) (rb_var 1))) rab_nil))) (rb_var 2)))) (RB.chk (rb_var 7)))
      (rs_seq (rs_if (rt_test (RE.rb (re_op r_eq (RE.rb (re_cb r_len (rab_cons (rb_var 5) rab_nil))) (RE.rb re_int)))) (rs_ret re_non) rs_next)
      (rs_seq (rs_asg (RB.chk (rb_ix (rb_var 5) (RE.rb (re_op r_sub (RE.rb (re_cb r_len (rab_cons (rb_var 5) rab_nil))) (RE.rb re_int))))) (rg_name 6))
      (rs_ret (re_tup (ra_cons (RB.chk (rb_ix (rb_var 5) (RE.rb re_int))) (ra_cons (re_if (rt_test (RE.rb (re_op r_eq (rb_var 6) (rb_var 4)))) (RB.chk (rb_var 3)) (RB.chk (rb_var 6))) ra_nil))))))))⟩) rfl (fun _ => rfl)
abbrev s_law_spread : Stmt := top 11
theorem sc_law_spread : FnScope ["_law_number", "_law_many", "_law_found", "_law_rest", "_law_k", "_law_digits", "_law_turn", "_law_upper", "_law_lower"] ["_law_number", "_law_many"] (defScope s_law_spread) := ⟨rfl, rfl, rfl, by decide +kernel, rfl, by decide +kernel, by decide +kernel⟩
theorem d_law_spread (F : Top K mg "_law_spread" s_law_spread) (T : Txt mg)  : Def P w K mg base 1 "_law_spread" ["_law_number", "_law_many"] (spT K cn 2 F_law_spread) := by
  refine def_tree (d := D_law_spread) F sc_law_spread (fun _ _ _ _ _ _ us hl => match us, hl with | [_, _], _ => rfl) (fun f cdv A outer s H E hr => ⟨_, (pss_cons (ps_set (i := 2) sc_law_spread.nd rfl (by first | exact .inl rfl | exact .inr rfl) (pe_lst pa_nil))
      (pss_cons (ps_set (i := 3) sc_law_spread.nd rfl (by first | exact .inl rfl | exact .inr rfl) (pe_op op_fdiv (pv 0) pe_int))
      (pss_cons (ps_for PassesOwn.never rfl (pi_range1 rfl T.n_range (pa_cons (pe_op op_mulT (pv 1) (pe_op op_sub pe_int (pe_op op_mod (pv 0) pe_int))) pa_nil)) (pg_name (i := 4) sc_law_spread.nd rfl (by first | exact .inl rfl | exact .inr rfl)) (pss_cons (ps_asg (pe_callB (call_divmodK K) rfl T.n_divmod bt_divmod (pa_cons (pv 3) (pa_cons (pe_op op_pow pe_int pe_int) pa_nil))) (pg_tupK K 2 rfl (pgs_cons (pg_name (i := 3) sc_law_spread.nd rfl (by first | exact .inl rfl | exact .inr rfl)) (pgs_cons (pg_name (i := 5) sc_law_spread.nd rfl (by first | exact .inl rfl | exact .inr rfl)) pgs_nil))))
      (pss_one (ps_expr (pe_bmK K PySem.F.plainAttrs_list PySem.F.slot_list_append PySem.F.type_list_append mt_append (pv 2) (pa_cons (pv 5) pa_nil))))))
      (pss_cons (ps_set (i := 3) sc_law_spread.nd rfl (by first | exact .inl rfl | exact .inr rfl) (pe_op (op_addT K) (pe_op op_mod (pv 3) pe_int) pe_int))
      (pss_cons (ps_while PassesOwn.never (pt_cmpR op_lt (pe_callB (call_lenK K) rfl T.n_len bt_len (pa_cons (pv 2) pa_nil)) (pv 1) (nomark _)) (pss_cons (ps_for PassesOwn.never rfl (pi_range1 rfl T.n_range (pa_cons pe_int pa_nil)) (pg_name (i := 6) sc_law_spread.nd rfl (by first | exact .inl rfl | exact .inr rfl)) (pss_cons (ps_asg (pe_callB (call_divmodK K) rfl T.n_divmod bt_divmod (pa_cons (pv 3) (pa_cons pe_int pa_nil))) (pg_tupK K 2 rfl (pgs_cons (pg_name (i := 7) sc_law_spread.nd rfl (by first | exact .inl rfl | exact .inr rfl)) (pgs_cons (pg_name (i := 8) sc_law_spread.nd rfl (by first | exact .inl rfl | exact .inr rfl)) pgs_nil))))
      (pss_one (ps_set (i := 3) sc_law_spread.nd rfl (by first | exact .inl rfl | exact .inr rfl) (pe_op op_mod (pe_op (op_addT K) (pe_op (op_addT K) (pe_op (op_addT K) (pe_op op_mulT (pv 8) pe_int) (pe_op op_mulT (pv 7) pe_int)) (pe_op op_mulT pe_int (pe_callB (call_lenK K) rfl T.n_len bt_len (pa_cons (pv 2) pa_nil)))) pe_int) pe_int)))))
      (pss_one (ps_expr (pe_bmK K PySem.F.plainAttrs_list PySem.F.slot_list_append PySem.F.type_list_append mt_append (pv 2) (pa_cons (pe_op op_fdiv (pv 3) pe_int) pa_nil))))))
      (pss_one (ps_ret (pv 2)))))))),
    (rs_seq (rs_asg (re_lst ra_nil) (rg_name 2))
      (rs_seq (rs_asg (re_op r_fdiv (rb_var 0) (RE.rb re_int)) (rg_name 3))
      (rs_seq (rs_for (ri_rng1 (rab_cons (RE.rb (re_op r_mul (rb_var 1) (RE.rb (re_op r_sub (RE.rb re_int) (RE.rb (re_op r_mod (rb_var 0) (RE.rb re_int))))))) rab_nil)) (rg_name 4) (rs_seq (rs_asg (re_cb r_divmod (rab_cons (rb_var 3) (rab_cons (RE.rb (re_op r_pow (RE.rb re_int) (RE.rb re_int))) rab_nil))) (rg_tup (rgs_cons (rg_name 3) (rgs_cons (rg_name 5) rgs_nil))))
      (rs_app (j := 2) (rp_var 2) (RB.chk (rb_var 5)))))
      (rs_seq (rs_asg (re_op r_add (RE.rb (re_op r_mod (rb_var 3) (RE.rb re_int))) (RE.rb re_int)) (rg_name 3))
      (rs_seq (rs_while (rt_test (RE.rb (re_op r_lt (RE.rb (re_cb r_len (rab_cons (rb_var 2) rab_nil))) (rb_var 1)))) (rs_seq (rs_for (ri_rng1 (rab_cons (RE.rb re_int) rab_nil)) (rg_name 6) (rs_seq (rs_asg (re_cb r_divmod (rab_cons (rb_var 3) (rab_cons (RE.rb re_int) rab_nil))) (rg_tup (rgs_cons (rg_name 7) (rgs_cons (rg_name 8) rgs_nil))))
      (rs_asg (re_op r_mod (RE.rb (re_op r_add (RE.rb (re_op r_add (RE.rb (re_op r_add (RE.rb (re_op r_mul (rb_var 8) (RE.rb re_int))) (RE.rb (re_op r_mul (rb_var 7) (RE.rb re_int))))) (RE.rb (re_op r_mul (RE.rb re_int) (RE.rb (re_cb r_len (rab_cons (rb_var 2) rab_nil))))))) (RE.rb re_int))) (RE.rb re_int)) (rg_name 3))))
      (rs_app (j := 2) (rp_var 2) (re_op r_fdiv (rb_var 3) (RE.rb re_int)))))
      (rs_ret (re_mv 2)))))))⟩) rfl (fun _ => rfl)
abbrev s_law_list : Stmt := top 12
theorem sc_law_list : FnScope ["_law_number", "_law_xs", "_law_dark", "_law_found", "_law_fall", "_law_at_here"] ["_law_number"] (defScope s_law_list) := ⟨rfl, rfl, rfl, by decide +kernel, rfl, by decide +kernel, by decide +kernel⟩
theorem d_law_list (F : Top K mg "_law_list" s_law_list) (T : Txt mg) (d_law_spread : Def P w K mg base 1 "_law_spread" ["_law_number", "_law_many"] (spT K cn 2 F_law_spread)) : Def P w K mg base 2 "_law_list" ["_law_number"] (spT K cn 1 F_law_list) := by
  refine def_tree (d := D_law_list) F sc_law_list (fun _ _ _ _ _ _ us hl => match us, hl with | [_], _ => rfl) (fun f cdv A outer s H E hr => ⟨_, (pss_cons (ps_set (i := 1) sc_law_list.nd rfl (by first | exact .inl rfl | exact .inr rfl) (pe_def d_law_spread (hr.mono (by decide)) (pa_cons (pv 0) (pa_cons pe_int pa_nil))))
      (pss_cons (ps_set (i := 2) sc_law_list.nd rfl (by first | exact .inl rfl | exact .inr rfl) (pe_ix (ix_K K) (pe_lst (pa_cons (pe_op op_pow pe_int pe_int) (pa_cons pe_int (pa_cons (pe_op op_mod (pe_ix (ix_K K) (pv 1) pe_int (fun _ _ => rfl)) (pe_op (op_addT K) (pe_op op_pow pe_int pe_int) pe_int)) pa_nil)))) (pe_op op_mod (pe_ix (ix_K K) (pv 1) pe_int (fun _ _ => rfl)) pe_int) (fun _ _ => rfl)))
      (pss_cons (ps_set (i := 3) sc_law_list.nd rfl (by first | exact .inl rfl | exact .inr rfl) (pe_lst pa_nil))
      (pss_cons (ps_for PassesOwn.never rfl (pi_V K (pe_def d_law_spread (hr.mono (by decide)) (pa_cons (pe_op op_fdiv (pv 0) pe_int) (pa_cons (pe_ix (ix_K K) (pe_lst (pa_cons (pe_op (op_addT K) pe_int (pe_op op_mod (pe_ix (ix_K K) (pv 1) pe_int (fun _ _ => rfl)) pe_int)) (pa_cons pe_int (pa_cons pe_int (pa_cons (pe_op (op_addT K) pe_int (pe_op op_mod (pe_ix (ix_K K) (pv 1) pe_int (fun _ _ => rfl)) pe_int)) pa_nil))))) (pe_op op_mod (pe_ix (ix_K K) (pv 1) pe_int (fun _ _ => rfl)) pe_int) (fun _ _ => rfl)) pa_nil)))) (pg_name (i := 4) sc_law_list.nd rfl (by first | exact .inl rfl | exact .inr rfl)) (pss_cons (ps_expr (pe_bmK K PySem.F.plainAttrs_list PySem.F.slot_list_append PySem.F.type_list_append mt_append (pv 3) (pa_cons (pv 2) pa_nil)))
      (pss_one (ps_set (i := 2) sc_law_list.nd rfl (by first | exact .inl rfl | exact .inr rfl) (pe_callB (call_maxK K) rfl T.n_max bt_max (pa_cons pe_int (pa_cons (pe_op op_sub (pv 2) (pe_op op_mod (pv 4) (pe_ix (ix_K K) (pe_lst (pa_cons pe_int (pa_cons pe_int (pa_cons pe_int (pa_cons pe_int (pa_cons (pe_op (op_addT K) (pe_op op_pow pe_int pe_int) pe_int) pa_nil)))))) (pe_op op_mod (pe_ix (ix_K K) (pv 1) pe_int (fun _ _ => rfl)) pe_int) (fun _ _ => rfl)))) pa_nil)))))))
      (pss_cons (ps_if (pt_cmpR (op_eqK K (n := eqDeep) hr) (pe_op op_mod (pe_ix (ix_K K) (pv 1) pe_int (fun _ _ => rfl)) pe_int) pe_int (nomark _)) (pss_cons (ps_set (i := 5) sc_law_list.nd rfl (by first | exact .inl rfl | exact .inr rfl) (pe_op op_mod (pe_ix (ix_K K) (pv 1) pe_int (fun _ _ => rfl)) (pe_callB (call_lenK K) rfl T.n_len bt_len (pa_cons (pv 3) pa_nil))))
      (pss_one (ps_asg (pe_ix (ix_K K) (pe_lst (pa_cons (pe_op (op_addT K) (pe_ix (ix_K K) (pv 3) (pv 5) (fun _ _ => rfl)) pe_int) (pa_cons (pe_op (op_addT K) (pe_op op_pow pe_int pe_int) pe_int) (pa_cons (pe_un un_neg pe_int) (pa_cons (pe_op (op_addT K) (pe_ix (ix_K K) (pv 3) (pe_op op_sub (pv 5) pe_int) (fun _ _ => rfl)) pe_int) pa_nil))))) (pe_op op_mod (pe_op op_fdiv (pe_ix (ix_K K) (pv 1) pe_int (fun _ _ => rfl)) pe_int) pe_int) (fun _ _ => rfl)) (pg_sub (pv 3) (pv 5) set_list)))) pss_nil)
      (pss_one (ps_ret (pv 3)))))))),
    (rs_seq (rs_asg (re_def (rab_cons (rb_var 0) (rab_cons (RE.rb re_int) rab_nil))) (rg_name 1))
      (rs_seq (rs_asg (RB.chk (rb_ix (RE.rb (re_lst (ra_cons (re_op r_pow (RE.rb re_int) (RE.rb re_int)) (ra_cons re_int (ra_cons (re_op r_mod (rb_ix (rb_var 1) (RE.rb re_int)) (RE.rb (re_op r_add (RE.rb (re_op r_pow (RE.rb re_int) (RE.rb re_int))) (RE.rb re_int)))) ra_nil))))) (RE.rb (re_op r_mod (rb_ix (rb_var 1) (RE.rb re_int)) (RE.rb re_int))))) (rg_name 2))
      (rs_seq (rs_asg (re_lst ra_nil) (rg_name 3))
      (rs_seq (rs_for (ri_F (RE.rb (RE.frz (re_def (rab_cons (RE.rb (re_op r_fdiv (rb_var 0) (RE.rb re_int))) (rab_cons (rb_ix (RE.rb (re_lst (ra_cons (re_op r_add (RE.rb re_int) (RE.rb (re_op r_mod (rb_ix (rb_var 1) (RE.rb re_int)) (RE.rb re_int)))) (ra_cons re_int (ra_cons re_int (ra_cons (re_op r_add (RE.rb re_int) (RE.rb (re_op r_mod (rb_ix (rb_var 1) (RE.rb re_int)) (RE.rb re_int)))) ra_nil)))))) (RE.rb (re_op r_mod (rb_ix (rb_var 1) (RE.rb re_int)) (RE.rb re_int)))) rab_nil)))))) (rg_name 4) (rs_seq (rs_app (j := 3) (rp_var 3) (RB.chk (rb_var 2)))
      (rs_asg (re_cb r_max (rab_cons (RE.rb re_int) (rab_cons (RE.rb (re_op r_sub (rb_var 2) (RE.rb (re_op r_mod (rb_var 4) (rb_ix (RE.rb (re_lst (ra_cons re_int (ra_cons re_int (ra_cons re_int (ra_cons re_int (ra_cons (re_op r_add (RE.rb (re_op r_pow (RE.rb re_int) (RE.rb re_int))) (RE.rb re_int)) ra_nil))))))) (RE.rb (re_op r_mod (rb_ix (rb_var 1) (RE.rb re_int)) (RE.rb re_int)))))))) rab_nil))) (rg_name 2))))
      (rs_seq (rs_if (rt_test (RE.rb (re_op r_eq (RE.rb (re_op r_mod (rb_ix (rb_var 1) (RE.rb re_int)) (RE.rb re_int))) (RE.rb re_int)))) (rs_seq (rs_asg (re_op r_mod (rb_ix (rb_var 1) (RE.rb re_int)) (RE.rb (re_cb r_len (rab_cons (rb_var 3) rab_nil)))) (rg_name 5))
      (rs_set (j := 3) (RB.chk (rb_ix (RE.rb (re_lst (ra_cons (re_op r_add (rb_ix (rb_var 3) (rb_var 5)) (RE.rb re_int)) (ra_cons (re_op r_add (RE.rb (re_op r_pow (RE.rb re_int) (RE.rb re_int))) (RE.rb re_int)) (ra_cons (re_un r_neg (RE.rb re_int)) (ra_cons (re_op r_add (rb_ix (rb_var 3) (RE.rb (re_op r_sub (rb_var 5) (RE.rb re_int)))) (RE.rb re_int)) ra_nil)))))) (RE.rb (re_op r_mod (RE.rb (re_op r_fdiv (rb_ix (rb_var 1) (RE.rb re_int)) (RE.rb re_int))) (RE.rb re_int))))) (rp_var 3) (rb_var 5))) rs_next)
      (rs_ret (re_mv 3)))))))⟩) rfl (fun _ => rfl)
abbrev s_law_good : Stmt := top 13
theorem sc_law_good : FnScope ["_law_some"] ["_law_some"] (defScope s_law_good) := ⟨rfl, rfl, rfl, by decide +kernel, rfl, by decide +kernel, by decide +kernel⟩
theorem d_law_good (F : Top K mg "_law_good" s_law_good) (T : Txt mg)  : Def P w K mg base 1 "_law_good" ["_law_some"] (spT K cn 1 F_law_good) := by
  refine def_tree (d := D_law_good) F sc_law_good (fun _ _ _ _ _ _ us hl => match us, hl with | [_], _ => rfl) (fun f cdv A outer s H E hr => ⟨_, (pss_cons (ps_if (PW.pt (pw_or (pt_cmpR op_lt (pe_callB (call_lenK K) rfl T.n_len bt_len (pa_cons (pv 0) pa_nil)) pe_int (nomark _)) (pw_or (pt_cmpR op_gt (pe_callB (call_lenK K) rfl T.n_len bt_len (pa_cons (pv 0) pa_nil)) pe_int (nomark _)) (pw_or (pt_cmpR op_gt (pe_callB (call_maxK K) rfl T.n_max bt_max (pa_cons (pv 0) pa_nil)) (pe_op op_pow pe_int pe_int) (nomark _)) (pw_or1 (pt_cmpR op_lt (pe_callB (call_minK K) rfl T.n_min bt_min (pa_cons (pv 0) pa_nil)) pe_int (nomark _))))))) (pss_one (ps_ret pe_bl)) pss_nil)
      (pss_one (ps_ret (pe_cmpR (op_eqK K (n := eqDeep) hr) (pv 0) (pe_revK K (pe_callB (call_sortedK K) rfl T.n_sorted bt_sorted (pa_cons (pv 0) pa_nil)) (po_some (pe_un un_neg pe_int))) (nomark _))))),
    (rs_seq (rs_if (rt_or (rt_test (RE.rb (re_op r_lt (RE.rb (re_cb r_len (rab_cons (rb_var 0) rab_nil))) (RE.rb re_int)))) (rt_or (rt_test (RE.rb (re_op r_gt (RE.rb (re_cb r_len (rab_cons (rb_var 0) rab_nil))) (RE.rb re_int)))) (rt_or (rt_test (RE.rb (re_op r_gt (RE.rb (re_cb r_max (rab_cons (rb_var 0) rab_nil))) (RE.rb (re_op r_pow (RE.rb re_int) (RE.rb re_int)))))) (rt_test (RE.rb (re_op r_lt (RE.rb (re_cb r_min (rab_cons (rb_var 0) rab_nil))) (RE.rb re_int))))))) (rs_ret re_bl) rs_next)
      (rs_ret (re_op r_eq (rb_var 0) (RE.rb (re_rev (RE.rb (re_cb r_sorted (rab_cons (rb_var 0) rab_nil))) (ro_some (RE.rb (re_un r_neg (RE.rb re_int)))))))))⟩) rfl (fun _ => rfl)
abbrev s_law_at : Stmt := top 14
theorem sc_law_at : FnScope ["_law_some", "_law_age", "_law_found", "_law_k"] ["_law_some", "_law_age"] (defScope s_law_at) := ⟨rfl, rfl, rfl, by decide +kernel, rfl, by decide +kernel, by decide +kernel⟩
theorem d_law_at (F : Top K mg "_law_at" s_law_at) (T : Txt mg)  : Def P w K mg base 1 "_law_at" ["_law_some", "_law_age"] (spT K cn 2 F_law_at) := by
  refine def_tree (d := D_law_at) F sc_law_at (fun _ _ _ _ _ _ us hl => match us, hl with | [_, _], _ => rfl) (fun f cdv A outer s H E hr => ⟨_, (pss_cons (ps_set (i := 2) sc_law_at.nd rfl (by first | exact .inl rfl | exact .inr rfl) (pe_ix (ix_K K) (pv 0) pe_int (fun _ _ => rfl)))
      (pss_cons (ps_for PassesOwn.never rfl (pi_range1 rfl T.n_range (pa_cons (pe_callB (call_minK K) rfl T.n_min bt_min (pa_cons (pe_op (op_addT K) (pv 1) pe_int) (pa_cons (pe_callB (call_lenK K) rfl T.n_len bt_len (pa_cons (pv 0) pa_nil)) pa_nil))) pa_nil)) (pg_name (i := 3) sc_law_at.nd rfl (by first | exact .inl rfl | exact .inr rfl)) (pss_one (ps_set (i := 2) sc_law_at.nd rfl (by first | exact .inl rfl | exact .inr rfl) (pe_ix (ix_K K) (pv 0) (pv 3) (fun _ _ => rfl)))))
      (pss_one (ps_ret (pv 2))))),
    (rs_seq (rs_asg (RB.chk (rb_ix (rb_var 0) (RE.rb re_int))) (rg_name 2))
      (rs_seq (rs_for (ri_rng1 (rab_cons (RE.rb (re_cb r_min (rab_cons (RE.rb (re_op r_add (rb_var 1) (RE.rb re_int))) (rab_cons (RE.rb (re_cb r_len (rab_cons (rb_var 0) rab_nil))) rab_nil)))) rab_nil)) (rg_name 3) (rs_asg (RB.chk (rb_ix (rb_var 0) (rb_var 3))) (rg_name 2)))
      (rs_ret (RB.chk (rb_var 2)))))⟩) rfl (fun _ => rfl)
abbrev s_law_ages : Stmt := top 15
theorem sc_law_ages : FnScope ["_law_some", "_law_dark", "_law_error", "_law_greatest", "_law_found", "_law_age"] ["_law_some", "_law_dark", "_law_error", "_law_greatest"] (defScope s_law_ages) := ⟨rfl, rfl, rfl, by decide +kernel, rfl, by decide +kernel, by decide +kernel⟩
theorem d_law_ages (F : Top K mg "_law_ages" s_law_ages) (T : Txt mg)  : Def P w K mg base 1 "_law_ages" ["_law_some", "_law_dark", "_law_error", "_law_greatest"] (spT K cn 4 F_law_ages) := by
  refine def_tree (d := D_law_ages) F sc_law_ages (fun _ _ _ _ _ _ us hl => match us, hl with | [_, _, _, _], _ => rfl) (fun f cdv A outer s H E hr => ⟨_, (pss_cons (ps_set (i := 4) sc_law_ages.nd rfl (by first | exact .inl rfl | exact .inr rfl) (pe_lst pa_nil))
      (pss_cons (ps_for PassesOwn.never rfl (pi_range1 rfl T.n_range (pa_cons (pe_op (op_addT K) (pv 3) pe_int) pa_nil)) (pg_name (i := 5) sc_law_ages.nd rfl (by first | exact .inl rfl | exact .inr rfl)) (pss_one (ps_if (pt_cmpR op_le (pe_callB (call_absK K) rfl T.n_abs bt_abs (pa_cons (pe_op op_sub (pe_ix (ix_K K) (pv 0) (pe_callB (call_minK K) rfl T.n_min bt_min (pa_cons (pv 5) (pa_cons (pe_op op_sub (pe_callB (call_lenK K) rfl T.n_len bt_len (pa_cons (pv 0) pa_nil)) pe_int) pa_nil))) (fun _ _ => rfl)) (pv 1)) pa_nil)) (pv 2) (nomark _)) (pss_one (ps_expr (pe_bmK K PySem.F.plainAttrs_list PySem.F.slot_list_append PySem.F.type_list_append mt_append (pv 4) (pa_cons (pv 5) pa_nil)))) pss_nil)))
      (pss_cons (ps_if (pt_cmpR (op_eqK K (n := eqDeep) hr) (pv 4) (pe_lst pa_nil) (nomark _)) (pss_one (ps_ret pe_non)) pss_nil)
      (pss_one (ps_ret (pe_tup (pa_cons (pe_ix (ix_K K) (pv 4) pe_int (fun _ _ => rfl)) (pa_cons (pe_ix (ix_K K) (pv 4) (pe_un un_neg pe_int) (fun _ _ => rfl)) pa_nil)))))))),
    (rs_seq (rs_asg (re_lst ra_nil) (rg_name 4))
      (rs_seq (rs_for (ri_rng1 (rab_cons (RE.rb (re_op r_add (rb_var 3) (RE.rb re_int))) rab_nil)) (rg_name 5) (rs_if (rt_test (RE.rb (re_op r_le (RE.rb (re_cb r_abs (rab_cons (RE.rb (re_op r_sub (rb_ix (rb_var 0) (RE.rb (re_cb r_min (rab_cons (rb_var 5) (rab_cons (RE.rb (re_op r_sub (RE.rb (re_cb r_len (rab_cons (rb_var 0) rab_nil))) (RE.rb re_int))) rab_nil))))) (rb_var 1))) rab_nil))) (rb_var 2)))) (rs_app (j := 4) (rp_var 4) (RB.chk (rb_var 5))) rs_next))
      (rs_seq (rs_if (rt_test (RE.rb (re_op r_eq (rb_var 4) (RE.rb (re_lst ra_nil))))) (rs_ret re_non) rs_next)
      (rs_ret (re_tup (ra_cons (RB.chk (rb_ix (rb_var 4) (RE.rb re_int))) (ra_cons (RB.chk (rb_ix (rb_var 4) (RE.rb (re_un r_neg (RE.rb re_int))))) ra_nil)))))))⟩) rfl (fun _ => rfl)
abbrev s_law_told : Stmt := top 16
theorem sc_law_told : FnScope ["_law_found", "_law_due", "_law_age"] ["_law_found", "_law_due"] (defScope s_law_told) := ⟨rfl, rfl, rfl, by decide +kernel, rfl, by decide +kernel, by decide +kernel⟩
theorem d_law_told (F : Top K mg "_law_told" s_law_told) (T : Txt mg)  : Def P w K mg base 1 "_law_told" ["_law_found", "_law_due"] (spT K cn 2 F_law_told) := by
  refine def_tree (d := D_law_told) F sc_law_told (fun _ _ _ _ _ _ us hl => match us, hl with | [_, _], _ => rfl) (fun f cdv A outer s H E hr => ⟨_, (pss_cons (ps_if (pt_cmpR op_isU (pv 1) pe_non (nomark _)) (pss_one (ps_ret (pe_cmpR op_isU (pv 0) pe_non (nomark _)))) pss_nil)
      (pss_one (ps_ret (pe_and (pe_callB (call_isinstanceK K) rfl T.n_isinstance bt_isinstance (pa_cons (pv 0) (pa_cons (pe_ty T.n_tuple bt_tuple) pa_nil))) (pe_and (pe_cmpR (op_eqK K (n := eqDeep) hr) (pv 0) (pv 1) (nomark _)) (pe_one (pe_not (pe_callB (call_anyK K) rfl T.n_any bt_any (pa_cons (pe_comp (ks := [2]) ⟨rfl, by decide +kernel, by decide +kernel, by rfl, by rfl⟩ rfl (pi_V K (pv 0)) (fun _ _ _ _ _ => (pg_name (i := 2) sc_law_told.nd rfl (by first | exact .inl rfl | exact .inr rfl))) (fun _ _ _ _ _ => pif_nil) (fun _ _ _ _ _ => (pe_callB (call_isinstanceK K) rfl T.n_isinstance bt_isinstance (pa_cons (pv 2) (pa_cons (pe_ty T.n_bool bt_bool) pa_nil))))) pa_nil))))))))),
    (rs_seq (rs_if (rt_test (RE.rb (re_op r_is (rb_var 1) (RE.rb re_non)))) (rs_ret (re_op r_is (rb_var 0) (RE.rb re_non))) rs_next)
      (rs_ret (re_andV (RE.rb (re_cb r_isi (rab_cons (rb_var 0) (rab_cons (RE.rb re_ty) rab_nil)))) (re_andV (RE.rb (re_op r_eq (rb_var 0) (rb_var 1))) (re_notV (RE.rb (re_cb r_any (rab_cons (RE.rb (re_comp (ri_C (rb_var 0)) (rg_name 2) rt_yes (re_cb r_isi (rab_cons (rb_var 2) (rab_cons (RE.rb re_ty) rab_nil))))) rab_nil))))))))⟩) rfl (fun _ => rfl)
abbrev s_law_right : Stmt := top 17
theorem sc_law_right : FnScope ["_law_number", "_law_some", "_law_handed", "_law_good_here", "_law_xs", "_law_age", "_law_dark", "_law_error", "_law_greatest"] ["_law_number"] (defScope s_law_right) := ⟨rfl, rfl, rfl, by decide +kernel, rfl, by decide +kernel, by decide +kernel⟩
theorem d_law_right (F : Top K mg "_law_right" s_law_right) (T : Txt mg) (d_law_list : Def P w K mg base 2 "_law_list" ["_law_number"] (spT K cn 1 F_law_list)) (d_is_table : Def P w K mg base 3 "is_table" ["some"] (spT K cn 1 F_is_table)) (d_law_good : Def P w K mg base 1 "_law_good" ["_law_some"] (spT K cn 1 F_law_good)) (d_law_spread : Def P w K mg base 1 "_law_spread" ["_law_number", "_law_many"] (spT K cn 2 F_law_spread)) (d_darkness_at : Def P w K mg base 1 "darkness_at" ["table", "age"] (spT K cn 2 F_darkness_at)) (d_law_at : Def P w K mg base 1 "_law_at" ["_law_some", "_law_age"] (spT K cn 2 F_law_at)) (d_law_ages : Def P w K mg base 1 "_law_ages" ["_law_some", "_law_dark", "_law_error", "_law_greatest"] (spT K cn 4 F_law_ages)) (d_ages_of : Def P w K mg base 1 "ages_of" ["table", "dark", "error", "greatest"] (spT K cn 4 F_ages_of)) (d_law_told : Def P w K mg base 1 "_law_told" ["_law_found", "_law_due"] (spT K cn 2 F_law_told)) : Def P w K mg base 4 "_law_right" ["_law_number"] (spT K cn 1 F_law_right) := by
  refine def_tree (d := D_law_right) F sc_law_right (fun _ _ _ _ _ _ us hl => match us, hl with | [_], _ => rfl) (fun f cdv A outer s H E hr => ⟨_, (pss_cons (ps_set (i := 1) sc_law_right.nd rfl (by first | exact .inl rfl | exact .inr rfl) (pe_def d_law_list (hr.mono (by decide)) (pa_cons (pv 0) pa_nil)))
      (pss_cons (ps_set (i := 2) sc_law_right.nd rfl (by first | exact .inl rfl | exact .inr rfl) (pe_callTy (call_listK K) rfl T.n_list bt_list (pa_cons (pv 1) pa_nil)))
      (pss_cons (ps_set (i := 3) sc_law_right.nd rfl (by first | exact .inl rfl | exact .inr rfl) (pe_def d_is_table (hr.mono (by decide)) (pa_cons (pv 2) pa_nil)))
      (pss_cons (ps_if (PW.pt (pw_or (pt_not (pt_truthK K (pe_callB (call_isinstanceK K) rfl T.n_isinstance bt_isinstance (pa_cons (pv 3) (pa_cons (pe_ty T.n_bool bt_bool) pa_nil))) (fun _ => rfl))) (pw_or1 (pt_cmpR op_ne (pv 3) (pe_def d_law_good (hr.mono (by decide)) (pa_cons (pv 1) pa_nil)) (nomark _))))) (pss_one (ps_ret pe_bl)) pss_nil)
      (pss_cons (ps_if (pt_not (pt_truthK K (pv 3) (fun _ => rfl))) (pss_one (ps_ret (pe_cmpR (op_eqK K (n := eqDeep) hr) (pv 2) (pv 1) (nomark _)))) pss_nil)
      (pss_cons (ps_set (i := 4) sc_law_right.nd rfl (by first | exact .inl rfl | exact .inr rfl) (pe_def d_law_spread (hr.mono (by decide)) (pa_cons (pe_op (op_addT K) (pv 0) pe_int) (pa_cons pe_int pa_nil))))
      (pss_cons (ps_for PassesOwn.never rfl (pi_V K (pe_lst (pa_cons pe_int (pa_cons (pe_op op_sub (pe_callB (call_lenK K) rfl T.n_len bt_len (pa_cons (pv 1) pa_nil)) pe_int) (pa_cons (pe_callB (call_lenK K) rfl T.n_len bt_len (pa_cons (pv 1) pa_nil)) (pa_cons (pe_op op_mod (pe_ix (ix_K K) (pv 4) pe_int (fun _ _ => rfl)) pe_int) (pa_cons pe_int pa_nil))))))) (pg_name (i := 5) sc_law_right.nd rfl (by first | exact .inl rfl | exact .inr rfl)) (pss_cons (ps_set (i := 6) sc_law_right.nd rfl (by first | exact .inl rfl | exact .inr rfl) (pe_def d_darkness_at (hr.mono (by decide)) (pa_cons (pv 2) (pa_cons (pv 5) pa_nil))))
      (pss_one (ps_if (PW.pt (pw_or (pt_not (pt_truthK K (pe_callB (call_isinstanceK K) rfl T.n_isinstance bt_isinstance (pa_cons (pv 6) (pa_cons (pe_ty T.n_int bt_int) pa_nil))) (fun _ => rfl))) (pw_or (pt_truthK K (pe_callB (call_isinstanceK K) rfl T.n_isinstance bt_isinstance (pa_cons (pv 6) (pa_cons (pe_ty T.n_bool bt_bool) pa_nil))) (fun _ => rfl)) (pw_or1 (pt_cmpR op_ne (pv 6) (pe_def d_law_at (hr.mono (by decide)) (pa_cons (pv 1) (pa_cons (pv 5) pa_nil))) (nomark _)))))) (pss_one (ps_ret pe_bl)) pss_nil))))
      (pss_cons (ps_set (i := 6) sc_law_right.nd rfl (by first | exact .inl rfl | exact .inr rfl) (pe_op op_mod (pe_ix (ix_K K) (pv 4) pe_int (fun _ _ => rfl)) (pe_op (op_addT K) (pe_op op_pow pe_int pe_int) pe_int)))
      (pss_cons (ps_if (pt_cmpR (op_eqK K (n := eqDeep) hr) (pe_op op_mod (pe_ix (ix_K K) (pv 4) pe_int (fun _ _ => rfl)) pe_int) pe_int (nomark _)) (pss_one (ps_set (i := 6) sc_law_right.nd rfl (by first | exact .inl rfl | exact .inr rfl) (pe_callB (call_maxK K) rfl T.n_max bt_max (pa_cons pe_int (pa_cons (pe_callB (call_minK K) rfl T.n_min bt_min (pa_cons (pe_op op_pow pe_int pe_int) (pa_cons (pe_op op_sub (pe_op (op_addT K) (pe_ix (ix_K K) (pv 1) (pe_op op_mod (pe_ix (ix_K K) (pv 4) pe_int (fun _ _ => rfl)) (pe_callB (call_lenK K) rfl T.n_len bt_len (pa_cons (pv 1) pa_nil))) (fun _ _ => rfl)) (pe_op op_mod (pe_ix (ix_K K) (pv 4) pe_int (fun _ _ => rfl)) pe_int)) pe_int) pa_nil))) pa_nil))))) pss_nil)
      (pss_cons (ps_set (i := 7) sc_law_right.nd rfl (by first | exact .inl rfl | exact .inr rfl) (pe_ix (ix_K K) (pe_lst (pa_cons pe_int (pa_cons pe_int (pa_cons pe_int (pa_cons (pe_op op_mod (pe_ix (ix_K K) (pv 4) pe_int (fun _ _ => rfl)) pe_int) (pa_cons (pe_op op_mod (pe_ix (ix_K K) (pv 4) pe_int (fun _ _ => rfl)) (pe_op (op_addT K) (pe_op op_pow pe_int pe_int) pe_int)) pa_nil)))))) (pe_op op_mod (pe_ix (ix_K K) (pv 4) pe_int (fun _ _ => rfl)) pe_int) (fun _ _ => rfl)))
      (pss_cons (ps_set (i := 8) sc_law_right.nd rfl (by first | exact .inl rfl | exact .inr rfl) (pe_ix (ix_K K) (pe_lst (pa_cons pe_int (pa_cons pe_int (pa_cons (pe_op op_mod (pe_ix (ix_K K) (pv 4) pe_int (fun _ _ => rfl)) pe_int) (pa_cons (pe_op op_sub (pe_callB (call_lenK K) rfl T.n_len bt_len (pa_cons (pv 1) pa_nil)) pe_int) pa_nil))))) (pe_op op_mod (pe_op op_fdiv (pe_ix (ix_K K) (pv 4) pe_int (fun _ _ => rfl)) pe_int) pe_int) (fun _ _ => rfl)))
      (pss_cons (ps_if (pt_not (pt_truthK K (pe_def d_law_told (hr.mono (by decide)) (pa_cons (pe_def d_ages_of (hr.mono (by decide)) (pa_cons (pv 2) (pa_cons (pv 6) (pa_cons (pv 7) (pa_cons (pv 8) pa_nil))))) (pa_cons (pe_def d_law_ages (hr.mono (by decide)) (pa_cons (pv 1) (pa_cons (pv 6) (pa_cons (pv 7) (pa_cons (pv 8) pa_nil))))) pa_nil))) (fun _ => rfl))) (pss_one (ps_ret pe_bl)) pss_nil)
      (pss_one (ps_ret (pe_cmpR (op_eqK K (n := eqDeep) hr) (pv 2) (pv 1) (nomark _)))))))))))))))),
    (rs_seq (rs_asg (re_def (rab_cons (rb_var 0) rab_nil)) (rg_name 1))
      (rs_seq (rs_asg (re_cb r_list (rab_cons (rb_var 1) rab_nil)) (rg_name 2))
      (rs_seq (rs_asg (re_def (rab_cons (rb_var 2) rab_nil)) (rg_name 3))
      (rs_seq (rs_if (rt_or (rt_not (rt_tru (RE.rb (re_cb r_isi (rab_cons (rb_var 3) (rab_cons (RE.rb re_ty) rab_nil)))))) (rt_test (RE.rb (re_op r_ne (rb_var 3) (RE.rb (re_def (rab_cons (rb_var 1) rab_nil))))))) (rs_ret re_bl) rs_next)
      (rs_seq (rs_if (rt_not (rt_tru (rb_var 3))) (rs_ret (re_op r_eq (rb_var 2) (rb_var 1))) rs_next)
      (rs_seq (rs_asg (re_def (rab_cons (RE.rb (re_op r_add (rb_var 0) (RE.rb re_int))) (rab_cons (RE.rb re_int) rab_nil))) (rg_name 4))
      (rs_seq (rs_for (ri_F (RE.rb (RE.frz (re_lst (ra_cons re_int (ra_cons (re_op r_sub (RE.rb (re_cb r_len (rab_cons (rb_var 1) rab_nil))) (RE.rb re_int)) (ra_cons (re_cb r_len (rab_cons (rb_var 1) rab_nil)) (ra_cons (re_op r_mod (rb_ix (rb_var 4) (RE.rb re_int)) (RE.rb re_int)) (ra_cons re_int ra_nil))))))))) (rg_name 5) (rs_seq (rs_asg (re_def (rab_cons (rb_var 2) (rab_cons (rb_var 5) rab_nil))) (rg_name 6))
      (rs_if (rt_or (rt_not (rt_tru (RE.rb (re_cb r_isi (rab_cons (rb_var 6) (rab_cons (RE.rb re_ty) rab_nil)))))) (rt_or (rt_tru (RE.rb (re_cb r_isi (rab_cons (rb_var 6) (rab_cons (RE.rb re_ty) rab_nil))))) (rt_test (RE.rb (re_op r_ne (rb_var 6) (RE.rb (re_def (rab_cons (rb_var 1) (rab_cons (rb_var 5) rab_nil))))))))) (rs_ret re_bl) rs_next)))
      (rs_seq (rs_asg (re_op r_mod (rb_ix (rb_var 4) (RE.rb re_int)) (RE.rb (re_op r_add (RE.rb (re_op r_pow (RE.rb re_int) (RE.rb re_int))) (RE.rb re_int)))) (rg_name 6))
      (rs_seq (rs_if (rt_test (RE.rb (re_op r_eq (RE.rb (re_op r_mod (rb_ix (rb_var 4) (RE.rb re_int)) (RE.rb re_int))) (RE.rb re_int)))) (rs_asg (re_cb r_max (rab_cons (RE.rb re_int) (rab_cons (RE.rb (re_cb r_min (rab_cons (RE.rb (re_op r_pow (RE.rb re_int) (RE.rb re_int))) (rab_cons (RE.rb (re_op r_sub (RE.rb (re_op r_add (rb_ix (rb_var 1) (RE.rb (re_op r_mod (rb_ix (rb_var 4) (RE.rb re_int)) (RE.rb (re_cb r_len (rab_cons (rb_var 1) rab_nil)))))) (RE.rb (re_op r_mod (rb_ix (rb_var 4) (RE.rb re_int)) (RE.rb re_int))))) (RE.rb re_int))) rab_nil)))) rab_nil))) (rg_name 6)) rs_next)
      (rs_seq (rs_asg (RB.chk (rb_ix (RE.rb (re_lst (ra_cons re_int (ra_cons re_int (ra_cons re_int (ra_cons (re_op r_mod (rb_ix (rb_var 4) (RE.rb re_int)) (RE.rb re_int)) (ra_cons (re_op r_mod (rb_ix (rb_var 4) (RE.rb re_int)) (RE.rb (re_op r_add (RE.rb (re_op r_pow (RE.rb re_int) (RE.rb re_int))) (RE.rb re_int)))) ra_nil))))))) (RE.rb (re_op r_mod (rb_ix (rb_var 4) (RE.rb re_int)) (RE.rb re_int))))) (rg_name 7))
      (rs_seq (rs_asg (RB.chk (rb_ix (RE.rb (re_lst (ra_cons re_int (ra_cons re_int (ra_cons (re_op r_mod (rb_ix (rb_var 4) (RE.rb re_int)) (RE.rb re_int)) (ra_cons (re_op r_sub (RE.rb (re_cb r_len (rab_cons (rb_var 1) rab_nil))) (RE.rb re_int)) ra_nil)))))) (RE.rb (re_op r_mod (RE.rb (re_op r_fdiv (rb_ix (rb_var 4) (RE.rb re_int)) (RE.rb re_int))) (RE.rb re_int))))) (rg_name 8))
      (rs_seq (rs_if (rt_not (rt_tru (RE.rb (re_def (rab_cons (RE.rb (re_def (rab_cons (rb_var 2) (rab_cons (rb_var 6) (rab_cons (rb_var 7) (rab_cons (rb_var 8) rab_nil)))))) (rab_cons (RE.rb (re_def (rab_cons (rb_var 1) (rab_cons (rb_var 6) (rab_cons (rb_var 7) (rab_cons (rb_var 8) rab_nil)))))) rab_nil)))))) (rs_ret re_bl) rs_next)
      (rs_ret (re_op r_eq (rb_var 2) (rb_var 1)))))))))))))))⟩) rfl (fun _ => rfl)
abbrev s_law_stirred : Stmt := top 18
theorem sc_law_stirred : FnScope ["_law_cell", "_law_place", "_law_found", "_law_rest", "_law_turn", "_law_upper", "_law_lower"] ["_law_cell", "_law_place"] (defScope s_law_stirred) := ⟨rfl, rfl, rfl, by decide +kernel, rfl, by decide +kernel, by decide +kernel⟩
theorem d_law_stirred (F : Top K mg "_law_stirred" s_law_stirred) (T : Txt mg)  : Def P w K mg base 1 "_law_stirred" ["_law_cell", "_law_place"] (spT K cn 2 F_law_stirred) := by
  refine def_tree (d := D_law_stirred) F sc_law_stirred (fun _ _ _ _ _ _ us hl => match us, hl with | [_, _], _ => rfl) (fun f cdv A outer s H E hr => ⟨_, (pss_cons (ps_set (i := 2) sc_law_stirred.nd rfl (by first | exact .inl rfl | exact .inr rfl) pe_int)
      (pss_cons (ps_set (i := 3) sc_law_stirred.nd rfl (by first | exact .inl rfl | exact .inr rfl) (pe_op (op_addT K) (pe_op op_mod (pe_op (op_addT K) (pe_op op_mod (pv 0) pe_int) (pe_op op_mulT pe_int (pv 1))) pe_int) pe_int))
      (pss_cons (ps_for PassesOwn.never rfl (pi_range1 rfl T.n_range (pa_cons pe_int pa_nil)) (pg_name (i := 4) sc_law_stirred.nd rfl (by first | exact .inl rfl | exact .inr rfl)) (pss_cons (ps_asg (pe_callB (call_divmodK K) rfl T.n_divmod bt_divmod (pa_cons (pv 3) (pa_cons pe_int pa_nil))) (pg_tupK K 2 rfl (pgs_cons (pg_name (i := 5) sc_law_stirred.nd rfl (by first | exact .inl rfl | exact .inr rfl)) (pgs_cons (pg_name (i := 6) sc_law_stirred.nd rfl (by first | exact .inl rfl | exact .inr rfl)) pgs_nil))))
      (pss_cons (ps_set (i := 3) sc_law_stirred.nd rfl (by first | exact .inl rfl | exact .inr rfl) (pe_op op_mod (pe_op (op_addT K) (pe_op (op_addT K) (pe_op (op_addT K) (pe_op op_mulT (pv 6) pe_int) (pe_op op_mulT (pv 5) pe_int)) (pe_op op_mulT pe_int (pv 4))) pe_int) pe_int))
      (pss_one (ps_set (i := 2) sc_law_stirred.nd rfl (by first | exact .inl rfl | exact .inr rfl) (pe_op (op_addT K) (pe_op op_mulT (pv 2) pe_int) (pv 3)))))))
      (pss_one (ps_ret (pv 2)))))),
    (rs_seq (rs_asg re_int (rg_name 2))
      (rs_seq (rs_asg (re_op r_add (RE.rb (re_op r_mod (RE.rb (re_op r_add (RE.rb (re_op r_mod (rb_var 0) (RE.rb re_int))) (RE.rb (re_op r_mul (RE.rb re_int) (rb_var 1))))) (RE.rb re_int))) (RE.rb re_int)) (rg_name 3))
      (rs_seq (rs_for (ri_rng1 (rab_cons (RE.rb re_int) rab_nil)) (rg_name 4) (rs_seq (rs_asg (re_cb r_divmod (rab_cons (rb_var 3) (rab_cons (RE.rb re_int) rab_nil))) (rg_tup (rgs_cons (rg_name 5) (rgs_cons (rg_name 6) rgs_nil))))
      (rs_seq (rs_asg (re_op r_mod (RE.rb (re_op r_add (RE.rb (re_op r_add (RE.rb (re_op r_add (RE.rb (re_op r_mul (rb_var 6) (RE.rb re_int))) (RE.rb (re_op r_mul (rb_var 5) (RE.rb re_int))))) (RE.rb (re_op r_mul (RE.rb re_int) (rb_var 4))))) (RE.rb re_int))) (RE.rb re_int)) (rg_name 3))
      (rs_asg (re_op r_add (RE.rb (re_op r_mul (rb_var 2) (RE.rb re_int))) (rb_var 3)) (rg_name 2)))))
      (rs_ret (RB.chk (rb_var 2))))))⟩) rfl (fun _ => rfl)
abbrev s_law_stirred_script : Stmt := top 19
theorem sc_law_stirred_script : FnScope ["_law_script", "_law_found", "_law_k", "_law_cell", "_law_power"] ["_law_script"] (defScope s_law_stirred_script) := ⟨rfl, rfl, rfl, by decide +kernel, rfl, by decide +kernel, by decide +kernel⟩
theorem d_law_stirred_script (F : Top K mg "_law_stirred_script" s_law_stirred_script) (T : Txt mg) (d_law_stirred : Def P w K mg base 1 "_law_stirred" ["_law_cell", "_law_place"] (spT K cn 2 F_law_stirred)) : Def P w K mg base 2 "_law_stirred_script" ["_law_script"] (spT K cn 1 F_law_stirred_script) := by
  refine def_tree (d := D_law_stirred_script) F sc_law_stirred_script (fun _ _ _ _ _ _ us hl => match us, hl with | [_], _ => rfl) (fun f cdv A outer s H E hr => ⟨_, (pss_cons (ps_set (i := 1) sc_law_stirred_script.nd rfl (by first | exact .inl rfl | exact .inr rfl) (pe_lst pa_nil))
      (pss_cons (ps_for PassesOwn.never rfl (pi_range1 rfl T.n_range (pa_cons (pe_callB (call_minK K) rfl T.n_min bt_min (pa_cons (pe_callB (call_lenK K) rfl T.n_len bt_len (pa_cons (pv 0) pa_nil)) (pa_cons pe_int pa_nil))) pa_nil)) (pg_name (i := 2) sc_law_stirred_script.nd rfl (by first | exact .inl rfl | exact .inr rfl)) (pss_cons (ps_set (i := 3) sc_law_stirred_script.nd rfl (by first | exact .inl rfl | exact .inr rfl) (pe_callB (call_absK K) rfl T.n_abs bt_abs (pa_cons (pe_ix (ix_K K) (pv 0) (pv 2) (fun _ _ => rfl)) pa_nil)))
      (pss_cons (ps_set (i := 4) sc_law_stirred_script.nd rfl (by first | exact .inl rfl | exact .inr rfl) pe_int)
      (pss_cons (ps_while PassesOwn.never (pt_cmpR op_le (pv 4) (pv 3) (nomark _)) (pss_one (ps_set (i := 4) sc_law_stirred_script.nd rfl (by first | exact .inl rfl | exact .inr rfl) (pe_op op_mulT (pv 4) (pe_op op_pow pe_int pe_int)))))
      (pss_one (ps_expr (pe_bmK K PySem.F.plainAttrs_list PySem.F.slot_list_append PySem.F.type_list_append mt_append (pv 1) (pa_cons (pe_op (op_addT K) (pv 3) (pe_op op_mulT (pv 4) (pe_def d_law_stirred (hr.mono (by decide)) (pa_cons (pv 3) (pa_cons (pv 2) pa_nil))))) pa_nil))))))))
      (pss_one (ps_ret (pv 1))))),
    (rs_seq (rs_asg (re_lst ra_nil) (rg_name 1))
      (rs_seq (rs_for (ri_rng1 (rab_cons (RE.rb (re_cb r_min (rab_cons (RE.rb (re_cb r_len (rab_cons (rb_var 0) rab_nil))) (rab_cons (RE.rb re_int) rab_nil)))) rab_nil)) (rg_name 2) (rs_seq (rs_asg (re_cb r_abs (rab_cons (rb_ix (rb_var 0) (rb_var 2)) rab_nil)) (rg_name 3))
      (rs_seq (rs_asg re_int (rg_name 4))
      (rs_seq (rs_while (rt_test (RE.rb (re_op r_le (rb_var 4) (rb_var 3)))) (rs_asg (re_op r_mul (rb_var 4) (RE.rb (re_op r_pow (RE.rb re_int) (RE.rb re_int)))) (rg_name 4)))
      (rs_app (j := 1) (rp_var 1) (re_op r_add (rb_var 3) (RE.rb (re_op r_mul (rb_var 4) (RE.rb (re_def (rab_cons (rb_var 3) (rab_cons (rb_var 2) rab_nil))))))))))))
      (rs_ret (re_mv 1))))⟩) rfl (fun _ => rfl)
abbrev s_law : Stmt := top 20
theorem sc_law : FnScope ["_law_script", "_law_cell"] ["_law_script"] (defScope s_law) := ⟨rfl, rfl, rfl, by decide +kernel, rfl, by decide +kernel, by decide +kernel⟩
theorem ok_law {f : Addr} {fd : FuncData} (F : Fun K "law" "law" s_law f fd) (T : Txt mg) (d_law_stirred_script : Def P w K mg base 2 "_law_stirred_script" ["_law_script"] (spT K cn 1 F_law_stirred_script)) (d_law_right : Def P w K mg base 4 "_law_right" ["_law_number"] (spT K cn 1 F_law_right)) (d_is_table : Def P w K mg base 3 "is_table" ["some"] (spT K cn 1 F_is_table)) : FnOk P w K mg base CX0 5 f fd ["_law_script"] (spT K cn 1 F_law) := by
  refine fn_tree (d := D_law) F sc_law (fun cdv A outer s H E hr => ⟨_, (pss_cons (ps_set (i := 0) sc_law.nd rfl (by first | exact .inl rfl | exact .inr rfl) (pe_def d_law_stirred_script (hr.mono (by decide)) (pa_cons (pv 0) pa_nil)))
      (pss_cons (ps_for PassesOwn.never rfl (pi_V K (pe_op (op_addT K) (pe_slice (sl_K K) (pv 0) po_none (po_some pe_int)) (pe_lst (pa_cons pe_int pa_nil)))) (pg_name (i := 1) sc_law.nd rfl (by first | exact .inl rfl | exact .inr rfl)) (pss_one (ps_if (pt_not (pt_truthK K (pe_def d_law_right (hr.mono (by decide)) (pa_cons (pe_callB (call_absK K) rfl T.n_abs bt_abs (pa_cons (pv 1) pa_nil)) pa_nil)) (fun _ => rfl))) (pss_one (ps_ret pe_bl)) pss_nil)))
      (pss_one (ps_ret (pe_cmpR op_isU (pe_def d_is_table (hr.mono (by decide)) (pa_cons (pe_lst pa_nil) pa_nil)) pe_bl (nomark _)))))),
    (rs_seq (rs_asg (re_def (rab_cons (rb_var 0) rab_nil)) (rg_name 0))
      (rs_seq (rs_for (ri_F (RE.rb (RE.frz (re_op r_add (RE.rb (re_sl r_sl (rb_var 0) ro_none (ro_some (RE.rb re_int)))) (RE.rb (re_lst (ra_cons re_int ra_nil))))))) (rg_name 1) (rs_if (rt_not (rt_tru (RE.rb (re_def (rab_cons (RE.rb (re_cb r_abs (rab_cons (rb_var 1) rab_nil))) rab_nil))))) (rs_ret re_bl) rs_next))
      (rs_ret (re_op r_is (RE.rb (re_def (rab_cons (RE.rb (re_lst ra_nil)) rab_nil))) (RE.rb re_bl)))))⟩) rfl (fun _ => rfl)
end
theorem all_mk {l : PySem.W.OpenLaw} {w : World} {K : PySem.W.Frag} {h : Heap} {mg : Str → Option Value} {fa f0 : Addr} (X : K.In h) (G : h.Ns mainGlobals mg) (hfa : mg "law" = some (.ref fa))
    {od0 an0 : Option Addr} {sl0 : Array (Option Value)} {oc0 kV0 dc0 pm0 cd0 ct0 : Value}
    (a0 : PySem.W.nsIn K mainGlobals "law" = some (some (.ref f0))) (l0 : K.lookup f0 = some ⟨oc0, od0, .func (PySem.W.fnOf "law" "law" (defArgs s_law) (defBody s_law) (defScope s_law) .none kV0 dc0 pm0 an0 cd0 ct0), sl0⟩) (c0 : PySem.W.codeIn K cd0 "law" = true) (k0 : PySem.W.keepIn K (.ref f0) = true)
    (T : Txt mg) (t_is_whole : Top K mg "is_whole" s_is_whole) (t_is_whole_from : Top K mg "is_whole_from" s_is_whole_from) (t_is_table : Top K mg "is_table" s_is_table) (t_darkness_at : Top K mg "darkness_at" s_darkness_at) (t_ages_of : Top K mg "ages_of" s_ages_of) (t_law_spread : Top K mg "_law_spread" s_law_spread) (t_law_list : Top K mg "_law_list" s_law_list) (t_law_good : Top K mg "_law_good" s_law_good) (t_law_at : Top K mg "_law_at" s_law_at) (t_law_ages : Top K mg "_law_ages" s_law_ages) (t_law_told : Top K mg "_law_told" s_law_told) (t_law_right : Top K mg "_law_right" s_law_right) (t_law_stirred : Top K mg "_law_stirred" s_law_stirred) (t_law_stirred_script : Top K mg "_law_stirred_script" s_law_stirred_script)
    (main : ∀ ns : List Int, ns.length ≤ 63 → (∀ n ∈ ns, Builtin.Int.intBits n ≤ 1048576) → F_law [.lst false (ns.map .int)] = .ok (.bl true)) :
    ∃ fd : FuncData, (∀ (s : Shared) (v : Value), BindsTo s fd ⟨[v], []⟩ [("_law_script", v)]) ∧ ∀ base : Heap, K.In base → base.Ns mainGlobals mg → FnOk l.prog w K mg base CX0 5 fa fd ["_law_script"] (spLaw K) := by
  have e := hfa.symm.trans (PySem.W.mg_of X G a0)
  cases e
  have F0 := fun_mk (st := s_law) l0 c0 k0
  have key : ∀ base : Heap, FnOk l.prog w K mg base CX0 5 fa (PySem.W.fnOf "law" "law" (defArgs s_law) (defBody s_law) (defScope s_law) .none kV0 dc0 pm0 an0 cd0 ct0) ["_law_script"] (spLaw K) := by
    intro base
    let cn : Str → Option Addr := fun _ => none
    have x_is_whole := d_is_whole (P := l.prog) (w := w) (base := base) (cn := cn) t_is_whole T 
    have x_is_whole_from := d_is_whole_from (P := l.prog) (w := w) (base := base) (cn := cn) t_is_whole_from T x_is_whole
    have x_is_table := d_is_table (P := l.prog) (w := w) (base := base) (cn := cn) t_is_table T x_is_whole_from
    have x_darkness_at := d_darkness_at (P := l.prog) (w := w) (base := base) (cn := cn) t_darkness_at T 
    have x_ages_of := d_ages_of (P := l.prog) (w := w) (base := base) (cn := cn) t_ages_of T 
    have x_law_spread := d_law_spread (P := l.prog) (w := w) (base := base) (cn := cn) t_law_spread T 
    have x_law_list := d_law_list (P := l.prog) (w := w) (base := base) (cn := cn) t_law_list T x_law_spread
    have x_law_good := d_law_good (P := l.prog) (w := w) (base := base) (cn := cn) t_law_good T 
    have x_law_at := d_law_at (P := l.prog) (w := w) (base := base) (cn := cn) t_law_at T 
    have x_law_ages := d_law_ages (P := l.prog) (w := w) (base := base) (cn := cn) t_law_ages T 
    have x_law_told := d_law_told (P := l.prog) (w := w) (base := base) (cn := cn) t_law_told T 
    have x_law_right := d_law_right (P := l.prog) (w := w) (base := base) (cn := cn) t_law_right T x_law_list x_is_table x_law_good x_law_spread x_darkness_at x_law_at x_law_ages x_ages_of x_law_told
    have x_law_stirred := d_law_stirred (P := l.prog) (w := w) (base := base) (cn := cn) t_law_stirred T 
    have x_law_stirred_script := d_law_stirred_script (P := l.prog) (w := w) (base := base) (cn := cn) t_law_stirred_script T x_law_stirred
    exact law_fn (ok_law F0 T x_law_stirred_script x_law_right x_is_table) main
  exact ⟨_, fun s v => .of_eq rfl, fun base _ _ => key base⟩
end Nk02

namespace Nk02
open PySem L2 TL
theorem pow30 (i : Nat) : (2 : Int) ^ (30 * (i + 1)) = 2 ^ (30 * i) * 1073741824 := by
  rw [Nat.mul_add, Int.pow_add]
  rfl
theorem mulOkL {i j : Int} (h1 : -(2 ^ 64) < i) (h2 : i < 2 ^ 64) : mulOk i j := .inl ⟨h1, h2⟩
theorem mulOkR {i j : Int} (h1 : -(2 ^ 64) < j) (h2 : j < 2 ^ 64) : mulOk i j := .inr (.inl ⟨h1, h2⟩)
theorem e_law_stirred (c p : Int) (h0 : 0 ≤ p) (h1 : p ≤ 1000) : ∃ z, F_law_stirred [.int c, .int p] = .ok (.int z) ∧ 0 ≤ z ∧ z < 2 ^ 120 := by
  unfold F_law_stirred D_law_stirred
  have k1 : (0 : Int) < 998244341 := by decide
  have k2 : (0 : Int) < 998244353 := by decide
  have k3 : mulOk 7919 p := mulOkL (by decide) (by decide)
  have k4 : -(2 ^ 62) ≤ (4 : Int) ∧ (4 : Int) < 2 ^ 62 := by decide
  walk_at "ev"
  generalize hL : forL _ _ _ _ = o
  obtain ⟨ρ', rfl, z, r, o4, o5, o6, rfl, hz0, hz1⟩ := forL_of (fun i ρ => ∃ (z r : Int) (o4 o5 o6 : Option T), ρ = [some (.int c), some (.int p), some (.int z), some (.int r), o4, o5, o6] ∧ 0 ≤ z ∧ z < 2 ^ (30 * i)) hL ⟨_, _, _, _, _, rfl, by decide, by decide⟩ (by
    rintro i t ρ et ⟨z, r, o4, o5, o6, rfl, hz0, hz1⟩
    obtain ⟨hi, rfl⟩ := intsT_get et
    have hi' : i < 4 := hi
    have q1 : CDiv r 4099 := ⟨by decide, by decide⟩
    have q2 : mulOk (r % 4099) 240007 := mulOkR (by decide) (by decide)
    have q3 : mulOk (r / 4099) 89 := mulOkR (by decide) (by decide)
    have q4 : mulOk 1201 (0 + (i : Int)) := mulOkL (by decide) (by decide)
    have q5 : mulOk z 998244353 := mulOkR (by decide) (by decide)
    walk_at "ev"
    refine ⟨_, _, _, _, _, rfl, ?_, ?_⟩
    · have h1 := Int.emod_nonneg (r % 4099 * 240007 + r / 4099 * 89 + 1201 * (0 + (i : Int)) + 11) (show (998244353 : Int) ≠ 0 by decide)
      omega
    · have h2 := Int.emod_lt_of_pos (r % 4099 * 240007 + r / 4099 * 89 + 1201 * (0 + (i : Int)) + 11) (show (0 : Int) < 998244353 by decide)
      rw [pow30]
      omega)
  refine ⟨z, by walk_at "ev", hz0, ?_⟩
  rw [intsT_len] at hz1
  exact hz1
theorem lt_line {n : Nat} (h : n ≤ 100000) : n < sizeLine := Nat.lt_of_le_of_lt h (by decide)
theorem le_line {n : Nat} (h : n ≤ 100000) : n ≤ sizeLine := Nat.le_trans h (by decide)
theorem e_law_stirred_script (ns : List Int) (h63 : ns.length ≤ 63) (hb : ∀ n ∈ ns, Builtin.Int.intBits n ≤ 1048576) : ∃ ms : List Int, F_law_stirred_script [.lst false (ns.map .int)] = .ok (.lst true (ms.map .int)) ∧ ms.length = ns.length ∧ ∀ x ∈ ms, 0 ≤ x := by
  unfold F_law_stirred_script D_law_stirred_script
  have k0 : (0 : Nat) ≤ sizeLine := Nat.zero_le _
  have k1 : ¬ (64 : Int) < (ns.length : Int) := by omega
  have k2 : -(2 ^ 62) ≤ (ns.length : Int) ∧ (ns.length : Int) < 2 ^ 62 := by omega
  walk_at "ev"
  generalize hL : forL _ _ _ _ = o
  obtain ⟨ρ', rfl, ms, o2, o3, o4, rfl, hl, hm⟩ := forL_of (fun i ρ => ∃ (ms : List Int) (o2 o3 o4 : Option T), ρ = [some (.lst false (ns.map .int)), some (.lst true (ms.map .int)), o2, o3, o4] ∧ ms.length = i ∧ ∀ x ∈ ms, 0 ≤ x) hL ⟨[], _, _, _, rfl, rfl, nomem⟩ (by
    rintro i t ρ et ⟨ms, o2, o3, o4, rfl, hl, hm⟩
    obtain ⟨hi, rfl⟩ := intsT_get et
    rw [Int.toNat_natCast] at hi
    have hat : atI (ns.map T.int) (0 + (i : Int)) = some (.int ns[i]) := by
      rw [Int.zero_add]
      exact atI_nat (by rw [List.getElem?_map, List.getElem?_eq_getElem hi]; rfl)
    have hbi := hb ns[i] (List.getElem_mem hi)
    generalize ns[i] = c at hat hbi
    obtain ⟨c', ec⟩ : ∃ c', (if c < 0 then -c else c) = c' := ⟨_, rfl⟩
    have hc0 : 0 ≤ c' := by split at ec <;> omega
    obtain ⟨nb, hnb1, hnb2⟩ : ∃ nb : Nat, nb ≤ 1048576 ∧ 1048576 ≤ nb := ⟨1048576, Nat.le_refl _, Nat.le_refl _⟩
    have hcb : c'.natAbs < 2 ^ nb := by
      have : c'.natAbs = c.natAbs := by split at ec <;> omega
      rw [this]
      exact bits_lt (Nat.le_trans hbi hnb2)
    obtain ⟨z, hz, hz0, hz1⟩ := e_law_stirred c' (0 + (i : Int)) (by omega) (by omega)
    have hml : i < sizeLine := lt_line (by omega)
    walk_at "ev"
    generalize hW : sWhile _ _ _ = o
    obtain ⟨ρ', m', rfl, ⟨q, j, hq1, hj, hjm, hqb, rfl⟩, _⟩ := whileN_of (m := nb + 1) (fun m ρ => ∃ (q : Int) (j : Nat), 1 ≤ q ∧ 2 ^ j ≤ q.natAbs ∧ j + m = nb + 1 ∧ q.natAbs < 2 ^ (nb + 20) ∧ ρ = [some (.lst false (ns.map .int)), some (.lst true (ms.map .int)), some (.int (0 + (i : Int))), some (.int c'), some (.int q)]) hW ⟨1, 0, by decide, by decide, by omega, Nat.one_lt_two_pow (by omega), rfl⟩ (by omega) (by
      rintro m ρ ⟨q, j, hq1, hj, hjm, hqb, rfl⟩
      by_cases hle : q ≤ c'
      · have q1 : CPow 10 6 := ⟨by decide, by decide, by decide⟩
        have q2 : mulOk q 1000000 := mulOkR (by decide) (by decide)
        have e6 : (10 : Int) ^ (6 : Int).toNat = 1000000 := rfl
        have hjn : j < nb := by
          rcases Nat.lt_or_ge j nb with h | h
          · exact h
          · have h1 : 2 ^ nb ≤ 2 ^ j := Nat.pow_le_pow_right (by decide) h
            omega
        walk_at "ev"
        refine ⟨m - 1, by omega, q * 1000000, j + 1, by omega, ?_, by omega, ?_, rfl⟩
        · rw [Nat.pow_succ]
          omega
        · have h1 : q.natAbs < 2 ^ nb := by omega
          rw [Nat.pow_add]
          have h2 : (q * 1000000).natAbs = q.natAbs * 1000000 := by omega
          rw [h2]
          have h3 : (1000000 : Nat) ≤ 2 ^ 20 := by decide
          exact Nat.lt_of_lt_of_le (Nat.mul_lt_mul_of_pos_right h1 (by decide)) (Nat.mul_le_mul_left _ h3)
      · walk_at "ev")
    have hmul : mulOk q z := by
      refine .inr (.inr ?_)
      have b1 := bits_le hqb
      have b2 : Builtin.Int.intBits z ≤ 120 := bits_le (by omega)
      omega
    walk_at "ev"
    refine ⟨ms ++ [c' + q * z], _, _, _, by rw [List.map_append]; rfl, by rw [List.length_append, hl]; rfl, ?_⟩
    intro x hx
    rcases List.mem_append.mp hx with hx | hx
    · exact hm x hx
    · rw [List.mem_singleton.mp hx]
      have := Int.mul_nonneg (show 0 ≤ q by omega) hz0
      omega)
  refine ⟨ms, by walk_at "ev", ?_, hm⟩
  rw [hl, intsT_len, Int.toNat_natCast]
theorem cut_to {α : Type} (xs : List α) (k : Nat) : cutT xs none (some (k : Int)) = xs.take k := by
  unfold cutT
  rw [show HT.sIx xs.length 0 none = 0 from rfl, List.drop_zero, Nat.sub_zero, HT.sIx_nat]
  rcases Nat.le_total k xs.length with h | h
  · rw [Nat.min_eq_left h]
  · rw [Nat.min_eq_right h, List.take_length, List.take_of_length_le h]
theorem cut63 {α : Type} (xs : List α) (h : xs.length ≤ 63) : cutT xs none (some 63) = xs := by
  have := cut_to xs 63
  rw [List.take_of_length_le h] at this
  exact this
theorem turn_bound (a : Int) : 0 ≤ a % 998244353 ∧ a % 998244353 < 998244353 := ⟨Int.emod_nonneg _ (by decide), Int.emod_lt_of_pos _ (by decide)⟩
/-- the numbers drawn: as many as asked for, from 0 to below 10 ** 9 -/
theorem e_law_spread (n : Int) (m : Nat) (hm : m ≤ 1000) : ∃ xs : List Int, F_law_spread [.int n, .int m] = .ok (.lst true (xs.map .int)) ∧ xs.length = m ∧ ∀ x ∈ xs, 0 ≤ x ∧ x < 1000000000 := by
  unfold F_law_spread D_law_spread
  have k0 : (0 : Nat) ≤ sizeLine := Nat.zero_le _
  have k1 : CDiv n 2 := ⟨by decide, by decide⟩
  have k2 : (0 : Int) < 2 := by decide
  have k3 : mulOk (m : Int) (1 - n % 2) := mulOkL (by omega) (by omega)
  have k5 : (0 : Int) < 998244341 := by decide
  obtain ⟨q, hq, hqm⟩ : ∃ q : Nat, (m : Int) * (1 - n % 2) = q ∧ q ≤ m := by
    have : n % 2 = 0 ∨ n % 2 = 1 := by omega
    rcases this with e | e
    · exact ⟨m, by rw [e]; omega, Nat.le_refl _⟩
    · exact ⟨0, by rw [e]; omega, Nat.zero_le _⟩
  have k4 : -(2 ^ 62) ≤ (q : Int) ∧ (q : Int) < 2 ^ 62 := by omega
  walk_at "ev"
  generalize hL : forL _ _ _ _ = o
  obtain ⟨ρ', rfl, xs, r, o4, o5, rfl, hl, hb⟩ := forL_of (fun i ρ => ∃ (xs : List Int) (r : Int) (o4 o5 : Option T), ρ = [some (.int n), some (.int m), some (.lst true (xs.map .int)), some (.int r), o4, o5, none, none, none] ∧ xs.length = i ∧ ∀ x ∈ xs, 0 ≤ x ∧ x < 1000000000) hL ⟨[], _, _, _, rfl, rfl, nomem⟩ (by
    rintro i t ρ et ⟨xs, r, o4, o5, rfl, hl, hb⟩
    obtain ⟨hi, rfl⟩ := intsT_get et
    have hi' : i < q := by rwa [Int.toNat_natCast] at hi
    have e9 : (10 : Int) ^ (9 : Int).toNat = 1000000000 := rfl
    have q1 : CPow 10 9 := ⟨by decide, by decide, by decide⟩
    have q2 : CDiv r 1000000000 := ⟨by decide, by decide⟩
    have q3 : i < sizeLine := lt_line (by omega)
    have hb2 := hb
    clear et hL hi hb
    walk_at "ev"
    refine ⟨xs ++ [r % 1000000000], _, _, _, by rw [List.map_append]; rfl, by rw [List.length_append, hl]; rfl, fun x hx => ?_⟩
    rcases List.mem_append.mp hx with hx | hx
    · exact hb2 x hx
    · rw [List.mem_singleton.mp hx]; omega)
  have hl' : xs.length ≤ m := by rw [hl, intsT_len, Int.toNat_natCast]; exact hqm
  clear hl hL
  walk_at "ev"
  generalize hr0 : r % 998244341 + 5 = r0
  generalize hW : sWhile _ _ _ = o
  obtain ⟨ρ', m', rfl, ⟨ys, r1, p4, p5, p6, p7, p8, rfl, hyl, hyb⟩, hend⟩ := whileN_of (m := m - xs.length) (fun k ρ => ∃ (ys : List Int) (r1 : Int) (p4 p5 p6 p7 p8 : Option T), ρ = [some (.int n), some (.int m), some (.lst true (ys.map .int)), some (.int r1), p4, p5, p6, p7, p8] ∧ ys.length + k = m ∧ ∀ x ∈ ys, 0 ≤ x ∧ x < 1000000000) hW ⟨xs, r0, _, _, _, _, _, rfl, by omega, hb⟩ (by omega) (by
    rintro k ρ ⟨ys, r1, p4, p5, p6, p7, p8, rfl, hyl, hyb⟩
    cases hc : decide ((ys.length : Int) < (m : Int)) with
    | false =>
      clear hW hb hyb
      walk_at "ev"
    | true =>
      have hlt : ys.length < m := by have := of_decide_eq_true hc; omega
      have t2 : -(2 ^ 62) ≤ (2 : Int) ∧ (2 : Int) < 2 ^ 62 := by decide
      have hb2 := hb
      clear hW hb hr0
      have hyb2 := hyb
      clear hyb
      walk_at "ev"
      generalize hL : forL _ _ _ _ = o
      obtain ⟨ρ', rfl, r2, a6, a7, a8, rfl, hr2⟩ := forL_of (fun i ρ => ∃ (r2 : Int) (a6 a7 a8 : Option T), ρ = [some (.int n), some (.int m), some (.lst true (ys.map .int)), some (.int r2), p4, p5, a6, a7, a8] ∧ (0 < i → 0 ≤ r2 ∧ r2 < 998244353)) hL ⟨r1, _, _, _, rfl, fun h => absurd h (Nat.lt_irrefl 0)⟩ (by
        rintro i t ρ et ⟨r2, a6, a7, a8, rfl, _⟩
        obtain ⟨hi, rfl⟩ := intsT_get et
        have q1 : CDiv r2 4099 := ⟨by decide, by decide⟩
        have q2 : mulOk (r2 % 4099) 240007 := mulOkR (by decide) (by decide)
        have q3 : mulOk (r2 / 4099) 89 := mulOkR (by decide) (by decide)
        have q4 : mulOk 1201 (ys.length : Int) := mulOkL (by decide) (by decide)
        have q5 : (0 : Int) < 998244353 := by decide
        clear et hL hi hyb2
        walk_at "ev"
        exact ⟨_, _, _, _, rfl, fun _ => turn_bound _⟩)
      have hr2' := hr2 (by rw [intsT_len]; decide)
      have q6 : CDiv r2 5 := ⟨by decide, by decide⟩
      have q7 : ys.length < sizeLine := lt_line (by omega)
      clear hL hr2
      walk_at "ev"
      refine ⟨k - 1, by omega, ys ++ [r2 / 5], _, _, _, _, _, _, by rw [List.map_append]; rfl, by rw [List.length_append, List.length_singleton]; omega, fun x hx => ?_⟩
      rcases List.mem_append.mp hx with hx | hx
      · exact hyb2 x hx
      · rw [List.mem_singleton.mp hx]; omega)
  have hlen : ys.length = m := by
    have : ¬ (ys.length : Int) < (m : Int) := by
      intro h
      have hd : decide ((ys.length : Int) < (m : Int)) = true := decide_eq_true h
      clear hW hb hyb
      have : dTest (dBin ltT (dCB lenT (dCons (dVar 2) dNil)) (dVar 1)) [some (.int n), some (.int m), some (.lst true (ys.map .int)), some (.int r1), p4, p5, p6, p7, p8] = .ok true := by walk_at "ev"
      rw [this] at hend
      cases hend
    omega
  refine ⟨ys, ?_, hlen, hyb⟩
  clear hW hb hyb hend hlen
  walk_at "ev"
theorem e_is_whole_from (x l u : Int) : F_is_whole_from [.int x, .int l, .int u] = .ok (.bl (decide (l ≤ x) && decide (x ≤ u))) := by
  have h : F_is_whole [.int x] = .ok (.bl true) := by
    unfold F_is_whole D_is_whole
    walk_at "ev"
  unfold F_is_whole_from D_is_whole_from
  cases hA : decide (l ≤ x) with
  | true => walk_at "ev"
  | false => walk_at "ev"
theorem allB {α : Type} (l : List α) (p : α → Bool) : (l.map fun c => p c).all id = l.all p := by
  induction l with
  | nil => rfl
  | cons a l ih => simp only [List.map_cons, List.all_cons, ih, id]
/-- none greater than the one ahead of it -/
def fallB (xs : List Int) : Bool := (List.range (xs.length - 1)).all fun i => decide (xs.getD (i + 1) 0 ≤ xs.getD i 0)
def tableB (xs : List Int) : Bool := decide (1 ≤ (xs.length : Int)) && (decide ((xs.length : Int) ≤ 60) && ((xs.all fun x => decide (0 ≤ x) && decide (x ≤ 1000000)) && fallB xs))
theorem atI_getD {xs : List Int} {i : Nat} (h : i < xs.length) : atI (xs.map T.int) (i : Int) = some (.int (xs.getD i 0)) :=
  atI_nat (by rw [List.getElem?_map, List.getElem?_eq_getElem h, List.getD_eq_getElem?_getD, List.getElem?_eq_getElem h]; rfl)
theorem e_is_table (o : Bool) (xs : List Int) (hx : xs.length ≤ 1000) : F_is_table [.lst o (xs.map .int)] = .ok (.bl (tableB xs)) := by
  unfold F_is_table D_is_table tableB
  have h2 : xs.length ≤ sizeLine := le_line (by omega)
  have hc1 : compL (bName 1) dYes (dDef 3 F_is_whole_from (dCons (dVar 1) (dCons (dC (.int 0)) (dCons (dC (.int 1000000)) dNil)))) [some (.lst o (xs.map .int)), none, none] (xs.map .int) = .ok ((xs.map fun x => decide (0 ≤ x) && decide (x ≤ 1000000)).map .bl) := by
    rw [List.map_map]
    refine compL_name fun c _ => ?_
    have := e_is_whole_from c 0 1000000
    walk_at "ev"
    rfl
  have hr : -(2 ^ 62) ≤ (1 : Int) ∧ (1 : Int) < 2 ^ 62 ∧ -(2 ^ 62) ≤ (xs.length : Int) ∧ (xs.length : Int) < 2 ^ 62 := by omega
  have hc2 : compL (bName 2) dYes (dBin leT (dBin ixT (dVar 0) (dVar 2)) (dBin ixT (dVar 0) (dBin subT (dVar 2) (dC (.int 1))))) [some (.lst o (xs.map .int)), none, none] (intsT 1 ((xs.length : Int) - 1).toNat) = .ok (((List.range (xs.length - 1)).map fun i => decide (xs.getD (i + 1) 0 ≤ xs.getD i 0)).map .bl) := by
    unfold intsT
    rw [List.map_map, show ((xs.length : Int) - 1).toNat = xs.length - 1 by omega]
    refine compL_name fun i hi => ?_
    have hi := List.mem_range.mp hi
    have a1 : atI (xs.map T.int) (1 + (i : Int)) = some (.int (xs.getD (i + 1) 0)) := by
      rw [show (1 : Int) + (i : Int) = ((i + 1 : Nat) : Int) by omega]
      exact atI_getD (by omega)
    have a2 : atI (xs.map T.int) (1 + (i : Int) - 1) = some (.int (xs.getD i 0)) := by
      rw [show (1 : Int) + (i : Int) - 1 = (i : Int) by omega]
      exact atI_getD (by omega)
    walk_at "ev"
    rfl
  have b1 := allB xs (fun x => decide (0 ≤ x) && decide (x ≤ 1000000))
  have hl2 : (intsT 1 ((xs.length : Int) - 1).toNat).length ≤ sizeLine := by rw [intsT_len]; exact le_line (by omega)
  cases hA : decide (1 ≤ (xs.length : Int)) with
  | false => walk_at "ev"
  | true =>
    cases hB : decide ((xs.length : Int) ≤ 60) with
    | false => walk_at "ev"
    | true =>
      cases hC : (xs.all fun x => decide (0 ≤ x) && decide (x ≤ 1000000)) with
      | false => rw [hC] at b1; walk_at "ev"
      | true =>
        rw [hC] at b1
        walk_at "ev"
        unfold fallB
        rw [allB]
/-! what the law asks instead -/
theorem eqFs_ints (n : Nat) : ∀ xs ys : List Int, xs.length = ys.length → ∃ es, eqFs n (xs.map T.int) (ys.map T.int) = some es ∧ es.all id = decide (xs = ys)
  | [], [], _ => ⟨[], rfl, rfl⟩
  | [], _ :: _, h => by simp at h
  | _ :: _, [], h => by simp at h
  | x :: xs, y :: ys, h => by
    obtain ⟨es, h1, h2⟩ := eqFs_ints n xs ys (by simpa using h)
    have e : eqF n (.int x) (.int y) = some (x == y) := by cases n <;> rfl
    refine ⟨(x == y) :: es, by simp only [List.map_cons, eqFs, e, h1, Option.bind_some, Option.map_some], ?_⟩
    simp only [List.all_cons, h2, id]
    rw [Bool.eq_iff_iff, Bool.and_eq_true, beq_iff_eq, decide_eq_true_iff, decide_eq_true_iff, List.cons.injEq]
theorem eq_lints (o o' : Bool) (xs ys : List Int) : eqT (.lst o (xs.map .int)) (.lst o' (ys.map .int)) = .ok (.bl (decide (xs = ys))) := by
  have e : eqB (.lst o (xs.map .int)) (.lst o' (ys.map .int)) = some (decide (xs = ys)) := by
    show eqF (5 + 1) (.lst o (xs.map .int)) (.lst o' (ys.map .int)) = _
    rw [eqF, List.length_map, List.length_map]
    split
    · next h =>
      obtain ⟨es, h1, h2⟩ := eqFs_ints 5 xs ys h
      rw [h1, Option.map_some, h2]
    · next h =>
      rw [decide_eq_false (fun z => h (by rw [z]))]
  unfold eqT
  rw [e]
def goodB (xs : List Int) : Bool := !(decide ((xs.length : Int) < 1) || (decide (60 < (xs.length : Int)) || (decide (1000000 < maxI xs) || decide (minI xs < 0)))) && decide (xs = (sortI xs).reverse)
theorem e_law_good (o : Bool) (xs : List Int) (hx : xs.length ≤ 1000) : F_law_good [.lst o (xs.map .int)] = .ok (.bl (goodB xs)) := by
  unfold F_law_good D_law_good goodB
  have e6 : (10 : Int) ^ (6 : Int).toNat = 1000000 := rfl
  have q1 : CPow 10 6 := ⟨by decide, by decide, by decide⟩
  cases hA : decide ((xs.length : Int) < 1) with
  | true => walk_at "ev"
  | false =>
    cases hB : decide (60 < (xs.length : Int)) with
    | true => walk_at "ev"
    | false =>
      cases xs with
      | nil => simp at hA
      | cons x xs =>
        have m1 := max_l o x xs
        have m2 := min_l o x xs
        have hs : (x :: xs).length < 64 := by
          have := of_decide_eq_false hB
          omega
        have s1 := sorted_l o (x :: xs)
        rw [if_pos hs] at s1
        have s2 := eq_lints o true (x :: xs) (sortI (x :: xs)).reverse
        have s3 : ((sortI (x :: xs)).map T.int).reverse = ((sortI (x :: xs)).reverse).map T.int := (List.map_reverse).symm
        generalize hX : (x :: xs) = X at *
        clear hs hX
        cases hC : decide (1000000 < maxI X) with
        | true => walk_at "ev"
        | false =>
          cases hD : decide (minI X < 0) with
          | true => walk_at "ev"
          | false => walk_at "ev"
theorem fallB_cons (x y : Int) (l : List Int) : fallB (x :: y :: l) = (decide (y ≤ x) && fallB (y :: l)) := by
  unfold fallB
  show (List.range (l.length + 1)).all _ = _
  rw [List.range_succ_eq_map, List.all_cons, List.all_map]
  rfl
theorem fallB_iff : ∀ xs : List Int, fallB xs = true ↔ xs.Pairwise (fun a b => b ≤ a)
  | [] => by simp [fallB]
  | [x] => by simp [fallB]
  | x :: y :: l => by
    rw [fallB_cons, Bool.and_eq_true, decide_eq_true_iff, fallB_iff (y :: l)]
    constructor
    · rintro ⟨h1, h2⟩
      refine List.pairwise_cons.mpr ⟨fun a ha => ?_, h2⟩
      rcases List.mem_cons.mp ha with rfl | ha
      · exact h1
      · exact Int.le_trans ((List.pairwise_cons.mp h2).1 a ha) h1
    · intro h
      obtain ⟨h1, h2⟩ := List.pairwise_cons.mp h
      exact ⟨h1 y List.mem_cons_self, h2⟩
theorem sort_rev (xs : List Int) : xs = (sortI xs).reverse ↔ xs.Pairwise (fun a b => b ≤ a) := by
  constructor
  · intro h
    rw [h, List.pairwise_reverse]
    exact sortI_sorted xs
  · intro h
    have h1 : xs.reverse.Pairwise (· ≤ ·) := by
      rw [List.pairwise_reverse]
      exact h
    have h2 : xs.reverse = sortI xs := sorted_one ((List.reverse_perm xs).trans (sortI_perm xs).symm) h1 (sortI_sorted xs)
    rw [← h2, List.reverse_reverse]
theorem good_table (xs : List Int) : goodB xs = tableB xs := by
  cases xs with
  | nil => rfl
  | cons x xs =>
    obtain ⟨a1, a2⟩ := maxI_spec x xs
    obtain ⟨b1, b2⟩ := minI_spec x xs
    have hall : ((x :: xs).all fun x => decide (0 ≤ x) && decide (x ≤ 1000000)) = true ↔ maxI (x :: xs) ≤ 1000000 ∧ 0 ≤ minI (x :: xs) := by
      rw [List.all_eq_true]
      constructor
      · intro h
        have h1 := h _ a1
        have h2 := h _ b1
        rw [Bool.and_eq_true, decide_eq_true_iff, decide_eq_true_iff] at h1 h2
        exact ⟨h1.2, h2.1⟩
      · rintro ⟨h1, h2⟩ y hy
        rw [Bool.and_eq_true, decide_eq_true_iff, decide_eq_true_iff]
        exact ⟨Int.le_trans h2 (b2 y hy), Int.le_trans (a2 y hy) h1⟩
    unfold goodB tableB
    rw [Bool.eq_iff_iff]
    simp only [Bool.and_eq_true, Bool.not_eq_true', Bool.or_eq_false_iff, decide_eq_true_iff, decide_eq_false_iff_not, hall, fallB_iff, sort_rev]
    constructor
    · rintro ⟨⟨h1, h2, h3, h4⟩, h5⟩
      exact ⟨by omega, by omega, ⟨by omega, by omega⟩, h5⟩
    · rintro ⟨h1, h2, ⟨h3, h4⟩, h5⟩
      exact ⟨⟨by omega, by omega, by omega, by omega⟩, h5⟩
/-! darkness -/
theorem e_darkness_at (o : Bool) (xs : List Int) (k : Nat) (h0 : xs ≠ []) : F_darkness_at [.lst o (xs.map .int), .int k] = .ok (.int (xs.getD (min k (xs.length - 1)) 0)) := by
  unfold F_darkness_at D_darkness_at
  have hl : 0 < xs.length := List.length_pos_iff.mpr h0
  have e1 : (if (xs.length : Int) - 1 < (k : Int) then (xs.length : Int) - 1 else (k : Int)) = ((min k (xs.length - 1) : Nat) : Int) := by
    split <;> omega
  have e2 : (if ((min k (xs.length - 1) : Nat) : Int) > 0 then ((min k (xs.length - 1) : Nat) : Int) else 0) = ((min k (xs.length - 1) : Nat) : Int) := by
    split <;> omega
  have a := atI_getD (xs := xs) (i := min k (xs.length - 1)) (by omega)
  generalize min k (xs.length - 1) = j at e1 e2 a
  walk_at "ev"
theorem e_law_at (o : Bool) (xs : List Int) (k : Nat) (hk : k ≤ 1000) (h0 : xs ≠ []) (hx : xs.length ≤ 1000) : F_law_at [.lst o (xs.map .int), .int k] = .ok (.int (xs.getD (min k (xs.length - 1)) 0)) := by
  unfold F_law_at D_law_at
  have hl : 0 < xs.length := List.length_pos_iff.mpr h0
  have a0 := atI_getD (xs := xs) (i := 0) hl
  have a0' : atI (xs.map T.int) 0 = some (.int (xs.getD 0 0)) := a0
  have e1 : (if (xs.length : Int) < (k : Int) + 1 then (xs.length : Int) else (k : Int) + 1) = ((min k (xs.length - 1) + 1 : Nat) : Int) := by
    split <;> omega
  obtain ⟨j, hj⟩ : ∃ j, min k (xs.length - 1) = j := ⟨_, rfl⟩
  have hjl : j < xs.length := by omega
  rw [hj] at e1 ⊢
  have q1 : -(2 ^ 62) ≤ ((j + 1 : Nat) : Int) ∧ ((j + 1 : Nat) : Int) < 2 ^ 62 := by omega
  clear hj a0
  walk_at "ev"
  generalize hL : forL _ _ _ _ = w
  obtain ⟨ρ', rfl, o3, rfl⟩ := forL_of (fun i ρ => ∃ (o3 : Option T), ρ = [some (.lst o (xs.map .int)), some (.int k), some (.int (xs.getD (i - 1) 0)), o3]) hL ⟨_, rfl⟩ (by
    rintro i t ρ et ⟨o3, rfl⟩
    obtain ⟨hi, rfl⟩ := intsT_get et
    rw [Int.toNat_natCast] at hi
    have a1 : atI (xs.map T.int) (0 + (i : Int)) = some (.int (xs.getD i 0)) := by
      rw [Int.zero_add]
      exact atI_getD (by omega)
    clear hL et
    walk_at "ev"
    exact ⟨_, by rw [Nat.add_sub_cancel]⟩)
  clear hL
  have e4 : (intsT 0 ((j + 1 : Nat) : Int).toNat).length - 1 = j := by
    rw [intsT_len, Int.toNat_natCast]
    omega
  walk_at "ev"
/-! the ages of a reading -/
def pB (xs : List Int) (d e : Int) (j : Nat) : Bool := decide ((if xs.getD (min j (xs.length - 1)) 0 - d < 0 then -(xs.getD (min j (xs.length - 1)) 0 - d) else xs.getD (min j (xs.length - 1)) 0 - d) ≤ e)
def hits (xs : List Int) (d e : Int) (n : Nat) : List Int := ((List.range n).filter (pB xs d e)).map fun (j : Nat) => (j : Int)
def ageT : List Int → T
  | [] => .non
  | a :: l => .tup [.int a, .int ((a :: l).getD l.length 0)]
theorem hits_succ (xs : List Int) (d e : Int) (n : Nat) : hits xs d e (n + 1) = hits xs d e n ++ (if pB xs d e n = true then [(n : Int)] else []) := by
  unfold hits
  rw [List.range_succ, List.filter_append, List.map_append]
  congr 1
  simp only [List.filter_cons, List.filter_nil]
  split <;> rfl
theorem atI_endI {l : List Int} {a : Int} : atI ((a :: l).map T.int) (-1) = some (.int ((a :: l).getD l.length 0)) := by
  have e0 : ixN ((a :: l).map T.int).length (-1) = some l.length := by
    unfold ixN
    rw [if_neg (by decide), List.length_map, List.length_cons, if_pos (by omega)]
    congr 1
    omega
  unfold atI
  rw [e0]
  show ((a :: l).map T.int)[l.length]? = _
  rw [List.getElem?_map, List.getD_eq_getElem?_getD, List.getElem?_eq_getElem (by simp)]
  rfl
theorem eq_lnil (o o' : Bool) (xs : List Int) : eqT (.lst o (xs.map .int)) (.lst o' []) = .ok (.bl (decide (xs = []))) := eq_lints o o' xs []
theorem e_law_ages (o : Bool) (xs : List Int) (d e : Int) (G : Nat) (h0 : xs ≠ []) (hx : xs.length ≤ 1000) (hG : G ≤ 1000) : F_law_ages [.lst o (xs.map .int), .int d, .int e, .int G] = .ok (ageT (hits xs d e (G + 1))) := by
  unfold F_law_ages D_law_ages
  have hl : 0 < xs.length := List.length_pos_iff.mpr h0
  have k0 : (0 : Nat) ≤ sizeLine := Nat.zero_le _
  have k1 : -(2 ^ 62) ≤ (G : Int) + 1 ∧ (G : Int) + 1 < 2 ^ 62 := by omega
  walk_at "ev"
  generalize hL : forL _ _ _ _ = w
  obtain ⟨ρ', rfl, o5, rfl⟩ := forL_of (fun i ρ => ∃ (o5 : Option T), ρ = [some (.lst o (xs.map .int)), some (.int d), some (.int e), some (.int G), some (.lst true ((hits xs d e i).map .int)), o5]) hL ⟨_, rfl⟩ (by
    rintro i t ρ et ⟨o5, rfl⟩
    obtain ⟨hi, rfl⟩ := intsT_get et
    have hi' : i < G + 1 := by omega
    have hlen : (hits xs d e i).length < sizeLine := by
      unfold hits
      rw [List.length_map]
      have := List.length_filter_le (pB xs d e) (List.range i)
      rw [List.length_range] at this
      exact lt_line (by omega)
    have e1 : (if (xs.length : Int) - 1 < 0 + (i : Int) then (xs.length : Int) - 1 else 0 + (i : Int)) = ((min i (xs.length - 1) : Nat) : Int) := by
      split <;> omega
    have a1 := atI_getD (xs := xs) (i := min i (xs.length - 1)) (by omega)
    have hp : pB xs d e i = decide ((if xs.getD (min i (xs.length - 1)) 0 - d < 0 then -(xs.getD (min i (xs.length - 1)) 0 - d) else xs.getD (min i (xs.length - 1)) 0 - d) ≤ e) := rfl
    rw [hits_succ]
    generalize min i (xs.length - 1) = j at e1 a1 hp
    replace hp := hp.symm
    clear hL et
    cases hpb : pB xs d e i with
    | true =>
      rw [hpb] at hp
      walk_at "ev"
      exact ⟨_, by rw [List.map_append, Int.zero_add]; rfl⟩
    | false =>
      rw [hpb] at hp
      walk_at "ev"
      exact ⟨_, by rw [List.append_nil]⟩)
  have e4 : (intsT 0 ((G : Int) + 1).toNat).length = G + 1 := by rw [intsT_len]; omega
  clear hL
  rw [e4]
  cases hits xs d e (G + 1) with
  | nil =>
    have q := eq_lnil true true []
    have q2 : eqT (.lst true []) (.lst true []) = .ok (.bl true) := q
    clear q
    walk_at "ev"
    rfl
  | cons a l =>
    have q := eq_lnil true true (a :: l)
    have q3 : decide (a :: l = []) = false := rfl
    rw [q3] at q
    have q1 : atI ((a :: l).map T.int) 0 = some (.int a) := atI_nat (j := 0) rfl
    have q2 := atI_endI (l := l) (a := a)
    have q4 : (2 : Nat) ≤ sizeLine := by decide
    show _ = Res.ok (T.tup [.int a, .int ((a :: l).getD l.length 0)])
    generalize (a :: l).map T.int = X at q q1 q2 ⊢
    generalize (a :: l).getD l.length 0 = z at q2 ⊢
    clear q3
    walk_at "ev"
theorem hits_short (xs : List Int) (d e : Int) (n m : Nat) (h : ∀ j, n ≤ j → j < n + m → pB xs d e j = false) : hits xs d e (n + m) = hits xs d e n := by
  induction m with
  | zero => rfl
  | succ m ih =>
    rw [← Nat.add_assoc, hits_succ, ih (fun j h1 h2 => h j h1 (by omega)), h (n + m) (by omega) (by omega)]
    simp
theorem hits_last {xs : List Int} {d e : Int} {n : Nat} (h : pB xs d e n = true) : ∃ l, hits xs d e (n + 1) = l ++ [(n : Int)] := ⟨hits xs d e n, by rw [hits_succ, if_pos h]⟩
theorem hits_bound (xs : List Int) (d e : Int) (n : Nat) : ∀ x ∈ hits xs d e n, x < n := by
  intro x hx
  unfold hits at hx
  obtain ⟨j, hj, rfl⟩ := List.mem_map.mp hx
  have := List.mem_range.mp (List.mem_filter.mp hj).1
  omega
theorem getD_snoc (l : List Int) (z : Int) : (l ++ [z]).getD l.length 0 = z := by
  rw [List.getD_eq_getElem?_getD, List.getElem?_append_right (Nat.le_refl _)]
  simp
/-- beyond the last age the first part tells all -/
theorem ages_eq (xs : List Int) (d e : Int) (G : Nat) (h0 : 0 < xs.length) (a : Int) (l : List Int) (hh : hits xs d e (min (xs.length - 1) G + 1) = a :: l) :
    ageT (hits xs d e (G + 1)) = .tup [.int a, .int (if (a :: l).getD l.length 0 = ((xs.length - 1 : Nat) : Int) then (G : Int) else (a :: l).getD l.length 0)] := by
  have hmem : (a :: l).getD l.length 0 ∈ a :: l := by
    rw [List.getD_eq_getElem?_getD, List.getElem?_eq_getElem (by simp)]
    exact List.getElem_mem _
  have hb := hits_bound xs d e (min (xs.length - 1) G + 1) _ (by rw [hh]; exact hmem)
  rcases Nat.lt_or_ge (xs.length - 1) G with hG | hG
  · rw [Nat.min_eq_left (by omega)] at hh hb
    have same : ∀ j, xs.length - 1 ≤ j → pB xs d e j = pB xs d e (xs.length - 1) := by
      intro j hj
      unfold pB
      rw [Nat.min_eq_right hj, Nat.min_self]
    cases hp : pB xs d e (xs.length - 1) with
    | true =>
      have hG' : pB xs d e G = true := by rw [same G (by omega), hp]
      obtain ⟨l1, h1⟩ := hits_last hG'
      obtain ⟨l2, h2⟩ := hits_last hp
      rw [hh] at h2
      -- the first one stays the first one
      have pre : ∀ m, ∃ r, hits xs d e (xs.length - 1 + 1 + m) = a :: l ++ r := by
        intro m
        induction m with
        | zero => exact ⟨[], by rw [Nat.add_zero, hh, List.append_nil]⟩
        | succ m ih =>
          obtain ⟨r, hr⟩ := ih
          rw [← Nat.add_assoc, hits_succ, hr, List.append_assoc]
          exact ⟨_, rfl⟩
      obtain ⟨r, hr⟩ := pre (G + 1 - (xs.length - 1 + 1))
      rw [show xs.length - 1 + 1 + (G + 1 - (xs.length - 1 + 1)) = G + 1 by omega] at hr
      have last : (a :: l).getD l.length 0 = ((xs.length - 1 : Nat) : Int) := by
        have : l.length = l2.length := by
          have := congrArg List.length h2
          simp at this
          exact this
        rw [h2, this, getD_snoc]
      rw [last, if_pos rfl, hr]
      rw [hr] at h1
      show T.tup [.int a, .int ((a :: (l ++ r)).getD (l ++ r).length 0)] = _
      have h1' : a :: (l ++ r) = l1 ++ [(G : Int)] := h1
      have hlen : (l ++ r).length = l1.length := by
        have := congrArg List.length h1'
        simp at this ⊢
        exact this
      rw [h1', hlen, getD_snoc]
    | false =>
      have hs := hits_short xs d e (xs.length - 1 + 1) (G + 1 - (xs.length - 1 + 1)) (fun j h1 h2 => by rw [same j (by omega), hp])
      rw [show xs.length - 1 + 1 + (G + 1 - (xs.length - 1 + 1)) = G + 1 by omega, hh] at hs
      rw [hs]
      have hz : hits xs d e (xs.length - 1 + 1) = hits xs d e (xs.length - 1) := hits_short xs d e (xs.length - 1) 1 (fun j h1 h2 => by rw [show j = xs.length - 1 by omega, hp])
      have hb2 := hits_bound xs d e (xs.length - 1) _ (by rw [← hz, hh]; exact hmem)
      rw [if_neg (by omega)]
      rfl
  · rw [Nat.min_eq_right hG] at hh hb
    rw [hh]
    show T.tup [.int a, .int ((a :: l).getD l.length 0)] = _
    have : (if (a :: l).getD l.length 0 = ((xs.length - 1 : Nat) : Int) then (G : Int) else (a :: l).getD l.length 0) = (a :: l).getD l.length 0 := by
      split
      · next h => rw [h]; rw [h] at hb; omega
      · rfl
    rw [this]
theorem hits_nil (xs : List Int) (d e : Int) (G : Nat) (h0 : 0 < xs.length) (hh : hits xs d e (min (xs.length - 1) G + 1) = []) : hits xs d e (G + 1) = [] := by
  rcases Nat.lt_or_ge (xs.length - 1) G with hG | hG
  · rw [Nat.min_eq_left (by omega)] at hh
    have hp : pB xs d e (xs.length - 1) = false := by
      cases hp : pB xs d e (xs.length - 1) with
      | false => rfl
      | true =>
        obtain ⟨l, h⟩ := hits_last hp
        rw [hh] at h
        simp at h
    have hs := hits_short xs d e (xs.length - 1 + 1) (G + 1 - (xs.length - 1 + 1)) (fun j h1 h2 => by
      have : pB xs d e j = pB xs d e (xs.length - 1) := by
        unfold pB
        rw [Nat.min_eq_right (by omega), Nat.min_self]
      rw [this, hp])
    rw [show xs.length - 1 + 1 + (G + 1 - (xs.length - 1 + 1)) = G + 1 by omega, hh] at hs
    exact hs
  · rw [Nat.min_eq_right hG] at hh
    exact hh
theorem e_ages_of (o : Bool) (xs : List Int) (d e : Int) (G : Nat) (h0 : xs ≠ []) (hx : xs.length ≤ 1000) (hG : G ≤ 1000) : F_ages_of [.lst o (xs.map .int), .int d, .int e, .int G] = .ok (ageT (hits xs d e (G + 1))) := by
  unfold F_ages_of D_ages_of
  have hl : 0 < xs.length := List.length_pos_iff.mpr h0
  obtain ⟨n, hn⟩ : ∃ n, min (xs.length - 1) G + 1 = n := ⟨_, rfl⟩
  have e1 : (if (G : Int) < (xs.length : Int) - 1 then (G : Int) else (xs.length : Int) - 1) + 1 = (n : Int) := by
    split <;> omega
  have k1 : -(2 ^ 62) ≤ (n : Int) ∧ (n : Int) < 2 ^ 62 := by omega
  have k2 : (intsT 0 (n : Int).toNat).length ≤ sizeLine := by rw [intsT_len]; exact le_line (by omega)
  have hc : compL (bName 7) (dTest (dBin leT (dCB absT (dCons (dBin subT (dBin ixT (dVar 0) (dVar 7)) (dVar 1)) dNil)) (dVar 2))) (dChk (dVar 7)) [some (.lst o (xs.map .int)), some (.int d), some (.int e), some (.int G), some (.int ((xs.length : Int) - 1)), none, none, none] (intsT 0 (n : Int).toNat) = .ok ((hits xs d e n).map .int) := by
    unfold intsT hits
    rw [Int.toNat_natCast, List.map_map]
    refine compL_pick fun i hi => ?_
    have hi := List.mem_range.mp hi
    have a1 := atI_getD (xs := xs) (i := i) (by omega)
    have hp : pB xs d e i = decide ((if xs.getD i 0 - d < 0 then -(xs.getD i 0 - d) else xs.getD i 0 - d) ≤ e) := by
      unfold pB
      rw [Nat.min_eq_left (by omega)]
    have z : (0 : Int) + (i : Int) = (i : Int) := Int.zero_add _
    refine ⟨?_, fun _ => ?_⟩
    · rw [hp]
      clear hp
      walk_at "ev"
    · clear hp
      walk_at "ev"
      rfl
  walk_at "ev"
  have hlast : ((xs.length : Int) - 1) = ((xs.length - 1 : Nat) : Int) := by omega
  cases hh : hits xs d e n with
  | nil =>
    rw [← hn] at hh
    have z1 := hits_nil xs d e G hl hh
    have z2 : (((0 : Nat) : Int) == 0) = true := rfl
    rw [z1]
    clear hh hn e1 hc z1 hlast
    walk_at "ev"
    rfl
  | cons a l =>
    rw [← hn] at hh
    rw [ages_eq xs d e G hl a l hh]
    have q1 : atI ((a :: l).map T.int) 0 = some (.int a) := atI_nat (j := 0) rfl
    have q2 : atI ((a :: l).map T.int) ((((a :: l).map T.int).length : Int) - 1) = some (.int ((a :: l).getD l.length 0)) := by
      have := atI_getD (xs := a :: l) (i := l.length) (by simp)
      rw [List.length_map, List.length_cons, show ((l.length + 1 : Nat) : Int) - 1 = (l.length : Int) by omega]
      exact this
    have q3 : ((((a :: l).map T.int).length : Int) == 0) = false := by
      rw [List.length_map, List.length_cons, beq_eq_false_iff_ne]
      omega
    have q3' : (((l.length + 1 : Nat) : Int) == 0) = false := by
      rw [beq_eq_false_iff_ne]
      omega
    have q4 : (2 : Nat) ≤ sizeLine := by decide
    have q5 : noOwns ((a :: l).map T.int) = true := noOwns_ints _
    clear hh hn e1 hc
    generalize (a :: l).map T.int = X at q1 q2 q3 q5 ⊢
    generalize (a :: l).getD l.length 0 = z at q2 ⊢
    cases hz : (z == ((xs.length - 1 : Nat) : Int)) with
    | true =>
      have hz' : z = ((xs.length - 1 : Nat) : Int) := eq_of_beq hz
      rw [if_pos hz']
      clear hz'
      walk_at "ev"
    | false =>
      have hz' : ¬ z = ((xs.length - 1 : Nat) : Int) := by rw [beq_eq_false_iff_ne] at hz; exact hz
      rw [if_neg hz']
      clear hz'
      walk_at "ev"
theorem e_law_told (fs : List Int) : F_law_told [ageT fs, ageT fs] = .ok (.bl true) := by
  unfold F_law_told D_law_told
  cases fs with
  | nil =>
    unfold ageT
    walk_at "ev"
  | cons a l =>
    obtain ⟨z, hz⟩ : ∃ z, ageT (a :: l) = .tup [.int a, .int z] := ⟨_, rfl⟩
    rw [hz]
    clear hz
    have h1 : eqT (.tup [.int a, .int z]) (.tup [.int a, .int z]) = .ok (.bl true) := by
      have : eqB (.tup [.int a, .int z]) (.tup [.int a, .int z]) = some (((a == a) && ((z == z) && true)) && true) := rfl
      unfold eqT
      rw [this]
      simp
    have hc : compL (bName 2) dYes (dCB isiT (dCons (dVar 2) (dCons (dC (.ty "bool")) dNil))) [some (.tup [.int a, .int z]), some (.tup [.int a, .int z]), none] [.int a, .int z] = .ok ([false, false].map .bl) := by
      simp only [compL, bName, dYes]
      walk_at "ev"
    have h2 : (2 : Nat) ≤ sizeLine := by decide
    have h3 : allT true [.lst true [.bl false, .bl false]] = .ok (.bl false) := all_l true true [false, false]
    have h4 : ([false, false] : List Bool).any id = false := rfl
    walk_at "ev"
theorem pickI (l : List Int) {i : Int} (h0 : 0 ≤ i) (h1 : i < l.length) : ∃ u ∈ l, atI (l.map T.int) i = some (.int u) := by
  obtain ⟨v, hv, h⟩ := atI_in (xs := l.map T.int) (i := i) h0 (by rw [List.length_map]; exact h1)
  obtain ⟨u, hu, rfl⟩ := List.mem_map.mp hv
  exact ⟨u, hu, h⟩
theorem pickA (l : List Int) {i : Int} (h0 : -(l.length : Int) ≤ i) (h1 : i < l.length) : ∃ u, atI (l.map T.int) i = some (.int u) := by
  rcases Int.lt_or_le i 0 with h | h
  · have e0 : ixN (l.map T.int).length i = some (i + l.length).toNat := by
      unfold ixN
      rw [if_neg (by omega), List.length_map, if_pos h0]
    refine ⟨l.getD (i + l.length).toNat 0, ?_⟩
    unfold atI
    rw [e0]
    show (l.map T.int)[(i + l.length).toNat]? = _
    have hk : (i + l.length).toNat < l.length := by omega
    rw [List.getElem?_map, List.getD_eq_getElem?_getD, List.getElem?_eq_getElem hk]
    rfl
  · obtain ⟨u, _, hu⟩ := pickI l h h1
    exact ⟨u, hu⟩
theorem seven {xs : List Int} (h : xs.length = 7) : ∃ a b c d e f g, xs = [a, b, c, d, e, f, g] := by
  match xs, h with
  | [a, b, c, d, e, f, g], _ => exact ⟨a, b, c, d, e, f, g, rfl⟩
theorem six {xs : List Int} (h : xs.length = 6) : ∃ a b c d e f, xs = [a, b, c, d, e, f] := by
  match xs, h with
  | [a, b, c, d, e, f], _ => exact ⟨a, b, c, d, e, f, rfl⟩
theorem e_law_list (n : Int) : ∃ xs : List Int, F_law_list [.int n] = .ok (.lst true (xs.map .int)) ∧ 1 ≤ xs.length ∧ xs.length ≤ 61 := by
  obtain ⟨x7, s7, l7, b7⟩ := e_law_spread n 7 (by decide)
  obtain ⟨x0, x1, x2, x3, x4, x5, x6, rfl⟩ := seven l7
  have p6 : 0 ≤ x6 := (b7 x6 (by simp)).1
  clear l7 b7
  replace s7 : F_law_spread [.int n, .int 7] = .ok (.lst true [.int x0, .int x1, .int x2, .int x3, .int x4, .int x5, .int x6]) := s7
  have i0 : atI [T.int x0, .int x1, .int x2, .int x3, .int x4, .int x5, .int x6] 0 = some (.int x0) := rfl
  have i1 : atI [T.int x0, .int x1, .int x2, .int x3, .int x4, .int x5, .int x6] 1 = some (.int x1) := rfl
  have i2 : atI [T.int x0, .int x1, .int x2, .int x3, .int x4, .int x5, .int x6] 2 = some (.int x2) := rfl
  have i3 : atI [T.int x0, .int x1, .int x2, .int x3, .int x4, .int x5, .int x6] 3 = some (.int x3) := rfl
  have i4 : atI [T.int x0, .int x1, .int x2, .int x3, .int x4, .int x5, .int x6] 4 = some (.int x4) := rfl
  have i5 : atI [T.int x0, .int x1, .int x2, .int x3, .int x4, .int x5, .int x6] 5 = some (.int x5) := rfl
  have i6 : atI [T.int x0, .int x1, .int x2, .int x3, .int x4, .int x5, .int x6] 6 = some (.int x6) := rfl
  have e6 : (10 : Int) ^ (6 : Int).toNat = 1000000 := rfl
  have q0 : CPow 10 6 := ⟨by decide, by decide, by decide⟩
  have z1 : (0 : Int) < 1000000 + 1 := by decide
  have z3 : (0 : Int) < 3 := by decide
  have z4 : (0 : Int) < 4 := by decide
  have z5 : (0 : Int) < 5 := by decide
  have z6 : (0 : Int) < 6 := by decide
  have z61 : (0 : Int) < 61 := by decide
  have s0 : (0 : Nat) ≤ sizeLine := Nat.zero_le _
  have s3 : (3 : Nat) ≤ sizeLine := by decide
  have s4 : (4 : Nat) ≤ sizeLine := by decide
  have s5 : (5 : Nat) ≤ sizeLine := by decide
  have c5 : CDiv n 5 := ⟨by decide, by decide⟩
  obtain ⟨d0, _, hd0⟩ := pickI [1000000, 100, x0 % (1000000 + 1)] (i := x1 % 3) (by omega) (by show x1 % 3 < 3; omega)
  replace hd0 : atI [T.int 1000000, .int 100, .int (x0 % (1000000 + 1))] (x1 % 3) = some (.int d0) := hd0
  obtain ⟨m', hm', hm0⟩ := pickI [1 + x2 % 61, 60, 61, 1 + x2 % 6] (i := x3 % 4) (by omega) (by show x3 % 4 < 4; omega)
  have hmb : 1 ≤ m' ∧ m' ≤ 61 := by
    simp only [List.mem_cons, List.not_mem_nil, or_false] at hm'
    omega
  obtain ⟨m, rfl⟩ : ∃ m : Nat, m' = m := ⟨m'.toNat, by omega⟩
  replace hm0 : atI [T.int (1 + x2 % 61), .int 60, .int 61, .int (1 + x2 % 6)] (x3 % 4) = some (.int m) := hm0
  obtain ⟨M, hM', hM0⟩ := pickI [2, 9, 40, 30011, 1000000 + 1] (i := x4 % 5) (by omega) (by show x4 % 5 < 5; omega)
  have hMp : 0 < M := by
    simp only [List.mem_cons, List.not_mem_nil, or_false] at hM'
    omega
  replace hM0 : atI [T.int 2, .int 9, .int 40, .int 30011, .int (1000000 + 1)] (x4 % 5) = some (.int M) := hM0
  obtain ⟨fs, sf, lf, _⟩ := e_law_spread (n / 5) m (by omega)
  clear hm' hM'
  unfold F_law_list D_law_list
  have hlf : fs.length ≤ 61 := by omega
  walk_at "ev"
  generalize hL : forL _ _ _ _ = o
  obtain ⟨ρ', rfl, ys, dk, o4, rfl, hyl⟩ := forL_of (fun i ρ => ∃ (ys : List Int) (dk : Int) (o4 : Option T), ρ = [some (.int n), some (.lst true [.int x0, .int x1, .int x2, .int x3, .int x4, .int x5, .int x6]), some (.int dk), some (.lst true (ys.map .int)), o4, none] ∧ ys.length = i) hL ⟨[], d0, _, rfl, rfl⟩ (by
    rintro i t ρ et ⟨ys, dk, o4, rfl, hyl⟩
    have hi : i < fs.length := by
      have := (List.getElem?_eq_some_iff.mp et).1
      rwa [List.length_map] at this
    obtain ⟨f, rfl⟩ : ∃ f, t = .int f := by
      rw [List.getElem?_map, List.getElem?_eq_getElem hi] at et
      exact ⟨fs[i], (Option.some.inj et).symm⟩
    have hs : i < sizeLine := lt_line (by omega)
    clear et hL lf
    walk_at "ev"
    exact ⟨ys ++ [dk], _, _, by rw [List.map_append]; rfl, by rw [List.length_append, hyl]; rfl⟩)
  have hy1 : 1 ≤ ys.length ∧ ys.length ≤ 61 := by
    rw [List.length_map] at hyl
    omega
  clear hL hyl lf sf hm0 hd0
  cases h53 : (x5 % 4 == 3) with
  | false =>
    refine ⟨ys, ?_, hy1⟩
    clear hy1
    walk_at "ev"
  | true =>
    have zl : (0 : Int) < (ys.length : Int) := by omega
    obtain ⟨at', hat⟩ : ∃ a, x6 % (ys.length : Int) = a := ⟨_, rfl⟩
    have hab : 0 ≤ at' ∧ at' < ys.length := by
      rw [← hat]
      exact ⟨Int.emod_nonneg _ (by omega), Int.emod_lt_of_pos _ zl⟩
    obtain ⟨u, _, hu⟩ := pickI ys hab.1 hab.2
    obtain ⟨u', hu'⟩ := pickA ys (i := at' - 1) (by omega) (by omega)
    obtain ⟨v, _, hv⟩ := pickI [u + 1, 1000000 + 1, -1, u' + 1] (i := x6 / 61 % 4) (by omega) (by show x6 / 61 % 4 < 4; omega)
    replace hv : atI [T.int (u + 1), .int (1000000 + 1), .int (-1), .int (u' + 1)] (x6 / 61 % 4) = some (.int v) := hv
    have c61 : CDiv x6 61 := ⟨by decide, by decide⟩
    have hix : ixN ys.length at' = some at'.toNat := by
      unfold ixN
      rw [if_pos hab.1, if_pos hab.2]
    refine ⟨ys.set at'.toNat v, ?_, by rw [List.length_set]; exact hy1.1, by rw [List.length_set]; exact hy1.2⟩
    rw [List.map_set]
    clear hy1 hab
    walk_at "ev"
theorem frz_age : ∀ fs, frz (ageT fs) = ageT fs
  | [] => rfl
  | _ :: _ => rfl
theorem clean_age : ∀ fs, clean (ageT fs) = true
  | [] => rfl
  | _ :: _ => rfl
theorem no_age : ∀ fs, noOwn (ageT fs) = true
  | [] => rfl
  | _ :: _ => rfl
theorem turn_dark (xs : List Int) (k : Nat) (hk : k ≤ 1000) (h0 : xs ≠ []) (hx : xs.length ≤ 1000) (v0 v3 v4 o6 o7 o8 : Option T) : (sSeq (sAsg [] (dDef 2 F_darkness_at (dCons (dVar 2) (dCons (dVar 5) dNil))) (bName 6))
    (sIf (dOr (dNot (dTru (dCB isiT (dCons (dVar 6) (dCons (dC (.ty "int")) dNil))))) (dOr (dTru (dCB isiT (dCons (dVar 6) (dCons (dC (.ty "bool")) dNil)))) (dTest (dBin neT (dVar 6) (dDef 2 F_law_at (dCons (dVar 1) (dCons (dVar 5) dNil))))))) (sRet [] (dC (.bl false))) sNext)) [v0, some (.lst true (xs.map .int)), some (.lst true (xs.map .int)), v3, v4, some (.int k), o6, o7, o8] = .nx [v0, some (.lst true (xs.map .int)), some (.lst true (xs.map .int)), v3, v4, some (.int k), some (.int (xs.getD (min k (xs.length - 1)) 0)), o7, o8] := by
  have a := e_darkness_at false xs k h0
  have b := e_law_at false xs k hk h0 hx
  generalize xs.getD (min k (xs.length - 1)) 0 = v at a b
  have c : (v == v) = true := beq_self_eq_true v
  walk_at "ev"
theorem e_law_right (n : Int) : F_law_right [.int n] = .ok (.bl true) := by
  obtain ⟨xs, hxs, hl1, hl2⟩ := e_law_list n
  have h0 : xs ≠ [] := by
    rintro rfl
    simp at hl1
  have t1 := e_is_table false xs (by omega)
  have t2 := e_law_good false xs (by omega)
  rw [good_table] at t2
  have eq := eq_lints true true xs xs
  rw [decide_eq_true rfl] at eq
  obtain ⟨x6, s6, l6, b6⟩ := e_law_spread (n + 5) 6 (by decide)
  obtain ⟨x0, x1, x2, x3, x4, x5, rfl⟩ := six l6
  have p0 := b6 x0 (by simp)
  clear l6 b6
  replace s6 : F_law_spread [.int (n + 5), .int 6] = .ok (.lst true [.int x0, .int x1, .int x2, .int x3, .int x4, .int x5]) := s6
  have i0 : atI [T.int x0, .int x1, .int x2, .int x3, .int x4, .int x5] 0 = some (.int x0) := rfl
  have i1 : atI [T.int x0, .int x1, .int x2, .int x3, .int x4, .int x5] 1 = some (.int x1) := rfl
  have i2 : atI [T.int x0, .int x1, .int x2, .int x3, .int x4, .int x5] 2 = some (.int x2) := rfl
  have i3 : atI [T.int x0, .int x1, .int x2, .int x3, .int x4, .int x5] 3 = some (.int x3) := rfl
  have i4 : atI [T.int x0, .int x1, .int x2, .int x3, .int x4, .int x5] 4 = some (.int x4) := rfl
  have i5 : atI [T.int x0, .int x1, .int x2, .int x3, .int x4, .int x5] 5 = some (.int x5) := rfl
  have e6 : (10 : Int) ^ (6 : Int).toNat = 1000000 := rfl
  have q0 : CPow 10 6 := ⟨by decide, by decide, by decide⟩
  have z1 : (0 : Int) < 1000000 + 1 := by decide
  have z2 : (0 : Int) < 2 := by decide
  have z4 : (0 : Int) < 4 := by decide
  have z5 : (0 : Int) < 5 := by decide
  have z50 : (0 : Int) < 50 := by decide
  have z70 : (0 : Int) < 70 := by decide
  have z301 : (0 : Int) < 301 := by decide
  have s4 : (4 : Nat) ≤ sizeLine := by decide
  have s5 : (5 : Nat) ≤ sizeLine := by decide
  have c2 : CDiv x2 2 := ⟨by decide, by decide⟩
  have zl : (0 : Int) < (xs.length : Int) := by omega
  obtain ⟨tb, htb⟩ : ∃ b, tableB xs = b := ⟨_, rfl⟩
  rw [htb] at t1 t2
  have tt : (tb == tb) = true := beq_self_eq_true tb
  unfold F_law_right D_law_right
  cases tb with
  | false =>
    clear hl1 hl2 h0 htb
    walk_at "ev"
  | true =>
    clear htb
    -- the reading
    obtain ⟨dk, _, hdk⟩ := pickI xs (i := x3 % (xs.length : Int)) (Int.emod_nonneg _ (by omega)) (Int.emod_lt_of_pos _ zl)
    obtain ⟨er, _, her⟩ := pickI [0, 1, 2, x4 % 50, x4 % (1000000 + 1)] (i := x5 % 5) (by omega) (by show x5 % 5 < 5; omega)
    replace her : atI [T.int 0, .int 1, .int 2, .int (x4 % 50), .int (x4 % (1000000 + 1))] (x5 % 5) = some (.int er) := her
    obtain ⟨g', hg', hg0⟩ := pickI [0, 300, x0 % 301, (xs.length : Int) - 1] (i := x2 / 2 % 4) (by omega) (by show x2 / 2 % 4 < 4; omega)
    have hgb : 0 ≤ g' ∧ g' ≤ 300 := by
      simp only [List.mem_cons, List.not_mem_nil, or_false] at hg'
      omega
    obtain ⟨G, rfl⟩ : ∃ G : Nat, g' = G := ⟨g'.toNat, by omega⟩
    replace hg0 : atI [T.int 0, .int 300, .int (x0 % 301), .int ((xs.length : Int) - 1)] (x2 / 2 % 4) = some (.int G) := hg0
    have turns : ∀ (o6 : Option T), forL (bName 5) (sSeq (sAsg [] (dDef 2 F_darkness_at (dCons (dVar 2) (dCons (dVar 5) dNil))) (bName 6))
        (sIf (dOr (dNot (dTru (dCB isiT (dCons (dVar 6) (dCons (dC (.ty "int")) dNil))))) (dOr (dTru (dCB isiT (dCons (dVar 6) (dCons (dC (.ty "bool")) dNil)))) (dTest (dBin neT (dVar 6) (dDef 2 F_law_at (dCons (dVar 1) (dCons (dVar 5) dNil))))))) (sRet [] (dC (.bl false))) sNext))
        [.int 0, .int ((xs.length : Int) - 1), .int (xs.length : Int), .int (x0 % 70), .int 300] [some (.int n), some (.lst true (xs.map .int)), some (.lst true (xs.map .int)), some (.bl true), some (.lst true [.int x0, .int x1, .int x2, .int x3, .int x4, .int x5]), none, o6, none, none] = .nx [some (.int n), some (.lst true (xs.map .int)), some (.lst true (xs.map .int)), some (.bl true), some (.lst true [.int x0, .int x1, .int x2, .int x3, .int x4, .int x5]), some (.int 300), some (.int (xs.getD (min 300 (xs.length - 1)) 0)), none, none] := by
      intro o6
      have r1 : ((xs.length : Int) - 1) = ((xs.length - 1 : Nat) : Int) := by omega
      have r2 : x0 % 70 = (((x0 % 70).toNat : Nat) : Int) := by omega
      have r3 : (x0 % 70).toNat ≤ 1000 := by omega
      rw [r1, r2]
      generalize (x0 % 70).toNat = k at r3
      simp only [forL, bName, List.set_cons_succ, List.set_cons_zero]
      have w0 := turn_dark xs 0 (by omega) h0 (by omega)
      have w1 := turn_dark xs (xs.length - 1) (by omega) h0 (by omega)
      have w2 := turn_dark xs xs.length (by omega) h0 (by omega)
      have w3 := turn_dark xs k r3 h0 (by omega)
      have w4 := turn_dark xs 300 (by omega) h0 (by omega)
      have c0 : ((0 : Nat) : Int) = 0 := rfl
      have c3 : ((300 : Nat) : Int) = 300 := rfl
      rw [c0] at w0
      rw [c3] at w4
      simp only [w0, w1, w2, w3, w4, List.set_cons_succ, List.set_cons_zero]
    have fin' : ∀ D : Int, F_ages_of [.lst false (xs.map .int), .int D, .int er, .int G] = .ok (ageT (hits xs D er (G + 1))) ∧ F_law_ages [.lst false (xs.map .int), .int D, .int er, .int G] = .ok (ageT (hits xs D er (G + 1))) ∧ F_law_told [ageT (hits xs D er (G + 1)), ageT (hits xs D er (G + 1))] = .ok (.bl true) := fun D =>
      ⟨e_ages_of false xs D er G h0 (by omega) (by omega), e_law_ages false xs D er G h0 (by omega) (by omega), e_law_told _⟩
    have y1 : ∀ D, frz (ageT (hits xs D er (G + 1))) = ageT (hits xs D er (G + 1)) := fun D => frz_age _
    have y2 : ∀ D, clean (ageT (hits xs D er (G + 1))) = true := fun D => clean_age _
    have y3 : ∀ D, noOwn (ageT (hits xs D er (G + 1))) = true := fun D => no_age _
    clear hg' hgb hl1 hl2 h0 p0
    have turns' := turns none
    clear turns
    have f1 := fun D => (fin' D).1
    have f2 := fun D => (fin' D).2.1
    have f3 := fun D => (fin' D).2.2
    clear fin'
    cases h2 : (x2 % 2 == 0) with
    | false => walk_at "ev"
    | true => walk_at "ev"
theorem main (ns : List Int) (h63 : ns.length ≤ 63) (hb : ∀ n ∈ ns, Builtin.Int.intBits n ≤ 1048576) : F_law [.lst false (ns.map .int)] = .ok (.bl true) := by
  unfold F_law D_law
  obtain ⟨ms, hms, hml, _⟩ := e_law_stirred_script ns h63 hb
  have hml' : ms.length ≤ 63 := by omega
  have t0 : F_is_table [.lst false []] = .ok (.bl false) := e_is_table false [] (by decide)
  have c10 : cutT (ms.map T.int) none (some 10) = (ms.take 10).map T.int := by
    have := cut_to (ms.map T.int) 10
    rw [← List.map_take] at this
    exact this
  have s0 : (0 : Nat) ≤ sizeLine := Nat.zero_le _
  have s1 : (1 : Nat) ≤ sizeLine := by decide
  have hcat : (ms.take 10).length + 1 ≤ sizeLine := le_line (by
    have := List.length_take_le 10 ms
    omega)
  have hap : (ms.take 10).map T.int ++ [T.int 7] = (ms.take 10 ++ [7]).map T.int := by rw [List.map_append]; rfl
  have ff : (false == false) = true := rfl
  clear hb hml
  generalize ms.take 10 = cs at c10 hcat hap
  walk_at "ev"
  generalize hL : forL _ _ _ _ = o
  obtain ⟨ρ', rfl, o1, rfl⟩ := forL_of (fun i ρ => ∃ (o1 : Option T), ρ = [some (.lst true (ms.map .int)), o1]) hL ⟨_, rfl⟩ (by
    rintro i t ρ et ⟨o1, rfl⟩
    obtain ⟨c, rfl⟩ : ∃ c, t = .int c := by
      rw [List.getElem?_map] at et
      cases q : (cs ++ [7])[i]? with
      | none => rw [q] at et; cases et
      | some w => rw [q] at et; exact ⟨w, (Option.some.inj et).symm⟩
    have r := e_law_right (if c < 0 then -c else c)
    clear et hL
    walk_at "ev"
    exact ⟨_, rfl⟩)
  clear hL
  walk_at "ev"
end Nk02

open PySem PySem.W PyProof.Rows
set_option maxRecDepth 100000 in
set_option maxHeartbeats 0 in
theorem PySem.Challenge.cw_inkyears_k02_inks_holds : PySem.Challenge.rw_inkyears_k02_inks.Holds := by
  w_on; o_law; k_head; (case hw => w_witness2)
  k_fill
  refine L2.walk_law (l := PySem.Challenge.rw_inkyears_k02_inks) (k := 5) (x := "_law_script") rfl rfl ⟨rfl, by decide, by decide⟩ (fun w h Y => PySem.W.kIn_of Y) ?F
  case F =>
    intro w mg fa h KX G hmg
    refine' Nk02.all_mk KX G hmg ?a0 ?l0 ?c0 ?k0 ?T ?t0 ?t1 ?t2 ?t3 ?t4 ?t5 ?t6 ?t7 ?t8 ?t9 ?t10 ?t11 ?t12 ?t13 Nk02.main
    (case a0 => k_is); (case l0 => k_is); (case c0 => k_is); (case k0 => k_is)
    case T =>
      refine' ⟨PySem.W.mg_none_of KX G ?_, PySem.W.mg_none_of KX G ?_, PySem.W.mg_none_of KX G ?_, PySem.W.mg_none_of KX G ?_, PySem.W.mg_none_of KX G ?_, PySem.W.mg_none_of KX G ?_, PySem.W.mg_none_of KX G ?_, PySem.W.mg_none_of KX G ?_, PySem.W.mg_none_of KX G ?_, PySem.W.mg_none_of KX G ?_, PySem.W.mg_none_of KX G ?_, PySem.W.mg_none_of KX G ?_, PySem.W.mg_none_of KX G ?_, PySem.W.mg_none_of KX G ?_, L2.glb_mk KX G ?a0 ?r0, L2.glb_mk KX G ?a1 ?r1⟩
      (case a0 => k_is); (case r0 => exact ⟨_, rfl⟩)
      (case a1 => k_is); (case r1 => exact ⟨_, rfl⟩)
      all_goals k_is
    case t0 => (refine' L2.top_mk KX G ?a ?l ?c ?k; (case a => k_is); (case l => k_is); (case c => k_is); (case k => k_is))
    case t1 => (refine' L2.top_mk KX G ?a ?l ?c ?k; (case a => k_is); (case l => k_is); (case c => k_is); (case k => k_is))
    case t2 => (refine' L2.top_mk KX G ?a ?l ?c ?k; (case a => k_is); (case l => k_is); (case c => k_is); (case k => k_is))
    case t3 => (refine' L2.top_mk KX G ?a ?l ?c ?k; (case a => k_is); (case l => k_is); (case c => k_is); (case k => k_is))
    case t4 => (refine' L2.top_mk KX G ?a ?l ?c ?k; (case a => k_is); (case l => k_is); (case c => k_is); (case k => k_is))
    case t5 => (refine' L2.top_mk KX G ?a ?l ?c ?k; (case a => k_is); (case l => k_is); (case c => k_is); (case k => k_is))
    case t6 => (refine' L2.top_mk KX G ?a ?l ?c ?k; (case a => k_is); (case l => k_is); (case c => k_is); (case k => k_is))
    case t7 => (refine' L2.top_mk KX G ?a ?l ?c ?k; (case a => k_is); (case l => k_is); (case c => k_is); (case k => k_is))
    case t8 => (refine' L2.top_mk KX G ?a ?l ?c ?k; (case a => k_is); (case l => k_is); (case c => k_is); (case k => k_is))
    case t9 => (refine' L2.top_mk KX G ?a ?l ?c ?k; (case a => k_is); (case l => k_is); (case c => k_is); (case k => k_is))
    case t10 => (refine' L2.top_mk KX G ?a ?l ?c ?k; (case a => k_is); (case l => k_is); (case c => k_is); (case k => k_is))
    case t11 => (refine' L2.top_mk KX G ?a ?l ?c ?k; (case a => k_is); (case l => k_is); (case c => k_is); (case k => k_is))
    case t12 => (refine' L2.top_mk KX G ?a ?l ?c ?k; (case a => k_is); (case l => k_is); (case c => k_is); (case k => k_is))
    case t13 => (refine' L2.top_mk KX G ?a ?l ?c ?k; (case a => k_is); (case l => k_is); (case c => k_is); (case k => k_is))


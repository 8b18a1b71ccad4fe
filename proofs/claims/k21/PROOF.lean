import PyProof.Rows.All
import Wide.All
import OpenK.AllK
import Wide.FinOn
import Lean
import PyProof.EqAt
import PyProof.EqKinds
import PyProof.TupleCall
import PyProof.NeKinds
import PyProof.ZipIter
import PyProof.EnumMake
import PyProof.Rows.ZipGen
import PyProof.Rows.SetFrom
import PyProof.IsiNone
import KE.KRevSl
import PySem.Challenge.RW_inkyears_k21_steps_of_a_heap
set_option Elab.async false
set_option linter.all false
set_option maxRecDepth 100000
set_option maxHeartbeats 4000000

namespace L2
open PySem PySem.Spec PyProof.Rows
abbrev rB := Sum Int Str
def ce2 : rB → Value → Bool
 | .inl k, v => Value.isInt k v
 | .inr x, v => Value.isStrOf x v
def de4 (w : World) : rB → Int
 | .inl k => hashInt k
 | .inr x => hashStr w x
theorem gI : ∀ {k : rB} {v : Value}, ce2 k v = true → (∃ i t, k = Sum.inl i ∧ v = Value.int i t) ∨ (∃ x t, k = Sum.inr x ∧ v = Value.str x t)
 | .inl i, v, h => by
  obtain ⟨t, e⟩ := Value.isInt_shape (k := i) (v := v) h
  exact .inl ⟨i, t, rfl, e⟩
 | .inr x, v, h => by
  obtain ⟨t, e⟩ := Value.isStrOf_shape (x := x) (v := v) h
  exact .inr ⟨x, t, rfl, e⟩
theorem cx6 (a b : Int) : decide ((Sum.inl a : rB) = Sum.inl b) = (a == b) := by
 by_cases e : a = b
 · subst e; simp
 · have h : ¬ (Sum.inl a : rB) = Sum.inl b := fun q => e (Sum.inl.inj q)
   rw [decide_eq_false h]
   exact (beq_eq_false_iff_ne.mpr e).symm
theorem cu8 (a b : Str) : decide ((Sum.inr a : rB) = Sum.inr b) = decide (a = b) := by
 by_cases e : a = b
 · subst e; simp
 · have h : ¬ (Sum.inr a : rB) = Sum.inr b := fun q => e (Sum.inr.inj q)
   rw [decide_eq_false h, decide_eq_false e]
theorem ce9 (a : Int) (b : Str) : decide ((Sum.inl a : rB) = Sum.inr b) = false := decide_eq_false (fun q => nomatch q)
theorem cj9 (a : Str) (b : Int) : decide ((Sum.inr a : rB) = Sum.inl b) = false := decide_eq_false (fun q => nomatch q)
def aq3 (prog : Program) (w : World) : PySem.KeyKind prog w rB where
 is := ce2
 hash := de4 w
 inj := fun v a b ha hb => by
  rcases gI ha with ⟨i, t, rfl, rfl⟩ | ⟨x, t, rfl, rfl⟩
  · rcases gI hb with ⟨j, u, rfl, e⟩ | ⟨y, u, rfl, e⟩
    · injection e with e1 _; rw [e1]
    · exact nomatch e
  · rcases gI hb with ⟨j, u, rfl, e⟩ | ⟨y, u, rfl, e⟩
    · exact nomatch e
    · injection e with e1 _; rw [e1]
 byValue := fun k v h => by
  rcases gI h with ⟨i, t, rfl, rfl⟩ | ⟨x, t, rfl, rfl⟩ <;> rfl
 pyHash := fun hv h => by
  rcases gI hv with ⟨i, t, rfl, rfl⟩ | ⟨x, t, rfl, rfl⟩
  · exact wpAny_pyHash_int h
  · exact wpAny_pyHash_str h
 eqBool := fun hu hv h => by
  rcases gI hu with ⟨i, t, rfl, rfl⟩ | ⟨x, t, rfl, rfl⟩
  · rcases gI hv with ⟨j, u, rfl, rfl⟩ | ⟨y, u, rfl, rfl⟩
    · rw [cx6] at h; exact wpAny_eqBool_int h
    · rw [ce9] at h; exact SeqAt.EqAt.int_str i t y u _ _ _ _ h
  · rcases gI hv with ⟨j, u, rfl, rfl⟩ | ⟨y, u, rfl, rfl⟩
    · rw [cj9] at h; exact SeqAt.EqAt.str_int x t j u _ _ _ _ h
    · rw [cu8] at h; exact wpAny_eqBool_str h
 «strs» := fun k x t v h => by
  rcases gI h with ⟨i, u, rfl, e⟩ | ⟨y, u, rfl, e⟩
  · exact nomatch e
  · injection e with e1 _
    subst e1
    cases v <;> rfl
end L2
namespace L2
open PySem PySem.Spec PyProof.Rows
inductive V where
 | non | bl (b : Bool) | int (i : Int) | str (x : Str) | byt (b : Array UInt8) | flt (b : UInt64) | ref (a : Addr) | ty (n : String)
 deriving DecidableEq
def RelV : V → Value → Prop
 | .non, u => u = Value.none
 | .bl b, u => u = Value.bool b
 | .int i, u => ∃ t, u = Value.int i t
 | .str x, u => ∃ t, u = Value.str x t
 | .byt b, u => ∃ t, u = Value.bytes b t
 | .flt b, u => ∃ t, u = Value.float b t
 | .ref a, u => u = Value.ref a
 | .ty n, u => u = Value.type n
abbrev Vals : List V → List Value → Prop := Paired RelV
theorem Vals.length {xs : List V} {us : List Value} (r : Vals xs us) : xs.length = us.length := Paired.length r
theorem Vals.get : ∀ {xs : List V} {us : List Value} {i : Nat} {x : V}, Vals xs us → xs[i]? = some x → ∃ u, us[i]? = some u ∧ RelV x u
 | _, _, _, _, .nil, e => by simp at e
 | _, _, 0, _, .cons r _, e => by simp at e; subst e; exact ⟨_, rfl, r⟩
 | _, _, i + 1, x, .cons _ t, e => by
  obtain ⟨u, h1, h2⟩ := Vals.get (i := i) (x := x) t (by simpa using e)
  exact ⟨u, by simpa using h1, h2⟩
theorem Vals.append : ∀ {xs ys : List V} {us ws : List Value}, Vals xs us → Vals ys ws → Vals (xs ++ ys) (us ++ ws)
 | _, _, _, _, .nil, s => s
 | _, _, _, _, .cons r t, s => .cons r (Vals.append t s)
theorem Vals.take : ∀ {xs : List V} {us : List Value} (n : Nat), Vals xs us → Vals (xs.take n) (us.take n)
 | _, _, 0, _ => .nil
 | _, _, _ + 1, .nil => .nil
 | _, _, n + 1, .cons r t => .cons r (Vals.take n t)
theorem Vals.drop : ∀ {xs : List V} {us : List Value} (n : Nat), Vals xs us → Vals (xs.drop n) (us.drop n)
 | _, _, 0, r => r
 | _, _, _ + 1, .nil => .nil
 | _, _, n + 1, .cons _ t => Vals.drop n t
def RelO : Option V → Option Value → Prop
 | some v, some u => RelV v u
 | none, none => True
 | _, _ => False
def KV {κ : Type} : List (κ × V) → List (κ × Value) → Prop := Paired fun (p : κ × V) (q : κ × Value) => p.1 = q.1 ∧ RelV p.2 q.2
def kV : rB → V
 | .inl i => .int i
 | .inr x => .str x
inductive HO where
 | lst (xs : List V)
 | tup (xs : List V)
 | dK (kvs : List (rB × V)) | dT (kvs : List (List rB × V))
 | set (S : Int → Bool) (n : Nat)
 | ins (C dx : Addr) (fs : List (Str × V))
 | own (x : Addr)
 | xd (fs : List (Str × V))
 | met (f x : Addr)
 | rng (lo hi : Int)
 | frz (o : Obj) (u : HO)
 | tbl (ps : Array Value)
 | ext (φ : Heap → Prop)
abbrev Hp := Addr → Option HO
def upd (H : Hp) (a : Addr) (o : HO) : Hp := fun b => if b = a then some o else H b
theorem dZ {H : Hp} {a : Addr} {o : HO} : upd H a o a = some o := by unfold upd; rw [if_pos rfl]
theorem cQ {H : Hp} {a b : Addr} {o : HO} (h : b ≠ a) : upd H a o b = H b := by unfold upd; rw [if_neg h]
theorem gG {H : Hp} {a b : Addr} {o : HO} (h : H a = some o) (h' : H b = none) : a ≠ b := by
 intro e; subst e; rw [h] at h'; cases h'
section
variable (P : Program) (w : World)
def ObjOk (H : Hp) (h : Heap) (a : Addr) : HO → Prop
 | .lst xs => xs.length ≤ sizeLine ∧ ∃ (its : List Value) (n : Nat), Vals xs its ∧ h.get? a = some { cls := .type "list", data := .seq its.toArray n }
 | .tup xs => xs.length ≤ sizeLine ∧ ∃ its : List Value, Vals xs its ∧ IsTup h a its.toArray
 | .dK kvs => kvs.length ≤ sizeLine ∧ (a == sysModules) = false ∧ ∃ vs, KV kvs vs ∧ h.DictOf (aq3 P w) a vs
 | .dT kvs => kvs.length ≤ sizeLine ∧ (a == sysModules) = false ∧ ∃ xs : List (List rB × Addr × Value),
  Paired (fun (p : List rB × V) (q : List rB × Addr × Value) => p.1 = q.1 ∧ H q.2.1 = some (.tup (p.1.map kV)) ∧ RelV p.2 q.2.2) kvs xs ∧
  ∃ o es ep, h.get? a = some o ∧ o.ExactDict ∧ o.data = .dict es ep ∧ es.toList = xs.map (entryOfKey (tupleKind (aq3 P w))) ∧ (xs.map (·.1)).Nodup
 | .set S n => h.SetOf (intKind P w) a S n
 | .ins C dx fs => H dx = some (.own a) ∧ fs.length ≤ 1000 ∧ dx ≠ a ∧ h.get? a = some (PySem.W.instObj C dx) ∧
  ∃ mA, h.Ns1 dx mA ∧ (∀ f, RelO (fs.lookup f) (mA f)) ∧ PySem.Within mA (fs.map (·.1))
 | .own _ => ∃ o, h.get? a = some o
 | .xd fs => ∃ mA, h.Ns1 a mA ∧ ∀ f, RelO (fs.lookup f) (mA f)
 | .rng lo hi => ∃ t u v, h.get? a = some { cls := .type "range", data := .fields #[.int lo t, .int hi u, .int 1 v] }
 | .frz o u => h.get? a = some o ∧ ObjOk H h a u
 | .tbl ps => h.get? a = some { cls := .none, data := .fields ps }
 | .met f x => h.get? a = some (PySem.W.methodObj (.ref f) (.ref x))
 | .ext φ => φ h ∧ (∃ o, h.get? a = some o) ∧ ∀ h1 h2 : Heap, φ h1 → (∀ o, h1.get? a = some o → h2.get? a = some o) → φ h2
def HOk (H : Hp) (h : Heap) : Prop := ∀ a o, H a = some o → ObjOk P w H h a o
end
section
variable {P : Program} {w : World} {H H' : Hp} {h h' : Heap} {a : Addr} {o : HO}
theorem ObjOk.lt (x : ObjOk P w H h a o) : a < h.objs.size := by
 cases o with
 | lst xs => obtain ⟨_, _, _, _, e⟩ := x; exact Heap.lt_size e
 | tup xs => obtain ⟨_, _, _, p⟩ := x; exact p.lt
 | dK kvs => obtain ⟨_, _, _, _, o, _, _, e, _⟩ := x; exact Heap.lt_size e
 | dT kvs => obtain ⟨_, _, _, _, o, _, _, e, _⟩ := x; exact Heap.lt_size e
 | set S n => obtain ⟨o, _, _, _, e, _⟩ := x; exact Heap.lt_size e
 | ins C dx fs => obtain ⟨_, _, _, e, _⟩ := x; exact Heap.lt_size e
 | own y => obtain ⟨_, e⟩ := x; exact Heap.lt_size e
 | xd fs => obtain ⟨_, ⟨_, _, _, e, _⟩, _⟩ := x; exact Heap.lt_size e
 | rng lo hi => obtain ⟨_, _, _, e⟩ := x; exact Heap.lt_size e
 | frz ob u => obtain ⟨e, _⟩ := x; exact Heap.lt_size e
 | tbl ps => exact Heap.lt_size (show h.get? a = some _ from x)
 | met f y => exact Heap.lt_size (show h.get? a = some _ from x)
 | ext φ => obtain ⟨_, ⟨_, e⟩, _⟩ := x; exact Heap.lt_size e
theorem Paired.mapP {α β : Type} {F G : α → β → Prop} : ∀ {l₁ : List α} {l₂ : List β}, Paired F l₁ l₂ → (∀ a b, F a b → G a b) → Paired G l₁ l₂
 | _, _, .nil, _ => .nil
 | _, _, .cons r t, f => .cons (f _ _ r) (Paired.mapP t f)
theorem ObjOk.stay (x : ObjOk P w H h a o) (k : ∀ b u, (b = a ∨ H b = some (.own a)) → h.get? b = some u → h'.get? b = some u)
 (ho : ∀ b, H b = some (.own a) → H' b = some (.own a)) (ht : ∀ b xs, H b = some (.tup xs) → H' b = some (.tup xs)) : ObjOk P w H' h' a o := by
 induction o with
 | lst xs => obtain ⟨z, its, n, r, e⟩ := x; exact ⟨z, its, n, r, k _ _ (.inl rfl) e⟩
 | tup xs => obtain ⟨z, its, r, ob, e, c⟩ := x; exact ⟨z, its, r, ob, k _ _ (.inl rfl) e, c⟩
 | dK kvs => obtain ⟨z, y, vs, r, ob, es, ep, e, c⟩ := x; exact ⟨z, y, vs, r, ob, es, ep, k _ _ (.inl rfl) e, c⟩
 | dT kvs =>
  obtain ⟨z, y, xs, r, ob, es, ep, e, c⟩ := x
  exact ⟨z, y, xs, Paired.mapP r fun p q z => ⟨z.1, ht _ _ z.2.1, z.2.2⟩, ob, es, ep, k _ _ (.inl rfl) e, c⟩
 | set S n => obtain ⟨ob, es, ep, t, e, c⟩ := x; exact ⟨ob, es, ep, t, k _ _ (.inl rfl) e, c⟩
 | ins C dx fs =>
  obtain ⟨d, z, ne, e, mA, ⟨od, es, ep, e2, c⟩, r⟩ := x
  exact ⟨ho _ d, z, ne, k _ _ (.inl rfl) e, mA, ⟨od, es, ep, k _ _ (.inr d) e2, c⟩, r⟩
 | own y => obtain ⟨ob, e⟩ := x; exact ⟨ob, k _ _ (.inl rfl) e⟩
 | xd fs => obtain ⟨mA, ⟨od, es, ep, e, c⟩, r⟩ := x; exact ⟨mA, ⟨od, es, ep, k _ _ (.inl rfl) e, c⟩, r⟩
 | rng lo hi => obtain ⟨t, u, v, e⟩ := x; exact ⟨t, u, v, k _ _ (.inl rfl) e⟩
 | frz ob u ih => obtain ⟨e, q⟩ := x; exact ⟨k _ _ (.inl rfl) e, ih q⟩
 | tbl ps =>
  have e : h.get? a = some { cls := .none, data := .fields ps } := x
  show h'.get? a = some { cls := .none, data := .fields ps }
  exact k a _ (.inl rfl) e
 | met f y =>
  have e : h.get? a = some (PySem.W.methodObj (.ref f) (.ref y)) := x
  show h'.get? a = some (PySem.W.methodObj (.ref f) (.ref y))
  exact k a _ (.inl rfl) e
 | ext φ => obtain ⟨p, ⟨o, e⟩, st⟩ := x; exact ⟨st _ _ p fun o q => k _ _ (.inl rfl) q, ⟨o, k _ _ (.inl rfl) e⟩, st⟩
theorem HOk.lt (x : HOk P w H h) (e : H a = some o) : a < h.objs.size := (x a o e).lt
theorem HOk.fresh (x : HOk P w H h) (e : h.objs.size ≤ a) : H a = none := by
 cases q : H a with
 | none => rfl
 | some u => exact absurd (Nat.lt_of_lt_of_le (x.lt q) e) (Nat.lt_irrefl _)
theorem HOk.kept (x : HOk P w H h) (k : ∀ b u, h.get? b = some u → h'.get? b = some u) : HOk P w H h' := fun a o e =>
 (x a o e).stay (fun b u _ q => k b u q) (fun _ q => q) fun _ _ q => q
theorem HOk.laid (x : HOk P w H h) (k : ∀ b u, h.get? b = some u → h'.get? b = some u) (hp : h.objs.size ≤ a) (new : ObjOk P w (upd H a o) h' a o) : HOk P w (upd H a o) h' := fun b u e => by
 have hn := x.fresh hp
 by_cases hb : b = a
 · subst hb; rw [dZ] at e; cases e; exact new
 · rw [cQ hb] at e
   exact (x b u e).stay (fun c v _ q => k c v q) (fun c q => by rw [cQ (gG q hn)]; exact q) fun c xs q => by rw [cQ (gG q hn)]; exact q
end
def Rd (H : Hp) (a : Addr) (u : HO) : Prop := H a = some u ∨ ∃ o, H a = some (.frz o u)
theorem Rd.ok {P : Program} {w : World} {H : Hp} {h : Heap} {a : Addr} {u : HO} (r : Rd H a u) (x : HOk P w H h) : ObjOk P w H h a u := by
 rcases r with r | ⟨o, r⟩
 · exact x a u r
 · obtain ⟨_, q⟩ := x a _ r
   exact q
def Mut : Option HO → Prop
 | some (.lst _) => True
 | some (.dK _) => True
 | some (.dT _) => True
 | some (.set _ _) => True
 | some (.ins _ _ _) => True
 | some (.ext _) => True
 | _ => False
section
variable {P : Program} {w : World} {H : Hp} {h h' : Heap} {x e : Addr} {o' : HO}
theorem HOk.write (ok : HOk P w H h) (mu : Mut (H x)) (he : e = x ∨ H e = some (.own x)) (k : ∀ b u, b ≠ e → h.get? b = some u → h'.get? b = some u) (heo : ∃ u, h'.get? e = some u)
 (new : ObjOk P w (upd H x o') h' x o') : HOk P w (upd H x o') h' := fun b u q => by
 have nown : ∀ c y, H c = some (.own y) → c ≠ x := fun c y r z => by subst z; rw [r] at mu; exact mu
 have ntup : ∀ c xs, H c = some (.tup xs) → c ≠ x := fun c xs r z => by subst z; rw [r] at mu; exact mu
 by_cases hb : b = x
 · subst hb; rw [dZ] at q; cases q; exact new
 · rw [cQ hb] at q
   by_cases hbe : b = e
   · have q' : H b = some (.own x) := by
      rcases he with z | z
      · exact absurd (hbe.trans z) hb
      · rw [hbe]; exact z
     rw [q] at q'; cases q'
     obtain ⟨v, hv⟩ := heo
     exact ⟨v, by rw [hbe]; exact hv⟩
   · refine (ok b u q).stay (fun c v hc r => k c v ?_ r) (fun c r => by rw [cQ (nown c b r)]; exact r) fun c xs r => by rw [cQ (ntup c xs r)]; exact r
     rcases hc with rfl | hc
     · exact hbe
     · rintro rfl
       rcases he with z | z
       · exact nown c b hc z
       · rw [hc] at z; cases z; exact hb rfl
end
structure Un (fs ex : List Addr) (H H' : Hp) (h h' : Heap) : Prop where
 keep : ∀ b o, h.get? b = some o → H b = none → b ∉ fs → b ∉ ex → h'.get? b = some o
 slot : ∀ b o, h.get? b = some o → H b = none → b ∈ fs → b ∉ ex → ∃ sl, h'.get? b = some { o with slots := sl }
 free : ∀ b o, h.get? b = some o → H b = none → b ∉ ex → H' b = none
 there : ∀ b o, h.get? b = some o → b ∉ ex → ∃ o', h'.get? b = some o'
 tups : ∀ b xs, H b = some (.tup xs) → H' b = some (.tup xs)
 frzs : ∀ b o u, H b = some (.frz o u) → H' b = some (.frz o u)
 tbls : ∀ b ps, H b = some (.tbl ps) → ∃ more, H' b = some (.tbl (ps ++ more))
section
variable {fs fs' ex ex' : List Addr} {H H1 H2 : Hp} {h h1 h2 h' : Heap} {a x e : Addr} {o : HO}
theorem Un.any (u : Un fs ex H H1 h h1) {b : Addr} {ob : Obj} (q : h.get? b = some ob) (n : H b = none) (hx : b ∉ ex) : ∃ sl, h1.get? b = some { ob with slots := sl } := by
 by_cases hb : b ∈ fs
 · exact u.slot b ob q n hb hx
 · exact ⟨ob.slots, u.keep b ob q n hb hx⟩
theorem Un.kept (k : ∀ b u, h.get? b = some u → h'.get? b = some u) : Un fs ex H H h h' :=
 ⟨fun b ob q _ _ _ => k b ob q, fun b ob q _ _ _ => ⟨ob.slots, k b ob q⟩, fun _ _ _ n _ => n, fun b ob q _ => ⟨ob, k b ob q⟩, fun _ _ q => q, fun _ _ _ q => q, fun _ ps q => ⟨#[], by rw [q]; simp⟩⟩
theorem Un.refl : Un fs ex H H h h := Un.kept fun _ _ q => q
theorem Un.laid (k : ∀ b u, h.get? b = some u → h'.get? b = some u) (hp : h.objs.size ≤ a) (hn : H a = none) : Un fs ex H (upd H a o) h h' where
 keep := fun b u q _ _ _ => k b u q
 slot := fun b u q _ _ _ => ⟨u.slots, k b u q⟩
 free := fun b u q n _ => by rw [cQ (Nat.ne_of_lt (Nat.lt_of_lt_of_le (Heap.lt_size q) hp))]; exact n
 there := fun b u q _ => ⟨u, k b u q⟩
 tups := fun b xs q => by rw [cQ (gG q hn)]; exact q
 frzs := fun b u xs q => by rw [cQ (gG q hn)]; exact q
 tbls := fun b ps q => ⟨#[], by rw [cQ (gG q hn), q]; simp⟩
theorem Un.write (mu : Mut (H x)) (he : e = x ∨ H e = some (.own x)) (k : ∀ b u, b ≠ e → h.get? b = some u → h'.get? b = some u) (heo : ∃ u, h'.get? e = some u) : Un fs ex H (upd H x o) h h' := by
 have hx : ∀ b, H b = none → b ≠ x := fun b n z => by subst z; rw [n] at mu; exact mu
 have hb : ∀ b, H b = none → b ≠ e := fun b n z => by
  subst z
  rcases he with r | r
  · exact hx b n r
  · rw [n] at r; cases r
 have hm : ∀ b u, H b = some u → ¬ Mut (some u) → b ≠ x := fun b u q nm z => by subst z; rw [q] at mu; exact nm mu
 refine ⟨fun b u q n _ _ => k b u (hb b n) q, fun b u q n _ _ => ⟨u.slots, k b u (hb b n) q⟩, fun b u q n _ => by rw [cQ (hx b n)]; exact n, fun b u q _ => ?_,
  fun b xs q => by rw [cQ (hm b _ q fun z => z)]; exact q, fun b u xs q => by rw [cQ (hm b _ q fun z => z)]; exact q, fun b ps q => ⟨#[], by rw [cQ (hm b _ q fun z => z), q]; simp⟩⟩
 by_cases hbe : b = e
 · subst hbe; exact heo
 · exact ⟨u, k b u hbe q⟩
end
def trk (h : Heap) (H : Hp) : List Addr := (List.range h.objs.size).filter fun a => (H a).isSome
def vR (h : Heap) (H : Hp) : Heap := PySem.W.hideAll h (trk h H)
theorem bv5 (h : Heap) (H : Hp) : (vR h H).objs.size = h.objs.size := PySem.W.hideAll_size _ _
theorem cy0 {h : Heap} {H : Hp} {b : Addr} {o : Obj} (e : h.get? b = some o) (n : H b = none) : (vR h H).get? b = some o :=
 PySem.W.hideAll_get _ e fun hm => by
  have q : (H b).isSome = true := (List.mem_filter.mp hm).2
  rw [n] at q; simp at q
theorem cb5 {h : Heap} {H : Hp} {b : Addr} {o : Obj} (e : (vR h H).get? b = some o) : h.get? b = some o ∧ H b = none := by
 have e' : h.get? b = some o := PySem.W.of_hideAll (trk h H) e
 refine ⟨e', ?_⟩
 cases q : H b with
 | none => rfl
 | some x =>
  have hm : b ∈ trk h H := List.mem_filter.mpr ⟨List.mem_range.mpr (Heap.lt_size e'), by simp [q]⟩
  have z : (vR h H).get? b = none := PySem.W.hideAll_none (trk h H) hm
  rw [z] at e; cases e
end L2
namespace L2
open PySem PySem.Spec PyProof.Rows
structure Mod (K : PySem.W.Frag) (mg : Str → Option Value) (base : Heap) : Prop where
 kin : K.In base
 glob : base.Ns mainGlobals mg
 blt : ∃ mb, base.Ns builtinsNs mb ∧ ∀ x : Str, x ≠ "__name__" → mb x = bootBuiltins x
 nolimit : base.NoLimit
structure Cx where
 prog : Program
 w : World
 K : PySem.W.Frag
 mg : Str → Option Value
 base : Heap
 A : Around
 N : List Str
 s₀ : Shared
 H₀ : Hp
 env : Env
 outer : List Env
 stack : List Env
 ex : List Addr
 fn : Str → Bool
 calm : Bool
 pn : List (Addr × Obj)
 xe : Value → Shared → Prop
def uO (l : List Env) : List Addr := l.filterMap (·.frame)
abbrev Cx.fs (X : Cx) : List Addr := uO X.outer
def Vis (sc : Scope) (x : Str) : Prop := sc.names.lookup x = some .local ∨ sc.names.lookup x = some .cell ∨ sc.names.lookup x = some .free
def Loc (sc : Scope) (x : Str) : Prop := sc.names.lookup x = some .local ∨ sc.names.lookup x = some .cell
def dn4 (env : Env) (h : Heap) (m : Str → Option Value) (x : Str) (u : Value) : Prop :=
 (env.kindOf x = some .local ∧ m x = some u) ∨ ((env.kindOf x = some .cell ∨ env.kindOf x = some .free) ∧ ∃ c, env.cells.lookup x = some c ∧ h.IsCell c (some u))
structure Cx.Ok (X : Cx) : Prop where
 mod : Mod X.K X.mg X.base
 kind : X.env.scope.kind = .function
 glob : X.env.globals = mainGlobals
 blt : X.env.builtins = builtinsNs
 above : X.s₀.heap.objs.size ≤ X.env.locals
 inj : ∀ x y c, X.env.cells.lookup x = some c → X.env.cells.lookup y = some c → x = y
 has : ∀ x, (X.env.kindOf x = some .cell ∨ X.env.kindOf x = some .free) → ∃ c, X.env.cells.lookup x = some c
 cab : ∀ x c, X.fn x = true → X.env.cells.lookup x = some c → X.s₀.heap.objs.size ≤ c
 hd : X.calm = true → X.A.handled = none
 frames : X.A.frames = some X.stack
 stk : X.stack = X.outer ∨ (X.stack = X.env :: X.outer ∧ X.env.frame = some X.env.locals)
 exf : ∀ b ∈ X.ex, b ≠ X.env.locals ∧ ∀ x c, X.env.cells.lookup x = some c → c ≠ b
 bs : ∀ b o, X.base.get? b = some o → X.s₀.heap.get? b = some o ∧ X.H₀ b = none
 bsz : X.base.objs.size ≤ X.s₀.heap.objs.size
 noex : ∀ b o, X.base.get? b = some o → b ∉ X.ex
 exfs : ∀ b ∈ X.ex, b ∉ X.fs
 funs : X.s₀.heap.FunFrames X.base X.outer
 frf : ∀ b ∈ X.fs, X.H₀ b = none
structure Inv (X : Cx) (pins : List (Addr × Obj)) (σ : List (Option V)) (H : Hp) (s : Shared) : Prop where
 ok : X.Ok
 os : s.os = X.s₀.os
 bare : AllBare s.gens
 base : Un X.fs X.ex X.H₀ H X.s₀.heap s.heap
 loc : ∃ m, s.heap.Ns X.env.locals m ∧ ∀ (i : Nat) (x : Str) (v : V), X.N[i]? = some x → σ[i]? = some (some v) → Vis X.env.scope x → ∃ u, RelV v u ∧ dn4 X.env s.heap m x u
 cell : ∀ x c, X.env.cells.lookup x = some c → ∃ v, s.heap.IsCell c v
 free : H X.env.locals = none
 freeC : ∀ x c, X.env.cells.lookup x = some c → H c = none
 pin : ∀ p ∈ X.pn ++ pins, s.heap.get? p.1 = some p.2 ∧ H p.1 = none ∧ p.1 ≠ X.env.locals ∧ p.1 ∉ X.fs ∧ ∀ v, p.2.data ≠ .cell v
 hok : HOk X.prog X.w H s.heap
 len : σ.length = X.N.length
section
variable {X : Cx} {pins : List (Addr × Obj)} {σ : List (Option V)} {H H' : Hp} {s : Shared} {h' : Heap}
theorem Cx.Ok.nofr (ok : X.Ok) {b : Addr} {o : Obj} (e : X.base.get? b = some o) : b ∉ X.fs := fun hb => by
 have := (ok.funs.mem hb).1
 rw [e] at this; cases this
theorem Inv.bs (I : Inv X pins σ H s) : ∀ b o, X.base.get? b = some o → s.heap.get? b = some o ∧ H b = none := fun b o e =>
 ⟨I.base.keep b o (I.ok.bs b o e).1 (I.ok.bs b o e).2 (I.ok.nofr e) (I.ok.noex b o e), I.base.free b o (I.ok.bs b o e).1 (I.ok.bs b o e).2 (I.ok.noex b o e)⟩
theorem Inv.bk (I : Inv X pins σ H s) : ∀ b o, X.base.get? b = some o → s.heap.get? b = some o := fun b o e => (I.bs b o e).1
theorem Inv.mod (I : Inv X pins σ H s) : Mod X.K X.mg X.base := I.ok.mod
theorem Inv.kIn (I : Inv X pins σ H s) : X.K.In s.heap := I.ok.mod.kin.keeps I.bk
theorem Inv.fr (I : Inv X pins σ H s) : ∃ m, Fr X.base X.env.locals s.heap m :=
 let ⟨m, hn, _⟩ := I.loc
 ⟨m, hn, I.bk, Nat.le_trans I.ok.bsz I.ok.above⟩
theorem Inv.lt (I : Inv X pins σ H s) : X.env.locals < s.heap.objs.size := let ⟨_, hn, _⟩ := I.loc; hn.lt
theorem Inv.sz (I : Inv X pins σ H s) : X.s₀.heap.objs.size ≤ s.heap.objs.size := Nat.le_trans I.ok.above (Nat.le_of_lt I.lt)
theorem Inv.nofs (I : Inv X pins σ H s) {a : Addr} (h : s.heap.objs.size ≤ a) : a ∉ X.fs := fun hb => by
 obtain ⟨_, o, ho, _⟩ := I.ok.funs.mem hb
 exact absurd (Nat.lt_of_lt_of_le (Heap.lt_size ho) (Nat.le_trans I.sz h)) (Nat.lt_irrefl _)
theorem Inv.cne (I : Inv X pins σ H s) : ∀ x c, X.env.cells.lookup x = some c → c ≠ X.env.locals := fun x c e z => by
 obtain ⟨v, o, ho, hd⟩ := I.cell x c e
 obtain ⟨m, ⟨o', es, ep, ho', hd', _⟩, _⟩ := I.loc
 rw [z, ho'] at ho; cases ho; rw [hd'] at hd; cases hd
theorem Inv.funs (I : Inv X pins σ H s) : s.heap.FunFrames X.base X.outer := by
 have all : ∀ (l : List Env), (∀ b ∈ uO l, b ∈ X.fs) → X.s₀.heap.FunFrames X.base l → s.heap.FunFrames X.base l := by
  intro l
  induction l with
  | nil => intro _ _; trivial
  | cons env r ih =>
   intro hs hl
   obtain ⟨hk, ⟨L, o, hf, hn, ho, hd⟩, hr⟩ := hl
   have hL : L ∈ X.fs := hs L (by unfold uO; rw [List.filterMap_cons, hf]; exact List.mem_cons_self)
   obtain ⟨sl, e⟩ := I.base.slot L o ho (I.ok.frf L hL) hL fun z => I.ok.exfs L z hL
   exact ⟨hk, ⟨L, _, hf, hn, e, hd⟩, ih (fun b hb => hs b (by unfold uO; rw [List.filterMap_cons, hf]; exact List.mem_cons_of_mem _ hb)) hr⟩
 exact all X.outer (fun _ hb => hb) I.ok.funs
theorem Inv.stack (I : Inv X pins σ H s) : s.heap.FunFrames X.base X.stack := by
 rcases I.ok.stk with e | ⟨e, hf⟩
 · rw [e]; exact I.funs
 · rw [e]
   obtain ⟨m, hn, _⟩ := I.loc
   refine .cons (by rw [I.ok.kind]; decide) hf hn ?_ I.funs
   exact Heap.get?_none_of_le (Nat.le_trans I.ok.bsz I.ok.above)
theorem Inv.stkSub (I : Inv X pins σ H s) : ∀ b ∈ uO X.stack, b ∈ X.env.locals :: X.fs := fun b hb => by
 rcases I.ok.stk with e | ⟨e, hf⟩
 · rw [e] at hb; exact List.mem_cons_of_mem _ hb
 · rw [e] at hb
   unfold uO at hb
   rw [List.filterMap_cons, hf] at hb
   exact hb
theorem Inv.stkFree (I : Inv X pins σ H s) : ∀ b ∈ uO X.stack, H b = none := fun b hb => by
 rcases List.mem_cons.mp (I.stkSub b hb) with e | hb
 · rw [e]; exact I.free
 · obtain ⟨_, o, ho, _⟩ := I.ok.funs.mem hb
   exact I.base.free b o ho (I.ok.frf b hb) fun z => I.ok.exfs b z hb
theorem Inv.step {g' : Array GenState} {t' : Nat} {d' : Drawn} {ch : List Addr} (I : Inv X pins σ H s)
 (hch : ∀ b ∈ ch, (b ∈ X.ex ∨ X.s₀.heap.objs.size ≤ b) ∧ b ≠ X.env.locals ∧ (∀ x c, X.env.cells.lookup x = some c → c ≠ b) ∧ ∀ p ∈ X.pn ++ pins, p.1 ≠ b)
 (keep : ∀ b o, b ≠ X.env.locals → b ∉ X.fs → b ∉ ch → s.heap.get? b = some o → H b = none → h'.get? b = some o)
 (slot : ∀ b o, b ≠ X.env.locals → b ∈ X.fs → b ∉ ch → s.heap.get? b = some o → H b = none → ∃ sl, h'.get? b = some { o with slots := sl }) (free : ∀ b o, b ∉ ch → s.heap.get? b = some o → H b = none → H' b = none)
 (there : ∀ b o, b ∉ ch → s.heap.get? b = some o → ∃ o', h'.get? b = some o')
 (tups : ∀ b xs, H b = some (.tup xs) → H' b = some (.tup xs)) (frzs : ∀ b o u, H b = some (.frz o u) → H' b = some (.frz o u)) (tbls : ∀ b ps, H b = some (.tbl ps) → ∃ more, H' b = some (.tbl (ps ++ more)))
 (ns : ∀ m, s.heap.Ns X.env.locals m → h'.Ns X.env.locals m) (hok : HOk X.prog X.w H' h') (hg : AllBare g') :
 Inv X pins σ H' { s with heap := h', gens := g', drawn := d', toks := t' } := by
 have neL : ∀ b o, X.s₀.heap.get? b = some o → b ≠ X.env.locals := fun b o e => Nat.ne_of_lt (Nat.lt_of_lt_of_le (Heap.lt_size e) I.ok.above)
 have neC : ∀ b o, X.s₀.heap.get? b = some o → b ∉ X.ex → b ∉ ch := fun b o e hx hb => by
  rcases (hch b hb).1 with z | z
  · exact hx z
  · exact absurd (Nat.lt_of_lt_of_le (Heap.lt_size e) z) (Nat.lt_irrefl _)
 have cellK : ∀ x c, X.env.cells.lookup x = some c → ∀ v, s.heap.IsCell c v → h'.IsCell c v := fun x c e v ⟨o, ho, hd⟩ => by
  have nch : c ∉ ch := fun z => (hch c z).2.2.1 x c e rfl
  by_cases hc : c ∈ X.fs
  · obtain ⟨sl, q⟩ := slot c o (I.cne x c e) hc nch ho (I.freeC x c e)
    exact ⟨_, q, hd⟩
  · exact ⟨o, keep c o (I.cne x c e) hc nch ho (I.freeC x c e), hd⟩
 refine ⟨I.ok, I.os, hg, ⟨fun b o e n hb hx => ?_, fun b o e n hb hx => ?_, fun b o e n hx => ?_, fun b o e hx => ?_, fun b xs e => tups b xs (I.base.tups b xs e), fun b o xs e => frzs b o xs (I.base.frzs b o xs e), fun b ps e => ?_⟩, ?_, fun x c e => ?_, ?_, fun x c e => ?_, fun p hp => ?_, hok, I.len⟩
 · exact keep b o (neL b o e) hb (neC b o e hx) (I.base.keep b o e n hb hx) (I.base.free b o e n hx)
 · obtain ⟨sl, e1⟩ := I.base.slot b o e n hb hx
   obtain ⟨sl', e2⟩ := slot b _ (neL b o e) hb (neC b o e hx) e1 (I.base.free b o e n hx)
   exact ⟨sl', e2⟩
 · obtain ⟨o', e1⟩ := I.base.there b o e hx
   exact free b o' (neC b o e hx) e1 (I.base.free b o e n hx)
 · obtain ⟨o', e1⟩ := I.base.there b o e hx
   exact there b o' (neC b o e hx) e1
 · obtain ⟨m1, e1⟩ := I.base.tbls b ps e
   obtain ⟨m2, e2⟩ := tbls b _ e1
   exact ⟨m1 ++ m2, by rw [e2, Array.append_assoc]⟩
 · obtain ⟨m, hn, hl⟩ := I.loc
   refine ⟨m, ns m hn, fun i x v e1 e2 e3 => ?_⟩
   obtain ⟨u, r, l⟩ := hl i x v e1 e2 e3
   refine ⟨u, r, ?_⟩
   rcases l with l | ⟨k, c, e, z⟩
   · exact .inl l
   · exact .inr ⟨k, c, e, cellK x c e _ z⟩
 · obtain ⟨v, z⟩ := I.cell x c e
   exact ⟨v, cellK x c e v z⟩
 · obtain ⟨m, ⟨o, _, _, ho, _⟩, _⟩ := I.loc
   exact free _ o (fun z => (hch _ z).2.1 rfl) ho I.free
 · obtain ⟨v, o, ho, hd⟩ := I.cell x c e
   exact free c o (fun z => (hch c z).2.2.1 x c e rfl) ho (I.freeC x c e)
 · obtain ⟨e, n, ne, nf, d⟩ := I.pin p hp
   have nch : p.1 ∉ ch := fun z => (hch p.1 z).2.2.2 p hp rfl
   exact ⟨keep p.1 p.2 ne nf nch e n, free p.1 p.2 nch e n, ne, nf, d⟩
theorem Inv.un {t' : Nat} (I : Inv X pins σ H s) (u : Un X.fs [] H H' s.heap h') (hok : HOk X.prog X.w H' h') : Inv X pins σ H' { s with heap := h', toks := t' } := by
 obtain ⟨m, ⟨o, es, ep, ho, r⟩, _⟩ := id I.loc
 obtain ⟨sl, hL⟩ := u.any ho I.free (by simp)
 exact I.step (g' := s.gens) (d' := s.drawn) (ch := []) (fun _ z => nomatch z) (fun b o _ hb _ e n => u.keep b o e n hb (by simp)) (fun b o _ hb _ e n => u.slot b o e n hb (by simp)) (fun b o _ e n => u.free b o e n (by simp)) (fun b o _ e => u.there b o e (by simp)) u.tups u.frzs u.tbls (fun m' hm => by
  obtain ⟨o', es', ep', ho', r'⟩ := hm
  rw [ho] at ho'; cases ho'
  exact ⟨_, es', ep', hL, r'⟩) hok I.bare
theorem Inv.call {g' : Array GenState} {t' : Nat} {d' : Drawn} {ch : List Addr} (I : Inv X pins σ H s) (u : Un (uO X.stack) ch H H' s.heap h') (hok : HOk X.prog X.w H' h') (hg : AllBare g')
 (hch : ∀ b ∈ ch, (b ∈ X.ex ∨ X.s₀.heap.objs.size ≤ b) ∧ b ≠ X.env.locals ∧ (∀ x c, X.env.cells.lookup x = some c → c ≠ b) ∧ ∀ p ∈ X.pn ++ pins, p.1 ≠ b) :
 Inv X pins σ H' { s with heap := h', gens := g', drawn := d', toks := t' } := by
 obtain ⟨m, ⟨o, es, ep, ho, r⟩, _⟩ := id I.loc
 obtain ⟨sl, hL⟩ := u.any ho I.free fun z => (hch _ z).2.1 rfl
 exact I.step (ch := ch) hch (fun b o hL hb hc e n => u.keep b o e n (fun z => (List.mem_cons.mp (I.stkSub b z)).elim hL hb) hc) (fun b o _ _ hc e n => u.any e n hc) (fun b o hc e n => u.free b o e n hc) (fun b o hc e => u.there b o e hc) u.tups u.frzs u.tbls (fun m' hm => by
  obtain ⟨o', es', ep', ho', r'⟩ := hm
  rw [ho] at ho'; cases ho'
  exact ⟨_, es', ep', hL, r'⟩) hok hg
theorem Inv.turned {t' : Nat} {it : Addr} (I : Inv X pins σ H s) (k : ∀ b o, b ≠ it → s.heap.get? b = some o → h'.get? b = some o) (hn : H it = none) (hL : it ≠ X.env.locals)
 (h1 : it ∈ X.ex ∨ X.s₀.heap.objs.size ≤ it) (h2 : ∀ x c, X.env.cells.lookup x = some c → c ≠ it) (h3 : ∀ p ∈ X.pn ++ pins, p.1 ≠ it) : Inv X pins σ H { s with heap := h', toks := t' } := by
 have nit : ∀ b u, H b = some u → b ≠ it := fun b u e z => by rw [z, hn] at e; cases e
 refine I.step (g' := s.gens) (d' := s.drawn) (ch := [it]) (fun b hb => ?_) (fun b o _ _ hc e _ => k b o (fun z => hc (by simp [z])) e) (fun b o _ _ hc e _ => ⟨o.slots, k b o (fun z => hc (by simp [z])) e⟩) (fun _ _ _ _ n => n)
  (fun b o hc e => ⟨o, k b o (fun z => hc (by simp [z])) e⟩) (fun _ _ e => e) (fun _ _ _ e => e) (fun b ps e => ⟨#[], by rw [e]; simp⟩) (fun m hm => ?_) (fun b u e => ?_) I.bare
 · have e : b = it := by simpa using hb
   subst e
   exact ⟨h1, hL, h2, h3⟩
 · obtain ⟨o, es, ep, ho, r⟩ := hm
   exact ⟨o, es, ep, k _ o (Ne.symm hL) ho, r⟩
 · refine (I.hok b u e).stay (fun c v hc q => k c v ?_ q) (fun _ q => q) fun _ _ q => q
   rcases hc with z | z
   · rw [z]; exact nit b u e
   · exact nit c _ z
theorem Inv.tok (I : Inv X pins σ H s) (t : Nat) : Inv X pins σ H { s with toks := t } := I.un (h' := s.heap) (t' := t) Un.refl I.hok
theorem Inv.kept {t' : Nat} (I : Inv X pins σ H s) (k : ∀ b u, s.heap.get? b = some u → h'.get? b = some u) : Inv X pins σ H { s with heap := h', toks := t' } := I.un (Un.kept k) (I.hok.kept k)
theorem Inv.laid {a : Addr} {o : HO} {t' : Nat} (I : Inv X pins σ H s) (k : ∀ b u, s.heap.get? b = some u → h'.get? b = some u) (hp : s.heap.objs.size ≤ a) (new : ObjOk X.prog X.w (upd H a o) h' a o) :
 Inv X pins σ (upd H a o) { s with heap := h', toks := t' } := I.un (Un.laid k hp (I.hok.fresh hp)) (I.hok.laid k hp new)
theorem Inv.write {x e : Addr} {o : HO} {t' : Nat} (I : Inv X pins σ H s) (mu : Mut (H x)) (he : e = x ∨ H e = some (.own x)) (k : ∀ b u, b ≠ e → s.heap.get? b = some u → h'.get? b = some u) (heo : ∃ u, h'.get? e = some u)
 (new : ObjOk X.prog X.w (upd H x o) h' x o) : Inv X pins σ (upd H x o) { s with heap := h', toks := t' } := I.un (Un.write mu he k heo) (I.hok.write mu he k heo new)
theorem Inv.weak {σ' : List (Option V)} (I : Inv X pins σ H s) (hl : σ'.length = σ.length) (w : ∀ (i : Nat) v, σ'[i]? = some (some v) → σ[i]? = some (some v)) : Inv X pins σ' H s :=
 ⟨I.ok, I.os, I.bare, I.base, let ⟨m, hn, hl'⟩ := I.loc; ⟨m, hn, fun i x v e1 e2 e3 => hl' i x v e1 (w i v e2) e3⟩, I.cell, I.free, I.freeC, I.pin, I.hok, hl.trans I.len⟩
theorem Inv.pins_of {pins' : List (Addr × Obj)} (I : Inv X pins σ H s) (h : ∀ p ∈ pins', s.heap.get? p.1 = some p.2 ∧ H p.1 = none ∧ p.1 ≠ X.env.locals ∧ p.1 ∉ X.fs ∧ ∀ v, p.2.data ≠ .cell v) : Inv X pins' σ H s :=
 ⟨I.ok, I.os, I.bare, I.base, I.loc, I.cell, I.free, I.freeC, fun p hp => (List.mem_append.mp hp).elim (fun z => I.pin p (List.mem_append_left _ z)) (h p), I.hok, I.len⟩
theorem ai9 {N : List Str} (hN : N.Nodup) {i j : Nat} {x : Str} (a : N[i]? = some x) (b : N[j]? = some x) : i = j := by
 obtain ⟨h1, e1⟩ := List.getElem?_eq_some_iff.mp a
 obtain ⟨h2, e2⟩ := List.getElem?_eq_some_iff.mp b
 exact (List.getElem_inj hN).mp (e1.trans e2.symm)
theorem as5 {M : Model} {A : Around} {E : Value → Shared → Prop} {i : Nat} {x : Str} {v : V} {u : Value} {Q : Unit → Shared → Prop} (I : Inv X pins σ H s) (hN : X.N.Nodup) (hi : X.N[i]? = some x) (hx : Loc X.env.scope x) (r : RelV v u)
    (h : ∀ s', Inv X pins (σ.set i (some v)) H s' → (∃ a, Heap.SameBut a s.heap s'.heap ∧ (a = X.env.locals ∨ X.env.cells.lookup x = some a)) → Q () s') (hf : X.fn x = true ∨ X.env.scope.names.lookup x = some .local := by first | exact .inl rfl | exact .inr rfl | assumption) : wpAny M A (storeName X.env x u) Q E s := by
  obtain ⟨m, hn, hl⟩ := id I.loc
  have hcls : (X.env.scope.kind == .class || (X.env.scope.kind == .module && X.env.locals != X.env.globals)) = false := by rw [I.ok.kind]; rfl
  have hiσ : i < σ.length := by rw [I.len]; exact (List.getElem?_eq_some_iff.mp hi).1
  have cne := I.cne
  have tracked : ∀ {a : Addr} {h' : Heap}, (∃ o, s.heap.get? a = some o ∧ H a = none) → Heap.SameBut a s.heap h' → HOk X.prog X.w H h' := fun {a h'} ha hs b ob e => by
    obtain ⟨_, _, hfree⟩ := ha
    refine (I.hok b ob e).stay (fun c w' hc q => (hs.2 c ?_).trans q) (fun _ q => q) fun _ _ q => q
    rintro rfl
    rcases hc with rfl | hc
    · rw [hfree] at e; cases e
    · rw [hfree] at hc; cases hc
  rcases hx with hk | hk
  · refine wpAny_storeName_local hk hn (fun h' hn' hs => ?_) hcls
    obtain ⟨oL, _, _, hoL, _⟩ := id hn
    refine h _ ⟨I.ok, I.os, I.bare, ⟨fun b o e n hb hx => ?_, fun b o e n hb hx => ?_, I.base.free, fun b o e hx => ?_, I.base.tups, I.base.frzs, I.base.tbls⟩, ⟨_, hn', fun j y v' e1 e2 e3 => ?_⟩, fun y c e => ?_, I.free, I.freeC, fun p hp => ?_, tracked ⟨oL, hoL, I.free⟩ hs, by simpa using I.len⟩ ⟨_, hs, .inl rfl⟩
    · exact (hs.2 b (Nat.ne_of_lt (Nat.lt_of_lt_of_le (Heap.lt_size e) I.ok.above))).trans (I.base.keep b o e n hb hx)
    · obtain ⟨sl, e1⟩ := I.base.slot b o e n hb hx
      exact ⟨sl, (hs.2 b (Nat.ne_of_lt (Nat.lt_of_lt_of_le (Heap.lt_size e) I.ok.above))).trans e1⟩
    · obtain ⟨o', e1⟩ := I.base.there b o e hx
      exact ⟨o', (hs.2 b (Nat.ne_of_lt (Nat.lt_of_lt_of_le (Heap.lt_size e) I.ok.above))).trans e1⟩
    · by_cases hj : j = i
      · subst hj
        rw [hi] at e1; cases e1
        rw [List.getElem?_set_self hiσ] at e2
        cases e2
        exact ⟨u, r, .inl ⟨hk, by simp⟩⟩
      · rw [List.getElem?_set_ne (Ne.symm hj)] at e2
        obtain ⟨u', r', q⟩ := hl j y v' e1 e2 e3
        refine ⟨u', r', ?_⟩
        rcases q with ⟨k, e⟩ | ⟨k, c, e, z⟩
        · refine .inl ⟨k, ?_⟩
          have : y ≠ x := fun e => hj (ai9 hN e1 (e ▸ hi))
          simp [this, e]
        · exact .inr ⟨k, c, e, z.sameBut hs (cne y c e)⟩
    · obtain ⟨w', z⟩ := I.cell y c e
      exact ⟨w', z.sameBut hs (cne y c e)⟩
    · obtain ⟨e, n, ne, nf, d⟩ := I.pin p hp
      exact ⟨(hs.2 p.1 ne).trans e, n, ne, nf, d⟩
  · have hfn : X.fn x = true := by
      rcases hf with z | z
      · exact z
      · rw [z] at hk; cases hk
    obtain ⟨c, hc⟩ := I.ok.has x (.inl hk)
    obtain ⟨w', z⟩ := I.cell x c hc
    refine wpAny_storeName_cell I.ok.kind hk hc z (fun h' hc' hs => ?_)
    obtain ⟨oc, hoc, hocd⟩ := id z
    refine h { s with heap := h' } ⟨I.ok, I.os, I.bare, ⟨fun b o e n hb hx => ?_, fun b o e n hb hx => ?_, I.base.free, fun b o e hx => ?_, I.base.tups, I.base.frzs, I.base.tbls⟩, ⟨m, hn.sameBut hs (Ne.symm (cne x c hc)), fun j y v' e1 e2 e3 => ?_⟩, fun y c' e => ?_, I.free, I.freeC, fun p hp => ?_, tracked ⟨oc, hoc, I.freeC x c hc⟩ hs, by simpa using I.len⟩ ⟨c, hs, .inr hc⟩
    · exact (hs.2 b (Nat.ne_of_lt (Nat.lt_of_lt_of_le (Heap.lt_size e) (I.ok.cab x c hfn hc)))).trans (I.base.keep b o e n hb hx)
    · obtain ⟨sl, e1⟩ := I.base.slot b o e n hb hx
      exact ⟨sl, (hs.2 b (Nat.ne_of_lt (Nat.lt_of_lt_of_le (Heap.lt_size e) (I.ok.cab x c hfn hc)))).trans e1⟩
    · obtain ⟨o', e1⟩ := I.base.there b o e hx
      exact ⟨o', (hs.2 b (Nat.ne_of_lt (Nat.lt_of_lt_of_le (Heap.lt_size e) (I.ok.cab x c hfn hc)))).trans e1⟩
    · by_cases hj : j = i
      · subst hj
        rw [hi] at e1; cases e1
        rw [List.getElem?_set_self hiσ] at e2
        cases e2
        exact ⟨u, r, .inr ⟨.inl hk, c, hc, hc'⟩⟩
      · rw [List.getElem?_set_ne (Ne.symm hj)] at e2
        obtain ⟨u', r', q⟩ := hl j y v' e1 e2 e3
        refine ⟨u', r', ?_⟩
        rcases q with q | ⟨k, c', e, z'⟩
        · exact .inl q
        · refine .inr ⟨k, c', e, z'.sameBut hs ?_⟩
          rintro rfl
          exact hj (ai9 hN e1 (I.ok.inj _ _ _ e hc ▸ hi))
    · by_cases hcc : c' = c
      · subst hcc; exact ⟨_, hc'⟩
      · obtain ⟨w2, z2⟩ := I.cell y c' e
        exact ⟨w2, z2.sameBut hs hcc⟩
    · obtain ⟨e, n, ne, nf, d⟩ := I.pin p hp
      refine ⟨(hs.2 p.1 ?_).trans e, n, ne, nf, d⟩
      intro q
      rw [q, hoc] at e
      have q' : oc = p.2 := Option.some.inj e
      exact d w' (by rw [← q']; exact hocd)
theorem af8 {M : Model} {A : Around} {E : Value → Shared → Prop} {i : Nat} {x : Str} {v : V} {u : Value} {Q : Unit → Shared → Prop} (I : Inv X pins σ H s) (hN : X.N.Nodup) (hi : X.N[i]? = some x) (hx : Loc X.env.scope x) (r : RelV v u)
 (h : ∀ s', Inv X pins (σ.set i (some v)) H s' → Q () s') (hf : X.fn x = true ∨ X.env.scope.names.lookup x = some .local := by first | exact .inl rfl | exact .inr rfl | assumption) : wpAny M A (storeName X.env x u) Q E s :=
 as5 I hN hi hx r (fun s' I' _ => h s' I') hf
theorem Inv.call' {s' : Shared} {ch : List Addr} (I : Inv X pins σ H s) (ho : s'.os = s.os) (u : Un (uO X.stack) ch H H' s.heap s'.heap) (hok : HOk X.prog X.w H' s'.heap) (hg : AllBare s'.gens)
 (hch : ∀ b ∈ ch, (b ∈ X.ex ∨ X.s₀.heap.objs.size ≤ b) ∧ b ≠ X.env.locals ∧ (∀ x c, X.env.cells.lookup x = some c → c ≠ b) ∧ ∀ p ∈ X.pn ++ pins, p.1 ≠ b) : Inv X pins σ H' s' := by
 obtain ⟨h', g', d', t', o'⟩ := s'
 have e : o' = s.os := ho
 subst e
 exact I.call (g' := g') (t' := t') (d' := d') u hok hg hch
end
abbrev XK := Value → Option Addr → Hp → Prop
abbrev St := List (Option V)
abbrev VK := V → Hp → Prop
abbrev TE := St → Hp → VK → Prop
abbrev TT := St → Hp → (Bool → Hp → Prop) → Prop
abbrev TA := St → Hp → (List V → Hp → Prop) → Prop
structure uL where
 nx : St → Hp → Prop
 rt : VK
 bk : St → Hp → Prop := fun _ _ => False
 ct : St → Hp → Prop := fun _ _ => False
abbrev TS := uL → St → Hp → Prop
def EP (X : Cx) (pins : List (Addr × Obj)) (σ : St) (Q : VK) (u : Value) (s' : Shared) : Prop := ∃ v H', Inv X pins σ H' s' ∧ RelV v u ∧ Q v H'
def TP (X : Cx) (pins : List (Addr × Obj)) (σ : St) (Q : Bool → Hp → Prop) (b : Bool) (s' : Shared) : Prop := ∃ H', Inv X pins σ H' s' ∧ Q b H'
def AP (X : Cx) (pins : List (Addr × Obj)) (σ : St) (Q : List V → Hp → Prop) (us : List Value) (s' : Shared) : Prop := ∃ vs H', Inv X pins σ H' s' ∧ Vals vs us ∧ Q vs H'
def SP (X : Cx) (pins : List (Addr × Obj)) (D : uL) (f : Flow) (s' : Shared) : Prop :=
 match f with
 | .next => ∃ σ' H', Inv X pins σ' H' s' ∧ D.nx σ' H'
 | .brk => ∃ σ' H', Inv X pins σ' H' s' ∧ D.bk σ' H'
 | .cont => ∃ σ' H', Inv X pins σ' H' s' ∧ D.ct σ' H'
 | .ret u => ∃ v σ' H', Inv X pins σ' H' s' ∧ RelV v u ∧ D.rt v H'
def PE (X : Cx) (e : Expr) (t : TE) : Prop :=
 ∀ (pins : List (Addr × Obj)) (s : Shared) (σ : St) (H : Hp) (Q : VK), Inv X pins σ H s → t σ H Q → wpAny (model X.prog X.w) X.A (eval e X.env) (EP X pins σ Q) X.xe s
def PT (X : Cx) (e : Expr) (t : TT) : Prop :=
 ∀ (pins : List (Addr × Obj)) (s : Shared) (σ : St) (H : Hp) (Q : Bool → Hp → Prop), Inv X pins σ H s → t σ H Q → wpAny (model X.prog X.w) X.A (isTrue e X.env (eval e X.env)) (TP X pins σ Q) X.xe s
def PW (X : Cx) (e : Expr) (t : TT) : Prop :=
 ∀ (whole : Sem Value) (pins : List (Addr × Obj)) (s : Shared) (σ : St) (H : Hp) (Q : Bool → Hp → Prop), Inv X pins σ H s → t σ H Q → wpAny (model X.prog X.w) X.A (isTrue e X.env whole) (TP X pins σ Q) X.xe s
theorem PW.pt {X : Cx} {e : Expr} {t : TT} (h : PW X e t) : PT X e t := h _
def PA (X : Cx) (es : List Expr) (t : TA) : Prop :=
 ∀ (pos : Pos) (pins : List (Addr × Obj)) (s : Shared) (σ : St) (H : Hp) (Q : List V → Hp → Prop), Inv X pins σ H s → t σ H Q → wpAny (model X.prog X.w) X.A (spliced (backTo pos (starEach es X.env))) (AP X pins σ Q) X.xe s
def PS (X : Cx) (st : Stmt) (t : TS) : Prop :=
 ∀ (pins : List (Addr × Obj)) (s : Shared) (σ : St) (H : Hp) (D : uL), Inv X pins σ H s → t D σ H → wpAny (model X.prog X.w) X.A (exec st X.env) (SP X pins D) X.xe s
def PSs (X : Cx) (st : List Stmt) (t : TS) : Prop :=
 ∀ (pins : List (Addr × Obj)) (s : Shared) (σ : St) (H : Hp) (D : uL), Inv X pins σ H s → t D σ H → wpAny (model X.prog X.w) X.A (execs st X.env) (SP X pins D) X.xe s
theorem cI {α : Type} {t : Sem α} {Q Q' : α → Shared → Prop} {M : Model} {A : Around} {E : Value → Shared → Prop} {s : Shared} (h : wpAny M A t Q E s) (hQ : ∀ a s, Q a s → Q' a s) : wpAny M A t Q' E s := wpAny_mono h hQ fun _ _ x => x
end L2
namespace L2
open PySem PySem.Spec PyProof.Rows
section
variable {X : Cx}
theorem bin {a b : Expr} {ta tb : TE} (ha : PE X a ta) (hb : PE X b tb) {pins : List (Addr × Obj)} {s : Shared} {σ : St} {H : Hp} {R : V → V → Hp → Prop} (I : Inv X pins σ H s) (h : ta σ H fun x H1 => tb σ H1 fun y H2 => R x y H2)
 {α : Type} {Q : α → Shared → Prop} {f : Value → Value → Sem α}
 (hf : ∀ v u s2 x y H2, Inv X pins σ H2 s2 → RelV x v → RelV y u → R x y H2 → wpAny (model X.prog X.w) X.A (f v u) Q X.xe s2) :
 wpAny (model X.prog X.w) X.A (eval a X.env) (fun v s₁ => wpAny (model X.prog X.w) X.A (eval b X.env) (fun u s₂ => wpAny (model X.prog X.w) X.A (f v u) Q X.xe s₂) X.xe s₁) X.xe s := by
 refine cI (ha pins s σ H _ I h) fun v s1 ⟨x, H1, I1, r1, q1⟩ => ?_
 refine cI (hb pins s1 σ H1 _ I1 q1) fun u s2 ⟨y, H2, I2, r2, q2⟩ => ?_
 exact hf v u s2 x y H2 I2 r1 r2 q2
def ar8 (i : Nat) : TE := fun σ H Q => ∃ v, σ[i]? = some (some v) ∧ Q v H
def tC (v : V) : TE := fun _ H Q => Q v H
theorem cm7 {i : Nat} {x : Str} {pos : Pos} (hN : X.N[i]? = some x) (hv : Vis X.env.scope x) (hd : (x == ("__debug__" : Str)) = false := by decide) (hcd : (x == ("__classdict__" : Str)) = false := by decide) : PE X (.Name x pos) (ar8 i) := by
 intro pins s σ H Q I h
 obtain ⟨v, e, h⟩ := h
 obtain ⟨m, hn, hl⟩ := I.loc
 obtain ⟨u, r, l⟩ := hl i x v hN e hv
 have bY : EP X pins σ Q u s := ⟨v, H, I, r, h⟩
 rcases l with ⟨hk, hm⟩ | ⟨hk, c, hc, hcell⟩
 · exact wpAny_Name (wpAny_loadName_local I.ok.kind hk hn hm bY) hd
 · rcases hk with hk | hk
   · exact wpAny_Name (wpAny_loadName_cell I.ok.kind hk hc hcell bY) hd
   · exact wpAny_Name (wpAny_loadName_free I.ok.kind hk hc hcell bY hcd) hd
theorem aF {i j pos} : PE X (.Constant (.int i) j pos) (tC (.int i)) := fun _ _ _ H _ I h => wpAny_Constant_int ⟨.int i, H, I.tok _, ⟨_, rfl⟩, h⟩
theorem kO {b j pos} : PE X (.Constant (.bool b) j pos) (tC (.bl b)) := fun _ _ _ H _ I h => Constant_bool ⟨.bl b, H, I, rfl, h⟩
theorem eN {j pos} : PE X (.Constant .none j pos) (tC .non) := fun _ _ _ H _ I h => Constant_none ⟨.non, H, I, rfl, h⟩
theorem bX {x j pos} : PE X (.Constant (.str x) j pos) (tC (.str x)) := fun _ _ _ H _ I h => Calls.Constant_str ⟨.str x, H, I.tok _, ⟨_, rfl⟩, h⟩
def Gl (X : Cx) (x : Str) : Prop := X.env.kindOf x = some .globalImplicit
theorem uQ {E : Value → Shared → Prop} {pins : List (Addr × Obj)} {s : Shared} {σ : St} {H : Hp} {x : Str} {u : Value} {pos : Pos} {Q : Value → Shared → Prop} (I : Inv X pins σ H s) (hg : Gl X x) (hm : X.mg x = some u) (h : Q u s)
 (hd : (x == ("__debug__" : Str)) = false := by decide) : wpAny (model X.prog X.w) X.A (eval (.Name x pos) X.env) Q E s :=
 Calls.Name_function_global I.ok.kind hg (Calls.loadGlobal_global (by rw [I.ok.glob]; exact I.mod.glob.keeps I.bk) hm h) hd
theorem oN {E : Value → Shared → Prop} {pins : List (Addr × Obj)} {s : Shared} {σ : St} {H : Hp} {x : Str} {u : Value} {pos : Pos} {Q : Value → Shared → Prop} (I : Inv X pins σ H s) (hg : Gl X x) (hm : X.mg x = none) (hv : bootBuiltins x = some u) (h : Q u s)
 (hn : x ≠ "__name__" := by decide) (hd : (x == ("__debug__" : Str)) = false := by decide) : wpAny (model X.prog X.w) X.A (eval (.Name x pos) X.env) Q E s := by
 obtain ⟨mb, h1, h2⟩ := I.mod.blt
 exact Calls.Name_function_global I.ok.kind hg (Calls.loadGlobal_builtin (by rw [I.ok.glob]; exact I.mod.glob.keeps I.bk) hm (by rw [I.ok.blt]; exact h1.keeps I.bk) ((h2 x hn).trans hv) h) hd
theorem cq5 {x : Str} {v : V} {u : Value} {pos : Pos} (hg : Gl X x) (hm : X.mg x = some u) (r : RelV v u) (hd : (x == ("__debug__" : Str)) = false := by decide) : PE X (.Name x pos) (tC v) :=
 fun _ _ _ H _ I h => uQ I hg hm ⟨v, H, I, r, h⟩ hd
theorem cn4 {x : Str} {v : V} {u : Value} {pos : Pos} (hg : Gl X x) (hm : X.mg x = none) (hv : bootBuiltins x = some u) (r : RelV v u) (hn : x ≠ "__name__" := by decide) (hd : (x == ("__debug__" : Str)) = false := by decide) : PE X (.Name x pos) (tC v) :=
 fun _ _ _ H _ I h => oN I hg hm hv ⟨v, H, I, r, h⟩ hn hd
variable {a b : Expr} {ta tb : TE} {pos : Pos}
def PC (X : Cx) (op : CmpOp) (a b : Expr) (t : TE) : Prop :=
 ∀ (pins : List (Addr × Obj)) (s : Shared) (σ : St) (H : Hp) (Q : VK), Inv X pins σ H s → t σ H Q →
  wpAny (model X.prog X.w) X.A (eval a X.env) (fun v s₁ => wpAny (model X.prog X.w) X.A (eval b X.env) (fun u s₂ => wpAny (model X.prog X.w) X.A (compareOp op v u) (EP X pins σ Q) X.xe s₂) X.xe s₁) X.xe s
def tB (t : TE) : TT := fun σ H Q => t σ H fun x H1 => ∃ c, x = .bl c ∧ Q c H1
theorem cl6 {op : CmpOp} {t : TE} (h : PC X op a b t) (h1 : behindInMarks op b = false := by first | exact dg4 _ (by decide) (by decide) | rfl) : PT X (.Compare a [op] [b] pos) (tB t) := by
 intro pins s σ H Q I hw
 refine wpAny_isTrue_Compare1 (cI (h pins s σ H _ I hw) fun v s1 h1 => cI h1 fun u s2 h2 => cI h2 fun c s3 ⟨x, H1, I1, r1, q1⟩ => ?_) h1
 obtain ⟨d, rfl, q⟩ := q1
 cases r1
 exact wpAny_truthy_bool ⟨H1, I1, q⟩
variable {tA tB' : TT} {rest : List Expr}
def cy7 (t u : TT) : TT := fun σ H Q => t σ H fun c H1 => if c = true then u σ H1 Q else Q false H1
def tOr (t u : TT) : TT := fun σ H Q => t σ H fun c H1 => if c = true then Q true H1 else u σ H1 Q
def de0 (t : TT) : TT := fun σ H Q => t σ H fun c H1 => Q (!c) H1
theorem nP (ha : PT X a tA) : PW X (.BoolOp .And [a] pos) tA := by
 intro wh pins s σ H Q I h
 refine isTrue_and (cI (ha pins s σ H Q I h) fun c s1 e => ?_)
 cases c with
 | true => exact isTrue_and_nil e
 | false => exact e
theorem sV (ha : PT X a tA) : PW X (.BoolOp .Or [a] pos) tA := by
 intro wh pins s σ H Q I h
 refine isTrue_or (cI (ha pins s σ H Q I h) fun c s1 e => ?_)
 cases c with
 | false => exact isTrue_or_nil e
 | true => exact e
theorem qN (ha : PT X a tA) (hb : PW X (.BoolOp .And (b :: rest) pos) tB') : PW X (.BoolOp .And (a :: b :: rest) pos) (cy7 tA tB') := by
 intro wh pins s σ H Q I h
 refine isTrue_and (cI (ha pins s σ H _ I h) fun c s1 ⟨H1, I1, q1⟩ => ?_)
 cases c with
 | true => exact hb wh pins s1 σ H1 Q I1 q1
 | false => exact ⟨H1, I1, q1⟩
theorem tI (ha : PT X a tA) (hb : PW X (.BoolOp .Or (b :: rest) pos) tB') : PW X (.BoolOp .Or (a :: b :: rest) pos) (tOr tA tB') := by
 intro wh pins s σ H Q I h
 refine isTrue_or (cI (ha pins s σ H _ I h) fun c s1 ⟨H1, I1, q1⟩ => ?_)
 cases c with
 | true => exact ⟨H1, I1, q1⟩
 | false => exact hb wh pins s1 σ H1 Q I1 q1
theorem gB (ha : PT X a tA) : PT X (.UnaryOp .Not a pos) (de0 tA) := by
 intro pins s σ H Q I h
 exact isTrue_not (ha pins s σ H (fun c H1 => Q (!c) H1) I h)
def cu2 (ta tb : TE) : TE := fun σ H Q => ta σ H fun x H1 => ∃ c, x = .bl c ∧ if c = true then tb σ H1 Q else Q (.bl false) H1
def ck2 (ta : TE) : TE := fun σ H Q => ta σ H fun x H1 => ∃ c, x = .bl c ∧ Q (.bl (!c)) H1
theorem tD {op} {t : TE} (h : PE X a t) : PE X (.BoolOp op [a] pos) t := fun pins s σ H Q I hw => BoolOp_one (h pins s σ H Q I hw)
theorem sE (ha : PE X a ta) (hb : PE X (.BoolOp .And (b :: rest) pos) tb) : PE X (.BoolOp .And (a :: b :: rest) pos) (cu2 ta tb) := by
 intro pins s σ H Q I h
 refine BoolOp_and (cI (ha pins s σ H _ I h) fun v s1 ⟨x, H1, I1, r1, q1⟩ => ?_)
 obtain ⟨c, rfl, q1⟩ := q1
 cases r1
 refine wpAny_truthy_bool ?_
 cases c with
 | true => exact hb pins s1 σ H1 Q I1 q1
 | false => exact ⟨.bl false, H1, I1, rfl, q1⟩
theorem bv6 (ha : PE X a ta) : PE X (.UnaryOp .Not a pos) (ck2 ta) := by
 intro pins s σ H Q I h
 refine UnaryOp_ (cI (ha pins s σ H _ I h) fun v s1 ⟨x, H1, I1, r1, q1⟩ => ?_)
 obtain ⟨c, rfl, q1⟩ := q1
 cases r1
 exact not_of (wpAny_truthy_bool ⟨.bl (!c), H1, I1, rfl, q1⟩)
def tIf (t : TT) (ta tb : TE) : TE := fun σ H Q => t σ H fun c H1 => if c = true then ta σ H1 Q else tb σ H1 Q
theorem av8 {c : Expr} (hc : PT X c tA) (ha : PE X a ta) (hb : PE X b tb) : PE X (.IfExp c a b pos) (tIf tA ta tb) := by
 intro pins s σ H Q I h
 refine wpAny_IfExp (cI (hc pins s σ H _ I h) fun d s1 ⟨H1, I1, q1⟩ => ?_)
 cases d with
 | true => exact ha pins s1 σ H1 Q I1 q1
 | false => exact hb pins s1 σ H1 Q I1 q1
end
end L2
namespace L2
open PySem PySem.Spec PyProof.Rows
def SqL (K : PySem.W.Frag) (H : Hp) (a : Addr) (xs : List V) : Prop :=
 Rd H a (.lst xs) ∨
  ∃ (o : Obj) (its : Array Value) (n : Nat), K.lookup a = some o ∧ o.cls = .type "list" ∧ o.dict = none ∧ o.data = .seq its n ∧ its.size ≤ sizeLine ∧ Vals xs its.toList
def SqT (K : PySem.W.Frag) (H : Hp) (a : Addr) (xs : List V) : Prop :=
 Rd H a (.tup xs) ∨
  ∃ (o : Obj) (its : Array Value) (n : Nat), K.lookup a = some o ∧ o.cls = .type "tuple" ∧ o.data = .seq its n ∧ its.size ≤ sizeLine ∧ Vals xs its.toList
def du4 : Value → Option V
 | .none => some .non
 | .bool b => some (.bl b)
 | .int i _ => some (.int i)
 | .str x _ => some (.str x)
 | .bytes b _ => some (.byt b)
 | .float b _ => some (.flt b)
 | .ref a => some (.ref a)
 | .type n => some (.ty n)
 | _ => none
theorem RelV.abs {x : V} {u : Value} (r : RelV x u) : du4 u = some x := by
 cases x with
 | non => cases r; rfl
 | bl _ => cases r; rfl
 | int _ => obtain ⟨t, rfl⟩ := r; rfl
 | str _ => obtain ⟨t, rfl⟩ := r; rfl
 | byt _ => obtain ⟨t, rfl⟩ := r; rfl
 | flt _ => obtain ⟨t, rfl⟩ := r; rfl
 | ref _ => cases r; rfl
 | ty _ => cases r; rfl
theorem RelV.inj {x y : V} {u : Value} (r : RelV x u) (q : RelV y u) : x = y := Option.some.inj (r.abs.symm.trans q.abs)
theorem Vals.inj : ∀ {xs ys : List V} {us : List Value}, Vals xs us → Vals ys us → xs = ys
 | _, _, _, .nil, .nil => rfl
 | _, _, _, .cons r t, .cons r' t' => by rw [r.inj r', Vals.inj t t']
section
variable {X : Cx} {pins : List (Addr × Obj)} {σ : St} {H : Hp} {s : Shared} {a : Addr} {xs ys : List V}
theorem SqL.of {K : PySem.W.Frag} (h : H a = some (.lst xs)) : SqL K H a xs := .inl (.inl h)
theorem SqT.of {K : PySem.W.Frag} (h : H a = some (.tup xs)) : SqT K H a xs := .inl (.inl h)
theorem Inv.list (I : Inv X pins σ H s) (h : SqL X.K H a xs) : ∃ its : List Value, Vals xs its ∧ PlainL s.heap a its.toArray ∧ xs.length ≤ sizeLine := by
 rcases h with h | ⟨o, its, n, hk, hc, hd, hs, hz, r⟩
 · obtain ⟨z, its, n, r, e⟩ := h.ok I.hok
   exact ⟨its, r, ⟨_, n, e, rfl, rfl, rfl⟩, z⟩
 · refine ⟨its.toList, r, ⟨o, n, I.kIn a o hk, hc, hd, by simpa using hs⟩, ?_⟩
   have e := r.length
   simp only [Array.length_toList] at e
   omega
theorem Inv.tuple (I : Inv X pins σ H s) (h : SqT X.K H a xs) : ∃ its : List Value, Vals xs its ∧ IsTup s.heap a its.toArray ∧ xs.length ≤ sizeLine := by
 rcases h with h | ⟨o, its, n, hk, hc, hs, hz, r⟩
 · obtain ⟨z, its, r, p⟩ := h.ok I.hok
   exact ⟨its, r, p, z⟩
 · refine ⟨its.toList, r, ⟨o, I.kIn a o hk, hc, n, by simpa using hs⟩, ?_⟩
   have e := r.length
   simp only [Array.length_toList] at e
   omega
theorem Inv.list_inj (I : Inv X pins σ H s) (h : SqL X.K H a xs) (h' : SqL X.K H a ys) : xs = ys := by
 obtain ⟨its, r, ⟨o, n, e, _, _, d⟩, _⟩ := I.list h
 obtain ⟨its', r', ⟨o', n', e', _, _, d'⟩, _⟩ := I.list h'
 rw [e] at e'; cases e'
 rw [d] at d'
 injection d' with d1 _
 have : its = its' := by simpa using congrArg Array.toList d1
 subst this
 exact r.inj r'
theorem Inv.tuple_inj (I : Inv X pins σ H s) (h : SqT X.K H a xs) (h' : SqT X.K H a ys) : xs = ys := by
 obtain ⟨its, r, ⟨o, e, _, n, d⟩, _⟩ := I.tuple h
 obtain ⟨its', r', ⟨o', e', _, n', d'⟩, _⟩ := I.tuple h'
 rw [e] at e'; cases e'
 rw [d] at d'
 injection d' with d1 _
 have : its = its' := by simpa using congrArg Array.toList d1
 subst this
 exact r.inj r'
end
abbrev Cx.wish (X : Cx) (E : Value → Shared → Prop) : Cx := { X with xe := E }
abbrev Cx.nox (X : Cx) : Cx := X.wish fun _ _ => False
theorem Cx.Ok.wish {X : Cx} (ok : X.Ok) (E : Value → Shared → Prop) : (X.wish E).Ok :=
 ⟨ok.mod, ok.kind, ok.glob, ok.blt, ok.above, ok.inj, ok.has, ok.cab, ok.hd, ok.frames, ok.stk, ok.exf, ok.bs, ok.bsz, ok.noex, ok.exfs, ok.funs, ok.frf⟩
theorem Cx.Ok.unwish {X : Cx} {E : Value → Shared → Prop} (ok : (X.wish E).Ok) : X.Ok :=
 ⟨ok.mod, ok.kind, ok.glob, ok.blt, ok.above, ok.inj, ok.has, ok.cab, ok.hd, ok.frames, ok.stk, ok.exf, ok.bs, ok.bsz, ok.noex, ok.exfs, ok.funs, ok.frf⟩
section
variable {X : Cx} {pins : List (Addr × Obj)} {σ : St} {H : Hp} {s : Shared} {E : Value → Shared → Prop}
theorem Inv.wish (I : Inv X pins σ H s) (E : Value → Shared → Prop) : Inv (X.wish E) pins σ H s := ⟨I.ok.wish E, I.os, I.bare, I.base, I.loc, I.cell, I.free, I.freeC, I.pin, I.hok, I.len⟩
theorem Inv.unwish (I : Inv (X.wish E) pins σ H s) : Inv X pins σ H s := ⟨I.ok.unwish, I.os, I.bare, I.base, I.loc, I.cell, I.free, I.freeC, I.pin, I.hok, I.len⟩
theorem SP.unwish {D : uL} {f : Flow} {s' : Shared} (h : SP (X.wish E) pins D f s') : SP X pins D f s' := by
 cases f with
 | next => obtain ⟨σ', H', I, q⟩ := h; exact ⟨σ', H', I.unwish, q⟩
 | brk => obtain ⟨σ', H', I, q⟩ := h; exact ⟨σ', H', I.unwish, q⟩
 | cont => obtain ⟨σ', H', I, q⟩ := h; exact ⟨σ', H', I.unwish, q⟩
 | ret u => obtain ⟨v, σ', H', I, r, q⟩ := h; exact ⟨v, σ', H', I.unwish, r, q⟩
theorem PSs.nox {st : List Stmt} {t : TS} (h : PSs X.nox st t) : PSs X st t := fun pins s σ H D I hw =>
 wpAny_mono (h pins s σ H D (I.wish _) hw) (fun _ _ q => q.unwish) fun _ _ z => False.elim z
end
section
variable {X : Cx} {st : Stmt} {rest : List Stmt} {t u : TS} {e : Expr} {te : TE} {pos : Pos}
def ch2 : TS := fun D σ H => D.nx σ H
def cu7 (t u : TS) : TS := fun D σ H => t { D with nx := u D } σ H
theorem bN : PSs X [] ch2 := fun _ _ σ H _ I h => wpAny_execs_nil ⟨σ, H, I, h⟩
theorem aJ (h1 : PS X st t) (h2 : PSs X rest u) : PSs X (st :: rest) (cu7 t u) := by
 intro pins s σ H D I h
 refine wpAny_execs_cons (cI (h1 pins s σ H { D with nx := u D } I h) fun f s1 q => ?_)
 cases f with
 | next =>
  obtain ⟨σ', H', I', q⟩ := q
  exact h2 pins s1 σ' H' D I' q
 | ret v => exact q
 | brk => exact q
 | cont => exact q
theorem aM (h1 : PS X st t) : PSs X [st] t := by
 intro pins s σ H D I h
 refine wpAny_execs_cons (cI (h1 pins s σ H D I h) fun f s1 q => ?_)
 cases f with
 | next => exact wpAny_execs_nil q
 | ret v => exact q
 | brk => exact q
 | cont => exact q
theorem Inv.quiet {pins : List (Addr × Obj)} {σ : St} {H : Hp} {s : Shared} (I : Inv X pins σ H s) : interactive X.env = false := by simp [interactive, I.ok.kind]
def be4 (te : TE) : TS := fun D σ H => te σ H fun _ H1 => D.nx σ H1
theorem dY (he : PE X e te) (hs : swapsWith e none pos.line X.env = pure false := by rfl) : PS X (.Expr e pos) (be4 te) := by
 intro pins s σ H D I h
 exact wpAny_Expr_any (cI (he pins s σ H _ I h) fun v s1 ⟨x, H1, I1, r1, q1⟩ => ⟨σ, H1, I1, q1⟩) I.quiet hs
def cp7 (te : TE) : TS := fun D σ H => te σ H D.rt
theorem aW (he : PE X e te) : PS X (.Return (some e) pos) (cp7 te) := by
 intro pins s σ H D I h
 exact wpAny_Return_some (cI (he pins s σ H _ I h) fun v s1 ⟨x, H1, I1, r1, q1⟩ => ⟨x, σ, H1, I1, r1, q1⟩)
def di0 (c : TT) (t u : TS) : TS := fun D σ H => c σ H fun b H1 => if b = true then t D σ H1 else u D σ H1
theorem cO {c : Expr} {a b : List Stmt} {tc : TT} (hc : PT X c tc) (ha : PSs X a t) (hb : PSs X b u) : PS X (.If c a b pos) (di0 tc t u) := by
 intro pins s σ H D I h
 refine wpAny_If (cI (hc pins s σ H _ I h) fun d s1 ⟨H1, I1, q1⟩ => ?_)
 cases d with
 | true => exact ha pins s1 σ H1 D I1 q1
 | false => exact hb pins s1 σ H1 D I1 q1
end
abbrev TG := V → St → Hp → (St → Hp → Prop) → Prop
abbrev wW := List V → St → Hp → (St → Hp → Prop) → Prop
def PG (X : Cx) (target : Expr) (t : TG) : Prop :=
 ∀ (pins : List (Addr × Obj)) (s : Shared) (σ : St) (H : Hp) (v : V) (u : Value) (Q : St → Hp → Prop), Inv X pins σ H s → RelV v u → t v σ H Q →
  wpAny (model X.prog X.w) X.A (assign target X.env u) (fun _ s' => ∃ σ' H', Inv X pins σ' H' s' ∧ Q σ' H') X.xe s
def PGs (X : Cx) (ts : List Expr) (t : wW) : Prop :=
 ∀ (pins : List (Addr × Obj)) (s : Shared) (σ : St) (H : Hp) (vs : List V) (us : List Value) (Q : St → Hp → Prop), Inv X pins σ H s → Vals vs us → t vs σ H Q →
  wpAny (model X.prog X.w) X.A (assignInOrder ((assignEach ts X.env).map (·.2)) us) (fun _ s' => ∃ σ' H', Inv X pins σ' H' s' ∧ Q σ' H') X.xe s
section
variable {X : Cx} {pos : Pos}
def bu3 (i : Nat) : TG := fun v σ H Q => Q (σ.set i (some v)) H
theorem aY {i : Nat} {x : Str} (hN : X.N.Nodup) (hi : X.N[i]? = some x) (hx : Loc X.env.scope x) (hf : X.fn x = true ∨ X.env.scope.names.lookup x = some .local := by first | exact .inl rfl | exact .inr rfl | assumption) : PG X (.Name x pos) (bu3 i) := by
 intro pins s σ H v u Q I r h
 exact wpAny_assign_Name (af8 I hN hi hx r (fun s' I' => ⟨_, H, I', h⟩) hf)
def cg9 : wW := fun vs σ H Q => vs = [] ∧ Q σ H
def bo2 (t : TG) (u : wW) : wW := fun vs σ H Q => ∃ v r, vs = v :: r ∧ t v σ H fun σ' H' => u r σ' H' Q
theorem fR : PGs X [] cg9 := by
 intro pins s σ H vs us Q I r h
 obtain ⟨e, h⟩ := h
 subst e
 cases r
 exact assignInOrder_nil ⟨σ, H, I, h⟩
theorem bQ {e : Expr} {es : List Expr} {t : TG} {u : wW} (h1 : PG X e t) (h2 : PGs X es u)
 (hs : (assignEach (e :: es) X.env).map (·.2) = assign e X.env :: (assignEach es X.env).map (·.2) := by rfl) : PGs X (e :: es) (bo2 t u) := by
 intro pins s σ H vs us Q I r h
 obtain ⟨v, vr, e1, h⟩ := h
 subst e1
 cases r with
 | cons r rr =>
  rw [hs]
  refine assignInOrder_cons (cI (h1 pins s σ H _ _ _ I r h) fun _ s1 ⟨σ1, H1, I1, q1⟩ => ?_)
  exact h2 pins s1 σ1 H1 _ _ Q I1 rr q1
def bw9 (K : PySem.W.Frag) (n : Nat) (t : wW) : TG := fun v σ H Q => ∃ a xs, v = .ref a ∧ SqT K H a xs ∧ xs.length = n ∧ t xs σ H Q
theorem cs8 {es : List Expr} {k : Nat} {t : wW} {n : Nat} (hc : X.calm = true) (h : PGs X es t)
 (hn : (assignEach es X.env).length = n := by rfl) (hst : (assignEach es X.env).findIdx? (·.1) = none := by rfl) : PG X (.Tuple es k pos) (bw9 X.K n t) := by
 intro pins s σ H v u Q I r hw
 obtain ⟨a, xs, e1, hq, hl, hw⟩ := hw
 subst e1
 cases r
 obtain ⟨its, rv, ht, hz⟩ := I.tuple hq
 refine assign_Tuple_tuple (I.ok.hd hc) ht (by simp [hn, ← hl, rv.length]) hst fun h' hx => ?_
 have I1 : Inv X pins σ H { s with heap := h' } := I.kept (t' := s.toks) fun b o e => hx b o (Nat.ne_of_lt (Heap.lt_size e)) e
 exact h pins _ σ H xs _ Q I1 (by simpa using rv) hw
def cf1 (te : TE) (g : TG) : TS := fun D σ H => te σ H fun x H1 => g x σ H1 D.nx
theorem at9 {tg e : Expr} {te : TE} {g : TG} (he : PE X e te) (hg : PG X tg g) (hs : swapsWithSole [tg] e pos.line X.env = pure false := by rfl) (hw : swappedStores [tg] e X.env = pure none := by rfl)
 (h1 : (assignEach [tg] X.env).map (·.2) = [assign tg X.env] := by rfl) : PS X (.Assign [tg] e pos) (cf1 te g) := by
 intro pins s σ H D I h
 refine wpAny_Assign_stores (cI (he pins s σ H _ I h) fun v s1 ⟨x, H1, I1, r1, q1⟩ => ?_) hs hw
 rw [h1]
 exact cI (hg pins s1 σ H1 x v _ I1 r1 q1) fun _ s2 q => q
theorem bF {i : Nat} {x : Str} {e : Expr} {te : TE} {pos' : Pos} (hN : X.N.Nodup) (hi : X.N[i]? = some x) (hx : Loc X.env.scope x) (he : PE X e te) (hs : swapsWith e (some (.Name x pos')) pos.line X.env = pure false := by rfl) (hf : X.fn x = true ∨ X.env.scope.names.lookup x = some .local := by first | exact .inl rfl | exact .inr rfl | assumption) :
 PS X (.Assign [.Name x pos'] e pos) (cf1 te (bu3 i)) := by
 intro pins s σ H D I h
 refine wpAny_Assign_Name (cI (he pins s σ H _ I h) fun v s1 ⟨y, H1, I1, r1, q1⟩ => ?_) hs
 exact af8 I1 hN hi hx r1 (fun s2 I2 => ⟨_, H1, I2, q1⟩) hf
end
section
variable {X : Cx} {pos : Pos}
end
structure It where
 go : Nat → Hp → Prop
 yld : Nat → Hp → V → Hp → Prop
 stop : Nat → Hp → Prop
def pA (X : Cx) (pins : List (Addr × Obj)) (H : Hp) (b : Addr) : Prop :=
 H b = none ∧ b ≠ X.env.locals ∧ b ∉ X.fs ∧ (b ∈ X.ex ∨ X.s₀.heap.objs.size ≤ b) ∧ (∀ x c, X.env.cells.lookup x = some c → c ≠ b) ∧ ∀ p ∈ X.pn ++ pins, p.1 ≠ b
theorem Inv.fpOk {X : Cx} {pins : List (Addr × Obj)} {σ : St} {H H' : Hp} {s : Shared} {b : Addr} (I : Inv X pins σ H s) (hb : s.heap.objs.size ≤ b) (hn : H' b = none) : pA X pins H' b := by
 refine ⟨hn, Nat.ne_of_gt (Nat.lt_of_lt_of_le I.lt hb), I.nofs hb, .inr (Nat.le_trans I.sz hb), fun x c e z => ?_, fun p hp z => ?_⟩
 · obtain ⟨v, q⟩ := I.cell x c e
   exact absurd (Nat.lt_of_lt_of_le q.lt (by rw [z]; exact hb)) (Nat.lt_irrefl _)
 · exact absurd (Nat.lt_of_lt_of_le (Heap.lt_size (I.pin p hp).1) (by rw [z]; exact hb)) (Nat.lt_irrefl _)
structure xK (P : Program) (w : World) (K : PySem.W.Frag) (tg : Expr) (J : It) (fp : List Addr) (it : Addr) (tn : Nat → Heap → Prop) : Prop where
 mem : it ∈ fp
 obj : ∀ i h, tn i h → ∀ b ∈ fp, ∃ o, h.get? b = some o ∧ ∀ v, o.data ≠ .cell v
 keep : ∀ i h h', tn i h → (∀ b ∈ fp, ∀ o, h.get? b = some o → h'.get? b = some o) → tn i h'
 item : ∀ (X : Cx), X.prog = P → X.w = w → X.K = K → X.calm = true → ∀ (i : Nat) (pins : List (Addr × Obj)) (s : Shared) (σ : St) (H : Hp) (E : Value → Shared → Prop), Inv X pins σ H s → (∀ b ∈ fp, pA X pins H b) → tn i s.heap → J.go i H →
  wpAny (model P w) X.A (pyNext (.ref it)) (fun r s1 => ∃ u, r = some u ∧
   wpAny (model P w) X.A (letOwnedTupleGo tg (.ref it) u) (fun _ s2 => ∃ x H', Inv X pins σ H' s2 ∧ RelV x u ∧ J.yld i H x H' ∧ tn (i + 1) s2.heap ∧ ∀ b ∈ fp, H' b = none) E s1) E s
 done : ∀ (X : Cx), X.prog = P → X.w = w → X.K = K → X.calm = true → ∀ (i : Nat) (pins : List (Addr × Obj)) (s : Shared) (σ : St) (H : Hp) (E : Value → Shared → Prop), Inv X pins σ H s → (∀ b ∈ fp, pA X pins H b) → tn i s.heap → J.stop i H →
  wpAny (model P w) X.A (pyNext (.ref it)) (fun r s1 => r = none ∧ Inv X pins σ H s1) E s
 self : ∀ (A : Around) (i : Nat) (s : Shared) (Q : Value → Shared → Prop) (E : Value → Shared → Prop), tn i s.heap → Q (.ref it) s → wpAny (model P w) A (pyIter (.ref it)) Q E s
abbrev TI := St → Hp → (It → Hp → Prop) → Prop
def PIE (X : Cx) (pins : List (Addr × Obj)) (σ : St) (tg : Expr) (R : It → Hp → Prop) (itv : Value) (s2 : Shared) : Prop :=
 ∃ (it : Addr) (fp : List Addr) (tn : Nat → Heap → Prop) (J : It) (H' : Hp), itv = .ref it ∧ Inv X pins σ H' s2 ∧ xK X.prog X.w X.K tg J fp it tn ∧ tn 0 s2.heap ∧ (∀ b ∈ fp, pA X pins H' b) ∧ R J H'
def PI (X : Cx) (tg iter : Expr) (wi : TI) : Prop :=
 ∀ (pins : List (Addr × Obj)) (s : Shared) (σ : St) (H : Hp) (R : It → Hp → Prop), Inv X pins σ H s → wi σ H R →
  wpAny (model X.prog X.w) X.A (eval iter X.env) (fun v s1 => wpAny (model X.prog X.w) X.A (pyIter v) (PIE X pins σ tg R) X.xe s1) X.xe s
theorem ba4 {M : Model} {A : Around} {E : Value → Shared → Prop} {s : Shared} {tg : Expr} {it : Addr} {u : Value} {o : Obj} {n : String} {vs : Array Value} {Q : Unit → Shared → Prop} (ho : s.heap.get? it = some o) (hc : o.cls = .type n) (hd : o.data = .fields vs)
    (hn : ["enumerate", "zip", "dict_itemiterator", "dict_reverseitemiterator", "odict_iterator", "itertools.zip_longest", "itertools.pairwise"].contains n = false) (hQ : Q () s) : wpAny M A (letOwnedTupleGo tg (.ref it) u) Q E s := by
  unfold letOwnedTupleGo
  cases tg <;> first
    | exact wpAny_pure hQ
    | (cases u <;> first
        | exact wpAny_pure hQ
        | (refine wpAny_bind (wpAny_load ho ?_)
           rw [hc, hd]
           show wpAny M A (if (["enumerate", "zip", "dict_itemiterator", "dict_reverseitemiterator", "odict_iterator", "itertools.zip_longest", "itertools.pairwise"].contains n && vs[0]? == some (rawInt _)) = true then _ else _) Q E s
           rw [if_neg (by intro h; rw [hn, Bool.false_and] at h; cases h)]
           exact wpAny_pure hQ))
def Itl (K : PySem.W.Frag) (a : Addr) : It :=
 ⟨fun i H => ∃ xs x, SqL K H a xs ∧ xs[i]? = some x, fun i H x H' => H' = H ∧ ∀ xs, SqL K H a xs → xs[i]? = some x, fun i H => ∃ xs, SqL K H a xs ∧ xs.length ≤ i⟩
def Itt (K : PySem.W.Frag) (a : Addr) : It :=
 ⟨fun i H => ∃ xs x, SqT K H a xs ∧ xs[i]? = some x, fun i H x H' => H' = H ∧ ∀ xs, SqT K H a xs → xs[i]? = some x, fun i H => ∃ xs, SqT K H a xs ∧ xs.length ≤ i⟩
def Itr (lo : Int) (n : Nat) : It := ⟨fun i _ => i < n, fun i H x H' => H' = H ∧ x = .int (lo + i), fun i _ => n ≤ i⟩
theorem bt4 {P : Program} {w : World} {K : PySem.W.Frag} {tg : Expr} (a it : Addr) : xK P w K tg (Itl K a) [it] it (fun i h => h.IsListIter it a i) where
 mem := by simp
 obj := fun i h st b hb => by
  have e : b = it := by simpa using hb
  subst e
  obtain ⟨o, e, c, d⟩ := st
  exact ⟨o, e, fun v z => by rw [d] at z; cases z⟩
 keep := fun i h h' st k => st.at fun o e => k it (by simp) o e
 item := by
  intro X hP hw hK hc i pins s σ H E I hf st hg
  subst hP hw hK
  obtain ⟨xs, x, hq, hx⟩ := hg
  obtain ⟨its, rv, p, hz⟩ := I.list hq
  obtain ⟨u, hu, ru⟩ := rv.get hx
  obtain ⟨f0, f1, f2, f3, f4, f5⟩ := hf it (by simp)
  refine wpAny_pyNext_list_item st p.isList (x := u) (by simpa using hu) fun h' st' sb => ?_
  have I1 : Inv X pins σ H { s with heap := h' } := I.turned (t' := s.toks) (fun b o hb e => (sb.2 b hb).trans e) f0 f1 f3 f4 f5
  obtain ⟨o, e, c, d⟩ := id st'
  exact ⟨u, rfl, ba4 (s := { s with heap := h' }) e c d (by decide) ⟨x, H, I1, ru, ⟨rfl, fun ys hy => by rw [I.list_inj hy hq]; exact hx⟩, st', fun b hb => (hf b hb).1⟩⟩
 done := by
  intro X hP hw hK hc i pins s σ H E I hf st hg
  subst hP hw hK
  obtain ⟨xs, hq, hx⟩ := hg
  obtain ⟨its, rv, p, hz⟩ := I.list hq
  obtain ⟨f0, f1, f2, f3, f4, f5⟩ := hf it (by simp)
  have hl := rv.length
  exact wpAny_pyNext_list_end (I.ok.hd hc) st p.isList (by simp; omega) fun h' eb => ⟨rfl, I.turned (t' := s.toks) (fun b o hb e => eb b o hb e) f0 f1 f3 f4 f5⟩
 self := fun _ _ _ _ _ st h => wpAny_pyIter_listiter st h
theorem bt2 {P : Program} {w : World} {K : PySem.W.Frag} {tg : Expr} (a it : Addr) : xK P w K tg (Itt K a) [it] it (fun i h => h.IsTupleIter it a i) where
 mem := by simp
 obj := fun i h st b hb => by
  have e : b = it := by simpa using hb
  subst e
  obtain ⟨o, e, c, d⟩ := st
  exact ⟨o, e, fun v z => by rw [d] at z; cases z⟩
 keep := fun i h h' st k => st.at fun o e => k it (by simp) o e
 item := by
  intro X hP hw hK hc i pins s σ H E I hf st hg
  subst hP hw hK
  obtain ⟨xs, x, hq, hx⟩ := hg
  obtain ⟨its, rv, p, hz⟩ := I.tuple hq
  obtain ⟨u, hu, ru⟩ := rv.get hx
  obtain ⟨f0, f1, f2, f3, f4, f5⟩ := hf it (by simp)
  refine wpAny_pyNext_tuple_item st (show s.heap.IsTuple a its.toArray from p) (x := u) (by simpa using hu) fun h' st' sb => ?_
  have I1 : Inv X pins σ H { s with heap := h' } := I.turned (t' := s.toks) (fun b o hb e => (sb.2 b hb).trans e) f0 f1 f3 f4 f5
  obtain ⟨o, e, c, d⟩ := id st'
  exact ⟨u, rfl, ba4 (s := { s with heap := h' }) e c d (by decide) ⟨x, H, I1, ru, ⟨rfl, fun ys hy => by rw [I.tuple_inj hy hq]; exact hx⟩, st', fun b hb => (hf b hb).1⟩⟩
 done := by
  intro X hP hw hK hc i pins s σ H E I hf st hg
  subst hP hw hK
  obtain ⟨xs, hq, hx⟩ := hg
  obtain ⟨its, rv, p, hz⟩ := I.tuple hq
  obtain ⟨f0, f1, f2, f3, f4, f5⟩ := hf it (by simp)
  have hl := rv.length
  exact wpAny_pyNext_tuple_end (I.ok.hd hc) st (show s.heap.IsTuple a its.toArray from p) (by simp; omega) fun h' eb => ⟨rfl, I.turned (t' := s.toks) (fun b o hb e => eb b o hb e) f0 f1 f3 f4 f5⟩
 self := fun _ _ _ _ _ st h => wpAny_pyIter_tupleiter st h
theorem bk2 {P : Program} {w : World} {K : PySem.W.Frag} {tg : Expr} (it : Addr) (lo : Int) (n : Nat) : xK P w K tg (Itr lo n) [it] it (fun i h => IsRangeIter h it (lo + (i : Nat) * 1) ((n : Int) - (i : Nat)) 1) where
 mem := by simp
 obj := fun i h st b hb => by
  have e : b = it := by simpa using hb
  subst e
  exact ⟨_, st, fun v z => by
   have z' : Data.fields _ = Data.cell v := z
   cases z'⟩
 keep := fun i h h' st k => k it (by simp) _ st
 item := by
  intro X hP hw hK hc i pins s σ H E I hf st hg
  subst hP hw hK
  obtain ⟨f0, f1, f2, f3, f4, f5⟩ := hf it (by simp)
  have W := Walks.range (prog := X.prog) (w := X.w) (I.ok.hd hc) it lo 1 n
  refine W.item i s _ _ hg st fun v h' tk hv st' kk => ?_
  obtain ⟨t, rfl⟩ := hv
  have I1 : Inv X pins σ H { s with heap := h', toks := tk } := I.turned (fun b o hb e => kk b o (by simpa using hb) e) f0 f1 f3 f4 f5
  refine ⟨_, rfl, ba4 (s := { s with heap := h', toks := tk }) (n := "range_iterator") st' rfl rfl (by decide) ⟨.int (lo + i), H, I1, ⟨t, ?_⟩, ⟨rfl, rfl⟩, st', fun b hb => (hf b hb).1⟩⟩
  rw [Int.mul_one]
 done := by
  intro X hP hw hK hc i pins s σ H E I hf st hg
  subst hP hw hK
  obtain ⟨f0, f1, f2, f3, f4, f5⟩ := hf it (by simp)
  exact wpAny_pyNext_range_end (I.ok.hd hc) st (by have : n ≤ i := hg; omega) fun h' eb => ⟨rfl, I.turned (t' := s.toks) (fun b o hb e => eb b o hb e) f0 f1 f3 f4 f5⟩
 self := fun _ _ _ _ _ st h => wpAny_pyIter_rangeiter st h
end L2
namespace L2
open PySem PySem.Spec PyProof.Rows
section
variable {X : Cx} {tg : Expr}
theorem as8 {pins : List (Addr × Obj)} {σ : St} {H : Hp} {s : Shared} {R : It → Hp → Prop} {E : Value → Shared → Prop} {lo hi : Int} {t u v : Tok} {tk : Nat} (I : Inv X pins σ H s) (h1 : -(2 ^ 62) ≤ lo) (h2 : lo < 2 ^ 62) (h3 : -(2 ^ 62) ≤ hi) (h4 : hi < 2 ^ 62)
 (q : R (Itr lo (hi - lo).toNat) H) : wpAny (model X.prog X.w) X.A (pyIter (.ref s.heap.objs.size)) (PIE X pins σ tg R) E { s with heap := s.heap.push { cls := .type "range", data := .fields #[.int lo t, .int hi u, .int 1 v] }, toks := tk } := by
 refine wpAny_pyIter_range (IsRange.new ..) (small_one h1 h2 h3 h4) ?_
 have I1 : Inv X pins σ H { s with heap := s.heap.push { cls := .type "range", data := .fields #[.int lo t, .int hi u, .int 1 v] }, toks := tk } := I.kept fun b o e => Heap.get?_push_of_some _ e
 refine ⟨(s.heap.push { cls := .type "range", data := .fields #[.int lo t, .int hi u, .int 1 v] }).objs.size, [(s.heap.push { cls := .type "range", data := .fields #[.int lo t, .int hi u, .int 1 v] }).objs.size], _, _, H, rfl,
  I1.kept (t' := tk) fun b o e => Heap.get?_push_of_some _ e, bk2 _ lo (hi - lo).toNat, ?_, fun b hb => ?_, q⟩
 · have e1 : lo + ((0 : Nat) : Int) * 1 = lo := by simp
   have e2 : (((hi - lo).toNat : Nat) : Int) - ((0 : Nat) : Int) = Builtin.Range.rangeSize lo hi 1 := by rw [rangeSize_one]; split <;> omega
   show IsRangeIter _ _ (lo + ((0 : Nat) : Int) * 1) ((((hi - lo).toNat : Nat) : Int) - ((0 : Nat) : Int)) 1
   rw [e1, e2]
   exact Heap.get?_push_size _ rfl
 · have e : b = (s.heap.push { cls := .type "range", data := .fields #[.int lo t, .int hi u, .int 1 v] }).objs.size := by simpa using hb
   subst e
   exact I1.fpOk (Nat.le_refl _) (I1.hok.fresh (Nat.le_refl _))
def cn2 (ta : TA) : TI := fun σ H R => ta σ H fun vs H1 => ∃ j : Int, vs = [.int j] ∧ -(2 ^ 62) ≤ j ∧ j < 2 ^ 62 ∧ R (Itr 0 j.toNat) H1
def ci2 (ta : TA) : TI := fun σ H R => ta σ H fun vs H1 => ∃ i j : Int, vs = [.int i, .int j] ∧ (-(2 ^ 62) ≤ i ∧ i < 2 ^ 62 ∧ -(2 ^ 62) ≤ j ∧ j < 2 ^ 62) ∧ R (Itr i (j - i).toNat) H1
theorem iB {a : Expr} {ta : TA} {p pos : Pos} (hg : Gl X "range") (hm : X.mg "range" = none) (ha : PA X [a] ta) (hs : starEach [a] X.env = [(false, eval a X.env)] := by rfl) : PI X tg (.Call (.Name "range" p) [a] [] pos) (cn2 ta) := by
 intro pins s σ H R I h
 refine Call_ (oN I hg hm boot_range (PyProof.Rows.callWith_type1 (cI (ha pos pins s σ H _ I h) fun us s1 ⟨vs, H1, I1, r1, q1⟩ => ?_) hs rfl))
 obtain ⟨j, e, q1, q2, q⟩ := q1
 subst e
 cases r1 with
 | cons r rr =>
  cases rr
  obtain ⟨t, rfl⟩ := r
  exact call_range_1 (as8 I1 (by omega) (by omega) q1 q2 (by simpa using q))
theorem bg5 {a b : Expr} {ta : TA} {p pos : Pos} (hg : Gl X "range") (hm : X.mg "range" = none) (ha : PA X [a, b] ta) (hs : starEach [a, b] X.env = [(false, eval a X.env), (false, eval b X.env)] := by rfl) (hs2 : starEach [b] X.env = [(false, eval b X.env)] := by rfl) :
 PI X tg (.Call (.Name "range" p) [a, b] [] pos) (ci2 ta) := by
 intro pins s σ H R I h
 refine Call_ (oN I hg hm boot_range (PyProof.Rows.callWith_type1 (cI (ha pos pins s σ H _ I h) fun us s1 ⟨vs, H1, I1, r1, q1⟩ => ?_) (by rw [hs, hs2]) (by rw [hs2]; rfl)))
 obtain ⟨i, j, e, ⟨q1, q2, q3, q4⟩, q⟩ := q1
 subst e
 cases r1 with
 | cons r rr =>
  cases rr with
  | cons r' rr =>
   cases rr
   obtain ⟨t, rfl⟩ := r
   obtain ⟨t', rfl⟩ := r'
   exact call_range_2 (as8 I1 q1 q2 q3 q4 q)
def cw8 (wi : TI) (g : TG) (tb : TS) : TS := fun D σ H => wi σ H fun J H1 => ∃ W : Nat → Nat → St → Hp → Prop, (∃ m, W 0 m σ H1) ∧ ∀ i m σ H, W i m σ H →
 (J.stop i H ∧ D.nx σ H) ∨ (J.go i H ∧ ∃ N : St → Hp → Prop, (∀ σ' H', N σ' H' → ∃ m', m' < m ∧ W (i + 1) m' σ' H') ∧ ∀ x H', J.yld i H x H' → g x σ H' fun σ2 H2 => tb { D with nx := N, ct := N, bk := D.nx } σ2 H2)
def uZ (fp : List Addr) (h : Heap) : List (Addr × Obj) := fp.filterMap fun b => (h.get? b).map fun o => (b, o)
theorem rQ {fp : List Addr} {h : Heap} {b : Addr} {o : Obj} (hb : b ∈ fp) (e : h.get? b = some o) : (b, o) ∈ uZ fp h := List.mem_filterMap.mpr ⟨b, hb, by rw [e]; rfl⟩
theorem bp6 {fp : List Addr} {h : Heap} {p : Addr × Obj} (hp : p ∈ uZ fp h) : p.1 ∈ fp ∧ h.get? p.1 = some p.2 := by
 obtain ⟨b, hb, e⟩ := List.mem_filterMap.mp hp
 cases q : h.get? b with
 | none => rw [q] at e; cases e
 | some o =>
  rw [q] at e
  have e' : (b, o) = p := Option.some.inj e
  subst e'
  exact ⟨hb, q⟩
theorem Inv.pinned {pins : List (Addr × Obj)} {σ : St} {H : Hp} {s : Shared} {fp : List Addr} (I : Inv X pins σ H s) (hf : ∀ b ∈ fp, pA X pins H b) (ho : ∀ b ∈ fp, ∃ o, s.heap.get? b = some o ∧ ∀ v, o.data ≠ .cell v) : Inv X (pins ++ uZ fp s.heap) σ H s :=
 I.pins_of fun p hp => (List.mem_append.mp hp).elim (fun z => I.pin p (List.mem_append_right _ z)) fun z => by
  obtain ⟨hb, e⟩ := bp6 z
  obtain ⟨f0, f1, f2, _⟩ := hf p.1 hb
  obtain ⟨o, e', d⟩ := ho p.1 hb
  rw [e] at e'; cases e'
  exact ⟨e, f0, f1, f2, d⟩
theorem Inv.unpinned {pins pl : List (Addr × Obj)} {σ : St} {H : Hp} {s : Shared} (I : Inv X (pins ++ pl) σ H s) : Inv X pins σ H s := I.pins_of fun p hp => I.pin p (List.mem_append_right _ (List.mem_append_left _ hp))
theorem iP {iter : Expr} {body : List Stmt} {wi : TI} {g : TG} {tb : TS} {pos : Pos} (hp : PassesOwn (model X.prog X.w) X.A X.env X.xe) (hc : X.calm = true) (hi : PI X tg iter wi) (hg : PG X tg g) (hb : PSs X body tb)
 (hs : ∀ x, foldedSetIterable iter X.env x = pure x := by intro _; rfl) : PS X (.For tg iter body [] pos) (cw8 wi g tb) := by
 intro pins s σ H D I h
 refine wpAny_For (cI (hi pins s σ H _ I h) fun v s1 h1 => cI h1 fun itv s2 h2 => ?_) hs
 obtain ⟨it, fp, tn, J, H2, e, I2, T, st2, f2, W, ⟨m0, w0⟩, turn⟩ := h2
 subst e
 have stat : ∀ {H' : Hp}, (∀ b ∈ fp, H' b = none) → ∀ b ∈ fp, pA X pins H' b := fun hn b hb => ⟨hn b hb, (f2 b hb).2⟩
 refine codeAny_forLoop_any (fun n s' => ∃ i σ' H', Inv X pins σ' H' s' ∧ tn i s'.heap ∧ (∀ b ∈ fp, H' b = none) ∧ W i n σ' H') ?_ m0 ⟨0, σ, H2, I2, st2, fun b hb => (f2 b hb).1, w0⟩
 rintro n s3 ⟨i, σ3, H3, I3, st3, fr3, w3⟩
 rcases turn i n σ3 H3 w3 with ⟨stop, qn⟩ | ⟨go, N, hN, step⟩
 · refine wpAny_passesOwn hp (cI (T.done X rfl rfl rfl hc i pins s3 σ3 H3 X.xe I3 (stat fr3) st3 stop) fun r s4 ⟨hr, I4⟩ => ?_)
   subst hr
   exact wpAny_execs_nil ⟨σ3, H3, I4, qn⟩
 · refine wpAny_passesOwn hp (cI (T.item X rfl rfl rfl hc i pins s3 σ3 H3 X.xe I3 (stat fr3) st3 go) fun r s4 ⟨u, hr, h4⟩ => ?_)
   subst hr
   refine wpAny_passesOwn hp (cI h4 fun _ s5 ⟨x, H5, I5, r5, y5, st5, fr5⟩ => ?_)
   have I5' := I5.pinned (stat fr5) (T.obj _ _ st5)
   refine wpAny_passesOwn hp (cI (hg _ s5 σ3 H5 x u _ I5' r5 (step x H5 y5)) fun _ s6 ⟨σ6, H6, I6, q6⟩ => ?_)
   refine wpAny_passesOwn hp (cI (hb _ s6 σ6 H6 _ I6 q6) fun f s7 q7 => ?_)
   have again : ∀ {σ7 : St} {H7 : Hp}, Inv X (pins ++ uZ fp s5.heap) σ7 H7 s7 → N σ7 H7 → ∃ m, m < n ∧ ∃ i σ' H', Inv X pins σ' H' s7 ∧ tn i s7.heap ∧ (∀ b ∈ fp, H' b = none) ∧ W i m σ' H' := fun {σ7 H7} I7 n7 => by
    obtain ⟨m', hm, w7⟩ := hN σ7 H7 n7
    refine ⟨m', hm, i + 1, σ7, H7, I7.unpinned, T.keep _ _ _ st5 fun b hb o e => (I7.pin (b, o) (List.mem_append_right _ (List.mem_append_right _ (rQ hb e)))).1, fun b hb => ?_, w7⟩
    obtain ⟨o, e, d⟩ := T.obj _ _ st5 b hb
    exact (I7.pin (b, o) (List.mem_append_right _ (List.mem_append_right _ (rQ hb e)))).2.1
   cases f with
   | next => obtain ⟨σ7, H7, I7, n7⟩ := q7; exact again I7 n7
   | cont => obtain ⟨σ7, H7, I7, n7⟩ := q7; exact again I7 n7
   | brk => obtain ⟨σ7, H7, I7, q7⟩ := q7; exact ⟨σ7, H7, I7.unpinned, q7⟩
   | ret v => obtain ⟨x7, σ7, H7, I7, r7, q7⟩ := q7; exact ⟨x7, σ7, H7, I7.unpinned, r7, q7⟩
end
end L2
namespace L2
open PySem PySem.Spec PyProof.Rows
abbrev R2 := V → V → Hp → VK → Prop
def OpR (X : Cx) (f : Value → Value → Sem Value) (r : R2) : Prop :=
 ∀ (pins : List (Addr × Obj)) (s : Shared) (σ : St) (H : Hp) (x y : V) (v u : Value) (Q : VK), Inv X pins σ H s → RelV x v → RelV y u → r x y H Q →
  wpAny (model X.prog X.w) X.A (f v u) (EP X pins σ Q) X.xe s
def UnR (X : Cx) (f : Value → Sem Value) (r : V → Hp → VK → Prop) : Prop :=
 ∀ (pins : List (Addr × Obj)) (s : Shared) (σ : St) (H : Hp) (x : V) (v : Value) (Q : VK), Inv X pins σ H s → RelV x v → r x H Q →
  wpAny (model X.prog X.w) X.A (f v) (EP X pins σ Q) X.xe s
def CallR (X : Cx) (f : Value) (r : List V → Hp → VK → Prop) : Prop :=
 ∀ (pins : List (Addr × Obj)) (s : Shared) (σ : St) (H : Hp) (xs : List V) (us : List Value) (Q : VK), Inv X pins σ H s → Vals xs us → r xs H Q →
  wpAny (model X.prog X.w) X.A (call f us) (EP X pins σ Q) X.xe s
def dw4 (X : Cx) (r : V → Hp → (Bool → Hp → Prop) → Prop) : Prop :=
 ∀ (pins : List (Addr × Obj)) (s : Shared) (σ : St) (H : Hp) (x : V) (v : Value) (Q : Bool → Hp → Prop), Inv X pins σ H s → RelV x v → r x H Q →
  wpAny (model X.prog X.w) X.A (truthy v) (TP X pins σ Q) X.xe s
def tOp (r : R2) (ta tb : TE) : TE := fun σ H Q => ta σ H fun x H1 => tb σ H1 fun y H2 => r x y H2 Q
def tUn (r : V → Hp → VK → Prop) (ta : TE) : TE := fun σ H Q => ta σ H fun x H1 => r x H1 Q
def rI (C : Int → Int → Prop) (g : Int → Int → V) : R2 := fun x y H Q => ∃ i j, x = .int i ∧ y = .int j ∧ C i j ∧ Q (g i j) H
def sJ (g : Int → Int → V) : R2 := fun x y H Q => ∃ i j, x = .int i ∧ y = .int j ∧ Q (g i j) H
def rU (g : Int → V) : V → Hp → VK → Prop := fun x H Q => ∃ i, x = .int i ∧ Q (g i) H
section
variable {X : Cx} {a b c : Expr} {ta tb tc : TE} {pos : Pos}
theorem bf9 (ha : PE X a ta) (hb : PE X b tb) {pins : List (Addr × Obj)} {s : Shared} {σ : St} {H : Hp} {R : V → V → Hp → Prop} (I : Inv X pins σ H s)
 (h : ta σ H fun x H1 => tb σ H1 fun y H2 => R x y H2) {Q : Value → Shared → Prop} {f : Value → Value → Sem Value}
 (hf : ∀ v u s2 x y H2, Inv X pins σ H2 s2 → RelV x v → RelV y u → R x y H2 → wpAny (model X.prog X.w) X.A (f v u) Q X.xe s2) :
 wpAny (model X.prog X.w) X.A (eval a X.env) (fun v s₁ => wpAny (model X.prog X.w) X.A (eval b X.env) (fun u s₂ => wpAny (model X.prog X.w) X.A (f v u) Q X.xe s₂) X.xe s₁) X.xe s := by
 refine cI (ha pins s σ H _ I h) fun v s1 ⟨x, H1, I1, r1, q1⟩ => ?_
 refine cI (hb pins s1 σ H1 _ I1 q1) fun u s2 ⟨y, H2, I2, r2, q2⟩ => ?_
 exact hf v u s2 x y H2 I2 r1 r2 q2
theorem aL {op : Operator} {r : R2} (ho : OpR X (binaryOp op) r) (ha : PE X a ta) (hb : PE X b tb) : PE X (.BinOp a op b pos) (tOp r ta tb) := by
 intro pins s σ H Q I h
 exact wpAny_BinOp (bf9 ha hb I h fun v u s2 x y H2 I2 rx ry q => ho pins s2 σ H2 x y v u Q I2 rx ry q)
theorem qJ {op : UnaryOp} {r : V → Hp → VK → Prop} (ho : UnR X (unaryOp op) r) (ha : PE X a ta) : PE X (.UnaryOp op a pos) (tUn r ta) := by
 intro pins s σ H Q I h
 exact UnaryOp_ (cI (ha pins s σ H _ I h) fun v s1 ⟨x, H1, I1, r1, q1⟩ => ho pins s1 σ H1 x v Q I1 r1 q1)
theorem opI {f : Value → Value → Sem Value} {C : Int → Int → Prop} {g : Int → Int → Int}
 (rule : ∀ (i j : Int) (t u : Tok) (s : Shared) (Q : Value → Shared → Prop) (E : Value → Shared → Prop), C i j → Q (.int (g i j) s.toks) { s with toks := s.toks + 1 } → wpAny (model X.prog X.w) X.A (f (.int i t) (.int j u)) Q E s) :
 OpR X f (rI C fun i j => .int (g i j)) := by
 intro pins s σ H x y v u Q I rx ry h
 obtain ⟨i, j, rfl, rfl, hc, q⟩ := h
 obtain ⟨t, rfl⟩ := rx
 obtain ⟨t', rfl⟩ := ry
 exact rule i j t t' s _ _ hc ⟨.int (g i j), H, I.tok _, ⟨_, rfl⟩, q⟩
theorem db0 {f : Value → Value → Sem Value} {g : Int → Int → Int}
 (rule : ∀ (i j : Int) (t u : Tok) (s : Shared) (Q : Value → Shared → Prop) (E : Value → Shared → Prop), Q (.int (g i j) s.toks) { s with toks := s.toks + 1 } → wpAny (model X.prog X.w) X.A (f (.int i t) (.int j u)) Q E s) :
 OpR X f (sJ fun i j => .int (g i j)) := by
 intro pins s σ H x y v u Q I rx ry h
 obtain ⟨i, j, rfl, rfl, q⟩ := h
 obtain ⟨t, rfl⟩ := rx
 obtain ⟨t', rfl⟩ := ry
 exact rule i j t t' s _ _ ⟨.int (g i j), H, I.tok _, ⟨_, rfl⟩, q⟩
theorem bx3 {f : Value → Value → Sem Value} {g : Int → Int → Bool}
 (rule : ∀ (i j : Int) (t u : Tok) (s : Shared) (Q : Value → Shared → Prop) (E : Value → Shared → Prop), Q (.bool (g i j)) s → wpAny (model X.prog X.w) X.A (f (.int i t) (.int j u)) Q E s) :
 OpR X f (sJ fun i j => .bl (g i j)) := by
 intro pins s σ H x y v u Q I rx ry h
 obtain ⟨i, j, rfl, rfl, q⟩ := h
 obtain ⟨t, rfl⟩ := rx
 obtain ⟨t', rfl⟩ := ry
 exact rule i j t t' s _ _ ⟨.bl (g i j), H, I, rfl, q⟩
def tW (i j : Int) : Prop := 0 < j ∧ j < 1073741824
def xD (i j : Int) : Prop := 0 ≤ j ∧ j ≤ 1000000 ∧ i.natAbs < 2 ^ 64
theorem op_add : OpR X (binaryOp .Add) (sJ fun i j => .int (i + j)) := db0 fun _ _ _ _ _ _ _ q => add_int q
theorem cR : OpR X (binaryOp .Sub) (sJ fun i j => .int (i - j)) := db0 fun _ _ _ _ _ _ _ q => sub_int q
theorem fB : OpR X (binaryOp .FloorDiv) (rI tW fun i j => .int (i / j)) := opI fun i j _ _ _ _ _ hc q => by
 have h1 : (0 : Int) < j := hc.1
 have h2 : j < 1073741824 := hc.2
 exact floordiv_int (by omega) (by rw [Int.fdiv_eq_ediv_of_nonneg i (by omega)]; exact q) (.inl (PyProof.noPylong_small (by omega)))
theorem bM : OpR X (binaryOp .Mod) (rI (fun _ j => 0 < j) fun i j => .int (i % j)) := opI fun i j _ _ _ _ _ hc q => by
 have h1 : (0 : Int) < j := hc
 exact mod_int' (by omega) (by rw [Int.fmod_eq_emod_of_nonneg i (by omega)]; exact q)
theorem an8 : OpR X (binaryOp .Pow) (rI xD fun i j => .int (i ^ j.toNat)) := opI fun _ _ _ _ _ _ _ hc q => pow_int_small hc.1 hc.2.1 hc.2.2 q
theorem unI {f : Value → Sem Value} {g : Int → Int}
 (rule : ∀ (i : Int) (t : Tok) (s : Shared) (Q : Value → Shared → Prop) (E : Value → Shared → Prop), Q (.int (g i) s.toks) { s with toks := s.toks + 1 } → wpAny (model X.prog X.w) X.A (f (.int i t)) Q E s) :
 UnR X f (rU fun i => .int (g i)) := by
 intro pins s σ H x v Q I rx h
 obtain ⟨i, rfl, q⟩ := h
 obtain ⟨t, rfl⟩ := rx
 exact rule i t s _ _ ⟨.int (g i), H, I.tok _, ⟨_, rfl⟩, q⟩
theorem mV : UnR X (unaryOp .USub) (rU fun i => .int (-i)) := unI fun _ _ _ _ _ q => neg_int q
end
def bz9 : V → V → Bool
 | .non, .non => true | .non, .int _ => true | .int _, .non => true | .non, .bl _ => true | .bl _, .non => true | .non, .str _ => true | .str _, .non => true
 | .int _, .int _ => true | .bl _, .bl _ => true | .str _, .str _ => true | .byt _, .byt _ => true
 | .int _, .str _ => true | .str _, .int _ => true | .bl _, .str _ => true | .str _, .bl _ => true
 | _, _ => false
def rEq : R2 := fun x y H Q => bz9 x y = true ∧ Q (.bl (decide (x = y))) H
def rNe : R2 := fun x y H Q => bz9 x y = true ∧ Q (.bl (!decide (x = y))) H
theorem au3 {i j : Int} : decide (V.int i = V.int j) = (i == j) := by
 rw [Bool.eq_iff_iff]
 simp
theorem ay8 {i j : Bool} : decide (V.bl i = V.bl j) = (i == j) := by
 rw [Bool.eq_iff_iff]
 simp
theorem am4 {i j : Str} : decide (V.str i = V.str j) = (i == j) := by
 rw [Bool.eq_iff_iff]
 simp
theorem bu1 {i j : Array UInt8} : decide (V.byt i = V.byt j) = (i.toList == j.toList) := by
 rw [Bool.eq_iff_iff]
 cases i
 cases j
 simp
section
variable {X : Cx} {a b c : Expr} {ta tb tc : TE} {pos : Pos}
theorem cV {pins : List (Addr × Obj)} {σ : St} {H : Hp} {s : Shared} {Q : VK} {k k' : Bool} (I : Inv X pins σ H s) (q : Q (.bl k) H) (e : k = k') : EP X pins σ Q (.bool k') s := by
 subst e
 exact ⟨.bl k, H, I, rfl, q⟩
theorem dv1 : OpR X (compareOp .Eq) rEq := by
 intro pins s σ H x y v u Q I rx ry h
 obtain ⟨hs, q⟩ := h
 cases x with
 | non =>
  cases rx
  cases y with
  | non => cases ry; exact PySem.EqNone.eq_none_none (cV I q (by simp))
  | bl j => cases ry; exact PySem.EqNone.eq_none_bool (cV I q (by simp))
  | int j => obtain ⟨t', rfl⟩ := ry; exact PySem.EqNone.eq_none_int (cV I q (by simp))
  | str j => obtain ⟨t', rfl⟩ := ry; exact PySem.EqNone.eq_none_str (cV I q (by simp))
  | _ => exact absurd (show false = true from hs) Bool.false_ne_true
 | bl i =>
  cases rx
  cases y with
  | non => cases ry; exact PySem.EqNone.eq_bool_none (cV I q (by simp))
  | bl j => cases ry; exact eq_bool (cV I q ay8)
  | str j => obtain ⟨t', rfl⟩ := ry; exact PySem.EqMixed.eq_bool_str (cV I q (by simp))
  | _ => exact absurd (show false = true from hs) Bool.false_ne_true
 | int i =>
  obtain ⟨t, rfl⟩ := rx
  cases y with
  | non => cases ry; exact PySem.EqNone.eq_int_none (cV I q (by simp))
  | int j => obtain ⟨t', rfl⟩ := ry; exact eq_int (cV I q au3)
  | str j => obtain ⟨t', rfl⟩ := ry; exact PySem.EqMixed.eq_int_str (cV I q (by simp))
  | _ => exact absurd (show false = true from hs) Bool.false_ne_true
 | str i =>
  obtain ⟨t, rfl⟩ := rx
  cases y with
  | non => cases ry; exact PySem.EqNone.eq_str_none (cV I q (by simp))
  | bl j => cases ry; exact PySem.EqMixed.eq_str_bool (cV I q (by simp))
  | int j => obtain ⟨t', rfl⟩ := ry; exact PySem.EqMixed.eq_str_int (cV I q (by simp))
  | str j => obtain ⟨t', rfl⟩ := ry; exact eq_str (cV I q am4)
  | _ => exact absurd (show false = true from hs) Bool.false_ne_true
 | byt i =>
  obtain ⟨t, rfl⟩ := rx
  cases y with
  | byt j => obtain ⟨t', rfl⟩ := ry; exact PySem.W.eq_bytes (cV I q bu1)
  | _ => exact absurd (show false = true from hs) Bool.false_ne_true
 | _ => cases y <;> exact absurd (show false = true from hs) Bool.false_ne_true
theorem ds2 : OpR X (compareOp .NotEq) rNe := by
 intro pins s σ H x y v u Q I rx ry h
 obtain ⟨hs, q⟩ := h
 cases x with
 | non =>
  cases rx
  cases y with
  | non => cases ry; exact PySem.EqNone.ne_none_none (cV I q (by simp))
  | bl j => cases ry; exact PySem.EqNone.ne_none_bool (cV I q (by simp))
  | int j => obtain ⟨t', rfl⟩ := ry; exact PySem.EqNone.ne_none_int (cV I q (by simp))
  | str j => obtain ⟨t', rfl⟩ := ry; exact PySem.EqNone.ne_none_str (cV I q (by simp))
  | _ => exact absurd (show false = true from hs) Bool.false_ne_true
 | bl i =>
  cases rx
  cases y with
  | non => cases ry; exact PySem.EqNone.ne_bool_none (cV I q (by simp))
  | bl j => cases ry; exact ne_bool (cV I q (congrArg not ay8))
  | str j => obtain ⟨t', rfl⟩ := ry; exact PySem.EqMixed.ne_bool_str (cV I q (by simp))
  | _ => exact absurd (show false = true from hs) Bool.false_ne_true
 | int i =>
  obtain ⟨t, rfl⟩ := rx
  cases y with
  | non => cases ry; exact PySem.EqNone.ne_int_none (cV I q (by simp))
  | int j => obtain ⟨t', rfl⟩ := ry; exact ne_int (cV I q (congrArg not au3))
  | str j => obtain ⟨t', rfl⟩ := ry; exact PySem.EqMixed.ne_int_str (cV I q (by simp))
  | _ => exact absurd (show false = true from hs) Bool.false_ne_true
 | str i =>
  obtain ⟨t, rfl⟩ := rx
  cases y with
  | non => cases ry; exact PySem.EqNone.ne_str_none (cV I q (by simp))
  | bl j => cases ry; exact PySem.EqMixed.ne_str_bool (cV I q (by simp))
  | int j => obtain ⟨t', rfl⟩ := ry; exact PySem.EqMixed.ne_str_int (cV I q (by simp))
  | str j => obtain ⟨t', rfl⟩ := ry; exact ne_str (cV I q (congrArg not am4))
  | _ => exact absurd (show false = true from hs) Bool.false_ne_true
 | byt i =>
  obtain ⟨t, rfl⟩ := rx
  cases y with
  | byt j => obtain ⟨t', rfl⟩ := ry; exact PySem.W.ne_bytes (cV I q (congrArg not bu1))
  | _ => exact absurd (show false = true from hs) Bool.false_ne_true
 | _ => cases y <;> exact absurd (show false = true from hs) Bool.false_ne_true
theorem vG : OpR X (compareOp .Lt) (sJ fun i j => .bl (decide (i < j))) := bx3 fun _ _ _ _ _ _ _ q => lt_int q
theorem kN : OpR X (compareOp .LtE) (sJ fun i j => .bl (decide (i ≤ j))) := bx3 fun _ _ _ _ _ _ _ q => le_int q
theorem bp2 : OpR X (compareOp .Gt) (sJ fun i j => .bl (decide (j < i))) := bx3 fun _ _ _ _ _ _ _ q => gt_int q
theorem cj2 : OpR X (compareOp .GtE) (sJ fun i j => .bl (decide (j ≤ i))) := bx3 fun _ _ _ _ _ _ _ q => ge_int q
theorem bz4 : OpR X (compareOp .In) (fun x y H Q => ∃ i j, x = .str i ∧ y = .str j ∧ Q (.bl (!(Builtin.Str.occurrences j i 0 j.length 1).isEmpty)) H) := by
 intro pins s σ H x y v u Q I rx ry h
 obtain ⟨i, j, rfl, rfl, q⟩ := h
 obtain ⟨t, rfl⟩ := rx
 obtain ⟨t', rfl⟩ := ry
 exact in_str (cV I q rfl)
theorem cc7 : OpR X (compareOp .Is) (fun x y H Q => y = .non ∧ Q (.bl (decide (x = .non))) H) := by
 intro pins s σ H x y v u Q I rx ry h
 obtain ⟨rfl, q⟩ := h
 cases ry
 refine is_none_gen (cV I q ?_)
 cases x <;> first
  | (cases rx; rfl)
  | (obtain ⟨t, rfl⟩ := rx; rfl)
theorem zH : OpR X (compareOp .IsNot) (fun x y H Q => y = .non ∧ Q (.bl (!decide (x = .non))) H) := by
 intro pins s σ H x y v u Q I rx ry h
 obtain ⟨rfl, q⟩ := h
 cases ry
 refine isnot_none_gen (cV I q ?_)
 cases x <;> first
  | (cases rx; rfl)
  | (obtain ⟨t, rfl⟩ := rx; rfl)
theorem OpR.or {f : Value → Value → Sem Value} {r r' : R2} (h : OpR X f r) (h' : OpR X f r') : OpR X f (fun x y H Q => r x y H Q ∨ r' x y H Q) := by
 intro pins s σ H x y v u Q I rx ry q
 rcases q with q | q
 · exact h pins s σ H x y v u Q I rx ry q
 · exact h' pins s σ H x y v u Q I rx ry q
theorem bU (b : Expr) {op : CmpOp} (h : op ≠ .In := by decide) (h2 : op ≠ .NotIn := by decide) : behindInMarks op b = false := by
 have e1 : (op == CmpOp.In) = false := by cases op <;> first | rfl | exact absurd rfl h
 have e2 : (op == CmpOp.NotIn) = false := by cases op <;> first | rfl | exact absurd rfl h2
 cases b <;> simp [behindInMarks, e1, e2]
theorem pK {op : CmpOp} {r : R2} (ho : OpR X (compareOp op) r) (ha : PE X a ta) (hb : PE X b tb) (hm : behindInMarks op b = false) : PE X (.Compare a [op] [b] pos) (tOp r ta tb) := by
 intro pins s σ H Q I h
 exact wpAny_Compare1 (bf9 ha hb I h fun v u s2 x y H2 I2 rx ry q => ho pins s2 σ H2 x y v u Q I2 rx ry q) hm
def br3 (t : TE) : TT := fun σ H Q => t σ H fun x H' => ∃ k, x = .bl k ∧ Q k H'
theorem bP {op : CmpOp} {r : R2} (ho : OpR X (compareOp op) r) (ha : PE X a ta) (hb : PE X b tb) (hm : behindInMarks op b = false) : PT X (.Compare a [op] [b] pos) (br3 (tOp r ta tb)) := by
 intro pins s σ H Q I h
 refine wpAny_isTrue_Compare1 (cI (ha pins s σ H _ I h) fun v s1 ⟨x, H1, I1, r1, q1⟩ => cI (hb pins s1 σ H1 _ I1 q1) fun u s2 ⟨y, H2, I2, r2, q2⟩ =>
  cI (ho pins s2 σ H2 x y v u _ I2 r1 r2 q2) fun c s3 ⟨z, H3, I3, r3, k, e, q3⟩ => ?_) hm
 subst e
 cases r3
 exact wpAny_truthy_bool ⟨H3, I3, q3⟩
def aq8 (r r' : R2) (ta tb tc : TE) : TE := fun σ H Q => ta σ H fun x H1 => tb σ H1 fun y H2 => r x y H2 fun z H3 => ∃ k, z = .bl k ∧
 (if k = true then tc σ H3 fun w' H4 => r' y w' H4 Q else Q (.bl false) H3)
theorem av0 {op op' : CmpOp} {r r' : R2} (ho : OpR X (compareOp op) r) (ho' : OpR X (compareOp op') r') (ha : PE X a ta) (hb : PE X b tb) (hc : PE X c tc)
 (hm : lastMarks [op, op'] [b, c] = false := by with_unfolding_all rfl) : PE X (.Compare a [op, op'] [b, c] pos) (aq8 r r' ta tb tc) := by
 intro pins s σ H Q I h
 refine Compare_chain (cI (ha pins s σ H _ I h) fun v s1 ⟨x, H1, I1, r1, q1⟩ => chain_link (cI (hb pins s1 σ H1 _ I1 q1) fun u s2 ⟨y, H2, I2, r2, q2⟩ =>
  cI (ho pins s2 σ H2 x y v u _ I2 r1 r2 q2) fun d s3 ⟨z, H3, I3, r3, k, e, q3⟩ => ?_)) hm
 subst e
 cases r3
 refine wpAny_truthy_bool ?_
 cases k with
 | false => exact ite_ff ⟨.bl false, H3, I3, rfl, q3⟩
 | true => exact ite_tt (chain_last (cI (hc pins s3 σ H3 _ I3 q3) fun w' s4 ⟨z', H4, I4, r4, q4⟩ => ho' pins s4 σ H4 y z' u w' Q I4 r2 r4 q4))
theorem vY {op op' : CmpOp} {r r' : R2} (ho : OpR X (compareOp op) r) (ho' : OpR X (compareOp op') r') (ha : PE X a ta) (hb : PE X b tb) (hc : PE X c tc)
 (hm : lastMarks [op, op'] [b, c] = false := by with_unfolding_all rfl) : PT X (.Compare a [op, op'] [b, c] pos) (br3 (aq8 r r' ta tb tc)) := by
 intro pins s σ H Q I h
 refine isTrue_chain (cI (ha pins s σ H _ I h) fun v s1 ⟨x, H1, I1, r1, q1⟩ => test_link (cI (hb pins s1 σ H1 _ I1 q1) fun u s2 ⟨y, H2, I2, r2, q2⟩ =>
  cI (ho pins s2 σ H2 x y v u _ I2 r1 r2 q2) fun d s3 ⟨z, H3, I3, r3, k, e, q3⟩ => ?_)) hm
 subst e
 cases r3
 refine wpAny_truthy_bool ?_
 cases k with
 | false =>
  obtain ⟨k', e', q'⟩ := q3
  cases e'
  exact ite_ff ⟨H3, I3, q'⟩
 | true =>
  refine ite_tt (test_last (cI (hc pins s3 σ H3 _ I3 q3) fun w' s4 ⟨z', H4, I4, r4, q4⟩ => cI (ho' pins s4 σ H4 y z' u w' _ I4 r2 r4 q4) fun d' s5 ⟨z2, H5, I5, r5, k2, e2, q5⟩ => ?_))
  subst e2
  cases r5
  exact wpAny_truthy_bool ⟨H5, I5, q5⟩
def aw8 (K : PySem.W.Frag) (x : V) (H : Hp) (k : Bool) : Prop :=
 match x with
 | .non => k = false
 | .bl b => k = b
 | .int i => k = (i != 0)
 | .str y => y.length ≤ sizeLine ∧ k = ((y.length : Int) != 0)
 | .byt y => y.size ≤ sizeLine ∧ k = ((y.size : Int) != 0)
 | .ref p => (∃ xs, SqL K H p xs ∧ k = !xs.isEmpty) ∨ (∃ xs, SqT K H p xs ∧ k = !xs.isEmpty) ∨ ∃ kvs, H p = some (.dK kvs) ∧ k = !kvs.isEmpty
 | _ => False
theorem bo3 {κ : Type} {kvs : List (κ × V)} {vs : List (κ × Value)} (r : KV kvs vs) : (!vs.isEmpty) = !kvs.isEmpty := by
 cases r <;> rfl
theorem az1 {xs : List V} {its : List Value} (r : Vals xs its) : (!its.toArray.isEmpty) = !xs.isEmpty := by
 cases r <;> simp
theorem xS : (sizeLine : Nat) < 2 ^ 63 := by rw [sizeLine_eq]; decide
theorem cp9 : dw4 X (fun x H Q => ∃ k, aw8 X.K x H k ∧ Q k H) := by
 intro pins s σ H x v Q I rx h
 obtain ⟨k, e, q⟩ := h
 have hl := xS
 have hs : sizeLine = 16777216 := sizeLine_eq
 cases x with
 | non =>
  cases rx
  have e' : k = false := e
  subst e'
  exact truthy_none ⟨H, I, q⟩
 | bl b =>
  cases rx
  have e' : k = b := e
  subst e'
  exact wpAny_truthy_bool ⟨H, I, q⟩
 | int i =>
  obtain ⟨t, rfl⟩ := rx
  have e' : k = (i != 0) := e
  subst e'
  exact PySem.P.truthy_int ⟨H, I, q⟩
 | str y =>
  obtain ⟨t, rfl⟩ := rx
  obtain ⟨hy, e'⟩ : y.length ≤ sizeLine ∧ k = ((y.length : Int) != 0) := e
  subst e'
  exact PySem.P.truthy_str (by omega) ⟨H, I.tok _, q⟩
 | byt y =>
  obtain ⟨t, rfl⟩ := rx
  obtain ⟨hy, e'⟩ : y.size ≤ sizeLine ∧ k = ((y.size : Int) != 0) := e
  subst e'
  exact PySem.W.truthy_bytes (by omega) ⟨H, I.tok _, q⟩
 | ref p =>
  cases rx
  have e' : (∃ xs, SqL X.K H p xs ∧ k = !xs.isEmpty) ∨ (∃ xs, SqT X.K H p xs ∧ k = !xs.isEmpty) ∨ ∃ kvs, H p = some (.dK kvs) ∧ k = !kvs.isEmpty := e
  rcases e' with ⟨xs, hx, e'⟩ | ⟨xs, hx, e'⟩ | ⟨kvs, hx, e'⟩
  · subst e'
    obtain ⟨its, r, pl, hz⟩ := I.list hx
    have hlen := r.length
    exact wpAny_truthy_list pl.isList (by simp only [List.size_toArray]; omega) ⟨H, I.tok _, by rw [az1 r]; exact q⟩
  · subst e'
    obtain ⟨its, r, pl, hz⟩ := I.tuple hx
    have hlen := r.length
    exact truthy_tuple pl (by simp only [List.size_toArray]; omega) ⟨H, I.tok _, by rw [az1 r]; exact q⟩
  · subst e'
    obtain ⟨hz, hS, vs, r, m⟩ : kvs.length ≤ sizeLine ∧ (p == sysModules) = false ∧ ∃ vs, KV kvs vs ∧ s.heap.DictOf (aq3 X.prog X.w) p vs := I.hok p _ hx
    have hlen : kvs.length = vs.length := Paired.length r
    exact wpAny_truthy_dict hS m (by omega) ⟨H, I.tok _, by rw [bo3 r]; exact q⟩
 | _ => exact (show False from e).elim
theorem bf8 (ha : PE X a ta) (he : ∀ whole, isTrue a X.env whole = (do let v ← whole; standAt a.pos; holding [v] (truthy v))) :
 PT X a (fun σ H Q => ta σ H fun x H' => ∃ k, aw8 X.K x H' k ∧ Q k H') := by
 intro pins s σ H Q I h
 exact isTrue_plain (cI (ha pins s σ H _ I h) fun v s1 ⟨x, H1, I1, r1, q1⟩ => cp9 pins s1 σ H1 x v Q I1 r1 q1) (he _)
theorem op_add_str : OpR X (binaryOp .Add) (fun x y H Q => ∃ i j, x = .str i ∧ y = .str j ∧ i.length + j.length ≤ sizeLine ∧ Q (.str (i ++ j)) H) := by
 intro pins s σ H x y v u Q I rx ry h
 obtain ⟨i, j, rfl, rfl, hz, q⟩ := h
 obtain ⟨t, rfl⟩ := rx
 obtain ⟨t', rfl⟩ := ry
 exact add_str (fun t' tk => ⟨.str (i ++ j), H, I.tok _, ⟨_, rfl⟩, q⟩) hz
theorem ag2 {x : V} {us : List Value} (r : Vals [x] us) : ∃ u, us = [u] ∧ RelV x u := by
 cases r with
 | cons r1 r2 => cases r2; exact ⟨_, rfl, r1⟩
theorem by2 {x y : V} {us : List Value} (r : Vals [x, y] us) : ∃ u w', us = [u, w'] ∧ RelV x u ∧ RelV y w' := by
 cases r with
 | cons r1 r2 =>
  cases r2 with
  | cons r3 r4 => cases r4; exact ⟨_, _, rfl, r1, r3⟩
theorem bp9 : CallR X (.builtin "abs") (fun xs H Q => ∃ i, xs = [.int i] ∧ Q (.int (if i < 0 then -i else i)) H) := by
 intro pins s σ H xs us Q I r h
 obtain ⟨i, rfl, q⟩ := h
 obtain ⟨u, rfl, t, rfl⟩ := ag2 r
 exact call_abs_int fun u tk => ⟨.int (if i < 0 then -i else i), H, I.tok _, ⟨_, rfl⟩, q⟩
theorem be6 (hc : X.calm = true) : CallR X (.builtin "max") (fun xs H Q => ∃ i j, xs = [.int i, .int j] ∧ Q (.int (if j > i then j else i)) H) := by
 intro pins s σ H xs us Q I r h
 obtain ⟨i, j, rfl, q⟩ := h
 obtain ⟨u, w', rfl, ⟨t, rfl⟩, ⟨t', rfl⟩⟩ := by2 r
 refine max_two_ints (I.ok.hd hc) fun h' tk k => ⟨_, H, I.kept k, ?_, q⟩
 by_cases hj : j > i
 · rw [if_pos hj, if_pos hj]; exact ⟨_, rfl⟩
 · rw [if_neg hj, if_neg hj]; exact ⟨_, rfl⟩
theorem bn6 (hc : X.calm = true) : CallR X (.builtin "min") (fun xs H Q => ∃ i j, xs = [.int i, .int j] ∧ Q (.int (if j < i then j else i)) H) := by
 intro pins s σ H xs us Q I r h
 obtain ⟨i, j, rfl, q⟩ := h
 obtain ⟨u, w', rfl, ⟨t, rfl⟩, ⟨t', rfl⟩⟩ := by2 r
 refine min_two_ints (I.ok.hd hc) fun h' tk k => ⟨_, H, I.kept k, ?_, q⟩
 by_cases hj : j < i
 · rw [if_pos hj, if_pos hj]; exact ⟨_, rfl⟩
 · rw [if_neg hj, if_neg hj]; exact ⟨_, rfl⟩
theorem ap8 : CallR X (.type "str") (fun xs H Q => ∃ i, xs = [.int i] ∧ i.natAbs.log2 < 1920 ∧ Q (.str (toString i)) H) := by
 intro pins s σ H xs us Q I r h
 obtain ⟨i, rfl, hz, q⟩ := h
 obtain ⟨u, rfl, t, rfl⟩ := ag2 r
 exact PySem.P.str_of_int hz ⟨.str _, H, I.tok _, ⟨_, rfl⟩, q⟩
def cq9 (K : PySem.W.Frag) (x : V) (H : Hp) (n : Nat) : Prop :=
 match x with
 | .str y => y.length ≤ sizeLine ∧ n = y.length
 | .byt y => y.size ≤ sizeLine ∧ n = y.size
 | .ref p => (∃ xs, SqL K H p xs ∧ n = xs.length) ∨ ∃ xs, SqT K H p xs ∧ n = xs.length
 | _ => False
theorem cj1 : CallR X (.builtin "len") (fun xs H Q => ∃ x n, xs = [x] ∧ cq9 X.K x H n ∧ Q (.int n) H) := by
 intro pins s σ H xs us Q I r h
 obtain ⟨x, n, rfl, e, q⟩ := h
 obtain ⟨u, rfl, rx⟩ := ag2 r
 have hl := xS
 have hs : sizeLine = 16777216 := sizeLine_eq
 cases x with
 | str y =>
  obtain ⟨t, rfl⟩ := rx
  obtain ⟨hy, e'⟩ : y.length ≤ sizeLine ∧ n = y.length := e
  subst e'
  exact len_str (by omega) ⟨.int _, H, I.tok _, ⟨_, rfl⟩, q⟩
 | byt y =>
  obtain ⟨t, rfl⟩ := rx
  obtain ⟨hy, e'⟩ : y.size ≤ sizeLine ∧ n = y.size := e
  subst e'
  exact PySem.W.len_bytes (by omega) ⟨.int _, H, I.tok _, ⟨_, rfl⟩, q⟩
 | ref p =>
  cases rx
  have e' : (∃ xs, SqL X.K H p xs ∧ n = xs.length) ∨ ∃ xs, SqT X.K H p xs ∧ n = xs.length := e
  rcases e' with ⟨xs, hx, e'⟩ | ⟨xs, hx, e'⟩
  · subst e'
    obtain ⟨its, r', pl, hz⟩ := I.list hx
    have hlen := r'.length
    exact Calls.call_len_list pl.isList (by simp only [List.size_toArray]; omega) ⟨.int xs.length, H, I.tok _, ⟨_, by simp only [List.size_toArray]; rw [hlen]⟩, q⟩
  · subst e'
    obtain ⟨its, r', pl, hz⟩ := I.tuple hx
    have hlen := r'.length
    exact len_tuple pl (by simp only [List.size_toArray]; omega) ⟨.int xs.length, H, I.tok _, ⟨_, by simp only [List.size_toArray]; rw [hlen]⟩, q⟩
 | _ => exact (show False from e).elim
theorem bp0 : CallR X (.builtin "divmod") (fun xs H Q => ∃ i j, xs = [.int i, .int j] ∧ tW i j ∧ ∀ p, H p = none → Q (.ref p) (upd H p (.tup [.int (i / j), .int (i % j)]))) := by
 intro pins s σ H xs us Q I r h
 obtain ⟨i, j, rfl, ⟨h1, h2⟩, q⟩ := h
 obtain ⟨u, w', rfl, ⟨t, rfl⟩, ⟨t', rfl⟩⟩ := by2 r
 refine divmod_int (by omega) ?_ (.inl (PyProof.noPylong_small (by omega)))
 rw [Int.fdiv_eq_ediv_of_nonneg i (by omega), Int.fmod_eq_emod_of_nonneg i (by omega)]
 have hn : H s.heap.objs.size = none := I.hok.fresh (Nat.le_refl _)
 refine ⟨.ref s.heap.objs.size, _, ?_, rfl, q _ hn⟩
 refine I.laid (fun b o e => Heap.get?_push_of_some _ e) (Nat.le_refl _) ⟨by simp only [List.length_cons, List.length_nil]; rw [sizeLine_eq]; decide, [.int (i / j) s.toks, .int (i % j) (s.toks + 1)], .cons ⟨_, rfl⟩ (.cons ⟨_, rfl⟩ .nil), ?_⟩
 exact ⟨_, Heap.get?_push_size s.heap rfl, rfl, 0, rfl⟩
end
end L2
namespace L2
open PySem PySem.Spec PyProof.Rows
structure ObjM (h : Heap) (x dx C : Addr) (mA : Str → Option Value) : Prop where
 obj : h.get? x = some (PySem.W.instObj C dx)
 ns : h.Ns1 dx mA
 ne : dx ≠ x
theorem br5 {h : Heap} {dx : Addr} {mA : Str → Option Value} (n : h.Ns1 dx mA) : ∃ od, h.get? dx = some od ∧ ∀ name, PySem.W.lookIn name od = some (mA name) := by
 obtain ⟨o, es, ep, ho, hd, hk, _, hm⟩ := n
 refine ⟨o, ho, fun name => ?_⟩
 have e := hm name
 unfold nsFind findBy at e
 rw [← Array.find?_toList] at e
 unfold PySem.W.lookIn
 rw [hd]
 dsimp only
 split
 · rename_i y q
   rw [q] at e
   exact congrArg some e
 · rename_i q
   rw [q] at e
   have a : es.toList.any (·.refKey) = false := by
    rw [List.any_eq_false]
    intro y hy
    obtain ⟨z, t, hkey⟩ := hk y (Array.mem_toList_iff.mp hy)
    simp [DictEntry.refKey, hkey]
   have a' : ¬ es.toList.any (·.refKey) = true := by rw [a]; exact Bool.false_ne_true
   rw [if_neg a']
   exact congrArg some e
theorem ObjM.look {h : Heap} {x dx C : Addr} {mA : Str → Option Value} (I : ObjM h x dx C mA) : ∃ od, PySem.W.InstAt h x (PySem.W.instObj C dx) C (some od) ∧ ∀ name, PySem.W.lookIn name od = some (mA name) :=
 let ⟨od, ho, hl⟩ := br5 I.ns
 ⟨od, ⟨I.obj, rfl, rfl, ho⟩, hl⟩
section
variable {prog : Program} {w : World} {A : Around} {E : Value → Shared → Prop} {s : Shared} {K : PySem.W.Frag} {x dx C f : Addr} {mA : Str → Option Value} {name : Str} {v : Value}
theorem cq3 {expr : Bool} {Q : Value → Shared → Prop} (X : K.In s.heap) (I : ObjM s.heap x dx C mA) (hg : PySem.W.plainGet K C name = true) (hh : PySem.W.hasDictIn K C = true)
 (ha : PySem.W.findIn K (.ref C) name = some none) (hv : mA name = some v) (hv' : PySem.W.handedIn v = true) (h : Q v { s with toks := s.toks + 1 }) :
 wpAny (model prog w) A (getAttr (.ref x) name expr) Q E s := by
 obtain ⟨od, J, hl⟩ := I.look
 exact PySem.W.get_value X J (PySem.W.plainGet_of hg).1 (PySem.W.findObj_own hh ha rfl (by rw [hl, hv])) hv' h
theorem be9 {pl : Sem Bool} {Q : Value × List Value → Shared → Prop} (X : K.In s.heap) (I : ObjM s.heap x dx C mA) (hg : PySem.W.plainGet K C name = true)
 (hf : PySem.W.findIn K (.ref C) name = some (some (.ref f))) (ht : PySem.W.isFn K (.ref f) = true) (hv : mA name = none) (h : Q (.ref f, [.ref x]) s) :
 wpAny (model prog w) A (getMethod (.ref x) name pl) Q E s := by
 obtain ⟨od, J, hl⟩ := I.look
 exact PySem.W.method_fn X J (PySem.W.plainGet_of hg).1 (PySem.W.plainGet_of hg).2 hf (beq_iff_eq.mp ht) (by show (PySem.W.lookIn name od).map (·.isSome) = some false; rw [hl, hv]; rfl) h
theorem cm3 {ns : List Str} {Q : Unit → Shared → Prop} (X : K.In s.heap) (I : ObjM s.heap x dx C mA)
 (hs : PySem.W.findIn K (.ref C) "__setattr__" = some (some (.builtin "object.__setattr__"))) (hp : PySem.W.plainOver K C = true) (ht : PySem.W.takerIn K C name = some none) (hh : PySem.W.hasDictIn K C = true)
 (hw : PySem.Within mA ns) (hsz : ns.length ≤ sizeLine)
 (h : ∀ h', ObjM h' x dx C (fun y => if y = name then some v else mA y) → Heap.SameBut dx s.heap h' → Q () { s with heap := h', toks := s.toks + 2 }) :
 wpAny (model prog w) A (setAttr (.ref x) name v) Q E s := by
 obtain ⟨od, J, hl⟩ := I.look
 refine PySem.W.set_plain X J hs (PySem.W.osa_open (s := { s with toks := s.toks + 1 }) (r := none) X J hp ht fun b => ?_)
 obtain ⟨cd, hc, hd'⟩ := PySem.W.any_some hh
 have hx : s.heap.get? x = some ⟨.ref C, some dx, .plain, #[]⟩ := I.obj
 refine wpAny_bind (wpAny_pure (wpAny_bind (wpAny_bind (wpAny_loadPart hx (wpAny_bind (PySem.W.Looks.here (s := { s with toks := s.toks + 1 }) (PySem.W.looks_clsIn X hc) ?_))))))
 rw [hd']
 refine wpAny_pure (a := some dx) (wpAny_bind (wpAny_pure (wpAny_bind ?_)))
 refine wpAny_nsSet1 (s := { s with toks := s.toks + 1 }) I.ns fun h' hn2 hs2 => ?_
 obtain ⟨oD, esD, epD, hoD, hdD, hcD⟩ := hn2.count (PySem.Within.cons name v hw)
 refine wpAny_bind (wpAny_lookBehind hoD (by rw [hdD]; exact pastItsLine_dict (Nat.le_trans hcD (by rw [List.length_cons]; omega))) ?_)
 exact wpAny_pure (h _ ⟨(hs2.2 _ (Ne.symm I.ne)).trans I.obj, hn2, I.ne⟩ hs2)
theorem bi9 {R : Result → Shared → Prop} {vs : List Value} {kw : List (Str × Value)} (X : K.In s.heap) (hm : PySem.W.makesIn K C = true)
 (hi : PySem.W.findIn K (.ref C) "__init__" = some (some (.ref f))) (hf : PySem.W.typeIn K (.ref f) = some (.type "function"))
 (h : codeAny (model prog w) (A.under (.builtin "type.__call__" ⟨.ref C :: vs, kw⟩)) (.call (.ref f) ⟨.ref (s.heap.objs.size + 1) :: vs, kw⟩) (PySem.W.InitBack (s.heap.objs.size + 1) R)
  { s with heap := (s.heap.push PySem.W.emptyDict).push (PySem.W.instObj C s.heap.objs.size) }) :
 codeAny (model prog w) A (.call (.ref C) ⟨vs, kw⟩) R s := by
 obtain ⟨hh, g, d, t, os⟩ := s
 exact PySem.W.make_core (PySem.W.makes_of X hm) (PySem.W.looks_findIn X hi) (fun self => PySem.W.bind_fn X self hf) (.inl rfl) h
end
def jC (f : Str) (v : V) : List (Str × V) → List (Str × V)
  | [] => [(f, v)]
  | (g, x) :: r => if g = f then (g, v) :: r else (g, x) :: jC f v r
theorem zY (f g : Str) (v : V) : ∀ fs : List (Str × V), (jC f v fs).lookup g = if g = f then some v else fs.lookup g
  | [] => by
    show List.lookup g [(f, v)] = _
    by_cases h : g = f
    · have hb : (g == f) = true := beq_iff_eq.mpr h
      simp only [List.lookup, hb, if_pos h]
    · have hb : (g == f) = false := beq_eq_false_iff_ne.mpr h
      simp only [List.lookup, hb, if_neg h]
  | (k, x) :: r => by
    have ih := zY f g v r
    rw [show jC f v ((k, x) :: r) = (if k = f then (k, v) :: r else (k, x) :: jC f v r) from rfl]
    by_cases hk : k = f
    · rw [if_pos hk]
      by_cases h : g = k
      · have hb : (g == k) = true := beq_iff_eq.mpr h
        simp only [List.lookup, hb, if_pos (h.trans hk)]
      · have hb : (g == k) = false := beq_eq_false_iff_ne.mpr h
        simp only [List.lookup, hb, if_neg (fun e : g = f => h (e.trans hk.symm))]
    · rw [if_neg hk]
      by_cases h : g = k
      · have hb : (g == k) = true := beq_iff_eq.mpr h
        simp only [List.lookup, hb, if_neg (fun e : g = f => hk (h.symm.trans e))]
      · have hb : (g == k) = false := beq_eq_false_iff_ne.mpr h
        simp only [List.lookup, hb]
        exact ih
theorem xF (f : Str) (v : V) : ∀ fs : List (Str × V), f ∈ (jC f v fs).map (·.1) ∧ ∀ g, g ∈ fs.map (·.1) → g ∈ (jC f v fs).map (·.1)
  | [] => ⟨by simp [jC], fun g h => by simp at h⟩
  | (k, x) :: r => by
    obtain ⟨i1, i2⟩ := xF f v r
    rw [show jC f v ((k, x) :: r) = (if k = f then (k, v) :: r else (k, x) :: jC f v r) from rfl]
    by_cases hk : k = f
    · rw [if_pos hk]
      subst hk
      exact ⟨by simp, fun g h => by simpa using h⟩
    · rw [if_neg hk]
      refine ⟨?_, fun g h => ?_⟩
      · rw [List.map_cons]
        exact List.mem_cons_of_mem _ i1
      · rw [List.map_cons] at h ⊢
        rcases List.mem_cons.mp h with e | e
        · exact List.mem_cons.mpr (.inl e)
        · exact List.mem_cons_of_mem _ (i2 g e)
theorem zS (f : Str) (v : V) : ∀ fs : List (Str × V), (jC f v fs).length ≤ fs.length + 1
  | [] => by simp [jC]
  | (k, x) :: r => by
    have ih := zS f v r
    rw [show jC f v ((k, x) :: r) = (if k = f then (k, v) :: r else (k, x) :: jC f v r) from rfl]
    by_cases hk : k = f
    · rw [if_pos hk, List.length_cons, List.length_cons]; omega
    · rw [if_neg hk, List.length_cons, List.length_cons]; omega
theorem RelO.some_of {v : V} {o : Option Value} (r : RelO (some v) o) : ∃ u, o = some u ∧ RelV v u := by
 cases o with
 | none => exact (show False from r).elim
 | some u => exact ⟨u, rfl, r⟩
theorem RelO.none_of {o : Option Value} (r : RelO none o) : o = none := by
 cases o with
 | none => rfl
 | some u => exact (show False from r).elim
theorem bu5 {v : V} {u : Value} (r : RelV v u) : PySem.W.handedIn u = true := by
 cases v with
 | non => cases (show u = Value.none from r); rfl
 | bl b => cases (show u = Value.bool b from r); rfl
 | int i => obtain ⟨t, e⟩ := (show ∃ t, u = Value.int i t from r); cases e; rfl
 | str x => obtain ⟨t, e⟩ := (show ∃ t, u = Value.str x t from r); cases e; rfl
 | byt b => obtain ⟨t, e⟩ := (show ∃ t, u = Value.bytes b t from r); cases e; rfl
 | flt b => obtain ⟨t, e⟩ := (show ∃ t, u = Value.float b t from r); cases e; rfl
 | ref a => cases (show u = Value.ref a from r); rfl
 | ty n => cases (show u = Value.type n from r); rfl
section
variable {P : Program} {w : World} {H H' : Hp} {h h' : Heap} {a C dx : Addr} {fs fs' : List (Str × V)}
theorem at4 (hok : HOk P w H h) (e : H a = some (.ins C dx fs)) : ∃ mA, ObjM h a dx C mA ∧ (∀ f, RelO (fs.lookup f) (mA f)) ∧ PySem.Within mA (fs.map (·.1)) ∧ fs.length ≤ 1000 ∧ H dx = some (.own a) := by
 obtain ⟨d, z, ne, ob, mA, n, r, q⟩ := (show ObjOk P w H h a (.ins C dx fs) from hok a _ e)
 exact ⟨mA, ⟨ob, n, ne⟩, r, q, z, d⟩
end
structure Cls (K : PySem.W.Frag) (C : Addr) : Prop where
 pg : PySem.W.plainGet K C Str.empty = true
 hd : PySem.W.hasDictIn K C = true
 po : PySem.W.plainOver K C = true
 sa : PySem.W.findIn K (.ref C) "__setattr__" = some (some (.builtin "object.__setattr__"))
theorem Cls.get {K : PySem.W.Frag} {C : Addr} (c : Cls K C) (f : Str) : PySem.W.plainGet K C f = true := c.pg
def NoAttr (K : PySem.W.Frag) (C : Addr) (f : Str) : Prop := PySem.W.findIn K (.ref C) f = some none
theorem NoAttr.taker {K : PySem.W.Frag} {C : Addr} {f : Str} (n : NoAttr K C f) : PySem.W.takerIn K C f = some none := by
 unfold PySem.W.takerIn
 rw [show PySem.W.findIn K (.ref C) f = some none from n]
 rfl
structure bt8 (K : PySem.W.Frag) (C : Addr) (m : Str) (f : Addr) : Prop where
 at_ : PySem.W.findIn K (.ref C) m = some (some (.ref f))
 fn : PySem.W.isFn K (.ref f) = true
 kp : PySem.W.keepIn K (.ref f) = true
section
variable {X : Cx} {pins : List (Addr × Obj)} {σ : St} {H : Hp} {s : Shared} {a C dx : Addr} {fs : List (Str × V)} {f : Str} {v : V} {A : Around} {E : Value → Shared → Prop}
theorem bk3 {b : Bool} {Q : Value → Shared → Prop} (I : Inv X pins σ H s) (e : H a = some (.ins C dx fs)) (c : Cls X.K C) (n : NoAttr X.K C f) (l : fs.lookup f = some v)
 (h : ∀ u s', Inv X pins σ H s' → RelV v u → Q u s') : wpAny (model X.prog X.w) A (getAttr (.ref a) f b) Q E s := by
 obtain ⟨mA, O, r, _, _, _⟩ := at4 I.hok e
 obtain ⟨u, hu, ru⟩ := RelO.some_of (v := v) (o := mA f) (by rw [← l]; exact r f)
 exact cq3 I.kIn O (c.get f) c.hd n hu (bu5 ru) (h u _ (I.tok _) ru)
theorem aq2 {m : Str} {g : Addr} {pl : Sem Bool} {Q : Value × List Value → Shared → Prop} (I : Inv X pins σ H s) (e : H a = some (.ins C dx fs)) (c : Cls X.K C) (k : bt8 X.K C m g) (l : fs.lookup m = none)
 (h : Q (.ref g, [.ref a]) s) : wpAny (model X.prog X.w) A (getMethod (.ref a) m pl) Q E s := by
 obtain ⟨mA, O, r, _, _, _⟩ := at4 I.hok e
 have hn : mA m = none := RelO.none_of (by rw [← l]; exact r m)
 exact be9 I.kIn O (c.get m) k.at_ k.fn hn h
theorem by3 {y : V} {u : Value} {Q : Unit → Shared → Prop} (I : Inv X pins σ H s) (e : H a = some (.ins C dx fs)) (c : Cls X.K C) (n : NoAttr X.K C f) (hl : fs.length < 1000) (ry : RelV y u)
 (h : ∀ s', Inv X pins σ (upd H a (.ins C dx (jC f y fs))) s' → Q () s') : wpAny (model X.prog X.w) A (setAttr (.ref a) f u) Q E s := by
 obtain ⟨mA, O, r, wi, _, ho⟩ := at4 I.hok e
 have hz : (fs.map (·.1)).length ≤ sizeLine := by rw [List.length_map, sizeLine_eq]; omega
 refine cm3 I.kIn O c.sa c.po n.taker c.hd wi hz fun h' O' sb => h _ ?_
 have hd : ∃ o, h'.get? dx = some o := let ⟨o, _, _, e', _⟩ := O'.ns; ⟨o, e'⟩
 refine I.write (x := a) (e := dx) (by rw [e]; exact True.intro) (.inr ho) (fun b q hb z => (sb.2 b hb).trans z) hd ?_
 refine ⟨by rw [cQ O.ne]; exact ho, ?_, O.ne, O'.obj, _, O'.ns, fun g => ?_, fun g hg => ?_⟩
 · have := zS f y fs; omega
 · show RelO ((jC f y fs).lookup g) (if g = f then some u else mA g)
   rw [zY]
   by_cases q : g = f
   · rw [if_pos q, if_pos q]; exact ry
   · rw [if_neg q, if_neg q]; exact r g
 · by_cases q : g = f
   · rw [q]; exact (xF f y fs).1
   · refine (xF f y fs).2 g (wi g fun z => hg ?_)
     show (if g = f then some u else mA g) = none
     rw [if_neg q]; exact z
theorem Inv.made (I : Inv X pins σ H s) : Inv X pins σ (upd (upd H s.heap.objs.size (.own (s.heap.objs.size + 1))) (s.heap.objs.size + 1) (.ins C s.heap.objs.size []))
 { s with heap := (s.heap.push PySem.W.emptyDict).push (PySem.W.instObj C s.heap.objs.size) } := by
 have e1 : (s.heap.push PySem.W.emptyDict).get? s.heap.objs.size = some PySem.W.emptyDict := Heap.get?_push_size s.heap rfl
 have e2 : ((s.heap.push PySem.W.emptyDict).push (PySem.W.instObj C s.heap.objs.size)).get? (s.heap.objs.size + 1) = some (PySem.W.instObj C s.heap.objs.size) := by
  have := Heap.get?_push_size (s.heap.push PySem.W.emptyDict) (o := PySem.W.instObj C s.heap.objs.size) rfl
  rwa [Heap.size_push] at this
 have e3 : (s.heap.push PySem.W.emptyDict).Ns s.heap.objs.size (fun _ => none) := ⟨PySem.W.emptyDict, #[], _, e1, rfl, (fun e he => absurd he (by simp)), fun _ => rfl⟩
 have I1 := I.laid (a := s.heap.objs.size) (o := .own (s.heap.objs.size + 1)) (h' := s.heap.push PySem.W.emptyDict) (t' := s.toks) (fun b u q => Heap.get?_push_of_some _ q) (Nat.le_refl _) ⟨_, e1⟩
 refine I1.laid (a := s.heap.objs.size + 1) (o := .ins C s.heap.objs.size []) (t' := s.toks) (fun b u q => Heap.get?_push_of_some _ q) (Nat.le_of_eq (Heap.size_push _ _)) ?_
 have ne : s.heap.objs.size ≠ s.heap.objs.size + 1 := Nat.ne_of_lt (Nat.lt_succ_self _)
 refine ⟨by rw [cQ ne, dZ], Nat.zero_le _, ne, e2, fun _ => none, (Heap.Ns1.of_empty e3).at fun o q => Heap.get?_push_of_some _ q, fun _ => True.intro, fun y hy => absurd rfl hy⟩
theorem cl5 {prog : Program} {w : World} {env : Env} {e : Expr} {f : Str} {pos : Pos} {s : Shared} {Q : Value → Shared → Prop} (hb : attributeBase e f env (eval e env) = eval e env)
 (h : wpAny (model prog w) A (eval e env) (fun o s₁ => wpAny (model prog w) A (getAttr o f true) Q E s₁) E s) : wpAny (model prog w) A (eval (.Attribute e f pos) env) Q E s :=
 Attribute_any_ h (by rw [arm_eval_Attribute, hb])
end
def bq9 (K : PySem.W.Frag) (ta : TE) (f : Str) : TE := fun σ H Q => ta σ H fun x H1 => ∃ a C dx fs v, x = .ref a ∧ H1 a = some (.ins C dx fs) ∧ Cls K C ∧ NoAttr K C f ∧ fs.lookup f = some v ∧ Q v H1
def cm0 (K : PySem.W.Frag) (ta tv : TE) (f : Str) : TS := fun D σ H => tv σ H fun y H1 => ta σ H1 fun x H2 => ∃ a C dx fs, x = .ref a ∧ H2 a = some (.ins C dx fs) ∧ Cls K C ∧ NoAttr K C f ∧ fs.length < 1000 ∧
 D.nx σ (upd H2 a (.ins C dx (jC f y fs)))
section
variable {X : Cx} {o e value : Expr} {f : Str} {pos pos' tpos : Pos} {ta tv : TE}
theorem ct9 (he : PE X e ta) (hb : attributeBase e f X.env (eval e X.env) = eval e X.env) : PE X (.Attribute e f pos) (bq9 X.K ta f) := by
 intro pins s σ H Q I h
 refine cl5 hb (cI (he pins s σ H _ I h) fun u s1 ⟨x, H1, I1, rx, a, C, dx, fs, v, ex, ea, c, n, l, q⟩ => ?_)
 subst ex
 obtain rfl : u = Value.ref a := rx
 exact bk3 I1 ea c n l fun u' s2 I2 ru => ⟨v, H1, I2, ru, q⟩
theorem ch8 (ha : PE X o ta) (hv : PE X value tv) (hs : swapsWith value (some (.Attribute o f pos')) pos.line X.env = pure false) : PS X (.Assign [.Attribute o f pos'] value pos) (cm0 X.K ta tv f) := by
 intro pins s σ H D I h
 refine plainObj_wpAny_Assign_Attribute (cI (hv pins s σ H _ I h) fun u s1 ⟨y, H1, I1, ry, q⟩ => cI (ha pins s1 σ H1 _ I1 q) fun ov s2 ⟨x, H2, I2, rx, a, C, dx, fs, ex, ea, c, n, l, q2⟩ => ?_) hs
 subst ex
 obtain rfl : ov = Value.ref a := rx
 exact by3 I2 ea c n l ry fun s3 I3 => ⟨σ, _, I3, q2⟩
end
section
variable {X : Cx} {pins : List (Addr × Obj)} {σ : St} {H : Hp} {s : Shared} {A : Around} {E : Value → Shared → Prop} {Q : Value → Shared → Prop} {c : Value} {b : Bool}
end
end L2
namespace L2
open PySem PySem.Spec PyProof.Rows
structure Room (k : Nat) (A : Around) : Prop where
 hd : A.handled = none
 dp : A.depth + 3 * k + 5 < recursionLimit
 un : A.units + 16 * k + 200 < cLine
theorem Room.mono {j k : Nat} {A : Around} (r : Room k A) (h : j ≤ k) : Room j A := ⟨r.hd, by have := r.dp; omega, by have := r.un; omega⟩
theorem Room.deeper {k : Nat} {A : Around} (r : Room (k + 1) A) (env : Env) : Room k (A.deeper env) :=
 ⟨r.hd, by have := r.dp; show A.depth + 1 + 3 * k + 5 < _; omega, by have := r.un; show A.units + 3 + 16 * k + 200 < _; omega⟩
theorem bz2 {A : Around} {C : Addr} {us : List Value} {kw : List (Str × Value)} : (A.under (.builtin "type.__call__" ⟨.ref C :: us, kw⟩)).depth = A.depth + 1 := by
 first | rfl | simp [Around.under, Code.weight, Code.isCreation, Code.isGuard, Code.isCaller, Code.frames, Code.isFrame, guardIds]
theorem bg3 {A : Around} {C : Addr} {us : List Value} {kw : List (Str × Value)} : (A.under (.builtin "type.__call__" ⟨.ref C :: us, kw⟩)).units = A.units + 1 := by
 first | rfl | simp [Around.under, Code.cUnits, Code.frames, Code.isFrame]
theorem Room.make {k : Nat} {A : Around} (r : Room (k + 1) A) (C : Addr) (us : List Value) (kw : List (Str × Value)) : Room k (A.under (.builtin "type.__call__" ⟨.ref C :: us, kw⟩)) :=
 ⟨r.hd, by have := r.dp; rw [bz2]; omega, by have := r.un; rw [bg3]; omega⟩
theorem Room.depth {k : Nat} {A : Around} (r : Room k A) : A.depth < recursionLimit := by have := r.dp; omega
theorem Room.units {k : Nat} {A : Around} (r : Room k A) : A.units + 64 < cLine := by have := r.un; omega
def as3 : TA := fun _ H Q => Q [] H
def ap1 (ta : TE) (tr : TA) : TA := fun σ H Q => ta σ H fun x H1 => tr σ H1 fun xs H2 => Q (x :: xs) H2
section
variable {X : Cx} {e : Expr} {es : List Expr} {te : TE} {t : TA} {pos : Pos}
theorem aH : PA X [] as3 := fun _ _ _ _ H Q I h => Calls.spliced_nil ⟨[], H, I, .nil, h⟩
theorem aB (ha : PE X e te) (hr : PA X es t) (hs : starEach (e :: es) X.env = (false, eval e X.env) :: starEach es X.env := by rfl) : PA X (e :: es) (ap1 te t) := by
 intro pos pins s σ H Q I h
 rw [hs]
 show wpAny _ _ (spliced ((false, eval e X.env) :: backTo pos (starEach es X.env))) _ _ s
 refine Calls.spliced_cons (cI (ha pins s σ H _ I h) fun u s1 ⟨x, H1, I1, r1, q1⟩ => ?_)
 exact cI (hr pos pins s1 σ H1 _ I1 q1) fun us s2 ⟨xs, H2, I2, r2, q2⟩ => ⟨x :: xs, H2, I2, .cons r1 r2, q2⟩
def cx9 (t : TA) : TE := fun σ H Q => t σ H fun xs H1 => xs.length ≤ sizeLine ∧ ∀ p, H1 p = none → Q (.ref p) (upd H1 p (.tup xs))
def cd9 (t : TA) : TE := fun σ H Q => t σ H fun xs H1 => xs.length ≤ sizeLine ∧ ∀ p, H1 p = none → Q (.ref p) (upd H1 p (.lst xs))
theorem bZ {x1} (h : PA X es t) : PE X (.Tuple es x1 pos) (cx9 t) := by
 intro pins s σ H Q I hq
 refine wpAny_Tuple_spliced (cI (h pos pins s σ H _ I hq) fun us s1 ⟨xs, H1, I1, r, z, q⟩ => ⟨by rw [← r.length]; exact z, ?_⟩)
 have hf : H1 s1.heap.objs.size = none := I1.hok.fresh (Nat.le_refl _)
 refine ⟨.ref s1.heap.objs.size, upd H1 s1.heap.objs.size (.tup xs), I1.laid (t' := s1.toks) (fun b u e => Heap.get?_push_of_some _ e) (Nat.le_refl _) ?_, rfl, q _ hf⟩
 exact ⟨z, us, r, ⟨_, Heap.get?_push_size _ rfl, rfl, _, rfl⟩⟩
theorem dQ (h : PA X es t) : PE X (.List es pos) (cd9 t) := by
 intro pins s σ H Q I hq
 refine wpAny_List_spliced (cI (h pos pins s σ H _ I hq) fun us s1 ⟨xs, H1, I1, r, z, q⟩ => ⟨by rw [← r.length]; exact z, ?_⟩)
 have hf : H1 s1.heap.objs.size = none := I1.hok.fresh (Nat.le_refl _)
 refine ⟨.ref s1.heap.objs.size, upd H1 s1.heap.objs.size (.lst xs), I1.laid (t' := s1.toks) (fun b u e => Heap.get?_push_of_some _ e) (Nat.le_refl _) ?_, rfl, q _ hf⟩
 exact ⟨z, us, 0, r, Heap.get?_push_size _ rfl⟩
end
abbrev Sp := List V → Hp → VK → XK → Prop
abbrev wY := List Env → Hp → Shared → XK → Value → Shared → Prop
structure Env0 (P : Program) (w : World) (K : PySem.W.Frag) (mg : Str → Option Value) (base : Heap) (A : Around) (outer : List Env) (s : Shared) (H : Hp) : Prop where
 frames : A.frames = some outer
 mod : Mod K mg base
 bs : ∀ b o, base.get? b = some o → s.heap.get? b = some o ∧ H b = none
 bsz : base.objs.size ≤ s.heap.objs.size
 funs : s.heap.FunFrames base outer
 frf : ∀ b ∈ uO outer, H b = none
 hok : HOk P w H s.heap
 bare : AllBare s.gens
def CE (outer : List Env) (P : Program) (w : World) (H : Hp) (s : Shared) (Q : VK) (u : Value) (s' : Shared) : Prop :=
 ∃ v H', s'.os = s.os ∧ AllBare s'.gens ∧ Un (uO outer) [] H H' s.heap s'.heap ∧ HOk P w H' s'.heap ∧ RelV v u ∧ Q v H'
def CR (CX : wY) (outer : List Env) (P : Program) (w : World) (H : Hp) (s : Shared) (Q : VK) (E : XK) (r : Result) (s' : Shared) : Prop :=
 match r with
 | .ok (.ret u) => CE outer P w H s Q u s'
 | .ok _ => False
 | .error e => CX outer H s E e s'
structure FnOk (P : Program) (w : World) (K : PySem.W.Frag) (mg : Str → Option Value) (base : Heap) (CX : wY) (k : Nat) (f : Addr) (fd : FuncData) (ps : List Str) (sp : Sp) : Prop where
 len : ∀ vs H Q E, sp vs H Q E → vs.length = ps.length
 run : ∀ (A : Around) (outer : List Env) (s : Shared) (H : Hp) (args : Args) (us : List Value) (vs : List V) (Q : VK) (E : XK), Room k A → Env0 P w K mg base A outer s H → BindsTo s fd args (ps.zip us) → Vals vs us → sp vs H Q E →
  codeAny (model P w) A (.call (.ref f) args) (CR CX outer P w H s Q E) s
theorem FnOk.mono {P : Program} {w : World} {K : PySem.W.Frag} {mg : Str → Option Value} {base : Heap} {CX : wY} {j k : Nat} {f : Addr} {fd : FuncData} {ps : List Str} {sp : Sp} (F : FnOk P w K mg base CX j f fd ps sp) (h : j ≤ k) :
 FnOk P w K mg base CX k f fd ps sp := ⟨F.len, fun A outer s H args us vs Q E hr => F.run A outer s H args us vs Q E (hr.mono h)⟩
theorem FnOk.imp {P : Program} {w : World} {K : PySem.W.Frag} {mg : Str → Option Value} {base : Heap} {CX : wY} {k : Nat} {f : Addr} {fd : FuncData} {ps : List Str} {sp sp' : Sp} (F : FnOk P w K mg base CX k f fd ps sp)
 (h : ∀ vs H Q E, sp' vs H Q E → sp vs H Q E) : FnOk P w K mg base CX k f fd ps sp' :=
 ⟨fun vs H Q E q => F.len vs H Q E (h _ _ _ _ q), fun A outer s H args us vs Q E hr he hb hv hs => F.run A outer s H args us vs Q E hr he hb hv (h _ _ _ _ hs)⟩
theorem Env0.make {P : Program} {w : World} {K : PySem.W.Frag} {mg : Str → Option Value} {base : Heap} {A : Around} {outer : List Env} {s : Shared} {H : Hp} (e : Env0 P w K mg base A outer s H) (C : Addr) (us : List Value) (kw : List (Str × Value)) :
    Env0 P w K mg base (A.under (.builtin "type.__call__" ⟨.ref C :: us, kw⟩)) outer s H := ⟨by first | exact e.frames | (simpa [Around.under, Code.envs, Code.isFrame, pushEnvs] using e.frames), e.mod, e.bs, e.bsz, e.funs, e.frf, e.hok, e.bare⟩
section
variable {X : Cx} {pins : List (Addr × Obj)} {σ : St} {H : Hp} {s s' : Shared}
theorem Inv.env0 (I : Inv X pins σ H s) : Env0 X.prog X.w X.K X.mg X.base X.A X.stack s H :=
 ⟨I.ok.frames, I.ok.mod, I.bs, Nat.le_trans I.ok.bsz I.sz, I.stack, I.stkFree, I.hok, I.bare⟩
theorem Inv.after {Q : VK} {u : Value} (I : Inv X pins σ H s) (h : CE X.stack X.prog X.w H s Q u s') : EP X pins σ Q u s' := by
 obtain ⟨v, H', os, bare, un, hok, r, q⟩ := h
 obtain ⟨hh, g, d, t, os'⟩ := s'
 obtain rfl : os' = s.os := os
 exact ⟨v, H', I.call (h' := hh) (g' := g) (d' := d) (t' := t) (ch := []) un hok bare (fun b z => absurd z (by simp)), r, q⟩
end
def du1 (sp : Sp) (dvs : List V) (E : XK) (t : TA) : TE := fun σ H Q => t σ H fun vs H1 => sp (vs ++ dvs) H1 Q E
def bt3 (C : Addr) (sp : Sp) (dvs : List V) (E : XK) (t : TA) : TE := fun σ H Q => t σ H fun vs H1 => ∀ x dx, H1 x = none → H1 dx = none → dx ≠ x →
 sp (.ref x :: (vs ++ dvs)) (upd (upd H1 dx (.own x)) x (.ins C dx [])) (fun v H2 => v = .non ∧ Q (.ref x) H2) E
def Binds (K : PySem.W.Frag) (fd : FuncData) (ps : List Str) (ds : List Value) : Prop :=
 ∀ (s : Shared) (us : List Value), K.In s.heap → (us ++ ds).length = ps.length → BindsTo s fd ⟨us, []⟩ (ps.zip (us ++ ds))
theorem Binds.all {K : PySem.W.Frag} {fd : FuncData} {ps : List Str} (h : ∀ us : List Value, us.length = ps.length → bindArgs fd ⟨us, []⟩ = pure (ps.zip us)) : Binds K fd ps [] := fun s us _ hl => by
 rw [List.append_nil] at hl ⊢
 exact .of_eq (h us hl)
def yR (CX : wY) (X : Cx) (E : XK) : Prop := ∀ (pins : List (Addr × Obj)) (σ : St) (H : Hp) (s : Shared) (e : Value) (s' : Shared), Inv X pins σ H s → CX X.stack H s E e s' → X.xe e s'
section
variable {X : Cx} {CX : wY} {k : Nat} {f C : Addr} {fd : FuncData} {ps : List Str} {sp : Sp} {dvs : List V} {ds : List Value} {E : XK} {x m : Str} {p pos apos : Pos} {e o : Expr} {es : List Expr} {ta : TE} {t : TA}
theorem ak2 {pins : List (Addr × Obj)} {σ : St} {H : Hp} {s : Shared} {Q : VK} {us : List Value} {vs : List V} (F : FnOk X.prog X.w X.K X.mg X.base CX k f fd ps sp) (hr : Room k X.A) (hb : Binds X.K fd ps ds) (hd : Vals dvs ds) (hx : yR CX X E)
 (I : Inv X pins σ H s) (r : Vals vs us) (h : sp (vs ++ dvs) H Q E) : wpAny (model X.prog X.w) X.A (call (.ref f) us) (EP X pins σ Q) X.xe s := by
 have r2 : Vals (vs ++ dvs) (us ++ ds) := r.append hd
 have hl : (us ++ ds).length = ps.length := by rw [← r2.length]; exact F.len _ _ _ _ h
 refine wpAny_call (codeAny_mono (F.run X.A X.stack s H ⟨us, []⟩ (us ++ ds) (vs ++ dvs) Q E hr I.env0 (hb s us I.kIn hl) r2 h) fun r s' hq => ?_)
 cases r with
 | error e => exact hx pins σ H s e s' I hq
 | ok fl =>
  cases fl with
  | ret u => exact I.after hq
  | next => exact False.elim hq
  | brk => exact False.elim hq
  | cont => exact False.elim hq
theorem cp4 (F : FnOk X.prog X.w X.K X.mg X.base CX k f fd ps sp) (hr : Room k X.A) (hg : Gl X x) (hm : X.mg x = some (.ref f)) (hk : PySem.W.keepIn X.K (.ref f) = true) (hb : Binds X.K fd ps ds) (hd : Vals dvs ds) (hx : yR CX X E)
 (ha : PA X (e :: es) t) (hdb : (x == ("__debug__" : Str)) = false := by decide) (he : starEach (e :: es) X.env = (false, eval e X.env) :: starEach es X.env := by rfl) (hpl : (backTo pos (starEach es X.env)).any (·.1) = false := by rfl) :
 PE X (.Call (.Name x p) (e :: es) [] pos) (du1 sp dvs E t) := by
 intro pins s σ H Q I h
 refine wpAny_Call_Name_kw (uQ I hg hm ?_ hdb)
 refine PySem.W.callWith_K (h₀ := X.base) I.ok.mod.kin hk (cI (ha pos pins s σ H _ I h) fun us s1 ⟨vs, H1, I1, r, q⟩ => ⟨I1.kIn, ?_⟩) he hpl
 exact ak2 F hr hb hd hx I1 r q
structure Mk (K : PySem.W.Frag) (C f : Addr) : Prop where
 makes : PySem.W.makesIn K C = true
 init : PySem.W.findIn K (.ref C) "__init__" = some (some (.ref f))
 fn : PySem.W.isFn K (.ref f) = true
 kp : PySem.W.keepIn K (.ref C) = true
theorem ce1 {pins : List (Addr × Obj)} {σ : St} {H : Hp} {s : Shared} {Q : VK} {us : List Value} {vs : List V} (M : Mk X.K C f) (F : FnOk X.prog X.w X.K X.mg X.base CX k f fd ps sp) (hr : Room (k + 1) X.A) (hb : Binds X.K fd ps ds) (hd : Vals dvs ds)
 (hx : yR CX X E) (I : Inv X pins σ H s) (r : Vals vs us)
 (h : ∀ x dx, H x = none → H dx = none → dx ≠ x → sp (.ref x :: (vs ++ dvs)) (upd (upd H dx (.own x)) x (.ins C dx [])) (fun v H2 => v = .non ∧ Q (.ref x) H2) E) :
 wpAny (model X.prog X.w) X.A (call (.ref C) us) (EP X pins σ Q) X.xe s := by
 have hq := h (s.heap.objs.size + 1) s.heap.objs.size (I.hok.fresh (Nat.le_succ _)) (I.hok.fresh (Nat.le_refl _)) (Nat.ne_of_lt (Nat.lt_succ_self _))
 have I2 := Inv.made (C := C) I
 have r2 : Vals (V.ref (s.heap.objs.size + 1) :: (vs ++ dvs)) (Value.ref (s.heap.objs.size + 1) :: (us ++ ds)) := .cons rfl (r.append hd)
 have hl : (Value.ref (s.heap.objs.size + 1) :: us ++ ds).length = ps.length := by
  have e := r2.length
  rw [F.len _ _ _ _ hq] at e
  exact e.symm
 refine wpAny_call (bi9 (f := f) I.kIn M.makes M.init (beq_iff_eq.mp M.fn) (codeAny_mono (F.run _ X.stack _ _ ⟨Value.ref (s.heap.objs.size + 1) :: us, []⟩ (Value.ref (s.heap.objs.size + 1) :: (us ++ ds)) _ _ E (hr.make C us [])
  (I2.env0.make C us []) (hb _ (Value.ref (s.heap.objs.size + 1) :: us) I2.kIn hl) r2 hq) fun r s' hq' => ?_))
 cases r with
 | error e => exact hx pins σ _ _ e s' I2 hq'
 | ok fl =>
  cases fl with
  | ret u =>
   obtain ⟨v, H', I3, rv, ev, q3⟩ := I2.after hq'
   subst ev
   exact ⟨rv, ⟨V.ref (s.heap.objs.size + 1), H', I3, rfl, q3⟩⟩
  | next => exact False.elim hq'
  | brk => exact False.elim hq'
  | cont => exact False.elim hq'
theorem cz2 (M : Mk X.K C f) (F : FnOk X.prog X.w X.K X.mg X.base CX k f fd ps sp) (hr : Room (k + 1) X.A) (hg : Gl X x) (hm : X.mg x = some (.ref C)) (hb : Binds X.K fd ps ds) (hd : Vals dvs ds) (hx : yR CX X E)
 (ha : PA X (e :: es) t) (hdb : (x == ("__debug__" : Str)) = false := by decide) (he : starEach (e :: es) X.env = (false, eval e X.env) :: starEach es X.env := by rfl) (hpl : (backTo pos (starEach es X.env)).any (·.1) = false := by rfl) :
 PE X (.Call (.Name x p) (e :: es) [] pos) (bt3 C sp dvs E t) := by
 intro pins s σ H Q I h
 refine wpAny_Call_Name_kw (uQ I hg hm ?_ hdb)
 refine PySem.W.callWith_K (h₀ := X.base) I.ok.mod.kin M.kp (cI (ha pos pins s σ H _ I h) fun us s1 ⟨vs, H1, I1, r, q⟩ => ⟨I1.kIn, ?_⟩) he hpl
 exact ce1 M F hr hb hd hx I1 r q
end
section
variable {X : Cx} {CX : wY} {k : Nat} {f C : Addr} {fd : FuncData} {ps ks : List Str} {sp : Sp} {E : XK} {x m : Str} {p pos apos kpos : Pos} {e o : Expr} {es : List Expr} {kws : List Keyword} {te ta : TE} {t tk : TA} {nm : Option Str}
variable {g : List Value → List Value → List Value} {gV : List V → List V → List V}
end
structure bE (N P : List Str) (sc : Scope) : Prop where
 kind : sc.kind = .function
 co : sc.isCoroutine = false
 gen : sc.isGenerator = false
 nd : N.Nodup
 pre : N.take P.length = P
 par : ∀ x ∈ P, sc.names.lookup x = some .local ∨ sc.names.lookup x = some .cell
 nofree : ∀ y ∈ sc.names, y.2 ≠ .free
theorem ad6 {kindOf : Str → Option NameKind} {x : Str} : ∀ {binds : List (Str × Value)} {m : Str → Option Value}, (∀ v, (x, v) ∉ binds) → bindL kindOf binds m x = m x
  | [], _, _ => rfl
  | (n, v) :: r, m, h => by
    unfold bindL
    rw [ad6 fun w hw => h w (List.mem_cons_of_mem _ hw)]
    split
    · have : x ≠ n := by rintro rfl; exact h v List.mem_cons_self
      simp [this]
    · rfl
theorem aw5 {kindOf : Str → Option NameKind} {x : Str} : ∀ {binds : List (Str × Value)} {m : Str → Option Value}, (∀ v, (x, v) ∉ binds) → bindC kindOf binds m x = m x
  | [], _, _ => rfl
  | (n, v) :: r, m, h => by
    unfold bindC
    rw [aw5 fun w hw => h w (List.mem_cons_of_mem _ hw)]
    split
    · rfl
    · have : x ≠ n := by rintro rfl; exact h v List.mem_cons_self
      simp [this]
theorem ar5 {kindOf : Str → Option NameKind} {x : Str} {v : Value} : ∀ {P : List Str} {vs : List Value} {i : Nat} {m : Str → Option Value}, P.Nodup → P[i]? = some x → vs[i]? = some v → kindOf x = some .local →
 bindL kindOf (P.zip vs) m x = some v
 | [], _, _, _, _, h, _, _ => by simp at h
 | _ :: _, [], _, _, _, _, h, _ => by simp at h
 | p :: P, w :: vs, 0, m, nd, h1, h2, hk => by
  simp at h1 h2; subst h1; subst h2
  show bindL kindOf ((p, w) :: P.zip vs) m p = _
  unfold bindL
  rw [ad6 fun v hv => (List.nodup_cons.mp nd).1 (List.of_mem_zip hv).1, if_pos hk]
  simp
 | p :: P, w :: vs, i + 1, m, nd, h1, h2, hk => by
  show bindL kindOf ((p, w) :: P.zip vs) m x = _
  unfold bindL
  exact ar5 (i := i) (List.nodup_cons.mp nd).2 (by simpa using h1) (by simpa using h2) hk
theorem au5 {kindOf : Str → Option NameKind} {x : Str} {v : Value} : ∀ {P : List Str} {vs : List Value} {i : Nat} {m : Str → Option Value}, P.Nodup → P[i]? = some x → vs[i]? = some v → kindOf x ≠ some .local →
 bindC kindOf (P.zip vs) m x = some v
 | [], _, _, _, _, h, _, _ => by simp at h
 | _ :: _, [], _, _, _, _, h, _ => by simp at h
 | p :: P, w :: vs, 0, m, nd, h1, h2, hk => by
  simp at h1 h2; subst h1; subst h2
  show bindC kindOf ((p, w) :: P.zip vs) m p = _
  unfold bindC
  rw [aw5 fun v hv => (List.nodup_cons.mp nd).1 (List.of_mem_zip hv).1, if_neg hk]
  simp
 | p :: P, w :: vs, i + 1, m, nd, h1, h2, hk => by
  show bindC kindOf ((p, w) :: P.zip vs) m x = _
  unfold bindC
  exact au5 (i := i) (List.nodup_cons.mp nd).2 (by simpa using h1) (by simpa using h2) hk
def iS (N : List Str) (vs : List V) : St := vs.map some ++ List.replicate (N.length - vs.length) none
def mO (CX : wY) (P : Program) (w : World) (K : PySem.W.Frag) (mg : Str → Option Value) (base : Heap) (N : List Str) (qual : Str) (scope : Scope) (f : Addr) (cd : Value) (A : Around) (outer : List Env) (s : Shared) (H : Hp) (E : XK) : Cx where
 prog := P
 w := w
 K := K
 mg := mg
 base := base
 A := A.deeper (envOfC qual scope s.heap.objs.size f cd)
 N := N
 s₀ := s
 H₀ := H
 env := envOfC qual scope s.heap.objs.size f cd
 outer := outer
 stack := envOfC qual scope s.heap.objs.size f cd :: outer
 ex := []
 calm := true
 fn := fun _ => true
 pn := []
 xe := fun e s' => wpAny (model P w) (A.deeper (envOfC qual scope s.heap.objs.size f cd)) (leaving (envOfC qual scope s.heap.objs.size f cd) e) (fun _ s'' => CX outer H s E e s'') (fun e' s'' => CX outer H s E e' s'') s'
theorem ap7 {sc : Scope} {n : Nat} {x : Str} (h : sc.names.lookup x = some .cell) : ∃ c, (cellsFrom n sc.names []).lookup x = some c := by
 have q := PySem.W.cellsFrom_some sc.names n [] (.inl h)
 exact Option.isSome_iff_exists.mp q
theorem bs6 {CX : wY} {P : Program} {w : World} {K : PySem.W.Frag} {mg : Str → Option Value} {base : Heap} {N ps : List Str} {qual : Str} {scope : Scope} {f : Addr} {cd : Value} {A : Around} {outer : List Env} {s s1 : Shared} {H : Hp} {E : XK} {us : List Value} {vs : List V}
 (S : bE N ps scope) (hd : A.handled = none) (e0 : Env0 P w K mg base A outer s H) (hl : vs.length = ps.length) (r : Vals vs us)
 (x : InCallC s s.heap.objs.size (bindL (envOfC qual scope s.heap.objs.size f cd).kindOf (ps.zip us) fun _ => none) (cellsFrom (s.heap.objs.size + 1) scope.names []) (bindC (envOfC qual scope s.heap.objs.size f cd).kindOf (ps.zip us) fun _ => none) s1) :
 Inv (mO CX P w K mg base N qual scope f cd A outer s H E) [] (iS N vs) H s1 := by
 have hpl : ps.length ≤ N.length := by have := congrArg List.length S.pre; rw [List.length_take] at this; omega
 obtain ⟨h1, tk, rfl, hk⟩ := x.done
 have noA : ∀ b : Addr, b ∉ (mO CX P w K mg base N qual scope f cd A outer s H E).ex := fun b z => absurd (show b ∈ ([] : List Addr) from z) (by simp)
 refine ⟨⟨e0.mod, S.kind, rfl, rfl, Nat.le_refl _, fun y z c h1 h2 => ?_, fun y hy => ?_, fun y c _ h => ?_, fun _ => hd, Around.frames_deeper e0.frames, .inr ⟨rfl, rfl⟩, fun b z => absurd z (noA b), e0.bs, e0.bsz, fun b _ _ => noA b, fun b z => absurd z (noA b), e0.funs, e0.frf⟩,
  rfl, e0.bare, Un.kept hk, ⟨_, x.toInCall.ns, fun i y v h1 h2 h3 => ?_⟩, fun y c h => ⟨_, x.cell y c h⟩, e0.hok.fresh (Nat.le_refl _), fun y c h => ?_, fun p hp => absurd (show p ∈ ([] : List (Addr × Obj)) from hp) (by simp), e0.hok.kept hk, ?_⟩
 · exact name_of_addr x.apart (PySem.mem_of_lookup h1) (PySem.mem_of_lookup h2)
 · have hy : scope.names.lookup y = some .cell ∨ scope.names.lookup y = some .free := hy
   rcases hy with hy | hy
   · exact ap7 hy
   · exact absurd rfl (S.nofree _ (PySem.mem_of_lookup hy))
 · exact Nat.le_of_lt (x.above y c (PySem.mem_of_lookup h))
 · have hi : i < vs.length := by
    unfold iS at h2
    by_cases hi : i < vs.length
    · exact hi
    · rw [List.getElem?_append_right (by simpa using hi)] at h2
      rw [List.getElem?_replicate] at h2
      split at h2 <;> cases h2
   have ha : vs[i]? = some v := by
    unfold iS at h2
    rw [List.getElem?_append_left (by simpa using hi), List.getElem?_map] at h2
    cases e : vs[i]? with
    | none => rw [e] at h2; cases h2
    | some a => rw [e] at h2; cases h2; rfl
   obtain ⟨u, hu, rv⟩ := r.get ha
   have hp : ps[i]? = some y := by
    rw [← S.pre, List.getElem?_take_of_lt (by omega)]; exact h1
   have ndP : ps.Nodup := by rw [← S.pre]; exact S.nd.sublist (List.take_sublist _ _)
   refine ⟨u, rv, ?_⟩
   rcases S.par y (List.mem_of_getElem? hp) with k | k
   · exact .inl ⟨k, ar5 ndP hp hu k⟩
   · obtain ⟨c, e⟩ := ap7 (n := s.heap.objs.size + 1) k
     refine .inr ⟨.inl k, c, e, ?_⟩
     have q := x.cell y c e
     rw [au5 ndP hp hu (by show scope.names.lookup y ≠ _; rw [k]; decide)] at q
     exact q
 · exact e0.hok.fresh (Nat.le_of_lt (x.above y c (PySem.mem_of_lookup h)))
 · unfold iS
   show _ = N.length
   rw [List.length_append, List.length_map, List.length_replicate]
   omega
theorem dy1 {CX : wY} {P : Program} {w : World} {K : PySem.W.Frag} {mg : Str → Option Value} {base : Heap} {k : Nat} {f : Addr} {name qual : Str} {params : Arguments} {body : List Stmt} {scope : Scope} {dV kV doc pm cdv ct oc : Value} {an od : Option Addr}
 {osl : Array (Option Value)} {N ps : List Str} {sp : Sp} (lk : K.lookup f = some ⟨oc, od, .func (PySem.W.fnOf name qual params body scope dV kV doc pm an cdv ct), osl⟩) (hcd : PySem.W.codeIn K cdv qual = true) (S : bE N ps scope)
 (len : ∀ vs H Q E, sp vs H Q E → vs.length = ps.length)
 (hbody : ∀ (A : Around) (outer : List Env) (s : Shared) (H : Hp) (vs : List V) (Q : VK) (E : XK), Room k (A.deeper (envOfC qual scope s.heap.objs.size f cdv)) → sp vs H Q E →
  ∃ t, PSs (mO CX P w K mg base N qual scope f cdv A outer s H E) body t ∧ t { nx := fun _ H' => Q .non H', rt := Q } (iS N vs) H) :
 FnOk P w K mg base CX (k + 1) f (PySem.W.fnOf name qual params body scope dV kV doc pm an cdv ct) ps sp := by
 refine ⟨len, fun A outer s H args us vs Q E hr e0 hb r hsp => ?_⟩
 have hl := len _ _ _ _ hsp
 have KX : K.In s.heap := e0.mod.kin.keeps fun b o e => (e0.bs b o e).1
 have lim : s.heap.NoLimit := e0.mod.nolimit.keeps fun b o e => (e0.bs b o e).1
 have hkind : ∀ y ∈ ps.zip us, scope.names.lookup y.1 = some .local ∨ (scope.names.lookup y.1 = some .cell ∧ ((cellsFrom (s.heap.objs.size + 1) scope.names []).lookup y.1).isSome = true) := fun ⟨n, v⟩ hy => by
  rcases S.par n (List.of_mem_zip hy).1 with q | q
  · exact .inl q
  · exact .inr ⟨q, PySem.W.cellsFrom_some _ _ _ (.inl q)⟩
 refine codeAny_call_function hr.depth (KX _ _ lk) rfl S.co S.gen rfl (PySem.W.codeRec_of KX hcd) (hb _ _ _ _ ?_)
 refine wpAny_newFunctionEnv_cells S.kind hkind fun env he s1 x => ?_
 subst he
 refine ⟨lim.keeps x.toInCall.keep, codeAny_func ?_⟩
 obtain ⟨t, ht, hq⟩ := hbody A outer s H vs Q E (hr.deeper _) hsp
 have I : Inv (mO CX P w K mg base N qual scope f cdv A outer s H E) [] (iS N vs) H s1 := bs6 S hr.hd e0 hl r x
 refine wpAny_mono (ht [] s1 (iS N vs) H _ I hq) (fun fl s' hs => ?_) fun e s' hs => hs
 have bY : ∀ {σ' : St} {H' : Hp} {v : V} {u : Value}, Inv (mO CX P w K mg base N qual scope f cdv A outer s H E) [] σ' H' s' → RelV v u → Q v H' → CE outer P w H s Q u s' :=
  fun {σ' H' v u} J rv q => ⟨v, H', J.os, J.bare, J.base, J.hok, rv, q⟩
 cases fl with
 | ret u =>
  obtain ⟨v, σ', H', J, rv, q⟩ := hs
  exact bY J rv q
 | next =>
  obtain ⟨σ', H', J, q⟩ := hs
  exact bY (v := V.non) (u := Value.none) J rfl q
 | brk =>
  obtain ⟨_, _, _, q⟩ := hs
  exact False.elim q
 | cont =>
  obtain ⟨_, _, _, q⟩ := hs
  exact False.elim q
end L2
namespace L2
open PySem PySem.Spec PyProof.Rows
section
variable {X : Cx} {x : Str} {p pos : Pos} {e : Expr} {es : List Expr} {t : TA} {id T : String} {r : List V → Hp → VK → Prop}
def tCB (r : List V → Hp → VK → Prop) (t : TA) : TE := fun σ H Q => t σ H fun vs H1 => r vs H1 Q
theorem aU (hc : CallR X (.builtin id) r) (hg : Gl X x) (hm : X.mg x = none) (hv : bootBuiltins x = some (.builtin id)) (ha : PA X (e :: es) t) (hn : x ≠ "__name__" := by decide) (hdb : (x == ("__debug__" : Str)) = false := by decide)
 (he : starEach (e :: es) X.env = (false, eval e X.env) :: starEach es X.env := by rfl) (hpl : (backTo pos (starEach es X.env)).any (·.1) = false := by rfl) : PE X (.Call (.Name x p) (e :: es) [] pos) (tCB r t) := by
 intro pins s σ H Q I h
 refine wpAny_Call_Name_kw (oN I hg hm hv ?_ hn hdb)
 exact PyProof.Rows.callWith_builtin1 (cI (ha pos pins s σ H _ I h) fun us s1 ⟨vs, H1, I1, r1, q1⟩ => hc pins s1 σ H1 vs us Q I1 r1 q1) he hpl
theorem fW (hc : CallR X (.type T) r) (hg : Gl X x) (hm : X.mg x = none) (hv : bootBuiltins x = some (.type T)) (ha : PA X (e :: es) t) (hn : x ≠ "__name__" := by decide) (hdb : (x == ("__debug__" : Str)) = false := by decide)
 (he : starEach (e :: es) X.env = (false, eval e X.env) :: starEach es X.env := by rfl) (hpl : (backTo pos (starEach es X.env)).any (·.1) = false := by rfl) : PE X (.Call (.Name x p) (e :: es) [] pos) (tCB r t) := by
 intro pins s σ H Q I h
 refine wpAny_Call_Name_kw (oN I hg hm hv ?_ hn hdb)
 exact PyProof.Rows.callWith_type1 (cI (ha pos pins s σ H _ I h) fun us s1 ⟨vs, H1, I1, r1, q1⟩ => hc pins s1 σ H1 vs us Q I1 r1 q1) he hpl
end
end L2
namespace HT
open PySem PyProof.Rows
section
open PySem.SeqAt
open PySem.AutoSeq1 (wpAny_loadPart')
open PySem.MeetsSeq PySem.MeetsSeq2 PySem.MeetsSeq3
end
section
variable {prog : Program} {w : World} {A : Around} {E : Value → Shared → Prop} {s : Shared}
theorem cat_tup {t b : Addr} {vs ws : List Value} {Q : Value → Shared → Prop} (ht : IsTup s.heap t vs.toArray) (hb : IsTup s.heap b ws.toArray) (hv : vs ≠ [])
 (h1 : ws = [] → Q (.ref t) s) (h2 : ws ≠ [] → Q (.ref s.heap.objs.size) { s with heap := s.heap.push { cls := .type "tuple", data := .seq (vs ++ ws).toArray } })
 (hsz : vs.length + ws.length ≤ sizeLine) : wpAny (model prog w) A (binaryOp .Add (.ref t) (.ref b)) Q E s := by
 obtain ⟨⟨cls, dd, data, sl⟩, ho, hc, n, hd⟩ := id ht
 obtain ⟨⟨cls2, dd2, data2, sl2⟩, ho2, hc2, n2, hd2⟩ := id hb
 simp only at hc hd hc2 hd2
 subst hc hd hc2 hd2
 have e : vs.toArray ++ ws.toArray = (vs ++ ws).toArray := by simp
 by_cases hw : ws = []
 · exact concat_meets ⟨_, ho, rfl⟩ ⟨_, ho2, rfl⟩ noFill_tuple_add seq_tuple_add PySem.F.slot_tuple_add PySem.F.entry_tuple_add (PySem.F.args_tuple_add_2 _ _)
    (tuple_addW1 t b vs.toArray ws.toArray n n2 dd dd2 sl sl2 (by simpa using hv) (by simp [hw])) ⟨ho, ho2, h1 hw⟩
 · refine concat_meets ⟨_, ho, rfl⟩ ⟨_, ho2, rfl⟩ noFill_tuple_add seq_tuple_add PySem.F.slot_tuple_add PySem.F.entry_tuple_add (PySem.F.args_tuple_add_2 _ _)
    (tuple_addW2 t b vs.toArray ws.toArray n n2 dd dd2 sl sl2 (by simpa using hv) (by simpa using hw) (by rw [List.size_toArray, List.size_toArray]; exact hsz)) ⟨ho, ho2, ?_⟩
   rw [e]
   exact h2 hw
def sIx (n d : Nat) : Option Int → Nat
 | none => d
 | some v => if v < 0 then (v + (n : Int)).toNat else min v.toNat n
theorem sIx_le (n d : Nat) (hd : d ≤ n) (o : Option Int) : sIx n d o ≤ n := by
 cases o with
 | none => exact hd
 | some v =>
  show (if v < 0 then (v + (n : Int)).toNat else min v.toNat n) ≤ n
  by_cases hv : v < 0
  · rw [if_pos hv]; omega
  · rw [if_neg hv]; exact Nat.min_le_right _ _
theorem clip_eq (v : Int) (n d : Nat) : (if v < 0 then max (v + (n : Int)) 0 else min v (n : Int)) = ((sIx n d (some v) : Nat) : Int) := by
 show (if v < 0 then max (v + (n : Int)) 0 else min v (n : Int)) = (((if v < 0 then (v + (n : Int)).toNat else min v.toNat n) : Nat) : Int)
 by_cases hv : v < 0
 · simp only [if_pos hv]; omega
 · simp only [if_neg hv]; omega
theorem adjust_gen (lo hi : Option Int) (n : Nat) : Builtin.Slice.sliceAdjust lo hi 1 (n : Int) = (((sIx n 0 lo : Nat) : Int), ((sIx n n hi : Nat) : Int)) := by
 have h1 : ¬ ((1 : Int) < 0) := by omega
 unfold Builtin.Slice.sliceAdjust
 simp only [h1, if_false]
 refine Prod.ext ?_ ?_
 · cases lo with
   | none => rfl
   | some v => exact clip_eq v n 0
 · cases hi with
   | none => rfl
   | some v => exact clip_eq v n n
theorem places_gen (i j : Nat) : Builtin.Slice.slicePlaces (i : Int) (j : Int) 1 = j - i := by
 unfold Builtin.Slice.slicePlaces
 have h1 : (1 : Int) > 0 := by omega
 simp only [h1, if_true, Int.ediv_one]
 split <;> omega
theorem slicePart_ {v : Value} {o : Option Int} {Q : Option Int → Shared → Prop} (p : IsPart v o) (h : Q o s) : wpAny (model prog w) A (Builtin.Slice.slicePartIndex v) Q E s := by
 cases p with
 | none => exact slicePart_none h
 | int i t => exact slicePart_int h
theorem sliceApplied_gen {sl : Addr} {vl vu : Value} {lo hi : Option Int} {n : Nat} {Q : Int × Int × Nat → Shared → Prop} (hs : s.heap.IsSliceOf sl vl vu .none) (pl : IsPart vl lo) (pu : IsPart vu hi)
    (h : Q (((sIx n 0 lo : Nat) : Int), 1, sIx n n hi - sIx n 0 lo) s) : wpAny (model prog w) A (Builtin.Slice.sliceApplied (.ref sl) (pure (n : Int))) Q E s := by
  obtain ⟨os, hos, hcs, hds⟩ := id hs
  unfold Builtin.Slice.sliceApplied Builtin.Slice.sliceFields
  refine wpAny_bind (wpAny_bind (wpAny_field hos hds (x := vl) rfl (wpAny_bind (wpAny_field hos hds (x := vu) rfl (wpAny_bind (wpAny_field hos hds (x := .none) rfl (wpAny_pure ?_)))))))
  refine wpAny_bind (slicePart_none ?_)
  show wpAny _ _ (if ((1 : Int) == 0) = true then _ else _) _ _ s
  rw [if_neg (by decide)]
  refine wpAny_bind (slicePart_ pl (wpAny_bind (slicePart_ pu (wpAny_bind (wpAny_pure ?_)))))
  show wpAny _ _ (match Builtin.Slice.sliceAdjust lo hi 1 (n : Int) with | (lo, hi) => pure (lo, (1 : Int), Builtin.Slice.slicePlaces lo hi 1)) _ _ s
  rw [adjust_gen lo hi n]
  show wpAny _ _ (pure (((sIx n 0 lo : Nat) : Int), (1 : Int), Builtin.Slice.slicePlaces ((sIx n 0 lo : Nat) : Int) ((sIx n n hi : Nat) : Int) 1)) _ _ s
  rw [places_gen]
  exact wpAny_pure h
theorem pick_gen (xs : Array Value) (i k : Nat) : ((List.range k).filterMap fun (m : Nat) => xs[((i : Int) + (m : Int) * 1).toNat]?).toArray = ((xs.toList.drop i).take k).toArray := by
 have e : (fun (m : Nat) => xs[((i : Int) + (m : Int) * 1).toNat]?) = fun m => xs[i + m]? := by
  funext m
  have : ((i : Int) + (m : Int) * 1).toNat = i + m := by omega
  rw [this]
 rw [e]
 have := pick_run xs i k
 rw [List.filterMap_map] at this
 have e2 : ((fun x => xs[x]?) ∘ fun x => i + x) = fun m => xs[i + m]? := rfl
 rw [e2] at this
 rw [this]
theorem getItem_tuple_cut {t sl : Addr} {items : Array Value} {vl vu : Value} {lo hi : Option Int} {Q : Value → Shared → Prop} (ht : IsTup s.heap t items) (hs : s.heap.IsSliceOf sl vl vu .none) (pl : IsPart vl lo) (pu : IsPart vu hi)
 (hw : ¬ (sIx items.size 0 lo = 0 ∧ sIx items.size items.size hi = items.size))
 (h : Q (.ref s.heap.objs.size) { s with heap := s.heap.push { cls := .type "tuple", data := .seq ((items.toList.drop (sIx items.size 0 lo)).take (sIx items.size items.size hi - sIx items.size 0 lo)).toArray } })
 (hsz : items.size ≤ sizeLine) : wpAny (model prog w) A (getItem (.ref t) (.ref sl)) Q E s := by
 have htake : sizeOk (.seq ((items.toList.drop (sIx items.size 0 lo)).take (sIx items.size items.size hi - sIx items.size 0 lo)).toArray) := by
  show ((items.toList.drop (sIx items.size 0 lo)).take (sIx items.size items.size hi - sIx items.size 0 lo)).toArray.size ≤ sizeLine
  rw [List.size_toArray, List.length_take, List.length_drop, Array.length_toList]
  omega
 have hj : sIx items.size items.size hi ≤ items.size := sIx_le _ _ (Nat.le_refl _) hi
 obtain ⟨os, hos, hcs, hds⟩ := id hs
 have hTs : s.TypeIs (.ref sl) "slice" := ⟨os, hos, hcs⟩
 unfold getItem
 try with_reducible refine wpAny_holding ?_
 first | refine wpAny_bind (wpAny_pure ?_) | skip
 refine wpAny_bind (wpAny_sequenceKey ht.typeIs (by decide) ?_)
 refine wpAny_bind (wpAny_callSpecial?_slot (name := Str.ofString "__getitem__") ht.typeIs PyProof.Rows.slot_tuple_getitem
  (wpAny_call_entry PyProof.Rows.slot_tuple_getitem ht.typeIs entry_tuple_getitem ?_ (args_tuple_getitem _ _)))
 show wpAny _ _ (Builtin.Tuple.tupleItemsOf (.ref t) >>= _) _ _ s
 refine wpAny_bind (tupleItemsOf_ ht ?_)
 refine wpAny_bind (wpAny_typeOf hTs ?_)
 rw [if_pos (by decide)]
 refine wpAny_bind (sliceApplied_gen hs pl pu ?_)
 have hno : ¬ ((((sIx items.size 0 lo : Nat) : Int) == 0 && (1 : Int) == 1 && (sIx items.size items.size hi - sIx items.size 0 lo) == items.size) = true) := by
  intro q
  rw [Bool.and_eq_true, Bool.and_eq_true] at q
  have q1 : ((sIx items.size 0 lo : Nat) : Int) = 0 := eq_of_beq q.1.1
  have q2 : sIx items.size items.size hi - sIx items.size 0 lo = items.size := eq_of_beq q.2
  exact hw ⟨by omega, by omega⟩
 show wpAny _ _ (if (((sIx items.size 0 lo : Nat) : Int) == 0 && (1 : Int) == 1 && (sIx items.size items.size hi - sIx items.size 0 lo) == items.size) = true then _ else _) _ _ s
 rw [if_neg hno, pick_gen]
 first
  | exact wpAny_bind (m := Builtin.Tuple.tupleExact _) (wpAny_newObj_type (wpAny_pure ⟨_, rfl, wpAny_pure h⟩) htake)
  | exact wpAny_bind (m := Builtin.Tuple.tupleExact _) (wpAny_newObj_type (wpAny_bind (wpAny_pure (wpAny_pure ⟨_, rfl, wpAny_pure h⟩))) htake)
  | exact wpAny_bind (wpAny_bind (m := Builtin.Tuple.tupleExact _) (wpAny_newObj_type (wpAny_pure (wpAny_pure ⟨_, rfl, wpAny_pure h⟩)) htake))
  | exact wpAny_bind (wpAny_bind (m := Builtin.Tuple.tupleExact _) (wpAny_newObj_type (wpAny_pure ⟨_, rfl, wpAny_pure h⟩) htake))
end
end HT
namespace L2
open PySem PySem.Spec PyProof.Rows
abbrev TO := St → Hp → (Option Int → Hp → Prop) → Prop
def PO (X : Cx) (e : Option Expr) (t : TO) : Prop :=
 ∀ (pins : List (Addr × Obj)) (s : Shared) (σ : St) (H : Hp) (Q : Option Int → Hp → Prop), Inv X pins σ H s → t σ H Q →
  wpAny (model X.prog X.w) X.A (evalPart e X.env) (fun u s' => ∃ o H', Inv X pins σ H' s' ∧ IsPart u o ∧ Q o H') X.xe s
def bq1 : TO := fun _ H Q => Q none H
def cf2 (t : TE) : TO := fun σ H Q => t σ H fun x H1 => ∃ i, x = .int i ∧ Q (some i) H1
theorem al1 {ns : List Int} : ∀ {us : List Value}, Vals (ns.map V.int) us → IntsAre us ns := by
 induction ns with
 | nil => intro us r; rw [List.map_nil] at r; cases r; exact .nil
 | cons n ns ih =>
  intro us r
  rw [List.map_cons] at r
  cases r with
  | cons r1 r2 =>
   obtain ⟨t, e⟩ := r1
   subst e
   exact .cons n t (ih r2)
section
variable {X : Cx} {e : Expr} {te : TE} {lo hi : Option Expr} {tl th : TO} {pos p2 : Pos}
theorem pC : PO X none bq1 := by
 intro pins s σ H Q I h
 rw [evalPart_none]
 exact wpAny_pure ⟨none, H, I, .none, h⟩
theorem jJ (h : PE X e te) : PO X (some e) (cf2 te) := by
 intro pins s σ H Q I hw
 rw [evalPart_some]
 refine cI (h pins s σ H _ I hw) fun u s1 ⟨x, H1, I1, r1, q1⟩ => ?_
 obtain ⟨i, rfl, q⟩ := q1
 obtain ⟨t, rfl⟩ := r1
 exact ⟨some i, H1, I1, .int i t, q⟩
def SlR (X : Cx) (r : V → Option Int → Option Int → Hp → VK → Prop) : Prop :=
 ∀ (pins : List (Addr × Obj)) (s : Shared) (σ : St) (H : Hp) (x : V) (v vl vu : Value) (lo hi : Option Int) (sl : Addr) (Q : VK), Inv X pins σ H s → RelV x v → s.heap.IsSliceOf sl vl vu .none → IsPart vl lo → IsPart vu hi → r x lo hi H Q →
  ∃ T id, typeLookup (.type T) "__getitem__" = pure (some (.builtin id)) ∧ s.TypeIs v T ∧ wpAny (model X.prog X.w) X.A (getItem v (.ref sl)) (EP X pins σ Q) X.xe s
theorem SlR.or {r r' : V → Option Int → Option Int → Hp → VK → Prop} (h : SlR X r) (h' : SlR X r') : SlR X (fun x lo hi H Q => r x lo hi H Q ∨ r' x lo hi H Q) := by
 intro pins s σ H x v vl vu lo hi sl Q I rx hs pl pu q
 rcases q with q | q
 · exact h pins s σ H x v vl vu lo hi sl Q I rx hs pl pu q
 · exact h' pins s σ H x v vl vu lo hi sl Q I rx hs pl pu q
def tSl (r : V → Option Int → Option Int → Hp → VK → Prop) (te : TE) (tl th : TO) : TE := fun σ H Q => te σ H fun x H1 => tl σ H1 fun l H2 => th σ H2 fun u H3 => r x l u H3 Q
theorem lO {r : V → Option Int → Option Int → Hp → VK → Prop} (hr : SlR X r) (he : PE X e te) (hl : PO X lo tl) (hu : PO X hi th) : PE X (.Subscript e (.Slice lo hi none p2) pos) (tSl r te tl th) := by
 intro pins s σ H Q I h
 refine Subscript_ (cI (he pins s σ H _ I h) fun v s1 ⟨x, H1, I1, r1, q1⟩ => ?_)
 refine wpAny_Slice (cI (hl pins s1 σ H1 _ I1 q1) fun vl s2 ⟨l, H2, I2, pl, q2⟩ => cI (hu pins s2 σ H2 _ I2 q2) fun vu s3 ⟨u, H3, I3, pu, q3⟩ => ?_)
 rw [evalPart_none]
 refine wpAny_pure ?_
 have I4 : Inv X pins σ H3 { s3 with heap := s3.heap.push { cls := .type "slice", data := .fields #[vl, vu, .none] } } := I3.kept (t' := s3.toks) fun b ob q => Heap.get?_push_of_some _ q
 obtain ⟨T, id, hT, ht, hg⟩ := hr pins { s3 with heap := s3.heap.push { cls := .type "slice", data := .fields #[vl, vu, .none] } } σ H3 x v vl vu l u s3.heap.objs.size Q I4 r1 (Heap.IsSliceOf.new ..) pl pu q3
 show wpAny (model X.prog X.w) X.A (subscriptTail e (.Slice lo hi none p2) v (.ref s3.heap.objs.size)) (EP X pins σ Q) X.xe { s3 with heap := s3.heap.push { cls := .type "slice", data := .fields #[vl, vu, .none] } }
 exact tail_any (ops := [.ref s3.heap.objs.size, v]) ht hT hg (by with_unfolding_all rfl)
def yO (xs : List V) (lo hi : Option Int) : List V := (xs.drop (HT.sIx xs.length 0 lo)).take (HT.sIx xs.length xs.length hi - HT.sIx xs.length 0 lo)
theorem zV (xs : List V) (lo hi : Option Int) : (yO xs lo hi).length ≤ xs.length := by
 unfold yO
 rw [List.length_take, List.length_drop]
 omega
def cl9 (K : PySem.W.Frag) : V → Option Int → Option Int → Hp → VK → Prop := fun x lo hi H Q => ∃ a xs, x = .ref a ∧ SqT K H a xs ∧
 ¬ (HT.sIx xs.length 0 lo = 0 ∧ HT.sIx xs.length xs.length hi = xs.length) ∧ ∀ p, H p = none → Q (.ref p) (upd H p (.tup (yO xs lo hi)))
theorem cv9 : SlR X (cl9 X.K) := by
 intro pins s σ H x v vl vu lo hi sl Q I rx hs pl pu h
 obtain ⟨a, xs, rfl, hx, hw, q⟩ := h
 cases rx
 obtain ⟨its, r, ht, hz⟩ := I.tuple hx
 have hlen : its.toArray.size = xs.length := by rw [List.size_toArray]; exact r.length.symm
 refine ⟨"tuple", _, PyProof.Rows.slot_tuple_getitem.lookup, ht.typeIs, ?_⟩
 refine HT.getItem_tuple_cut ht hs pl pu (by rw [hlen]; exact hw) ?_ (by rw [hlen]; exact hz)
 rw [hlen]
 refine ⟨.ref s.heap.objs.size, _, I.laid (t' := s.toks) (o := .tup (yO xs lo hi)) (fun b ob q => Heap.get?_push_of_some _ q) (Nat.le_refl _) ?_, rfl, q _ (I.hok.fresh (Nat.le_refl _))⟩
 exact ⟨Nat.le_trans (zV xs lo hi) hz, _, (r.drop (HT.sIx xs.length 0 lo)).take (HT.sIx xs.length xs.length hi - HT.sIx xs.length 0 lo), IsTup.new _ _⟩
def cz1 (K : PySem.W.Frag) : R2 := fun x y H Q => ∃ a b xs ys, x = .ref a ∧ y = .ref b ∧ SqT K H a xs ∧ SqT K H b ys ∧ xs ≠ [] ∧ xs.length + ys.length ≤ sizeLine ∧
 (ys = [] → Q (.ref a) H) ∧ (ys ≠ [] → ∀ p, H p = none → Q (.ref p) (upd H p (.tup (xs ++ ys))))
theorem Vals.nil_iff {xs : List V} {us : List Value} (r : Vals xs us) : us = [] ↔ xs = [] := by
 cases r with
 | nil => simp
 | cons _ _ => simp
theorem cx4 : OpR X (binaryOp .Add) (cz1 X.K) := by
 intro pins s σ H x y v u Q I rx ry h
 obtain ⟨a, b, xs, ys, rfl, rfl, ha, hb, hx, hz, q1, q2⟩ := h
 cases rx
 cases ry
 obtain ⟨its, r1, p1, _⟩ := I.tuple ha
 obtain ⟨its2, r2, p2, _⟩ := I.tuple hb
 refine HT.cat_tup p1 p2 (fun z => hx (r1.nil_iff.mp z)) (fun z => ⟨.ref a, H, I, rfl, q1 (r2.nil_iff.mp z)⟩) (fun z => ?_) (by rw [← r1.length, ← r2.length]; exact hz)
 refine ⟨.ref s.heap.objs.size, _, I.laid (t' := s.toks) (o := .tup (xs ++ ys)) (fun b ob q => Heap.get?_push_of_some _ q) (Nat.le_refl _) ?_, rfl, q2 (fun w => z (r2.nil_iff.mpr w)) _ (I.hok.fresh (Nat.le_refl _))⟩
 exact ⟨by rw [List.length_append]; exact hz, _, r1.append r2, IsTup.new _ _⟩
end
end L2
namespace L2
open PySem PySem.Spec PyProof.Rows
def zZ (n : Nat) (i : Int) : Option Nat := if 0 ≤ i then (if i < n then some i.toNat else none) else if -(n : Int) ≤ i then some (i + n).toNat else none
def atI {α : Type} (xs : List α) (i : Int) : Option α := (zZ xs.length i).bind fun j => xs[j]?
theorem cu3 {n : Nat} {i : Int} {j : Nat} (h : zZ n i = some j) : seqIndex? i n = some j ∧ j < n ∧ -(n : Int) ≤ i ∧ i < n := by
 unfold zZ at h
 by_cases h0 : 0 ≤ i
 · rw [if_pos h0] at h
   by_cases h1 : i < n
   · rw [if_pos h1] at h
     have e : i.toNat = j := Option.some.inj h
     exact ⟨by rw [seqIndex_of h0 h1, e], by omega, by omega, h1⟩
   · rw [if_neg h1] at h; cases h
 · rw [if_neg h0] at h
   by_cases h1 : -(n : Int) ≤ i
   · rw [if_pos h1] at h
     have e : (i + n).toNat = j := Option.some.inj h
     exact ⟨by rw [seqIndex_neg (by omega) h1, e], by omega, h1, by omega⟩
   · rw [if_neg h1] at h; cases h
theorem as4 {α : Type} {xs : List α} {i : Int} {v : α} (h : atI xs i = some v) : ∃ j, seqIndex? i xs.length = some j ∧ xs[j]? = some v ∧ j < xs.length ∧ -(xs.length : Int) ≤ i ∧ i < xs.length := by
 unfold atI at h
 cases e : zZ xs.length i with
 | none => rw [e] at h; cases h
 | some j =>
  rw [e] at h
  obtain ⟨h1, h2, h3, h4⟩ := cu3 e
  exact ⟨j, h1, h, h2, h3, h4⟩
theorem gC {α : Type} {xs : List α} {j : Nat} {v : α} (h : xs[j]? = some v) : atI xs (j : Int) = some v := by
 have hj : j < xs.length := (List.getElem?_eq_some_iff.mp h).1
 have e : zZ xs.length (j : Int) = some j := by
  unfold zZ
  rw [if_pos (by omega), if_pos (by omega)]; simp
 unfold atI; rw [e]; exact h
def cq4 (b : Expr) : Prop := ∀ o i, subscripted b false o i = operate [o, i] (getItem o i)
def IxR (X : Cx) (r : R2) : Prop :=
 ∀ (value slice : Expr) (pins : List (Addr × Obj)) (s : Shared) (σ : St) (H : Hp) (x y : V) (v u : Value) (Q : VK), Inv X pins σ H s → RelV x v → RelV y u → r x y H Q →
  subscripted slice false v u = operate [v, u] (getItem v u) → wpAny (model X.prog X.w) X.A (subscriptTail value slice v u) (EP X pins σ Q) X.xe s
def MtR (X : Cx) (id : String) (r : V → List V → Hp → VK → Prop) : Prop :=
 ∀ (pins : List (Addr × Obj)) (s : Shared) (σ : St) (H : Hp) (x : V) (xs : List V) (v : Value) (us : List Value) (Q : VK), Inv X pins σ H s → RelV x v → Vals xs us → r x xs H Q →
  wpAny (model X.prog X.w) X.A (call (.builtin id) (v :: us)) (EP X pins σ Q) X.xe s
section
variable {X : Cx} {a b : Expr} {ta tb : TE} {pos : Pos}
theorem IxR.or {r r' : R2} (h : IxR X r) (h' : IxR X r') : IxR X (fun x y H Q => r x y H Q ∨ r' x y H Q) := by
 intro value slice pins s σ H x y v u Q I rx ry q hs
 rcases q with q | q
 · exact h value slice pins s σ H x y v u Q I rx ry q hs
 · exact h' value slice pins s σ H x y v u Q I rx ry q hs
theorem aP {r : R2} (hr : IxR X r) (ha : PE X a ta) (hb : PE X b tb) (hs : cq4 b) : PE X (.Subscript a b pos) (tOp r ta tb) := by
 intro pins s σ H Q I h
 exact Subscript_ (bf9 ha hb I h fun v u s2 x y H2 I2 rx ry q => hr a b pins s2 σ H2 x y v u Q I2 rx ry q (hs _ _))
def cl8 (K : PySem.W.Frag) : R2 := fun x y H Q => ∃ p xs i v, x = .ref p ∧ y = .int i ∧ SqL K H p xs ∧ atI xs i = some v ∧ Q v H
def cq7 (K : PySem.W.Frag) : R2 := fun x y H Q => ∃ p xs i v, x = .ref p ∧ y = .int i ∧ SqT K H p xs ∧ atI xs i = some v ∧ Q v H
def cy6 : R2 := fun x y H Q => ∃ z i c, x = .str z ∧ y = .int i ∧ z.length ≤ sizeLine ∧ atI z.cps.toList i = some c ∧ Q (.str ⟨#[c]⟩) H
theorem ix_list : IxR X (cl8 X.K) := by
 intro value slice pins s σ H x y v u Q I rx ry h hs
 obtain ⟨p, xs, i, z, rfl, rfl, hq, he, q⟩ := h
 cases rx
 obtain ⟨t, rfl⟩ := ry
 obtain ⟨its, r, pl, hz⟩ := I.list hq
 obtain ⟨j, h1, h2, h3, h4, h5⟩ := as4 he
 obtain ⟨w, ew, rw'⟩ := r.get h2
 have hl := r.length
 have hn := xS
 have bY : EP X pins σ Q w s := ⟨z, H, I, rw', q⟩
 by_cases h0 : 0 ≤ i
 · have hj : i.toNat = j := by
    rw [seqIndex_of h0 h5] at h1
    exact Option.some.inj h1
   exact item_listR pl.isList h0 (by omega) (by rw [hj]; simpa using ew) bY hs
 · have hj : (i + (its.toArray.size : Int)).toNat = j := by
    rw [seqIndex_neg (by omega) h4] at h1
    rw [List.size_toArray, ← hl]
    exact Option.some.inj h1
   exact subscriptTail_builtinR (x := w) pl.isList.typeIs slot_list_getitem.lookup
    (wpAny_getItem_list_neg (Q := fun r s' => r = w ∧ EP X pins σ Q r s') pl.isList (by omega) (by rw [List.size_toArray] <;> omega) (by omega) (by rw [hj]; simpa using ew) ⟨rfl, bY⟩) hs
theorem ix_tup : IxR X (cq7 X.K) := by
 intro value slice pins s σ H x y v u Q I rx ry h hs
 obtain ⟨p, xs, i, z, rfl, rfl, hq, he, q⟩ := h
 cases rx
 obtain ⟨t, rfl⟩ := ry
 obtain ⟨its, r, pl, hz⟩ := I.tuple hq
 obtain ⟨j, h1, h2, h3, h4, h5⟩ := as4 he
 obtain ⟨w, ew, rw'⟩ := r.get h2
 have hl := r.length
 have hn := xS
 have bY : EP X pins σ Q w s := ⟨z, H, I, rw', q⟩
 exact subscriptTail_builtinR (x := w) pl.typeIs slot_tuple_getitem.lookup
  (getItem_tuple (j := j) (Q := fun r s' => r = w ∧ EP X pins σ Q r s') pl (by omega) (by omega) (by rw [List.size_toArray, ← hl]; exact h1) (by simpa using ew) ⟨rfl, bY⟩) hs
theorem cz6 : IxR X cy6 := by
 intro value slice pins s σ H x y v u Q I rx ry h hs
 obtain ⟨z, i, c, rfl, rfl, hz, he, q⟩ := h
 obtain ⟨t, rfl⟩ := rx
 obtain ⟨t', rfl⟩ := ry
 obtain ⟨j, h1, h2, h3, h4, h5⟩ := as4 he
 have hl : z.cps.toList.length = z.length := by simp [Str.length]
 rw [hl] at h1 h4 h5
 have hn := xS
 exact tail_any (typeIs_str s z t) slot_str_getitem.lookup (getItem_str (c := c) (by
  have e1 : decide (i < -(2 ^ 63 : Int)) = false := decide_eq_false (by omega)
  have e2 : decide (i ≥ 2 ^ 63) = false := decide_eq_false (by omega)
  rw [e1, e2, Bool.or_false]) (by rw [h1]; simpa using h2) ⟨.str ⟨#[c]⟩, H, I.tok _, ⟨_, rfl⟩, q⟩) hs
def rIx (K : PySem.W.Frag) : R2 := fun x y H Q => cl8 K x y H Q ∨ cq7 K x y H Q ∨ cy6 x y H Q
theorem cz8 : IxR X (rIx X.K) := ix_list.or (ix_tup.or cz6)
theorem ad9 (lo hi : Option Int) (n : Nat) : (sliceBounds lo hi none n).1 = ((HT.sIx n 0 lo : Nat) : Int) ∧ (sliceBounds lo hi none n).2.1 = ((HT.sIx n n hi : Nat) : Int) ∧ (sliceBounds lo hi none n).2.2 = 1 := by
 refine ⟨?_, ?_, rfl⟩
 · cases lo with
   | none => simp [sliceBounds, HT.sIx]
   | some i =>
    simp only [sliceBounds, HT.sIx, Option.getD_none, show (1 : Int) > 0 by decide, if_true]
    by_cases h : i < 0
    · simp only [h, if_true] <;> omega
    · simp only [h, if_false] <;> omega
 · cases hi with
   | none => simp [sliceBounds, HT.sIx]
   | some i =>
    simp only [sliceBounds, HT.sIx, Option.getD_none, show (1 : Int) > 0 by decide, if_true]
    by_cases h : i < 0
    · simp only [h, if_true] <;> omega
    · simp only [h, if_false] <;> omega
theorem as6 (its : List Value) (lo hi : Option Int) : slicePick its.toArray lo hi none = ((its.drop (HT.sIx its.length 0 lo)).take (HT.sIx its.length its.length hi - HT.sIx its.length 0 lo)).toArray := by
 obtain ⟨h1, h2, h3⟩ := ad9 lo hi its.toArray.size
 unfold slicePick
 rw [h1, h2, h3]
 simp only [sliceRange_one, pick_run, List.size_toArray] <;> rfl
def ci7 (K : PySem.W.Frag) : V → Option Int → Option Int → Hp → VK → Prop := fun x lo hi H Q => ∃ a xs, x = .ref a ∧ SqL K H a xs ∧ ∀ p, H p = none → Q (.ref p) (upd H p (.lst (yO xs lo hi)))
theorem cn5 : SlR X (ci7 X.K) := by
 intro pins s σ H x v vl vu lo hi sl Q I rx hs pl pu h
 obtain ⟨a, xs, rfl, hx, q⟩ := h
 cases rx
 obtain ⟨its, r, ht, hz⟩ := I.list hx
 have hlen := r.length
 refine ⟨"list", _, slot_list_getitem.lookup, ht.isList.typeIs, ?_⟩
 refine wpAny_getItem_list_slice ht.isList hs pl pu .none (by simp) ?_ (by rw [List.size_toArray] <;> omega)
 rw [as6, ← hlen]
 refine ⟨.ref s.heap.objs.size, _, I.laid (t' := s.toks) (o := .lst (yO xs lo hi)) (fun b ob q => Heap.get?_push_of_some _ q) (Nat.le_refl _) ?_, rfl, q _ (I.hok.fresh (Nat.le_refl _))⟩
 exact ⟨Nat.le_trans (zV xs lo hi) hz, _, 0, (r.drop (HT.sIx xs.length 0 lo)).take (HT.sIx xs.length xs.length hi - HT.sIx xs.length 0 lo), Heap.get?_push_size _ rfl⟩
def qF : V → Bool
 | .non => true
 | .bl _ => true
 | .int _ => true
 | .str _ => true
 | _ => false
def eqV : V → V → Bool
 | .non, .non => true
 | .bl a, .bl b => a == b
 | .bl a, .int b => (if a then 1 else 0) == b
 | .int a, .bl b => a == (if b then 1 else 0)
 | .int a, .int b => a == b
 | .str a, .str b => a == b
 | _, _ => false
theorem bd6 {A : Around} {s : Shared} {y x : V} {u v : Value} (ry : RelV y u) (rx : RelV x v) (fy : qF y = true) (fx : qF x = true) : SeqAt.EqAt A s u v (eqV y x) := by
 cases y with
 | non =>
  cases ry
  cases x with
  | non => cases rx; exact SeqAt.EqAt.same _
  | bl b => cases rx; exact SeqAt.EqAt.none_bool b
  | int b => obtain ⟨t, rfl⟩ := rx; exact SeqAt.EqAt.none_int b t
  | str b => obtain ⟨t, rfl⟩ := rx; exact SeqAt.EqAt.none_str b t
  | _ => exact absurd (show false = true from fx) Bool.false_ne_true
 | bl a =>
  cases ry
  cases x with
  | non => cases rx; exact SeqAt.EqAt.bool_none a
  | bl b => cases rx; exact SeqAt.EqAt.bool_bool a b
  | int b => obtain ⟨t, rfl⟩ := rx; exact SeqAt.EqAt.bool_int a b t
  | str b => obtain ⟨t, rfl⟩ := rx; exact SeqAt.EqAt.bool_str a b t
  | _ => exact absurd (show false = true from fx) Bool.false_ne_true
 | int a =>
  obtain ⟨t', rfl⟩ := ry
  cases x with
  | non => cases rx; exact SeqAt.EqAt.int_none a t'
  | bl b => cases rx; exact SeqAt.EqAt.int_bool a t' b
  | int b => obtain ⟨t, rfl⟩ := rx; exact SeqAt.EqAt.int_int a t' b t
  | str b => obtain ⟨t, rfl⟩ := rx; exact SeqAt.EqAt.int_str a t' b t
  | _ => exact absurd (show false = true from fx) Bool.false_ne_true
 | str a =>
  obtain ⟨t', rfl⟩ := ry
  cases x with
  | non => cases rx; exact SeqAt.EqAt.str_none a t'
  | bl b => cases rx; exact SeqAt.EqAt.str_bool a t' b
  | int b => obtain ⟨t, rfl⟩ := rx; exact SeqAt.EqAt.str_int a t' b t
  | str b => obtain ⟨t, rfl⟩ := rx; exact SeqAt.EqAt.str_str a t' b t
  | _ => exact absurd (show false = true from fx) Bool.false_ne_true
 | _ => exact absurd (show false = true from fy) Bool.false_ne_true
theorem CallR.or {f : Value} {r r' : List V → Hp → VK → Prop} (h : CallR X f r) (h' : CallR X f r') : CallR X f (fun xs H Q => r xs H Q ∨ r' xs H Q) := by
 intro pins s σ H xs us Q I rs q
 rcases q with q | q
 · exact h pins s σ H xs us Q I rs q
 · exact h' pins s σ H xs us Q I rs q
theorem ax9 : CallR X (.type "list") (fun xs H Q => ∃ p ys, xs = [.ref p] ∧ (SqL X.K H p ys ∨ SqT X.K H p ys) ∧ ∀ l, H l = none → Q (.ref l) (upd H l (.lst ys))) := by
 intro pins s σ H xs us Q I r h
 obtain ⟨p, ys, rfl, hq, q⟩ := h
 obtain ⟨u, rfl, rx⟩ := ag2 r
 cases rx
 have bY : ∀ (its : List Value), Vals ys its → ys.length ≤ sizeLine → ∀ (h' : Heap) (c' : Nat), (∀ b o', s.heap.get? b = some o' → h'.get? b = some o') →
  h'.get? s.heap.objs.size = some { cls := .type "list", dict := none, data := .seq its.toArray c', slots := #[] } → EP X pins σ Q (.ref s.heap.objs.size) { s with heap := h' } := fun its r' hz h' c' kp e =>
  ⟨.ref s.heap.objs.size, _, I.laid (t' := s.toks) kp (Nat.le_refl _) (show ObjOk X.prog X.w _ h' _ (.lst ys) from ⟨hz, its, c', r', e⟩), rfl, q _ (I.hok.fresh (Nat.le_refl _))⟩
 rcases hq with hq | hq
 · obtain ⟨its, r', pl, hz⟩ := I.list hq
   have hlen := r'.length
   obtain ⟨o, ho, hc, n, hd⟩ := pl.isList
   exact call_list_seq p (.inl rfl) ho hc hd (fun h' c' kp e => bY its r' hz h' c' kp e) (by simp only [List.size_toArray] <;> omega)
 · obtain ⟨its, r', pl, hz⟩ := I.tuple hq
   have hlen := r'.length
   obtain ⟨o, ho, hc, n, hd⟩ := pl
   exact call_list_seq p (.inr rfl) ho hc hd (fun h' c' kp e => bY its r' hz h' c' kp e) (by simp only [List.size_toArray] <;> omega)
def tyV (K : PySem.W.Frag) (T : String) (x : V) (H : Hp) : Prop := match x with
 | .str _ => T = "str"
 | .int _ => T = "int"
 | .ref p => (T = "list" ∧ ∃ xs, SqL K H p xs) ∨ (T = "tuple" ∧ ∃ o, K.lookup p = some o ∧ o.cls = .type "tuple" ∧ o.dict = none) ∨
  (T = "dict" ∧ ((∃ kvs, H p = some (.dK kvs)) ∨ ∃ kvs, H p = some (.dT kvs))) ∨ (T = "set" ∧ ∃ S n, H p = some (.set S n))
 | _ => False
theorem bm7 {pins : List (Addr × Obj)} {σ : St} {H : Hp} {s : Shared} {T : String} {x : V} {v : Value} (I : Inv X pins σ H s) (r : RelV x v) (ty : tyV X.K T x H) :
 s.TypeIs v T ∧ ∀ a, v = .ref a → ∃ ob, s.heap.get? a = some ob ∧ ob.dict = none := by
 cases x with
 | str z =>
  obtain ⟨t, rfl⟩ := r
  cases (show T = "str" from ty)
  exact ⟨typeIs_str s z t, fun _ e => nomatch e⟩
 | int i =>
  obtain ⟨t, rfl⟩ := r
  cases (show T = "int" from ty)
  exact ⟨typeIs_int s i t, fun _ e => nomatch e⟩
 | ref p =>
  cases r
  rcases ty with ⟨rfl, xs, hq⟩ | ⟨rfl, o, hk, hc, hd⟩ | ⟨rfl, hk⟩ | ⟨rfl, S, n, hk⟩
  · obtain ⟨its, _, pl, _⟩ := I.list hq
    refine ⟨pl.isList.typeIs, fun a e => ?_⟩
    cases e
    obtain ⟨o, n, e, c, hd, _⟩ := pl
    exact ⟨o, e, hd⟩
  · refine ⟨⟨o, I.kIn p o hk, hc⟩, fun a e => ?_⟩
    cases e
    exact ⟨o, I.kIn _ o hk, hd⟩
  · have z : ∃ o, s.heap.get? p = some o ∧ o.ExactDict := by
     rcases hk with ⟨kvs, hk⟩ | ⟨kvs, hk⟩
     · obtain ⟨_, _, _, _, o, _, _, e, ex, _⟩ := I.hok p _ hk
       exact ⟨o, e, ex⟩
     · obtain ⟨_, _, _, _, o, _, _, e, ex, _⟩ := I.hok p _ hk
       exact ⟨o, e, ex⟩
    obtain ⟨o, e, ex⟩ := z
    refine ⟨⟨o, e, ex.1⟩, fun a e2 => ?_⟩
    cases e2
    exact ⟨o, e, ex.2.1⟩
  · obtain ⟨o, _, _, _, e, ex, _⟩ := I.hok p _ hk
    refine ⟨⟨o, e, ex.1⟩, fun a e2 => ?_⟩
    cases e2
    exact ⟨o, e, ex.2.1⟩
 | _ => exact False.elim ty
def dv4 (K : PySem.W.Frag) (T : String) (r : V → List V → Hp → VK → Prop) (to : TE) : TE := fun σ H Q => to σ H fun x H1 => tyV K T x H1 ∧ r x [] H1 Q
def tBM (K : PySem.W.Frag) (T : String) (r : V → List V → Hp → VK → Prop) (to : TE) (t : TA) : TE := fun σ H Q => to σ H fun x H1 => tyV K T x H1 ∧ t σ H1 fun xs H2 => r x xs H2 Q
variable {o e : Expr} {es : List Expr} {to : TE} {t : TA} {name : Str} {apos cpos : Pos} {T id : String} {r : V → List V → Hp → VK → Prop}
theorem cj8 (pa : PlainAttrs T) (slot : Slot T name id) (hty : typeOf (.builtin id) = pure (.type "method_descriptor")) (hm : MtR X id r) (ho : PE X o to)
 (hbase : attributeBase o name X.env (eval o X.env) = eval o X.env := by rfl) (hline : (apos.endLine == cpos.line) = true := by rfl) : PE X (.Call (.Attribute o name apos) [] [] cpos) (dv4 X.K T r to) := by
 intro pins s σ H Q I h
 refine wpAny_Call_method0_late hbase hline (cI (ho pins s σ H _ I h) fun v s1 ⟨x, H1, I1, r1, ty, q1⟩ => ?_)
 obtain ⟨h1, h2⟩ := bm7 I1 r1 ty
 exact ⟨T, id, pa, slot, hty, h1, h2, Calls.callWith_builtin rfl (PySem.evalArgs_none (hm pins s1 σ H1 x [] v [] Q I1 r1 .nil q1))⟩
theorem dp1 (pa : PlainAttrs T) (slot : Slot T name id) (hty : typeOf (.builtin id) = pure (.type "method_descriptor")) (hm : MtR X id r) (ho : PE X o to) (ha : PA X (e :: es) t)
 (hbase : attributeBase o name X.env (eval o X.env) = eval o X.env := by rfl)
 (hfew : ((backTo cpos (starEach (e :: es) X.env)).all (fun x => !x.1) && (backToKw cpos (keywordEach [] X.env)).all (fun x => x.1.isSome)
  && decide ((e :: es).length + ([] : List Keyword).length + (if ([] : List Keyword).isEmpty then 0 else 1) < 30)) = true := by rfl)
 (hline : (apos.endLine == cpos.line) = true := by rfl) (hs : starEach (e :: es) X.env = (false, eval e X.env) :: starEach es X.env := by rfl) (hplain : (backTo cpos (starEach es X.env)).any (·.1) = false := by rfl) :
 PE X (.Call (.Attribute o name apos) (e :: es) [] cpos) (tBM X.K T r to t) := by
 intro pins s σ H Q I h
 refine wpAny_Call_method_late hbase hfew hline rfl (cI (ho pins s σ H _ I h) fun v s1 ⟨x, H1, I1, r1, ty, q1⟩ => ?_)
 obtain ⟨h1, h2⟩ := bm7 I1 r1 ty
 refine ⟨T, id, pa, slot, hty, h1, h2, ?_⟩
 have hA := ha cpos pins s1 σ H1 _ I1 q1
 rw [hs] at hA ⊢
 refine Calls.callWith_builtin (by show (false || (backTo cpos (starEach es X.env)).any (·.1)) = false; rw [hplain] <;> rfl) (Calls.evalArgs_plain ?_)
 exact cI hA fun us s2 ⟨vs, H2, I2, r2, q2⟩ => hm pins s2 σ H2 x vs v us Q I2 r1 r2 q2
/- xs.append(e), list.index on a module's tuple .. are MtR facts of 06m -/
end
end L2
namespace L2
open PySem PySem.Spec PyProof.Rows
def MtM (X : Cx) (id : String) (r : V → List V → Hp → VK → Prop) : Prop :=
 ∀ (pins : List (Addr × Obj)) (s : Shared) (σ : St) (H : Hp) (x : V) (xs : List V) (v : Value) (us : List Value) (Q : VK), Inv X pins σ H s → RelV x v → Vals xs us → r x xs H Q →
  wpAny (model X.prog X.w) X.A (call (.builtin id) (v :: us)) (EP X pins σ Q) X.xe s
theorem Vals.one : ∀ {x : V} {us : List Value}, Vals [x] us → ∃ u, us = [u] ∧ RelV x u
 | _, _, .cons r .nil => ⟨_, rfl, r⟩
theorem Vals.two : ∀ {x y : V} {us : List Value}, Vals [x, y] us → ∃ u v, us = [u, v] ∧ RelV x u ∧ RelV y v
 | _, _, _, .cons r (.cons q .nil) => ⟨_, _, rfl, r, q⟩
theorem Vals.zero : ∀ {us : List Value}, Vals [] us → us = []
 | _, .nil => rfl
theorem Vals.reverse {xs : List V} {us : List Value} (h : Vals xs us) : Vals xs.reverse us.reverse := by
 induction h with
 | nil => exact .nil
 | cons r t ih => rw [List.reverse_cons, List.reverse_cons]; exact Vals.append ih (.cons r .nil)
section
variable {X : Cx} {pins : List (Addr × Obj)} {σ : St} {H : Hp} {s : Shared} {l b : Addr} {xs ys zs : List V}
theorem Inv.lset {its its' : List Value} {n : Nat} {f : Array Value → Array Value} {t' : Nat} (I : Inv X pins σ H s) (hH : H l = some (.lst xs))
 (e : s.heap.get? l = some { cls := .type "list", data := .seq its.toArray n }) (hf : f its.toArray = its'.toArray) (hv : Vals ys its') (hz : ys.length ≤ sizeLine) :
 Inv X pins σ (upd H l (.lst ys)) { s with heap := s.heap.update l (Obj.mapSeq f), toks := t' } := by
 have q := PySem.IsL.update e f
 rw [hf] at q
 refine I.write (x := l) (e := l) (by rw [hH]; exact trivial) (.inl rfl) (fun b' u hb hu => (Heap.get?_update_other s.heap (Obj.mapSeq f) (Ne.symm hb)).trans hu) ⟨_, q⟩ ?_
 exact ⟨hz, its', _, hv, q⟩
theorem Inv.lnew {its : List Value} {t' : Nat} (I : Inv X pins σ H s) (hv : Vals ys its) (hz : ys.length ≤ sizeLine) :
 Inv X pins σ (upd H s.heap.objs.size (.lst ys)) { s with heap := s.heap.push { cls := .type "list", data := .seq its.toArray }, toks := t' } :=
 I.laid (fun _ _ q => Heap.get?_push_of_some _ q) (Nat.le_refl _) ⟨hz, its, 0, hv, Heap.get?_push_size _ rfl⟩
theorem Inv.fresh (I : Inv X pins σ H s) : H s.heap.objs.size = none := I.hok.fresh (Nat.le_refl _)
theorem Inv.lstM (I : Inv X pins σ H s) (hH : H l = some (.lst xs)) : xs.length ≤ sizeLine ∧ ∃ (its : List Value) (n : Nat), Vals xs its ∧ xs.length = its.length ∧ s.heap.get? l = some { cls := .type "list", data := .seq its.toArray n } := by
 obtain ⟨z, its, n, r, e⟩ := I.hok l _ hH
 exact ⟨z, its, n, r, r.length, e⟩
theorem ca1 {n : Nat} (h : n ≤ sizeLine) : Builtin.List.listTooLong n = false := by
 unfold Builtin.List.listTooLong
 exact decide_eq_false (by omega)
end
section
variable {X : Cx}
def bh2 : V → List V → Hp → VK → Prop := fun x vs H Q => ∃ l xs y, x = .ref l ∧ vs = [y] ∧ H l = some (.lst xs) ∧ xs.length < sizeLine ∧ Q .non (upd H l (.lst (xs ++ [y])))
theorem dR : MtM X "list.append" bh2 := by
 intro pins s σ H x vs v us Q I rx rv h
 obtain ⟨l, xs, y, rfl, rfl, hH, hz, q⟩ := h
 cases rx
 obtain ⟨u, rfl, ru⟩ := rv.one
 obtain ⟨z, its, n, r, hl, e⟩ := I.lstM hH
 refine call_meets F.slot_list_append ⟨_, e, rfl⟩ F.entry_list_append (F.args_list_append_2 _ _) (PySem.list_append l its.toArray n u (by rw [List.size_toArray]; omega)) ⟨e, ?_⟩
 refine ⟨.non, _, I.lset (its' := its ++ [u]) hH e (by simp) (r.append (.cons ru .nil)) ?_, rfl, q⟩
 rw [List.length_append, List.length_singleton]
 omega
def bf2 : V → List V → Hp → VK → Prop := fun x vs H Q => ∃ l b xs zs, x = .ref l ∧ vs = [.ref b] ∧ H l = some (.lst xs) ∧ H b = some (.lst zs) ∧ xs.length + zs.length ≤ sizeLine ∧ Q .non (upd H l (.lst (xs ++ zs)))
theorem ay5 : MtM X "list.extend" bf2 := by
 intro pins s σ H x vs v us Q I rx rv h
 obtain ⟨l, b, xs, zs, rfl, rfl, hH, hB, hz, q⟩ := h
 cases rx
 obtain ⟨u, rfl, ru⟩ := rv.one
 cases ru
 obtain ⟨z, its, n, r, hl, e⟩ := I.lstM hH
 obtain ⟨z2, its2, n2, r2, hl2, e2⟩ := I.lstM hB
 have hsz : its.toArray.size + its2.toArray.size ≤ sizeLine := by rw [List.size_toArray, List.size_toArray]; omega
 have hlong : ¬ (!its.toArray.isEmpty && Builtin.List.listTooLong (its.toArray.size + its2.toArray.size)) = true := by
  rw [ca1 hsz, Bool.and_false]
  exact Bool.false_ne_true
 refine call_meets F.slot_list_extend ⟨_, e, rfl⟩ F.entry_list_extend (F.args_list_extend_2 _ _)
  (AutoSeq1.list_extend_list_list_0 l its.toArray n b its2.toArray n2 hlong (by rw [List.size_toArray]; omega) (by omega)) ⟨e, e2, ?_⟩
 refine ⟨.non, _, I.lset (its' := its ++ its2) hH e (by simp) (r.append r2) ?_, rfl, q⟩
 rw [List.length_append]
 omega
def bo5 : V → List V → Hp → VK → Prop := fun x vs H Q => ∃ l xs, x = .ref l ∧ vs = [] ∧ H l = some (.lst xs) ∧ Q .non (upd H l (.lst []))
theorem cq0 : MtM X "list.clear" bo5 := by
 intro pins s σ H x vs v us Q I rx rv h
 obtain ⟨l, xs, rfl, rfl, hH, q⟩ := h
 cases rx
 have hus := rv.zero
 subst hus
 obtain ⟨z, its, n, r, hl, e⟩ := I.lstM hH
 refine call_meets F.slot_list_clear ⟨_, e, rfl⟩ F.entry_list_clear (F.args_list_clear_1 _) (AutoSeq1.list_clear_list_0 l its.toArray n (by rw [List.size_toArray]; omega)) ⟨e, ?_⟩
 exact ⟨.non, _, I.lset (its' := []) (ys := []) hH e rfl .nil (Nat.zero_le _), rfl, q⟩
theorem cs5 {α : Type} (xs : List α) (k : Nat) : (List.replicate k xs).flatten.length = k * xs.length := by
 induction k with
 | zero => simp
 | succ k ih => rw [List.replicate_succ, List.flatten_cons, List.length_append, ih, Nat.succ_mul, Nat.add_comm]
end
section
variable {prog : Program} {w : World} {A : Around} {E : Value → Shared → Prop} {s : Shared}
set_option maxRecDepth 100000 in
end
section
variable {X : Cx}
end
end L2
namespace Att
open PySem PySem.W PySem.Calls PyProof.Rows
theorem ints_of_wellAll {P : Params} {h : Heap} : ∀ (ns : List Int) (vs : List Value), WellAll P h vs (ns.map WData.int) → IntsAre vs ns := by
 intro ns
 induction ns with
 | nil =>
  intro vs w
  rw [List.map_nil] at w
  cases w
  exact .nil
 | cons n ns ih =>
  intro vs w
  rw [List.map_cons] at w
  cases w with
  | cons a b =>
   cases a
   exact .cons _ _ (ih _ b)
theorem script_of {l : OpenLaw} {n : Nat} (hn : l.most = some n) {P : Params} {h : Heap} {args : List WData} {vals : List Value}
 (hpre : l.row.toRowW.claim.pre args = true) (hwl : WellAll P h vals args) :
 ∃ a vs ns, vals = [Value.ref a] ∧ args = [WData.list (ns.map WData.int)] ∧ h.get? a = some { cls := .type "list", data := .seq vs.toArray } ∧ IntsAre vs ns ∧ ns.length ≤ n := by
 have hsh : WShape.hasAll [] args [.list .int] = true := (pre_splitW hpre).1
 have hc : l.pre.holds [] { args := args } = true := (pre_splitW hpre).2
 obtain ⟨d, r, rfl, h1, h2⟩ := hasAllW_cons hsh
 obtain rfl := hasAllW_nil h2
 obtain ⟨xs, rfl, h3⟩ := hasW_list h1
 obtain ⟨ns, rfl⟩ := items_int h3
 have hlen : ns.length ≤ n := by
  unfold OpenLaw.pre at hc
  have h4 : (WTm.not (.lt (.lit (.int (n : Int))) (.len (.arg 0)))).holds [] { args := [.list (ns.map .int)] } = true := by
   have h4 := (holds_andW hc).1
   rw [hn] at h4
   exact h4
  have h5 := condW_of h4 (w_not (w_lt w_lit (w_len_list (w_arg rfl))))
  rw [List.length_map] at h5
  refine Nat.le_of_not_lt fun q => ?_
  have q' : (n : Int) < ((ns.length : Nat) : Int) := by omega
  first
   | (rw [decide_eq_true q'] at h5; exact absurd h5 (by decide))
   | (simp at h5; omega)
 cases hwl with
 | cons w1 w2 =>
  cases w2
  cases w1 with
  | list ho hall => exact ⟨_, _, ns, rfl, rfl, ho, ints_of_wellAll ns _ hall, hlen⟩
theorem post_true (l : OpenLaw) (args : List WData) : l.row.toRowW.claim.post args (.bool true) args = true :=
 postW_of (r := l.row.toRowW) (X := (true == true))
  (show WShape.has [] (.bool true) .bool = true by first | rfl | decide | simp [WShape.has, WShape.arms, WShape.armsAll])
  (show (WTm.eq .res (.lit (.bool true))).value [] { args := args, res := some (.bool true), after := args } = some (.bool (true == true)) from w_eq_bool (w_res rfl) w_lit) rfl
section
variable {prog : Program} {w : World} {A : Around} {E : Value → Shared → Prop} {s : Shared} {K : Frag}
end
end Att
namespace L2
open PySem PySem.Spec PyProof.Rows
theorem ag6 : ∀ {vs : List Value} {ns : List Int}, IntsAre vs ns → Vals (ns.map V.int) vs
 | _, _, .nil => .nil
 | _, _, .cons n t h => .cons ⟨t, rfl⟩ (ag6 h)
def cr7 (H : Hp) : Prop := ∀ b, H b = none ∨ ∃ o xs, H b = some (.frz o (.lst xs))
theorem bl8 {P : Program} {w : World} {K : PySem.W.Frag} {mg mb : Str → Option Value} {CX : wY} {k : Nat} {fa a : Addr} {fd : FuncData} {x : Str} {sp : Sp} {s₁ : Shared} {vs : List Value} {ns : List Int}
 (KX : K.In s₁.heap) (hns : s₁.heap.Ns mainGlobals mg) (hb : s₁.heap.Ns builtinsNs mb) (hbb : ∀ x : Str, x ≠ "__name__" → mb x = bootBuiltins x) (hlim : s₁.heap.NoLimit) (hg : s₁.gens = #[])
 (ha : s₁.heap.get? a = some { cls := .type "list", data := .seq vs.toArray }) (hi : IntsAre vs ns) (hl : ns.length ≤ sizeLine) (hr : Room k callerA)
 (F : ∀ base : Heap, K.In base → base.Ns mainGlobals mg → FnOk P w K mg base CX k fa fd [x] sp) (hbind : ∀ (s : Shared) (u : Value), BindsTo s fd ⟨[u], []⟩ [(x, u)])
 (hsp : ∀ H : Hp, cr7 H → SqL K H a (ns.map V.int) → sp [.ref a] H (fun v _ => v = .bl true) fun _ _ _ => False)
 (hCX : ∀ H e s', CX [] H s₁ (fun _ _ _ => False) e s' → False) :
 codeAny (model P w) callerA (.call (.ref fa) ⟨[.ref a], []⟩) (fun r s' => r = .ok (.ret (.bool true)) ∧ OldK s₁.heap s'.heap ∧ s'.os = s₁.os ∧ AllBare s'.gens) s₁ := by
 have rv := ag6 hi
 have lenV := hi.length
 have core : ∀ H : Hp, cr7 H → SqL K H a (ns.map V.int) → HOk P w H s₁.heap → (∀ b, H b ≠ none → b = a) → (H a ≠ none → K.lookup a = none) →
  codeAny (model P w) callerA (.call (.ref fa) ⟨[.ref a], []⟩) (fun r s' => r = .ok (.ret (.bool true)) ∧ OldK s₁.heap s'.heap ∧ s'.os = s₁.os ∧ AllBare s'.gens) s₁ := by
  intro H hO hS hok hA hK
  have base_of : ∀ {b : Addr} {o : Obj}, s₁.heap.get? b = some o → H b = none → (vR s₁.heap H).get? b = some o := fun e n => cy0 e n
  have noA : ∀ {b : Addr} {o : Obj} {es : Array DictEntry} {ep : Nat}, s₁.heap.get? b = some o → o.data = .dict es ep → H b = none := fun {b o es ep} e d => by
   cases q : H b with
   | none => rfl
   | some u =>
    have e' : b = a := hA b (by rw [q]; simp)
    subst e'
    rw [ha] at e; cases e
    have d' : Data.seq vs.toArray _ = Data.dict es ep := d
    cases d'
  have nsK : ∀ {b : Addr} {m : Str → Option Value}, s₁.heap.Ns b m → (vR s₁.heap H).Ns b m := fun {b m} ⟨o, es, ep, e, d, r⟩ => ⟨o, es, ep, base_of e (noA e d), d, r⟩
  have hKb : K.In (vR s₁.heap H) := fun b o e => base_of (KX b o e) (by
   cases q : H b with
   | none => rfl
   | some u =>
    have e' : b = a := hA b (by rw [q]; simp)
    subst e'
    rw [hK (by rw [q]; simp)] at e; cases e)
  have hM : Mod K mg (vR s₁.heap H) := ⟨hKb, nsK hns, ⟨mb, nsK hb, hbb⟩, let ⟨mc, h1, h2⟩ := hlim; ⟨mc, nsK h1, h2⟩⟩
  have e0 : Env0 P w K mg (vR s₁.heap H) callerA [] s₁ H := ⟨rfl, hM, fun b o e => cb5 e, Nat.le_of_eq (bv5 _ _), trivial, fun b hb => absurd (show b ∈ ([] : List Addr) from hb) (by simp), hok, .of_eq hg⟩
  refine codeAny_mono ((F _ hKb (nsK hns)).run callerA [] s₁ H ⟨[.ref a], []⟩ [.ref a] [.ref a] _ _ hr e0 (hbind s₁ (.ref a)) (.cons rfl .nil) (hsp H hO hS)) fun r s' h => ?_
  cases r with
  | error e => exact (hCX H e s' h).elim
  | ok fl =>
   cases fl with
   | next => exact False.elim h
   | brk => exact False.elim h
   | cont => exact False.elim h
   | ret u =>
    obtain ⟨v, H', os, bare, un, hok', r', q⟩ := h
    have q' : v = .bl true := q
    subst q'
    obtain rfl : u = Value.bool true := r'
    refine ⟨rfl, OldK.of_keep fun b o e => ?_, os, bare⟩
    cases q : H b with
    | none => exact un.keep b o e q (by intro z; exact absurd (show b ∈ ([] : List Addr) from z) (by simp)) (by simp)
    | some u =>
     rcases hO b with z | ⟨ob, xs, z⟩
     · rw [q] at z; cases z
     · have z2 := un.frzs b ob _ z
       obtain ⟨e1, _⟩ := hok b _ z
       obtain ⟨e2, _⟩ := hok' b _ z2
       rw [e] at e1; cases e1
       exact e2
 cases hk : K.lookup a with
 | some o =>
  have e := KX a o hk
  rw [ha] at e
  cases e
  refine core (fun _ => none) (fun _ => .inl rfl) (.inr ⟨_, vs.toArray, _, hk, rfl, rfl, rfl, by rw [List.size_toArray, lenV]; exact hl, by simpa using rv⟩) (fun b u z => by have z' : (none : Option HO) = some u := z; cases z') (fun b z => absurd rfl z) fun z => absurd rfl z
 | none =>
  refine core (fun b => if b = a then some (.frz { cls := .type "list", data := .seq vs.toArray } (.lst (ns.map V.int))) else none) (fun b => ?_) (.inl (.inr ⟨{ cls := .type "list", data := .seq vs.toArray }, if_pos rfl⟩)) (fun b u z => ?_) (fun b z => ?_) fun _ => hk
  · by_cases hb : b = a
    · exact .inr ⟨_, _, if_pos hb⟩
    · exact .inl (if_neg hb)
  · by_cases hb : b = a
    · have z' := (if_pos hb).symm.trans z
      cases z'
      subst hb
      exact ⟨ha, by rw [List.length_map]; exact hl, vs, _, rv, ha⟩
    · have z' := (if_neg hb).symm.trans z
      cases z'
  · by_cases hb : b = a
    · exact hb
    · exact absurd (if_neg hb) z
end L2
namespace L2
open PySem PySem.Spec PyProof.Rows
end L2
/- THE LAST THEOREM (shape; LID, My.* are yours):
 My.Adr: a structure of the addresses that your layer names (classes, functions); My.Txt K t: a structure (Prop) of the equations over K;
 My.txt_mk : {K} {implicit addresses ..} (e1 : nsIn K mainGlobals "law" = some (some (.ref f))) (e2 : K.lookup f = some ⟨oc, od, .func (fnOf "law" "law" params body scope dV kV doc pm an cdv ct), sl⟩) (e3 : codeIn K cdv "law" = true) .. : ∃ t, My.Txt K t
set_option maxRecDepth 100000 in
set_option maxHeartbeats 0 in
theorem PySem.Challenge.cw_LID_holds : PySem.Challenge.rw_LID.Holds := by
 w_on; o_law; k_head; (case hw => w_witness2)
 k_fill
 refine L2.dg5 (l := PySem.Challenge.rw_LID) (n := 63) (k := 40) (x := "script") (CX := fun w => ..) (sp := fun _ => My.sp_law) rfl (by decide) rfl ⟨rfl, by decide, by decide⟩ (fun w h Y => PySem.W.kIn_of Y) ?F ?S ?C
 case F =>
  intro w mg fa h KX G hmg
  have T : ∃ t, My.Txt (L2.KOf KX) t := by
   dsimp only [L2.KOf]                          -- K must stand as «<heap const> w.params» for k_is
   refine' My.txt_mk ?e1 ?e2 ?e3 ..
   (case e1 => PySem.W.k_is)                    -- in the order: a name -> its address -> its object -> its parts
   (case e2 => PySem.W.k_is)
   ..
  obtain ⟨t, T⟩ := T
  have e0 := hmg.symm.trans (PySem.W.mg_of KX G T.law)
  cases e0                                       -- fa is the law's own address
  exact ⟨_, fun s u => .of_eq rfl, fun base kb nb => My.law_fn T kb nb⟩     -- if «.of_eq rfl» comes too early: refine' ⟨_, ?b, fun base kb nb => My.law_fn T kb nb⟩; exact fun s u => .of_eq rfl
 case S => exact fun w H a ns hl hO hS => ..
 case C => exact ..
(the tactic k_is has no namespace: write k_is) -/
namespace L2
open PySem PySem.Spec PyProof.Rows
def uP (s : Stmt) (j : Nat) : Stmt := match s with
 | .ClassDef _ _ _ body _ _ _ _ _ _ _ => body.getD j (.Pass ⟨0, 0, 0, 0⟩)
 | _ => .Pass ⟨0, 0, 0, 0⟩
def iK (s : Stmt) : Arguments := match s with
 | .FunctionDef _ a _ _ _ _ _ _ _ _ => a
 | _ => { posonlyargs := [], args := [], vararg := none, kwonlyargs := [], kw_defaults := [], kwarg := none, defaults := [] }
def dN (s : Stmt) : List Stmt := match s with
 | .FunctionDef _ _ b _ _ _ _ _ _ _ => b
 | _ => []
def aN (s : Stmt) : Scope := match s with
 | .FunctionDef _ _ _ _ _ _ sc _ _ _ => sc
 | _ => { kind := .function, names := [], isGenerator := false, isCoroutine := false }
abbrev jQ : wY := fun _ _ _ _ _ _ => False
abbrev E0 : XK := fun _ _ _ => False
theorem ar2 {X : Cx} : yR jQ X E0 := fun _ _ _ _ _ _ _ h => h.elim
structure Fun (K : PySem.W.Frag) (x qual : Str) (st : Stmt) (f : Addr) (fd : FuncData) : Prop where
 ex : ∃ (oc : Value) (od : Option Addr) (kV doc pm : Value) (an : Option Addr) (cdv ct : Value) (osl : Array (Option Value)),
  fd = PySem.W.fnOf x qual (iK st) (dN st) (aN st) .none kV doc pm an cdv ct ∧ K.lookup f = some ⟨oc, od, .func fd, osl⟩ ∧ PySem.W.codeIn K cdv qual = true
 kp : PySem.W.keepIn K (.ref f) = true
section
variable {P : Program} {w : World} {K : PySem.W.Frag} {mg : Str → Option Value} {base : Heap}
theorem Fun.ok {x qual : Str} {st : Stmt} {f : Addr} {fd : FuncData} {N ps : List Str} {k : Nat} {sp : Sp} (F : Fun K x qual st f fd) (S : bE N ps (aN st)) (len : ∀ vs H Q E, sp vs H Q E → vs.length = ps.length)
 (hbody : ∀ (cdv : Value) (A : Around) (outer : List Env) (s : Shared) (H : Hp) (vs : List V) (Q : VK) (E : XK), Room k (A.deeper (envOfC qual (aN st) s.heap.objs.size f cdv)) → sp vs H Q E →
  ∃ t, PSs (mO jQ P w K mg base N qual (aN st) f cdv A outer s H E).nox (dN st) t ∧ t { nx := fun _ H' => Q .non H', rt := Q } (iS N vs) H) : FnOk P w K mg base jQ (k + 1) f fd ps sp := by
 obtain ⟨oc, od, kV, doc, pm, an, cdv, ct, osl, rfl, lk, hcd⟩ := F.ex
 refine dy1 lk hcd S len fun A outer s H vs Q E hr hsp => ?_
 obtain ⟨t, h, q⟩ := hbody cdv A outer s H vs Q E hr hsp
 exact ⟨t, h.nox, q⟩
theorem Fun.binds {x qual : Str} {st : Stmt} {f : Addr} {fd : FuncData} {ps : List Str} (F : Fun K x qual st f fd)
 (h : ∀ (kV doc pm : Value) (an : Option Addr) (cdv ct : Value) (us : List Value), us.length = ps.length → bindArgs (PySem.W.fnOf x qual (iK st) (dN st) (aN st) .none kV doc pm an cdv ct) ⟨us, []⟩ = pure (ps.zip us)) : Binds K fd ps [] := by
 obtain ⟨oc, od, kV, doc, pm, an, cdv, ct, osl, rfl, lk, hcd⟩ := F.ex
 exact .all (h kV doc pm an cdv ct)
theorem au1 {x qual : Str} {st : Stmt} {f : Addr} {oc : Value} {od an : Option Addr} {osl : Array (Option Value)} {kV doc pm cdv ct : Value} (l : K.lookup f = some ⟨oc, od, .func (PySem.W.fnOf x qual (iK st) (dN st) (aN st) .none kV doc pm an cdv ct), osl⟩)
 (c : PySem.W.codeIn K cdv qual = true) (k : PySem.W.keepIn K (.ref f) = true) : Fun K x qual st f (PySem.W.fnOf x qual (iK st) (dN st) (aN st) .none kV doc pm an cdv ct) := ⟨⟨oc, od, kV, doc, pm, an, cdv, ct, osl, rfl, l, c⟩, k⟩
end
section
variable {X : Cx}
theorem pv (i : Nat) {x : Str} {pos : Pos} (hN : X.N[i]? = some x := by rfl) (hv : Vis X.env.scope x := by first | exact Or.inl rfl | exact Or.inr (Or.inl rfl) | exact Or.inr (Or.inr rfl)) (hd : (x == ("__debug__" : Str)) = false := by decide)
 (hcd : (x == ("__classdict__" : Str)) = false := by decide) : PE X (.Name x pos) (ar8 i) := cm7 hN hv hd hcd
end
def Same (H H' : Hp) : Prop := ∀ b o, H b = some o → H' b = some o
theorem Same.refl (H : Hp) : Same H H := fun _ _ h => h
theorem Same.trans {H H1 H2 : Hp} (a : Same H H1) (b : Same H1 H2) : Same H H2 := fun c o h => b c o (a c o h)
theorem Same.free {H H' : Hp} (e : Same H H') {l : Addr} (h : H' l = Option.none) : H l = Option.none := by
 cases q : H l with
 | none => rfl
 | some o =>
  rw [e l o q] at h
  cases h
theorem Same.seq {K : PySem.W.Frag} {H H' : Hp} {a : Addr} {xs : List V} (e : Same H H') (h : SqL K H a xs) : SqL K H' a xs := by
 rcases h with (h | ⟨o, h⟩) | h
 · exact .inl (.inl (e _ _ h))
 · exact .inl (.inr ⟨o, e _ _ h⟩)
 · exact .inr h
end L2
namespace L2
open PySem PySem.Spec PyProof.Rows
def cd8 : R2 := fun x y H Q => ∃ i j, x = .int i ∧ y = .int j ∧ IntMulOk i j ∧ Q (.int (i * j)) H
section
variable {X : Cx}
theorem op_mulB : OpR X (binaryOp .Mult) cd8 := by
 intro pins s σ H x y v u Q I rx ry h
 obtain ⟨i, j, rfl, rfl, hc, q⟩ := h
 obtain ⟨t, rfl⟩ := rx
 obtain ⟨t', rfl⟩ := ry
 exact mul_int ⟨.int (i * j), H, I.tok _, ⟨_, rfl⟩, q⟩ hc
def TyN (K : PySem.W.Frag) (H : Hp) (x : V) (tx : String) : Prop := match x with
 | .int _ => tx = "int"
 | .bl _ => tx = "bool"
 | .str _ => tx = "str"
 | .ref p => (tx = "list" ∧ ∃ xs, SqL K H p xs) ∨ (tx = "tuple" ∧ ∃ xs, SqT K H p xs)
 | _ => False
inductive fN : String → String → Bool → Prop where
 | int_int : fN "int" "int" true
 | int_bool : fN "int" "bool" false
 | int_str : fN "int" "str" false
 | int_list : fN "int" "list" false
 | int_tuple : fN "int" "tuple" false
 | bool_int : fN "bool" "int" true
 | bool_bool : fN "bool" "bool" true
 | bool_str : fN "bool" "str" false
 | bool_list : fN "bool" "list" false
 | bool_tuple : fN "bool" "tuple" false
 | str_int : fN "str" "int" false
 | str_bool : fN "str" "bool" false
 | str_str : fN "str" "str" true
 | str_list : fN "str" "list" false
 | str_tuple : fN "str" "tuple" false
 | list_int : fN "list" "int" false
 | list_bool : fN "list" "bool" false
 | list_str : fN "list" "str" false
 | list_list : fN "list" "list" true
 | list_tuple : fN "list" "tuple" false
 | tuple_int : fN "tuple" "int" false
 | tuple_bool : fN "tuple" "bool" false
 | tuple_str : fN "tuple" "str" false
 | tuple_list : fN "tuple" "list" false
 | tuple_tuple : fN "tuple" "tuple" true
theorem cj0 : CallR X (.builtin "isinstance") (fun xs H Q => ∃ x T tx b, xs = [x, .ty T] ∧ TyN X.K H x tx ∧ fN tx T b ∧ Q (.bl b) H) := by
 intro pins s σ H xs us Q I r h
 obtain ⟨x, T, tx, b, rfl, ht, ho, q⟩ := h
 obtain ⟨u, v, rfl, rx, rT⟩ := r.two
 obtain rfl : v = Value.type T := rT
 have fin1 : EP X pins σ Q (.bool b) s := ⟨.bl b, H, I, rfl, q⟩
 have fin2 : EP X pins σ Q (.bool b) { s with toks := s.toks + 1 } := ⟨.bl b, H, I.tok _, rfl, q⟩
 cases x with
 | int i =>
  obtain ⟨t, rfl⟩ := rx
  have ht : tx = "int" := ht
  cases ho with
  | int_int => exact IsiPair.int_int fin1
  | int_bool => exact IsiPair.int_bool fin2
  | int_str => exact IsiPair.int_str fin2
  | int_list => exact IsiPair.int_list fin2
  | int_tuple => exact IsiPair.int_tuple fin2
  | bool_int => exact absurd ht (by decide +kernel)
  | bool_bool => exact absurd ht (by decide +kernel)
  | bool_str => exact absurd ht (by decide +kernel)
  | bool_list => exact absurd ht (by decide +kernel)
  | bool_tuple => exact absurd ht (by decide +kernel)
  | str_int => exact absurd ht (by decide +kernel)
  | str_bool => exact absurd ht (by decide +kernel)
  | str_str => exact absurd ht (by decide +kernel)
  | str_list => exact absurd ht (by decide +kernel)
  | str_tuple => exact absurd ht (by decide +kernel)
  | list_int => exact absurd ht (by decide +kernel)
  | list_bool => exact absurd ht (by decide +kernel)
  | list_str => exact absurd ht (by decide +kernel)
  | list_list => exact absurd ht (by decide +kernel)
  | list_tuple => exact absurd ht (by decide +kernel)
  | tuple_int => exact absurd ht (by decide +kernel)
  | tuple_bool => exact absurd ht (by decide +kernel)
  | tuple_str => exact absurd ht (by decide +kernel)
  | tuple_list => exact absurd ht (by decide +kernel)
  | tuple_tuple => exact absurd ht (by decide +kernel)
 | bl i =>
  cases rx
  have ht : tx = "bool" := ht
  cases ho with
  | int_int => exact absurd ht (by decide +kernel)
  | int_bool => exact absurd ht (by decide +kernel)
  | int_str => exact absurd ht (by decide +kernel)
  | int_list => exact absurd ht (by decide +kernel)
  | int_tuple => exact absurd ht (by decide +kernel)
  | bool_int => exact IsiPair.bool_int fin1
  | bool_bool => exact IsiPair.bool_bool fin1
  | bool_str => exact IsiPair.bool_str fin2
  | bool_list => exact IsiPair.bool_list fin2
  | bool_tuple => exact IsiPair.bool_tuple fin2
  | str_int => exact absurd ht (by decide +kernel)
  | str_bool => exact absurd ht (by decide +kernel)
  | str_str => exact absurd ht (by decide +kernel)
  | str_list => exact absurd ht (by decide +kernel)
  | str_tuple => exact absurd ht (by decide +kernel)
  | list_int => exact absurd ht (by decide +kernel)
  | list_bool => exact absurd ht (by decide +kernel)
  | list_str => exact absurd ht (by decide +kernel)
  | list_list => exact absurd ht (by decide +kernel)
  | list_tuple => exact absurd ht (by decide +kernel)
  | tuple_int => exact absurd ht (by decide +kernel)
  | tuple_bool => exact absurd ht (by decide +kernel)
  | tuple_str => exact absurd ht (by decide +kernel)
  | tuple_list => exact absurd ht (by decide +kernel)
  | tuple_tuple => exact absurd ht (by decide +kernel)
 | str i =>
  obtain ⟨t, rfl⟩ := rx
  have ht : tx = "str" := ht
  cases ho with
  | int_int => exact absurd ht (by decide +kernel)
  | int_bool => exact absurd ht (by decide +kernel)
  | int_str => exact absurd ht (by decide +kernel)
  | int_list => exact absurd ht (by decide +kernel)
  | int_tuple => exact absurd ht (by decide +kernel)
  | bool_int => exact absurd ht (by decide +kernel)
  | bool_bool => exact absurd ht (by decide +kernel)
  | bool_str => exact absurd ht (by decide +kernel)
  | bool_list => exact absurd ht (by decide +kernel)
  | bool_tuple => exact absurd ht (by decide +kernel)
  | str_int => exact IsiPair.str_int fin2
  | str_bool => exact IsiPair.str_bool fin2
  | str_str => exact IsiPair.str_str fin1
  | str_list => exact IsiPair.str_list fin2
  | str_tuple => exact IsiPair.str_tuple fin2
  | list_int => exact absurd ht (by decide +kernel)
  | list_bool => exact absurd ht (by decide +kernel)
  | list_str => exact absurd ht (by decide +kernel)
  | list_list => exact absurd ht (by decide +kernel)
  | list_tuple => exact absurd ht (by decide +kernel)
  | tuple_int => exact absurd ht (by decide +kernel)
  | tuple_bool => exact absurd ht (by decide +kernel)
  | tuple_str => exact absurd ht (by decide +kernel)
  | tuple_list => exact absurd ht (by decide +kernel)
  | tuple_tuple => exact absurd ht (by decide +kernel)
 | ref p =>
  cases rx
  have ht : (tx = "list" ∧ ∃ xs, SqL X.K H p xs) ∨ (tx = "tuple" ∧ ∃ xs, SqT X.K H p xs) := ht
  rcases ht with ⟨ht, ys, hq⟩ | ⟨ht, ys, hq⟩
  · obtain ⟨its, rv, ⟨o, n, e, c, d, dt⟩, hz⟩ := I.list hq
    cases ho with
    | int_int => exact absurd ht (by decide +kernel)
    | int_bool => exact absurd ht (by decide +kernel)
    | int_str => exact absurd ht (by decide +kernel)
    | int_list => exact absurd ht (by decide +kernel)
    | int_tuple => exact absurd ht (by decide +kernel)
    | bool_int => exact absurd ht (by decide +kernel)
    | bool_bool => exact absurd ht (by decide +kernel)
    | bool_str => exact absurd ht (by decide +kernel)
    | bool_list => exact absurd ht (by decide +kernel)
    | bool_tuple => exact absurd ht (by decide +kernel)
    | str_int => exact absurd ht (by decide +kernel)
    | str_bool => exact absurd ht (by decide +kernel)
    | str_str => exact absurd ht (by decide +kernel)
    | str_list => exact absurd ht (by decide +kernel)
    | str_tuple => exact absurd ht (by decide +kernel)
    | list_int => exact IsiPair.list_int e c fin2
    | list_bool => exact IsiPair.list_bool e c fin2
    | list_str => exact IsiPair.list_str e c fin2
    | list_list => exact IsiPair.list_list e c fin1
    | list_tuple => exact IsiPair.list_tuple e c fin2
    | tuple_int => exact absurd ht (by decide +kernel)
    | tuple_bool => exact absurd ht (by decide +kernel)
    | tuple_str => exact absurd ht (by decide +kernel)
    | tuple_list => exact absurd ht (by decide +kernel)
    | tuple_tuple => exact absurd ht (by decide +kernel)
  · obtain ⟨its, rv, ⟨o, e, c, n, d⟩, hz⟩ := I.tuple hq
    cases ho with
    | int_int => exact absurd ht (by decide +kernel)
    | int_bool => exact absurd ht (by decide +kernel)
    | int_str => exact absurd ht (by decide +kernel)
    | int_list => exact absurd ht (by decide +kernel)
    | int_tuple => exact absurd ht (by decide +kernel)
    | bool_int => exact absurd ht (by decide +kernel)
    | bool_bool => exact absurd ht (by decide +kernel)
    | bool_str => exact absurd ht (by decide +kernel)
    | bool_list => exact absurd ht (by decide +kernel)
    | bool_tuple => exact absurd ht (by decide +kernel)
    | str_int => exact absurd ht (by decide +kernel)
    | str_bool => exact absurd ht (by decide +kernel)
    | str_str => exact absurd ht (by decide +kernel)
    | str_list => exact absurd ht (by decide +kernel)
    | str_tuple => exact absurd ht (by decide +kernel)
    | list_int => exact absurd ht (by decide +kernel)
    | list_bool => exact absurd ht (by decide +kernel)
    | list_str => exact absurd ht (by decide +kernel)
    | list_list => exact absurd ht (by decide +kernel)
    | list_tuple => exact absurd ht (by decide +kernel)
    | tuple_int => exact IsiPair.tuple_int e c fin2
    | tuple_bool => exact IsiPair.tuple_bool e c fin2
    | tuple_str => exact IsiPair.tuple_str e c fin2
    | tuple_list => exact IsiPair.tuple_list e c fin2
    | tuple_tuple => exact IsiPair.tuple_tuple e c fin1
 | _ => exact (show False from ht).elim
theorem uG : ∀ {bs : List Bool} {us : List Value} {i : Nat} {u : Value}, Vals (bs.map V.bl) us → us[i]? = some u → ∃ b, bs[i]? = some b ∧ u = .bool b
 | [], _, _, _, .nil, e => by simp at e
 | b :: bs, _, 0, _, .cons r _, e => by
  simp at e
  subst e
  exact ⟨b, rfl, r⟩
 | b :: bs, _, i + 1, _, .cons _ t, e => by
  obtain ⟨c, h1, h2⟩ := uG (i := i) t (by simpa using e)
  exact ⟨c, by simpa using h1, h2⟩
theorem bu6 (bs : List Bool) : ((List.range bs.length).all fun i => (bs[i]?).getD true) = bs.all id := by
 rw [Bool.eq_iff_iff, List.all_eq_true, List.all_eq_true]
 constructor
 · intro h b hb
   obtain ⟨i, hi, e⟩ := List.mem_iff_getElem.mp hb
   have q := h i (List.mem_range.mpr hi)
   rw [List.getElem?_eq_getElem hi, e] at q
   exact q
 · intro h i hi
   have hi' := List.mem_range.mp hi
   rw [List.getElem?_eq_getElem hi']
   exact h _ (List.getElem_mem hi')
theorem by4 (bs : List Bool) : ((List.range bs.length).any fun i => (bs[i]?).getD true) = bs.any id := by
 rw [Bool.eq_iff_iff, List.any_eq_true, List.any_eq_true]
 constructor
 · rintro ⟨i, hi, q⟩
   have hi' := List.mem_range.mp hi
   rw [List.getElem?_eq_getElem hi'] at q
   exact ⟨_, List.getElem_mem hi', q⟩
 · rintro ⟨b, hb, q⟩
   obtain ⟨i, hi, e⟩ := List.mem_iff_getElem.mp hb
   refine ⟨i, List.mem_range.mpr hi, ?_⟩
   rw [List.getElem?_eq_getElem hi, e]
   exact q
theorem xG {s : Shared} {h' : Heap} {o : Obj} (hk : ∀ b x, b ∉ [s.heap.objs.size] → (s.heap.push o).get? b = some x → h'.get? b = some x) : ∀ b x, s.heap.get? b = some x → h'.get? b = some x :=
 fun b x e => hk b x (fun hm => by rw [List.mem_singleton.mp hm] at e; exact Nat.lt_irrefl _ (Heap.lt_size e)) (Heap.get?_push_of_some _ e)
theorem bn9 (hc : X.calm = true) : CallR X (.builtin "all") (fun xs H Q => ∃ (p : Addr) (bs : List Bool), xs = [.ref p] ∧ SqL X.K H p (bs.map V.bl) ∧ Q (.bl (bs.all id)) H) := by
 intro pins s σ H xs us Q I r h
 obtain ⟨p, bs, rfl, hq, q⟩ := h
 obtain ⟨u, rfl, r1⟩ := r.one
 obtain rfl : u = Value.ref p := r1
 obtain ⟨its, rv, pl, hz⟩ := I.list hq
 have hl := pl.isList
 have hlen : bs.length = its.length := by have := rv.length; rwa [List.length_map] at this
 have hlt : p < s.heap.objs.size := by obtain ⟨_, _, e, _⟩ := pl; exact Heap.lt_size e
 refine call_all_walk (wpAny_pyIter_list hl ?_)
 refine ⟨s.heap.objs.size, [s.heap.objs.size, p], [s.heap.objs.size], its.toArray.size, _, _, fun i => (bs[i]?).getD true, rfl, Walks.list (A := X.A.in1) (I.ok.hd hc) _ p (Nat.ne_of_lt hlt) its.toArray,
  ⟨⟨_, Heap.get?_push_size _ rfl, rfl, rfl⟩, hl.push _⟩, fun i v s' Q' E' hP hQ => ?_, fun h' tk hk => ?_⟩
 · obtain ⟨b, e, rfl⟩ := uG rv (i := i) (u := v) (by simpa using hP)
   simp only [e, Option.getD_some] at hQ
   exact wpAny_truthy_bool hQ
 · have e : ((List.range its.toArray.size).all fun i => (bs[i]?).getD true) = bs.all id := by
    rw [List.size_toArray, ← hlen]
    exact bu6 bs
   rw [e]
   exact ⟨.bl _, H, I.kept (xG hk), rfl, q⟩
theorem cl0 (hc : X.calm = true) : CallR X (.builtin "any") (fun xs H Q => ∃ (p : Addr) (bs : List Bool), xs = [.ref p] ∧ SqL X.K H p (bs.map V.bl) ∧ Q (.bl (bs.any id)) H) := by
 intro pins s σ H xs us Q I r h
 obtain ⟨p, bs, rfl, hq, q⟩ := h
 obtain ⟨u, rfl, r1⟩ := r.one
 obtain rfl : u = Value.ref p := r1
 obtain ⟨its, rv, pl, hz⟩ := I.list hq
 have hl := pl.isList
 have hlen : bs.length = its.length := by have := rv.length; rwa [List.length_map] at this
 have hlt : p < s.heap.objs.size := by obtain ⟨_, _, e, _⟩ := pl; exact Heap.lt_size e
 refine call_any_walk (wpAny_pyIter_list hl ?_)
 refine ⟨s.heap.objs.size, [s.heap.objs.size, p], [s.heap.objs.size], its.toArray.size, _, _, fun i => (bs[i]?).getD true, rfl, Walks.list (A := X.A.in1) (I.ok.hd hc) _ p (Nat.ne_of_lt hlt) its.toArray,
  ⟨⟨_, Heap.get?_push_size _ rfl, rfl, rfl⟩, hl.push _⟩, fun i v s' Q' E' hP hQ => ?_, fun h' tk hk => ?_⟩
 · obtain ⟨b, e, rfl⟩ := uG rv (i := i) (u := v) (by simpa using hP)
   simp only [e, Option.getD_some] at hQ
   exact wpAny_truthy_bool hQ
 · have e : ((List.range its.toArray.size).any fun i => (bs[i]?).getD true) = bs.any id := by
    rw [List.size_toArray, ← hlen]
    exact by4 bs
   rw [e]
   exact ⟨.bl _, H, I.kept (xG hk), rfl, q⟩
end
structure bW (P : Program) (w : World) (K : PySem.W.Frag) (mg : Str → Option Value) (base : Heap) (k : Nat) (x : Str) (ps : List Str) (sp : Sp) : Prop where
 ex : ∃ f fd, FnOk P w K mg base jQ k f fd ps sp ∧ mg x = some (.ref f) ∧ PySem.W.keepIn K (.ref f) = true ∧ Binds K fd ps []
def ct7 (sp : Sp) (t : TA) : TE := fun σ H Q => t σ H fun vs H1 => sp vs H1 Q E0
section
variable {X : Cx}
theorem bG {k : Nat} {x : Str} {ps : List Str} {sp : Sp} {p pos : Pos} {e : Expr} {es : List Expr} {t : TA} (d : bW X.prog X.w X.K X.mg X.base k x ps sp) (hr : Room k X.A) (ha : PA X (e :: es) t) (hg : Gl X x := by rfl)
 (hdb : (x == ("__debug__" : Str)) = false := by decide) (he : starEach (e :: es) X.env = (false, eval e X.env) :: starEach es X.env := by rfl) (hpl : (backTo pos (starEach es X.env)).any (·.1) = false := by rfl) :
 PE X (.Call (.Name x p) (e :: es) [] pos) (ct7 sp t) := by
 obtain ⟨f, fd, F, hm, hk, hb⟩ := d.ex
 intro pins s σ H Q I h
 have e1 : (fun vs H1 => sp (vs ++ []) H1 Q E0) = fun vs H1 => sp vs H1 Q E0 := by
  funext vs H1
  rw [List.append_nil]
 refine cp4 F hr hg hm hk hb .nil ar2 ha hdb he hpl pins s σ H Q I ?_
 show t σ H fun vs H1 => sp (vs ++ []) H1 Q E0
 rw [e1]
 exact h
end
end L2
namespace Att
open PySem PySem.W PySem.Calls PyProof.Rows
theorem weight_mem : ∀ (ns : List Int) (n : Int), n ∈ ns → WData.weight (.int n) ≤ WData.weightAll (ns.map WData.int)
 | m :: ns, n, h => by
  rw [List.map_cons]
  simp only [WData.weightAll]
  rcases List.mem_cons.mp h with rfl | h
  · omega
  · have := weight_mem ns n h
    omega
theorem bits_of {ns : List Int} (h : WData.layableAll [.list (ns.map WData.int)] = true) : ∀ n ∈ ns, Builtin.Int.intBits n ≤ 1048576 := by
 intro n hn
 have h1 : WData.layable (.list (ns.map WData.int)) = true := by
  have h2 : ([WData.list (ns.map WData.int)].all WData.layable) = true := h
  rw [List.all_cons, Bool.and_eq_true] at h2
  exact h2.1
 unfold WData.layable at h1
 rw [Bool.and_eq_true] at h1
 have h3 := of_decide_eq_true h1.2
 have h4 := weight_mem ns n hn
 have h5 : WData.weight (.int n) = Builtin.Int.intBits n := by
  unfold WData.weight Builtin.Int.intBits
  rfl
 have h6 : WData.weight (.list (ns.map WData.int)) = WData.weightAll (ns.map WData.int) := by
  conv => lhs; unfold WData.weight
 rw [h6] at h3
 rw [h5] at h4
 have h7 : (2 : Nat) ^ 20 = 1048576 := by decide
 omega
theorem attach_callB {l : OpenLaw} {n : Nat} {q : Program} {loose : List Str} {XP : (Str → Option Value) → Heap → Prop} {YP : World → Heap → Prop} {d : DefRec}
 (hn : l.most = some n) (hdf : d.params.defaults = [])
 (call : ∀ (w : World) (s₀ s₁ : Shared) (mg mb : Str → Option Value) (fa : Addr) (o : Obj) (pm cd doc : Value) (a : Addr) (vs : List Value) (ns : List Int),
  Ground q loose [] XP w s₀ mg mb s₁.heap → YP w s₁.heap →
  s₁.heap.get? fa = some o → o.data = .func (docDef d.name d.params d.body d.scope pm cd doc) → s₁.heap.CodeRec cd d.name → mg d.name = some (.ref fa) →
  s₁.heap.get? a = some { cls := .type "list", data := .seq vs.toArray } → IntsAre vs ns → ns.length ≤ n → s₁.gens = #[] → (∀ n ∈ ns, Builtin.Int.intBits n ≤ 1048576) →
  codeAny (model l.prog w) callerA (.call (.ref fa) ⟨[.ref a], []⟩) (fun r s' => r = .ok (.ret (.bool true)) ∧ OldK s₁.heap s'.heap ∧ s'.os = s₁.os ∧ AllBare s'.gens) s₁) :
 WalkO q loose XP YP l.row.toRowW d [] (fun f vs => PySem.call f vs) := by
 intro w s₀ s₁ mg mb G Y fa o pm cd doc dV kV ho hd hcd hD hmg hg args vals as hpre hlay hrd hwl hlo
 obtain rfl : dV = .none := Dflts.none hD hdf
 obtain rfl : kV = .none := Dflts.noKw hD
 obtain ⟨a, vs, ns, rfl, rfl, hobj, hints, hlen⟩ := script_of hn hpre hwl
 refine enter_call (codeAny_mono (call w s₀ s₁ mg mb fa o pm cd doc a vs ns G Y ho (fd_plain hd) hcd hmg hobj hints hlen hg (bits_of hlay)) fun r s' hq => ?_)
 obtain ⟨rfl, h2, h3, h4⟩ := hq
 exact ⟨.inl ⟨.bool true, .bool true, [], rfl, fun _ => rfl, .bool true, post_true l _, fun _ => ⟨List.Pairwise.nil, fun _ hm => (nomatch hm)⟩⟩, h2, h3, h4⟩
end Att
namespace L2
open PySem PySem.Spec PyProof.Rows
def SqS (K : PySem.W.Frag) (H : Hp) (a : Addr) (xs : List V) : Prop :=
 Rd H a (.lst xs) ∨
  ∃ (o : Obj) (its : Array Value) (n : Nat), K.lookup a = some o ∧ o.cls = .type "list" ∧ o.dict = none ∧ o.slots = #[] ∧ o.data = .seq its n ∧ its.size ≤ sizeLine ∧ Vals xs its.toList
theorem SqS.sq {K : PySem.W.Frag} {H : Hp} {a : Addr} {xs : List V} (h : SqS K H a xs) : SqL K H a xs := by
 rcases h with h | ⟨o, its, n, h1, h2, h3, _, h5, h6, h7⟩
 · exact .inl h
 · exact .inr ⟨o, its, n, h1, h2, h3, h5, h6, h7⟩
theorem Inv.listS {X : Cx} {pins : List (Addr × Obj)} {σ : St} {H : Hp} {s : Shared} {a : Addr} {xs : List V} (I : Inv X pins σ H s) (h : SqS X.K H a xs) : ∃ (its : List Value) (n : Nat), Vals xs its ∧ s.heap.get? a = some { cls := .type "list", data := .seq its.toArray n } ∧ xs.length ≤ sizeLine := by
 rcases h with h | ⟨o, its, n, hk, hc, hd, hsl, hs, hz, r⟩
 · obtain ⟨z, its, n, r, e⟩ := h.ok I.hok
   exact ⟨its, n, r, e, z⟩
 · have e := I.kIn a o hk
   obtain ⟨cls, dict, data, slots⟩ := o
   simp only at hc hd hsl hs
   subst hc hd hsl hs
   refine ⟨its.toList, n, r, by simpa using e, ?_⟩
   have := r.length
   simp only [Array.length_toList] at this
   omega
def an7 (K : PySem.W.Frag) : Sp := fun vs H Q _ => ∃ (a : Addr) (ns : List Int), vs = [.ref a] ∧ SqS K H a (ns.map V.int) ∧ ns.length ≤ 63 ∧ (∀ n ∈ ns, Builtin.Int.intBits n ≤ 1048576) ∧ ∀ H', Q (.bl true) H'
theorem ch0 {l : PySem.W.OpenLaw} {k : Nat} {q : Program} {loose : List Str} {XP : (Str → Option Value) → Heap → Prop} {YP : World → Heap → Prop} {d : DefRec} {K : Params → PySem.W.Frag} {x : Str}
 (hn : l.most = some 63) (hdf : d.params.defaults = []) (hr : Room k callerA)
 (hY : ∀ (w : World) (h : Heap), YP w h → (K w.params).In h)
 (F : ∀ (w : World) (mg : Str → Option Value) (fa : Addr) (h : Heap), (K w.params).In h → h.Ns mainGlobals mg → mg d.name = some (.ref fa) →
  ∃ fd : FuncData, (∀ (s : Shared) (u : Value), BindsTo s fd ⟨[u], []⟩ [(x, u)]) ∧
   ∀ base : Heap, (K w.params).In base → base.Ns mainGlobals mg → FnOk l.prog w (K w.params) mg base jQ k fa fd [x] (an7 (K w.params))) :
 PySem.W.WalkO q loose XP YP l.row.toRowW d [] (fun f vs => PySem.call f vs) := by
 refine Att.attach_callB hn hdf fun w s₀ s₁ mg mb fa o pm cd doc a vs ns G Y ho hd hcd hmg hobj hints hlen hg hbits => ?_
 have KX := hY w _ Y
 obtain ⟨fd, hb, hF⟩ := F w mg fa _ KX G.T.g hmg
 have hS' : ∀ {H : Hp}, SqL (K w.params) H a (ns.map V.int) → SqS (K w.params) H a (ns.map V.int) := fun {H} h => by
  rcases h with h | ⟨o, its, n, h1, h2, h3, h5, h6, h7⟩
  · exact .inl h
  · have e := KX a o h1
    rw [hobj] at e
    cases e
    exact .inr ⟨_, its, n, h1, h2, h3, rfl, h5, h6, h7⟩
 exact bl8 KX G.T.g G.T.b G.T.builtins G.T.nolimit hg hobj hints (Nat.le_trans hlen (by decide)) hr hF hb (fun H hO hS => ⟨a, ns, rfl, hS' hS, hlen, hbits, fun _ => rfl⟩) fun H e s' h => h
end L2
namespace L2
open PySem PySem.Spec PyProof.Rows
abbrev qR (X : Cx) (scope : Scope) (cl : List (Str × Addr)) (C : Addr) (s₀ : Shared) (H₀ : Hp) (ex : List Addr) : Cx :=
 { X with s₀ := s₀, H₀ := H₀, env := compEnvC scope cl C X.env, outer := X.stack, ex := ex, fn := fun _ => false, pn := [], xe := fun _ _ => False }
def fA (cells : List (Str × Addr)) : List (Str × NameKind) → List (Str × Addr) → List (Str × Addr)
  | [], acc => acc
  | (n, k) :: r, acc => if (k == .free) = true then fA cells r ((n, (cells.lookup n).getD 0) :: acc) else fA cells r acc
theorem vQ {env : Env} : ∀ (names : List (Str × NameKind)) (acc : List (Str × Addr)), (∀ x ∈ names, x.2 = .free → ∃ c, env.cells.lookup x.1 = some c) →
    (forIn names acc fun (x : Str × NameKind) (cs : List (Str × Addr)) => (if (x.2 == .free) = true then (do let c ← cellOf env x.1; pure (ForInStep.yield ((x.1, c) :: cs))) else pure (ForInStep.yield cs) : Sem (ForInStep (List (Str × Addr))))) = (pure (fA env.cells names acc) : Sem (List (Str × Addr)))
  | [], acc, _ => rfl
  | (n, k) :: r, acc, h => by
    rw [List.forIn_cons]
    have hr : ∀ x ∈ r, x.2 = .free → ∃ c, env.cells.lookup x.1 = some c := fun x hx => h x (List.mem_cons_of_mem _ hx)
    by_cases hk : (k == NameKind.free) = true
    · obtain ⟨c, hc⟩ := h (n, k) List.mem_cons_self (by simpa using hk)
      have e1 : cellOf env n = pure c := by unfold cellOf; rw [hc]
      simp only [hk, if_true, e1, pure_bind]
      have e2 : fA env.cells ((n, k) :: r) acc = fA env.cells r ((n, c) :: acc) := by
        conv => lhs; unfold fA
        rw [if_pos hk, hc]
        all_goals rfl
      rw [e2]
      exact vQ r _ hr
    · simp only [hk, if_false, pure_bind]
      have e2 : fA env.cells ((n, k) :: r) acc = fA env.cells r acc := by
        conv => lhs; unfold fA
        rw [if_neg hk]
      rw [e2]
      exact vQ r _ hr
theorem vW {env : Env} {scope : Scope} (h : ∀ x ∈ scope.names, x.2 = .free → ∃ c, env.cells.lookup x.1 = some c) : closureFor scope env = pure (fA env.cells scope.names []) := by
  have q := vQ (env := env) scope.names [] h
  unfold closureFor
  have e : (forIn scope.names ([] : List (Str × Addr)) fun (x : Str × NameKind) (r : List (Str × Addr)) =>
      (match x with
      | (name, kind) => if (kind == NameKind.free) = true then (do let c ← cellOf env name; pure (ForInStep.yield ((name, c) :: r))) else pure (ForInStep.yield r) : Sem (ForInStep (List (Str × Addr))))) = pure (fA env.cells scope.names []) := q
  first
    | (show (do let r ← (forIn scope.names ([] : List (Str × Addr)) _); pure r) = _; erw [e]; rfl)
    | (simp only [bind_pure]; exact e)
    | exact e
theorem sW {cells : List (Str × Addr)} : ∀ (names : List (Str × NameKind)) (acc : List (Str × Addr)), (∀ x ∈ names, x.2 = .free → ∃ c, cells.lookup x.1 = some c) → (∀ y c, acc.lookup y = some c → cells.lookup y = some c) →
    ∀ y c, (fA cells names acc).lookup y = some c → cells.lookup y = some c
  | [], _, _, ha => ha
  | (n, k) :: r, acc, h, ha => by
    have hr : ∀ x ∈ r, x.2 = .free → ∃ c, cells.lookup x.1 = some c := fun x hx => h x (List.mem_cons_of_mem _ hx)
    unfold fA
    by_cases hk : (k == NameKind.free) = true
    · rw [if_pos hk]
      obtain ⟨c, hc⟩ := h (n, k) List.mem_cons_self (by simpa using hk)
      refine sW r _ hr fun y d e => ?_
      rw [List.lookup_cons] at e
      cases q : y == n with
      | true =>
        rw [q] at e
        have e' : (cells.lookup n).getD 0 = d := Option.some.inj e
        have yn : y = n := by simpa using q
        subst yn
        have hc' : cells.lookup y = some c := hc
        rw [hc'] at e' ⊢
        exact congrArg some e'
      | false =>
        rw [q] at e
        exact ha y d e
    · rw [if_neg hk]
      exact sW r acc hr ha
theorem sQ {cells : List (Str × Addr)} : ∀ (names : List (Str × NameKind)) (acc : List (Str × Addr)) (y : Str), (∃ c, acc.lookup y = some c) → ∃ c, (fA cells names acc).lookup y = some c
  | [], _, _, h => h
  | (n, k) :: r, acc, y, h => by
    unfold fA
    split
    · refine sQ r _ y ?_
      rw [List.lookup_cons]
      cases q : y == n with
      | true => exact ⟨_, rfl⟩
      | false => exact h
    · exact sQ r acc y h
theorem rS {cells : List (Str × Addr)} : ∀ (names : List (Str × NameKind)) (acc : List (Str × Addr)) (y : Str), (y, NameKind.free) ∈ names → ∃ c, (fA cells names acc).lookup y = some c
  | (n, k) :: r, acc, y, h => by
    unfold fA
    rcases List.mem_cons.mp h with e | h
    · have e1 : y = n := congrArg Prod.fst e
      have e2 : NameKind.free = k := congrArg Prod.snd e
      subst e1
      subst e2
      rw [if_pos (by rfl)]
      refine sQ r _ y ?_
      rw [List.lookup_cons, beq_self_eq_true]
      exact ⟨_, rfl⟩
    · split
      · exact rS r _ y h
      · exact rS r _ y h
theorem uY {env : Env} {x : Str} : ∀ (names : List (Str × NameKind)),
    (names.map fun (n, k) => if (k == NameKind.free && env.scope.kind == .function && env.kindOf n == some .cell) then (n, NameKind.cell) else (n, k)).lookup x
      = (names.lookup x).map fun k => if (k == NameKind.free && env.scope.kind == .function && env.kindOf x == some .cell) = true then NameKind.cell else k
  | [] => rfl
  | (n, k) :: r => by
    have ih := uY (env := env) (x := x) r
    show List.lookup x ((if (k == NameKind.free && env.scope.kind == .function && env.kindOf n == some .cell) = true then (n, NameKind.cell) else (n, k)) :: _) = _
    rw [List.lookup_cons (a := x) (as := r)]
    cases hx : x == n with
    | true =>
      have e : x = n := by simpa using hx
      subst e
      by_cases hc : (k == NameKind.free && env.scope.kind == .function && env.kindOf x == some .cell) = true
      · rw [if_pos hc, List.lookup_cons, beq_self_eq_true]
        show some NameKind.cell = some (if _ then _ else _)
        rw [if_pos hc]
      · rw [if_neg hc, List.lookup_cons, beq_self_eq_true]
        show some k = some (if _ then _ else _)
        rw [if_neg hc]
    | false =>
      by_cases hc : (k == NameKind.free && env.scope.kind == .function && env.kindOf n == some .cell) = true
      · rw [if_pos hc, List.lookup_cons, hx]; exact ih
      · rw [if_neg hc, List.lookup_cons, hx]; exact ih
theorem zT {x : Str} {k : NameKind} : ∀ {names : List (Str × NameKind)}, names.lookup x = some k → (x, k) ∈ names
  | (n, k') :: r, h => by
    rw [List.lookup_cons] at h
    cases hx : x == n with
    | true =>
      rw [hx] at h
      have e : x = n := by simpa using hx
      subst e
      cases h
      exact List.mem_cons_self
    | false =>
      rw [hx] at h
      exact List.mem_cons_of_mem _ (zT h)
structure CScope (X : Cx) (ks : List Nat) (scope : Scope) : Prop where
  kind : scope.kind = .function
  cell : ∀ y ∈ scope.names, y.2 ≠ .cell
  names : ∀ y ∈ scope.names, y.2 = .local → scope.names.lookup y.1 = some .local
  freeB : (scope.names.all fun y => !(y.2 == NameKind.free) || (X.env.kindOf y.1 == some NameKind.cell || X.env.kindOf y.1 == some NameKind.free)) = true
  slotsB : (X.N.zipIdx.all fun p => !(scope.names.lookup p.1 == some NameKind.local) || ks.contains p.2) = true
theorem CScope.free {X : Cx} {ks : List Nat} {scope : Scope} (S : CScope X ks scope) : ∀ y ∈ scope.names, y.2 = .free → X.env.kindOf y.1 = some .cell ∨ X.env.kindOf y.1 = some .free := fun y hy hk => by
 have h := List.all_eq_true.mp S.freeB y hy
 rw [hk] at h
 simpa using h
theorem CScope.slots {X : Cx} {ks : List Nat} {scope : Scope} (S : CScope X ks scope) : ∀ p ∈ X.N.zipIdx, scope.names.lookup p.1 = some .local → p.2 ∈ ks := fun p hp hk => by
 have h := List.all_eq_true.mp S.slotsB p hp
 rw [hk] at h
 simpa using h
def clr : List Nat → St → St
 | [], σ => σ
 | k :: ks, σ => clr ks (σ.set k none)
theorem nZ : ∀ (ks : List Nat) (σ : St), (clr ks σ).length = σ.length
 | [], _ => rfl
 | k :: ks, σ => by
  show (clr ks (σ.set k none)).length = _
  rw [nZ ks, List.length_set]
theorem aj4 : ∀ (ks : List Nat) (σ : St) {i : Nat} {v : V}, (clr ks σ)[i]? = some (some v) → σ[i]? = some (some v) ∧ i ∉ ks
 | [], _, _, _, h => ⟨h, List.not_mem_nil⟩
 | k :: ks, σ, i, v, h => by
  obtain ⟨h1, h2⟩ := aj4 ks (σ.set k none) h
  by_cases e : i = k
  · subst e
    rw [List.getElem?_set_self'] at h1
    cases q : σ[i]? with
    | none => rw [q] at h1; cases h1
    | some o => rw [q] at h1; cases h1
  · rw [List.getElem?_set_ne (Ne.symm e)] at h1
    exact ⟨h1, fun z => (List.mem_cons.mp z).elim e h2⟩
def PIf (Y : Cx) (ifs : List Expr) (t : TT) : Prop :=
 ∀ (pins : List (Addr × Obj)) (s : Shared) (σ : St) (H : Hp) (Q : Bool → Hp → Prop), Inv Y pins σ H s → t σ H Q →
  wpAny (model Y.prog Y.w) Y.A (forIn ifs true fun c r => if r = true then do let ok ← isTrue c Y.env (eval c Y.env); pure (ForInStep.yield ok) else pure (ForInStep.yield r)) (TP Y pins σ Q) Y.xe s
def cx7 : TT := fun _ H Q => Q true H
theorem eH {Y : Cx} : PIf Y [] cx7 := fun _ _ _ H _ I h => wpAny_tests_nil ⟨H, I, h⟩
theorem bn1 {Y : Cx} {c : Expr} {t : TT} (h : PT Y c t) : PIf Y [c] t := fun pins s σ H Q I q => wpAny_tests_one (h pins s σ H Q I q)
theorem bk5 {prog : Program} {w : World} {A : Around} {R : Result → Shared → Prop} {s : Shared} {elt target iter : Expr} {ifs : List Expr} {scope : Scope} {pos : Pos} {it acc : Value} {env : Env} (I : Nat → Shared → Prop)
 (turn : ∀ n s, I n s → wpAny (model prog w) A (pyNext it) (fun r s₁ => match r with
  | none => R (.ok .next) s₁
  | some v => wpAny (model prog w) A (letOwnedTupleGo target it v) (fun _ s₁' => wpAny (model prog w) A (assign target env v) (fun _ s₂ =>
   wpAny (model prog w) A (forIn ifs true fun c r => if r = true then do let ok ← isTrue c env (eval c env); pure (ForInStep.yield ok) else pure (ForInStep.yield r)) (fun ok s₃ =>
    if ok = true then wpAny (model prog w) A (eval elt env) (fun x s₄ =>
     wpAny (model prog w) A (call (.builtin "list.append") [acc, x]) (fun _ s₅ => ∃ m, m < n ∧ I m s₅) (fun _ _ => False) s₄) (fun _ _ => False) s₃
    else ∃ m, m < n ∧ I m s₃) (fun _ _ => False) s₂) (fun _ _ => False) s₁') (fun _ _ => False) s₁) (fun _ _ => False) s)
 (n : Nat) (h : I n s) :
 codeAny (model prog w) A (.compLoop (.ListComp elt [⟨target, iter, ifs, 0⟩] scope pos) 0 it acc env) R s := by
 refine codeAny_loop rfl I (fun n s hI => ?_) n h
 show wpAny _ A ((compTurn (.ListComp elt [⟨target, iter, ifs, 0⟩] scope pos) 0 it acc env).onRaise (fun x => do noteFrame x env; theTreesLotGoes x)) _ _ s
 refine wpAny_noted ?_
 rw [compTurn_list]
 refine wpAny_bind (wpAny_standAt (wpAny_bind (wpAny_mono (turn n s hI) (fun r s₁ h₁ => ?_) fun _ _ h' => h'.elim)))
 cases r with
 | none => exact wpAny_pure h₁
 | some v =>
  refine wpAny_bind (wpAny_mono h₁ (fun _ s₁' h₁' => ?_) fun _ _ h' => h'.elim)
  refine wpAny_bind (wpAny_mono h₁' (fun _ s₂ h₂ => wpAny_bind (wpAny_mono h₂ (fun ok s₃ h₃ => ?_) fun _ _ h' => h'.elim)) fun _ _ h' => h'.elim)
  cases ok with
  | false => exact wpAny_pure ⟨rfl, h₃⟩
  | true =>
   exact wpAny_bind (wpAny_bind (wpAny_mono h₃ (fun x s₄ h₄ => wpAny_bind (wpAny_mono h₄ (fun _ s₅ h₅ => wpAny_pure (wpAny_pure ⟨rfl, h₅⟩)) fun _ _ h' => h'.elim)) fun _ _ h' => h'.elim))
theorem Inv.track {X : Cx} {pins : List (Addr × Obj)} {σ : St} {H : Hp} {s : Shared} {D : Addr} {its : List Value} {ys : List V} {n : Nat} (I : Inv X pins σ H s) (hn : H D = none) (hl : X.s₀.heap.objs.size ≤ D) (hL : D ≠ X.env.locals)
 (hc : ∀ x c, X.env.cells.lookup x = some c → c ≠ D) (hp : ∀ p ∈ X.pn ++ pins, p.1 ≠ D) (e : s.heap.get? D = some { cls := .type "list", data := .seq its.toArray n }) (rv : Vals ys its) (hz : ys.length ≤ sizeLine) :
 Inv X pins σ (upd H D (.lst ys)) s := by
 have old : ∀ b o, X.s₀.heap.get? b = some o → b ≠ D := fun b o q z => by
  subst z
  exact absurd (Nat.lt_of_lt_of_le (Heap.lt_size q) hl) (Nat.lt_irrefl _)
 have ne : ∀ b o, H b = some o → b ≠ D := fun b o q => gG q hn
 refine ⟨I.ok, I.os, I.bare, ⟨I.base.keep, I.base.slot, fun b o q n' hx => ?_, I.base.there, fun b xs q => ?_, fun b o u q => ?_, fun b ps q => ?_⟩, I.loc, I.cell, ?_, fun x c q => ?_, fun p q => ?_, fun b u q => ?_, I.len⟩
 · rw [cQ (old b o q)]
   exact I.base.free b o q n' hx
 · have z := I.base.tups b xs q
   rw [cQ (ne _ _ z)]
   exact z
 · have z := I.base.frzs b o u q
   rw [cQ (ne _ _ z)]
   exact z
 · obtain ⟨more, z⟩ := I.base.tbls b ps q
   exact ⟨more, by rw [cQ (ne _ _ z)]; exact z⟩
 · rw [cQ (Ne.symm hL)]
   exact I.free
 · rw [cQ (hc x c q)]
   exact I.freeC x c q
 · obtain ⟨h1, h2, h3⟩ := I.pin p q
   exact ⟨h1, by rw [cQ (hp p q)]; exact h2, h3⟩
 · by_cases hb : b = D
   · subst hb
     rw [dZ] at q
     cases q
     exact ⟨hz, its, n, rv, e⟩
   · rw [cQ hb] at q
     exact (I.hok b u q).stay (fun c v _ z => z) (fun c z => by rw [cQ (ne _ _ z)]; exact z) fun c xs z => by rw [cQ (ne _ _ z)]; exact z
def Ext (ks : List Nat) (σ σ2 : St) : Prop := σ2.length = σ.length ∧ ∀ (i : Nat) (v : V), (clr ks σ)[i]? = some (some v) → σ2[i]? = some (some v)
def CGo (ks : List Nat) (g : TG) (tc : TT) (te : TE) (σ : St) (F : Addr → Hp → Prop) (J : It) (H1 : Hp) : Prop :=
 ∃ W : Nat → Nat → List V → Hp → Prop, (∃ m, W 0 m [] H1) ∧ ∀ i m ys H, W i m ys H →
  (J.stop i H ∧ ∀ D, H D = none → F D (upd H D (.lst ys))) ∨
  (J.go i H ∧ ys.length < sizeLine ∧ ∃ N : List V → Hp → Prop, (∀ ys' H', N ys' H' → ∃ m', m' < m ∧ W (i + 1) m' ys' H') ∧ ∀ x H', J.yld i H x H' → g x (clr ks σ) H' fun σ2 H2 => Ext ks σ σ2 ∧ tc σ2 H2 fun b H3 =>
   if b = true then te σ2 H3 fun v H4 => N (ys ++ [v]) H4 else N ys H3)
def cx1 (ks : List Nat) (wi : TI) (g : TG) (tc : TT) (te : TE) : TE := fun σ H Q => wi σ H (CGo ks g tc te σ fun D H' => Q (.ref D) H')
def at7 (k : Nat) (ks : List Nat) (wi : TI) (g : TG) (tc : TT) (te : TE) : TS := fun D σ H => wi σ H (CGo ks g tc te σ fun a H' => D.nx (σ.set k (some (.ref a))) H')
section
variable {X : Cx}
theorem bi1 {tg iter elt : Expr} {ifs : List Expr} {scope : Scope} {pos : Pos} {ks : List Nat} {g : TG} {tc : TT} {te : TE} {F : Addr → Hp → Prop} {RR : Value → Addr → Result → Shared → Prop} {E : Value → Shared → Prop}
    {pins : List (Addr × Obj)} {σ : St} {s2 : Shared} {itv : Value} (S : CScope X ks scope) (hc : X.calm = true)
    (hg : ∀ cl C s₀ H₀ ex, PG (qR X scope cl C s₀ H₀ ex) tg g) (hi : ∀ cl C s₀ H₀ ex, PIf (qR X scope cl C s₀ H₀ ex) ifs tc) (he : ∀ cl C s₀ H₀ ex, PE (qR X scope cl C s₀ H₀ ex) elt te)
    (h : PIE X pins σ tg (CGo ks g tc te σ F) itv s2)
    (hRR : ∀ D C s' H', Inv X pins σ H' s' → (∃ m, s'.heap.Ns C m) → pA X pins H' C → F D H' → RR (.ref D) C (.ok .next) s') :
    wpAny (model X.prog X.w) X.A (newList []) (fun acc s₃ => wpAny (model X.prog X.w) X.A (newFunctionEnv scope X.env.globals (fA X.env.cells scope.names []) [] X.env.qual none .none (some X.env)) (fun cenv s₄ =>
      codeAny (model X.prog X.w) X.A (.compStart (.ListComp elt [⟨tg, iter, ifs, 0⟩] scope pos) 0 itv acc { cenv with scope := relabel scope X.env }) (RR acc cenv.locals) s₄) E s₃) E s2 := by
  obtain ⟨it, fp, tn, J, H2, rfl, I2, T, st2, f2, W, ⟨m0, w0⟩, turn⟩ := h
  refine wpAny_newObj_type (wpAny_newFunctionEnv S.cell (by intro y hy; simp at hy) (fun h₁ hns₁ hsb₁ => ?_) S.kind)
  dsimp only at hns₁ hsb₁ ⊢
  have hD2 : s2.heap.get? s2.heap.objs.size = none := Heap.get?_none_of_le (Nat.le_refl _)
  have nD : H2 s2.heap.objs.size = none := I2.hok.fresh (Nat.le_refl _)
  have I3 : Inv X pins σ H2 { s2 with heap := s2.heap.push { cls := .type "list", dict := none, data := .seq ([] : List Value).toArray } } := I2.kept (t' := s2.toks) fun b o e => Heap.get?_push_of_some _ e
  have eD3 : (s2.heap.push { cls := .type "list", dict := none, data := .seq ([] : List Value).toArray }).get? s2.heap.objs.size = some { cls := .type "list", dict := none, data := .seq ([] : List Value).toArray } := Heap.get?_push_size _ rfl
  have hsz3 : (s2.heap.push { cls := .type "list", dict := none, data := .seq ([] : List Value).toArray }).objs.size = s2.heap.objs.size + 1 := Heap.size_push _ _
  have fD := I2.fpOk (b := s2.heap.objs.size) (Nat.le_refl _) nD
  have fplt : ∀ b ∈ fp, b < s2.heap.objs.size := fun b hb => by
    obtain ⟨o, e, _⟩ := T.obj _ _ st2 b hb
    exact Heap.lt_size e
  have hDfp : s2.heap.objs.size ∉ fp := fun z => Nat.lt_irrefl _ (fplt _ z)
  generalize hs3 : ({ s2 with heap := s2.heap.push { cls := .type "list", dict := none, data := .seq ([] : List Value).toArray } } : Shared) = s3 at I3
  generalize hDD : s2.heap.objs.size = D at *
  have s3h : s3.heap = s2.heap.push { cls := .type "list", dict := none, data := .seq ([] : List Value).toArray } := by rw [← hs3]
  rw [← s3h] at hns₁ hsb₁ eD3 hsz3
  have fC := I3.fpOk (H' := H2) (b := s3.heap.objs.size) (Nat.le_refl _) (I3.hok.fresh (Nat.le_refl _))
  have old : ∀ b o, s3.heap.get? b = some o → h₁.get? b = some o := fun b o e => hsb₁.extBut b o (Nat.ne_of_lt (Heap.lt_size e)) (Heap.get?_push_of_some _ e)
  generalize hCC : s3.heap.objs.size = C at *
  have hDltC : D < C := by rw [hsz3]; exact Nat.lt_succ_self _
  have hDC : D ≠ C := Nat.ne_of_lt hDltC
  have hclos := vW (env := X.env) (scope := scope) fun x hx hk => I2.ok.has x.1 (S.free x hx hk)
  have csound : ∀ y c, (fA X.env.cells scope.names []).lookup y = some c → X.env.cells.lookup y = some c :=
    sW scope.names [] (fun x hx hk => I2.ok.has x.1 (S.free x hx hk)) fun y c e => by cases e
  generalize hcl : fA X.env.cells scope.names [] = cl at *
  have kin : ∀ y, (compEnvC scope cl C X.env).kindOf y = (scope.names.lookup y).map fun k => if (k == NameKind.free && X.env.scope.kind == .function && X.env.kindOf y == some .cell) = true then NameKind.cell else k := fun y => uY scope.names
  have isFree : ∀ y, ((compEnvC scope cl C X.env).kindOf y = some .cell ∨ (compEnvC scope cl C X.env).kindOf y = some .free) → (y, NameKind.free) ∈ scope.names := fun y hy => by
    rw [kin y] at hy
    cases q : scope.names.lookup y with
    | none =>
      rw [q] at hy
      rcases hy with z | z <;> cases z
    | some k =>
      rw [q] at hy
      have hm := zT q
      cases k with
      | free => exact hm
      | cell => exact absurd rfl (S.cell _ hm)
      | _ =>
        rcases hy with z | z
        · exact absurd (Option.some.inj z) (by simp)
        · exact absurd (Option.some.inj z) (by simp)
  have neFs : ∀ b, pA X pins H2 b → b ∉ uO X.stack := fun b f z => by
    rcases List.mem_cons.mp (I2.stkSub b z) with e | e
    · exact f.2.1 e
    · exact f.2.2.1 e
  have exs : ∀ b ∈ D :: fp, pA X pins H2 b := fun b hb => by
    rcases List.mem_cons.mp hb with e | e
    · rw [e]; exact fD
    · exact f2 b e
  have exlt : ∀ b ∈ D :: fp, b < C := fun b hb => by
    rcases List.mem_cons.mp hb with e | e
    · rw [e]; exact hDltC
    · exact Nat.lt_trans (fplt b e) hDltC
  have okY : (qR X scope cl C s3 H2 (D :: fp)).Ok :=
    { mod := I2.ok.mod, kind := S.kind, glob := I2.ok.glob, blt := I2.ok.blt, above := Nat.le_of_eq hCC
      inj := fun x y c h1 h2 => I2.ok.inj x y c (csound _ _ h1) (csound _ _ h2)
      has := fun y hy => by
        have z := rS (cells := X.env.cells) scope.names [] y (isFree y hy)
        rw [hcl] at z
        exact z
      cab := fun _ _ z => by cases z
      hd := I2.ok.hd, frames := I2.ok.frames, stk := .inl rfl
      exf := fun b hb => ⟨Nat.ne_of_lt (exlt b hb), fun x c e z => (exs b hb).2.2.2.2.1 x c (csound _ _ e) z⟩
      bs := I3.bs
      bsz := Nat.le_trans I2.ok.bsz I3.sz
      noex := fun b o e hb => by
        rcases (exs b hb).2.2.2.1 with z | z
        · exact I2.ok.noex b o e z
        · exact absurd (Nat.lt_of_lt_of_le (Heap.lt_size e) (Nat.le_trans I2.ok.bsz z)) (Nat.lt_irrefl _)
      exfs := fun b hb => neFs b (exs b hb)
      funs := I3.stack
      frf := I3.stkFree }
  have outP : ∀ p ∈ X.pn ++ pins, p.1 ≠ C ∧ p.1 ∉ uO X.stack ∧ p.1 ≠ D := fun p hp => by
    obtain ⟨e, n, ne, nf, d⟩ := I2.pin p hp
    have lt : p.1 < D := by rw [← hDD]; exact Heap.lt_size e
    refine ⟨Nat.ne_of_lt (Nat.lt_trans lt hDltC), fun z => ?_, Nat.ne_of_lt lt⟩
    rcases List.mem_cons.mp (I2.stkSub p.1 z) with q | q
    · exact ne q
    · exact nf q
  have I4 : Inv (qR X scope cl C s3 H2 (D :: fp)) (X.pn ++ pins) (clr ks σ) H2 { s3 with heap := h₁, toks := s3.toks + ([] : List (Str × Value)).length } := by
    refine ⟨okY, rfl, I3.bare, Un.kept old, ⟨_, hns₁, fun i x v e1 e2 e3 => ?_⟩, fun x c e => ?_, ?_, fun x c e => ?_, fun p hp => ?_, I3.hok.kept old, ?_⟩
    · obtain ⟨e2, nk⟩ := aj4 ks σ e2
      have hv : (compEnvC scope cl C X.env).kindOf x = some .cell ∨ (compEnvC scope cl C X.env).kindOf x = some .free := by
        rcases e3 with z | z | z
        · exfalso
          have z' : (compEnvC scope cl C X.env).kindOf x = some .local := z
          rw [kin x] at z'
          have hm : (x, i) ∈ X.N.zipIdx := by
            rw [List.mem_zipIdx_iff_getElem?]
            exact e1
          refine nk (S.slots (x, i) hm ?_)
          show scope.names.lookup x = some .local
          cases q : scope.names.lookup x with
          | none => rw [q] at z'; cases z'
          | some k =>
            rw [q] at z'
            have z2 := Option.some.inj z'
            cases k with
            | «local» => rfl
            | free =>
              exfalso
              dsimp only at z2
              split at z2 <;> cases z2
            | _ => exact absurd z2 (by simp)
        · exact .inl z
        · exact .inr z
      have hf := isFree x hv
      have hX := S.free (x, .free) hf rfl
      obtain ⟨m, hn, hl⟩ := I3.loc
      obtain ⟨u, r, lk⟩ := hl i x v e1 e2 (by rcases hX with z | z; exact .inr (.inl z); exact .inr (.inr z))
      refine ⟨u, r, .inr ⟨hv, ?_⟩⟩
      have z := rS (cells := X.env.cells) scope.names [] x hf
      rw [hcl] at z
      obtain ⟨c, hcx⟩ := z
      rcases lk with ⟨kl, _⟩ | ⟨_, c', e', z'⟩
      · have hX' : X.env.kindOf x = some .cell ∨ X.env.kindOf x = some .free := hX
        rw [kl] at hX'
        rcases hX' with z | z <;> cases z
      · have q := csound x c hcx
        rw [e'] at q
        cases q
        obtain ⟨o, ho, hd⟩ := z'
        exact ⟨c, hcx, o, old _ _ ho, hd⟩
    · obtain ⟨v, o, ho, hd⟩ := I3.cell x c (csound x c e)
      exact ⟨v, o, old _ _ ho, hd⟩
    · exact I3.hok.fresh (Nat.le_of_eq hCC)
    · exact I3.freeC x c (csound x c e)
    · have hp' : p ∈ X.pn ++ pins := hp
      obtain ⟨e, n, ne, nf, d⟩ := I3.pin p hp'
      exact ⟨old _ _ e, n, (outP p hp').1, (outP p hp').2.1, d⟩
    · rw [nZ]
      exact I3.len
  have fpY : ∀ {pl : List (Addr × Obj)} {H' : Hp}, (∀ p ∈ pl, p.1 ∉ fp) → (∀ b ∈ fp, H' b = none) → ∀ b ∈ fp, pA (qR X scope cl C s3 H2 (D :: fp)) ((X.pn ++ pins) ++ pl) H' b := fun {pl H'} hpl hn b hb => by
    have f := f2 b hb
    refine ⟨hn b hb, Nat.ne_of_lt (exlt b (List.mem_cons_of_mem _ hb)), neFs b f, .inl (List.mem_cons_of_mem _ hb), fun x c e z => f.2.2.2.2.1 x c (csound x c e) z, fun p hp => ?_⟩
    have hp' : p ∈ (X.pn ++ pins) ++ pl := hp
    rcases List.mem_append.mp hp' with q | q
    · exact f.2.2.2.2.2 p q
    · exact fun z => hpl p q (by rw [z]; exact hb)
  have iS : ∀ s₅ : Shared, s₅ = { s3 with heap := h₁, toks := s3.toks + ([] : List (Str × Value)).length } →
      codeAny (model X.prog X.w) X.A (.compLoop (.ListComp elt [⟨tg, iter, ifs, 0⟩] scope pos) 0 (.ref it) (.ref D) (compEnvC scope cl C X.env)) (RR (.ref D) C) s₅ := by
    rintro s₅ rfl
    refine bk5 (fun n s' => ∃ i H' ys its nn, Inv (qR X scope cl C s3 H2 (D :: fp)) (X.pn ++ pins) (clr ks σ) H' s' ∧ tn i s'.heap ∧ (∀ b ∈ fp, H' b = none) ∧ H' D = none ∧ s'.heap.get? D = some { cls := .type "list", data := .seq its nn } ∧ Vals ys its.toList ∧ ys.length ≤ sizeLine ∧ W i n ys H') ?_ m0
      ⟨0, H2, [], #[], 0, I4, T.keep _ _ _ st2 (fun b hb o e => old _ _ (by rw [s3h]; exact Heap.get?_push_of_some _ e)), fun b hb => (f2 b hb).1, nD, old _ _ eD3, .nil, Nat.zero_le _, w0⟩
    rintro n s6 ⟨i, H6, ys, its, nn, I6, st6, fr6, nD6, eD6, rv6, hz6, w6⟩
    have I6' : Inv (qR X scope cl C s3 H2 (D :: fp)) ((X.pn ++ pins) ++ [(D, { cls := .type "list", data := .seq its nn })]) (clr ks σ) H6 s6 := I6.pins_of fun p hp => (List.mem_append.mp hp).elim (fun z => I6.pin p (List.mem_append_right _ z)) fun z => by
      obtain rfl := List.mem_singleton.mp z
      exact ⟨eD6, nD6, hDC, neFs D fD, fun v q => by cases q⟩
    have plD : ∀ p ∈ [((D, { cls := .type "list", data := .seq its nn }) : Addr × Obj)], p.1 ∉ fp := fun p hp => by
      obtain rfl := List.mem_singleton.mp hp
      exact hDfp
    rcases turn i n ys H6 w6 with ⟨stop, bY⟩ | ⟨go, hz, N, hN, step⟩
    · refine cI (T.done (qR X scope cl C s3 H2 (D :: fp)) rfl rfl rfl hc i _ s6 (clr ks σ) H6 _ I6' (fpY plD fr6) st6 stop) fun r s7 ⟨hr, I7⟩ => ?_
      subst hr
      have IX : Inv X pins σ H6 s7 := I3.call' (ch := D :: fp) I7.os I7.base I7.hok I7.bare fun b hb => ⟨(exs b hb).2.2.2.1, (exs b hb).2.1, (exs b hb).2.2.2.2.1, (exs b hb).2.2.2.2.2⟩
      have eD7 := (I7.pin (D, { cls := .type "list", data := .seq its nn }) (List.mem_append_right _ (List.mem_append_right _ (List.mem_singleton.mpr rfl)))).1
      have rv7 : Vals ys its.toList := rv6
      have IT : Inv X pins σ (upd H6 D (.lst ys)) s7 := IX.track (its := its.toList) (n := nn) nD6 (by
        have := I2.sz
        omega) fD.2.1 fD.2.2.2.2.1 fD.2.2.2.2.2 (by simpa using eD7) rv7 hz6
      obtain ⟨m7, hn7, _⟩ := I7.loc
      refine hRR D C s7 _ IT ⟨m7, hn7⟩ ⟨?_, fC.2⟩ (bY D nD6)
      rw [cQ (Ne.symm hDC)]
      exact I7.free
    · refine cI (T.item (qR X scope cl C s3 H2 (D :: fp)) rfl rfl rfl hc i _ s6 (clr ks σ) H6 _ I6' (fpY plD fr6) st6 go) fun r s7 ⟨u, hr, h7⟩ => ?_
      subst hr
      refine cI h7 fun _ s8 ⟨x, H8, I8, r8, y8, st8, fr8⟩ => ?_
      have I8' := I8.pinned (fpY plD fr8) (T.obj _ _ st8)
      refine cI (hg cl C s3 H2 (D :: fp) _ s8 (clr ks σ) H8 x u _ I8' r8 (step x H8 y8)) fun _ s9 ⟨σ9, H9, I9, hE, q9⟩ => ?_
      refine cI (hi cl C s3 H2 (D :: fp) _ s9 σ9 H9 _ I9 q9) fun ok s10 ⟨H10, I10, q10⟩ => ?_
      have memD : (D, ({ cls := .type "list", data := .seq its nn } : Obj)) ∈ ([] : List (Addr × Obj)) ++ (((X.pn ++ pins) ++ [(D, { cls := .type "list", data := .seq its nn })]) ++ uZ fp s8.heap) := List.mem_append_right _ (List.mem_append_left _ (List.mem_append_right _ (List.mem_singleton.mpr rfl)))
      have keepT : ∀ {σ' : St} {H' : Hp} {s' : Shared}, Inv (qR X scope cl C s3 H2 (D :: fp)) (((X.pn ++ pins) ++ [(D, { cls := .type "list", data := .seq its nn })]) ++ uZ fp s8.heap) σ' H' s' → tn (i + 1) s'.heap ∧ (∀ b ∈ fp, H' b = none) := fun {σ' H' s'} I' =>
        ⟨T.keep _ _ _ st8 fun b hb o e => (I'.pin (b, o) (List.mem_append_right _ (List.mem_append_right _ (rQ hb e)))).1, fun b hb => by
          obtain ⟨o, e, d⟩ := T.obj _ _ st8 b hb
          exact (I'.pin (b, o) (List.mem_append_right _ (List.mem_append_right _ (rQ hb e)))).2.1⟩
      cases ok with
      | false =>
        obtain ⟨m', hm, w10⟩ := hN ys H10 q10
        obtain ⟨k1, k2⟩ := keepT I10
        obtain ⟨p1, p2, _⟩ := I10.pin _ memD
        exact ⟨m', hm, i + 1, H10, ys, its, nn, I10.unpinned.unpinned.weak (by rw [nZ]; exact hE.1.symm) hE.2, k1, k2, p2, p1, rv6, hz6, w10⟩
      | true =>
        refine cI (he cl C s3 H2 (D :: fp) _ s10 σ9 H10 _ I10 q10) fun vv s11 ⟨v, H11, I11, r11, n11⟩ => ?_
        obtain ⟨m', hm, w11⟩ := hN _ _ n11
        obtain ⟨k1, k2⟩ := keepT I11
        obtain ⟨p1, p2, _⟩ := I11.pin _ memD
        have hlen : ys.length = its.size := by have := rv6.length; simpa using this
        refine call_meets PySem.F.slot_list_append ⟨_, p1, rfl⟩ PySem.F.entry_list_append (PySem.F.args_list_append_2 _ _) (PySem.list_append D its nn vv (by omega)) ⟨p1, ?_⟩
        have q := PySem.IsL.update p1 fun xs => xs.push vv
        refine ⟨m', hm, i + 1, H11, ys ++ [v], its.push vv, _, (I11.unpinned.unpinned.weak (by rw [nZ]; exact hE.1.symm) hE.2).turned (fun b o hb e => (Heap.get?_update_other _ _ (Ne.symm hb)).trans e) p2 hDC (.inl List.mem_cons_self) (fun x c e z => fD.2.2.2.2.1 x c (csound x c e) z) (fun p hp => (outP p hp).2.2), ?_, k2, p2, q, ?_, ?_, w11⟩
        · refine T.keep _ _ _ k1 fun b hb o e => (Heap.get?_update_other _ _ ?_).trans e
          intro z
          exact hDfp (by rw [z]; exact hb)
        · have : (its.push vv).toList = its.toList ++ [vv] := by simp
          rw [this]
          exact rv6.append (.cons r11 .nil)
        · rw [List.length_append, List.length_singleton]
          omega
  have hCC' : (s2.heap.push { cls := .type "list", dict := none, data := .seq ([] : List Value).toArray }).objs.size = C := by rw [← s3h]; exact hCC
  rw [hCC']
  exact codeAny_compStart_list (iS _ (by rw [← hs3])) (T.self _ 0 _ _ _ (T.keep _ _ _ st2 (fun b hb o e => old _ _ (by rw [s3h]; exact Heap.get?_push_of_some _ e))) (iS _ (by rw [← hs3])))
theorem fE {tg iter elt : Expr} {ifs : List Expr} {scope : Scope} {pos : Pos} {ks : List Nat} {wi : TI} {g : TG} {tc : TT} {te : TE} (S : CScope X ks scope) (hc : X.calm = true) (hit : PI X tg iter wi)
 (hg : ∀ cl C s₀ H₀ ex, PG (qR X scope cl C s₀ H₀ ex) tg g) (hi : ∀ cl C s₀ H₀ ex, PIf (qR X scope cl C s₀ H₀ ex) ifs tc) (he : ∀ cl C s₀ H₀ ex, PE (qR X scope cl C s₀ H₀ ex) elt te)
 (hs : ∀ x, foldedSetIterable iter X.env x = pure x := by intro _; rfl) : PE X (.ListComp elt [⟨tg, iter, ifs, 0⟩] scope pos) (cx1 ks wi g tc te) := by
 intro pins s σ H Q I h
 rw [eval_ListComp]
 refine wpAny_comprehension_free (use := none) rfl hs (vW fun x hx hk => I.ok.has x.1 (S.free x hx hk)) S.kind S.names (cI (hit pins s σ H _ I h) fun v s1 h1 => cI h1 fun itv s2 h2 => ?_)
 refine bi1 (RR := fun acc C => compPost (model X.prog X.w) X.A X.xe none (EP X pins σ Q) acc C) S hc hg hi he h2 ?_
 rintro D C s' H' I' ⟨m, hn⟩ f q
 exact ⟨m, hn, fun h'' sb => ⟨.ref D, H', I'.turned (t' := s'.toks) (fun b o hb e => (sb.2 b hb).trans e) f.1 f.2.1 f.2.2.2.1 f.2.2.2.2.1 f.2.2.2.2.2, rfl, q⟩⟩
theorem oM {i : Nat} {y : Str} {py spos : Pos} {tg iter elt : Expr} {ifs : List Expr} {scope : Scope} {pos : Pos} {ks : List Nat} {wi : TI} {g : TG} {tc : TT} {te : TE} (hN : X.N.Nodup) (hi' : X.N[i]? = some y) (hy : Loc X.env.scope y)
 (S : CScope X ks scope) (hc : X.calm = true) (hit : PI X tg iter wi)
 (hg : ∀ cl C s₀ H₀ ex, PG (qR X scope cl C s₀ H₀ ex) tg g) (hi : ∀ cl C s₀ H₀ ex, PIf (qR X scope cl C s₀ H₀ ex) ifs tc) (he : ∀ cl C s₀ H₀ ex, PE (qR X scope cl C s₀ H₀ ex) elt te)
 (hsw : swapsWith (.ListComp elt [⟨tg, iter, ifs, 0⟩] scope pos) (some (.Name y py)) spos.line X.env = pure true := by rfl)
 (hs : ∀ x, foldedSetIterable iter X.env x = pure x := by intro _; rfl) (hf : X.fn y = true ∨ X.env.scope.names.lookup y = some .local := by first | exact .inl rfl | exact .inr rfl | assumption) :
 PS X (.Assign [.Name y py] (.ListComp elt [⟨tg, iter, ifs, 0⟩] scope pos) spos) (at7 i ks wi g tc te) := by
 intro pins s σ H D I h
 rw [exec_Assign_Name_used _ _ _ _ hsw]
 refine wpAny_bind (wpAny_standAt (wpAny_bind ?_))
 show wpAny _ X.A (do let _ ← comprehension (.ListComp elt [⟨tg, iter, ifs, 0⟩] scope pos) scope X.env _ (newList []) false (eval iter X.env) (some (assign (.Name y py) X.env))) _ _ s
 refine wpAny_bind (wpAny_mono (wpAny_comprehension_free (use := some (assign (.Name y py) X.env)) (Q := fun _ s' => SP X pins D .next s') rfl hs (vW fun x hx hk => I.ok.has x.1 (S.free x hx hk)) S.kind S.names
  (cI (hit pins s σ H _ I h) fun v s1 h1 => cI h1 fun itv s2 h2 => ?_)) (fun _ s' hq => wpAny_pure (wpAny_pure hq)) fun _ _ e => e)
 refine bi1 (RR := fun acc C => compPost (model X.prog X.w) X.A X.xe (some (assign (.Name y py) X.env)) (fun _ s' => SP X pins D .next s') acc C) S hc hg hi he h2 ?_
 rintro L C s' H' I' ⟨m, hn⟩ f q
 show wpAny _ _ (assign (.Name y py) X.env (.ref L)) _ _ s'
 refine wpAny_assign_Name (as5 (v := .ref L) I' hN hi' hy rfl (fun s'' I'' hh => ?_) hf)
 obtain ⟨a, sb, ha⟩ := hh
 have hCa : C ≠ a := by
  rcases ha with e | e
  · rw [e]; exact f.2.1
  · exact fun z => f.2.2.2.2.1 y a e z.symm
 exact ⟨m, hn.sameBut sb hCa, fun h'' sb' => ⟨_, H', I''.turned (t' := s''.toks) (fun b o hb e => (sb'.2 b hb).trans e) f.1 f.2.1 f.2.2.2.1 f.2.2.2.2.1 f.2.2.2.2.2, q⟩⟩
end
end L2
namespace L2
open PySem PySem.Spec PyProof.Rows
section
variable {X : Cx}
theorem bj5 (hc : X.calm = true) : CallR X (.builtin "max") (fun xs H Q => ∃ (p : Addr) (ns : List Int), xs = [.ref p] ∧ SqL X.K H p (ns.map V.int) ∧ ns ≠ [] ∧ ∀ M, M ∈ ns → (∀ a ∈ ns, a ≤ M) → Q (.int M) H) := by
 intro pins s σ H xs us Q I r h
 obtain ⟨p, ns, rfl, hp, hne, q⟩ := h
 obtain ⟨u, rfl, ru⟩ := r.one
 obtain rfl : u = Value.ref p := ru
 obtain ⟨its, rv, pl, _⟩ := I.list hp
 have hi : IntsAre its ns := al1 rv
 have hl := pl.isList
 obtain ⟨xs, e⟩ := hi.allInts.items
 have hns : ns = xs.toList.map (·.1) := by
  rw [← hi.numsOf, ← nums_intItems, ← e]
 have hsz : 0 < xs.size := by
  have h3 := List.length_pos_iff.mpr hne
  rw [hns, List.length_map, Array.length_toList] at h3
  exact h3
 rw [e] at hl
 refine max_intList (I.ok.hd hc) hl hsz fun v h' tk hv hk => ?_
 obtain ⟨t, rfl⟩ := intItems_at hv
 obtain ⟨h1, h2⟩ := argBest_gt (numAt xs) (xs.size - 1)
 refine ⟨.int _, H, I.kept hk, ⟨t, rfl⟩, q _ ?_ fun a ha => ?_⟩
 · rw [hns, numAt_eq]; exact getD_mem (by rw [List.length_map, Array.length_toList]; omega)
 · rw [hns] at ha
   obtain ⟨j, hj, rfl⟩ := mem_getD ha
   rw [List.length_map, Array.length_toList] at hj
   rw [← numAt_eq]; exact h2 j (by omega)
theorem bg7 (hc : X.calm = true) : CallR X (.builtin "min") (fun xs H Q => ∃ (p : Addr) (ns : List Int), xs = [.ref p] ∧ SqL X.K H p (ns.map V.int) ∧ ns ≠ [] ∧ ∀ M, M ∈ ns → (∀ a ∈ ns, M ≤ a) → Q (.int M) H) := by
 intro pins s σ H xs us Q I r h
 obtain ⟨p, ns, rfl, hp, hne, q⟩ := h
 obtain ⟨u, rfl, ru⟩ := r.one
 obtain rfl : u = Value.ref p := ru
 obtain ⟨its, rv, pl, _⟩ := I.list hp
 have hi : IntsAre its ns := al1 rv
 have hl := pl.isList
 obtain ⟨xs, e⟩ := hi.allInts.items
 have hns : ns = xs.toList.map (·.1) := by
  rw [← hi.numsOf, ← nums_intItems, ← e]
 have hsz : 0 < xs.size := by
  have h3 := List.length_pos_iff.mpr hne
  rw [hns, List.length_map, Array.length_toList] at h3
  exact h3
 rw [e] at hl
 refine min_intList (I.ok.hd hc) hl hsz fun v h' tk hv hk => ?_
 obtain ⟨t, rfl⟩ := intItems_at hv
 obtain ⟨h1, h2⟩ := argBest_lt (numAt xs) (xs.size - 1)
 refine ⟨.int _, H, I.kept hk, ⟨t, rfl⟩, q _ ?_ fun a ha => ?_⟩
 · rw [hns, numAt_eq]; exact getD_mem (by rw [List.length_map, Array.length_toList]; omega)
 · rw [hns] at ha
   obtain ⟨j, hj, rfl⟩ := mem_getD ha
   rw [List.length_map, Array.length_toList] at hj
   rw [← numAt_eq]; exact h2 j (by omega)
def bt9 (K : PySem.W.Frag) (te : TE) (ts : TO) : TE := fun σ H Q => te σ H fun x H1 => ts σ H1 fun k H2 => k = some (-1) ∧ ∃ a xs, x = .ref a ∧ SqL K H2 a xs ∧ ∀ p, H2 p = none → Q (.ref p) (upd H2 p (.lst xs.reverse))
theorem cv5 {e st : Expr} {te : TE} {ts : TO} {pos p2 : Pos} (he : PE X e te) (hst : PO X (some st) ts) (hops : ∀ o i, subscripted (.Slice none none (some st) p2) false o i = operate [o, i] (getItem o i) := by intros; rfl) : PE X (.Subscript e (.Slice none none (some st) p2) pos) (bt9 X.K te ts) := by
 intro pins s σ H Q I h
 refine Subscript_ (cI (he pins s σ H _ I h) fun v s1 ⟨x, H1, I1, r1, q1⟩ => ?_)
 refine wpAny_Slice ?_
 rw [evalPart_none]
 refine wpAny_pure (wpAny_pure (cI (hst pins s1 σ H1 _ I1 q1) fun vs s2 ⟨k, H2, I2, pk, hk, a, xs, ex, hx, q⟩ => ?_))
 subst ex
 subst hk
 cases r1
 have I3 : Inv X pins σ H2 { s2 with heap := s2.heap.push { cls := .type "slice", data := .fields #[.none, .none, vs] } } := I2.kept (t' := s2.toks) fun b ob q => Heap.get?_push_of_some _ q
 obtain ⟨its, rv, pl, hz⟩ := I3.list hx
 have hlen := rv.length
 show wpAny (model X.prog X.w) X.A (subscriptTail e (.Slice none none (some st) p2) (.ref a) (.ref s2.heap.objs.size)) (EP X pins σ Q) X.xe { s2 with heap := s2.heap.push { cls := .type "slice", data := .fields #[.none, .none, vs] } }
 refine tail_any (ops := [.ref a, .ref s2.heap.objs.size]) pl.isList.typeIs slot_list_getitem.lookup (wpAny_getItem_list_slice pl.isList (Heap.IsSliceOf.new ..) .none .none pk (by decide) ?_ (by rw [List.size_toArray]; omega)) (hops _ _)
 rw [PySem.W.krv_pick]
 have e2 : its.toArray.toList.reverse.toArray = its.reverse.toArray := by simp
 rw [e2]
 refine ⟨.ref _, _, I3.laid (t' := s2.toks) (o := .lst xs.reverse) (fun b ob q => Heap.get?_push_of_some _ q) (Nat.le_refl _) ?_, rfl, q _ (I3.hok.fresh (Nat.le_refl _))⟩
 exact ⟨by rw [List.length_reverse]; exact hz, _, 0, rv.reverse, Heap.get?_push_size _ rfl⟩
end
section
variable {X : Cx}
end
end L2
namespace L2
open PySem PySem.Spec PyProof.Rows
def Its (z : Str) : It := ⟨fun i _ => i < z.cps.size, fun i H x H' => H' = H ∧ ∃ c, z.cps[i]? = some c ∧ x = .str ⟨#[c]⟩, fun i _ => z.cps.size ≤ i⟩
theorem bc5 {M : Model} {A : Around} {E : Value → Shared → Prop} {s : Shared} {tg : Expr} {it : Addr} {x : Str} {t : Tok} {Q : Unit → Shared → Prop} (hQ : Q () s) : wpAny M A (letOwnedTupleGo tg (.ref it) (.str x t)) Q E s := by
 unfold letOwnedTupleGo
 cases tg <;> exact wpAny_pure hQ
theorem ba3 {P : Program} {w : World} {K : PySem.W.Frag} {tg : Expr} (it : Addr) (z : Str) (t : Tok) : xK P w K tg (Its z) [it] it (fun i h => h.IsStrIter it "str_ascii_iterator" z t i) where
 mem := by simp
 obj := fun i h st b hb => by
  have e : b = it := by simpa using hb
  subst e
  obtain ⟨o, e, c, d⟩ := st
  exact ⟨o, e, fun v q => by rw [d] at q; cases q⟩
 keep := fun i h h' st k => let ⟨o, e, r⟩ := st; ⟨o, k it (by simp) o e, r⟩
 item := by
  intro X hP hw hK hc i pins s σ H E I hf st hg
  subst hP hw hK
  obtain ⟨f0, f1, f2, f3, f4, f5⟩ := hf it (by simp)
  have hg' : i < z.cps.size := hg
  refine wpAny_pyNext_ascii_item st (c := z.cps[i]) (by simp [hg']) fun h' hit' hs' => ?_
  have I1 : Inv X pins σ H { s with heap := h', toks := s.toks + 1 } := I.turned (fun b o hb e => hs'.extBut b o hb e) f0 f1 f3 f4 f5
  exact ⟨_, rfl, bc5 ⟨.str ⟨#[z.cps[i]]⟩, H, I1, ⟨_, rfl⟩, ⟨rfl, _, by simp [hg'], rfl⟩, hit', fun b hb => (hf b hb).1⟩⟩
 done := by
  intro X hP hw hK hc i pins s σ H E I hf st hg
  subst hP hw hK
  obtain ⟨f0, f1, f2, f3, f4, f5⟩ := hf it (by simp)
  have hg' : z.cps.size ≤ i := hg
  exact wpAny_pyNext_ascii_end (I.ok.hd hc) st (by simp [hg']) fun h' he' => ⟨rfl, I.turned (t' := s.toks) (fun b o hb e => he' b o hb e) f0 f1 f3 f4 f5⟩
 self := fun _ _ _ _ _ st h => wpAny_pyIter_striter_ascii st h
theorem bv4 {P : Program} {w : World} {K : PySem.W.Frag} {tg : Expr} (it : Addr) (z : Str) (t : Tok) : xK P w K tg (Its z) [it] it (fun i h => h.IsStrIter it "str_iterator" z t i) where
 mem := by simp
 obj := fun i h st b hb => by
  have e : b = it := by simpa using hb
  subst e
  obtain ⟨o, e, c, d⟩ := st
  exact ⟨o, e, fun v q => by rw [d] at q; cases q⟩
 keep := fun i h h' st k => let ⟨o, e, r⟩ := st; ⟨o, k it (by simp) o e, r⟩
 item := by
  intro X hP hw hK hc i pins s σ H E I hf st hg
  subst hP hw hK
  obtain ⟨f0, f1, f2, f3, f4, f5⟩ := hf it (by simp)
  have hg' : i < z.cps.size := hg
  refine wpAny_pyNext_wide_item st (c := z.cps[i]) (by simp [hg']) fun h' hit' hs' => ?_
  have I1 : Inv X pins σ H { s with heap := h', toks := s.toks + 1 } := I.turned (fun b o hb e => hs'.extBut b o hb e) f0 f1 f3 f4 f5
  exact ⟨_, rfl, bc5 ⟨.str ⟨#[z.cps[i]]⟩, H, I1, ⟨_, rfl⟩, ⟨rfl, _, by simp [hg'], rfl⟩, hit', fun b hb => (hf b hb).1⟩⟩
 done := by
  intro X hP hw hK hc i pins s σ H E I hf st hg
  subst hP hw hK
  obtain ⟨f0, f1, f2, f3, f4, f5⟩ := hf it (by simp)
  have hg' : z.cps.size ≤ i := hg
  exact wpAny_pyNext_wide_end (I.ok.hd hc) st (by simp [hg']) fun h' he' => ⟨rfl, I.turned (t' := s.toks) (fun b o hb e => he' b o hb e) f0 f1 f3 f4 f5⟩
 self := fun _ _ _ _ _ st h => wpAny_pyIter_striter_wide st h
section
variable {X : Cx}
def ck9 : V → Option Int → Option Int → Hp → VK → Prop := fun x lo hi H Q => ∃ z, x = .str z ∧ z.length ≤ sizeLine ∧ Q (.str (Txt.slice z lo hi)) H
theorem cc8 : SlR X ck9 := by
 intro pins s σ H x v vl vu lo hi sl Q I rx hs pl pu h
 obtain ⟨z, rfl, hz, q⟩ := h
 obtain ⟨t, rfl⟩ := rx
 refine ⟨"str", _, F.slot_str_getitem.lookup, typeIs_str s z t, ?_⟩
 obtain ⟨o, e, c, d⟩ := hs
 have go : ∀ (l u : Option (Int × Tok)), vl = partValue l → vu = partValue u → lo = l.map (·.1) → hi = u.map (·.1) → wpAny (model X.prog X.w) X.A (getItem (.str z t) (.ref sl)) (EP X pins σ Q) X.xe s := by
  rintro l u rfl rfl rfl rfl
  refine wpAny_getItem_str_slice (l := l) (u := u) (st := none) ⟨o, e, c, d⟩ rfl ?_
  unfold sliceMade
  unfold Txt.slice at q
  have e1 : ((((none : Option (Int × Tok)).map (·.1)).getD 1 == 1 && (slicePicked z l u none).length == z.length) = true) = (((1 : Int) == 1 && (Builtin.Str.strSliceIndices (l.map (·.1)) (u.map (·.1)) 1 z.length).length == z.length) = true) := rfl
  split
  · rename_i hh
    rw [if_pos (e1 ▸ hh)] at q
    exact ⟨.str z, H, I, ⟨t, rfl⟩, q⟩
  · rename_i hh
    rw [if_neg (e1 ▸ hh)] at q
    refine ⟨Nat.le_trans (Nat.le_trans (List.length_filterMap_le _ _) (sliceIndices_le _ _ _)) hz, .str _, H, I.tok _, ⟨_, rfl⟩, q⟩
 cases pl with
 | none =>
  cases pu with
  | none => exact go none none rfl rfl rfl rfl
  | int j u => exact go none (some (j, u)) rfl rfl rfl rfl
 | int i t' =>
  cases pu with
  | none => exact go (some (i, t')) none rfl rfl rfl rfl
  | int j u => exact go (some (i, t')) (some (j, u)) rfl rfl rfl rfl
theorem af6 : ∀ {ys : List Str} {us : List Value}, Vals (ys.map V.str) us → StrsAre us ys
 | [], _, .nil => .nil
 | y :: ys, _, .cons r t => by
  obtain ⟨k, rfl⟩ := r
  exact .cons _ _ (af6 t)
def bn2 (K : PySem.W.Frag) : V → List V → Hp → VK → Prop := fun x vs H Q => ∃ (z : Str) (p : Addr) (ys : List Str), x = .str z ∧ vs = [.ref p] ∧ SqL K H p (ys.map V.str) ∧ (ys.map (·.length)).sum + ys.length * z.length ≤ 16777216 ∧ Q (.str (Txt.join z ys)) H
theorem ck4 : MtR X "str.join" (bn2 X.K) := by
 intro pins s σ H x xs v us Q I rx rv h
 obtain ⟨z, p, ys, rfl, rfl, hp, hz, q⟩ := h
 obtain ⟨t, rfl⟩ := rx
 obtain ⟨u, rfl, ru⟩ := rv.one
 obtain rfl : u = Value.ref p := ru
 obtain ⟨its, r, pl, _⟩ := I.list hp
 exact join_list pl.isList (by simpa using af6 r) hz fun t' k => ⟨.str _, H, I.tok _, ⟨_, rfl⟩, q⟩
end
end L2
namespace L2
open PySem PySem.Spec PyProof.Rows
section
variable {X : Cx}
def dh3 : R2 := fun x y H Q => ∃ i j, x = .str i ∧ y = .str j ∧ i.length + j.length ≤ sizeLine ∧ Q (.str (i ++ j)) H
def cr8 (K : PySem.W.Frag) : List V → Hp → VK → Prop := fun xs H Q => ∃ x n, xs = [x] ∧ cq9 K x H n ∧ Q (.int n) H
def cm9 : List V → Hp → VK → Prop := fun xs H Q => ∃ i, xs = [.int i] ∧ Q (.int (if i < 0 then -i else i)) H
def bm1 : List V → Hp → VK → Prop := fun xs H Q => ∃ i j, xs = [.int i, .int j] ∧ tW i j ∧ ∀ p, H p = none → Q (.ref p) (upd H p (.tup [.int (i / j), .int (i % j)]))
def df5 (K : PySem.W.Frag) : List V → Hp → VK → Prop := fun xs H Q => ∃ x T tx b, xs = [x, .ty T] ∧ TyN K H x tx ∧ fN tx T b ∧ Q (.bl b) H
def cm8 (K : PySem.W.Frag) : List V → Hp → VK → Prop := fun xs H Q => ∃ (p : Addr) (bs : List Bool), xs = [.ref p] ∧ SqL K H p (bs.map V.bl) ∧ Q (.bl (bs.all id)) H
def cs6 (K : PySem.W.Frag) : List V → Hp → VK → Prop := fun xs H Q => ∃ (p : Addr) (bs : List Bool), xs = [.ref p] ∧ SqL K H p (bs.map V.bl) ∧ Q (.bl (bs.any id)) H
def dl2 : List V → Hp → VK → Prop := fun xs H Q => ∃ i j, xs = [.int i, .int j] ∧ Q (.int (if j > i then j else i)) H
def dr0 : List V → Hp → VK → Prop := fun xs H Q => ∃ i j, xs = [.int i, .int j] ∧ Q (.int (if j < i then j else i)) H
def dr2 (K : PySem.W.Frag) : List V → Hp → VK → Prop := fun xs H Q => ∃ (p : Addr) (ns : List Int), xs = [.ref p] ∧ SqL K H p (ns.map V.int) ∧ ns ≠ [] ∧ ∀ M, M ∈ ns → (∀ a ∈ ns, a ≤ M) → Q (.int M) H
def dk2 (K : PySem.W.Frag) : List V → Hp → VK → Prop := fun xs H Q => ∃ (p : Addr) (ns : List Int), xs = [.ref p] ∧ SqL K H p (ns.map V.int) ∧ ns ≠ [] ∧ ∀ M, M ∈ ns → (∀ a ∈ ns, M ≤ a) → Q (.int M) H
def be8 (K : PySem.W.Frag) : List V → Hp → VK → Prop := fun xs H Q => dl2 xs H Q ∨ dr2 K xs H Q
def cs0 (K : PySem.W.Frag) : List V → Hp → VK → Prop := fun xs H Q => dr0 xs H Q ∨ dk2 K xs H Q
theorem bc7 (hc : X.calm = true := by rfl) : CallR X (.builtin "max") (be8 X.K) := (be6 hc).or (bj5 hc)
theorem bw5 (hc : X.calm = true := by rfl) : CallR X (.builtin "min") (cs0 X.K) := (bn6 hc).or (bg7 hc)
theorem wA {x : Str} {ty : String} {pos : Pos} (hm : X.mg x = none) (hv : bootBuiltins x = some (.type ty)) (hg : Gl X x := by rfl) (hn : x ≠ "__name__" := by decide) (hd : (x == ("__debug__" : Str)) = false := by decide) : PE X (.Name x pos) (tC (.ty ty)) :=
 cn4 (v := .ty ty) hg hm hv rfl hn hd
def uX (mg : Str → Option Value) (x : Str) (v : V) : Prop := ∃ u, mg x = some u ∧ RelV v u
theorem iE {x : Str} {v : V} {pos : Pos} (h : uX X.mg x v) (hg : Gl X x := by rfl) (hd : (x == ("__debug__" : Str)) = false := by decide) : PE X (.Name x pos) (tC v) := by
 obtain ⟨u, hm, r⟩ := h
 exact cq5 hg hm r hd
end
theorem dM : bootBuiltins "len" = some (.builtin "len") := PySem.boot_len
theorem ah8 : bootBuiltins "abs" = some (.builtin "abs") := by decide +kernel
theorem bl5 : bootBuiltins "divmod" = some (.builtin "divmod") := by decide +kernel
theorem gS : bootBuiltins "isinstance" = some (.builtin "isinstance") := by decide +kernel
theorem sS : bootBuiltins "all" = some (.builtin "all") := by decide +kernel
theorem cb6 : bootBuiltins "any" = some (.builtin "any") := by decide +kernel
theorem yP : bootBuiltins "max" = some (.builtin "max") := by decide +kernel
theorem sU : bootBuiltins "min" = some (.builtin "min") := by decide +kernel
theorem bc6 : bootBuiltins "int" = some (.type "int") := by decide +kernel
theorem af4 : bootBuiltins "bool" = some (.type "bool") := by decide +kernel
theorem ck6 : bootBuiltins "str" = some (.type "str") := by decide +kernel
theorem iL : bootBuiltins "list" = some (.type "list") := by decide +kernel
theorem bo9 : bootBuiltins "tuple" = some (.type "tuple") := by decide +kernel
section
variable {t u : TS} {D : uL} {σ : St} {H : Hp} {te ta tb tc : TE} {g : TG} {i : Nat} {v : V} {Q : VK} {c : TT} {K : PySem.W.Frag} {r r' : R2}
end
end L2
namespace L2
open PySem PySem.Spec PyProof.Rows
structure cJ (K : PySem.W.Frag) (mg : Str → Option Value) (x : Str) (st : Stmt) : Prop where
 ex : ∃ f fd, Fun K x x st f fd ∧ mg x = some (.ref f)
theorem cL {K : PySem.W.Frag} {h : Heap} {mg : Str → Option Value} (X : K.In h) (G : h.Ns mainGlobals mg) {x : Str} {st : Stmt} {f : Addr} {oc : Value} {od an : Option Addr} {osl : Array (Option Value)} {kV doc pm cdv ct : Value}
 (a : PySem.W.nsIn K mainGlobals x = some (some (.ref f))) (l : K.lookup f = some ⟨oc, od, .func (PySem.W.fnOf x x (iK st) (dN st) (aN st) .none kV doc pm an cdv ct), osl⟩)
 (c : PySem.W.codeIn K cdv x = true) (k : PySem.W.keepIn K (.ref f) = true) : cJ K mg x st := ⟨f, _, au1 l c k, PySem.W.mg_of X G a⟩
theorem lD {K : PySem.W.Frag} {h : Heap} {mg : Str → Option Value} (X : K.In h) (G : h.Ns mainGlobals mg) {x : Str} {v : V} {u : Value} (a : PySem.W.nsIn K mainGlobals x = some (some u)) (r : RelV v u) : uX mg x v := ⟨u, PySem.W.mg_of X G a, r⟩
section
variable {P : Program} {w : World} {K : PySem.W.Frag} {mg : Str → Option Value} {base : Heap}
end
theorem bb4 {a b : Int} (h : Builtin.Int.intBits a + Builtin.Int.intBits b ≤ 134217728) : IntMulOk a b := by
 have e : (2 : Nat) ^ 27 = 134217728 := by decide
 have h : Builtin.Int.intTooBig (Builtin.Int.intBits a + Builtin.Int.intBits b) = false := by
  unfold Builtin.Int.intTooBig bitsLine
  exact decide_eq_false (by omega)
 unfold IntMulOk
 rw [h]
 simp
theorem cz4 {a b : Int} (h1 : -(2 ^ 64) < b) (h2 : b < 2 ^ 64) : IntMulOk a b := IntMulOk.of_right (intBits_le_64 h1 h2)
theorem cj5 {a b : Int} (h1 : -(2 ^ 64) < a) (h2 : a < 2 ^ 64) : IntMulOk a b := IntMulOk.of_left (intBits_le_64 h1 h2)
end L2
namespace L2
open PySem PySem.Spec PyProof.Rows
def SI (k : Bool) (h : Heap) (it l : Addr) (i : Nat) : Prop := ∃ o, h.get? it = some o ∧ o.cls = .type (cond k "tuple_iterator" "list_iterator") ∧ o.data = .fields #[.ref l, .int i 0]
def SQ (k : Bool) (h : Heap) (l : Addr) (us : Array Value) : Prop := ∃ o, h.get? l = some o ∧ o.cls = .type (cond k "tuple" "list") ∧ ∃ n, o.data = .seq us n
theorem SI.at {k : Bool} {h h' : Heap} {it l : Addr} {i : Nat} (x : SI k h it l i) (e : ∀ o, h.get? it = some o → h'.get? it = some o) : SI k h' it l i := by
 obtain ⟨o, ho, r⟩ := x
 exact ⟨o, e o ho, r⟩
theorem SQ.at {k : Bool} {h h' : Heap} {l : Addr} {us : Array Value} (x : SQ k h l us) (e : ∀ o, h.get? l = some o → h'.get? l = some o) : SQ k h' l us := by
 obtain ⟨o, ho, r⟩ := x
 exact ⟨o, e o ho, r⟩
section
variable {prog : Program} {w : World} {A : Around} {E : Value → Shared → Prop} {s : Shared}
theorem xX {k : Bool} {it l : Addr} {i : Nat} {us : Array Value} {x : Value} {Q : Value → Shared → Prop} (hit : SI k s.heap it l i) (hl : SQ k s.heap l us) (hx : us[i]? = some x)
 (hQ : ∀ h', SI k h' it l (i + 1) → Heap.SameBut it s.heap h' → Q x { s with heap := h' }) : wpAny (model prog w) A (Builtin.SmallTypes.nextOf (.ref it)) Q E s := by
 cases k with
 | false => exact wpAny_nextOf_list_item hit hl hx hQ
 | true =>
  obtain ⟨o, ho, hc, hd⟩ := hit
  obtain ⟨ol, hol, _, nl, hdl⟩ := hl
  have hT : s.TypeIs (.ref it) "tuple_iterator" := ⟨o, ho, hc⟩
  unfold Builtin.SmallTypes.nextOf
  refine wpAny_bind (wpAny_callSpecial?_slot (name := Str.ofString "__next__") hT F.slot_tuple_iterator_next (wpAny_call_entry F.slot_tuple_iterator_next hT F.entry_tuple_iterator_next ?_ (F.args_tuple_iterator_next_1 _)))
  (show wpAny _ _ (field (.ref it) 0 >>= _) _ _ s); refine wpAny_bind (wpAny_field ho hd (x := .ref l) rfl ?_)
  (show wpAny _ _ (if (Value.ref l == Value.none) = true then _ else _) _ _ s); rw [if_neg (show ¬ ((Value.ref l == Value.none) = true) from Bool.false_ne_true)]
  (show wpAny _ _ (field (.ref it) 1 >>= _) _ _ s); refine wpAny_bind (wpAny_field ho hd (x := .int i 0) rfl ?_)
  (show wpAny _ _ (seqItems? (.ref l) >>= _) _ _ s); refine wpAny_bind (wpAny_seqItems hol hdl ?_)
  simp only [Int.toNat_natCast, hx]; refine wpAny_bind (wpAny_setField ho hd (by simp) (wpAny_pure ⟨x, rfl, wpAny_pure (hQ _ ?_ (Heap.SameBut.update ..))⟩))
  refine ⟨_, Heap.get?_update_self _ ho (Obj.isFreed_of_fields (Obj.data_mapFields hd _)), (Obj.cls_mapFields ..).trans hc, ?_⟩
  rw [Obj.data_mapFields hd]; simp [rawInt]
theorem aw7 {k : Bool} {it l : Addr} {i : Nat} {us : Array Value} {Q : Value → Shared → Prop} (hh : A.handled = none) (hit : SI k s.heap it l i) (hl : SQ k s.heap l us) (hx : us[i]? = none)
 (hE : ∀ h' e, Heap.ExtBut it s.heap h' → (∃ o, h'.get? e = some o ∧ o.cls = .type "StopIteration") → E (.ref e) { s with heap := h' }) : wpAny (model prog w) A (Builtin.SmallTypes.nextOf (.ref it)) Q E s := by
 cases k with
 | false => exact wpAny_nextOf_list_end hh hit hl hx hE
 | true =>
  obtain ⟨o, ho, hc, hd⟩ := hit
  obtain ⟨ol, hol, _, nl, hdl⟩ := hl
  have hT : s.TypeIs (.ref it) "tuple_iterator" := ⟨o, ho, hc⟩
  unfold Builtin.SmallTypes.nextOf
  refine wpAny_bind (wpAny_callSpecial?_slot (name := Str.ofString "__next__") hT F.slot_tuple_iterator_next (wpAny_call_entry F.slot_tuple_iterator_next hT F.entry_tuple_iterator_next ?_ (F.args_tuple_iterator_next_1 _)))
  (show wpAny _ _ (field (.ref it) 0 >>= _) _ _ s); refine wpAny_bind (wpAny_field ho hd (x := .ref l) rfl ?_)
  (show wpAny _ _ (if (Value.ref l == Value.none) = true then _ else _) _ _ s); rw [if_neg (show ¬ ((Value.ref l == Value.none) = true) from Bool.false_ne_true)]
  (show wpAny _ _ (field (.ref it) 1 >>= _) _ _ s); refine wpAny_bind (wpAny_field ho hd (x := .int i 0) rfl ?_)
  (show wpAny _ _ (seqItems? (.ref l) >>= _) _ _ s); refine wpAny_bind (wpAny_seqItems hol hdl ?_)
  simp only [Int.toNat_natCast, hx]; refine wpAny_bind (wpAny_rule (wpAny_bind (wpAny_setField ho hd (by simp) ?_)))
  (show wpAny _ _ (newExc (.type "StopIteration") [] >>= _) _ _ _); refine wpAny_bind ?_; simp only [newExc, newTuple]
  refine wpAny_bind (wpAny_newObj_type ?_ (by size_fits)); refine wpAny_bind (m := firstArgMember _ _) (wpAny_of_eq (a := Value.none) (by first | rfl | (simp only [firstArgMember]; rfl)) ?_)
  refine wpAny_newObj_type ?_ (by size_fits); simp only [raiseNew]; refine wpAny_bind (wpAny_handled ?_)
  first | rw [show A.in1.handled = none from hh] | rw [hh]
  refine wpAny_bind (wpAny_pure (wpAny_throw ?_)); exact hE _ _ (((Heap.SameBut.update ..).extBut.push _).push _) ⟨_, Heap.get?_push_size _ rfl, rfl⟩
theorem ar7 {k : Bool} {l : Addr} {us : Array Value} {Q : Value → Shared → Prop} (hl : SQ k s.heap l us)
 (hQ : Q (.ref s.heap.objs.size) { s with heap := s.heap.push { cls := .type (cond k "tuple_iterator" "list_iterator"), data := .fields #[.ref l, .int 0 0] } }) : wpAny (model prog w) A (pyIter (.ref l)) Q E s := by
 cases k with
 | false => exact wpAny_pyIter_list hl hQ
 | true => exact wpAny_pyIter_tuple hl hQ
theorem ch1 {k1 k2 : Bool} {z TI TO i1 i2 l1 l2 : Addr} {i : Nat} {us vs : Array Value} {x y a b : Value} {Q : Option Value → Shared → Prop} (D : ZipApart z TI TO i1 i2 l1 l2)
 (hz : IsZip s.heap z TI TO .none) (hTI : IsPair s.heap TI (.ref i1) (.ref i2)) (hTO : IsPair s.heap TO a b) (n1 : SI k1 s.heap i1 l1 i) (n2 : SI k2 s.heap i2 l2 i) (q1 : SQ k1 s.heap l1 us) (q2 : SQ k2 s.heap l2 vs) (hx : us[i]? = some x) (hy : vs[i]? = some y)
 (hQ : ∀ h', IsZip h' z TI TO (rawInt s.heap.objs.size) → IsPair h' TO x y → SI k1 h' i1 l1 (i + 1) → SI k2 h' i2 l2 (i + 1) → IsPair h' s.heap.objs.size x y →
  (∀ c o, c ≠ z → c ≠ TO → c ≠ i1 → c ≠ i2 → s.heap.get? c = some o → h'.get? c = some o) → Q (some (.ref s.heap.objs.size)) { s with heap := h' }) :
 wpAny (model prog w) A (pyNext (.ref z)) Q E s := by
 have hT : s.TypeIs (.ref z) "zip" := ⟨_, hz, rfl⟩
 unfold pyNext
 refine wpAny_bind (wpAny_attempt (wpAny_callSpecial?_slot (name := Str.ofString "__next__") hT F.slot_zip_next (wpAny_call_entry F.slot_zip_next hT F.entry_zip_next ?_ (F.args_zip_next_1 _))))
 (show wpAny _ _ (field (.ref z) 2 >>= _) _ _ _); refine wpAny_bind (wpAny_field hz rfl (x := .bool false) rfl ?_)
 (show wpAny _ _ (field (.ref z) 3 >>= _) _ _ _); refine wpAny_bind (wpAny_field hz rfl (x := .ref TI) rfl ?_)
 refine wpAny_bind (wpAny_seqItems hTI rfl ?_); (show wpAny _ _ (Builtin.SmallTypes.ownedTupleIsFree (.ref z) >>= _) _ _ _)
 refine wpAny_bind ?_; unfold Builtin.SmallTypes.ownedTupleIsFree
 refine wpAny_bind (wpAny_field hz rfl (x := .none) rfl (wpAny_pure ?_)); simp only [if_true]
 refine wpAny_bind (wpAny_rule ?_); refine wpAny_bind (wpAny_field hz rfl (x := .ref TO) rfl ?_)
 refine wpAny_bind (wpAny_setField_rec hz (by simp) fun h₁ hz₁ g1 => ?_)
 replace hz₁ : IsZip h₁ z TI TO .ellipsis := hz₁
 refine wpAny_bind ?_; simp only [List.zipIdx_cons, List.zipIdx_nil, List.forIn_cons, List.forIn_nil]
 refine wpAny_bind (wpAny_bind (wpAny_onRaise ?_)); (show wpAny _ _ (Builtin.SmallTypes.nextOf (.ref i1) >>= _) _ _ _)
 refine wpAny_bind (xX (n1.at fun o e => g1.extBut _ _ D.i1z e) (q1.at fun o e => g1.extBut _ _ D.l1z e) hx fun h₂ n1' g2 => wpAny_pure ?_)
 have t2 : IsPair h₂ TO a b := g2.extBut _ _ D.TOi1 (g1.extBut _ _ D.TOz hTO)
 refine wpAny_bind (wpAny_seqItems t2 rfl ?_); refine wpAny_bind (wpAny_updateSeq_pair t2 fun h₃ t3 g3 => ?_)
 replace t3 : IsPair h₃ TO x b := t3
 refine wpAny_bind (wpAny_letGo (wpAny_pure ?_)); refine wpAny_bind (wpAny_bind (wpAny_onRaise ?_)); (show wpAny _ _ (Builtin.SmallTypes.nextOf (.ref i2) >>= _) _ _ _)
 refine wpAny_bind (xX (n2.at fun o e => g3.extBut _ _ D.TOi2.symm (g2.extBut _ _ D.i12.symm (g1.extBut _ _ D.i2z e))) (q2.at fun o e => g3.extBut _ _ D.l2TO (g2.extBut _ _ D.l2i1 (g1.extBut _ _ D.l2z e))) hy fun h₄ n2' g4 => wpAny_pure ?_)
 have t4 : IsPair h₄ TO x b := g4.extBut _ _ D.TOi2 t3
 refine wpAny_bind (wpAny_seqItems t4 rfl ?_); refine wpAny_bind (wpAny_updateSeq_pair t4 fun h₅ t5 g5 => ?_)
 replace t5 : IsPair h₅ TO x y := t5
 refine wpAny_bind (wpAny_letGo (wpAny_pure (wpAny_pure ?_))); refine wpAny_bind (wpAny_seqItems t5 rfl ?_); refine wpAny_bind (wpAny_newTuple ?_)
 have hsz : h₅.objs.size = s.heap.objs.size := by rw [g5.1, g4.1, g3.1, g2.1, g1.1]
 have z5 : IsZip h₅ z TI TO .ellipsis := g5.extBut _ _ D.TOz.symm (g4.extBut _ _ D.i2z.symm (g3.extBut _ _ D.TOz.symm (g2.extBut _ _ D.i1z.symm hz₁)))
 have m1 : SI k1 h₅ i1 l1 (i + 1) := n1'.at fun o e => g5.extBut _ _ D.TOi1.symm (g4.extBut _ _ D.i12 (g3.extBut _ _ D.TOi1.symm e))
 have m2 : SI k2 h₅ i2 l2 (i + 1) := n2'.at fun o e => g5.extBut _ _ D.TOi2.symm e
 have zlt : z < h₅.objs.size := Heap.lt_size z5
 (show wpAny _ _ (Builtin.SmallTypes.ownedTupleHandOut (.ref z) (.ref h₅.objs.size) >>= _) _ _ _); refine wpAny_bind ?_; unfold Builtin.SmallTypes.ownedTupleHandOut
 have z6 : IsZip (h₅.push { cls := .type "tuple", data := .seq #[x, y] }) z TI TO .ellipsis := Heap.get?_push_of_some _ z5
 refine wpAny_bind (wpAny_setField_rec z6 (by simp) fun h₇ z7 g7 => ?_)
 replace z7 : IsZip h₇ z TI TO (rawInt h₅.objs.size) := z7
 refine wpAny_setField_rec z7 (by simp) fun h₈ z8 g8 => ?_
 replace z8 : IsZip h₈ z TI TO (rawInt h₅.objs.size) := z8
 have up : ∀ c o, c ≠ z → h₅.get? c = some o → h₈.get? c = some o := fun c o c1 e => g8.extBut _ _ c1 (g7.extBut _ _ c1 (Heap.get?_push_of_some _ e))
 have t8 : IsPair h₈ h₅.objs.size x y := g8.extBut _ _ (Nat.ne_of_gt zlt) (g7.extBut _ _ (Nat.ne_of_gt zlt) (Heap.get?_push_size _ rfl))
 rw [hsz] at z8 t8
 refine wpAny_pure ⟨_, rfl, ?_⟩
 (show wpAny _ _ _ _ _ _); refine wpAny_pure ?_
 show Q (some (.ref h₅.objs.size)) _
 rw [hsz]
 refine hQ h₈ z8 (up _ _ D.TOz t5) (m1.at fun o e => up _ o D.i1z e) (m2.at fun o e => up _ o D.i2z e) t8 fun c o c1 c2 c3 c4 e => up c o c1 ?_
 exact g5.extBut _ _ c2 (g4.extBut _ _ c4 (g3.extBut _ _ c2 (g2.extBut _ _ c3 (g1.extBut _ _ c1 e))))
theorem bb9 {k1 k2 : Bool} {z TI TO i1 i2 l1 l2 : Addr} {i : Nat} {us vs : Array Value} {a b : Value} {Q : Option Value → Shared → Prop} (hh : A.handled = none) (D : ZipApart z TI TO i1 i2 l1 l2)
 (hz : IsZip s.heap z TI TO .none) (hTI : IsPair s.heap TI (.ref i1) (.ref i2)) (hTO : IsPair s.heap TO a b) (n1 : SI k1 s.heap i1 l1 i) (n2 : SI k2 s.heap i2 l2 i) (q1 : SQ k1 s.heap l1 us) (q2 : SQ k2 s.heap l2 vs) (hend : us[i]? = none ∨ vs[i]? = none)
 (hQ : ∀ h', (∀ c o, c ≠ z → c ≠ TO → c ≠ i1 → c ≠ i2 → s.heap.get? c = some o → h'.get? c = some o) → Q none { s with heap := h' }) :
 wpAny (model prog w) A (pyNext (.ref z)) Q E s := by
 have hT : s.TypeIs (.ref z) "zip" := ⟨_, hz, rfl⟩
 unfold pyNext
 have bY : ∀ h' e, (∀ c o, c ≠ z → c ≠ TO → c ≠ i1 → c ≠ i2 → s.heap.get? c = some o → h'.get? c = some o) → (∃ o, h'.get? e = some o ∧ o.cls = .type "StopIteration") →
  wpAny (model prog w) A (do if (← isInstance (.ref e) (.type "StopIteration")) = true then pure none else throw (.ref e)) Q E { s with heap := h' } := fun h' e hk ⟨o, ho, hc⟩ =>
  wpAny_bind (wpAny_isInstance (T := "StopIteration") (b := true) ⟨o, ho, hc⟩ isSubtype_stop (wpAny_pure (hQ _ hk)))
 refine wpAny_bind (wpAny_attempt (wpAny_callSpecial?_slot (name := Str.ofString "__next__") hT F.slot_zip_next (wpAny_call_entry F.slot_zip_next hT F.entry_zip_next ?_ (F.args_zip_next_1 _))))
 (show wpAny _ _ (field (.ref z) 2 >>= _) _ _ _); refine wpAny_bind (wpAny_field hz rfl (x := .bool false) rfl ?_)
 (show wpAny _ _ (field (.ref z) 3 >>= _) _ _ _); refine wpAny_bind (wpAny_field hz rfl (x := .ref TI) rfl ?_)
 refine wpAny_bind (wpAny_seqItems hTI rfl ?_); (show wpAny _ _ (Builtin.SmallTypes.ownedTupleIsFree (.ref z) >>= _) _ _ _)
 refine wpAny_bind ?_; unfold Builtin.SmallTypes.ownedTupleIsFree
 refine wpAny_bind (wpAny_field hz rfl (x := .none) rfl (wpAny_pure ?_)); simp only [if_true]
 refine wpAny_bind (wpAny_rule ?_); refine wpAny_bind (wpAny_field hz rfl (x := .ref TO) rfl ?_)
 refine wpAny_bind (wpAny_setField_rec hz (by simp) fun h₁ hz₁ g1 => ?_)
 replace hz₁ : IsZip h₁ z TI TO .ellipsis := hz₁
 refine wpAny_bind ?_; simp only [List.zipIdx_cons, List.zipIdx_nil, List.forIn_cons, List.forIn_nil]
 refine wpAny_bind (wpAny_bind (wpAny_onRaise ?_)); (show wpAny _ _ (Builtin.SmallTypes.nextOf (.ref i1) >>= _) _ _ _)
 have p1 : SI k1 h₁ i1 l1 i := n1.at fun o e => g1.extBut _ _ D.i1z e
 have p2 : SQ k1 h₁ l1 us := q1.at fun o e => g1.extBut _ _ D.l1z e
 cases hx : us[i]? with
 | none =>
  refine wpAny_bind (aw7 hh p1 p2 hx fun h₂ e g2 he => ?_)
  obtain ⟨oe, hoe, hce⟩ := he
  have z2 : IsZip h₂ z TI TO .ellipsis := g2 _ _ D.i1z.symm hz₁
  have hez : e ≠ z := fun q => by subst q; rw [z2] at hoe; cases hoe; simp at hce
  refine wpAny_setField_rec z2 (by simp) fun h₃ _ g3 => ?_
  exact bY h₃ e (fun c o c1 _ c3 _ q => g3.extBut _ _ c1 (g2 _ _ c3 (g1.extBut _ _ c1 q))) ⟨oe, g3.extBut _ _ hez hoe, hce⟩
 | some x =>
  have hy : vs[i]? = none := by
   rcases hend with h | h
   · rw [hx] at h; cases h
   · exact h
  refine wpAny_bind (xX p1 p2 hx fun h₂ n1' g2 => wpAny_pure ?_)
  have t2 : IsPair h₂ TO a b := g2.extBut _ _ D.TOi1 (g1.extBut _ _ D.TOz hTO)
  refine wpAny_bind (wpAny_seqItems t2 rfl ?_); refine wpAny_bind (wpAny_updateSeq_pair t2 fun h₃ t3 g3 => ?_)
  refine wpAny_bind (wpAny_letGo (wpAny_pure ?_)); refine wpAny_bind (wpAny_bind (wpAny_onRaise ?_)); (show wpAny _ _ (Builtin.SmallTypes.nextOf (.ref i2) >>= _) _ _ _)
  refine wpAny_bind (aw7 hh (n2.at fun o e => g3.extBut _ _ D.TOi2.symm (g2.extBut _ _ D.i12.symm (g1.extBut _ _ D.i2z e))) (q2.at fun o e => g3.extBut _ _ D.l2TO (g2.extBut _ _ D.l2i1 (g1.extBut _ _ D.l2z e))) hy fun h₄ e g4 he => ?_)
  obtain ⟨oe, hoe, hce⟩ := he
  have z4 : IsZip h₄ z TI TO .ellipsis := g4 _ _ D.i2z.symm (g3.extBut _ _ D.TOz.symm (g2.extBut _ _ D.i1z.symm hz₁))
  have hez : e ≠ z := fun q => by subst q; rw [z4] at hoe; cases hoe; simp at hce
  refine wpAny_setField_rec z4 (by simp) fun h₅ _ g5 => ?_
  exact bY h₅ e (fun c o c1 c2 c3 c4 q => g5.extBut _ _ c1 (g4 _ _ c4 (g3.extBut _ _ c2 (g2.extBut _ _ c3 (g1.extBut _ _ c1 q))))) ⟨oe, g5.extBut _ _ hez hoe, hce⟩
end
abbrev itO (k : Bool) (l : Addr) : Obj := { cls := .type (cond k "tuple_iterator" "list_iterator"), data := .fields #[.ref l, .int 0 0] }
abbrev zA (k1 : Bool) (h : Heap) (l1 : Addr) : Heap := h.push (itO k1 l1)
abbrev zB (k1 k2 : Bool) (h : Heap) (l1 l2 : Addr) : Heap := (zA k1 h l1).push (itO k2 l2)
abbrev zC (k1 k2 : Bool) (h : Heap) (l1 l2 : Addr) : Heap := (zB k1 k2 h l1 l2).push { cls := .type "tuple", data := .seq #[.ref h.objs.size, .ref (zA k1 h l1).objs.size] }
abbrev zD (k1 k2 : Bool) (h : Heap) (l1 l2 : Addr) : Heap := (zC k1 k2 h l1 l2).push { cls := .type "tuple", data := .seq #[.none, .none] }
abbrev zE (k1 k2 : Bool) (h : Heap) (l1 l2 : Addr) : Heap := (zD k1 k2 h l1 l2).push { cls := .type "zip", data := .fields #[.none, .bool false, .bool false, .ref (zB k1 k2 h l1 l2).objs.size, .ref (zC k1 k2 h l1 l2).objs.size] }
theorem cl4 (k1 k2 : Bool) (l1 l2 : Addr) (us vs : Array Value) :
 Meets (Builtin.«zip.__new__» ⟨[.type "zip", .ref l1, .ref l2], []⟩) (fun _ R s => SQ k1 s.heap l1 us ∧ SQ k2 s.heap l2 vs ∧ R (.ok (.ret (.ref (zD k1 k2 s.heap l1 l2).objs.size))) { s with heap := zE k1 k2 s.heap l1 l2 }) :=
 .of_wp fun prog w A R s h => by
  obtain ⟨hp, g, d, tk, os⟩ := s
  obtain ⟨hl1, hl2, h⟩ := h
  have hsub := sub_zip
  have a1 : SQ k1 (Shared.heap ⟨hp, g, d, tk, os⟩) l1 us := hl1
  have a2 : SQ k2 (Shared.heap ⟨hp.push (itO k1 l1), g, d, tk, os⟩) l2 vs := SQ.at hl2 fun o e => Heap.get?_push_of_some _ e
  wp_walk using ar7 a1, ar7 a2
  exact ⟨_, rfl, h⟩
section
variable {prog : Program} {w : World} {A : Around} {E : Value → Shared → Prop} {s : Shared}
theorem bj9 {k1 k2 : Bool} {l1 l2 : Addr} {us vs : Array Value} {Q : Value → Shared → Prop} (hl1 : SQ k1 s.heap l1 us) (hl2 : SQ k2 s.heap l2 vs)
 (h : ∀ h', IsZip h' (s.heap.objs.size + 4) (s.heap.objs.size + 2) (s.heap.objs.size + 3) .none → IsPair h' (s.heap.objs.size + 2) (.ref s.heap.objs.size) (.ref (s.heap.objs.size + 1)) → IsPair h' (s.heap.objs.size + 3) .none .none →
  SI k1 h' s.heap.objs.size l1 0 → SI k2 h' (s.heap.objs.size + 1) l2 0 → (∀ c o, s.heap.get? c = some o → h'.get? c = some o) → Q (.ref (s.heap.objs.size + 4)) { s with heap := h' }) :
 wpAny (model prog w) A (call (.type "zip") [.ref l1, .ref l2]) Q E s := by
 refine callType_new F.called_zip (by decide) (F.typeCall_zip_2 _ _) (F.newCall_zip_2 _ _) (fun obj => F.args_object_init_3 obj _ _) F.entry_zip_new (cl4 k1 k2 l1 l2 us vs) ⟨hl1, hl2, ?_⟩
 have z1 : (zA k1 s.heap l1).objs.size = s.heap.objs.size + 1 := Heap.size_push ..
 have z2 : (zB k1 k2 s.heap l1 l2).objs.size = s.heap.objs.size + 2 := (Heap.size_push ..).trans (by rw [z1])
 have z3 : (zC k1 k2 s.heap l1 l2).objs.size = s.heap.objs.size + 3 := (Heap.size_push ..).trans (by rw [z2])
 have z4 : (zD k1 k2 s.heap l1 l2).objs.size = s.heap.objs.size + 4 := (Heap.size_push ..).trans (by rw [z3])
 have u1 : ∀ c o, (zA k1 s.heap l1).get? c = some o → (zE k1 k2 s.heap l1 l2).get? c = some o := fun c o e => Heap.get?_push_of_some _ (Heap.get?_push_of_some _ (Heap.get?_push_of_some _ (Heap.get?_push_of_some _ e)))
 have u2 : ∀ c o, (zB k1 k2 s.heap l1 l2).get? c = some o → (zE k1 k2 s.heap l1 l2).get? c = some o := fun c o e => Heap.get?_push_of_some _ (Heap.get?_push_of_some _ (Heap.get?_push_of_some _ e))
 have g5 : (zE k1 k2 s.heap l1 l2).get? (zD k1 k2 s.heap l1 l2).objs.size = some _ := Heap.get?_push_size _ rfl
 have g4 : (zE k1 k2 s.heap l1 l2).get? (zC k1 k2 s.heap l1 l2).objs.size = some _ := Heap.get?_push_of_some _ (Heap.get?_push_size _ rfl)
 have g3 : (zE k1 k2 s.heap l1 l2).get? (zB k1 k2 s.heap l1 l2).objs.size = some _ := Heap.get?_push_of_some _ (Heap.get?_push_of_some _ (Heap.get?_push_size _ rfl))
 have g2 : (zE k1 k2 s.heap l1 l2).get? (zA k1 s.heap l1).objs.size = some _ := u2 _ _ (Heap.get?_push_size _ rfl)
 have g1 : (zE k1 k2 s.heap l1 l2).get? s.heap.objs.size = some _ := u1 _ _ (Heap.get?_push_size _ rfl)
 show _ ∧ _
 rw [z2, z3, z4] at g5
 rw [z1, z2] at g3
 rw [z3] at g4
 rw [z1] at g2
 rw [z4]
 exact ⟨⟨_, g5, rfl⟩, h _ g5 g3 g4 ⟨_, g1, rfl, rfl⟩ ⟨_, g2, rfl, rfl⟩ fun c o x => u1 c o (Heap.get?_push_of_some _ x)⟩
end
end L2
namespace L2
open PySem PySem.Spec PyProof.Rows
def wX (k : Bool) (K : PySem.W.Frag) (H : Hp) (l : Addr) (xs : List V) : Prop := cond k (SqT K H l xs) (SqL K H l xs)
section
variable {X : Cx} {pins : List (Addr × Obj)} {σ : St} {H : Hp} {s : Shared} {l : Addr} {xs ys : List V}
theorem Inv.row {k : Bool} (I : Inv X pins σ H s) (h : wX k X.K H l xs) : ∃ its : List Value, Vals xs its ∧ SQ k s.heap l its.toArray ∧ xs.length ≤ sizeLine := by
 cases k with
 | false => obtain ⟨its, r, p, z⟩ := I.list h; exact ⟨its, r, p.isList, z⟩
 | true => obtain ⟨its, r, p, z⟩ := I.tuple h; exact ⟨its, r, p, z⟩
theorem Inv.row_inj {k : Bool} (I : Inv X pins σ H s) (h : wX k X.K H l xs) (h' : wX k X.K H l ys) : xs = ys := by
 cases k with
 | false => exact I.list_inj h h'
 | true => exact I.tuple_inj h h'
theorem Inv.turnedL {t' : Nat} {fp : List Addr} {h' : Heap} (I : Inv X pins σ H s) (k : ∀ b o, b ∉ fp → s.heap.get? b = some o → h'.get? b = some o) (hf : ∀ b ∈ fp, pA X pins H b) : Inv X pins σ H { s with heap := h', toks := t' } := by
 have nit : ∀ b u, H b = some u → b ∉ fp := fun b u e z => by rw [(hf b z).1] at e; cases e
 refine I.step (g' := s.gens) (d' := s.drawn) (ch := fp) (fun b hb => ?_) (fun b o _ _ hc e _ => k b o hc e) (fun b o _ _ hc e _ => ⟨o.slots, k b o hc e⟩) (fun _ _ _ _ n => n)
  (fun b o hc e => ⟨o, k b o hc e⟩) (fun _ _ e => e) (fun _ _ _ e => e) (fun b ps e => ⟨#[], by rw [e]; simp⟩) (fun m hm => ?_) (fun b u e => ?_) I.bare
 · obtain ⟨_, f1, _, f3, f4, f5⟩ := hf b hb
   exact ⟨f3, f1, f4, f5⟩
 · obtain ⟨o, es, ep, ho, r⟩ := hm
   exact ⟨o, es, ep, k _ o (fun z => (hf _ z).2.1 rfl) ho, r⟩
 · refine (I.hok b u e).stay (fun c v hc q => k c v ?_ q) (fun _ q => q) fun _ _ q => q
   rcases hc with z | z
   · rw [z]; exact nit b u e
   · exact nit c _ z
theorem Inv.paired {h' : Heap} {t' : Nat} {fp : List Addr} {x y : V} {u v : Value} (I : Inv X pins σ H s) (rx : RelV x u) (ry : RelV y v) (hf : ∀ b ∈ fp, pA X pins H b) (hl : ∀ b ∈ fp, b < s.heap.objs.size)
 (hp : h'.get? s.heap.objs.size = some { cls := .type "tuple", data := .seq #[u, v] }) (k : ∀ b o, b ∉ fp → s.heap.get? b = some o → h'.get? b = some o) :
 Inv X pins σ (upd H s.heap.objs.size (.tup [x, y])) { s with heap := h', toks := t' } ∧ ∀ b ∈ fp, upd H s.heap.objs.size (.tup [x, y]) b = none := by
 have I0 : Inv X pins σ (upd H s.heap.objs.size (.tup [x, y])) { s with heap := s.heap.push { cls := .type "tuple", data := .seq #[u, v] }, toks := t' } :=
  I.laid (fun _ _ q => Heap.get?_push_of_some _ q) (Nat.le_refl _) ⟨(show (2 : Nat) ≤ sizeLine by decide), [u, v], .cons rx (.cons ry .nil), ⟨_, Heap.get?_push_size _ rfl, rfl, _, rfl⟩⟩
 have hn : ∀ b ∈ fp, upd H s.heap.objs.size (.tup [x, y]) b = none := fun b hb => by rw [cQ (Nat.ne_of_lt (hl b hb))]; exact (hf b hb).1
 refine ⟨I0.turnedL (fp := fp) (h' := h') (t' := t') (fun b o hb e => ?_) fun b hb => ⟨hn b hb, (hf b hb).2⟩, hn⟩
 rcases Heap.get?_push_cases e with ⟨rfl, rfl⟩ | e
 · exact hp
 · exact k b o hb e
end
def Itz (K : PySem.W.Frag) (k1 k2 : Bool) (l1 l2 : Addr) : It :=
 ⟨fun i H => ∃ xs ys x y, wX k1 K H l1 xs ∧ wX k2 K H l2 ys ∧ xs[i]? = some x ∧ ys[i]? = some y,
  fun i H v H' => ∃ p, H p = none ∧ v = .ref p ∧ ∀ xs ys, wX k1 K H l1 xs → wX k2 K H l2 ys → ∃ x y, xs[i]? = some x ∧ ys[i]? = some y ∧ H' = upd H p (.tup [x, y]),
  fun i H => ∃ xs ys, wX k1 K H l1 xs ∧ wX k2 K H l2 ys ∧ (xs.length ≤ i ∨ ys.length ≤ i)⟩
def Ite (K : PySem.W.Frag) (l : Addr) : It :=
 ⟨fun i H => ∃ xs x, SqL K H l xs ∧ xs[i]? = some x, fun i H v H' => ∃ p, H p = none ∧ v = .ref p ∧ ∀ xs, SqL K H l xs → ∃ x, xs[i]? = some x ∧ H' = upd H p (.tup [.int i, x]), fun i H => ∃ xs, SqL K H l xs ∧ xs.length ≤ i⟩
theorem bq8 {P : Program} {w : World} {K : PySem.W.Frag} {es : List Expr} {n : Nat} {pos : Pos} {k1 k2 : Bool} {z TI TO i1 i2 l1 l2 : Addr} (D : ZipApart z TI TO i1 i2 l1 l2) :
 xK P w K (.Tuple es n pos) (Itz K k1 k2 l1 l2) [z, TI, TO, i1, i2] z (fun i h => IsZip h z TI TO .none ∧ IsPair h TI (.ref i1) (.ref i2) ∧ (∃ a b, IsPair h TO a b) ∧ SI k1 h i1 l1 i ∧ SI k2 h i2 l2 i) where
 mem := by simp
 obj := fun i h st b hb => by
  obtain ⟨hz, hTI, ⟨a, c, hTO⟩, n1, n2⟩ := st
  simp only [List.mem_cons, List.not_mem_nil, or_false] at hb
  rcases hb with rfl | rfl | rfl | rfl | rfl
  · exact ⟨_, hz, fun v e => nomatch e⟩
  · exact ⟨_, hTI, fun v e => nomatch e⟩
  · exact ⟨_, hTO, fun v e => nomatch e⟩
  · obtain ⟨o, e, _, d⟩ := n1; exact ⟨o, e, fun v q => by rw [d] at q; cases q⟩
  · obtain ⟨o, e, _, d⟩ := n2; exact ⟨o, e, fun v q => by rw [d] at q; cases q⟩
 keep := fun i h h' st k => by
  obtain ⟨hz, hTI, ⟨a, c, hTO⟩, n1, n2⟩ := st
  exact ⟨k z (by simp) _ hz, k TI (by simp) _ hTI, ⟨a, c, k TO (by simp) _ hTO⟩, n1.at fun o e => k i1 (by simp) o e, n2.at fun o e => k i2 (by simp) o e⟩
 item := by
  intro X hP hw hK hc i pins s σ H E I hf st hg
  subst hP hw hK
  obtain ⟨hz, hTI, ⟨a, b, hTO⟩, n1, n2⟩ := st
  obtain ⟨xs, ys, x, y, hq1, hq2, hx, hy⟩ := hg
  obtain ⟨its, r1, p1, _⟩ := I.row hq1
  obtain ⟨jts, r2, p2, _⟩ := I.row hq2
  obtain ⟨u, hu, ru⟩ := r1.get hx
  obtain ⟨v, hv, rv⟩ := r2.get hy
  refine ch1 D hz hTI hTO n1 n2 p1 p2 (x := u) (y := v) (by simpa using hu) (by simpa using hv) fun h' a1 a2 a3 a4 a5 kk => ⟨_, rfl, wpAny_letOwnedTupleGo_zip a1 fun h2 b1 gg => ?_⟩
  have lts : ∀ b ∈ [z, TI, TO, i1, i2], b < s.heap.objs.size := fun b hb => by
   simp only [List.mem_cons, List.not_mem_nil, or_false] at hb
   rcases hb with rfl | rfl | rfl | rfl | rfl
   · exact Heap.lt_size hz
   · exact Heap.lt_size hTI
   · exact Heap.lt_size hTO
   · obtain ⟨o, e, _⟩ := n1; exact Heap.lt_size e
   · obtain ⟨o, e, _⟩ := n2; exact Heap.lt_size e
  have zne : s.heap.objs.size ≠ z := Nat.ne_of_gt (lts z (by simp))
  obtain ⟨I1, hn⟩ := I.paired (t' := s.toks) ru rv hf lts (gg.extBut _ _ zne a5) (fun c o hc e => gg.extBut _ _ (fun q => hc (by simp [q])) (kk c o (fun q => hc (by simp [q])) (fun q => hc (by simp [q])) (fun q => hc (by simp [q])) (fun q => hc (by simp [q])) e))
  refine ⟨.ref s.heap.objs.size, _, I1, rfl, ⟨_, I.fresh, rfl, fun xs' ys' q1 q2 => ⟨x, y, by rw [I.row_inj q1 hq1]; exact hx, by rw [I.row_inj q2 hq2]; exact hy, rfl⟩⟩, ⟨b1, ?_, ⟨u, v, ?_⟩, ?_, ?_⟩, hn⟩
  · exact gg.extBut _ _ D.TIz (kk _ _ D.TIz D.TITO D.TIi1 D.TIi2 hTI)
  · exact gg.extBut _ _ D.TOz a2
  · exact a3.at fun o e => gg.extBut _ _ D.i1z e
  · exact a4.at fun o e => gg.extBut _ _ D.i2z e
 done := by
  intro X hP hw hK hc i pins s σ H E I hf st hg
  subst hP hw hK
  obtain ⟨hz, hTI, ⟨a, b, hTO⟩, n1, n2⟩ := st
  obtain ⟨xs, ys, hq1, hq2, hx⟩ := hg
  obtain ⟨its, r1, p1, _⟩ := I.row hq1
  obtain ⟨jts, r2, p2, _⟩ := I.row hq2
  have e1 := r1.length
  have e2 := r2.length
  exact bb9 (I.ok.hd hc) D hz hTI hTO n1 n2 p1 p2 (hx.imp (fun q => by simp; omega) (fun q => by simp; omega)) fun h' kk => ⟨rfl, I.turnedL (t' := s.toks) (fun c o hc e => kk c o (fun q => hc (by simp [q])) (fun q => hc (by simp [q])) (fun q => hc (by simp [q])) (fun q => hc (by simp [q])) e) hf⟩
 self := fun _ _ _ _ _ st h => wpAny_pyIter_zip st.1 h
theorem bd7 {P : Program} {w : World} {K : PySem.W.Frag} {es : List Expr} {n : Nat} {pos : Pos} {e it l : Addr} (ne : e ≠ it) :
 xK P w K (.Tuple es n pos) (Ite K l) [e, it] e (fun i h => (∃ old, IsEnum h e it (i : Nat) old) ∧ h.IsListIter it l i) where
 mem := by simp
 obj := fun i h st b hb => by
  obtain ⟨⟨old, he⟩, n1⟩ := st
  simp only [List.mem_cons, List.not_mem_nil, or_false] at hb
  rcases hb with rfl | rfl
  · exact ⟨_, he, fun v q => nomatch q⟩
  · obtain ⟨o, e, _, d⟩ := n1; exact ⟨o, e, fun v q => by rw [d] at q; cases q⟩
 keep := fun i h h' st k => by
  obtain ⟨⟨old, he⟩, n1⟩ := st
  exact ⟨⟨old, k e (by simp) _ he⟩, n1.at fun o q => k it (by simp) o q⟩
 item := by
  intro X hP hw hK hc i pins s σ H E I hf st hg
  subst hP hw hK
  obtain ⟨⟨old, he⟩, n1⟩ := st
  obtain ⟨xs, x, hq, hx⟩ := hg
  obtain ⟨its, r1, p1, _⟩ := I.list hq
  obtain ⟨u, hu, ru⟩ := r1.get hx
  refine wpAny_pyNext_enum_item he n1 p1.isList (x := u) (by simpa using hu) ne fun h' a1 a2 a3 a4 kk => ⟨_, rfl, wpAny_letOwnedTupleGo_enum a1 fun h2 b1 gg => ?_⟩
  have lts : ∀ b ∈ [e, it], b < s.heap.objs.size := fun b hb => by
   simp only [List.mem_cons, List.not_mem_nil, or_false] at hb
   rcases hb with rfl | rfl
   · exact Heap.lt_size he
   · obtain ⟨o, e, _⟩ := n1; exact Heap.lt_size e
  have zne : s.heap.objs.size ≠ e := Nat.ne_of_gt (lts e (by simp))
  obtain ⟨I1, hn⟩ := I.paired (t' := s.toks + 1) (x := .int (i : Nat)) (u := .int (i : Nat) s.toks) ⟨_, rfl⟩ ru hf lts (gg.extBut _ _ zne a3) (fun c o hc q => gg.extBut _ _ (fun z => hc (by simp [z])) (kk c o (fun z => hc (by simp [z])) (fun z => hc (by simp [z])) q))
  exact ⟨.ref s.heap.objs.size, _, I1, rfl, ⟨_, I.fresh, rfl, fun xs' q1 => ⟨x, by rw [I.list_inj q1 hq]; exact hx, rfl⟩⟩, ⟨⟨u, b1⟩, a2.at fun o q => gg.extBut _ _ (Ne.symm ne) q⟩, hn⟩
 done := by
  intro X hP hw hK hc i pins s σ H E I hf st hg
  subst hP hw hK
  obtain ⟨⟨old, he⟩, n1⟩ := st
  obtain ⟨xs, hq, hx⟩ := hg
  obtain ⟨its, r1, p1, _⟩ := I.list hq
  have e1 := r1.length
  obtain ⟨f0, f1, f2, f3, f4, f5⟩ := hf it (by simp)
  exact wpAny_pyNext_enum_end (I.ok.hd hc) he n1 p1.isList (by simp; omega) fun h' eb => ⟨rfl, I.turned (t' := s.toks) (fun b o hb q => eb b o hb q) f0 f1 f3 f4 f5⟩
 self := fun _ _ _ _ _ st h => by
  obtain ⟨⟨old, he⟩, _⟩ := st
  exact wpAny_pyIter_enum he h
theorem bm9 : bootBuiltins "zip" = some (.type "zip") := by decide +kernel
theorem bs5 : bootBuiltins "enumerate" = some (.type "enumerate") := by decide +kernel
section
variable {X : Cx}
def bw7 (K : PySem.W.Frag) (ta : TA) : TI := fun σ H R => ta σ H fun vs H1 => ∃ k1 k2 l1 l2, vs = [.ref l1, .ref l2] ∧ (∃ xs, wX k1 K H1 l1 xs) ∧ (∃ ys, wX k2 K H1 l2 ys) ∧ R (Itz K k1 k2 l1 l2) H1
def bp3 (K : PySem.W.Frag) (ta : TA) : TI := fun σ H R => ta σ H fun vs H1 => ∃ l, vs = [.ref l] ∧ (∃ xs, SqL K H1 l xs) ∧ R (Ite K l) H1
theorem cu9 {es : List Expr} {n : Nat} {tpos : Pos} {a b : Expr} {ta : TA} {p pos : Pos} (hg : Gl X "zip") (hm : X.mg "zip" = none) (ha : PA X [a, b] ta) (hs : starEach [a, b] X.env = [(false, eval a X.env), (false, eval b X.env)] := by rfl) (hs2 : starEach [b] X.env = [(false, eval b X.env)] := by rfl) :
 PI X (.Tuple es n tpos) (.Call (.Name "zip" p) [a, b] [] pos) (bw7 X.K ta) := by
 intro pins s σ H R I h
 refine Call_ (oN I hg hm bm9 (PyProof.Rows.callWith_type1 (cI (ha pos pins s σ H _ I h) fun us s1 ⟨vs, H1, I1, r1, q1⟩ => ?_) (by rw [hs, hs2]) (by rw [hs2]; rfl)))
 obtain ⟨k1, k2, l1, l2, e, ⟨xs, hq1⟩, ⟨ys, hq2⟩, q⟩ := q1
 subst e
 cases r1 with
 | cons r rr =>
  cases rr with
  | cons r' rr =>
   cases rr
   cases r
   cases r'
   obtain ⟨its, r1, p1, _⟩ := I1.row hq1
   obtain ⟨jts, r2, p2, _⟩ := I1.row hq2
   refine bj9 p1 p2 fun h' a1 a2 a3 a4 a5 kk => wpAny_pyIter_zip a1 ?_
   have c1 : l1 < s1.heap.objs.size := by obtain ⟨_, z, _⟩ := p1; exact Heap.lt_size z
   have c2 : l2 < s1.heap.objs.size := by obtain ⟨_, z, _⟩ := p2; exact Heap.lt_size z
   refine ⟨_, _, _, _, H1, rfl, I1.kept (t' := s1.toks) kk, bq8 (zipApart_new c1 c2), ⟨a1, a2, ⟨_, _, a3⟩, a4, a5⟩, fun c hc => ?_, q⟩
   have le : s1.heap.objs.size ≤ c := by
    simp only [List.mem_cons, List.not_mem_nil, or_false] at hc
    rcases hc with rfl | rfl | rfl | rfl | rfl <;> omega
   exact I1.fpOk le (I1.hok.fresh le)
theorem cf3 {es : List Expr} {n : Nat} {tpos : Pos} {a : Expr} {ta : TA} {p pos : Pos} (hg : Gl X "enumerate") (hm : X.mg "enumerate" = none) (ha : PA X [a] ta) (hs : starEach [a] X.env = [(false, eval a X.env)] := by rfl) :
 PI X (.Tuple es n tpos) (.Call (.Name "enumerate" p) [a] [] pos) (bp3 X.K ta) := by
 intro pins s σ H R I h
 refine Call_ (oN I hg hm bs5 (PyProof.Rows.callWith_type1 (cI (ha pos pins s σ H _ I h) fun us s1 ⟨vs, H1, I1, r1, q1⟩ => ?_) hs rfl))
 obtain ⟨l, e, ⟨xs, hq1⟩, q⟩ := q1
 subst e
 cases r1 with
 | cons r rr =>
  cases rr
  cases r
  obtain ⟨its, r1, p1, _⟩ := I1.list hq1
  refine call_enumerate_list p1.isList fun h' a1 a2 a3 kk => wpAny_pyIter_enum a1 ?_
  refine ⟨_, _, _, _, H1, rfl, I1.kept (t' := s1.toks) kk, bd7 (e := s1.heap.objs.size + 1) (it := s1.heap.objs.size) (Nat.succ_ne_self _), ⟨⟨_, a1⟩, a2⟩, fun c hc => ?_, q⟩
  have le : s1.heap.objs.size ≤ c := by
   simp only [List.mem_cons, List.not_mem_nil, or_false] at hc
   rcases hc with rfl | rfl <;> omega
  exact I1.fpOk le (I1.hok.fresh le)
end
end L2
namespace L2
open PySem PySem.Spec PyProof.Rows
def pZ (σ : List Str) (x : Str) : List Str := if σ.any (· == x) = true then σ else σ ++ [x]
def jV (val : Nat → Str) (i : Nat) : List Str := ((List.range i).map val).foldl pZ []
theorem xJ (val : Nat → Str) (i : Nat) : jV val (i + 1) = pZ (jV val i) (val i) := by
 unfold jV
 rw [List.range_succ, List.map_append, List.foldl_append]
 rfl
theorem az8 (val : Nat → Str) : ∀ i, (jV val i).length ≤ i
 | 0 => Nat.le_refl _
 | i + 1 => by
  rw [xJ]
  unfold pZ
  have ih := az8 val i
  split
  · omega
  · simp; omega
theorem bq6 (σ : List Str) (v k : Str) : (pZ σ v).any (· == k) = (σ.any (· == k) || decide (k = v)) := by
 unfold pZ
 by_cases h : σ.any (· == v) = true
 · rw [if_pos h]
   by_cases e : k = v
   · subst e
     rw [h]
     simp
   · simp [e]
 · rw [if_neg h, List.any_append]
   by_cases e : k = v
   · subst e
     simp
   · have hb : (v == k) = false := by simpa using (fun h' : v = k => e h'.symm)
     simp [hb, e]
theorem br6 (σ : List Str) (v : Str) : (pZ σ v).length = if σ.any (· == v) then σ.length else σ.length + 1 := by
 unfold pZ
 split <;> simp
section
variable {prog : Program} {w : World} {A : Around} {R : Result → Shared → Prop} {I : Addr} {fp wr : List Addr} {G : Array GenState → Array GenState → Prop} {n : Nat} {P : Nat → Value → Prop} {St : Nat → Shared → Prop}
theorem ck1 (W : WalksS prog w A.in1 I fp wr G n P St) (S : Addr) (hS : S ∉ fp) (val : Nat → Str) (hval : ∀ i v, P i v → ∃ t, v = .str (val i) t) (hb : n + 1 < scanBound) :
 ∀ (k i : Nat) (s : Shared), n - i = k → i ≤ n → St i s → s.heap.SetOf (strKind prog w) S (fun x => (jV val i).any (· == x)) (jV val i).length →
  (∀ s', Moved (S :: wr) G s s' → s'.heap.SetOf (strKind prog w) S (fun x => (jV val n).any (· == x)) (jV val n).length → R (.ok (.ret .none)) s') →
  codeAny (model prog w) A (.builtin "set.update.loop" ⟨[.ref S, .ref I], []⟩) R s := by
 have hw : S ∉ wr := fun h => hS (W.sub _ h)
 have sub : ∀ b ∈ wr, b ∈ S :: wr := fun b hb => List.mem_cons_of_mem _ hb
 intro k
 induction k with
 | zero =>
  intro i s hk hi st hs hR
  obtain rfl : i = n := by omega
  refine codeAny_builtin PyProof.Rows.F.entry_set_update_loop ?_; rw [Around.under_plainId PyProof.Rows.F.plain_set_update_loop _]
  (show wpAny _ A.in1 (pyNext (.ref I) >>= _) _ _ s); refine wpAny_bind (W.done s _ _ st fun s' hm => ?_)
  (show wpAny _ A.in1 (ret Value.none) _ _ s'); refine wpAny_pure (hR s' (hm.mono sub) ?_)
  obtain ⟨o, es, ep, t, ho, r⟩ := hs
  exact ⟨o, es, ep, t, hm.heap S _ hw ho, r⟩
 | succ k ih =>
  intro i s hk hi st hs hR
  have lt : i < n := by omega
  refine codeAny_builtin PyProof.Rows.F.entry_set_update_loop ?_; rw [Around.under_plainId PyProof.Rows.F.plain_set_update_loop _]
  (show wpAny _ A.in1 (pyNext (.ref I) >>= _) _ _ s); refine wpAny_bind (W.item i s _ _ lt st fun v s' hP st' hm => ?_)
  obtain ⟨t, rfl⟩ := hval i v hP
  have hs' : s'.heap.SetOf (strKind prog w) S (fun x => (jV val i).any (· == x)) (jV val i).length := by
   obtain ⟨o, es, ep, tb, ho, r⟩ := hs
   exact ⟨o, es, ep, tb, hm.heap S _ hw ho, r⟩
  (show wpAny _ A.in1 (holding [Value.str (val i) t] (setAdd S (.str (val i) t)) >>= _) _ _ s'); refine wpAny_bind (wpAny_holding ?_); unfold setAdd
  refine wpAny_holding ?_; refine wpAny_bind ((strKind prog w).pyHash (k := val i) (strKind_is _ _ _ _) ?_)
  have room : (jV val i).length + 1 < scanBound := by have := az8 val i; omega
  refine wpAny_setAddHashed_of (knd := strKind prog w) (s := { s' with toks := s'.toks + 1 }) (strKind_is _ _ _ _) rfl hs' room fun h' hsb hS2 => ?_
  have hi' : h'.SetOf (strKind prog w) S (fun x => (jV val (i + 1)).any (· == x)) (jV val (i + 1)).length := SetOf_congr hS2 (fun x => by rw [xJ, bq6]) (by rw [xJ, br6])
  refine wpAny_pure ⟨plainId_quiet PyProof.Rows.F.plain_set_update_loop _, ih (i + 1) _ (by omega) lt (W.frame _ s' _ _ st' (Nat.le_succ _) fun b hb o e => ?_) hi' fun s'' hm'' hS'' => ?_⟩
  · exact (hsb.2 b (fun h : b = S => hS (by rw [← h]; exact hb))).trans e
  · refine hR s'' (Moved.trans W.gtrans ((hm.mono sub).then_heap (Nat.le_succ _) fun b o hb e => ?_) hm'') hS''
    exact (hsb.2 b (fun h : b = S => hb (by rw [h]; exact List.mem_cons_self))).trans e
end
section
variable {prog : Program} {w : World} {A : Around} {E : Value → Shared → Prop} {s : Shared}
abbrev kB (led : Bool) : Obj := { cls := .type "set", dict := none, data := .set #[] 0 (.fresh 0 0 led) }
set_option maxHeartbeats 3200000 in
theorem am6 {l : Addr} {us : Array Value} {val : Nat → Str} {Q : Value → Shared → Prop} (hh : A.handled = none) (hl : s.heap.IsList l us) (hv : ∀ (i : Nat) v, us[i]? = some v → ∃ t, v = .str (val i) t) (hb : us.size + 1 < scanBound)
 (h : ∀ (h' : Heap) (tk : Nat), h'.SetOf (strKind prog w) s.heap.objs.size (fun x => (jV val us.size).any (· == x)) (jV val us.size).length → (∀ b o, b < s.heap.objs.size → s.heap.get? b = some o → h'.get? b = some o) → Q (.ref s.heap.objs.size) { s with heap := h', toks := tk }) :
 wpAny (model prog w) A (call (.type "set") [.ref l]) Q E s := by
 obtain ⟨c, tl, hmro⟩ := PySem.F.called_set.mro
 have hmade := PySem.F.called_set.made
 have hsub := PySem.F.called_set.sub
 refine wpAny_call (codeAny_of_tree ?_); (show wpAny _ _ (callAny (.type "set") _) _ _ _)
 refine wpAny_pure ⟨Code.quiet_builtin _ (by decide +kernel), codeAny_builtin PySem.F.entry_type_call ?_⟩; rw [Around.under_plain (weight_type_call_type "set" [.ref l] []) rfl]
 have h1 := PySem.F.called_set.notType
 have h2 := PySem.F.called_set.canCreate
 have hct := PySem.F.typeCall_set_1 (.ref l)
 (repeat (any_goals (first | assumption | wp_step)))
 refine codeAny_mono (code_set_new_1 (.ref l) (E := E) (Q₁ := fun obj s₁ => ∃ led : Bool, obj = .ref s.heap.objs.size ∧ s₁ = { s with heap := s.heap.push (kB led) }) fun led => ⟨led, rfl, rfl⟩) fun r s₁ hr => ?_
 cases r with
 | error e => exact hr
 | ok fl =>
  cases fl with
  | ret obj =>
   obtain ⟨led, rfl, rfl⟩ := hr
   have hS : (s.heap.push (kB led)).get? s.heap.objs.size = some (kB led) := Heap.get?_push_size _ rfl
   have hT : Shared.TypeIs { s with heap := s.heap.push (kB led) } (.ref s.heap.objs.size) "set" := ⟨_, hS, rfl⟩
   have hli := PySem.F.called_set.init.lookup
   have hbi := PySem.F.called_set.init.bind (.ref s.heap.objs.size)
   (repeat (any_goals (first | assumption | wp_step)))
   refine codeAny_mono (codeAny_call_builtin (R := wants (fun r s₂ => r = .none ∧ ∃ h' tk, s₂ = { s with heap := h', toks := tk } ∧ h'.SetOf (strKind prog w) s.heap.objs.size (fun x => (jV val us.size).any (· == x)) (jV val us.size).length ∧
    (∀ b o, b < s.heap.objs.size → s.heap.get? b = some o → h'.get? b = some o)) E) PySem.F.called_set.init.plain PySem.F.entry_set_init (check_set_init_1 hT ?_)) fun r₂ s₂ hr₂ => ?_
   · obtain ⟨ol, hol, hcl, nl, hdl⟩ := hl
     obtain ⟨ocls, odict, odata, oslots⟩ := ol
     simp only at hcl hdl; subst hcl; subst hdl
     have hol' : (s.heap.push (kB led)).get? l = some { cls := .type "list", dict := odict, data := .seq us nl, slots := oslots } := Heap.get?_push_of_some _ hol
     have hsls := PySem.F.sub_list_set
     have hslf := PySem.F.sub_list_frozenset
     have hne : (Value.type "list" == Value.type "dict") = false := by decide
     have hl1 : (s.heap.push (kB led)).IsList l us := ⟨_, hol', rfl, nl, rfl⟩
     unfold Builtin.«set.__init__» noKeywords Builtin.Frozenset.updateFrom; generalize hPI : pyIter = PI; wp_walk; subst hPI
     refine wpAny_pyIter_list hl1 ?_; refine wpAny_bind (wpAny_runValue ?_)
     have hlS : l < s.heap.objs.size := Heap.lt_size hol
     have hh3 : A.in1.in1.in1.handled = none := by simp [hh]
     have hneI : l ≠ (s.heap.push (kB led)).objs.size := by rw [Heap.size_push]; exact Nat.ne_of_lt (Nat.lt_succ_of_lt hlS)
     have hSf : s.heap.objs.size ∉ [(s.heap.push (kB led)).objs.size, l] := by
      rw [Heap.size_push]; simp only [List.mem_cons, List.not_mem_nil, or_false, not_or]; exact ⟨Nat.ne_of_lt (Nat.lt_succ_self _), Nat.ne_of_gt hlS⟩
     refine ck1 ((Walks.list hh3 _ l hneI us).toS) s.heap.objs.size hSf val hv hb (us.size - 0) 0 _ (by omega) (Nat.zero_le _) ⟨⟨_, Heap.get?_push_size _ rfl, rfl, rfl⟩, (hl1.push _)⟩ ?hS0 ?hR
     case hS0 => exact SetOf_congr ((setObjOf_fresh (knd := strKind prog w) led).setOf (Heap.get?_push_of_some _ hS) (by unfold scanBound; omega)) (fun _ => rfl) rfl
     case hR =>
      intro s' hm hS'
      obtain ⟨h', g', d', tk', os'⟩ := s'
      obtain rfl : g' = s.gens := hm.gens
      obtain rfl : d' = s.drawn := hm.drawn
      obtain rfl : os' = s.os := hm.os
      (show wpAny _ _ _ _ _ _); refine wpAny_pure ?_; (show wpAny _ _ (ret Value.none) _ _ _)
      refine wpAny_pure ⟨rfl, h', tk', rfl, hS', fun b o hb e => ?_⟩
      have hb2 : b ≠ (s.heap.push (kB led)).objs.size := by rw [Heap.size_push]; exact Nat.ne_of_lt (Nat.lt_succ_of_lt hb)
      exact hm.heap b o (by simp only [List.mem_cons, List.not_mem_nil, or_false, not_or]; exact ⟨Nat.ne_of_lt hb, hb2⟩) (Heap.get?_push_of_some _ (Heap.get?_push_of_some _ e))
   · cases r₂ with
     | error e => exact hr₂
     | ok fl₂ =>
      cases fl₂ with
      | ret r =>
       obtain ⟨rfl, h', tk, rfl, hS', hk'⟩ := hr₂
       (repeat (any_goals (first | assumption | wp_step)))
       exact h _ _ hS' hk'
      | _ => exact hr₂
  | _ => exact hr
end
end L2
namespace TL
open PySem PySem.Spec PyProof.Rows L2
inductive T where
 | non | bl (b : Bool) | int (i : Int) | str (x : Str) | ty (n : String)
 | lst (o : Bool) (xs : List T)
 | tup (xs : List T)
 | ins (o : Bool) (c : Str) (ns : List Str) (xs : List T)
mutual
def frz : T → T
 | .lst _ xs => .lst false (frzs xs)
 | .tup xs => .tup (frzs xs)
 | .ins _ c ns xs => .ins false c ns (frzs xs)
 | .non => .non
 | .bl b => .bl b
 | .int i => .int i
 | .str x => .str x
 | .ty n => .ty n
def frzs : List T → List T
 | [] => []
 | t :: ts => frz t :: frzs ts
end
mutual
def eC : T → Bool
 | .lst o xs => !o && bA xs
 | .tup xs => bA xs
 | .ins o _ _ xs => !o && bA xs
 | .non => true
 | .bl _ => true
 | .int _ => true
 | .str _ => true
 | .ty _ => true
def bA : List T → Bool
 | [] => true
 | t :: ts => eC t && bA ts
end
mutual
def eA : T → Bool
 | .lst o xs => o && dL xs
 | .tup xs => dL xs
 | .ins o _ _ xs => o && dL xs
 | .non => true
 | .bl _ => true
 | .int _ => true
 | .str _ => true
 | .ty _ => true
def dL : List T → Bool
 | [] => true
 | t :: ts => eA t && dL ts
end
theorem yG : ∀ ts, bA ts = ts.all eC
 | [] => rfl
 | t :: ts => by simp [bA, yG ts]
theorem ae6 : ∀ ts, dL ts = ts.all eA
 | [] => rfl
 | t :: ts => by simp [dL, ae6 ts]
mutual
theorem ac6 : ∀ t, eC t = true → frz t = t
 | .lst o xs, h => by
  simp only [eC, Bool.and_eq_true, Bool.not_eq_true'] at h
  rw [frz, iA xs h.2, h.1]
 | .tup xs, h => by
  simp only [eC] at h
  rw [frz, iA xs h]
 | .ins o _ _ xs, h => by
  simp only [eC, Bool.and_eq_true, Bool.not_eq_true'] at h
  rw [frz, iA xs h.2, h.1]
 | .non, _ => rfl
 | .bl _, _ => rfl
 | .int _, _ => rfl
 | .str _, _ => rfl
 | .ty _, _ => rfl
theorem iA : ∀ ts, bA ts = true → frzs ts = ts
 | [], _ => rfl
 | t :: ts, h => by
  simp only [bA, Bool.and_eq_true] at h
  rw [frzs, ac6 t h.1, iA ts h.2]
end
structure Exc where
 c : Str
 ns : List Str
 xs : List T
inductive Res (α : Type) where
 | ok (a : α) | ex (x : Exc) | no
def Res.bind {α β : Type} : Res α → (α → Res β) → Res β
 | .ok a, f => f a
 | .ex x, _ => .ex x
 | .no, _ => .no
abbrev Fr := List (Option T)
inductive bT where
 | nx (ρ : Fr) | rt (t : T) | bk (ρ : Fr) | ct (ρ : Fr) | ex (x : Exc) | no
def sZ : HO → Bool
 | .tup _ => true
 | .frz _ _ => true
 | _ => false
def FzL (K : PySem.W.Frag) (H : Hp) (Z : Addr → Prop) (a : Addr) (xs : List V) : Prop :=
 (H a = some (.lst xs) ∧ Z a) ∨ (∃ o, H a = some (.frz o (.lst xs))) ∨
  ∃ (o : Obj) (its : Array Value) (n : Nat), K.lookup a = some o ∧ o.cls = .type "list" ∧ o.dict = none ∧ o.slots = #[] ∧ o.data = .seq its n ∧ its.size ≤ sizeLine ∧ Vals xs its.toList
theorem FzL.sqS {K : PySem.W.Frag} {H : Hp} {Z : Addr → Prop} {a : Addr} {xs : List V} (h : FzL K H Z a xs) : SqS K H a xs := by
 rcases h with ⟨h, _⟩ | ⟨o, h⟩ | h
 · exact .inl (.inl h)
 · exact .inl (.inr ⟨o, h⟩)
 · exact .inr h
theorem FzL.sq {K : PySem.W.Frag} {H : Hp} {Z : Addr → Prop} {a : Addr} {xs : List V} (h : FzL K H Z a xs) : SqL K H a xs := h.sqS.sq
section
variable (K : PySem.W.Frag) (cn : Str → Option Addr)
mutual
def Rep (H : Hp) (Z : Addr → Prop) : T → V → List Addr → Prop
 | .non, v, A => v = .non ∧ A = []
 | .bl b, v, A => v = .bl b ∧ A = []
 | .int i, v, A => v = .int i ∧ A = []
 | .str x, v, A => v = .str x ∧ A = []
 | .ty n, v, A => v = .ty n ∧ A = []
 | .lst true ts, v, A => ∃ a vs B, v = .ref a ∧ A = a :: B ∧ H a = some (.lst vs) ∧ Reps H Z ts vs B
 | .lst false ts, v, A => ∃ a vs, v = .ref a ∧ A = [] ∧ FzL K H Z a vs ∧ Reps H Z ts vs []
 | .tup ts, v, A => ∃ a vs, v = .ref a ∧ SqT K H a vs ∧ Reps H Z ts vs A
 | .ins true c ns ts, v, A => ∃ a C dx vs B, v = .ref a ∧ A = a :: B ∧ cn c = some C ∧ H a = some (.ins C dx (ns.zip vs)) ∧ ns.length = vs.length ∧ Reps H Z ts vs B
 | .ins false c ns ts, v, A => ∃ a C dx vs, v = .ref a ∧ A = [] ∧ cn c = some C ∧ H a = some (.ins C dx (ns.zip vs)) ∧ Z a ∧ ns.length = vs.length ∧ Reps H Z ts vs []
def Reps (H : Hp) (Z : Addr → Prop) : List T → List V → List Addr → Prop
 | [], vs, A => vs = [] ∧ A = []
 | t :: ts, vs, A => ∃ v r B C, vs = v :: r ∧ A = B ++ C ∧ Rep H Z t v B ∧ Reps H Z ts r C
end
end
section
variable {K : PySem.W.Frag} {cn : Str → Option Addr} {H H' : Hp} {Z Z' : Addr → Prop}
theorem FzL.keep {a : Addr} {xs : List V} (h : FzL K H Z a xs) (hk : ∀ a o, H a = some o → (Z a ∨ sZ o = true) → H' a = some o) (hz : ∀ a, Z a → Z' a) : FzL K H' Z' a xs := by
 rcases h with ⟨h, z⟩ | ⟨o, h⟩ | h
 · exact .inl ⟨hk _ _ h (.inl z), hz _ z⟩
 · exact .inr (.inl ⟨o, hk _ _ h (.inr rfl)⟩)
 · exact .inr (.inr h)
theorem SqT.keep {a : Addr} {xs : List V} (h : SqT K H a xs) (hk : ∀ a o, H a = some o → sZ o = true → H' a = some o) : SqT K H' a xs := by
 rcases h with (h | ⟨o, h⟩) | h
 · exact .inl (.inl (hk _ _ h rfl))
 · exact .inl (.inr ⟨o, hk _ _ h rfl⟩)
 · exact .inr h
mutual
theorem Rep.keep : ∀ (t : T) {v : V} {A : List Addr}, Rep K cn H Z t v A → (∀ a o, H a = some o → (a ∈ A ∨ Z a ∨ sZ o = true) → H' a = some o) → (∀ a, Z a → Z' a) → Rep K cn H' Z' t v A
 | .non, _, _, h, _, _ => by simpa only [Rep] using h
 | .bl _, _, _, h, _, _ => by simpa only [Rep] using h
 | .int _, _, _, h, _, _ => by simpa only [Rep] using h
 | .str _, _, _, h, _, _ => by simpa only [Rep] using h
 | .ty _, _, _, h, _, _ => by simpa only [Rep] using h
 | .lst true ts, v, A, h, hk, hz => by
  simp only [Rep] at h ⊢
  obtain ⟨a, vs, B, rfl, rfl, e, r⟩ := h
  exact ⟨a, vs, B, rfl, rfl, hk a _ e (.inl List.mem_cons_self), Reps.keep ts r (fun b o q c => hk b o q (c.imp_left (List.mem_cons_of_mem _))) hz⟩
 | .lst false ts, v, A, h, hk, hz => by
  simp only [Rep] at h ⊢
  obtain ⟨a, vs, rfl, rfl, e, r⟩ := h
  exact ⟨a, vs, rfl, rfl, e.keep (fun b o q c => hk b o q (.inr c)) hz, Reps.keep ts r hk hz⟩
 | .tup ts, v, A, h, hk, hz => by
  simp only [Rep] at h ⊢
  obtain ⟨a, vs, rfl, e, r⟩ := h
  exact ⟨a, vs, rfl, SqT.keep e (fun b o q c => hk b o q (.inr (.inr c))), Reps.keep ts r hk hz⟩
 | .ins true c ns ts, v, A, h, hk, hz => by
  simp only [Rep] at h ⊢
  obtain ⟨a, C, dx, vs, B, rfl, rfl, hc, e, l, r⟩ := h
  exact ⟨a, C, dx, vs, B, rfl, rfl, hc, hk a _ e (.inl List.mem_cons_self), l, Reps.keep ts r (fun b o q c => hk b o q (c.imp_left (List.mem_cons_of_mem _))) hz⟩
 | .ins false c ns ts, v, A, h, hk, hz => by
  simp only [Rep] at h ⊢
  obtain ⟨a, C, dx, vs, rfl, rfl, hc, e, z, l, r⟩ := h
  exact ⟨a, C, dx, vs, rfl, rfl, hc, hk a _ e (.inr (.inl z)), hz a z, l, Reps.keep ts r hk hz⟩
theorem Reps.keep : ∀ (ts : List T) {vs : List V} {A : List Addr}, Reps K cn H Z ts vs A → (∀ a o, H a = some o → (a ∈ A ∨ Z a ∨ sZ o = true) → H' a = some o) → (∀ a, Z a → Z' a) → Reps K cn H' Z' ts vs A
 | [], _, _, h, _, _ => by simpa only [Reps] using h
 | t :: ts, vs, A, h, hk, hz => by
  simp only [Reps] at h ⊢
  obtain ⟨v, r, B, C, rfl, rfl, h1, h2⟩ := h
  exact ⟨v, r, B, C, rfl, rfl, Rep.keep t h1 (fun b o q c => hk b o q (c.imp_left (List.mem_append_left _))) hz, Reps.keep ts h2 (fun b o q c => hk b o q (c.imp_left (List.mem_append_right _))) hz⟩
end
theorem Rep.same {t : T} {v : V} {A : List Addr} (h : Rep K cn H Z t v A) (s : Same H H') (hz : ∀ a, Z a → Z' a) : Rep K cn H' Z' t v A := Rep.keep t h (fun a o q _ => s a o q) hz
theorem Reps.same {t : List T} {v : List V} {A : List Addr} (h : Reps K cn H Z t v A) (s : Same H H') (hz : ∀ a, Z a → Z' a) : Reps K cn H' Z' t v A := Reps.keep t h (fun a o q _ => s a o q) hz
theorem bq5 {a b : Addr} {o o' : HO} (h : H a = some o) (h' : H b = some o') (i : sZ o = true) (i' : sZ o' = false) : a ≠ b := by
 rintro rfl
 rw [h] at h'
 cases h'
 rw [i] at i'
 cases i'
theorem Rep.upd {t : T} {v : V} {A : List Addr} {a : Addr} {o o' : HO} (h : Rep K cn H Z t v A) (ha : H a = some o) (hi : sZ o = false) (hA : a ∉ A) (hZ : ¬ Z a) : Rep K cn (L2.upd H a o') Z t v A :=
 Rep.keep t h (fun b u q c => by
  rw [cQ]
  · exact q
  · rcases c with c | c | c
    · rintro rfl; exact hA c
    · rintro rfl; exact hZ c
    · exact bq5 q ha c hi) (fun _ z => z)
theorem Reps.upd {t : List T} {v : List V} {A : List Addr} {a : Addr} {o o' : HO} (h : Reps K cn H Z t v A) (ha : H a = some o) (hi : sZ o = false) (hA : a ∉ A) (hZ : ¬ Z a) : Reps K cn (L2.upd H a o') Z t v A :=
 Reps.keep t h (fun b u q c => by
  rw [cQ]
  · exact q
  · rcases c with c | c | c
    · rintro rfl; exact hA c
    · rintro rfl; exact hZ c
    · exact bq5 q ha c hi) (fun _ z => z)
mutual
theorem Rep.frz : ∀ (t : T) {v : V} {A : List Addr}, Rep K cn H Z t v A → (∀ a, Z a → Z' a) → (∀ a ∈ A, Z' a) → Rep K cn H Z' (frz t) v []
 | .non, _, _, h, _, _ => by simp only [Rep, TL.frz] at h ⊢; exact ⟨h.1, trivial⟩
 | .bl _, _, _, h, _, _ => by simp only [Rep, TL.frz] at h ⊢; exact ⟨h.1, trivial⟩
 | .int _, _, _, h, _, _ => by simp only [Rep, TL.frz] at h ⊢; exact ⟨h.1, trivial⟩
 | .str _, _, _, h, _, _ => by simp only [Rep, TL.frz] at h ⊢; exact ⟨h.1, trivial⟩
 | .ty _, _, _, h, _, _ => by simp only [Rep, TL.frz] at h ⊢; exact ⟨h.1, trivial⟩
 | .lst true ts, v, A, h, hz, hA => by
  simp only [Rep, TL.frz] at h ⊢
  obtain ⟨a, vs, B, rfl, rfl, e, r⟩ := h
  exact ⟨a, vs, rfl, trivial, .inl ⟨e, hA a List.mem_cons_self⟩, Reps.frz ts r hz fun b hb => hA b (List.mem_cons_of_mem _ hb)⟩
 | .lst false ts, v, A, h, hz, hA => by
  simp only [Rep, TL.frz] at h ⊢
  obtain ⟨a, vs, rfl, rfl, e, r⟩ := h
  exact ⟨a, vs, rfl, trivial, e.keep (fun _ _ q _ => q) hz, Reps.frz ts r hz hA⟩
 | .tup ts, v, A, h, hz, hA => by
  simp only [Rep, TL.frz] at h ⊢
  obtain ⟨a, vs, rfl, e, r⟩ := h
  exact ⟨a, vs, rfl, e, Reps.frz ts r hz hA⟩
 | .ins true c ns ts, v, A, h, hz, hA => by
  simp only [Rep, TL.frz] at h ⊢
  obtain ⟨a, C, dx, vs, B, rfl, rfl, hc, e, l, r⟩ := h
  exact ⟨a, C, dx, vs, rfl, trivial, hc, e, hA a List.mem_cons_self, l, Reps.frz ts r hz fun b hb => hA b (List.mem_cons_of_mem _ hb)⟩
 | .ins false c ns ts, v, A, h, hz, hA => by
  simp only [Rep, TL.frz] at h ⊢
  obtain ⟨a, C, dx, vs, rfl, rfl, hc, e, z, l, r⟩ := h
  exact ⟨a, C, dx, vs, rfl, trivial, hc, e, hz a z, l, Reps.frz ts r hz hA⟩
theorem Reps.frz : ∀ (ts : List T) {vs : List V} {A : List Addr}, Reps K cn H Z ts vs A → (∀ a, Z a → Z' a) → (∀ a ∈ A, Z' a) → Reps K cn H Z' (frzs ts) vs []
 | [], _, _, h, _, _ => by simp only [Reps, TL.frzs] at h ⊢; exact ⟨h.1, trivial⟩
 | t :: ts, vs, A, h, hz, hA => by
  simp only [Reps, TL.frzs] at h ⊢
  obtain ⟨v, r, B, C, rfl, rfl, h1, h2⟩ := h
  exact ⟨v, r, [], [], rfl, rfl, Rep.frz t h1 hz fun b hb => hA b (List.mem_append_left _ hb), Reps.frz ts h2 hz fun b hb => hA b (List.mem_append_right _ hb)⟩
end
mutual
theorem Rep.any : ∀ (t : T) {v : V} {A : List Addr}, eA t = true → Rep K cn H Z t v A → Rep K cn H Z' t v A
 | .non, _, _, _, h => by simpa only [Rep] using h
 | .bl _, _, _, _, h => by simpa only [Rep] using h
 | .int _, _, _, _, h => by simpa only [Rep] using h
 | .str _, _, _, _, h => by simpa only [Rep] using h
 | .ty _, _, _, _, h => by simpa only [Rep] using h
 | .lst true ts, v, A, c, h => by
  simp only [Rep, eA, Bool.true_and] at h c ⊢
  obtain ⟨a, vs, B, rfl, rfl, e, r⟩ := h
  exact ⟨a, vs, B, rfl, rfl, e, Reps.any ts c r⟩
 | .lst false ts, v, A, c, h => by simp [eA] at c
 | .tup ts, v, A, c, h => by
  simp only [Rep, eA] at h c ⊢
  obtain ⟨a, vs, rfl, e, r⟩ := h
  exact ⟨a, vs, rfl, e, Reps.any ts c r⟩
 | .ins true cc ns ts, v, A, c, h => by
  simp only [Rep, eA, Bool.true_and] at h c ⊢
  obtain ⟨a, C, dx, vs, B, rfl, rfl, hc, e, l, r⟩ := h
  exact ⟨a, C, dx, vs, B, rfl, rfl, hc, e, l, Reps.any ts c r⟩
 | .ins false cc ns ts, v, A, c, h => by simp [eA] at c
theorem Reps.any : ∀ (ts : List T) {vs : List V} {A : List Addr}, dL ts = true → Reps K cn H Z ts vs A → Reps K cn H Z' ts vs A
 | [], _, _, _, h => by simpa only [Reps] using h
 | t :: ts, vs, A, c, h => by
  simp only [Reps, dL, Bool.and_eq_true] at h c ⊢
  obtain ⟨v, r, B, C, rfl, rfl, h1, h2⟩ := h
  exact ⟨v, r, B, C, rfl, rfl, Rep.any t c.1 h1, Reps.any ts c.2 h2⟩
end
mutual
theorem Rep.bare : ∀ (t : T) {v : V} {A : List Addr}, eC t = true → Rep K cn H Z t v A → A = []
 | .non, _, _, _, h => by simp only [Rep] at h; exact h.2
 | .bl _, _, _, _, h => by simp only [Rep] at h; exact h.2
 | .int _, _, _, _, h => by simp only [Rep] at h; exact h.2
 | .str _, _, _, _, h => by simp only [Rep] at h; exact h.2
 | .ty _, _, _, _, h => by simp only [Rep] at h; exact h.2
 | .lst true ts, v, A, c, h => by simp [eC] at c
 | .lst false ts, v, A, c, h => by
  simp only [Rep] at h
  obtain ⟨a, vs, rfl, rfl, e, r⟩ := h
  rfl
 | .tup ts, v, A, c, h => by
  simp only [Rep, eC] at h c
  obtain ⟨a, vs, rfl, e, r⟩ := h
  exact Reps.bare ts c r
 | .ins true cc ns ts, v, A, c, h => by simp [eC] at c
 | .ins false cc ns ts, v, A, c, h => by
  simp only [Rep] at h
  obtain ⟨a, C, dx, vs, rfl, rfl, _⟩ := h
  rfl
theorem Reps.bare : ∀ (ts : List T) {vs : List V} {A : List Addr}, bA ts = true → Reps K cn H Z ts vs A → A = []
 | [], _, _, _, h => by simp only [Reps] at h; exact h.2
 | t :: ts, vs, A, c, h => by
  simp only [Reps, bA, Bool.and_eq_true] at h c
  obtain ⟨v, r, B, C, rfl, rfl, h1, h2⟩ := h
  rw [Rep.bare t c.1 h1, Reps.bare ts c.2 h2]
  rfl
end
mutual
theorem Rep.dom : ∀ (t : T) {v : V} {A : List Addr}, Rep K cn H Z t v A → ∀ a ∈ A, ∃ o, H a = some o ∧ sZ o = false
 | .non, _, _, h => by simp only [Rep] at h; rw [h.2]; intro a ha; cases ha
 | .bl _, _, _, h => by simp only [Rep] at h; rw [h.2]; intro a ha; cases ha
 | .int _, _, _, h => by simp only [Rep] at h; rw [h.2]; intro a ha; cases ha
 | .str _, _, _, h => by simp only [Rep] at h; rw [h.2]; intro a ha; cases ha
 | .ty _, _, _, h => by simp only [Rep] at h; rw [h.2]; intro a ha; cases ha
 | .lst true ts, v, A, h => by
  simp only [Rep] at h
  obtain ⟨a, vs, B, rfl, rfl, e, r⟩ := h
  intro b hb
  rcases List.mem_cons.mp hb with rfl | hb
  · exact ⟨_, e, rfl⟩
  · exact Reps.dom ts r b hb
 | .lst false ts, v, A, h => by
  simp only [Rep] at h
  obtain ⟨a, vs, rfl, rfl, e, r⟩ := h
  intro a ha; cases ha
 | .tup ts, v, A, h => by
  simp only [Rep] at h
  obtain ⟨a, vs, rfl, e, r⟩ := h
  exact Reps.dom ts r
 | .ins true cc ns ts, v, A, h => by
  simp only [Rep] at h
  obtain ⟨a, C, dx, vs, B, rfl, rfl, hc, e, l, r⟩ := h
  intro b hb
  rcases List.mem_cons.mp hb with rfl | hb
  · exact ⟨_, e, rfl⟩
  · exact Reps.dom ts r b hb
 | .ins false cc ns ts, v, A, h => by
  simp only [Rep] at h
  obtain ⟨a, C, dx, vs, rfl, rfl, _⟩ := h
  intro a ha; cases ha
theorem Reps.dom : ∀ (ts : List T) {vs : List V} {A : List Addr}, Reps K cn H Z ts vs A → ∀ a ∈ A, ∃ o, H a = some o ∧ sZ o = false
 | [], _, _, h => by simp only [Reps] at h; rw [h.2]; intro a ha; cases ha
 | t :: ts, vs, A, h => by
  simp only [Reps] at h
  obtain ⟨v, r, B, C, rfl, rfl, h1, h2⟩ := h
  intro a ha
  rcases List.mem_append.mp ha with ha | ha
  · exact Rep.dom t h1 a ha
  · exact Reps.dom ts h2 a ha
end
theorem Reps.length : ∀ (ts : List T) {vs : List V} {A : List Addr}, Reps K cn H Z ts vs A → vs.length = ts.length
 | [], _, _, h => by simp only [Reps] at h; rw [h.1]; rfl
 | t :: ts, vs, A, h => by
  simp only [Reps] at h
  obtain ⟨v, r, B, C, rfl, rfl, h1, h2⟩ := h
  simp [Reps.length ts h2]
theorem Reps.get : ∀ (ts : List T) {vs : List V} {A : List Addr} {i : Nat} {t : T}, Reps K cn H Z ts vs A → ts[i]? = some t → ∃ v B, vs[i]? = some v ∧ Rep K cn H Z t v B ∧ (∀ b ∈ B, b ∈ A) ∧ B.Sublist A
 | [], _, _, _, _, h, e => by simp at e
 | t :: ts, vs, A, 0, t', h, e => by
  simp only [Reps] at h
  obtain ⟨v, r, B, C, rfl, rfl, h1, h2⟩ := h
  simp at e
  subst e
  exact ⟨v, B, rfl, h1, fun b hb => List.mem_append_left _ hb, List.sublist_append_left _ _⟩
 | t :: ts, vs, A, i + 1, t', h, e => by
  simp only [Reps] at h
  obtain ⟨v, r, B, C, rfl, rfl, h1, h2⟩ := h
  obtain ⟨v', B', e1, e2, e3, e4⟩ := Reps.get ts (i := i) h2 (by simpa using e)
  exact ⟨v', B', by simpa using e1, e2, fun b hb => List.mem_append_right _ (e3 b hb), e4.trans (List.sublist_append_right _ _)⟩
theorem Reps.append : ∀ (ts : List T) {us : List T} {vs ws : List V} {A B : List Addr}, Reps K cn H Z ts vs A → Reps K cn H Z us ws B → Reps K cn H Z (ts ++ us) (vs ++ ws) (A ++ B)
 | [], us, vs, ws, A, B, h, h' => by
  simp only [Reps] at h
  obtain ⟨rfl, rfl⟩ := h
  exact h'
 | t :: ts, us, vs, ws, A, B, h, h' => by
  simp only [Reps, List.cons_append] at h ⊢
  obtain ⟨v, r, C, D, rfl, rfl, h1, h2⟩ := h
  exact ⟨v, r ++ ws, C, D ++ B, rfl, by simp, h1, Reps.append ts h2 h'⟩
theorem Reps.one {t : T} {v : V} {B : List Addr} (h : Rep K cn H Z t v B) : Reps K cn H Z [t] [v] B := by
 simp only [Reps]
 exact ⟨v, [], B, [], rfl, by simp, h, rfl, rfl⟩
theorem Reps.nil : Reps K cn H Z [] [] [] := by simp [Reps]
theorem Reps.take : ∀ (n : Nat) (ts : List T) {vs : List V}, Reps K cn H Z ts vs [] → Reps K cn H Z (ts.take n) (vs.take n) []
 | 0, ts, vs, h => by simp [Reps]
 | n + 1, [], vs, h => by
  simp only [Reps] at h
  obtain ⟨rfl, _⟩ := h
  simp [Reps]
 | n + 1, t :: ts, vs, h => by
  simp only [Reps] at h
  obtain ⟨v, r, B, C, rfl, e, h1, h2⟩ := h
  have eb : B = [] ∧ C = [] := by simpa using e.symm
  obtain ⟨rfl, rfl⟩ := eb
  simp only [List.take_succ_cons, Reps]
  exact ⟨v, r.take n, [], [], rfl, rfl, h1, Reps.take n ts h2⟩
theorem Reps.drop : ∀ (n : Nat) (ts : List T) {vs : List V}, Reps K cn H Z ts vs [] → Reps K cn H Z (ts.drop n) (vs.drop n) []
 | 0, ts, vs, h => h
 | n + 1, [], vs, h => by
  simp only [Reps] at h
  obtain ⟨rfl, _⟩ := h
  simp [Reps]
 | n + 1, t :: ts, vs, h => by
  simp only [Reps] at h
  obtain ⟨v, r, B, C, rfl, e, h1, h2⟩ := h
  have eb : B = [] ∧ C = [] := by simpa using e.symm
  obtain ⟨rfl, rfl⟩ := eb
  simpa using Reps.drop n ts h2
theorem Reps.reverse : ∀ (ts : List T) {vs : List V}, Reps K cn H Z ts vs [] → Reps K cn H Z ts.reverse vs.reverse []
 | [], vs, h => by
  simp only [Reps] at h
  obtain ⟨rfl, _⟩ := h
  simp [Reps]
 | t :: ts, vs, h => by
  simp only [Reps] at h
  obtain ⟨v, r, B, C, rfl, e, h1, h2⟩ := h
  have eb : B = [] ∧ C = [] := by simpa using e.symm
  obtain ⟨rfl, rfl⟩ := eb
  simp only [List.reverse_cons]
  exact Reps.append _ (Reps.reverse ts h2) (Reps.one h1)
end
end TL
namespace TL
open PySem PySem.Spec PyProof.Rows L2
abbrev St := L2.St
theorem ay7 {H : Hp} {p : Addr} (h : H p = none) (o : HO) : Same H (L2.upd H p o) := fun b u q => by rw [cQ (gG q h)]; exact q
theorem dJ {α : Type} {P : α → Prop} : ∀ b ∈ ([] : List α), P b := fun _ h => nomatch h
def Slot (K : PySem.W.Frag) (cn : Str → Option Addr) (H : Hp) (Z : Addr → Prop) (o : Option T) (w : Option V) (A : List Addr) : Prop :=
 match o with
 | none => A = []
 | some t => ∃ v, w = some v ∧ Rep K cn H Z t v A
def Slots (K : PySem.W.Frag) (cn : Str → Option Addr) (H : Hp) (Z : Addr → Prop) : Fr → St → List (List Addr) → Prop
 | [], σ, As => σ = [] ∧ As = []
 | o :: ρ, σ, As => ∃ w σ' A As', σ = w :: σ' ∧ As = A :: As' ∧ Slot K cn H Z o w A ∧ Slots K cn H Z ρ σ' As'
abbrev gL := List (Nat × V)
structure Frm (Jn : gL) (K : PySem.W.Frag) (cn : Str → Option Addr) (H : Hp) (Z : Addr → Prop) (ρ : Fr) (σ : St) (As : List (List Addr)) : Prop where
 sl : Slots K cn H Z ρ σ As
 nd : As.flatten.Nodup
 nz : ∀ a ∈ As.flatten, ¬ Z a
 zi : ∀ a, Z a → H a ≠ none
 pn : ∀ p ∈ Jn, σ[p.1]? = some (some p.2)
structure Ev (As : List (List Addr)) (H : Hp) (Z : Addr → Prop) (As' : List (List Addr)) (H' : Hp) (Z' : Addr → Prop) : Prop where
 keep : ∀ a o, H a = some o → a ∉ As.flatten → H' a = some o
 own : ∀ a ∈ As'.flatten, a ∈ As.flatten ∨ H a = none
 zz : ∀ a, Z a → Z' a
 zn : ∀ a, Z' a → Z a ∨ a ∈ As.flatten ∨ H a = none
 dom : ∀ a, H' a = none → H a = none
theorem Ev.refl {As : List (List Addr)} {H : Hp} {Z : Addr → Prop} : Ev As H Z As H Z :=
 ⟨fun _ _ h _ => h, fun _ h => .inl h, fun _ h => h, fun _ h => .inl h, fun _ h => h⟩
theorem Ev.trans {As As1 As2 : List (List Addr)} {H H1 H2 : Hp} {Z Z1 Z2 : Addr → Prop} (a : Ev As H Z As1 H1 Z1) (b : Ev As1 H1 Z1 As2 H2 Z2) : Ev As H Z As2 H2 Z2 where
 keep := fun x o h n => b.keep x o (a.keep x o h n) fun q => by
  rcases a.own x q with q | q
  · exact n q
  · rw [h] at q; cases q
 own := fun x h => by
  rcases b.own x h with q | q
  · exact a.own x q
  · exact .inr (a.dom x q)
 zz := fun x h => b.zz x (a.zz x h)
 zn := fun x h => by
  rcases b.zn x h with q | q | q
  · exact a.zn x q
  · exact .inr (a.own x q)
  · exact .inr (.inr (a.dom x q))
 dom := fun x h => a.dom x (b.dom x h)
structure Post (K : PySem.W.Frag) (cn : Str → Option Addr) (As : List (List Addr)) (H : Hp) (Z : Addr → Prop) (mv : List Nat) (H' : Hp) (Z' : Addr → Prop) (t : T) (v : V) (B : List Addr) : Prop where
 same : Same H H'
 zz : ∀ a, Z a → Z' a
 zn : ∀ a, Z' a → Z a ∨ H a = none
 zi : ∀ a, Z' a → H' a ≠ none
 rep : Rep K cn H' Z' t v B
 nd : B.Nodup
 bz : ∀ b ∈ B, ¬ Z' b
 bn : ∀ b ∈ B, H b = none ∨ ∃ i ∈ mv, b ∈ As.getD i []
structure PostB (K : PySem.W.Frag) (cn : Str → Option Addr) (H : Hp) (Z : Addr → Prop) (H' : Hp) (Z' : Addr → Prop) (t : T) (v : V) (B : List Addr) : Prop where
 same : Same H H'
 zz : ∀ a, Z a → Z' a
 zn : ∀ a, Z' a → Z a ∨ H a = none
 zi : ∀ a, Z' a → H' a ≠ none
 rep : Rep K cn H' Z' t v B
structure dr1 (K : PySem.W.Frag) (cn : Str → Option Addr) (As : List (List Addr)) (H : Hp) (Z : Addr → Prop) (x : Exc) (C : Addr) (a : Option Addr) (H' : Hp) (Z' : Addr → Prop) : Prop where
 ev : Ev As H Z [] H' Z'
 cls : cn x.c = some C
 zi : ∀ a, Z' a → H' a ≠ none
 flds : ∃ dx vs, a = some dx ∧ H' dx = some (.xd (x.ns.zip vs)) ∧ x.ns.length = vs.length ∧ Reps K cn H' Z' x.xs vs []
section
variable (Jn : gL) (K : PySem.W.Frag) (cn : Str → Option Addr) (E : XK)
def WpX (As : List (List Addr)) (H : Hp) (Z : Addr → Prop) (x : Exc) : Prop := ∀ C a H' Z', dr1 K cn As H Z x C a H' Z' → E (.ref C) a H'
def WpE (As : List (List Addr)) (H : Hp) (Z : Addr → Prop) (mv : List Nat) (Q : VK) : Res T → Prop
 | .ok t => ∀ v H' Z' B, Post K cn As H Z mv H' Z' t v B → Q v H'
 | .ex x => WpX K cn E As H Z x
 | .no => False
def WpB (As : List (List Addr)) (H : Hp) (Z : Addr → Prop) (Q : VK) : Res T → Prop
 | .ok t => ∀ v H' Z' B, PostB K cn H Z H' Z' t v B → Q v H'
 | .ex x => WpX K cn E As H Z x
 | .no => False
structure PostT (H : Hp) (Z : Addr → Prop) (H' : Hp) (Z' : Addr → Prop) : Prop where
 same : Same H H'
 zz : ∀ a, Z a → Z' a
 zn : ∀ a, Z' a → Z a ∨ H a = none
 zi : ∀ a, Z' a → H' a ≠ none
def WpT (As : List (List Addr)) (H : Hp) (Z : Addr → Prop) (Q : Bool → Hp → Prop) : Res Bool → Prop
 | .ok b => ∀ H' Z', PostT H Z H' Z' → Q b H'
 | .ex x => WpX K cn E As H Z x
 | .no => False
structure dm0 (As : List (List Addr)) (H : Hp) (Z : Addr → Prop) (t : T) (v : V) (H' : Hp) (Z' : Addr → Prop) (B : List Addr) : Prop where
 ev : Ev As H Z [B] H' Z'
 rep : Rep K cn H' Z' t v B
 nd : B.Nodup
 bz : ∀ b ∈ B, ¬ Z' b
 zi : ∀ a, Z' a → H' a ≠ none
def Wp (As : List (List Addr)) (H : Hp) (Z : Addr → Prop) (D : uL) : bT → Prop
 | .nx ρ => ∀ σ' As' H' Z', Frm Jn K cn H' Z' ρ σ' As' → Ev As H Z As' H' Z' → D.nx σ' H'
 | .bk ρ => ∀ σ' As' H' Z', Frm Jn K cn H' Z' ρ σ' As' → Ev As H Z As' H' Z' → D.bk σ' H'
 | .ct ρ => ∀ σ' As' H' Z', Frm Jn K cn H' Z' ρ σ' As' → Ev As H Z As' H' Z' → D.ct σ' H'
 | .rt t => ∀ v H' Z' B, dm0 K cn As H Z t v H' Z' B → D.rt v H'
 | .ex x => WpX K cn E As H Z x
 | .no => False
def RE (mv : List Nat) (te : TE) (d : Fr → Res T) : Prop := ∀ As H Z ρ σ, Frm Jn K cn H Z ρ σ As → ∀ Q, WpE K cn E As H Z mv Q (d ρ) → te σ H Q
def RB (te : TE) (d : Fr → Res T) : Prop := ∀ As H Z ρ σ, Frm Jn K cn H Z ρ σ As → ∀ Q, WpB K cn E As H Z Q (d ρ) → te σ H Q
def RT (tt : TT) (d : Fr → Res Bool) : Prop := ∀ As H Z ρ σ, Frm Jn K cn H Z ρ σ As → ∀ Q, WpT K cn E As H Z Q (d ρ) → tt σ H Q
def RS (ts : TS) (d : Fr → bT) : Prop := ∀ As H Z ρ σ, Frm Jn K cn H Z ρ σ As → ∀ D, Wp Jn K cn E As H Z D (d ρ) → ts D σ H
end
section
variable {Jn : gL} {K : PySem.W.Frag} {cn : Str → Option Addr} {E : XK} {As As1 : List (List Addr)} {H H1 : Hp} {Z Z1 : Addr → Prop} {ρ : Fr} {σ : St}
theorem WpX.ev {x : Exc} (h : WpX K cn E As H Z x) (e : Ev As H Z As1 H1 Z1) : WpX K cn E As1 H1 Z1 x := fun C a H' Z' p => h C a H' Z' ⟨e.trans p.ev, p.cls, p.zi, p.flds⟩
theorem Wp.ev {D : uL} {o : bT} (h : Wp Jn K cn E As H Z D o) (e : Ev As H Z As1 H1 Z1) : Wp Jn K cn E As1 H1 Z1 D o := by
 cases o with
 | nx ρ => exact fun σ' As' H' Z' f q => h σ' As' H' Z' f (e.trans q)
 | bk ρ => exact fun σ' As' H' Z' f q => h σ' As' H' Z' f (e.trans q)
 | ct ρ => exact fun σ' As' H' Z' f q => h σ' As' H' Z' f (e.trans q)
 | rt t => exact fun v H' Z' B p => h v H' Z' B ⟨e.trans p.ev, p.rep, p.nd, p.bz, p.zi⟩
 | ex x => exact WpX.ev h e
 | no => exact h
structure Mo (H : Hp) (Z : Addr → Prop) (H' : Hp) (Z' : Addr → Prop) : Prop where
 same : Same H H'
 zz : ∀ a, Z a → Z' a
 zn : ∀ a, Z' a → Z a ∨ H a = none
 zi : ∀ a, Z' a → H' a ≠ none
theorem Mo.ev {H' : Hp} {Z' : Addr → Prop} (m : Mo H Z H' Z') : Ev As H Z As H' Z' :=
 ⟨fun a o h _ => m.same a o h, fun _ h => .inl h, m.zz, fun a h => (m.zn a h).imp_right .inr, fun a h => m.same.free h⟩
theorem Mo.trans {H2 : Hp} {Z2 : Addr → Prop} (a : Mo H Z H1 Z1) (b : Mo H1 Z1 H2 Z2) : Mo H Z H2 Z2 :=
 ⟨a.same.trans b.same, fun x h => b.zz x (a.zz x h), fun x h => by
  rcases b.zn x h with q | q
  · exact a.zn x q
  · exact .inr (a.same.free q), b.zi⟩
theorem Frm.mo0 (F : Frm Jn K cn H Z ρ σ As) : Mo H Z H Z := ⟨Same.refl _, fun _ h => h, fun _ h => .inl h, F.zi⟩
theorem Post.mo {H' : Hp} {Z' : Addr → Prop} {mv : List Nat} {t : T} {v : V} {B : List Addr} (p : Post K cn As H Z mv H' Z' t v B) : Mo H Z H' Z' := ⟨p.same, p.zz, p.zn, p.zi⟩
theorem PostB.mo {H' : Hp} {Z' : Addr → Prop} {t : T} {v : V} {B : List Addr} (p : PostB K cn H Z H' Z' t v B) : Mo H Z H' Z' := ⟨p.same, p.zz, p.zn, p.zi⟩
theorem PostT.mo {H' : Hp} {Z' : Addr → Prop} (p : PostT H Z H' Z') : Mo H Z H' Z' := ⟨p.same, p.zz, p.zn, p.zi⟩
theorem Mo.postT {H' : Hp} {Z' : Addr → Prop} (p : Mo H Z H' Z') : PostT H Z H' Z' := ⟨p.same, p.zz, p.zn, p.zi⟩
theorem Slot.mo {H' : Hp} {Z' : Addr → Prop} {o : Option T} {w : Option V} {A : List Addr} (h : Slot K cn H Z o w A) (s : Same H H') (hz : ∀ a, Z a → Z' a) : Slot K cn H' Z' o w A := by
 cases o with
 | none => exact h
 | some t => obtain ⟨v, e, r⟩ := h; exact ⟨v, e, r.same s hz⟩
theorem Slots.mo {H' : Hp} {Z' : Addr → Prop} (s : Same H H') (hz : ∀ a, Z a → Z' a) : ∀ {ρ : Fr} {σ : St} {As : List (List Addr)}, Slots K cn H Z ρ σ As → Slots K cn H' Z' ρ σ As
 | [], _, _, h => h
 | o :: ρ, _, _, h => by
  obtain ⟨w, σ', A, As', rfl, rfl, h1, h2⟩ := h
  exact ⟨w, σ', A, As', rfl, rfl, h1.mo s hz, Slots.mo s hz h2⟩
theorem Slots.dom : ∀ {ρ : Fr} {σ : St} {As : List (List Addr)}, Slots K cn H Z ρ σ As → ∀ a ∈ As.flatten, ∃ o, H a = some o ∧ sZ o = false
 | [], _, _, h, a, ha => by obtain ⟨rfl, rfl⟩ := h; simp at ha
 | o :: ρ, _, _, h, a, ha => by
  obtain ⟨w, σ', A, As', rfl, rfl, h1, h2⟩ := h
  rw [List.flatten_cons, List.mem_append] at ha
  rcases ha with ha | ha
  · cases o with
    | none => have : A = [] := h1; subst this; cases ha
    | some t => obtain ⟨v, e, r⟩ := h1; exact r.dom t a ha
  · exact Slots.dom h2 a ha
theorem Frm.mo {H' : Hp} {Z' : Addr → Prop} (F : Frm Jn K cn H Z ρ σ As) (m : Mo H Z H' Z') : Frm Jn K cn H' Z' ρ σ As := by
 refine ⟨F.sl.mo m.same m.zz, F.nd, fun a ha z => ?_, m.zi, F.pn⟩
 rcases m.zn a z with q | q
 · exact F.nz a ha q
 · obtain ⟨o, e, _⟩ := F.sl.dom a ha
   rw [e] at q
   cases q
theorem WpE.mo {H' : Hp} {Z' : Addr → Prop} {mv : List Nat} {Q : VK} {r : Res T} (F : Frm Jn K cn H Z ρ σ As) (h : WpE K cn E As H Z mv Q r) (m : Mo H Z H' Z') : WpE K cn E As H' Z' mv Q r := by
 cases r with
 | ok t => exact fun v H2 Z2 B p => h v H2 Z2 B ⟨m.same.trans p.same, fun a q => p.zz a (m.zz a q), (m.trans p.mo).zn, p.zi, p.rep, p.nd, p.bz, fun b hb => (p.bn b hb).imp_left m.same.free⟩
 | ex x => exact WpX.ev h m.ev
 | no => exact h
theorem WpT.mo {H' : Hp} {Z' : Addr → Prop} {Q : Bool → Hp → Prop} {r : Res Bool} (h : WpT K cn E As H Z Q r) (m : Mo H Z H' Z') : WpT K cn E As H' Z' Q r := by
 cases r with
 | ok b => exact fun H2 Z2 p => h H2 Z2 (m.trans p.mo).postT
 | ex x => exact WpX.ev h m.ev
 | no => exact h
theorem Slots.get : ∀ {ρ : Fr} {σ : St} {As : List (List Addr)} {i : Nat} {t : T}, Slots K cn H Z ρ σ As → ρ[i]? = some (some t) → ∃ v, σ[i]? = some (some v) ∧ Rep K cn H Z t v (As.getD i [])
 | [], _, _, _, _, h, e => by simp at e
 | o :: ρ, _, _, 0, t, h, e => by
  obtain ⟨w, σ', A, As', rfl, rfl, h1, h2⟩ := h
  simp at e
  subst e
  obtain ⟨v, rfl, r⟩ := h1
  exact ⟨v, rfl, r⟩
 | o :: ρ, _, _, i + 1, t, h, e => by
  obtain ⟨w, σ', A, As', rfl, rfl, h1, h2⟩ := h
  obtain ⟨v, e1, e2⟩ := Slots.get (i := i) h2 (by simpa using e)
  exact ⟨v, by simpa using e1, by simpa using e2⟩
theorem Slots.set {t : T} {v : V} {B : List Addr} (r : Rep K cn H Z t v B) : ∀ {ρ : Fr} {σ : St} {As : List (List Addr)} (i : Nat), Slots K cn H Z ρ σ As → Slots K cn H Z (ρ.set i (some t)) (σ.set i (some v)) (As.set i B)
 | [], _, _, _, h => by obtain ⟨rfl, rfl⟩ := h; exact ⟨rfl, rfl⟩
 | o :: ρ, _, _, 0, h => by
  obtain ⟨w, σ', A, As', rfl, rfl, h1, h2⟩ := h
  exact ⟨some v, σ', B, As', rfl, rfl, ⟨v, rfl, r⟩, h2⟩
 | o :: ρ, _, _, i + 1, h => by
  obtain ⟨w, σ', A, As', rfl, rfl, h1, h2⟩ := h
  exact ⟨w, σ'.set i (some v), A, As'.set i B, rfl, rfl, h1, Slots.set r i h2⟩
theorem Slots.kill : ∀ {ρ : Fr} {σ : St} {As : List (List Addr)} (i : Nat), Slots K cn H Z ρ σ As → Slots K cn H Z (ρ.set i none) σ (As.set i [])
 | [], _, _, _, h => by obtain ⟨rfl, rfl⟩ := h; exact ⟨rfl, rfl⟩
 | o :: ρ, _, _, 0, h => by
  obtain ⟨w, σ', A, As', rfl, rfl, h1, h2⟩ := h
  exact ⟨w, σ', [], As', rfl, rfl, rfl, h2⟩
 | o :: ρ, _, _, i + 1, h => by
  obtain ⟨w, σ', A, As', rfl, rfl, h1, h2⟩ := h
  exact ⟨w, σ', A, As'.set i [], rfl, rfl, h1, Slots.kill i h2⟩
theorem Slots.kill2 (o : Option V) : ∀ {ρ : Fr} {σ : St} {As : List (List Addr)} (i : Nat), Slots K cn H Z ρ σ As → Slots K cn H Z (ρ.set i none) (σ.set i o) (As.set i [])
 | [], _, _, _, h => by obtain ⟨rfl, rfl⟩ := h; exact ⟨rfl, rfl⟩
 | o :: ρ, _, _, 0, h => by
  obtain ⟨w, σ', A, As', rfl, rfl, h1, h2⟩ := h
  exact ⟨_, σ', [], As', rfl, rfl, rfl, h2⟩
 | o :: ρ, _, _, i + 1, h => by
  obtain ⟨w, σ', A, As', rfl, rfl, h1, h2⟩ := h
  exact ⟨w, _, A, As'.set i [], rfl, rfl, h1, Slots.kill2 _ i h2⟩
theorem gM {B : List Addr} {a : Addr} : ∀ {As : List (List Addr)} {i : Nat}, a ∈ (As.set i B).flatten → a ∈ B ∨ a ∈ As.flatten
 | [], _, h => by simp at h
 | A :: As, 0, h => by
  rw [List.set_cons_zero, List.flatten_cons, List.mem_append] at h
  rw [List.flatten_cons, List.mem_append]
  exact h.imp_right .inr
 | A :: As, i + 1, h => by
  rw [List.set_cons_succ, List.flatten_cons, List.mem_append] at h
  rw [List.flatten_cons, List.mem_append]
  rcases h with h | h
  · exact .inr (.inl h)
  · exact (gM h).imp_right .inr
theorem mU {B : List Addr} (hB : B.Nodup) : ∀ {As : List (List Addr)} {i : Nat}, As.flatten.Nodup → (∀ b ∈ B, b ∈ As.flatten → b ∈ As.getD i []) → (As.set i B).flatten.Nodup
 | [], _, h, _ => h
 | A :: As, 0, h, d => by
  rw [List.flatten_cons, List.nodup_append] at h
  rw [List.set_cons_zero, List.flatten_cons, List.nodup_append]
  refine ⟨hB, h.2.1, fun b hb c hc e => ?_⟩
  subst e
  have q := d b hb (by rw [List.flatten_cons, List.mem_append]; exact .inr hc)
  exact h.2.2 b (by simpa using q) b hc rfl
 | A :: As, i + 1, h, d => by
  rw [List.flatten_cons, List.nodup_append] at h
  rw [List.set_cons_succ, List.flatten_cons, List.nodup_append]
  have d' : ∀ b ∈ B, b ∈ As.flatten → b ∈ As.getD i [] := fun b hb hc => by
   have q := d b hb (by rw [List.flatten_cons, List.mem_append]; exact .inr hc)
   simpa using q
  refine ⟨h.1, mU hB h.2.1 d', fun a ha c hc e => ?_⟩
  subst e
  rcases gM hc with q | q
  · have z := d a q (by rw [List.flatten_cons, List.mem_append]; exact .inl ha)
    have z' : a ∈ As.getD i [] := by simpa using z
    have z2 : a ∈ As.flatten := by
     rw [List.getD_eq_getElem?_getD] at z'
     cases e : As[i]? with
     | none => rw [e] at z'; cases z'
     | some C => rw [e] at z'; exact List.mem_flatten.mpr ⟨C, List.mem_of_getElem? e, z'⟩
    exact h.2.2 a ha a z2 rfl
  · exact h.2.2 a ha a q rfl
theorem bD {a : Addr} {i : Nat} (h : a ∈ As.getD i []) : a ∈ As.flatten := by
 rw [List.getD_eq_getElem?_getD] at h
 cases e : As[i]? with
 | none => rw [e] at h; cases h
 | some C => rw [e] at h; exact List.mem_flatten.mpr ⟨C, List.mem_of_getElem? e, h⟩
def yZ (Jn : gL) (i : Nat) : Bool := Jn.all fun p => !(p.1 == i)
theorem ax5 {σ : St} {Jn : gL} {i : Nat} (h : yZ Jn i = true) (o : Option V) (q : ∀ p ∈ Jn, σ[p.1]? = some (some p.2)) : ∀ p ∈ Jn, (σ.set i o)[p.1]? = some (some p.2) := fun p hp => by
 unfold yZ at h
 rw [List.all_eq_true] at h
 have := h p hp
 rw [List.getElem?_set_ne (by intro z; simp [z] at this)]
 exact q p hp
theorem Frm.set {t : T} {v : V} {B : List Addr} (F : Frm Jn K cn H Z ρ σ As) (r : Rep K cn H Z t v B) (nd : B.Nodup) (bz : ∀ b ∈ B, ¬ Z b) (i : Nat) (fr : ∀ b ∈ B, b ∈ As.flatten → b ∈ As.getD i []) (hJ : yZ Jn i = true) : Frm Jn K cn H Z (ρ.set i (some t)) (σ.set i (some v)) (As.set i B) :=
 ⟨F.sl.set r i, mU nd F.nd fr, fun a ha => (gM ha).elim (bz a) (F.nz a), F.zi, ax5 hJ _ F.pn⟩
theorem Frm.kill (F : Frm Jn K cn H Z ρ σ As) (i : Nat) : Frm Jn K cn H Z (ρ.set i none) σ (As.set i []) :=
 ⟨F.sl.kill i, mU List.nodup_nil F.nd (fun b hb => by cases hb), fun a ha => (gM ha).elim (fun q => by cases q) (F.nz a), F.zi, F.pn⟩
def kills : List Nat → Fr → Fr
 | [], ρ => ρ
 | i :: is, ρ => kills is (ρ.set i none)
def gA : List Nat → List (List Addr) → List (List Addr)
 | [], As => As
 | i :: is, As => gA is (As.set i [])
theorem Frm.kills (mv : List Nat) : ∀ {ρ : Fr} {As : List (List Addr)}, Frm Jn K cn H Z ρ σ As → Frm Jn K cn H Z (TL.kills mv ρ) σ (gA mv As) := by
 induction mv with
 | nil => exact fun F => F
 | cons i is ih => exact fun F => ih (F.kill i)
theorem fV {mv : List Nat} {a : Addr} : ∀ {As : List (List Addr)}, a ∈ (gA mv As).flatten → a ∈ As.flatten := by
 induction mv with
 | nil => exact fun h => h
 | cons i is ih => exact fun h => (gM (ih h)).elim (fun q => by cases q) id
theorem yQ {mv : List Nat} {i : Nat} {a : Addr} : ∀ {As : List (List Addr)}, As.flatten.Nodup → i ∈ mv → a ∈ As.getD i [] → a ∉ (gA mv As).flatten := by
 induction mv with
 | nil => exact fun _ h => by cases h
 | cons j js ih =>
  intro As nd hi ha hm
  by_cases e : i = j
  · subst e
    have h1 := fV (mv := js) (As := As.set i []) hm
    have : ∀ {As : List (List Addr)} {i : Nat}, As.flatten.Nodup → a ∈ As.getD i [] → a ∉ (As.set i []).flatten := by
     intro As
     induction As with
     | nil => intro i _ h; simp at h
     | cons A As ih2 =>
      intro i nd h hm
      rw [List.flatten_cons, List.nodup_append] at nd
      cases i with
      | zero =>
       rw [List.set_cons_zero, List.flatten_cons, List.nil_append] at hm
       exact nd.2.2 a (by simpa using h) a hm rfl
      | succ i =>
       rw [List.set_cons_succ, List.flatten_cons, List.mem_append] at hm
       have h' : a ∈ As.getD i [] := by simpa using h
       rcases hm with hm | hm
       · exact nd.2.2 a hm a (bD h') rfl
       · exact ih2 nd.2.1 h' hm
    exact this nd ha h1
  · have hi' : i ∈ js := (List.mem_cons.mp hi).resolve_left e
    refine ih (As := As.set j []) (mU List.nodup_nil nd (fun b hb => by cases hb)) hi' ?_ hm
    rw [List.getD_eq_getElem?_getD, List.getElem?_set_ne (Ne.symm e), ← List.getD_eq_getElem?_getD]
    exact ha
def dp2 (i : Nat) (ρ : Fr) : Fr := match ρ[i]? with
 | some (some t) => ρ.set i (some (frz t))
 | _ => ρ
end
end TL
namespace TL
open PySem PySem.Spec PyProof.Rows L2
section
variable {Jn : gL} {K : PySem.W.Frag} {cn : Str → Option Addr} {E : XK}
theorem WpB.wpE {As : List (List Addr)} {H : Hp} {Z : Addr → Prop} {Q : VK} {r : Res T} {mv : List Nat} (w : WpB K cn E As H Z Q r) : WpE K cn E As H Z mv Q r := by
 cases r with
 | ok t => exact fun v H' Z' B p => w v H' Z' B ⟨p.same, p.zz, p.zn, p.zi, p.rep⟩
 | ex x => exact w
 | no => exact w
theorem RE.rb {mv : List Nat} {te : TE} {d : Fr → Res T} (h : RE Jn K cn E mv te d) : RB Jn K cn E te d := fun As H Z ρ σ F Q w => h As H Z ρ σ F Q w.wpE
def aE (i : Nat) : Fr → Res T := fun ρ => match ρ[i]? with
 | some (some t) => .ok t
 | _ => .no
theorem ct6 (i : Nat) : RB Jn K cn E (ar8 i) (aE i) := fun As H Z ρ σ F Q w => by
 unfold aE at w
 cases e : ρ[i]? with
 | none => rw [e] at w; exact False.elim w
 | some o =>
  rw [e] at w
  cases o with
  | none => exact False.elim w
  | some t =>
   obtain ⟨v, es, r⟩ := F.sl.get e
   exact ⟨v, es, w v H Z _ ⟨Same.refl _, fun _ h => h, fun _ h => .inl h, F.zi, r⟩⟩
theorem do0 (i : Nat) : RE Jn K cn E [i] (ar8 i) (aE i) := fun As H Z ρ σ F Q w => by
 unfold aE at w
 cases e : ρ[i]? with
 | none => rw [e] at w; exact False.elim w
 | some o =>
  rw [e] at w
  cases o with
  | none => exact False.elim w
  | some t =>
   obtain ⟨v, es, r⟩ := F.sl.get e
   refine ⟨v, es, w v H Z _ ⟨Same.refl _, fun _ h => h, fun _ h => .inl h, F.zi, r, ?_, fun b hb => F.nz b (bD hb), fun b hb => .inr ⟨i, List.mem_cons_self, hb⟩⟩⟩
   have nd := F.nd
   rw [List.getD_eq_getElem?_getD]
   cases q : As[i]? with
   | none => exact List.nodup_nil
   | some C => exact List.Nodup.sublist (List.sublist_flatten_of_mem (List.mem_of_getElem? q)) nd
def aS (d : Fr → Res T) : Fr → Res T := fun ρ => (d ρ).bind fun t => if eC t = true then .ok t else .no
theorem RB.chk {te : TE} {d : Fr → Res T} (h : RB Jn K cn E te d) : RE Jn K cn E [] te (aS d) := fun As H Z ρ σ F Q w => h As H Z ρ σ F Q (by
 unfold aS at w
 cases e : d ρ with
 | ok t =>
  rw [e] at w
  intro v H' Z' B p
  by_cases c : eC t = true
  · simp only [Res.bind, if_pos c] at w
    have := p.rep.bare t c
    subst this
    exact w v H' Z' [] ⟨p.same, p.zz, p.zn, p.zi, p.rep, List.nodup_nil, dJ, dJ⟩
  · simp only [Res.bind, if_neg c] at w
    exact False.elim w
 | ex x => rw [e] at w; exact w
 | no => rw [e] at w; exact w)
def bu2 (d : Fr → Res T) : Fr → Res T := fun ρ => (d ρ).bind fun t => .ok (frz t)
theorem RE.frz {te : TE} {d : Fr → Res T} (h : RE Jn K cn E [] te d) : RE Jn K cn E [] te (bu2 d) := fun As H Z ρ σ F Q w => h As H Z ρ σ F Q (by
 unfold bu2 at w
 cases e : d ρ with
 | ok t =>
  rw [e] at w
  intro v H' Z' B p
  refine w v H' (fun a => Z' a ∨ a ∈ B) [] ⟨p.same, fun a h => .inl (p.zz a h), fun a h => ?_, fun a h => ?_, Rep.frz t p.rep (fun a h => .inl h) (fun a h => .inr h), List.nodup_nil, dJ, dJ⟩
  · rcases h with h | h
    · exact p.zn a h
    · rcases p.bn a h with q | ⟨i, q, _⟩
      · exact .inr q
      · cases q
  · rcases h with h | h
    · exact p.zi a h
    · obtain ⟨o, q, _⟩ := p.rep.dom t a h
      rw [q]
      exact (fun z => nomatch z)
 | ex x => rw [e] at w; exact w
 | no => rw [e] at w; exact w)
def dC (t : T) : Fr → Res T := fun _ => .ok t
theorem ap9 {t : T} {v : V} (h : ∀ H Z, Rep K cn H Z t v []) : RE Jn K cn E [] (tC v) (dC t) := fun As H Z ρ σ F Q w =>
 w v H Z [] ⟨Same.refl _, fun _ h => h, fun _ h => .inl h, F.zi, h H Z, List.nodup_nil, dJ, dJ⟩
theorem dg0 {i : Int} : RE Jn K cn E [] (tC (.int i)) (dC (.int i)) := ap9 fun H Z => by simp [Rep]
theorem cx8 {i : Str} : RE Jn K cn E [] (tC (.str i)) (dC (.str i)) := ap9 fun H Z => by simp [Rep]
theorem dk3 {i : Bool} : RE Jn K cn E [] (tC (.bl i)) (dC (.bl i)) := ap9 fun H Z => by simp [Rep]
theorem cv6 : RE Jn K cn E [] (tC .non) (dC .non) := ap9 fun H Z => by simp [Rep]
theorem dx1 {n : String} : RE Jn K cn E [] (tC (.ty n)) (dC (.ty n)) := ap9 fun H Z => by simp [Rep]
def mS (K : PySem.W.Frag) (cn : Str → Option Addr) (r : R2) (f : T → T → Res T) : Prop :=
 ∀ (E : XK) (As : List (List Addr)) (H : Hp) (Z : Addr → Prop) (t u : T) (x y : V) (A B : List Addr) (Q : VK), (∀ a, Z a → H a ≠ none) → Rep K cn H Z t x A → Rep K cn H Z u y B → WpE K cn E As H Z [] Q (f t u) → r x y H Q
def aG (f : T → T → Res T) (a b : Fr → Res T) : Fr → Res T := fun ρ => (a ρ).bind fun x => (b ρ).bind fun y => f x y
theorem dr3 {r : R2} {f : T → T → Res T} {ta tb : TE} {a b : Fr → Res T} (hr : mS K cn r f) (ha : RB Jn K cn E ta a) (hb : RB Jn K cn E tb b) : RE Jn K cn E [] (tOp r ta tb) (aG f a b) := fun As H Z ρ σ F Q w => by
 unfold aG at w
 refine ha As H Z ρ σ F _ ?_
 cases e : a ρ with
 | ok t =>
  rw [e] at w
  intro v H1 Z1 B p
  refine hb As H1 Z1 ρ σ (F.mo p.mo) _ ?_
  simp only [Res.bind] at w
  cases e2 : b ρ with
  | ok u =>
   rw [e2] at w
   intro v2 H2 Z2 B2 p2
   exact hr E As H2 Z2 t u v v2 B B2 Q p2.zi (p.rep.same p2.same p2.zz) p2.rep (w.mo F (p.mo.trans p2.mo))
  | ex x => rw [e2] at w; exact WpX.ev w p.mo.ev
  | no => rw [e2] at w; exact w
 | ex x => rw [e] at w; exact w
 | no => rw [e] at w; exact w
def eO (f : T → Res T) (a : Fr → Res T) : Fr → Res T := fun ρ => (a ρ).bind f
def R1R (K : PySem.W.Frag) (cn : Str → Option Addr) (r : V → Hp → VK → Prop) (f : T → Res T) : Prop :=
 ∀ (E : XK) (As : List (List Addr)) (H : Hp) (Z : Addr → Prop) (t : T) (x : V) (A : List Addr) (Q : VK), (∀ a, Z a → H a ≠ none) → Rep K cn H Z t x A → WpE K cn E As H Z [] Q (f t) → r x H Q
theorem dq0 {r : V → Hp → VK → Prop} {f : T → Res T} {ta : TE} {a : Fr → Res T} (hr : R1R K cn r f) (ha : RB Jn K cn E ta a) : RE Jn K cn E [] (tUn r ta) (eO f a) := fun As H Z ρ σ F Q w => by
 unfold eO at w
 refine ha As H Z ρ σ F _ ?_
 cases e : a ρ with
 | ok t =>
  rw [e] at w
  exact fun v H1 Z1 B p => hr E As H1 Z1 t v B Q p.zi p.rep (WpE.mo F w p.mo)
 | ex x => rw [e] at w; exact w
 | no => rw [e] at w; exact w
def lF (f g : T → T → Res T) (a b c : Fr → Res T) : Fr → Res T := fun ρ => (a ρ).bind fun x => (b ρ).bind fun y => (f x y).bind fun k => match k with
 | .bl true => (c ρ).bind fun z => g y z
 | .bl false => .ok (.bl false)
 | _ => .no
theorem WpE.bl {As : List (List Addr)} {H : Hp} {Z : Addr → Prop} {b : Bool} {Q : VK} (w : WpE K cn E As H Z [] Q (.ok (.bl b))) (zi : ∀ a, Z a → H a ≠ none) : Q (.bl b) H :=
 w (.bl b) H Z [] ⟨Same.refl _, fun _ h => h, fun _ h => .inl h, zi, by simp [Rep], List.nodup_nil, dJ, dJ⟩
theorem ck0 {r r' : R2} {f g : T → T → Res T} {ta tb tc : TE} {a b c : Fr → Res T} (hr : mS K cn r f) (hr' : mS K cn r' g) (ha : RB Jn K cn E ta a) (hb : RB Jn K cn E tb b) (hc : RB Jn K cn E tc c) : RE Jn K cn E [] (aq8 r r' ta tb tc) (lF f g a b c) := fun As H Z ρ σ F Q w => by
 unfold lF at w
 refine ha As H Z ρ σ F _ ?_
 cases e : a ρ with
 | ok t =>
  rw [e] at w
  intro v H1 Z1 B p
  refine hb As H1 Z1 ρ σ (F.mo p.mo) _ ?_
  simp only [Res.bind] at w
  cases e2 : b ρ with
  | ok u =>
   rw [e2] at w
   intro v2 H2 Z2 B2 p2
   refine hr E As H2 Z2 t u v v2 B B2 _ p2.zi (p.rep.same p2.same p2.zz) p2.rep ?_
   simp only at w
   cases e3 : f t u with
   | ok k =>
    rw [e3] at w
    intro v3 H3 Z3 B3 p3
    have m3 := (p.mo.trans p2.mo).trans p3.mo
    cases k with
    | bl k =>
     have q := p3.rep
     simp only [Rep] at q
     obtain ⟨rfl, rfl⟩ := q
     refine ⟨k, rfl, ?_⟩
     cases k with
     | true =>
      rw [if_pos rfl]
      refine hc As H3 Z3 ρ σ (F.mo m3) _ ?_
      simp only at w
      cases e4 : c ρ with
      | ok z =>
       rw [e4] at w
       intro v4 H4 Z4 B4 p4
       exact hr' E As H4 Z4 u z v2 v4 B2 B4 Q p4.zi (p2.rep.same (p3.same.trans p4.same) (fun a h => p4.zz a (p3.zz a h))) p4.rep (WpE.mo F w (m3.trans p4.mo))
      | ex x => rw [e4] at w; exact WpX.ev w m3.ev
      | no => rw [e4] at w; exact w
     | false =>
      rw [if_neg (by decide)]
      exact WpE.bl (WpE.mo F w m3) p3.zi
    | _ => exact False.elim w
   | ex x => rw [e3] at w; exact WpX.ev w (p.mo.trans p2.mo).ev
   | no => rw [e3] at w; exact w
  | ex x => rw [e2] at w; exact WpX.ev w p.mo.ev
  | no => rw [e2] at w; exact w
 | ex x => rw [e] at w; exact w
 | no => rw [e] at w; exact w
def oH (a b : Fr → Res T) : Fr → Res T := fun ρ => (a ρ).bind fun x => match x with
 | .bl true => b ρ
 | .bl false => .ok (.bl false)
 | _ => .no
def dm4 (a b : Fr → Res T) : Fr → Res T := fun ρ => (a ρ).bind fun x => match x with
 | .bl true => .ok (.bl true)
 | .bl false => b ρ
 | _ => .no
def av1 (a : Fr → Res T) : Fr → Res T := fun ρ => (a ρ).bind fun x => match x with
 | .bl b => .ok (.bl (!b))
 | _ => .no
theorem cb3 {ta tb : TE} {a b : Fr → Res T} (ha : RB Jn K cn E ta a) (hb : RE Jn K cn E [] tb b) : RE Jn K cn E [] (cu2 ta tb) (oH a b) := fun As H Z ρ σ F Q w => by
 unfold oH at w
 refine ha As H Z ρ σ F _ ?_
 cases e : a ρ with
 | ok t =>
  rw [e] at w
  intro v H1 Z1 B p
  cases t with
  | bl k =>
   have q := p.rep
   simp only [Rep] at q
   obtain ⟨rfl, rfl⟩ := q
   refine ⟨k, rfl, ?_⟩
   cases k with
   | true => rw [if_pos rfl]; exact hb As H1 Z1 ρ σ (F.mo p.mo) Q (WpE.mo F w p.mo)
   | false => rw [if_neg (by decide)]; exact WpE.bl (WpE.mo F w p.mo) p.zi
  | _ => exact False.elim w
 | ex x => rw [e] at w; exact w
 | no => rw [e] at w; exact w
theorem cd4 {ta : TE} {a : Fr → Res T} (ha : RB Jn K cn E ta a) : RE Jn K cn E [] (ck2 ta) (av1 a) := fun As H Z ρ σ F Q w => by
 unfold av1 at w
 refine ha As H Z ρ σ F _ ?_
 cases e : a ρ with
 | ok t =>
  rw [e] at w
  intro v H1 Z1 B p
  cases t with
  | bl k =>
   have q := p.rep
   simp only [Rep] at q
   obtain ⟨rfl, rfl⟩ := q
   exact ⟨k, rfl, WpE.bl (WpE.mo F w p.mo) p.zi⟩
  | _ => exact False.elim w
 | ex x => rw [e] at w; exact w
 | no => rw [e] at w; exact w
def dIf (c : Fr → Res Bool) (a b : Fr → Res T) : Fr → Res T := fun ρ => (c ρ).bind fun k => if k = true then a ρ else b ρ
theorem ds0 {tt : TT} {ta tb : TE} {c : Fr → Res Bool} {a b : Fr → Res T} (hc : RT Jn K cn E tt c) (ha : RE Jn K cn E [] ta a) (hb : RE Jn K cn E [] tb b) : RE Jn K cn E [] (tIf tt ta tb) (dIf c a b) := fun As H Z ρ σ F Q w => by
 unfold dIf at w
 refine hc As H Z ρ σ F _ ?_
 cases e : c ρ with
 | ok k =>
  rw [e] at w
  intro H1 Z1 p
  simp only [Res.bind] at w
  split
  · next h => rw [if_pos h] at w; exact ha As H1 Z1 ρ σ (F.mo p.mo) Q (WpE.mo F w p.mo)
  · next h => rw [if_neg h] at w; exact hb As H1 Z1 ρ σ (F.mo p.mo) Q (WpE.mo F w p.mo)
 | ex x => rw [e] at w; exact w
 | no => rw [e] at w; exact w
def toB : T → Res Bool
 | .bl b => .ok b
 | _ => .no
def bR (a : Fr → Res T) : Fr → Res Bool := fun ρ => (a ρ).bind toB
theorem bs1 {ta : TE} {a : Fr → Res T} (ha : RB Jn K cn E ta a) : RT Jn K cn E (br3 ta) (bR a) := fun As H Z ρ σ F Q w => by
 unfold bR at w
 refine ha As H Z ρ σ F _ ?_
 cases e : a ρ with
 | ok t =>
  rw [e] at w
  intro v H1 Z1 B p
  cases t with
  | bl k =>
   have q := p.rep
   simp only [Rep] at q
   obtain ⟨rfl, rfl⟩ := q
   exact ⟨k, rfl, w H1 Z1 p.mo.postT⟩
  | _ => exact False.elim w
 | ex x => rw [e] at w; exact w
 | no => rw [e] at w; exact w
def uM : T → Res Bool
 | .non => .ok false
 | .bl b => .ok b
 | .int i => .ok (i != 0)
 | .str x => if x.length ≤ sizeLine then .ok ((x.length : Int) != 0) else .no
 | .lst _ xs => .ok (!xs.isEmpty)
 | .tup xs => .ok (!xs.isEmpty)
 | _ => .no
def gW (a : Fr → Res T) : Fr → Res Bool := fun ρ => (a ρ).bind uM
theorem Reps.isEmpty {H : Hp} {Z : Addr → Prop} {ts : List T} {vs : List V} {A : List Addr} (r : Reps K cn H Z ts vs A) : vs.isEmpty = ts.isEmpty := by
 have h := Reps.length ts r
 cases ts <;> cases vs <;> simp_all
theorem cg4 {H : Hp} {Z : Addr → Prop} {t : T} {v : V} {B : List Addr} {k : Bool} (r : Rep K cn H Z t v B) (h : uM t = .ok k) : aw8 K v H k := by
 cases t with
 | non => simp only [Rep] at r; obtain ⟨rfl, _⟩ := r; cases h; rfl
 | bl b => simp only [Rep] at r; obtain ⟨rfl, _⟩ := r; cases h; rfl
 | int b => simp only [Rep] at r; obtain ⟨rfl, _⟩ := r; cases h; rfl
 | str b =>
  simp only [Rep] at r
  obtain ⟨rfl, _⟩ := r
  simp only [uM] at h
  split at h
  · cases h; exact ⟨by assumption, rfl⟩
  · cases h
 | lst o xs =>
  cases h
  cases o with
  | true =>
   simp only [Rep] at r
   obtain ⟨a, vs, B, rfl, rfl, e, r⟩ := r
   exact .inl ⟨vs, SqL.of e, by rw [r.isEmpty]⟩
  | false =>
   simp only [Rep] at r
   obtain ⟨a, vs, rfl, rfl, e, r⟩ := r
   exact .inl ⟨vs, e.sq, by rw [r.isEmpty]⟩
 | tup xs =>
  cases h
  simp only [Rep] at r
  obtain ⟨a, vs, rfl, e, r⟩ := r
  exact .inr (.inl ⟨vs, e, by rw [r.isEmpty]⟩)
 | ty _ => cases h
 | ins _ _ _ _ => cases h
theorem bm6 {t : T} {x : Exc} (h : uM t = .ex x) : False := by
 cases t <;> simp only [uM] at h <;> first | cases h | (split at h <;> cases h)
theorem cz5 {ta : TE} {a : Fr → Res T} (ha : RB Jn K cn E ta a) : RT Jn K cn E (fun σ H Q => ta σ H fun x H' => ∃ k, aw8 K x H' k ∧ Q k H') (gW a) := fun As H Z ρ σ F Q w => by
 unfold gW at w
 refine ha As H Z ρ σ F _ ?_
 cases e : a ρ with
 | ok t =>
  rw [e] at w
  intro v H1 Z1 B p
  simp only [Res.bind] at w
  cases e2 : uM t with
  | ok k => rw [e2] at w; exact ⟨k, cg4 p.rep e2, w H1 Z1 p.mo.postT⟩
  | ex x => exact (bm6 e2).elim
  | no => rw [e2] at w; exact w.elim
 | ex x => rw [e] at w; exact w
 | no => rw [e] at w; exact w
def iG (c : Fr → Res Bool) : Fr → Res Bool := fun ρ => (c ρ).bind fun k => .ok (!k)
def qY (c d : Fr → Res Bool) : Fr → Res Bool := fun ρ => (c ρ).bind fun k => if k = true then d ρ else .ok false
def xA (c d : Fr → Res Bool) : Fr → Res Bool := fun ρ => (c ρ).bind fun k => if k = true then .ok true else d ρ
theorem cf9 {tt : TT} {c : Fr → Res Bool} (hc : RT Jn K cn E tt c) : RT Jn K cn E (de0 tt) (iG c) := fun As H Z ρ σ F Q w => by
 unfold iG at w
 refine hc As H Z ρ σ F _ ?_
 cases e : c ρ with
 | ok k => rw [e] at w; exact fun H1 Z1 p => w H1 Z1 p
 | ex x => rw [e] at w; exact w
 | no => rw [e] at w; exact w
theorem cn6 {tt uu : TT} {c d : Fr → Res Bool} (hc : RT Jn K cn E tt c) (hd : RT Jn K cn E uu d) : RT Jn K cn E (cy7 tt uu) (qY c d) := fun As H Z ρ σ F Q w => by
 unfold qY at w
 refine hc As H Z ρ σ F _ ?_
 cases e : c ρ with
 | ok k =>
  rw [e] at w
  intro H1 Z1 p
  cases k with
  | true => rw [if_pos rfl]; exact hd As H1 Z1 ρ σ (F.mo p.mo) Q (WpT.mo w p.mo)
  | false => rw [if_neg (by decide)]; exact w H1 Z1 p
 | ex x => rw [e] at w; exact w
 | no => rw [e] at w; exact w
theorem dd3 {tt uu : TT} {c d : Fr → Res Bool} (hc : RT Jn K cn E tt c) (hd : RT Jn K cn E uu d) : RT Jn K cn E (tOr tt uu) (xA c d) := fun As H Z ρ σ F Q w => by
 unfold xA at w
 refine hc As H Z ρ σ F _ ?_
 cases e : c ρ with
 | ok k =>
  rw [e] at w
  intro H1 Z1 p
  cases k with
  | false => rw [if_neg (by decide)]; exact hd As H1 Z1 ρ σ (F.mo p.mo) Q (WpT.mo w p.mo)
  | true => rw [if_pos rfl]; exact w H1 Z1 p
 | ex x => rw [e] at w; exact w
 | no => rw [e] at w; exact w
end
end TL
namespace TL
open PySem PySem.Spec PyProof.Rows L2
section
variable {Jn : gL} {K : PySem.W.Frag} {cn : Str → Option Addr} {E : XK}
structure do3 (K : PySem.W.Frag) (cn : Str → Option Addr) (As : List (List Addr)) (H : Hp) (Z : Addr → Prop) (mv : List Nat) (H' : Hp) (Z' : Addr → Prop) (ts : List T) (vs : List V) (B : List Addr) : Prop where
 mo : Mo H Z H' Z'
 rep : Reps K cn H' Z' ts vs B
 nd : B.Nodup
 bz : ∀ b ∈ B, ¬ Z' b
 bn : ∀ b ∈ B, H b = none ∨ ∃ i ∈ mv, b ∈ As.getD i []
def WpA (K : PySem.W.Frag) (cn : Str → Option Addr) (E : XK) (As : List (List Addr)) (H : Hp) (Z : Addr → Prop) (mv : List Nat) (Q : List V → Hp → Prop) : Res (List T) → Prop
 | .ok ts => ∀ vs H' Z' B, do3 K cn As H Z mv H' Z' ts vs B → Q vs H'
 | .ex x => WpX K cn E As H Z x
 | .no => False
def df4 (K : PySem.W.Frag) (cn : Str → Option Addr) (E : XK) (As : List (List Addr)) (H : Hp) (Z : Addr → Prop) (Q : List V → Hp → Prop) : Res (List T) → Prop
 | .ok ts => ∀ vs H' Z' B, Mo H Z H' Z' → Reps K cn H' Z' ts vs B → Q vs H'
 | .ex x => WpX K cn E As H Z x
 | .no => False
def RA (Jn : gL) (K : PySem.W.Frag) (cn : Str → Option Addr) (E : XK) (mv : List Nat) (ta : TA) (d : Fr → Res (List T)) : Prop := ∀ As H Z ρ σ, Frm Jn K cn H Z ρ σ As → ∀ Q, WpA K cn E As H Z mv Q (d ρ) → ta σ H Q
def uS (Jn : gL) (K : PySem.W.Frag) (cn : Str → Option Addr) (E : XK) (ta : TA) (d : Fr → Res (List T)) : Prop := ∀ As H Z ρ σ, Frm Jn K cn H Z ρ σ As → ∀ Q, df4 K cn E As H Z Q (d ρ) → ta σ H Q
def aI : Fr → Res (List T) := fun _ => .ok []
def aD (a : Fr → Res T) (r : Fr → Res (List T)) : Fr → Res (List T) := fun ρ => (a ρ).bind fun t => (r ρ).bind fun ts => .ok (t :: ts)
theorem ca9 : RA Jn K cn E [] as3 aI := fun As H Z ρ σ F Q w => w [] H Z [] ⟨F.mo0, Reps.nil, List.nodup_nil, dJ, dJ⟩
theorem ci5 : uS Jn K cn E as3 aI := fun As H Z ρ σ F Q w => w [] H Z [] F.mo0 Reps.nil
theorem bh9 {As : List (List Addr)} {a : Addr} : ∀ {i j : Nat}, As.flatten.Nodup → a ∈ As.getD i [] → a ∈ As.getD j [] → i = j := by
 induction As with
 | nil => intro i j _ h; simp at h
 | cons A As ih =>
  intro i j nd h1 h2
  rw [List.flatten_cons, List.nodup_append] at nd
  cases i with
  | zero =>
   cases j with
   | zero => rfl
   | succ j => exact absurd rfl (nd.2.2 a (by simpa using h1) a (bD (by simpa using h2)))
  | succ i =>
   cases j with
   | zero => exact absurd rfl (nd.2.2 a (by simpa using h2) a (bD (by simpa using h1)))
   | succ j => exact congrArg (· + 1) (ih (i := i) (j := j) nd.2.1 (by simpa using h1) (by simpa using h2))
theorem cp5 {mv mw : List Nat} {te : TE} {tr : TA} {a : Fr → Res T} {r : Fr → Res (List T)} (ha : RE Jn K cn E mv te a) (hr : RA Jn K cn E mw tr r) (hd : (mv.all fun i => !mw.contains i) = true := by rfl) : RA Jn K cn E (mv ++ mw) (ap1 te tr) (aD a r) := fun As H Z ρ σ F Q w => by
 unfold aD at w
 refine ha As H Z ρ σ F _ ?_
 cases e : a ρ with
 | ok t =>
  rw [e] at w
  intro v H1 Z1 B p
  refine hr As H1 Z1 ρ σ (F.mo p.mo) _ ?_
  simp only [Res.bind] at w
  cases e2 : r ρ with
  | ok ts =>
   rw [e2] at w
   intro vs H2 Z2 B2 p2
   refine w (v :: vs) H2 Z2 (B ++ B2) ⟨p.mo.trans p2.mo, ?_, ?_, ?_, ?_⟩
   · simp only [Reps]
     exact ⟨v, vs, B, B2, rfl, rfl, p.rep.same p2.mo.same p2.mo.zz, p2.rep⟩
   · rw [List.nodup_append]
     refine ⟨p.nd, p2.nd, fun b hb c hc z => ?_⟩
     subst z
     obtain ⟨o, ho, _⟩ := p.rep.dom t b hb
     rcases p2.bn b hc with q | ⟨j, hj, q⟩
     · rw [ho] at q; cases q
     · rcases p.bn b hb with z | ⟨i, hi, z⟩
       · obtain ⟨o', ho', _⟩ := F.sl.dom b (bD q)
         rw [ho'] at z; cases z
       · have eij := bh9 F.nd z q
         subst eij
         have hh := List.all_eq_true.mp hd i hi
         simp at hh
         exact hh hj
   · intro b hb
     rcases List.mem_append.mp hb with hb | hb
     · intro z
       rcases p2.mo.zn b z with z | z
       · exact p.bz b hb z
       · obtain ⟨o, ho, _⟩ := p.rep.dom t b hb
         rw [ho] at z; cases z
     · exact p2.bz b hb
   · intro b hb
     rcases List.mem_append.mp hb with hb | hb
     · exact (p.bn b hb).imp_right fun ⟨i, hi, z⟩ => ⟨i, List.mem_append_left _ hi, z⟩
     · rcases p2.bn b hb with z | ⟨i, hi, z⟩
       · exact .inl (p.same.free z)
       · exact .inr ⟨i, List.mem_append_right _ hi, z⟩
  | ex x => rw [e2] at w; exact WpX.ev w p.mo.ev
  | no => rw [e2] at w; exact w
 | ex x => rw [e] at w; exact w
 | no => rw [e] at w; exact w
theorem bg8 {te : TE} {tr : TA} {a : Fr → Res T} {r : Fr → Res (List T)} (ha : RB Jn K cn E te a) (hr : uS Jn K cn E tr r) : uS Jn K cn E (ap1 te tr) (aD a r) := fun As H Z ρ σ F Q w => by
 unfold aD at w
 refine ha As H Z ρ σ F _ ?_
 cases e : a ρ with
 | ok t =>
  rw [e] at w
  intro v H1 Z1 B p
  refine hr As H1 Z1 ρ σ (F.mo p.mo) _ ?_
  simp only [Res.bind] at w
  cases e2 : r ρ with
  | ok ts =>
   rw [e2] at w
   intro vs H2 Z2 B2 m2 r2
   refine w (v :: vs) H2 Z2 (B ++ B2) (p.mo.trans m2) ?_
   simp only [Reps]
   exact ⟨v, vs, B, B2, rfl, rfl, p.rep.same m2.same m2.zz, r2⟩
  | ex x => rw [e2] at w; exact WpX.ev w p.mo.ev
  | no => rw [e2] at w; exact w
 | ex x => rw [e] at w; exact w
 | no => rw [e] at w; exact w
def fO (r : Fr → Res (List T)) : Fr → Res T := fun ρ => (r ρ).bind fun ts => if ts.length ≤ sizeLine then .ok (.lst true ts) else .no
def cW (r : Fr → Res (List T)) : Fr → Res T := fun ρ => (r ρ).bind fun ts => if ts.length ≤ sizeLine then .ok (.tup ts) else .no
theorem Mo.new {H : Hp} {Z : Addr → Prop} {p : Addr} (o : HO) (hp : H p = none) (zi : ∀ a, Z a → H a ≠ none) : Mo H Z (L2.upd H p o) Z :=
 ⟨ay7 hp o, fun _ h => h, fun _ h => .inl h, fun a h => by
  by_cases e : a = p
  · subst e; rw [dZ]; exact (fun z => nomatch z)
  · rw [cQ e]; exact zi a h⟩
theorem cb9 {mv : List Nat} {ta : TA} {r : Fr → Res (List T)} (h : RA Jn K cn E mv ta r) : RE Jn K cn E mv (cd9 ta) (fO r) := fun As H Z ρ σ F Q w => by
 unfold fO at w
 refine h As H Z ρ σ F _ ?_
 cases e : r ρ with
 | ok ts =>
  rw [e] at w
  intro vs H1 Z1 B p
  simp only [Res.bind] at w
  split at w
  · next hl =>
    refine ⟨by rw [Reps.length ts p.rep]; exact hl, fun q hq => ?_⟩
    have hZ : ¬ Z1 q := fun z => p.mo.zi q z hq
    have m := Mo.new (.lst vs) hq p.mo.zi
    refine w (.ref q) _ Z1 (q :: B) ⟨(p.mo.trans m).same, (p.mo.trans m).zz, (p.mo.trans m).zn, m.zi, ?_, ?_, ?_, ?_⟩
    · simp only [Rep]
      exact ⟨q, vs, B, rfl, rfl, dZ, p.rep.same m.same m.zz⟩
    · refine List.nodup_cons.mpr ⟨fun hb => ?_, p.nd⟩
      obtain ⟨o, ho, _⟩ := Reps.dom ts p.rep q hb
      rw [ho] at hq; cases hq
    · intro b hb
      rcases List.mem_cons.mp hb with rfl | hb
      · exact hZ
      · exact p.bz b hb
    · intro b hb
      rcases List.mem_cons.mp hb with rfl | hb
      · exact .inl (p.mo.same.free hq)
      · exact p.bn b hb
  · exact w.elim
 | ex x => rw [e] at w; exact w
 | no => rw [e] at w; exact w
theorem cn8 {mv : List Nat} {ta : TA} {r : Fr → Res (List T)} (h : RA Jn K cn E mv ta r) : RE Jn K cn E mv (cx9 ta) (cW r) := fun As H Z ρ σ F Q w => by
 unfold cW at w
 refine h As H Z ρ σ F _ ?_
 cases e : r ρ with
 | ok ts =>
  rw [e] at w
  intro vs H1 Z1 B p
  simp only [Res.bind] at w
  split at w
  · next hl =>
    refine ⟨by rw [Reps.length ts p.rep]; exact hl, fun q hq => ?_⟩
    have m := Mo.new (.tup vs) hq p.mo.zi
    refine w (.ref q) _ Z1 B ⟨(p.mo.trans m).same, (p.mo.trans m).zz, (p.mo.trans m).zn, m.zi, ?_, p.nd, p.bz, p.bn⟩
    simp only [Rep]
    exact ⟨q, vs, rfl, SqT.of dZ, p.rep.same m.same m.zz⟩
  · exact w.elim
 | ex x => rw [e] at w; exact w
 | no => rw [e] at w; exact w
def uV (K : PySem.W.Frag) (cn : Str → Option Addr) (r : List V → Hp → VK → Prop) (f : List T → Res T) : Prop :=
 ∀ (E : XK) (As : List (List Addr)) (H : Hp) (Z : Addr → Prop) (ts : List T) (xs : List V) (A : List Addr) (Q : VK), (∀ a, Z a → H a ≠ none) → Reps K cn H Z ts xs A → WpE K cn E As H Z [] Q (f ts) → r xs H Q
def cK (f : List T → Res T) (r : Fr → Res (List T)) : Fr → Res T := fun ρ => (r ρ).bind f
theorem dh2 {r : List V → Hp → VK → Prop} {f : List T → Res T} {ta : TA} {a : Fr → Res (List T)} (hr : uV K cn r f) (ha : uS Jn K cn E ta a) : RE Jn K cn E [] (tCB r ta) (cK f a) := fun As H Z ρ σ F Q w => by
 unfold cK at w
 refine ha As H Z ρ σ F _ ?_
 cases e : a ρ with
 | ok ts => rw [e] at w; exact fun vs H1 Z1 B m p => hr E As H1 Z1 ts vs B Q m.zi p (WpE.mo F w m)
 | ex x => rw [e] at w; exact w
 | no => rw [e] at w; exact w
def RMR (K : PySem.W.Frag) (cn : Str → Option Addr) (ty : String) (r : V → List V → Hp → VK → Prop) (f : T → List T → Res T) : Prop :=
 ∀ (E : XK) (As : List (List Addr)) (H : Hp) (Z : Addr → Prop) (t : T) (ts : List T) (x : V) (xs : List V) (A B : List Addr) (Q : VK), (∀ a, Z a → H a ≠ none) → Rep K cn H Z t x A → Reps K cn H Z ts xs B → WpE K cn E As H Z [] Q (f t ts) → r x xs H Q
def dBM (ok : T → Bool) (f : T → List T → Res T) (o : Fr → Res T) (r : Fr → Res (List T)) : Fr → Res T := fun ρ => (o ρ).bind fun t => if ok t = true then (r ρ).bind fun ts => f t ts else .no
def ak9 : T → Bool
 | .str _ => true
 | _ => false
def ag1 : T → Bool
 | .lst _ _ => true
 | _ => false
theorem bu4 {H : Hp} {Z : Addr → Prop} {t : T} {v : V} {B : List Addr} (h : ak9 t = true) (r : Rep K cn H Z t v B) : tyV K "str" v H := by
 cases t with
 | str x => simp only [Rep] at r; obtain ⟨rfl, _⟩ := r; rfl
 | _ => cases h
theorem Rep.lstSq {H : Hp} {Z : Addr → Prop} {o : Bool} {ts : List T} {v : V} {B : List Addr} (r : Rep K cn H Z (.lst o ts) v B) : ∃ a vs C, v = .ref a ∧ SqS K H a vs ∧ Reps K cn H Z ts vs C ∧ C.Sublist B := by
 cases o with
 | true =>
  simp only [Rep] at r
  obtain ⟨a, vs, C, rfl, rfl, e, r⟩ := r
  exact ⟨a, vs, C, rfl, .inl (.inl e), r, List.sublist_cons_self _ _⟩
 | false =>
  simp only [Rep] at r
  obtain ⟨a, vs, rfl, rfl, e, r⟩ := r
  exact ⟨a, vs, [], rfl, e.sqS, r, List.Sublist.slnil⟩
theorem bw6 {H : Hp} {Z : Addr → Prop} {t : T} {v : V} {B : List Addr} (h : ag1 t = true) (r : Rep K cn H Z t v B) : tyV K "list" v H := by
 cases t with
 | lst o xs => obtain ⟨a, vs, C, rfl, s, _⟩ := r.lstSq; exact .inl ⟨rfl, vs, s.sq⟩
 | _ => cases h
theorem ct2 {ty : String} {r : V → List V → Hp → VK → Prop} {f : T → List T → Res T} {ok : T → Bool} {to : TE} {ta : TA} {o : Fr → Res T} {a : Fr → Res (List T)} (hty : ∀ {H : Hp} {Z : Addr → Prop} {t : T} {v : V} {B : List Addr}, ok t = true → Rep K cn H Z t v B → tyV K ty v H) (hr : RMR K cn ty r f)
 (ho : RB Jn K cn E to o) (ha : uS Jn K cn E ta a) : RE Jn K cn E [] (tBM K ty r to ta) (dBM ok f o a) := fun As H Z ρ σ F Q w => by
 unfold dBM at w
 refine ho As H Z ρ σ F _ ?_
 cases e : o ρ with
 | ok t =>
  rw [e] at w
  intro v H1 Z1 B p
  simp only [Res.bind] at w
  split at w
  · next hok =>
    refine ⟨hty hok p.rep, ha As H1 Z1 ρ σ (F.mo p.mo) _ ?_⟩
    cases e2 : a ρ with
    | ok ts => rw [e2] at w; exact fun vs H2 Z2 B2 m r2 => hr E As H2 Z2 t ts v vs B B2 Q m.zi (p.rep.same m.same m.zz) r2 (WpE.mo F w (p.mo.trans m))
    | ex x => rw [e2] at w; exact WpX.ev w p.mo.ev
    | no => rw [e2] at w; exact w
  · exact w.elim
 | ex x => rw [e] at w; exact w
 | no => rw [e] at w; exact w
def aV (K : PySem.W.Frag) (cn : Str → Option Addr) (n : Nat) (F : List T → Res T) : Sp := fun vs H Q E => vs.length = n ∧ ∃ ts Z, (∀ a, Z a → H a ≠ none) ∧ Reps K cn H Z ts vs [] ∧ WpE K cn E [] H Z [] Q (F ts)
def bB (n : Nat) (F : List T → Res T) (r : Fr → Res (List T)) : Fr → Res T := fun ρ => (r ρ).bind fun ts => if ts.length = n then match F (frzs ts) with
 | .ok t => if (eA t || bA ts) = true then .ok t else .no
 | _ => .no else .no
theorem cw7 {n : Nat} {G : List T → Res T} {ta : TA} {a : Fr → Res (List T)} (ha : uS Jn K cn E ta a) : RE Jn K cn E [] (ct7 (aV K cn n G) ta) (bB n G a) := fun As H Z ρ σ F Q w => by
 unfold bB at w
 refine ha As H Z ρ σ F _ ?_
 cases e : a ρ with
 | ok ts =>
  rw [e] at w
  intro vs H1 Z1 B m r1
  simp only [Res.bind] at w
  split at w
  · next hn =>
    refine ⟨by rw [Reps.length ts r1, hn], frzs ts, (fun a => Z1 a ∨ a ∈ B), fun a h => ?_, Reps.frz ts r1 (fun a h => .inl h) (fun a h => .inr h), ?_⟩
    · rcases h with h | h
      · exact m.zi a h
      · obtain ⟨o, q, _⟩ := Reps.dom ts r1 a h
        rw [q]
        exact (fun z => nomatch z)
    cases e2 : G (frzs ts) with
    | ok t =>
     rw [e2] at w
     intro v H2 Z2 C p
     simp only at w
     split at w
     · next hc =>
       rw [Bool.or_eq_true] at hc
       have bn : ∀ b ∈ C, H1 b = none := fun b hb => (p.bn b hb).resolve_right (fun ⟨i, hi, _⟩ => by cases hi)
       by_cases hcl : eA t = true
       · refine w v H2 Z1 C ⟨m.same.trans p.same, m.zz, fun a h => m.zn a h, fun a h => ?_, Rep.any t hcl p.rep, p.nd, fun b hb z => ?_, fun b hb => .inl (m.same.free (bn b hb))⟩
         · intro q
           exact m.zi a h (p.same.free q)
         · exact m.zi b z (bn b hb)
       · have hno := hc.resolve_left hcl
         have hB := Reps.bare ts hno r1
         subst hB
         refine w v H2 Z2 C ⟨m.same.trans p.same, fun a h => p.zz a (.inl (m.zz a h)), fun a h => ?_, p.zi, p.rep, p.nd, p.bz, fun b hb => .inl (m.same.free (bn b hb))⟩
         rcases p.zn a h with (h | h) | h
         · exact m.zn a h
         · cases h
         · exact .inr (m.same.free h)
     · exact w.elim
    | ex x => rw [e2] at w; exact w.elim
    | no => rw [e2] at w; exact w.elim
  · exact w.elim
 | ex x => rw [e] at w; exact w
 | no => rw [e] at w; exact w
def WpO (K : PySem.W.Frag) (cn : Str → Option Addr) (E : XK) (As : List (List Addr)) (H : Hp) (Z : Addr → Prop) (Q : Option Int → Hp → Prop) : Res (Option Int) → Prop
 | .ok o => ∀ H' Z', Mo H Z H' Z' → Q o H'
 | .ex x => WpX K cn E As H Z x
 | .no => False
def RO (Jn : gL) (K : PySem.W.Frag) (cn : Str → Option Addr) (E : XK) (t : TO) (d : Fr → Res (Option Int)) : Prop := ∀ As H Z ρ σ, Frm Jn K cn H Z ρ σ As → ∀ Q, WpO K cn E As H Z Q (d ρ) → t σ H Q
def kI : Fr → Res (Option Int) := fun _ => .ok none
def toI : T → Res (Option Int)
 | .int i => .ok (some i)
 | _ => .no
def gX (a : Fr → Res T) : Fr → Res (Option Int) := fun ρ => (a ρ).bind toI
theorem cj4 : RO Jn K cn E bq1 kI := fun As H Z ρ σ F Q w => w H Z F.mo0
theorem cc3 {te : TE} {a : Fr → Res T} (ha : RB Jn K cn E te a) : RO Jn K cn E (cf2 te) (gX a) := fun As H Z ρ σ F Q w => by
 unfold gX at w
 refine ha As H Z ρ σ F _ ?_
 cases e : a ρ with
 | ok t =>
  rw [e] at w
  intro v H1 Z1 B p
  cases t with
  | int i =>
   have q := p.rep
   simp only [Rep] at q
   obtain ⟨rfl, rfl⟩ := q
   exact ⟨i, rfl, w H1 Z1 p.mo⟩
  | _ => exact False.elim w
 | ex x => rw [e] at w; exact w
 | no => rw [e] at w; exact w
def RSR (K : PySem.W.Frag) (cn : Str → Option Addr) (r : V → Option Int → Option Int → Hp → VK → Prop) (f : T → Option Int → Option Int → Res T) : Prop :=
 ∀ (E : XK) (As : List (List Addr)) (H : Hp) (Z : Addr → Prop) (t : T) (x : V) (A : List Addr) (lo hi : Option Int) (Q : VK), (∀ a, Z a → H a ≠ none) → Rep K cn H Z t x A → WpE K cn E As H Z [] Q (f t lo hi) → r x lo hi H Q
def vA (f : T → Option Int → Option Int → Res T) (a : Fr → Res T) (l h : Fr → Res (Option Int)) : Fr → Res T := fun ρ => (a ρ).bind fun t => (l ρ).bind fun lo => (h ρ).bind fun hi => f t lo hi
theorem dq1 {r : V → Option Int → Option Int → Hp → VK → Prop} {f : T → Option Int → Option Int → Res T} {te : TE} {tl th : TO} {a : Fr → Res T} {l h : Fr → Res (Option Int)} (hr : RSR K cn r f) (ha : RB Jn K cn E te a) (hl : RO Jn K cn E tl l) (hh : RO Jn K cn E th h) : RE Jn K cn E [] (tSl r te tl th) (vA f a l h) := fun As H Z ρ σ F Q w => by
 unfold vA at w
 refine ha As H Z ρ σ F _ ?_
 cases e : a ρ with
 | ok t =>
  rw [e] at w
  intro v H1 Z1 B p
  refine hl As H1 Z1 ρ σ (F.mo p.mo) _ ?_
  simp only [Res.bind] at w
  cases e2 : l ρ with
  | ok lo =>
   rw [e2] at w
   intro H2 Z2 m2
   have m12 := p.mo.trans m2
   refine hh As H2 Z2 ρ σ (F.mo m12) _ ?_
   simp only at w
   cases e3 : h ρ with
   | ok hi =>
    rw [e3] at w
    intro H3 Z3 m3
    exact hr E As H3 Z3 t v B lo hi Q m3.zi (p.rep.same (m2.same.trans m3.same) fun a h => m3.zz a (m2.zz a h)) (WpE.mo F w (m12.trans m3))
   | ex x => rw [e3] at w; exact WpX.ev w m12.ev
   | no => rw [e3] at w; exact w
  | ex x => rw [e2] at w; exact WpX.ev w p.mo.ev
  | no => rw [e2] at w; exact w
 | ex x => rw [e] at w; exact w
 | no => rw [e] at w; exact w
end
end TL
namespace TL
open PySem PySem.Spec PyProof.Rows L2
section
variable {Jn : gL} {K : PySem.W.Frag} {cn : Str → Option Addr} {E : XK}
def SqF (fz k : Bool) (K : PySem.W.Frag) (H : Hp) (Z : Addr → Prop) (l : Addr) (xs : List V) : Prop := cond k (SqT K H l xs) (if fz = true then FzL K H Z l xs else SqL K H l xs)
def fL (ts us : List T) : List T := List.zipWith (fun t u => T.tup [t, u]) ts us
def zI (ts : List T) : List T := List.zipWith (fun i t => T.tup [.int (i : Nat), t]) (List.range ts.length) ts
def Src (K : PySem.W.Frag) (cn : Str → Option Addr) (fz : Bool) (H : Hp) (Z : Addr → Prop) (J : It) (ts : List T) : Prop :=
 (∃ a vs, J = Itl K a ∧ (if fz = true then FzL K H Z a vs else SqL K H a vs) ∧ Reps K cn H Z ts vs []) ∨
 (∃ a vs, J = Itt K a ∧ SqT K H a vs ∧ Reps K cn H Z ts vs []) ∨
 (∃ (lo : Int) (n : Nat), J = Itr lo n ∧ ts = (List.range n).map fun i => T.int (lo + (i : Nat))) ∨
 (∃ z : Str, J = Its z ∧ ts = z.cps.toList.map fun c => T.str ⟨#[c]⟩) ∨
 (∃ k1 k2 l1 l2 vs ws us us', J = Itz K k1 k2 l1 l2 ∧ SqF fz k1 K H Z l1 vs ∧ SqF fz k2 K H Z l2 ws ∧ Reps K cn H Z us vs [] ∧ Reps K cn H Z us' ws [] ∧ ts = fL us us') ∨
 (∃ l vs us, J = Ite K l ∧ SqF fz false K H Z l vs ∧ Reps K cn H Z us vs [] ∧ ts = zI us)
theorem ao3 {fz : Bool} {H : Hp} {Z : Addr → Prop} {a : Addr} {vs : List V} (h : if fz = true then FzL K H Z a vs else SqL K H a vs) : SqL K H a vs := by
 cases fz with
 | true => rw [if_pos rfl] at h; exact h.sq
 | false => rw [if_neg (by decide)] at h; exact h
theorem SqF.sq {fz k : Bool} {H : Hp} {Z : Addr → Prop} {l : Addr} {xs : List V} (h : SqF fz k K H Z l xs) : wX k K H l xs := by
 cases k with
 | true => exact h
 | false => exact ao3 h
theorem yT {t : T} : ∀ {us us' : List T} {i : Nat}, (fL us us')[i]? = some t → ∃ t1 t2, us[i]? = some t1 ∧ us'[i]? = some t2 ∧ t = .tup [t1, t2] := by
 intro us us' i h
 unfold fL at h
 rw [List.getElem?_zipWith] at h
 cases h1 : us[i]? with
 | none => rw [h1] at h; cases h
 | some t1 =>
  cases h2 : us'[i]? with
  | none => rw [h1, h2] at h; cases h
  | some t2 =>
   rw [h1, h2] at h
   exact ⟨t1, t2, rfl, rfl, (Option.some.inj h).symm⟩
theorem xE (us us' : List T) : (fL us us').length = min us.length us'.length := by simp [fL]
theorem aa6 (us : List T) : (zI us).length = us.length := by simp [zI]
theorem at5 {t : T} {us : List T} {i : Nat} (h : (zI us)[i]? = some t) : ∃ t2, us[i]? = some t2 ∧ t = .tup [.int i, t2] := by
 unfold zI at h
 rw [List.getElem?_zipWith] at h
 cases h2 : us[i]? with
 | none => rw [h2] at h; cases q : (List.range us.length)[i]? <;> rw [q] at h <;> cases h
 | some t2 =>
  have hi := (List.getElem?_eq_some_iff.mp h2).1
  rw [h2, List.getElem?_range hi] at h
  exact ⟨t2, rfl, (Option.some.inj h).symm⟩
theorem ao8 {H : Hp} {Z : Addr → Prop} {t1 t2 : T} {v1 v2 x : V} {p : Addr} (ex : x = .ref p) (hp : H p = some (.tup [v1, v2])) (h1 : Rep K cn H Z t1 v1 []) (h2 : Rep K cn H Z t2 v2 []) : Rep K cn H Z (.tup [t1, t2]) x [] := by
 simp only [Rep]
 refine ⟨p, [v1, v2], ex, SqT.of hp, ?_⟩
 simp only [Reps]
 exact ⟨v1, [v2], [], [], rfl, rfl, h1, v2, [], [], [], rfl, rfl, h2, rfl, rfl⟩
theorem Src.turn {fz : Bool} {H : Hp} {Z : Addr → Prop} {J : It} {ts : List T} {i : Nat} {t : T} (h : Src K cn fz H Z J ts) (zi : ∀ a, Z a → H a ≠ none) (e : ts[i]? = some t) : J.go i H ∧ ∀ x H', J.yld i H x H' → Mo H Z H' Z ∧ Rep K cn H' Z t x [] := by
 have m0 : Mo H Z H Z := ⟨Same.refl _, fun _ h => h, fun _ h => .inl h, zi⟩
 rcases h with ⟨a, vs, rfl, hs, r⟩ | ⟨a, vs, rfl, hs, r⟩ | ⟨lo, n, rfl, rfl⟩ | ⟨z, rfl, rfl⟩ | ⟨k1, k2, l1, l2, vs, ws, us, us', rfl, q1, q2, r1, r2, rfl⟩ | ⟨l, vs, us, rfl, q1, r1, rfl⟩
 · obtain ⟨v, B, ev, rv, hB, _⟩ := Reps.get ts r e
   have hs := ao3 hs
   have eB : B = [] := List.eq_nil_iff_forall_not_mem.mpr fun b hb => by cases hB b hb
   subst eB
   refine ⟨⟨vs, v, hs, ev⟩, fun x H' ⟨e1, e2⟩ => ⟨e1 ▸ m0, ?_⟩⟩
   subst e1
   have := e2 vs hs
   rw [ev] at this
   cases this
   exact rv
 · obtain ⟨v, B, ev, rv, hB, _⟩ := Reps.get ts r e
   have eB : B = [] := List.eq_nil_iff_forall_not_mem.mpr fun b hb => by cases hB b hb
   subst eB
   refine ⟨⟨vs, v, hs, ev⟩, fun x H' ⟨e1, e2⟩ => ⟨e1 ▸ m0, ?_⟩⟩
   subst e1
   have := e2 vs hs
   rw [ev] at this
   cases this
   exact rv
 · rw [List.getElem?_map] at e
   cases q : (List.range n)[i]? with
   | none => rw [q] at e; cases e
   | some j =>
    rw [q] at e
    obtain ⟨h1, h2⟩ := List.getElem?_eq_some_iff.mp q
    simp at h1 h2
    subst h2
    cases e
    refine ⟨h1, fun x H' ⟨e1, e2⟩ => ⟨e1 ▸ m0, ?_⟩⟩
    subst e1
    subst e2
    simp [Rep]
 · rw [List.getElem?_map] at e
   cases q : z.cps.toList[i]? with
   | none => rw [q] at e; cases e
   | some c =>
    rw [q] at e
    cases e
    have h1 := (List.getElem?_eq_some_iff.mp q).1
    refine ⟨show i < z.cps.size by simpa using h1, fun x H' ⟨e1, c', e2, e3⟩ => ⟨e1 ▸ m0, ?_⟩⟩
    subst e1
    rw [← Array.getElem?_toList] at e2
    rw [q] at e2
    cases e2
    subst e3
    simp [Rep]
 · obtain ⟨t1, t2, e1, e2, rfl⟩ := yT e
   obtain ⟨v1, B1, ev1, rv1, hB1, _⟩ := Reps.get us r1 e1
   obtain ⟨v2, B2, ev2, rv2, hB2, _⟩ := Reps.get us' r2 e2
   have n1 : B1 = [] := List.eq_nil_iff_forall_not_mem.mpr fun b hb => by cases hB1 b hb
   have n2 : B2 = [] := List.eq_nil_iff_forall_not_mem.mpr fun b hb => by cases hB2 b hb
   subst n1 n2
   refine ⟨⟨vs, ws, v1, v2, q1.sq, q2.sq, ev1, ev2⟩, fun x H' ⟨p, hp, ex, h⟩ => ?_⟩
   obtain ⟨y1, y2, f1, f2, rfl⟩ := h vs ws q1.sq q2.sq
   rw [ev1] at f1
   rw [ev2] at f2
   cases f1
   cases f2
   have m := Mo.new (.tup [v1, v2]) hp zi
   exact ⟨m, ao8 ex dZ (rv1.same m.same m.zz) (rv2.same m.same m.zz)⟩
 · obtain ⟨t2, e2, rfl⟩ := at5 e
   obtain ⟨v2, B2, ev2, rv2, hB2, _⟩ := Reps.get us r1 e2
   have n2 : B2 = [] := List.eq_nil_iff_forall_not_mem.mpr fun b hb => by cases hB2 b hb
   subst n2
   refine ⟨⟨vs, v2, q1.sq, ev2⟩, fun x H' ⟨p, hp, ex, h⟩ => ?_⟩
   obtain ⟨y2, f2, rfl⟩ := h vs q1.sq
   rw [ev2] at f2
   cases f2
   have m := Mo.new (.tup [.int i, v2]) hp zi
   exact ⟨m, ao8 ex dZ (by simp [Rep]) (rv2.same m.same m.zz)⟩
theorem Src.stop {fz : Bool} {H : Hp} {Z : Addr → Prop} {J : It} {ts : List T} {i : Nat} (h : Src K cn fz H Z J ts) (e : ts.length ≤ i) : J.stop i H := by
 rcases h with ⟨a, vs, rfl, hs, r⟩ | ⟨a, vs, rfl, hs, r⟩ | ⟨lo, n, rfl, rfl⟩ | ⟨z, rfl, rfl⟩ | ⟨k1, k2, l1, l2, vs, ws, us, us', rfl, q1, q2, r1, r2, rfl⟩ | ⟨l, vs, us, rfl, q1, r1, rfl⟩
 · exact ⟨vs, ao3 hs, by rw [Reps.length ts r]; exact e⟩
 · exact ⟨vs, hs, by rw [Reps.length ts r]; exact e⟩
 · show n ≤ i
   simpa using e
 · have : z.cps.size ≤ i := by simpa using e
   exact this
 · refine ⟨vs, ws, q1.sq, q2.sq, ?_⟩
   rw [Reps.length us r1, Reps.length us' r2]
   rw [xE] at e
   omega
 · refine ⟨vs, q1.sq, ?_⟩
   rw [Reps.length us r1]
   rw [aa6] at e
   exact e
theorem Same.sqT {H H' : Hp} {a : Addr} {xs : List V} (e : Same H H') (h : SqT K H a xs) : SqT K H' a xs := SqT.keep h fun b o q _ => e b o q
theorem SqF.mo {fz k : Bool} {H H' : Hp} {Z Z' : Addr → Prop} {l : Addr} {xs : List V} (h : SqF fz k K H Z l xs) (m : Mo H Z H' Z') : SqF fz k K H' Z' l xs := by
 cases k with
 | true => exact Same.sqT m.same h
 | false =>
  cases fz with
  | true => exact FzL.keep (show FzL K H Z l xs from h) (fun b o q _ => m.same b o q) m.zz
  | false => exact m.same.seq (show SqL K H l xs from h)
theorem SqF.kept {k : Bool} {H H' : Hp} {Z Z' : Addr → Prop} {l : Addr} {xs : List V} (h : SqF true k K H Z l xs) (kz : ∀ b o, H b = some o → (Z b ∨ sZ o = true) → H' b = some o) (hz : ∀ a, Z a → Z' a) : SqF true k K H' Z' l xs := by
 cases k with
 | true => exact SqT.keep (show SqT K H l xs from h) fun b o q c => kz b o q (.inr c)
 | false => exact FzL.keep (show FzL K H Z l xs from h) kz hz
theorem Src.mo {fz : Bool} {H H' : Hp} {Z Z' : Addr → Prop} {J : It} {ts : List T} (h : Src K cn fz H Z J ts) (m : Mo H Z H' Z') : Src K cn fz H' Z' J ts := by
 rcases h with ⟨a, vs, rfl, hs, r⟩ | ⟨a, vs, rfl, hs, r⟩ | h | h | ⟨k1, k2, l1, l2, vs, ws, us, us', rfl, q1, q2, r1, r2, rfl⟩ | ⟨l, vs, us, rfl, q1, r1, rfl⟩
 · refine .inl ⟨a, vs, rfl, ?_, r.same m.same m.zz⟩
   cases fz with
   | true => rw [if_pos rfl] at hs ⊢; exact hs.keep (fun b o q _ => m.same b o q) m.zz
   | false => rw [if_neg (by decide)] at hs ⊢; exact m.same.seq hs
 · exact .inr (.inl ⟨a, vs, rfl, Same.sqT m.same hs, r.same m.same m.zz⟩)
 · exact .inr (.inr (.inl h))
 · exact .inr (.inr (.inr (.inl h)))
 · exact .inr (.inr (.inr (.inr (.inl ⟨k1, k2, l1, l2, vs, ws, us, us', rfl, q1.mo m, q2.mo m, r1.same m.same m.zz, r2.same m.same m.zz, rfl⟩))))
 · exact .inr (.inr (.inr (.inr (.inr ⟨l, vs, us, rfl, q1.mo m, r1.same m.same m.zz, rfl⟩))))
theorem Src.ev {H H' : Hp} {Z Z' : Addr → Prop} {J : It} {ts : List T} {ρ : Fr} {σ : St} {As As' : List (List Addr)} (h : Src K cn true H Z J ts) (F : Frm Jn K cn H Z ρ σ As) (e : Ev As H Z As' H' Z') : Src K cn true H' Z' J ts := by
 have kz : ∀ b o, H b = some o → (Z b ∨ sZ o = true) → H' b = some o := fun b o q c => e.keep b o q fun hb => by
  rcases c with c | c
  · exact F.nz b hb c
  · obtain ⟨o', q', i'⟩ := F.sl.dom b hb
    rw [q] at q'
    cases q'
    rw [c] at i'
    cases i'
 rcases h with ⟨a, vs, rfl, hs, r⟩ | ⟨a, vs, rfl, hs, r⟩ | h | h | ⟨k1, k2, l1, l2, vs, ws, us, us', rfl, q1, q2, r1, r2, rfl⟩ | ⟨l, vs, us, rfl, q1, r1, rfl⟩
 · rw [if_pos rfl] at hs
   refine .inl ⟨a, vs, rfl, ?_, Reps.keep ts r (fun b o q c => kz b o q (c.resolve_left ((fun z => nomatch z)))) e.zz⟩
   rw [if_pos rfl]
   exact hs.keep kz e.zz
 · exact .inr (.inl ⟨a, vs, rfl, SqT.keep hs (fun b o q c => kz b o q (.inr c)), Reps.keep ts r (fun b o q c => kz b o q (c.resolve_left ((fun z => nomatch z)))) e.zz⟩)
 · exact .inr (.inr (.inl h))
 · exact .inr (.inr (.inr (.inl h)))
 · exact .inr (.inr (.inr (.inr (.inl ⟨k1, k2, l1, l2, vs, ws, us, us', rfl, q1.kept kz e.zz, q2.kept kz e.zz, Reps.keep us r1 (fun b o q c => kz b o q (c.resolve_left ((fun z => nomatch z)))) e.zz, Reps.keep us' r2 (fun b o q c => kz b o q (c.resolve_left ((fun z => nomatch z)))) e.zz, rfl⟩))))
 · exact .inr (.inr (.inr (.inr (.inr ⟨l, vs, us, rfl, q1.kept kz e.zz, Reps.keep us r1 (fun b o q c => kz b o q (c.resolve_left ((fun z => nomatch z)))) e.zz, rfl⟩))))
def WpI (K : PySem.W.Frag) (cn : Str → Option Addr) (E : XK) (fz : Bool) (As : List (List Addr)) (H : Hp) (Z : Addr → Prop) (R : It → Hp → Prop) : Res (List T) → Prop
 | .ok ts => ∀ J H' Z', Mo H Z H' Z' → Src K cn fz H' Z' J ts → R J H'
 | .ex x => WpX K cn E As H Z x
 | .no => False
def RI (Jn : gL) (K : PySem.W.Frag) (cn : Str → Option Addr) (E : XK) (fz : Bool) (wi : TI) (d : Fr → Res (List T)) : Prop := ∀ As H Z ρ σ, Frm Jn K cn H Z ρ σ As → ∀ R, WpI K cn E fz As H Z R (d ρ) → wi σ H R
noncomputable def gate {α : Type} (p : Prop) (a : Res α) : Res α := @ite _ p (Classical.propDecidable p) a .no
theorem bx4 {α : Type} (a : Res α) : gate True a = a := by unfold gate; rw [if_pos trivial]
theorem vU {α : Type} {p : Prop} {a : Res α} (h : p) : gate p a = a := by unfold gate; rw [if_pos h]
theorem WpI.gate {fz : Bool} {As : List (List Addr)} {H : Hp} {Z : Addr → Prop} {R : It → Hp → Prop} {p : Prop} {r : Res (List T)} (w : WpI K cn E fz As H Z R (TL.gate p r)) : p ∧ WpI K cn E fz As H Z R r := by
 unfold TL.gate at w
 split at w
 · exact ⟨by assumption, w⟩
 · exact w.elim
theorem WpE.gate {As : List (List Addr)} {H : Hp} {Z : Addr → Prop} {mv : List Nat} {Q : VK} {p : Prop} {r : Res T} (w : WpE K cn E As H Z mv Q (TL.gate p r)) : p ∧ WpE K cn E As H Z mv Q r := by
 unfold TL.gate at w
 split at w
 · exact ⟨by assumption, w⟩
 · exact w.elim
def iR (lo : Int) (n : Nat) : List T := (List.range n).map fun i => T.int (lo + (i : Nat))
noncomputable def pO : List T → Res (List T)
 | [.int j] => gate (-(2 ^ 62) ≤ j ∧ j < 2 ^ 62) (.ok (iR 0 j.toNat))
 | _ => .no
noncomputable def bv3 : List T → Res (List T)
 | [.int i, .int j] => gate (-(2 ^ 62) ≤ i ∧ i < 2 ^ 62 ∧ -(2 ^ 62) ≤ j ∧ j < 2 ^ 62) (.ok (iR i (j - i).toNat))
 | _ => .no
def hU (f : List T → Res (List T)) (a : Fr → Res (List T)) : Fr → Res (List T) := fun ρ => (a ρ).bind f
theorem Reps.ints1 {H : Hp} {Z : Addr → Prop} {i : Int} {vs : List V} {A : List Addr} (r : Reps K cn H Z [.int i] vs A) : vs = [.int i] := by
 simp only [Reps, Rep] at r
 obtain ⟨v, w, B, C, rfl, rfl, ⟨rfl, rfl⟩, rfl, rfl⟩ := r
 rfl
theorem Reps.ints2 {H : Hp} {Z : Addr → Prop} {i j : Int} {vs : List V} {A : List Addr} (r : Reps K cn H Z [.int i, .int j] vs A) : vs = [.int i, .int j] := by
 simp only [Reps, Rep] at r
 obtain ⟨v, w, B, C, rfl, rfl, ⟨rfl, rfl⟩, v2, w2, B2, C2, rfl, rfl, ⟨rfl, rfl⟩, rfl, rfl⟩ := r
 rfl
theorem cv4 {fz : Bool} {ta : TA} {a : Fr → Res (List T)} (ha : uS Jn K cn E ta a) : RI Jn K cn E fz (cn2 ta) (hU pO a) := fun As H Z ρ σ F R w => by
 unfold hU at w
 refine ha As H Z ρ σ F _ ?_
 cases e : a ρ with
 | ok ts =>
  rw [e] at w
  intro vs H1 Z1 B m r
  simp only [Res.bind] at w
  unfold pO at w
  split at w
  · next j =>
    obtain ⟨hb, w⟩ := w.gate
    exact ⟨j, r.ints1, hb.1, hb.2, w (Itr 0 j.toNat) H1 Z1 m (.inr (.inr (.inl ⟨0, j.toNat, rfl, rfl⟩)))⟩
  · exact w.elim
 | ex x => rw [e] at w; exact w
 | no => rw [e] at w; exact w
theorem cm4 {fz : Bool} {ta : TA} {a : Fr → Res (List T)} (ha : uS Jn K cn E ta a) : RI Jn K cn E fz (ci2 ta) (hU bv3 a) := fun As H Z ρ σ F R w => by
 unfold hU at w
 refine ha As H Z ρ σ F _ ?_
 cases e : a ρ with
 | ok ts =>
  rw [e] at w
  intro vs H1 Z1 B m r
  simp only [Res.bind] at w
  unfold bv3 at w
  split at w
  · next i j =>
    obtain ⟨hb, w⟩ := w.gate
    exact ⟨i, j, r.ints2, hb, w (Itr i (j - i).toNat) H1 Z1 m (.inr (.inr (.inl ⟨i, _, rfl, rfl⟩)))⟩
  · exact w.elim
 | ex x => rw [e] at w; exact w
 | no => rw [e] at w; exact w
def iV (K : PySem.W.Frag) (tl : TE) : TI := fun σ H R => tl σ H fun x H1 => (∃ a, x = .ref a ∧ (((∃ xs, SqL K H1 a xs) ∧ R (Itl K a) H1) ∨ ((∃ xs, SqT K H1 a xs) ∧ R (Itt K a) H1))) ∨ ∃ z, x = .str z ∧ R (Its z) H1
def lI : T → Res (List T)
 | .lst _ ts => if bA ts = true then .ok ts else .no
 | .tup ts => if bA ts = true then .ok ts else .no
 | .str z => .ok (z.cps.toList.map fun c => T.str ⟨#[c]⟩)
 | _ => .no
def xZ : T → Res (List T)
 | .lst o ts => if (!o && bA ts) = true then .ok ts else .no
 | .tup ts => if bA ts = true then .ok ts else .no
 | .str z => .ok (z.cps.toList.map fun c => T.str ⟨#[c]⟩)
 | _ => .no
def jR (f : T → Res (List T)) (a : Fr → Res T) : Fr → Res (List T) := fun ρ => (a ρ).bind f
theorem Reps.bareE {H : Hp} {Z : Addr → Prop} {ts : List T} {vs : List V} {A : List Addr} (r : Reps K cn H Z ts vs A) (h : bA ts = true) : Reps K cn H Z ts vs [] := by
 have := Reps.bare ts h r
 subst this
 exact r
theorem dk4 {tl : TE} {a : Fr → Res T} (ha : RB Jn K cn E tl a) : RI Jn K cn E false (iV K tl) (jR lI a) := fun As H Z ρ σ F R w => by
 unfold jR at w
 refine ha As H Z ρ σ F _ ?_
 cases e : a ρ with
 | ok t =>
  rw [e] at w
  intro v H1 Z1 B p
  simp only [Res.bind] at w
  cases t with
  | lst o ts =>
   simp only [lI] at w
   split at w
   · next hn =>
     obtain ⟨b, vs, C, rfl, hs, r, _⟩ := p.rep.lstSq
     have hs := hs.sq
     exact .inl ⟨b, rfl, .inl ⟨⟨vs, hs⟩, w _ H1 Z1 p.mo (.inl ⟨b, vs, rfl, by rw [if_neg (by decide)]; exact hs, r.bareE hn⟩)⟩⟩
   · exact w.elim
  | tup ts =>
   simp only [lI] at w
   split at w
   · next hn =>
     have q := p.rep
     simp only [Rep] at q
     obtain ⟨b, vs, rfl, hs, r⟩ := q
     exact .inl ⟨b, rfl, .inr ⟨⟨vs, hs⟩, w _ H1 Z1 p.mo (.inr (.inl ⟨b, vs, rfl, hs, r.bareE hn⟩))⟩⟩
   · exact w.elim
  | str z =>
   have q := p.rep
   simp only [Rep] at q
   obtain ⟨rfl, _⟩ := q
   exact .inr ⟨z, rfl, w _ H1 Z1 p.mo (.inr (.inr (.inr (.inl ⟨z, rfl, rfl⟩))))⟩
  | _ => exact w.elim
 | ex x => rw [e] at w; exact w
 | no => rw [e] at w; exact w
theorem da5 {tl : TE} {a : Fr → Res T} (ha : RB Jn K cn E tl a) : RI Jn K cn E true (iV K tl) (jR xZ a) := fun As H Z ρ σ F R w => by
 unfold jR at w
 refine ha As H Z ρ σ F _ ?_
 cases e : a ρ with
 | ok t =>
  rw [e] at w
  intro v H1 Z1 B p
  simp only [Res.bind] at w
  cases t with
  | lst o ts =>
   simp only [xZ] at w
   split at w
   · next hn =>
     rw [Bool.and_eq_true] at hn
     cases o with
     | true => exact absurd hn.1 (by decide)
     | false =>
      have q := p.rep
      simp only [Rep] at q
      obtain ⟨b, vs, rfl, rfl, hs, r⟩ := q
      exact .inl ⟨b, rfl, .inl ⟨⟨vs, hs.sq⟩, w _ H1 Z1 p.mo (.inl ⟨b, vs, rfl, by rw [if_pos rfl]; exact hs, r⟩)⟩⟩
   · exact w.elim
  | tup ts =>
   simp only [xZ] at w
   split at w
   · next hn =>
     have q := p.rep
     simp only [Rep] at q
     obtain ⟨b, vs, rfl, hs, r⟩ := q
     exact .inl ⟨b, rfl, .inr ⟨⟨vs, hs⟩, w _ H1 Z1 p.mo (.inr (.inl ⟨b, vs, rfl, hs, r.bareE hn⟩))⟩⟩
   · exact w.elim
  | str z =>
   have q := p.rep
   simp only [Rep] at q
   obtain ⟨rfl, _⟩ := q
   exact .inr ⟨z, rfl, w _ H1 Z1 p.mo (.inr (.inr (.inr (.inl ⟨z, rfl, rfl⟩))))⟩
  | _ => exact w.elim
 | ex x => rw [e] at w; exact w
 | no => rw [e] at w; exact w
def aj0 (fz : Bool) : T → Option (List T)
 | .lst o ts => if ((!fz || !o) && bA ts) = true then some ts else none
 | .tup ts => if bA ts = true then some ts else none
 | _ => none
def ak4 (fz : Bool) : List T → Res (List T)
 | [t, u] => match aj0 fz t, aj0 fz u with
  | some ts, some us => .ok (fL ts us)
  | _, _ => .no
 | _ => .no
def bv2 (fz : Bool) : List T → Res (List T)
 | [.lst o ts] => if ((!fz || !o) && bA ts) = true then .ok (zI ts) else .no
 | _ => .no
theorem bi2 {fz : Bool} {H : Hp} {Z : Addr → Prop} {o : Bool} {v : V} {A : List Addr} {ts : List T} (r : Rep K cn H Z (.lst o ts) v A) (hc : ((!fz || !o) && bA ts) = true) : ∃ l vs, v = .ref l ∧ SqF fz false K H Z l vs ∧ Reps K cn H Z ts vs [] := by
 rw [Bool.and_eq_true] at hc
 cases o with
 | true =>
  simp only [Rep] at r
  obtain ⟨a, vs, B, rfl, rfl, e, r⟩ := r
  cases fz with
  | true => simp at hc
  | false => exact ⟨a, vs, rfl, SqL.of e, r.bareE hc.2⟩
 | false =>
  simp only [Rep] at r
  obtain ⟨a, vs, rfl, rfl, e, r⟩ := r
  cases fz with
  | true => exact ⟨a, vs, rfl, e, r⟩
  | false => exact ⟨a, vs, rfl, e.sq, r⟩
theorem bv1 {fz : Bool} {H : Hp} {Z : Addr → Prop} {t : T} {v : V} {A : List Addr} {ts : List T} (r : Rep K cn H Z t v A) (h : aj0 fz t = some ts) : ∃ k l vs, v = .ref l ∧ SqF fz k K H Z l vs ∧ Reps K cn H Z ts vs [] := by
 cases t with
 | lst o us =>
  simp only [aj0] at h
  split at h
  · next hc =>
    cases h
    exact ⟨false, bi2 r hc⟩
  · cases h
 | tup us =>
  simp only [aj0] at h
  split at h
  · next hc =>
    cases h
    simp only [Rep] at r
    obtain ⟨a, vs, rfl, e, r⟩ := r
    exact ⟨true, a, vs, rfl, e, r.bareE hc⟩
  · cases h
 | _ => simp [aj0] at h
theorem df0 {fz : Bool} {ta : TA} {a : Fr → Res (List T)} (ha : uS Jn K cn E ta a) : RI Jn K cn E fz (bw7 K ta) (hU (ak4 fz) a) := fun As H Z ρ σ F R w => by
 unfold hU at w
 refine ha As H Z ρ σ F _ ?_
 cases e : a ρ with
 | ok ts =>
  rw [e] at w
  intro vs H1 Z1 B m r1
  simp only [Res.bind] at w
  unfold ak4 at w
  split at w
  · next t u =>
    split at w
    · next p q h1 h2 =>
      simp only [Reps] at r1
      obtain ⟨v, r', B1, C1, rfl, rfl, ra, v2, r2, B2, C2, rfl, rfl, rb, rfl, rfl⟩ := r1
      obtain ⟨k1, l1, us, rfl, s1, p1⟩ := bv1 ra h1
      obtain ⟨k2, l2, us', rfl, s2, p2⟩ := bv1 rb h2
      exact ⟨k1, k2, l1, l2, rfl, ⟨_, s1.sq⟩, ⟨_, s2.sq⟩, w _ H1 Z1 m (.inr (.inr (.inr (.inr (.inl ⟨k1, k2, l1, l2, us, us', _, _, rfl, s1, s2, p1, p2, rfl⟩)))))⟩
    · exact w.elim
  · exact w.elim
 | ex x => rw [e] at w; exact w
 | no => rw [e] at w; exact w
theorem ca5 {fz : Bool} {ta : TA} {a : Fr → Res (List T)} (ha : uS Jn K cn E ta a) : RI Jn K cn E fz (bp3 K ta) (hU (bv2 fz) a) := fun As H Z ρ σ F R w => by
 unfold hU at w
 refine ha As H Z ρ σ F _ ?_
 cases e : a ρ with
 | ok ts =>
  rw [e] at w
  intro vs H1 Z1 B m r1
  simp only [Res.bind] at w
  unfold bv2 at w
  split at w
  · next o ts =>
    split at w
    · next hc =>
      simp only [Reps] at r1
      obtain ⟨v, r', B1, C1, rfl, rfl, ra, rfl, rfl⟩ := r1
      obtain ⟨l1, us, rfl, s1, p1⟩ := bi2 (fz := fz) ra hc
      exact ⟨l1, rfl, ⟨_, s1.sq⟩, w _ H1 Z1 m (.inr (.inr (.inr (.inr (.inr ⟨l1, us, _, rfl, s1, p1, rfl⟩)))))⟩
    · exact w.elim
  · exact w.elim
 | ex x => rw [e] at w; exact w
 | no => rw [e] at w; exact w
def RG (Jn : gL) (K : PySem.W.Frag) (cn : Str → Option Addr) (ks : List Nat) (g : TG) (b : T → Fr → Option Fr) : Prop :=
 ∀ As H Z ρ σ t v B, Frm Jn K cn H Z ρ σ As → Rep K cn H Z t v B → B.Nodup → (∀ x ∈ B, ¬ Z x) → (∀ x ∈ B, x ∉ As.flatten) → ∀ (Q : St → Hp → Prop) ρ', b t ρ = some ρ' →
  (∀ σ' As', Frm Jn K cn H Z ρ' σ' As' → (∀ a ∈ As'.flatten, a ∈ As.flatten ∨ a ∈ B) → σ'.length = σ.length → (∀ i, i ∉ ks → σ'[i]? = σ[i]?) → Q σ' H) → g v σ H Q
structure RGs (Jn : gL) (K : PySem.W.Frag) (cn : Str → Option Addr) (ks : List Nat) (n : Nat) (g : wW) (b : List T → Fr → Option Fr) : Prop where
 len : ∀ ts ρ ρ', b ts ρ = some ρ' → ts.length = n
 run : ∀ As H Z ρ σ ts vs B, Frm Jn K cn H Z ρ σ As → Reps K cn H Z ts vs B → B.Nodup → (∀ x ∈ B, ¬ Z x) → (∀ x ∈ B, x ∉ As.flatten) → ∀ (Q : St → Hp → Prop) ρ', b ts ρ = some ρ' →
  (∀ σ' As', Frm Jn K cn H Z ρ' σ' As' → (∀ a ∈ As'.flatten, a ∈ As.flatten ∨ a ∈ B) → σ'.length = σ.length → (∀ i, i ∉ ks → σ'[i]? = σ[i]?) → Q σ' H) → g vs σ H Q
def aK (i : Nat) : T → Fr → Option Fr := fun t ρ => some (ρ.set i (some t))
def fM : List T → Fr → Option Fr
 | [], ρ => some ρ
 | _ :: _, _ => none
def bJ (b : T → Fr → Option Fr) (bs : List T → Fr → Option Fr) : List T → Fr → Option Fr
 | [], _ => none
 | t :: ts, ρ => match b t ρ with
  | some ρ1 => bs ts ρ1
  | none => none
def fI (bs : List T → Fr → Option Fr) : T → Fr → Option Fr
 | .tup ts, ρ => bs ts ρ
 | _, _ => none
theorem bt1 (i : Nat) (hJ : yZ Jn i = true := by rfl) : RG Jn K cn [i] (bu3 i) (aK i) := fun As H Z ρ σ t v B F r nd bz bo Q ρ' e h => by
 cases e
 refine h _ (As.set i B) (F.set r nd bz i (fun b hb hA => absurd hA (bo b hb)) hJ) (fun a ha => (gM ha).symm) (by rw [List.length_set]) fun j hj => ?_
 rw [List.getElem?_set_ne (fun z => hj (by rw [z]; exact List.mem_cons_self))]
theorem cy2 : RGs Jn K cn [] 0 cg9 fM where
 len := fun ts ρ ρ' e => by
  cases ts with
  | nil => rfl
  | cons _ _ => cases e
 run := fun As H Z ρ σ ts vs B F r nd bz bo Q ρ' e h => by
  cases ts with
  | nil =>
   cases e
   simp only [Reps] at r
   exact ⟨r.1, h σ As F (fun a ha => .inl ha) rfl fun _ _ => rfl⟩
  | cons _ _ => cases e
theorem bx8 {ks ls : List Nat} {n : Nat} {g : TG} {gs : wW} {b : T → Fr → Option Fr} {bs : List T → Fr → Option Fr} (h1 : RG Jn K cn ks g b) (h2 : RGs Jn K cn ls n gs bs) : RGs Jn K cn (ks ++ ls) (n + 1) (bo2 g gs) (bJ b bs) where
 len := fun ts ρ ρ' e => by
  cases ts with
  | nil => cases e
  | cons t ts =>
   simp only [bJ] at e
   cases e1 : b t ρ with
   | none => rw [e1] at e; cases e
   | some ρ1 => rw [e1] at e; rw [List.length_cons, h2.len ts ρ1 ρ' e]
 run := fun As H Z ρ σ ts vs B F r nd bz bo Q ρ' e h => by
  cases ts with
  | nil => cases e
  | cons t ts =>
   simp only [bJ] at e
   cases e1 : b t ρ with
   | none => rw [e1] at e; cases e
   | some ρ1 =>
    rw [e1] at e
    simp only [Reps] at r
    obtain ⟨v, vs', B1, B2, rfl, rfl, r1, r2⟩ := r
    rw [List.nodup_append] at nd
    refine ⟨v, vs', rfl, h1 As H Z ρ σ t v B1 F r1 nd.1 (fun x hx => bz x (List.mem_append_left _ hx)) (fun x hx => bo x (List.mem_append_left _ hx)) _ ρ1 e1 fun σ1 As1 F1 o1 l1 k1 => ?_⟩
    refine h2.run As1 H Z ρ1 σ1 ts vs' B2 F1 r2 nd.2.1 (fun x hx => bz x (List.mem_append_right _ hx)) (fun x hx hA => ?_) Q ρ' e fun σ2 As2 F2 o2 l2 k2 => ?_
    · rcases o1 x hA with z | z
      · exact bo x (List.mem_append_right _ hx) z
      · exact nd.2.2 x z x hx rfl
    · refine h σ2 As2 F2 (fun a ha => ?_) (l2.trans l1) fun i hi => ?_
      · rcases o2 a ha with z | z
        · exact (o1 a z).imp_right (List.mem_append_left _)
        · exact .inr (List.mem_append_right _ z)
      · rw [k2 i (fun z => hi (List.mem_append_right _ z)), k1 i (fun z => hi (List.mem_append_left _ z))]
theorem cd7 {ks : List Nat} {n : Nat} {gs : wW} {bs : List T → Fr → Option Fr} (h : RGs Jn K cn ks n gs bs) : RG Jn K cn ks (bw9 K n gs) (fI bs) := fun As H Z ρ σ t v B F r nd bz bo Q ρ' e h' => by
 cases t with
 | tup ts =>
  simp only [fI] at e
  simp only [Rep] at r
  obtain ⟨a, vs, rfl, hs, r⟩ := r
  exact ⟨a, vs, rfl, hs, by rw [Reps.length ts r]; exact h.len ts ρ ρ' e, h.run As H Z ρ σ ts vs B F r nd bz bo Q ρ' e h'⟩
 | _ => cases e
def cD (b : T → Fr → Option Fr) (c : Fr → Res Bool) (d : Fr → Res T) (ρ : Fr) : List T → Res (List T)
 | [] => .ok []
 | t :: ts => match b t ρ with
  | none => .no
  | some ρ1 => (c ρ1).bind fun k => if k = true then (d ρ1).bind fun u => (cD b c d ρ ts).bind fun us => .ok (u :: us) else cD b c d ρ ts
def eQ (ks : List Nat) (di : Fr → Res (List T)) (b : T → Fr → Option Fr) (c : Fr → Res Bool) (d : Fr → Res T) : Fr → Res T := fun ρ =>
 (di ρ).bind fun ts => if ts.length ≤ sizeLine then (cD b c d (kills ks ρ) ts).bind fun us => .ok (.lst true us) else .no
def dE : Fr → Res Bool := fun _ => .ok true
theorem cs7 : RT Jn K cn E cx7 dE := fun As H Z ρ σ F Q w => w H Z F.mo0.postT
theorem Slots.clr {H : Hp} {Z : Addr → Prop} (ks : List Nat) : ∀ {ρ : Fr} {σ : St} {As : List (List Addr)}, Slots K cn H Z ρ σ As → Slots K cn H Z (kills ks ρ) (L2.clr ks σ) (gA ks As) := by
 induction ks with
 | nil => exact fun h => h
 | cons k ks ih => exact fun h => ih (h.kill2 none k)
def uR (Jn : gL) (ks : List Nat) : Bool := ks.all (yZ Jn)
theorem as1 : ∀ (ks : List Nat) {σ : St}, uR Jn ks = true → (∀ p ∈ Jn, σ[p.1]? = some (some p.2)) → ∀ p ∈ Jn, (L2.clr ks σ)[p.1]? = some (some p.2)
 | [], _, _, q => q
 | k :: ks, σ, h, q => by
  unfold uR at h
  rw [List.all_cons, Bool.and_eq_true] at h
  exact as1 ks h.2 (ax5 h.1 none q)
theorem Frm.clr {H : Hp} {Z : Addr → Prop} {ρ : Fr} {σ : St} {As : List (List Addr)} (ks : List Nat) (F : Frm Jn K cn H Z ρ σ As) (hk : uR Jn ks = true) : Frm Jn K cn H Z (TL.kills ks ρ) (L2.clr ks σ) (gA ks As) :=
 ⟨F.sl.clr ks, (F.kills ks).nd, (F.kills ks).nz, F.zi, as1 ks hk F.pn⟩
theorem cw3 {ks : List Nat} {g : TG} {tc : TT} {te : TE} {b : T → Fr → Option Fr} {c : Fr → Res Bool} {d : Fr → Res T} (hg : RG Jn K cn ks g b) (hc : RT Jn K cn E tc c) (he : RE Jn K cn E [] te d) (hk : uR Jn ks = true)
 {As : List (List Addr)} {H : Hp} {Z : Addr → Prop} {ρ : Fr} {σ : St} (F : Frm Jn K cn H Z ρ σ As) {J : It} {ts : List T} (hs : Src K cn false H Z J ts) (hl : ts.length ≤ sizeLine) {Q : VK}
 (w : WpE K cn E As H Z [] Q ((cD b c d (kills ks ρ) ts).bind fun us => .ok (.lst true us))) : CGo ks g tc te σ (fun D H' => Q (.ref D) H') J H := by
 let R (us : List T) (rest : List T) : Res T := (cD b c d (kills ks ρ) rest).bind fun us' => .ok (.lst true (us ++ us'))
 refine ⟨fun i m ys H' => m = ts.length - i ∧ i ≤ ts.length ∧ ∃ us Z' B, Mo H Z H' Z' ∧ Reps K cn H' Z' us ys B ∧ B.Nodup ∧ (∀ x ∈ B, ¬ Z' x ∧ H x = none) ∧ us.length ≤ i ∧ WpE K cn E As H Z [] Q (R us (ts.drop i)), ⟨ts.length, by simp, Nat.zero_le _, [], Z, [], F.mo0, Reps.nil, List.nodup_nil, dJ, Nat.le_refl _, ?_⟩, ?_⟩
 · simpa [R] using w
 rintro i m ys H1 ⟨rfl, hi, us, Z1, B, m1, r1, nd, bz, hul, w⟩
 have hyl := Reps.length us r1
 have s1 := hs.mo m1
 by_cases hlt : i < ts.length
 · obtain ⟨t, et⟩ : ∃ t, ts[i]? = some t := ⟨ts[i], List.getElem?_eq_getElem hlt⟩
   obtain ⟨go, yl⟩ := s1.turn m1.zi et
   have ed : ts.drop i = t :: ts.drop (i + 1) := by
    have := List.getElem?_eq_some_iff.mp et
    obtain ⟨h1, h2⟩ := this
    rw [← h2]
    exact List.drop_eq_getElem_cons hlt
   refine .inr ⟨go, by omega, _, fun ys' H' p' => ⟨ts.length - (i + 1), by omega, p'⟩, fun x H' y => ?_⟩
   obtain ⟨my, rx⟩ := yl x H' y
   have r1 := r1.same my.same my.zz
   have m1 := m1.trans my
   have F1 := (F.mo m1).clr ks hk
   rw [ed] at w
   simp only [R, cD] at w
   cases eb : b t (kills ks ρ) with
   | none => rw [eb] at w; exact w.elim
   | some ρ1 =>
    rw [eb] at w
    simp only at w
    refine hg (gA ks As) H' Z1 (kills ks ρ) (L2.clr ks σ) t x [] F1 rx List.nodup_nil (dJ) (dJ) _ ρ1 eb fun σ2 As2 F2 o2 l2 k2 => ⟨⟨?_, fun j v hj => ?_⟩, ?_⟩
    · rw [l2, nZ]
    · have := (aj4 ks σ hj).2
      rw [k2 j this, hj]
    refine hc As2 H' Z1 ρ1 σ2 F2 _ ?_
    have toX : ∀ {x : Exc} {H2 : Hp} {Z2 : Addr → Prop}, Mo H' Z1 H2 Z2 → WpX K cn E As H Z x → WpX K cn E As2 H2 Z2 x := by
     intro x H2 Z2 m2 h
     refine h.ev (m1.trans m2).ev |>.ev ⟨fun _ _ q _ => q, fun a ha => ?_, fun _ q => q, fun _ q => .inl q, fun _ q => q⟩
     rcases o2 a ha with z | z
     · exact .inl (fV z)
     · cases z
    cases ec : c ρ1 with
    | ok k =>
     rw [ec] at w
     intro H2 Z2 p2
     simp only [Res.bind] at w
     cases k with
     | true =>
      rw [if_pos rfl] at w
      rw [if_pos rfl]
      refine he As2 H2 Z2 ρ1 σ2 (F2.mo p2.mo) _ ?_
      cases ee : d ρ1 with
      | ok u =>
       rw [ee] at w
       intro v H3 Z3 C p3
       have m3 := (m1.trans p2.mo).trans p3.mo
       have bnC : ∀ y ∈ C, H2 y = none := fun y hy => (p3.bn y hy).resolve_right (fun ⟨i, hi, _⟩ => by cases hi)
       refine ⟨rfl, hlt, us ++ [u], Z3, B ++ C, m3, Reps.append us (r1.same (p2.same.trans p3.same) (fun a h => p3.zz a (p2.zz a h))) (Reps.one p3.rep), ?_, ?_, by simp; omega, ?_⟩
       · rw [List.nodup_append]
         refine ⟨nd, p3.nd, fun x hx y hy e => ?_⟩
         subst e
         obtain ⟨o, ho, _⟩ := Reps.dom us r1 x hx
         have := bnC x hy
         rw [p2.same x o ho] at this
         cases this
       · intro x hx
         rcases List.mem_append.mp hx with hx | hx
         · refine ⟨fun z => ?_, (bz x hx).2⟩
           obtain ⟨o, ho, _⟩ := Reps.dom us r1 x hx
           rcases (p2.mo.trans p3.mo).zn x z with z | z
           · exact (bz x hx).1 z
           · rw [ho] at z; cases z
         · exact ⟨p3.bz x hx, (m1.trans p2.mo).same.free (bnC x hx)⟩
       · simp only [R]
         have : ∀ r : Res (List T), ((r.bind fun us' => Res.ok (u :: us')).bind fun us' => Res.ok (T.lst true (us ++ us'))) = r.bind fun us' => Res.ok (T.lst true (us ++ [u] ++ us')) := by
          intro r
          cases r <;> simp [Res.bind]
         simp only at w
         rw [← this]
         exact w
      | ex x => rw [ee] at w; exact toX p2.mo w
      | no => rw [ee] at w; exact w.elim
     | false =>
      rw [if_neg (by decide)] at w
      rw [if_neg (by decide)]
      refine ⟨rfl, hlt, us, Z2, B, m1.trans p2.mo, r1.same p2.same p2.zz, nd, fun x hx => ⟨fun z => ?_, (bz x hx).2⟩, by omega, w⟩
      obtain ⟨o, ho, _⟩ := Reps.dom us r1 x hx
      rcases p2.zn x z with z | z
      · exact (bz x hx).1 z
      · rw [ho] at z; cases z
    | ex x => rw [ec] at w; exact toX ⟨Same.refl _, fun _ h => h, fun _ h => .inl h, m1.zi⟩ w
    | no => rw [ec] at w; exact w.elim
 · have ei : i = ts.length := by omega
   subst ei
   refine .inl ⟨s1.stop (Nat.le_refl _), fun D hD => ?_⟩
   rw [List.drop_length] at w
   simp only [R, cD, Res.bind, List.append_nil] at w
   have hm := m1.trans (Mo.new (.lst ys) hD m1.zi)
   refine w (.ref D) _ Z1 (D :: B) ⟨hm.same, hm.zz, hm.zn, hm.zi, ?_, ?_, ?_, ?_⟩
   · simp only [Rep]
     exact ⟨D, ys, B, rfl, rfl, dZ, r1.same (ay7 hD _) (fun _ h => h)⟩
   · refine List.nodup_cons.mpr ⟨fun hb => ?_, nd⟩
     obtain ⟨o, ho, _⟩ := Reps.dom us r1 D hb
     rw [ho] at hD; cases hD
   · intro x hx
     rcases List.mem_cons.mp hx with rfl | hx
     · exact fun z => m1.zi _ z hD
     · exact (bz x hx).1
   · intro x hx
     rcases List.mem_cons.mp hx with rfl | hx
     · exact .inl (m1.same.free hD)
     · exact .inl (bz x hx).2
theorem bg2 {ks : List Nat} {wi : TI} {g : TG} {tc : TT} {te : TE} {di : Fr → Res (List T)} {b : T → Fr → Option Fr} {c : Fr → Res Bool} {d : Fr → Res T} (hi : RI Jn K cn E false wi di) (hg : RG Jn K cn ks g b) (hc : RT Jn K cn E tc c) (he : RE Jn K cn E [] te d) (hk : uR Jn ks = true := by rfl) :
 RE Jn K cn E [] (cx1 ks wi g tc te) (eQ ks di b c d) := fun As H Z ρ σ F Q w => by
 unfold eQ at w
 refine hi As H Z ρ σ F _ ?_
 cases e : di ρ with
 | ok ts =>
  rw [e] at w
  intro J H1 Z1 m s
  simp only [Res.bind] at w
  split at w
  · next hl => exact cw3 hg hc he hk (F.mo m) s hl (WpE.mo F w m)
  · exact w.elim
 | ex x => rw [e] at w; exact w
 | no => rw [e] at w; exact w
def aO (a b : Fr → bT) : Fr → bT := fun ρ => match a ρ with
 | .nx ρ' => b ρ'
 | o => o
def cH : Fr → bT := fun ρ => .nx ρ
theorem cz3 : RS Jn K cn E ch2 cH := fun As H Z ρ σ F D w => w σ As H Z F Ev.refl
theorem cb7 {t u : TS} {a b : Fr → bT} (ha : RS Jn K cn E t a) (hb : RS Jn K cn E u b) : RS Jn K cn E (cu7 t u) (aO a b) := fun As H Z ρ σ F D w => by
 unfold aO at w
 refine ha As H Z ρ σ F _ ?_
 cases e : a ρ with
 | nx ρ' =>
  rw [e] at w
  exact fun σ' As' H' Z' F' ev => hb As' H' Z' ρ' σ' F' D (Wp.ev w ev)
 | bk ρ' => rw [e] at w; exact w
 | ct ρ' => rw [e] at w; exact w
 | rt t => rw [e] at w; exact w
 | ex x => rw [e] at w; exact w
 | no => rw [e] at w; exact w
def bI (mv : List Nat) (d : Fr → Res T) (b : T → Fr → Option Fr) : Fr → bT := fun ρ => match d ρ with
 | .ok t => match b t (kills mv ρ) with
  | some ρ' => .nx ρ'
  | none => .no
 | .ex x => .ex x
 | .no => .no
theorem Post.out {As : List (List Addr)} {H H' : Hp} {Z Z' : Addr → Prop} {ρ : Fr} {σ : St} {mv : List Nat} {t : T} {v : V} {B : List Addr} (F : Frm Jn K cn H Z ρ σ As) (p : Post K cn As H Z mv H' Z' t v B) : ∀ x ∈ B, x ∉ (gA mv As).flatten := fun x hx hA => by
 rcases p.bn x hx with z | ⟨i, hi, z⟩
 · obtain ⟨o, ho, _⟩ := F.sl.dom x (fV hA)
   rw [ho] at z; cases z
 · exact yQ F.nd hi z hA
theorem Post.inA {As : List (List Addr)} {H H' : Hp} {Z Z' : Addr → Prop} {mv : List Nat} {t : T} {v : V} {B : List Addr} (p : Post K cn As H Z mv H' Z' t v B) : ∀ x ∈ B, x ∈ As.flatten ∨ H x = none := fun x hx => by
 rcases p.bn x hx with z | ⟨i, hi, z⟩
 · exact .inr z
 · exact .inl (bD z)
theorem bo6 {ks mv : List Nat} {te : TE} {g : TG} {d : Fr → Res T} {b : T → Fr → Option Fr} (he : RE Jn K cn E mv te d) (hg : RG Jn K cn ks g b) : RS Jn K cn E (cf1 te g) (bI mv d b) := fun As H Z ρ σ F D w => by
 unfold bI at w
 refine he As H Z ρ σ F _ ?_
 cases e : d ρ with
 | ok t =>
  rw [e] at w
  intro v H1 Z1 B p
  simp only at w
  cases eb : b t (kills mv ρ) with
  | none => rw [eb] at w; exact w.elim
  | some ρ' =>
   rw [eb] at w
   refine hg (gA mv As) H1 Z1 (kills mv ρ) σ t v B ((F.mo p.mo).kills mv) p.rep p.nd p.bz (p.out F) _ ρ' eb fun σ' As' F' o' _ _ => ?_
   refine w σ' As' H1 Z1 F' ⟨fun a o h _ => p.same a o h, fun a ha => ?_, p.zz, fun a h => (p.zn a h).imp_right .inr, fun a h => p.same.free h⟩
   rcases o' a ha with z | z
   · exact .inl (fV z)
   · exact p.inA a z
 | ex x => rw [e] at w; exact w
 | no => rw [e] at w; exact w
theorem bc4 {k : Nat} {ks : List Nat} {wi : TI} {g : TG} {tc : TT} {te : TE} {di : Fr → Res (List T)} {b : T → Fr → Option Fr} {c : Fr → Res Bool} {d : Fr → Res T} (hi : RI Jn K cn E false wi di) (hg : RG Jn K cn ks g b) (hc : RT Jn K cn E tc c) (he : RE Jn K cn E [] te d) (hk : uR Jn ks = true := by rfl) (hJ : yZ Jn k = true := by rfl) :
 RS Jn K cn E (at7 k ks wi g tc te) (bI [] (eQ ks di b c d) (aK k)) := fun As H Z ρ σ F D w =>
 bo6 (bg2 hi hg hc he hk) (bt1 k hJ) As H Z ρ σ F D w
def bL (mv : List Nat) (d : Fr → Res T) : Fr → bT := fun ρ => match d ρ with
 | .ok t => .rt t
 | .ex x => .ex x
 | .no => .no
theorem cv8 {mv : List Nat} {te : TE} {d : Fr → Res T} (he : RE Jn K cn E mv te d) : RS Jn K cn E (cp7 te) (bL mv d) := fun As H Z ρ σ F D w => by
 unfold bL at w
 refine he As H Z ρ σ F _ ?_
 cases e : d ρ with
 | ok t =>
  rw [e] at w
  intro v H1 Z1 B p
  refine w v H1 Z1 B ⟨⟨fun a o h _ => p.same a o h, fun a ha => ?_, p.zz, fun a h => (p.zn a h).imp_right .inr, fun a h => p.same.free h⟩, p.rep, p.nd, p.bz, p.zi⟩
  rw [List.flatten_cons, List.flatten_nil, List.append_nil] at ha
  exact p.inA a ha
 | ex x => rw [e] at w; exact w
 | no => rw [e] at w; exact w
def dI (c : Fr → Res Bool) (a b : Fr → bT) : Fr → bT := fun ρ => match c ρ with
 | .ok k => if k = true then a ρ else b ρ
 | .ex x => .ex x
 | .no => .no
theorem dq2 {tt : TT} {t u : TS} {c : Fr → Res Bool} {a b : Fr → bT} (hc : RT Jn K cn E tt c) (ha : RS Jn K cn E t a) (hb : RS Jn K cn E u b) : RS Jn K cn E (di0 tt t u) (dI c a b) := fun As H Z ρ σ F D w => by
 unfold dI at w
 refine hc As H Z ρ σ F _ ?_
 cases e : c ρ with
 | ok k =>
  rw [e] at w
  intro H1 Z1 p
  simp only at w
  split
  · next h => rw [if_pos h] at w; exact ha As H1 Z1 ρ σ (F.mo p.mo) D (Wp.ev w p.mo.ev)
  · next h => rw [if_neg h] at w; exact hb As H1 Z1 ρ σ (F.mo p.mo) D (Wp.ev w p.mo.ev)
 | ex x => rw [e] at w; exact w
 | no => rw [e] at w; exact w
def dg1 (d : Fr → Res T) : Fr → bT := fun ρ => match d ρ with
 | .ok _ => .nx ρ
 | .ex x => .ex x
 | .no => .no
def ca8 : Fr → bT := fun ρ => .bk ρ
def di2 : Fr → bT := fun ρ => .ct ρ
def fH (b : T → Fr → Option Fr) (body : Fr → bT) : List T → Fr → bT
 | [], ρ => .nx ρ
 | t :: ts, ρ => match b t ρ with
  | none => .no
  | some ρ1 => match body ρ1 with
   | .nx ρ2 => fH b body ts ρ2
   | .ct ρ2 => fH b body ts ρ2
   | .bk ρ2 => .nx ρ2
   | o => o
def lB (di : Fr → Res (List T)) (b : T → Fr → Option Fr) (body : Fr → bT) : Fr → bT := fun ρ => match di ρ with
 | .ok ts => fH b body ts ρ
 | .ex x => .ex x
 | .no => .no
theorem ck8 {ks : List Nat} {wi : TI} {g : TG} {tb : TS} {di : Fr → Res (List T)} {b : T → Fr → Option Fr} {body : Fr → bT} (hi : RI Jn K cn E true wi di) (hg : RG Jn K cn ks g b) (hb : RS Jn K cn E tb body) : RS Jn K cn E (cw8 wi g tb) (lB di b body) := fun As H Z ρ σ F D w => by
 unfold lB at w
 refine hi As H Z ρ σ F _ ?_
 cases e : di ρ with
 | ok ts =>
  rw [e] at w
  intro J H1 Z1 m s
  refine ⟨fun i k σ' H' => k = ts.length - i ∧ i ≤ ts.length ∧ ∃ ρ' Z' As', Frm Jn K cn H' Z' ρ' σ' As' ∧ Src K cn true H' Z' J ts ∧ Wp Jn K cn E As' H' Z' D (fH b body (ts.drop i) ρ'), ⟨ts.length, by simp, Nat.zero_le _, ρ, Z1, As, F.mo m, s, Wp.ev w m.ev⟩, ?_⟩
  rintro i k σ1 H2 ⟨rfl, hle, ρ1, Z2, As1, F1, s1, w1⟩
  by_cases hlt : i < ts.length
  · obtain ⟨t, et⟩ : ∃ t, ts[i]? = some t := ⟨ts[i], List.getElem?_eq_getElem hlt⟩
    obtain ⟨go, yl⟩ := s1.turn F1.zi et
    have ed : ts.drop i = t :: ts.drop (i + 1) := by
     obtain ⟨h1, h2⟩ := List.getElem?_eq_some_iff.mp et
     rw [← h2]
     exact List.drop_eq_getElem_cons hlt
    refine .inr ⟨go, _, fun σ' H' p' => ⟨ts.length - (i + 1), by omega, p'⟩, fun x H' y => ?_⟩
    obtain ⟨my, rx⟩ := yl x H' y
    have F1 := F1.mo my
    have s1 := s1.mo my
    have w1 := Wp.ev w1 (my.ev (As := As1))
    rw [ed] at w1
    simp only [fH] at w1
    cases eb : b t ρ1 with
    | none => rw [eb] at w1; exact w1.elim
    | some ρ2 =>
     rw [eb] at w1
     simp only at w1
     refine hg As1 H' Z2 ρ1 σ1 t x [] F1 rx List.nodup_nil (dJ) (dJ) _ ρ2 eb fun σ2 As2 F2 o2 _ _ => ?_
     have ev2 : Ev As1 H' Z2 As2 H' Z2 := ⟨fun _ _ q _ => q, fun a ha => .inl ((o2 a ha).resolve_right ((fun z => nomatch z))), fun _ q => q, fun _ q => .inl q, fun _ q => q⟩
     refine hb As2 H' Z2 ρ2 σ2 F2 _ ?_
     have w2 := Wp.ev w1 ev2
     cases eo : body ρ2 with
     | nx ρ3 =>
      rw [eo] at w2
      exact fun σ' As' H'' Z' F' ev => ⟨rfl, hlt, ρ3, Z', As', F', (s1.ev F1 ev2).ev F2 ev, Wp.ev w2 ev⟩
     | ct ρ3 =>
      rw [eo] at w2
      exact fun σ' As' H'' Z' F' ev => ⟨rfl, hlt, ρ3, Z', As', F', (s1.ev F1 ev2).ev F2 ev, Wp.ev w2 ev⟩
     | bk ρ3 => rw [eo] at w2; exact w2
     | rt t => rw [eo] at w2; exact w2
     | ex x => rw [eo] at w2; exact w2
     | no => rw [eo] at w2; exact w2
  · have ei : i = ts.length := by omega
    subst ei
    rw [List.drop_length] at w1
    exact .inl ⟨s1.stop (Nat.le_refl _), w1 σ1 As1 H2 Z2 F1 Ev.refl⟩
 | ex x => rw [e] at w; exact w
 | no => rw [e] at w; exact w
end
end TL
namespace TL
open PySem PySem.Spec PyProof.Rows L2
section
variable {Jn : gL} {K : PySem.W.Frag} {cn : Str → Option Addr} {E : XK}
def wT (t' : T) : List Nat → T → Option T
 | [], _ => some t'
 | k :: p, .lst o ts => match ts[k]? with
  | some t => (wT t' p t).map fun u => .lst o (ts.set k u)
  | none => none
 | k :: p, .tup ts => match ts[k]? with
  | some t => (wT t' p t).map fun u => .tup (ts.set k u)
  | none => none
 | k :: p, .ins o c ns ts => match ts[k]? with
  | some t => (wT t' p t).map fun u => .ins o c ns (ts.set k u)
  | none => none
 | _ :: _, _ => none
structure Plug (K : PySem.W.Frag) (cn : Str → Option Addr) (H : Hp) (Z : Addr → Prop) (t0 : T) (v0 : V) (A0 : List Addr) (p : List Nat) (u : T) (v : V) (B : List Addr) : Prop where
 rep : Rep K cn H Z u v B
 sub : B.Sublist A0
 plug : ∀ H' Z' u' B', (∀ a, Z a → Z' a) → (∀ b o, H b = some o → ((b ∈ A0 ∧ b ∉ B) ∨ Z b ∨ sZ o = true) → H' b = some o) → Rep K cn H' Z' u' v B' → B'.Nodup → (∀ x ∈ B', x ∈ A0 → x ∈ B) →
  ∃ t' A', wT u' p t0 = some t' ∧ Rep K cn H' Z' t' v0 A' ∧ A'.Nodup ∧ ∀ x ∈ A', (x ∈ A0 ∧ x ∉ B) ∨ x ∈ B'
theorem Plug.mo {H H1 : Hp} {Z Z1 : Addr → Prop} {t0 u : T} {v0 v : V} {A0 B : List Addr} {p : List Nat} (h : Plug K cn H Z t0 v0 A0 p u v B) (s : Same H H1) (zz : ∀ a, Z a → Z1 a) : Plug K cn H1 Z1 t0 v0 A0 p u v B :=
 ⟨h.rep.same s zz, h.sub, fun H' Z' u' B' z k => h.plug H' Z' u' B' (fun a q => z a (zz a q)) fun b o q c => k b o (s b o q) (by
  rcases c with c | c | c
  · exact .inl c
  · exact .inr (.inl (zz b c))
  · exact .inr (.inr c))⟩
theorem Plug.root {H : Hp} {Z : Addr → Prop} {t0 : T} {v0 : V} {A0 : List Addr} (h : Rep K cn H Z t0 v0 A0) : Plug K cn H Z t0 v0 A0 [] t0 v0 A0 :=
 ⟨h, List.Sublist.refl _, fun H' Z' u' B' z k r nd _ => ⟨u', B', rfl, r, nd, fun x hx => .inr hx⟩⟩
def lG : List Nat → T → Option T
 | [], t => some t
 | k :: p, .lst _ ts => (ts[k]?).bind (lG p)
 | k :: p, .tup ts => (ts[k]?).bind (lG p)
 | k :: p, .ins _ _ _ ts => (ts[k]?).bind (lG p)
 | _ :: _, _ => none
def WpP (K : PySem.W.Frag) (cn : Str → Option Addr) (E : XK) (As : List (List Addr)) (H : Hp) (Z : Addr → Prop) (A0 : List Addr) (t0 : T) (v0 : V) (Q : VK) : Res (List Nat) → Prop
 | .ok p => ∀ u v B H' Z', Mo H Z H' Z' → lG p t0 = some u → Plug K cn H' Z' t0 v0 A0 p u v B → Q v H'
 | .ex x => WpX K cn E As H Z x
 | .no => False
def RP (Jn : gL) (K : PySem.W.Frag) (cn : Str → Option Addr) (E : XK) (j : Nat) (to : TE) (d : Fr → Res (List Nat)) : Prop := ∀ As H Z ρ σ, Frm Jn K cn H Z ρ σ As → ∀ t0 v0, ρ[j]? = some (some t0) → σ[j]? = some (some v0) → Rep K cn H Z t0 v0 (As.getD j []) → ∀ Q, WpP K cn E As H Z (As.getD j []) t0 v0 Q (d ρ) → to σ H Q
def dD : Fr → Res (List Nat) := fun _ => .ok []
theorem ce7 (j : Nat) : RP Jn K cn E j (ar8 j) dD := fun As H Z ρ σ F t0 v0 e1 e2 r Q w => ⟨v0, e2, w t0 v0 _ H Z F.mo0 rfl (Plug.root r)⟩
def dd4 : T → Option (List T)
 | .lst o ts => if o = true then some ts else none
 | .tup ts => some ts
 | _ => none
def pIx (j : Nat) (d : Fr → Res (List Nat)) (i : Fr → Res T) : Fr → Res (List Nat) := fun ρ => (d ρ).bind fun p => (i ρ).bind fun x => match ρ[j]?, x with
 | some (some t0), .int n => match (lG p t0).bind dd4 with
  | some ts => match zZ ts.length n with
   | some k => .ok (p ++ [k])
   | none => .no
  | none => .no
 | _, _ => .no
theorem uT {As : List (List Addr)} (h : As.flatten.Nodup) (i : Nat) : (As.getD i []).Nodup := by
 rw [List.getD_eq_getElem?_getD]
 cases q : As[i]? with
 | none => exact List.nodup_nil
 | some C => exact List.Nodup.sublist (List.sublist_flatten_of_mem (List.mem_of_getElem? q)) h
def aa2 (j : Nat) (p : List Nat) (us : List T) (ρ : Fr) : bT := match ρ[j]? with
 | some (some t0) => match wT (.lst true us) p t0 with
  | some t' => .nx (ρ.set j (some t'))
  | none => .no
 | _ => .no
def av7 (j : Nat) (p : List Nat) (u : T) (ρ : Fr) : bT := match ρ[j]? with
 | some (some t0) => match wT u p t0 with
  | some t' => .nx (ρ.set j (some t'))
  | none => .no
 | _ => .no
theorem ao4 {As As1 : List (List Addr)} {H H1 : Hp} {Z Z1 : Addr → Prop} {ρ1 : Fr} {σ : St} {j : Nat} {t0 : T} {v0 : V} {p : List Nat} {u u' : T} {v : V} {B : List Addr} {D : uL}
 (F1 : Frm Jn K cn H1 Z1 ρ1 σ As1) (e1 : ρ1[j]? = some (some t0)) (e2 : σ[j]? = some (some v0)) (pl : Plug K cn H1 Z1 t0 v0 (As1.getD j []) p u v B)
 {a : Addr} {o0 o1 : HO} {C0 C : List Addr} (ev : v = .ref a) (eB : B = a :: C0) (ha : H1 a = some o0) (hi : sZ o0 = false) (hC : a ∉ C → ¬ Z1 a → Rep K cn (L2.upd H1 a o1) Z1 u' (.ref a) (a :: C)) (ndC : C.Nodup) (hCz : ∀ x ∈ C, ¬ Z1 x) (hCa : ∀ x ∈ C, x ∈ As1.flatten → x ∈ C0)
 (evl : Ev As H Z As1 H1 Z1) (hCn : ∀ x ∈ C, x ∈ As.flatten ∨ H x = none) (w : Wp Jn K cn E As H Z D (av7 j p u' ρ1)) : D.nx σ (L2.upd H1 a o1) := by
 subst ev eB
 have nd := uT F1.nd j
 have ndB : (a :: C0).Nodup := nd.sublist pl.sub
 have aA : a ∈ As1.getD j [] := pl.sub.mem List.mem_cons_self
 have aZ : ¬ Z1 a := F1.nz a (bD aA)
 have aC : a ∉ C := fun h => (List.nodup_cons.mp ndB).1 (hCa a h (bD aA))
 obtain ⟨t', A', es, r', ndA, hA⟩ := pl.plug (L2.upd H1 a o1) Z1 u' (a :: C) (fun _ h => h) (fun b o q c => by
  rw [cQ]
  · exact q
  · rintro rfl
    rcases c with c | c | c
    · exact c.2 List.mem_cons_self
    · exact aZ c
    · rw [ha] at q; cases q; rw [hi] at c; cases c) (hC aC aZ) (List.nodup_cons.mpr ⟨aC, ndC⟩) (fun x hx hxa => by
    rcases List.mem_cons.mp hx with rfl | hx
    · exact List.mem_cons_self
    · exact List.mem_cons_of_mem _ (hCa x hx (bD hxa)))
 unfold av7 at w
 rw [e1] at w
 simp only [es] at w
 have hA' : ∀ x ∈ A', x ∈ As1.getD j [] ∨ x ∈ C := fun x hx => by
  rcases hA x hx with q | q
  · exact .inl q.1
  · rcases List.mem_cons.mp q with rfl | q
    · exact .inl aA
    · exact .inr q
 have slots : ∀ {ρ : Fr} {σ : St} {As : List (List Addr)} {i : Nat}, Slots K cn H1 Z1 ρ σ As → As.flatten.Nodup → (∀ x ∈ As.flatten, x = a → x ∈ As.getD i []) → σ[i]? = some (some v0) → Slots K cn (L2.upd H1 a o1) Z1 (ρ.set i (some t')) σ (As.set i A') := by
  intro ρ
  induction ρ with
  | nil => intro σ As i h _ _ e; obtain ⟨rfl, rfl⟩ := h; simp at e
  | cons o ρ ih =>
   intro σ As i h nd hx e
   obtain ⟨w', σ', A, As', rfl, rfl, h1, h2⟩ := h
   rw [List.flatten_cons, List.nodup_append] at nd
   cases i with
   | zero =>
    simp at e
    subst e
    refine ⟨_, σ', A', As', rfl, rfl, ⟨v0, rfl, r'⟩, ?_⟩
    have na : a ∉ As'.flatten := fun h => by
     have := hx a (by rw [List.flatten_cons, List.mem_append]; exact .inr h) rfl
     exact nd.2.2 a (by simpa using this) a h rfl
    have : ∀ {ρ : Fr} {σ : St} {As : List (List Addr)}, Slots K cn H1 Z1 ρ σ As → a ∉ As.flatten → Slots K cn (L2.upd H1 a o1) Z1 ρ σ As := by
     intro ρ
     induction ρ with
     | nil => intro σ As h _; exact h
     | cons o ρ ih =>
      intro σ As h hn
      obtain ⟨w', σ', A, As', rfl, rfl, h1, h2⟩ := h
      rw [List.flatten_cons, List.mem_append, not_or] at hn
      refine ⟨w', σ', A, As', rfl, rfl, ?_, ih h2 hn.2⟩
      cases o with
      | none => exact h1
      | some t => obtain ⟨v, e, r⟩ := h1; exact ⟨v, e, r.upd ha hi hn.1 aZ⟩
    exact this h2 na
   | succ i =>
    refine ⟨w', σ', A, As'.set i A', rfl, rfl, ?_, ih h2 nd.2.1 (fun x hx' ex => ?_) (by simpa using e)⟩
    · have na : a ∉ A := fun h => by
       have := hx a (by rw [List.flatten_cons, List.mem_append]; exact .inl h) rfl
       have : a ∈ As'.getD i [] := by simpa using this
       exact nd.2.2 a h a (bD this) rfl
      cases o with
      | none => exact h1
      | some t => obtain ⟨v, e, r⟩ := h1; exact ⟨v, e, r.upd ha hi na aZ⟩
    · have := hx x (by rw [List.flatten_cons, List.mem_append]; exact .inr hx') ex
      simpa using this
 refine w σ (As1.set j A') _ Z1 ⟨slots F1.sl F1.nd (fun x _ ex => by rw [ex]; exact aA) e2, mU ndA F1.nd (fun b hb hf => ?_), fun b hb z => ?_, fun b z => ?_, F1.pn⟩ ?_
 · rcases hA' b hb with q | q
   · exact q
   · exact pl.sub.mem (List.mem_cons_of_mem _ (hCa b q hf))
 · rcases gM hb with q | q
   · rcases hA' b q with q | q
     · exact F1.nz b (bD q) z
     · exact hCz b q z
   · exact F1.nz b q z
 · by_cases e : b = a
   · rw [e, dZ]; exact (fun z => nomatch z)
   · rw [cQ e]; exact F1.zi b z
 · refine ⟨fun b o q hb => ?_, fun b hb => ?_, evl.zz, evl.zn, fun b hb => evl.dom b ?_⟩
   · rw [cQ]
     · exact evl.keep b o q hb
     · rintro rfl
       rcases evl.own b (bD aA) with z | z
       · exact hb z
       · rw [q] at z; cases z
   · rcases gM hb with q | q
     · rcases hA' b q with q | q
       · exact evl.own b (bD q)
       · exact hCn b q
     · exact evl.own b q
   · by_cases e : b = a
     · rw [e, dZ] at hb; cases hb
     · rw [cQ e] at hb; exact hb
theorem bl6 {As As1 : List (List Addr)} {H H1 : Hp} {Z Z1 : Addr → Prop} {ρ1 : Fr} {σ : St} {j : Nat} {t0 : T} {v0 : V} {p : List Nat} {us us' : List T} {v : V} {B : List Addr} {D : uL}
 (F1 : Frm Jn K cn H1 Z1 ρ1 σ As1) (e1 : ρ1[j]? = some (some t0)) (e2 : σ[j]? = some (some v0)) (pl : Plug K cn H1 Z1 t0 v0 (As1.getD j []) p (.lst true us) v B)
 {a : Addr} {ws ws' : List V} {C0 C : List Addr} (ev : v = .ref a) (eB : B = a :: C0) (ha : H1 a = some (.lst ws)) (hC : Reps K cn H1 Z1 us' ws' C) (ndC : C.Nodup) (hCz : ∀ x ∈ C, ¬ Z1 x) (hCa : ∀ x ∈ C, x ∈ As1.flatten → x ∈ C0)
 (evl : Ev As H Z As1 H1 Z1) (hCn : ∀ x ∈ C, x ∈ As.flatten ∨ H x = none) (w : Wp Jn K cn E As H Z D (aa2 j p us' ρ1)) : D.nx σ (L2.upd H1 a (.lst ws')) := by
 subst ev eB
 refine ao4 (E := E) F1 e1 e2 pl rfl rfl ha rfl (u' := .lst true us') (fun aC aZ => ?_) ndC hCz hCa evl hCn w
 simp only [Rep]
 exact ⟨a, ws', C, rfl, rfl, dZ, Reps.upd hC ha rfl aC aZ⟩
def iF (j : Nat) (mv : List Nat) (d : Fr → Res (List Nat)) (e : Fr → Res T) : Fr → bT := fun ρ => match ρ[j]? with
 | some (some t0) => match d ρ with
  | .ok p => match lG p t0 with
   | some (.lst true us) => match e ρ with
    | .ok t => if us.length < sizeLine then aa2 j p (us ++ [t]) (kills mv ρ) else .no
    | .ex x => .ex x
    | .no => .no
   | _ => .no
  | .ex x => .ex x
  | .no => .no
 | _ => .no
theorem vP {j : Nat} : ∀ (mv : List Nat), mv.contains j = false → ∀ As : List (List Addr), (gA mv As).getD j [] = As.getD j []
 | [], _, _ => rfl
 | i :: is, h, As => by
  simp only [List.contains_cons, Bool.or_eq_false_iff, beq_eq_false_iff_ne] at h
  show (gA is (As.set i [])).getD j [] = _
  rw [vP is h.2, List.getD_eq_getElem?_getD, List.getElem?_set_ne (Ne.symm h.1), ← List.getD_eq_getElem?_getD]
theorem yI {j : Nat} : ∀ (mv : List Nat), mv.contains j = false → ∀ ρ : Fr, (kills mv ρ)[j]? = ρ[j]?
 | [], _, _ => rfl
 | i :: is, h, ρ => by
  simp only [List.contains_cons, Bool.or_eq_false_iff, beq_eq_false_iff_ne] at h
  show (kills is (ρ.set i none))[j]? = _
  rw [yI is h.2, List.getElem?_set_ne (Ne.symm h.1)]
theorem ch6 {j : Nat} {mv : List Nat} {to te : TE} {d : Fr → Res (List Nat)} {e : Fr → Res T} (hd : RP Jn K cn E j to d) (he : RE Jn K cn E mv te e) (hj : mv.contains j = false := by rfl) : RS Jn K cn E (be4 (tBM K "list" bh2 to (ap1 te as3))) (iF j mv d e) := fun As H Z ρ σ F D w => by
 unfold iF at w
 cases e1 : ρ[j]? with
 | none => rw [e1] at w; exact w.elim
 | some o =>
  rw [e1] at w
  cases o with
  | none => exact w.elim
  | some t0 =>
   obtain ⟨v0, e2, r0⟩ := F.sl.get e1
   refine hd As H Z ρ σ F t0 v0 e1 e2 r0 _ ?_
   simp only at w
   cases ed : d ρ with
   | ok p =>
    rw [ed] at w
    intro u v B H1 Z1 m1 hn pl
    simp only [hn] at w
    split at w
    · next us hq =>
      cases hq
      have q := pl.rep
      simp only [Rep] at q
      obtain ⟨a, ws, C0, rfl, rfl, ea, rs⟩ := q
      refine ⟨.inl ⟨rfl, ws, SqL.of ea⟩, he As H1 Z1 ρ σ (F.mo m1) _ ?_⟩
      cases ee : e ρ with
      | ok t =>
       rw [ee] at w
       intro y H2 Z2 C p2
       simp only at w
       split at w
       · next hlen =>
         have pl2 := pl.mo p2.same p2.zz
         have ea2 := p2.same _ _ ea
         have rs2 := rs.same p2.same p2.zz
         refine ⟨a, ws, y, rfl, rfl, ea2, by rw [Reps.length us rs]; exact hlen, ?_⟩
         have m2 := m1.trans p2.mo
         have F2 := (F.mo m2).kills mv
         have gD : (gA mv As).getD j [] = As.getD j [] := vP mv hj As
         have pl3 : Plug K cn H2 Z2 t0 v0 ((gA mv As).getD j []) p (.lst true us) (.ref a) (a :: C0) := by rw [gD]; exact pl2
         have ndB : (a :: C0).Nodup := (uT F.nd j).sublist pl.sub
         have c0A : ∀ x ∈ C0, x ∈ As.getD j [] := fun x hx => pl.sub.mem (List.mem_cons_of_mem _ hx)
         have cOut : ∀ x ∈ C, x ∉ (gA mv As).flatten := fun x hx hA => by
          rcases p2.bn x hx with z | ⟨i, hi, z⟩
          · obtain ⟨o, ho, _⟩ := (F.mo m1).sl.dom x (fV hA)
            rw [ho] at z; cases z
          · exact yQ F.nd hi z hA
         have c0In : ∀ x ∈ C0, x ∈ (gA mv As).flatten := fun x hx => bD (i := j) (by rw [gD]; exact c0A x hx)
         refine bl6 (As := As) (H := H) (Z := Z) (E := E) F2 (by rw [yI mv hj]; exact e1) e2 pl3 rfl rfl ea2 (us' := us ++ [t]) (ws' := ws ++ [y]) (C := C0 ++ C) (Reps.append us rs2 (Reps.one p2.rep)) ?_ ?_ ?_ ?_ ?_ w
         · rw [List.nodup_append]
           exact ⟨(List.nodup_cons.mp ndB).2, p2.nd, fun x hx y hy e => by subst e; exact cOut x hy (c0In x hx)⟩
         · intro x hx
           rcases List.mem_append.mp hx with hx | hx
           · exact F2.nz x (c0In x hx)
           · exact p2.bz x hx
         · intro x hx hA
           rcases List.mem_append.mp hx with hx | hx
           · exact hx
           · exact absurd hA (cOut x hx)
         · exact ⟨fun b o q _ => m2.same b o q, fun b hb => .inl (fV hb), m2.zz, fun b h => (m2.zn b h).imp_right .inr, fun b h => m2.same.free h⟩
         · intro x hx
           rcases List.mem_append.mp hx with hx | hx
           · exact .inl (bD (c0A x hx))
           · rcases p2.bn x hx with z | ⟨i, hi, z⟩
             · exact .inr (m1.same.free z)
             · exact .inl (bD z)
       · exact w.elim
      | ex x => rw [ee] at w; exact WpX.ev w m1.ev
      | no => rw [ee] at w; exact w
    · exact w.elim
   | ex x => rw [ed] at w; exact w
   | no => rw [ed] at w; exact w
def de5 (j : Nat) (mv : List Nat) (e : Fr → Res T) (d : Fr → Res (List Nat)) (i : Fr → Res T) : Fr → bT := fun ρ => match e ρ with
 | .ok t => match (kills mv ρ)[j]? with
  | some (some t0) => match d (kills mv ρ) with
   | .ok p => match lG p t0 with
    | some (.lst true us) => match i (kills mv ρ) with
     | .ok (.int n) => match zZ us.length n with
      | some k => aa2 j p (us.set k t) (kills mv ρ)
      | none => .no
     | .ok _ => .no
     | .ex x => .ex x
     | .no => .no
    | _ => .no
   | .ex x => .ex x
   | .no => .no
  | _ => .no
 | .ex x => .ex x
 | .no => .no
theorem Reps.put {H : Hp} {Z : Addr → Prop} {t : T} {y : V} {C : List Addr} (rt : Rep K cn H Z t y C) : ∀ (us : List T) {ws : List V} {A : List Addr} {k : Nat}, Reps K cn H Z us ws A → k < us.length → ∃ B1 Bo B2, A = B1 ++ Bo ++ B2 ∧ Reps K cn H Z (us.set k t) (ws.set k y) (B1 ++ C ++ B2)
 | [], _, _, _, _, e => by simp at e
 | u :: us, ws, A, 0, r, e => by
  simp only [Reps] at r
  obtain ⟨v, r', P, Q', rfl, rfl, h1, h2⟩ := r
  refine ⟨[], P, Q', by simp, ?_⟩
  simp only [List.set_cons_zero, Reps]
  exact ⟨y, r', C, Q', rfl, by simp, rt, h2⟩
 | u :: us, ws, A, k + 1, r, e => by
  simp only [Reps] at r
  obtain ⟨v, r', P, Q', rfl, rfl, h1, h2⟩ := r
  obtain ⟨X1, X2, X3, rfl, hr⟩ := Reps.put rt us (k := k) h2 (by simpa using e)
  refine ⟨P ++ X1, X2, X3, by simp, ?_⟩
  simp only [List.set_cons_succ, Reps]
  exact ⟨v, r'.set k y, P, X1 ++ C ++ X3, rfl, by simp, h1, hr⟩
def bY : bT → Res T
 | .nx _ => .ok .non
 | .rt t => .ok t
 | .ex x => .ex x
 | _ => .no
def cS (n : Nat) (ts : List T) : Fr := ts.map some ++ List.replicate (n - ts.length) none
theorem ao5 {H : Hp} {Z : Addr → Prop} : ∀ (m : Nat), Slots K cn H Z (List.replicate m none) (List.replicate m none) (List.replicate m [])
 | 0 => ⟨rfl, rfl⟩
 | m + 1 => ⟨none, List.replicate m none, [], List.replicate m [], rfl, rfl, rfl, ao5 m⟩
theorem xR {H : Hp} {Z : Addr → Prop} {m : Nat} : ∀ (ts : List T) {vs : List V}, Reps K cn H Z ts vs [] → Slots K cn H Z (ts.map some ++ List.replicate m none) (vs.map some ++ List.replicate m none) (List.replicate (ts.length + m) [])
 | [], vs, h => by
  simp only [Reps] at h
  obtain ⟨rfl, _⟩ := h
  simpa using ao5 m
 | t :: ts, vs, h => by
  simp only [Reps] at h
  obtain ⟨v, r, B, C, rfl, e, h1, h2⟩ := h
  have eb : B = [] ∧ C = [] := by simpa using e.symm
  obtain ⟨rfl, rfl⟩ := eb
  have := xR (m := m) ts h2
  refine ⟨some v, _, [], List.replicate (ts.length + m) [], rfl, ?_, ⟨v, rfl, h1⟩, this⟩
  rw [List.length_cons, show ts.length + 1 + m = (ts.length + m) + 1 by omega]
  rfl
theorem kX : ∀ m : Nat, (List.replicate m ([] : List Addr)).flatten = []
 | 0 => rfl
 | m + 1 => by rw [List.replicate_succ, List.flatten_cons, kX m]; rfl
theorem ab4 {P : Program} {w : World} {mg : Str → Option Value} {base : Heap} {x qual : Str} {st : Stmt} {f : Addr} {fd : FuncData} {N ps : List Str} {k : Nat} {d : Fr → bT} (F : Fun K x qual st f fd) (S : bE N ps (aN st))
    (hbody : ∀ (cdv : Value) (A : Around) (outer : List Env) (s : Shared) (H : Hp) (E : XK), Room k (A.deeper (envOfC qual (aN st) s.heap.objs.size f cdv)) →
      ∃ t, PSs (mO jQ P w K mg base N qual (aN st) f cdv A outer s H E).nox (dN st) t ∧ RS [] K cn E t d) {n : Nat} {G : List T → Res T} (hn : ps.length = n) (hG : ∀ ts, G ts = bY (d (cS N.length ts))) : FnOk P w K mg base jQ (k + 1) f fd ps (aV K cn n G) := by
  have eG : G = fun ts => bY (d (cS N.length ts)) := funext hG
  subst hn eG
  refine F.ok S (fun vs H Q E h => h.1) fun cdv A outer s H vs Q E hr h => ?_
  obtain ⟨hl, ts, Z, zi, r, w⟩ := h
  obtain ⟨t, hp, ht⟩ := hbody cdv A outer s H E hr
  refine ⟨t, hp, ?_⟩
  have lt := Reps.length ts r
  have sl : Slots K cn H Z (cS N.length ts) (L2.iS N vs) (List.replicate (ts.length + (N.length - ts.length)) []) := by
    unfold cS L2.iS
    rw [lt]
    exact xR ts r
  have F0 : Frm [] K cn H Z (cS N.length ts) (L2.iS N vs) (List.replicate (ts.length + (N.length - ts.length)) []) := ⟨sl, by rw [kX]; exact List.nodup_nil, by rw [kX]; exact dJ, zi, dJ⟩
  refine ht _ H Z _ _ F0 _ ?_
  have bn : ∀ {B : List Addr} {H' : Hp} {Z' : Addr → Prop}, Ev (List.replicate (ts.length + (N.length - ts.length)) []) H Z [B] H' Z' → ∀ b ∈ B, H b = none := fun {B H' Z'} e b hb => by
    rcases e.own b (by simpa using hb) with q | q
    · rw [kX] at q; cases q
    · exact q
  have sm : ∀ {As' : List (List Addr)} {H' : Hp} {Z' : Addr → Prop}, Ev (List.replicate (ts.length + (N.length - ts.length)) []) H Z As' H' Z' → Same H H' ∧ ∀ a, Z' a → Z a ∨ H a = none := fun {As' H' Z'} e => ⟨fun b o q => e.keep b o q (by rw [kX]; exact (fun z => nomatch z)), fun a z => by
    rcases e.zn a z with q | q | q
    · exact .inl q
    · rw [kX] at q; cases q
    · exact .inr q⟩
  cases ed : d (cS N.length ts) with
  | nx ρ =>
    simp only [ed, bY] at w
    intro σ' As' H' Z' F' ev
    exact w .non H' Z' [] ⟨(sm ev).1, ev.zz, (sm ev).2, F'.zi, by simp [Rep], List.nodup_nil, dJ, dJ⟩
  | rt t =>
    simp only [ed, bY] at w
    intro v H' Z' B p
    exact w v H' Z' B ⟨(sm p.ev).1, p.ev.zz, (sm p.ev).2, p.zi, p.rep, p.nd, p.bz, fun b hb => .inl (bn p.ev b hb)⟩
  | ex x =>
    simp only [ed, bY] at w
    exact WpX.ev w ⟨fun _ _ q _ => q, fun a ha => (by rw [kX] at ha; exact nomatch ha), fun _ h => h, fun _ h => .inl h, fun _ h => h⟩
  | bk ρ => simp only [ed, bY] at w; exact w.elim
  | ct ρ => simp only [ed, bY] at w; exact w.elim
  | no => simp only [ed, bY] at w; exact w.elim
theorem bK {P : Program} {w : World} {mg : Str → Option Value} {base : Heap} {x : Str} {st : Stmt} {N ps : List Str} {k : Nat} {d : Fr → bT} (F : cJ K mg x st) (S : bE N ps (aN st))
 (hb : ∀ (kV doc pm : Value) (an : Option Addr) (cdv ct : Value) (us : List Value), us.length = ps.length → bindArgs (PySem.W.fnOf x x (iK st) (dN st) (aN st) .none kV doc pm an cdv ct) ⟨us, []⟩ = pure (ps.zip us))
 (hbody : ∀ (f : Addr) (cdv : Value) (A : Around) (outer : List Env) (s : Shared) (H : Hp) (E : XK), Room k (A.deeper (envOfC x (aN st) s.heap.objs.size f cdv)) →
  ∃ t, PSs (mO jQ P w K mg base N x (aN st) f cdv A outer s H E).nox (dN st) t ∧ RS [] K cn E t d) {n : Nat} {G : List T → Res T} (hn : ps.length = n) (hG : ∀ ts, G ts = bY (d (cS N.length ts))) : bW P w K mg base (k + 1) x ps (aV K cn n G) := by
 obtain ⟨f, fd, F, hm⟩ := F.ex
 exact ⟨f, fd, ab4 F S (fun cdv A outer s H E hr => hbody f cdv A outer s H E hr) hn hG, hm, F.kp, F.binds hb⟩
theorem law_fn {P : Program} {w : World} {mg : Str → Option Value} {base : Heap} {k : Nat} {f : Addr} {fd : FuncData} {p : Str} {G : List T → Res T} (F : FnOk P w K mg base jQ k f fd [p] (aV K cn 1 G))
 (h : ∀ ns : List Int, ns.length ≤ 63 → (∀ n ∈ ns, Builtin.Int.intBits n ≤ 1048576) → G [.lst false (ns.map .int)] = .ok (.bl true)) : FnOk P w K mg base jQ k f fd [p] (an7 K) := by
 refine F.imp fun vs H Q E q => ?_
 obtain ⟨a, ns, rfl, hs, h63, hbits, hq⟩ := q
 have rints : ∀ (Z : Addr → Prop) (ns : List Int), Reps K cn H Z (ns.map T.int) (ns.map V.int) [] := by
  intro Z ns
  induction ns with
  | nil => simp [Reps]
  | cons n ns ih =>
   simp only [List.map_cons, Reps]
   exact ⟨.int n, ns.map V.int, [], [], rfl, rfl, by simp [Rep], ih⟩
 refine ⟨rfl, [.lst false (ns.map .int)], fun b => b = a ∧ H b ≠ none, fun b z => z.2, Reps.one ?_, ?_⟩
 · simp only [Rep]
   refine ⟨a, ns.map V.int, rfl, trivial, ?_, rints _ ns⟩
   rcases hs with (hs | ⟨o, hs⟩) | hs
   · exact .inl ⟨hs, rfl, by rw [hs]; exact (fun z => nomatch z)⟩
   · exact .inr (.inl ⟨o, hs⟩)
   · exact .inr (.inr hs)
 · rw [h ns h63 hbits]
   intro v H' Z' B p
   have q := p.rep
   simp only [Rep] at q
   rw [q.1]
   exact hq H'
end
end TL
namespace L2
open PySem PySem.Spec PyProof.Rows
def EqD (K : PySem.W.Frag) (H : Hp) : Nat → V → V → Bool → Prop
 | 0, x, y, b => qF x = true ∧ qF y = true ∧ b = eqV x y
 | n + 1, x, y, b => (qF x = true ∧ qF y = true ∧ b = eqV x y) ∨
  (∃ p q xs ys, x = .ref p ∧ y = .ref q ∧ SqL K H p xs ∧ SqL K H q ys ∧ ((xs.length ≠ ys.length ∧ b = false) ∨
   (xs.length = ys.length ∧ ∃ es : List Bool, es.length = xs.length ∧ (∀ (j : Nat) x y e, xs[j]? = some x → ys[j]? = some y → es[j]? = some e → EqD K H n x y e) ∧ b = es.all id))) ∨
  (∃ p q xs ys, x = .ref p ∧ y = .ref q ∧ SqT K H p xs ∧ SqT K H q ys ∧ ∃ es : List Bool, es.length = min xs.length ys.length ∧
   (∀ (j : Nat) x y e, xs[j]? = some x → ys[j]? = some y → es[j]? = some e → EqD K H n x y e) ∧ b = (es.all id && xs.length == ys.length))
theorem ae8 : ∀ {x : V}, qF x = true → eqV x x = true
 | .non, _ => rfl
 | .bl b, _ => by simp [eqV]
 | .int i, _ => by simp [eqV]
 | .str s, _ => by simp [eqV]
theorem pL (es : List Bool) : ((List.range es.length).all fun j => es.getD j true) = es.all id := by
 induction es with
 | nil => rfl
 | cons b es ih =>
  show (List.range (es.length + 1)).all _ = _
  rw [List.range_succ_eq_map, List.all_cons, List.all_map]
  show (b && _) = (b && es.all id)
  rw [← ih]
  rfl
section
variable {X : Cx} {pins : List (Addr × Obj)} {σ : St} {H : Hp} {s : Shared}
theorem EqD.self (I : Inv X pins σ H s) : ∀ (n : Nat) (x : V) (b : Bool), EqD X.K H n x x b → b = true
 | 0, x, b, h => by
  obtain ⟨h1, _, rfl⟩ := h
  exact ae8 h1
 | n + 1, x, b, h => by
  rcases h with ⟨h1, _, rfl⟩ | ⟨p, q, xs, ys, e1, e2, s1, s2, h⟩ | ⟨p, q, xs, ys, e1, e2, s1, s2, es, hl, he, rfl⟩
  · exact ae8 h1
  · rw [e1] at e2
    cases e2
    have := I.list_inj s1 s2
    subst this
    rcases h with ⟨h, _⟩ | ⟨_, es, hl, he, rfl⟩
    · exact absurd rfl h
    · rw [List.all_eq_true]
      intro e hm
      obtain ⟨j, hj, rfl⟩ := List.getElem_of_mem hm
      exact EqD.self I n xs[j] es[j] (he j xs[j] xs[j] es[j] (List.getElem?_eq_getElem (by omega)) (List.getElem?_eq_getElem (by omega)) (List.getElem?_eq_getElem hj))
  · rw [e1] at e2
    cases e2
    have := I.tuple_inj s1 s2
    subst this
    rw [beq_self_eq_true, Bool.and_true, List.all_eq_true]
    intro e hm
    obtain ⟨j, hj, rfl⟩ := List.getElem_of_mem hm
    have hx : j < xs.length := by omega
    exact EqD.self I n xs[j] es[j] (he j xs[j] xs[j] es[j] (List.getElem?_eq_getElem hx) (List.getElem?_eq_getElem hx) (List.getElem?_eq_getElem hj))
theorem fF {xs : List V} {us : List Value} {j : Nat} (r : Vals xs us) (h : j < us.length) : ∃ x, xs[j]? = some x ∧ RelV x us[j] := by
 have l := r.length
 have e1 : xs[j]? = some xs[j] := List.getElem?_eq_getElem (by omega)
 obtain ⟨u, hu, ru⟩ := r.get e1
 rw [List.getElem?_eq_getElem h] at hu
 exact ⟨xs[j], e1, by rw [Option.some.inj hu]; exact ru⟩
theorem oS (I : Inv X pins σ H s) : ∀ (n : Nat) {A : Around} {x y : V} {u v : Value} {b : Bool}, A.units + n < cLine → RelV x u → RelV y v → EqD X.K H n x y b → SeqAt.EqAt A s u v b
 | 0, A, x, y, u, v, b, hu, rx, ry, h => by
  obtain ⟨h1, h2, rfl⟩ := h
  exact bd6 rx ry h1 h2
 | n + 1, A, x, y, u, v, b, hu, rx, ry, h => by
  have h0 := h
  rcases h with ⟨h1, h2, rfl⟩ | ⟨p, q, xs, ys, rfl, rfl, s1, s2, h⟩ | ⟨p, q, xs, ys, rfl, rfl, s1, s2, es, hl, he, rfl⟩
  · exact bd6 rx ry h1 h2
  · cases rx
    cases ry
    by_cases hpq : p = q
    · subst hpq
      rw [EqD.self I (n + 1) _ b h0]
      exact SeqAt.EqAt.same _
    · obtain ⟨its, r1, p1, _⟩ := I.list s1
      obtain ⟨jts, r2, p2, _⟩ := I.list s2
      have l1 := r1.length
      have l2 := r2.length
      refine SeqAt.EqAt.of_refs hpq ?_
      rcases h with ⟨hne, rfl⟩ | ⟨heq, es, hl, he, rfl⟩
      · exact SeqAt.RcAt.lists_lengths p1.isList p2.isList (by simp only [List.size_toArray, bne_iff_ne, ne_eq]; omega) (by omega)
      · have := SeqAt.RcAt.lists (A := A) (s := s) (e := fun j => es.getD j true) p1.isList p2.isList (by simp only [List.size_toArray]; omega) (by omega) (fun j h1 h2 => by
         simp only [List.size_toArray] at h1 h2
         simp only [List.getElem_toArray]
         obtain ⟨x, ex, rx⟩ := fF r1 h1
         obtain ⟨y, ey, ry⟩ := fF r2 h2
         have hj : j < es.length := by omega
         have eg : es.getD j true = es[j] := by rw [List.getD_eq_getElem?_getD, List.getElem?_eq_getElem hj]; rfl
         rw [eg]
         exact oS I n (by show A.units + 1 + n < cLine; omega) rx ry (he j x y es[j] ex ey (List.getElem?_eq_getElem hj)))
        rw [List.size_toArray, show its.length = es.length by omega, pL] at this
        exact this
  · cases rx
    cases ry
    by_cases hpq : p = q
    · subst hpq
      rw [EqD.self I (n + 1) _ _ h0]
      exact SeqAt.EqAt.same _
    · obtain ⟨its, r1, p1, _⟩ := I.tuple s1
      obtain ⟨jts, r2, p2, _⟩ := I.tuple s2
      have l1 := r1.length
      have l2 := r2.length
      refine SeqAt.EqAt.of_refs hpq ?_
      have := SeqAt.RcAt.tuples (A := A) (s := s) (e := fun j => es.getD j true) (show s.heap.IsTuple p its.toArray from p1) (show s.heap.IsTuple q jts.toArray from p2) (by omega) (fun j h1 h2 => by
       simp only [List.size_toArray] at h1 h2
       simp only [List.getElem_toArray]
       obtain ⟨x, ex, rx⟩ := fF r1 h1
       obtain ⟨y, ey, ry⟩ := fF r2 h2
       have hj : j < es.length := by omega
       have eg : es.getD j true = es[j] := by rw [List.getD_eq_getElem?_getD, List.getElem?_eq_getElem hj]; rfl
       rw [eg]
       exact oS I n (by show A.units + 1 + n < cLine; omega) rx ry (he j x y es[j] ex ey (List.getElem?_eq_getElem hj)))
      simp only [List.size_toArray] at this
      rw [show min its.length jts.length = es.length by omega, pL, ← l1, ← l2] at this
      exact this
def cg0 (K : PySem.W.Frag) (n : Nat) : R2 := fun x y H Q => rEq x y H Q ∨ (∃ p q b, x = .ref p ∧ y = .ref q ∧ EqD K H n x y b ∧ Q (.bl b) H)
theorem dh0 {n : Nat} (hu : X.A.units + n < cLine) : OpR X (compareOp .Eq) (cg0 X.K n) := by
 intro pins s σ H x y v u Q I rx ry h
 rcases h with h | ⟨p, q, b, rfl, rfl, h, hq⟩
 · exact dv1 pins s σ H x y v u Q I rx ry h
 · cases rx
   cases ry
   have bY : EP X pins σ Q (.bool b) s := ⟨.bl b, H, I, rfl, hq⟩
   cases n with
   | zero => exact absurd h.1 (fun z => by cases z)
   | succ n =>
    rcases h with ⟨h1, _, _⟩ | ⟨p, q, xs, ys, e1, e2, s1, s2, h⟩ | ⟨p, q, xs, ys, e1, e2, s1, s2, es, hl, he, rfl⟩
    · exact absurd h1 (fun z => by cases z)
    · cases e1
      cases e2
      obtain ⟨its, r1, p1, _⟩ := I.list s1
      obtain ⟨jts, r2, p2, _⟩ := I.list s2
      have l1 := r1.length
      have l2 := r2.length
      rcases h with ⟨hne, rfl⟩ | ⟨heq, es, hl, he, rfl⟩
      · exact SeqAt.eq_list_lengthsAt p1.isList p2.isList (by simp only [List.size_toArray, bne_iff_ne, ne_eq]; omega) (by omega) bY
      · refine SeqAt.eq_listAt (e := fun j => es.getD j true) p1.isList p2.isList (by simp only [List.size_toArray]; omega) (by omega) (fun j h1 h2 => ?_) ?_
        · simp only [List.size_toArray] at h1 h2
          simp only [List.getElem_toArray]
          obtain ⟨x, ex, rx⟩ := fF r1 h1
          obtain ⟨y, ey, ry⟩ := fF r2 h2
          have hj : j < es.length := by omega
          have eg : es.getD j true = es[j] := by rw [List.getD_eq_getElem?_getD, List.getElem?_eq_getElem hj]; rfl
          rw [eg]
          exact oS I n (by show X.A.units + 1 + n < cLine; omega) rx ry (he j x y es[j] ex ey (List.getElem?_eq_getElem hj))
        · rw [List.size_toArray, show its.length = es.length by omega, pL]
          exact bY
    · cases e1
      cases e2
      obtain ⟨its, r1, p1, _⟩ := I.tuple s1
      obtain ⟨jts, r2, p2, _⟩ := I.tuple s2
      have l1 := r1.length
      have l2 := r2.length
      refine SeqAt.eq_tupleAt (e := fun j => es.getD j true) (show s.heap.IsTuple p its.toArray from p1) (show s.heap.IsTuple q jts.toArray from p2) (by omega) (fun j h1 h2 => ?_) ?_
      · simp only [List.size_toArray] at h1 h2
        simp only [List.getElem_toArray]
        obtain ⟨x, ex, rx⟩ := fF r1 h1
        obtain ⟨y, ey, ry⟩ := fF r2 h2
        have hj : j < es.length := by omega
        have eg : es.getD j true = es[j] := by rw [List.getD_eq_getElem?_getD, List.getElem?_eq_getElem hj]; rfl
        rw [eg]
        exact oS I n (by show X.A.units + 1 + n < cLine; omega) rx ry (he j x y es[j] ex ey (List.getElem?_eq_getElem hj))
      · simp only [List.size_toArray]
        rw [show min its.length jts.length = es.length by omega, pL, ← l1, ← l2]
        exact bY
def cv0 (K : PySem.W.Frag) (n : Nat) (neg : Bool) : R2 := fun x y H Q => (∃ p ys, y = .ref p ∧ (SqL K H p ys ∨ SqT K H p ys) ∧ ∃ es : List Bool, es.length = ys.length ∧ (∀ (j : Nat) y e, ys[j]? = some y → es[j]? = some e → EqD K H n y x e) ∧ Q (.bl (if neg then !es.any id else es.any id)) H) ∨
 (∃ i j, x = .str i ∧ y = .str j ∧ Q (.bl (if neg then !(!(Builtin.Str.occurrences j i 0 j.length 1).isEmpty) else (!(Builtin.Str.occurrences j i 0 j.length 1).isEmpty))) H)
theorem EqD.det (I : Inv X pins σ H s) : ∀ (n : Nat) (x y : V) (b c : Bool), EqD X.K H n x y b → EqD X.K H n x y c → b = c := by
 intro n
 induction n with
 | zero => intro x y b c h1 h2; rw [h1.2.2, h2.2.2]
 | succ n ih =>
  intro x y b c h1 h2
  have flat_ref : ∀ {p : Addr}, qF (.ref p) = true → False := fun h => by cases h
  rcases h1 with ⟨a1, a2, rfl⟩ | ⟨p, q, xs, ys, rfl, rfl, s1, s2, h1⟩ | ⟨p, q, xs, ys, rfl, rfl, s1, s2, es, hl, he, rfl⟩
  · rcases h2 with ⟨b1, b2, rfl⟩ | ⟨p, q, xs, ys, rfl, rfl, _⟩ | ⟨p, q, xs, ys, rfl, rfl, _⟩
    · rfl
    · exact (flat_ref a1).elim
    · exact (flat_ref a1).elim
  · rcases h2 with ⟨b1, b2, rfl⟩ | ⟨p', q', xs', ys', e1, e2, t1, t2, h2⟩ | ⟨p', q', xs', ys', e1, e2, t1, t2, _⟩
    · exact (flat_ref b1).elim
    · cases e1
      cases e2
      have z1 := I.list_inj s1 t1
      have z2 := I.list_inj s2 t2
      subst z1 z2
      rcases h1 with ⟨n1, rfl⟩ | ⟨n1, es, hl, he, rfl⟩
      · rcases h2 with ⟨n2, rfl⟩ | ⟨n2, _⟩
        · rfl
        · exact absurd n2 n1
      · rcases h2 with ⟨n2, rfl⟩ | ⟨n2, es', hl', he', rfl⟩
        · exact absurd n1 n2
        · have : es = es' := by
           apply List.ext_getElem (by omega)
           intro j h1 h2
           exact ih xs[j] ys[j] es[j] es'[j] (he j _ _ _ (List.getElem?_eq_getElem (by omega)) (List.getElem?_eq_getElem (by omega)) (List.getElem?_eq_getElem h1)) (he' j _ _ _ (List.getElem?_eq_getElem (by omega)) (List.getElem?_eq_getElem (by omega)) (List.getElem?_eq_getElem h2))
          rw [this]
    · cases e1
      obtain ⟨_, _, ⟨o, n', eo, c1, _⟩, _⟩ := I.list s1
      obtain ⟨_, _, ⟨o', eo', c2, _⟩, _⟩ := I.tuple t1
      rw [eo] at eo'
      cases eo'
      rw [c1] at c2
      exact absurd c2 (by decide)
  · rcases h2 with ⟨b1, b2, rfl⟩ | ⟨p', q', xs', ys', e1, e2, t1, t2, h2⟩ | ⟨p', q', xs', ys', e1, e2, t1, t2, es', hl', he', rfl⟩
    · exact (flat_ref b1).elim
    · cases e1
      obtain ⟨_, _, ⟨o, n', eo, c1, _⟩, _⟩ := I.list t1
      obtain ⟨_, _, ⟨o', eo', c2, _⟩, _⟩ := I.tuple s1
      rw [eo] at eo'
      cases eo'
      rw [c1] at c2
      exact absurd c2 (by decide)
    · cases e1
      cases e2
      have z1 := I.tuple_inj s1 t1
      have z2 := I.tuple_inj s2 t2
      subst z1 z2
      have : es = es' := by
       apply List.ext_getElem (by omega)
       intro j h1 h2
       have hx : j < xs.length := by omega
       have hy : j < ys.length := by omega
       exact ih xs[j] ys[j] es[j] es'[j] (he j _ _ _ (List.getElem?_eq_getElem hx) (List.getElem?_eq_getElem hy) (List.getElem?_eq_getElem h1)) (he' j _ _ _ (List.getElem?_eq_getElem hx) (List.getElem?_eq_getElem hy) (List.getElem?_eq_getElem h2))
      rw [this]
theorem bl2 (I : Inv X pins σ H s) {n : Nat} {x : V} {ys : List V} {us : List Value} {es : List Bool} (r : Vals ys us) (hl : es.length = ys.length) (he : ∀ (j : Nat) y e, ys[j]? = some y → es[j]? = some e → EqD X.K H n y x e) :
 ∃ e : Value → Bool, (∀ u ∈ us, ∃ y, RelV y u ∧ EqD X.K H n y x (e u)) ∧ us.any e = es.any id := by
 refine ⟨fun u => @decide (∃ y, RelV y u ∧ EqD X.K H n y x true) (Classical.propDecidable _), ?_, ?_⟩
 · intro u hu
   obtain ⟨j, hj, rfl⟩ := List.getElem_of_mem hu
   obtain ⟨y, ey, ry⟩ := fF r hj
   have lj : j < es.length := by rw [hl, r.length]; exact hj
   have q := he j y es[j] ey (List.getElem?_eq_getElem lj)
   refine ⟨y, ry, ?_⟩
   by_cases c : ∃ y, RelV y us[j] ∧ EqD X.K H n y x true
   · obtain ⟨y', ry', q'⟩ := c
     have := ry.inj ry'
     subst this
     simp only [show (∃ y, RelV y us[j] ∧ EqD X.K H n y x true) from ⟨y, ry, q'⟩, decide_true]
     exact q'
   · simp only [c, decide_false]
     cases eb : es[j] with
     | false => rw [eb] at q; exact q
     | true => rw [eb] at q; exact absurd ⟨y, ry, q⟩ c
 · rw [Bool.eq_iff_iff, List.any_eq_true, List.any_eq_true]
   constructor
   · rintro ⟨u, hu, c⟩
     obtain ⟨j, hj, rfl⟩ := List.getElem_of_mem hu
     obtain ⟨y, ey, ry⟩ := fF r hj
     have lj : j < es.length := by rw [hl, r.length]; exact hj
     obtain ⟨y', ry', q'⟩ := @of_decide_eq_true _ (Classical.propDecidable _) c
     have := ry.inj ry'
     subst this
     have q := he j y es[j] ey (List.getElem?_eq_getElem lj)
     exact ⟨es[j], List.getElem_mem lj, EqD.det I n y x es[j] true q q'⟩
   · rintro ⟨e, hm, c⟩
     obtain ⟨j, hj, rfl⟩ := List.getElem_of_mem hm
     have c' : es[j] = true := c
     have lj : j < us.length := by rw [← r.length, ← hl]; exact hj
     obtain ⟨y, ey, ry⟩ := fF r lj
     have q := he j y es[j] ey (List.getElem?_eq_getElem hj)
     rw [c'] at q
     exact ⟨us[j], List.getElem_mem lj, @decide_eq_true _ (Classical.propDecidable _) ⟨y, ry, q⟩⟩
theorem cj6 {n : Nat} (hu : X.A.units + n + 1 < cLine) : OpR X (compareOp .In) (cv0 X.K n false) := by
 intro pins s σ H x y v u Q I rx ry h
 rcases h with ⟨p, ys, rfl, hs, es, hl, he, q⟩ | ⟨i, j, rfl, rfl, q⟩
 · cases ry
   rcases hs with hs | hs
   · obtain ⟨its, r, pl, _⟩ := I.list hs
     obtain ⟨e, h1, h2⟩ := bl2 I r hl he
     refine SeqAt.in_listAt e pl.isList (fun y hy => ?_) ?_
     · obtain ⟨y', ry', q'⟩ := h1 y (by simpa using hy)
       exact oS I n (by show X.A.units + 1 + n < cLine; omega) ry' rx q'
     · exact ⟨.bl _, H, I, by rw [List.any_toArray, h2]; rfl, q⟩
   · obtain ⟨its, r, pl, _⟩ := I.tuple hs
     obtain ⟨e, h1, h2⟩ := bl2 I r hl he
     refine SeqAt.in_tupleAt e (show s.heap.IsTuple p its.toArray from pl) (fun y hy => ?_) ?_
     · obtain ⟨y', ry', q'⟩ := h1 y (by simpa using hy)
       exact oS I n (by show X.A.units + 1 + n < cLine; omega) ry' rx q'
     · exact ⟨.bl _, H, I, by rw [List.any_toArray, h2]; rfl, q⟩
 · exact bz4 pins s σ H _ _ v u Q I rx ry ⟨i, j, rfl, rfl, q⟩
def cg7 : R2 := fun x y H Q => (y = .non ∧ Q (.bl (decide (x = .non))) H) ∨ (∃ a b, x = .bl a ∧ y = .bl b ∧ Q (.bl (a == b)) H)
theorem be7 : OpR X (compareOp .Is) cg7 := by
 intro pins s σ H x y v u Q I rx ry h
 rcases h with h | ⟨a, b, rfl, rfl, q⟩
 · exact cc7 pins s σ H x y v u Q I rx ry h
 · cases rx
   cases ry
   exact is_bool ⟨.bl _, H, I, rfl, q⟩
end
end L2
namespace L2
open PySem PySem.Spec PyProof.Rows
def vL (z : Str) (k : Nat) : Str := ⟨((List.replicate k z.cps.toList).flatten).toArray⟩
theorem aj2 (z : Str) : ∀ (k : Nat) (acc : List Nat), List.foldl (fun x1 x2 => x1 ++ x2) acc.toArray (List.replicate k z.cps) = (acc ++ (List.replicate k z.cps.toList).flatten).toArray
 | 0, acc => by simp
 | k + 1, acc => by
  rw [List.replicate_succ, List.foldl_cons, List.replicate_succ, List.flatten_cons]
  have e : acc.toArray ++ z.cps = (acc ++ z.cps.toList).toArray := by simp
  rw [e, aj2 z k, List.append_assoc]
section
variable {X : Cx}
def cw1 (K : PySem.W.Frag) : R2 := fun x y H Q => ∃ l b xs zs, x = .ref l ∧ y = .ref b ∧ SqS K H l xs ∧ SqS K H b zs ∧ xs.length + zs.length ≤ sizeLine ∧ ∀ p, H p = none → Q (.ref p) (upd H p (.lst (xs ++ zs)))
theorem op_catS : OpR X (binaryOp .Add) (cw1 X.K) := by
 intro pins s σ H x y v u Q I rx ry h
 obtain ⟨l, b, xs, zs, rfl, rfl, hH, hB, hz, q⟩ := h
 cases rx
 cases ry
 obtain ⟨its, n, r, e, _⟩ := I.listS hH
 obtain ⟨its2, n2, r2, e2, _⟩ := I.listS hB
 have hl := r.length
 have hl2 := r2.length
 refine PySem.P.add_list e e2 ?_ (by rw [List.size_toArray, List.size_toArray]; omega)
 have ea : its.toArray ++ its2.toArray = (its ++ its2).toArray := by simp
 rw [ea]
 exact ⟨.ref _, _, I.lnew (t' := s.toks) (r.append r2) (by rw [List.length_append]; omega), rfl, q _ I.fresh⟩
def ca2 (K : PySem.W.Frag) : R2 := fun x y H Q => sJ (fun i j => .int (i + j)) x y H Q ∨ dh3 x y H Q ∨ cw1 K x y H Q ∨ cz1 K x y H Q
theorem bH (K : PySem.W.Frag) (hK : X.K = K := by rfl) : OpR X (binaryOp .Add) (ca2 K) := by
 subst hK
 exact op_add.or (op_add_str.or (op_catS.or cx4))
def cy1 : R2 := fun x y H Q => ∃ z k, x = .str z ∧ y = .int k ∧ -(2 ^ 63) ≤ k ∧ k < 2 ^ 62 ∧ z.length * k.toNat ≤ sizeLine ∧ Q (.str (vL z k.toNat)) H
theorem cs4 : OpR X (binaryOp .Mult) cy1 := by
 intro pins s σ H x y v u Q I rx ry h
 obtain ⟨z, k, rfl, rfl, h1, h2, hz, q⟩ := h
 obtain ⟨t, rfl⟩ := rx
 obtain ⟨t', rfl⟩ := ry
 have hn := sizeLine_eq
 refine PySem.P.mul_str ?_ ?_ ?_ ?_
 · rw [decide_eq_false (by omega), decide_eq_false (by omega)]
   rfl
 · intro hk _
   have hk1 : 1 ≤ k := by omega
   have : ((z.length : Int)) ≤ 16777216 := by
    have : z.length * 1 ≤ z.length * k.toNat := Nat.mul_le_mul_left _ (by omega)
    omega
   have hq : (2 ^ 63 - 1 : Int) / k ≥ (z.length : Int) := by
    refine (Int.le_ediv_iff_mul_le (by omega)).mpr ?_
    have e : (z.length : Int) * k = ((z.length * k.toNat : Nat) : Int) := by
     rw [Int.natCast_mul, Int.toNat_of_nonneg (by omega)]
    rw [e]
    omega
   omega
 · intro _ _
   unfold Builtin.Str.tooLong
   exact decide_eq_false (by omega)
 · split
   · next hk =>
     have e : vL z k.toNat = Str.empty := by
      have : k.toNat = 0 := by omega
      rw [this]
      rfl
     rw [e] at q
     exact ⟨by decide, .str _, H, I.tok _, ⟨_, rfl⟩, q⟩
   · next hk =>
     split
     · next hc =>
       have e : vL z k.toNat = z := by
        rw [Bool.or_eq_true, beq_iff_eq, beq_iff_eq] at hc
        rcases hc with hc | hc
        · subst hc
          simp [vL]
        · have hz0 : z.cps.toList = [] := by
           have : z.cps.toList.length = 0 := by rw [Array.length_toList]; exact hc
           exact List.eq_nil_of_length_eq_zero this
          have : (List.replicate k.toNat z.cps.toList).flatten = [] := by
           rw [hz0]
           simp
          unfold vL
          rw [this]
          obtain ⟨⟨l⟩⟩ := z
          simp at hz0
          rw [hz0]
       rw [e] at q
       exact ⟨.str _, H, I, ⟨_, rfl⟩, q⟩
     · have e : (⟨(List.replicate k.toNat z.cps).foldl (· ++ ·) #[]⟩ : Str) = vL z k.toNat := by
        have := aj2 z k.toNat []
        rw [List.nil_append] at this
        unfold vL
        rw [← this]
       rw [e]
       refine ⟨?_, .str _, H, I.tok _, ⟨_, rfl⟩, q⟩
       show ((List.replicate k.toNat z.cps.toList).flatten.toArray).size ≤ sizeLine
       rw [List.size_toArray, cs5, Array.length_toList, Nat.mul_comm]
       exact hz
def cl2 : R2 := fun x y H Q => cd8 x y H Q ∨ cy1 x y H Q
theorem jI : OpR X (binaryOp .Mult) cl2 := op_mulB.or cs4
end
end L2
namespace TL
open PySem PySem.Spec PyProof.Rows L2
section
variable {Jn : gL} {K : PySem.W.Frag} {cn : Str → Option Addr} {E : XK} {As : List (List Addr)} {H : Hp} {Z : Addr → Prop} {Q : VK}
theorem WpE.val {t : T} {v : V} (w : WpE K cn E As H Z [] Q (.ok t)) (zi : ∀ a, Z a → H a ≠ none) (r : Rep K cn H Z t v []) : Q v H :=
 w v H Z [] ⟨Same.refl _, fun _ h => h, fun _ h => .inl h, zi, r, List.nodup_nil, dJ, dJ⟩
theorem WpE.newL {ts : List T} {vs : List V} (w : WpE K cn E As H Z [] Q (.ok (.lst true ts))) (zi : ∀ a, Z a → H a ≠ none) (r : Reps K cn H Z ts vs []) (p : Addr) (hp : H p = none) : Q (.ref p) (L2.upd H p (.lst vs)) := by
 have m := Mo.new (.lst vs) hp zi
 refine w (.ref p) _ Z [p] ⟨m.same, m.zz, m.zn, m.zi, ?_, by simp, fun b hb => ?_, fun b hb => ?_⟩
 · simp only [Rep]
   exact ⟨p, vs, [], rfl, rfl, dZ, r.same m.same m.zz⟩
 · rw [List.mem_singleton.mp hb]; exact fun z => zi p z hp
 · rw [List.mem_singleton.mp hb]; exact .inl hp
theorem WpE.newT {ts : List T} {vs : List V} (w : WpE K cn E As H Z [] Q (.ok (.tup ts))) (zi : ∀ a, Z a → H a ≠ none) (r : Reps K cn H Z ts vs []) (p : Addr) (hp : H p = none) : Q (.ref p) (L2.upd H p (.tup vs)) := by
 have m := Mo.new (.tup vs) hp zi
 refine w (.ref p) _ Z [] ⟨m.same, m.zz, m.zn, m.zi, ?_, List.nodup_nil, dJ, dJ⟩
 simp only [Rep]
 exact ⟨p, vs, rfl, SqT.of dZ, r.same m.same m.zz⟩
theorem Rep.int {i : Int} {v : V} {A : List Addr} (h : Rep K cn H Z (.int i) v A) : v = .int i := by simp only [Rep] at h; exact h.1
theorem Rep.str {i : Str} {v : V} {A : List Addr} (h : Rep K cn H Z (.str i) v A) : v = .str i := by simp only [Rep] at h; exact h.1
theorem Rep.bl {i : Bool} {v : V} {A : List Addr} (h : Rep K cn H Z (.bl i) v A) : v = .bl i := by simp only [Rep] at h; exact h.1
theorem Rep.non {v : V} {A : List Addr} (h : Rep K cn H Z .non v A) : v = .non := by simp only [Rep] at h; exact h.1
theorem Rep.tupS {ts : List T} {v : V} {A : List Addr} (h : Rep K cn H Z (.tup ts) v A) : ∃ a vs, v = .ref a ∧ SqT K H a vs ∧ Reps K cn H Z ts vs A := by simp only [Rep] at h; exact h
theorem jD (i : Int) : Rep K cn H Z (.int i) (.int i) [] := by simp [Rep]
theorem oX (i : Bool) : Rep K cn H Z (.bl i) (.bl i) [] := by simp [Rep]
theorem yU (i : Str) : Rep K cn H Z (.str i) (.str i) [] := by simp [Rep]
noncomputable def cN : T → T → Res T
 | .int i, .int j => .ok (.int (i + j))
 | .str a, .str b => gate (a.length + b.length ≤ sizeLine) (.ok (.str (a ++ b)))
 | .lst _ xs, .lst _ ys => gate ((bA xs && bA ys) = true ∧ xs.length + ys.length ≤ sizeLine) (.ok (.lst true (xs ++ ys)))
 | .tup xs, .tup ys => gate ((bA xs && bA ys) = true ∧ xs.length + ys.length ≤ sizeLine ∧ xs.isEmpty = false ∧ ys.isEmpty = false) (.ok (.tup (xs ++ ys)))
 | _, _ => .no
theorem di1 : mS K cn (ca2 K) cN := fun E As H Z t u x y A B Q zi rt ru w => by
 unfold cN at w
 split at w
 · next i j => rw [rt.int, ru.int]; exact .inl ⟨i, j, rfl, rfl, w.val zi (jD _)⟩
 · next a b =>
   obtain ⟨h, w⟩ := w.gate
   rw [rt.str, ru.str]; exact .inr (.inl ⟨a, b, rfl, rfl, h, w.val zi (yU _)⟩)
 · next o xs o' ys =>
   obtain ⟨h, w⟩ := w.gate
   rw [Bool.and_eq_true] at h
   obtain ⟨a, vs, C, rfl, hs, r1, _⟩ := rt.lstSq
   obtain ⟨b, ws, D, rfl, hs', r2, _⟩ := ru.lstSq
   exact .inr (.inr (.inl ⟨a, b, vs, ws, rfl, rfl, hs, hs', by rw [Reps.length xs r1, Reps.length ys r2]; exact h.2, fun p hp => w.newL zi (Reps.append xs (r1.bareE h.1.1) (r2.bareE h.1.2)) p hp⟩))
 · next xs ys =>
   obtain ⟨h, w⟩ := w.gate
   rw [Bool.and_eq_true] at h
   obtain ⟨a, vs, rfl, hs, r1⟩ := rt.tupS
   obtain ⟨b, ws, rfl, hs', r2⟩ := ru.tupS
   have e1 := r1.isEmpty
   have e2 := r2.isEmpty
   refine .inr (.inr (.inr ⟨a, b, vs, ws, rfl, rfl, hs, hs', fun z => ?_, by rw [Reps.length xs r1, Reps.length ys r2]; exact h.2.1, fun z => ?_, fun _ p hp => w.newT zi (Reps.append xs (r1.bareE h.1.1) (r2.bareE h.1.2)) p hp⟩))
   · rw [z, h.2.2.1] at e1; cases e1
   · rw [z, h.2.2.2] at e2; cases e2
 · exact w.elim
def mX (f : Int → Int → Res T) : T → T → Res T
 | .int i, .int j => f i j
 | _, _ => .no
theorem au9 {g : Int → Int → T} {g' : Int → Int → V} (hg : ∀ i j H Z, Rep K cn H Z (g i j) (g' i j) []) : mS K cn (sJ g') (mX fun i j => .ok (g i j)) := fun E As H Z t u x y A B Q zi rt ru w => by
 unfold mX at w
 split at w
 · next i j => rw [rt.int, ru.int]; exact ⟨i, j, rfl, rfl, w.val zi (hg i j _ _)⟩
 · exact w.elim
theorem r_i {C : Int → Int → Prop} {g : Int → Int → T} {g' : Int → Int → V} (hg : ∀ i j H Z, Rep K cn H Z (g i j) (g' i j) []) : mS K cn (rI C g') (mX fun i j => gate (C i j) (.ok (g i j))) := fun E As H Z t u x y A B Q zi rt ru w => by
 unfold mX at w
 split at w
 · next i j =>
   obtain ⟨h, w⟩ := WpE.gate w
   rw [rt.int, ru.int]; exact ⟨i, j, rfl, rfl, h, w.val zi (hg i j _ _)⟩
 · exact w.elim
def dH := mX fun i j => .ok (.int (i - j))
theorem dv2 : mS K cn (sJ fun i j => .int (i - j)) dH := au9 fun _ _ _ _ => jD _
def xN := mX fun i j => .ok (.bl (decide (i < j)))
def oY := mX fun i j => .ok (.bl (decide (i ≤ j)))
def gtT := mX fun i j => .ok (.bl (decide (j < i)))
def geT := mX fun i j => .ok (.bl (decide (j ≤ i)))
theorem dc4 : mS K cn (sJ fun i j => .bl (decide (i < j))) xN := au9 fun _ _ _ _ => oX _
theorem dx4 : mS K cn (sJ fun i j => .bl (decide (i ≤ j))) oY := au9 fun _ _ _ _ => oX _
theorem dy4 : mS K cn (sJ fun i j => .bl (decide (j < i))) gtT := au9 fun _ _ _ _ => oX _
theorem dj4 : mS K cn (sJ fun i j => .bl (decide (j ≤ i))) geT := au9 fun _ _ _ _ => oX _
noncomputable def gH := mX fun i j => gate (tW i j) (.ok (.int (i / j)))
theorem co7 : mS K cn (rI tW fun i j => .int (i / j)) gH := r_i fun _ _ _ _ => jD _
noncomputable def cP := mX fun i j => gate (0 < j) (.ok (.int (i % j)))
theorem df1 : mS K cn (rI (fun _ j => 0 < j) fun i j => .int (i % j)) cP := r_i (C := fun _ j => 0 < j) fun _ _ _ _ => jD _
noncomputable def xP := mX fun i j => gate (xD i j) (.ok (.int (i ^ j.toNat)))
theorem dx2 : mS K cn (rI xD fun i j => .int (i ^ j.toNat)) xP := r_i fun _ _ _ _ => jD _
def mulOk (i j : Int) : Prop := (-(2 ^ 64) < i ∧ i < 2 ^ 64) ∨ (-(2 ^ 64) < j ∧ j < 2 ^ 64) ∨ Builtin.Int.intBits i + Builtin.Int.intBits j ≤ 134217728
theorem mulOk.ok {i j : Int} (h : mulOk i j) : IntMulOk i j := by
 rcases h with h | h | h
 · exact cj5 h.1 h.2
 · exact cz4 h.1 h.2
 · exact bb4 h
noncomputable def kM : T → T → Res T
 | .int i, .int j => gate (mulOk i j) (.ok (.int (i * j)))
 | .str z, .int k => gate (-(2 ^ 63) ≤ k ∧ k < 2 ^ 62 ∧ z.length * k.toNat ≤ sizeLine) (.ok (.str (vL z k.toNat)))
 | _, _ => .no
theorem dv3 : mS K cn cl2 kM := fun E As H Z t u x y A B Q zi rt ru w => by
 unfold kM at w
 split at w
 · next i j =>
   obtain ⟨h, w⟩ := w.gate
   rw [rt.int, ru.int]; exact .inl ⟨i, j, rfl, rfl, h.ok, w.val zi (jD _)⟩
 · next z k =>
   obtain ⟨h, w⟩ := w.gate
   rw [rt.str, ru.int]; exact .inr ⟨z, k, rfl, rfl, h.1, h.2.1, h.2.2, w.val zi (yU _)⟩
 · exact w.elim
def nG : T → Res T
 | .int i => .ok (.int (-i))
 | _ => .no
theorem do2 : R1R K cn (rU fun i => .int (-i)) nG := fun E As H Z t x A Q zi rt w => by
 unfold nG at w
 split at w
 · next i => rw [rt.int]; exact ⟨i, rfl, w.val zi (jD _)⟩
 · exact w.elim
def zW : T → T → Res T
 | .bl a, .bl b => .ok (.bl (a == b))
 | .non, .non => .ok (.bl true)
 | _, .non => .ok (.bl false)
 | _, _ => .no
theorem Rep.notNon {t : T} {v : V} {A : List Addr} (h : Rep K cn H Z t v A) (n : t ≠ .non) : v ≠ .non := by
 cases t with
 | non => exact absurd rfl n
 | bl _ => rw [h.bl]; exact fun z => nomatch z
 | int _ => rw [h.int]; exact fun z => nomatch z
 | str _ => rw [h.str]; exact fun z => nomatch z
 | ty _ => simp only [Rep] at h; rw [h.1]; exact fun z => nomatch z
 | lst o ts => obtain ⟨a, vs, C, rfl, _⟩ := h.lstSq; exact fun z => nomatch z
 | tup ts => obtain ⟨a, vs, rfl, _⟩ := h.tupS; exact fun z => nomatch z
 | ins o c ns ts =>
  cases o with
  | true => simp only [Rep] at h; obtain ⟨a, C, dx, vs, B, rfl, _⟩ := h; exact fun z => nomatch z
  | false => simp only [Rep] at h; obtain ⟨a, C, dx, vs, rfl, _⟩ := h; exact fun z => nomatch z
theorem dr4 : mS K cn cg7 zW := fun E As H Z t u x y A B Q zi rt ru w => by
 unfold zW at w
 split at w
 · next a b => rw [rt.bl, ru.bl]; exact .inr ⟨a, b, rfl, rfl, w.val zi (oX _)⟩
 · rw [rt.non, ru.non]; exact .inl ⟨rfl, w.val zi (oX _)⟩
 · next h1 h2 => rw [ru.non]; exact .inl ⟨rfl, by rw [decide_eq_false (rt.notNon (by rintro rfl; exact h2 rfl))]; exact w.val zi (oX _)⟩
 · exact w.elim
def kY : T → T → Res T
 | .non, .non => .ok (.bl false)
 | _, .non => .ok (.bl true)
 | _, _ => .no
theorem cn3 : mS K cn (fun x y H Q => y = .non ∧ Q (.bl (!decide (x = .non))) H) kY := fun E As H Z t u x y A B Q zi rt ru w => by
 unfold kY at w
 split at w
 · rw [rt.non, ru.non]; exact ⟨rfl, w.val zi (oX _)⟩
 · next h2 => rw [ru.non]; exact ⟨rfl, by rw [decide_eq_false (rt.notNon (by rintro rfl; exact h2 rfl))]; exact w.val zi (oX _)⟩
 · exact w.elim
def lH : T → T → Option Bool
 | .non, .non => some true
 | .non, .bl _ => some false
 | .non, .int _ => some false
 | .non, .str _ => some false
 | .bl _, .non => some false
 | .bl a, .bl b => some (a == b)
 | .bl a, .int b => some ((if a then 1 else 0) == b)
 | .bl _, .str _ => some false
 | .int _, .non => some false
 | .int a, .bl b => some (a == (if b then 1 else 0))
 | .int a, .int b => some (a == b)
 | .int _, .str _ => some false
 | .str _, .non => some false
 | .str _, .bl _ => some false
 | .str _, .int _ => some false
 | .str a, .str b => some (a == b)
 | _, _ => none
mutual
def xB : Nat → T → T → Option Bool
 | n + 1, .lst _ xs, .lst _ ys => if xs.length = ys.length then (xY n xs ys).map fun es => es.all id else some false
 | n + 1, .tup xs, .tup ys => (xY n xs ys).map fun es => es.all id && xs.length == ys.length
 | _, t, u => lH t u
def xY : Nat → List T → List T → Option (List Bool)
 | n, x :: xs, y :: ys => (xB n x y).bind fun b => (xY n xs ys).map fun es => b :: es
 | _, _, _ => some []
end
theorem bb5 {t u : T} {x y : V} {A B : List Addr} {b : Bool} (rt : Rep K cn H Z t x A) (ru : Rep K cn H Z u y B) (h : lH t u = some b) : qF x = true ∧ qF y = true ∧ b = eqV x y := by
 unfold lH at h
 split at h
 all_goals first
  | (simp only [Rep] at rt ru; obtain ⟨rfl, _⟩ := rt; obtain ⟨rfl, _⟩ := ru; cases h; exact ⟨rfl, rfl, rfl⟩)
  | cases h
theorem an9 {n : Nat} {t u : T} {x y : V} {A B : List Addr} {b : Bool} (rt : Rep K cn H Z t x A) (ru : Rep K cn H Z u y B) (h : lH t u = some b) : EqD K H n x y b := by
 have q := bb5 rt ru h
 cases n with
 | zero => exact q
 | succ n => exact .inl q
theorem ah4 {n : Nat} (ih : ∀ (t u : T) {x y : V} {A B : List Addr} {b : Bool}, Rep K cn H Z t x A → Rep K cn H Z u y B → xB n t u = some b → EqD K H n x y b) : ∀ (ts us : List T) {vs ws : List V} {A B : List Addr} {es : List Bool}, Reps K cn H Z ts vs A → Reps K cn H Z us ws B → xY n ts us = some es →
 es.length = min ts.length us.length ∧ ∀ (j : Nat) x y e, vs[j]? = some x → ws[j]? = some y → es[j]? = some e → EqD K H n x y e
 | x :: xs, y :: ys, vs, ws, A, B, es, r1, r2, h => by
  simp only [Reps] at r1 r2
  obtain ⟨v, vs', B1, C1, rfl, rfl, a1, a2⟩ := r1
  obtain ⟨w, ws', B2, C2, rfl, rfl, b1, b2⟩ := r2
  rw [xY, Option.bind_eq_some_iff] at h
  obtain ⟨b, h1, h⟩ := h
  rw [Option.map_eq_some_iff] at h
  obtain ⟨es', h2, rfl⟩ := h
  obtain ⟨q1, q2⟩ := ah4 ih xs ys a2 b2 h2
  refine ⟨by simp only [List.length_cons]; omega, fun j x' y' e e1 e2 e3 => ?_⟩
  cases j with
  | zero =>
   simp at e1 e2 e3
   subst e1 e2 e3
   exact ih x y a1 b1 h1
  | succ j => exact q2 j x' y' e (by simpa using e1) (by simpa using e2) (by simpa using e3)
 | [], us, vs, ws, A, B, es, r1, r2, h => by
  have e : xY n [] us = some [] := by cases us <;> rfl
  rw [e] at h
  cases h
  exact ⟨by simp, fun j x y e _ _ e3 => by simp at e3⟩
 | t :: ts, [], vs, ws, A, B, es, r1, r2, h => by
  have e : xY n (t :: ts) [] = some [] := rfl
  rw [e] at h
  cases h
  exact ⟨by simp, fun j x y e _ _ e3 => by simp at e3⟩
theorem ab9 (n : Nat) : ∀ (t u : T) {x y : V} {A B : List Addr} {b : Bool}, Rep K cn H Z t x A → Rep K cn H Z u y B → xB n t u = some b → EqD K H n x y b := by
 induction n with
 | zero =>
  intro t u x y A B b rt ru h
  have e : xB 0 t u = lH t u := by cases t <;> cases u <;> rfl
  rw [e] at h
  exact an9 rt ru h
 | succ n ih =>
  intro t u x y A B b rt ru h
  by_cases h1 : ∃ o o' xs ys, t = .lst o xs ∧ u = .lst o' ys
  · obtain ⟨o, o', xs, ys, rfl, rfl⟩ := h1
    obtain ⟨a, vs, C, rfl, hs, r1, _⟩ := rt.lstSq
    obtain ⟨b', ws, D, rfl, hs', r2, _⟩ := ru.lstSq
    rw [xB] at h
    have l1 := Reps.length xs r1
    have l2 := Reps.length ys r2
    split at h
    · next hl =>
      rw [Option.map_eq_some_iff] at h
      obtain ⟨es, h1, rfl⟩ := h
      obtain ⟨q1, q2⟩ := ah4 ih xs ys r1 r2 h1
      exact .inr (.inl ⟨a, b', vs, ws, rfl, rfl, hs.sq, hs'.sq, .inr ⟨by omega, es, by rw [q1]; omega, q2, rfl⟩⟩)
    · next hl =>
      cases h
      exact .inr (.inl ⟨a, b', vs, ws, rfl, rfl, hs.sq, hs'.sq, .inl ⟨by omega, rfl⟩⟩)
  · by_cases h2 : ∃ xs ys, t = .tup xs ∧ u = .tup ys
    · obtain ⟨xs, ys, rfl, rfl⟩ := h2
      obtain ⟨a, vs, rfl, hs, r1⟩ := rt.tupS
      obtain ⟨b', ws, rfl, hs', r2⟩ := ru.tupS
      rw [xB] at h
      have l1 := Reps.length xs r1
      have l2 := Reps.length ys r2
      rw [Option.map_eq_some_iff] at h
      obtain ⟨es, h1, rfl⟩ := h
      obtain ⟨q1, q2⟩ := ah4 ih xs ys r1 r2 h1
      exact .inr (.inr ⟨a, b', vs, ws, rfl, rfl, hs, hs', es, by rw [q1]; omega, q2, by rw [l1, l2]⟩)
    · have e : xB (n + 1) t u = lH t u := by
       cases t <;> cases u <;> first | rfl | exact absurd ⟨_, _, _, _, rfl, rfl⟩ h1 | exact absurd ⟨_, _, rfl, rfl⟩ h2
      rw [e] at h
      exact an9 rt ru h
def bV : Nat := 6
def tQ : T → Bool
 | .lst _ _ => true
 | .tup _ => true
 | _ => false
def bn3 : T → T → Bool
 | .bl _, .int _ => false
 | .int _, .bl _ => false
 | t, u => !tQ t && !tQ u
def eqB (t u : T) : Option Bool := if tQ t = true ∧ tQ u = true then xB bV t u else if bn3 t u = true then lH t u else none
def gO (t u : T) : Res T := match eqB t u with
 | some b => .ok (.bl b)
 | none => .no
theorem Rep.seqRef {t : T} {v : V} {A : List Addr} (h : Rep K cn H Z t v A) (i : tQ t = true) : ∃ a, v = .ref a := by
 cases t with
 | lst o ts => obtain ⟨a, vs, C, rfl, _⟩ := h.lstSq; exact ⟨a, rfl⟩
 | tup ts => obtain ⟨a, vs, rfl, _⟩ := h.tupS; exact ⟨a, rfl⟩
 | _ => cases i
theorem ba2 {t u : T} {x y : V} {A B : List Addr} {b : Bool} (rt : Rep K cn H Z t x A) (ru : Rep K cn H Z u y B) (hs : bn3 t u = true) (h : lH t u = some b) : bz9 x y = true ∧ b = decide (x = y) := by
 unfold lH at h
 split at h
 all_goals first
  | (cases hs; done)
  | (simp only [Rep] at rt ru; obtain ⟨rfl, _⟩ := rt; obtain ⟨rfl, _⟩ := ru; cases h; exact ⟨rfl, by first | rfl | (rw [au3]) | (rw [ay8]) | (rw [am4]) | (symm; exact decide_eq_false (fun z => nomatch z))⟩)
  | (cases h; done)
theorem dc5 : mS K cn (cg0 K bV) gO := fun E As H Z t u x y A B Q zi rt ru w => by
 unfold gO at w
 split at w
 · next b h =>
   unfold eqB at h
   split at h
   · next hs =>
     obtain ⟨p, rfl⟩ := rt.seqRef hs.1
     obtain ⟨q, rfl⟩ := ru.seqRef hs.2
     exact .inr ⟨p, q, b, rfl, rfl, ab9 bV t u rt ru h, w.val zi (oX _)⟩
   · split at h
     · next hs =>
       obtain ⟨q1, rfl⟩ := ba2 rt ru hs h
       exact .inl ⟨q1, w.val zi (oX _)⟩
     · cases h
 · exact w.elim
def neT (t u : T) : Res T := if bn3 t u = true then match lH t u with
 | some b => .ok (.bl (!b))
 | none => .no else .no
theorem dd5 : mS K cn rNe neT := fun E As H Z t u x y A B Q zi rt ru w => by
 unfold neT at w
 split at w
 · next hs =>
   split at w
   · next b h =>
     obtain ⟨q1, rfl⟩ := ba2 rt ru hs h
     exact ⟨q1, w.val zi (oX _)⟩
   · exact w.elim
 · exact w.elim
def occ (j i : Str) : Bool := !(Builtin.Str.occurrences j i 0 j.length 1).isEmpty
def wK (t : T) : List T → Option (List Bool)
 | [] => some []
 | u :: us => (xB bV u t).bind fun b => (wK t us).map fun es => b :: es
theorem zL {t : T} {x : V} {A : List Addr} (rt : Rep K cn H Z t x A) : ∀ (us : List T) {ws : List V} {B : List Addr} {es : List Bool}, Reps K cn H Z us ws B → wK t us = some es → es.length = ws.length ∧ ∀ (j : Nat) y e, ws[j]? = some y → es[j]? = some e → EqD K H bV y x e
 | [], ws, B, es, r, h => by
  simp only [Reps] at r
  obtain ⟨rfl, _⟩ := r
  cases h
  exact ⟨rfl, fun j y e e1 => by simp at e1⟩
 | u :: us, ws, B, es, r, h => by
  simp only [Reps] at r
  obtain ⟨w, ws', B1, C1, rfl, rfl, a1, a2⟩ := r
  rw [wK, Option.bind_eq_some_iff] at h
  obtain ⟨b, h1, h⟩ := h
  rw [Option.map_eq_some_iff] at h
  obtain ⟨es', h2, rfl⟩ := h
  obtain ⟨q1, q2⟩ := zL rt us a2 h2
  refine ⟨by simp [q1], fun j y e e1 e2 => ?_⟩
  cases j with
  | zero =>
   simp at e1 e2
   subst e1 e2
   exact ab9 bV u t a1 rt h1
  | succ j => exact q2 j y e (by simpa using e1) (by simpa using e2)
def zR (neg : Bool) : T → T → Res T
 | t, .lst _ us => match wK t us with
  | some es => .ok (.bl (if neg = true then !es.any id else es.any id))
  | none => .no
 | t, .tup us => match wK t us with
  | some es => .ok (.bl (if neg = true then !es.any id else es.any id))
  | none => .no
 | .str i, .str j => .ok (.bl (if neg = true then !occ j i else occ j i))
 | _, _ => .no
theorem dq4 {neg : Bool} : mS K cn (cv0 K bV neg) (zR neg) := fun E As H Z t u x y A B Q zi rt ru w => by
 unfold zR at w
 split at w
 · next t o us =>
   split at w
   · next es h =>
     obtain ⟨a, vs, C, rfl, hs, r1, _⟩ := ru.lstSq
     obtain ⟨q1, q2⟩ := zL rt us r1 h
     exact .inl ⟨a, vs, rfl, .inl hs.sq, es, q1, q2, w.val zi (oX _)⟩
   · exact w.elim
 · next t us =>
   split at w
   · next es h =>
     obtain ⟨a, vs, rfl, hs, r1⟩ := ru.tupS
     obtain ⟨q1, q2⟩ := zL rt us r1 h
     exact .inl ⟨a, vs, rfl, .inr hs, es, q1, q2, w.val zi (oX _)⟩
   · exact w.elim
 · next i j => rw [rt.str, ru.str]; exact .inr ⟨i, j, rfl, rfl, w.val zi (oX _)⟩
 · exact w.elim
end
end TL
namespace L2
open PySem PySem.Spec PyProof.Rows
section
variable {X : Cx} (K : PySem.W.Frag)
theorem dX {n : Nat} {k : Nat} (hr : Room k X.A) (hn : n ≤ 60 := by decide) (hK : X.K = K := by rfl) : OpR X (compareOp .Eq) (cg0 K n) := by
 subst hK
 exact dh0 (by have := hr.units; omega)
theorem am2 {n : Nat} {k : Nat} (hr : Room k X.A) (hn : n ≤ 60 := by decide) (hK : X.K = K := by rfl) : OpR X (compareOp .In) (cv0 K n false) := by
 subst hK
 exact cj6 (by have := hr.units; omega)
theorem aT (hK : X.K = K := by rfl) : IxR X (rIx K) := by
 subst hK
 exact cz8
def cc9 : V → Option Int → Option Int → Hp → VK → Prop := fun x lo hi H Q => ci7 K x lo hi H Q ∨ cl9 K x lo hi H Q ∨ ck9 x lo hi H Q
theorem xO (hK : X.K = K := by rfl) : SlR X (cc9 K) := by
 subst hK
 exact SlR.or cn5 (SlR.or cv9 cc8)
theorem dG {a : Expr} {ta : TE} (ha : PE X a ta) (he : ∀ whole, isTrue a X.env whole = (do let v ← whole; standAt a.pos; holding [v] (truthy v))) (hK : X.K = K := by rfl) :
 PT X a (fun σ H Q => ta σ H fun x H' => ∃ k, aw8 K x H' k ∧ Q k H') := by
 subst hK
 exact bf8 ha he
theorem iW {tg l : Expr} {tl : TE} (hl : PE X l tl) (hK : X.K = K := by rfl) : PI X tg l (TL.iV K tl) := by
 subst hK
 intro pins s σ H R I h
 refine cI (hl pins s σ H _ I h) fun v s1 ⟨x, H1, I1, r1, q1⟩ => ?_
 rcases q1 with ⟨a, e, q⟩ | ⟨z, e, q⟩
 · subst e
   cases r1
   rcases q with ⟨⟨xs, hq⟩, q⟩ | ⟨⟨xs, hq⟩, q⟩
   · obtain ⟨its, rv, p, hz⟩ := I1.list hq
     refine wpAny_pyIter_list p.isList ?_
     refine ⟨s1.heap.objs.size, [s1.heap.objs.size], _, _, H1, rfl, I1.kept (t' := s1.toks) fun b o e => Heap.get?_push_of_some _ e, bt4 a _, ⟨_, Heap.get?_push_size _ rfl, rfl, rfl⟩, fun b hb => ?_, q⟩
     have e : b = s1.heap.objs.size := by simpa using hb
     subst e
     exact I1.fpOk (Nat.le_refl _) (I1.hok.fresh (Nat.le_refl _))
   · obtain ⟨its, rv, p, hz⟩ := I1.tuple hq
     refine wpAny_pyIter_tuple (show s1.heap.IsTuple a its.toArray from p) ?_
     refine ⟨s1.heap.objs.size, [s1.heap.objs.size], _, _, H1, rfl, I1.kept (t' := s1.toks) fun b o e => Heap.get?_push_of_some _ e, bt2 a _, ⟨_, Heap.get?_push_size _ rfl, rfl, rfl⟩, fun b hb => ?_, q⟩
     have e : b = s1.heap.objs.size := by simpa using hb
     subst e
     exact I1.fpOk (Nat.le_refl _) (I1.hok.fresh (Nat.le_refl _))
 · subst e
   obtain ⟨t, rfl⟩ := r1
   have fp : ∀ b ∈ [s1.heap.objs.size], pA X pins H1 b := fun b hb => by
    have e : b = s1.heap.objs.size := by simpa using hb
    subst e
    exact I1.fpOk (Nat.le_refl _) (I1.hok.fresh (Nat.le_refl _))
   cases ha : z.cps.all (· < 128)
   · exact wpAny_pyIter_wide ha ⟨s1.heap.objs.size, [s1.heap.objs.size], _, _, H1, rfl, I1.kept (t' := s1.toks) fun b o e => Heap.get?_push_of_some _ e, bv4 _ z t, ⟨_, Heap.get?_push_size _ rfl, rfl, rfl⟩, fp, q⟩
   · exact wpAny_pyIter_ascii ha ⟨s1.heap.objs.size, [s1.heap.objs.size], _, _, H1, rfl, I1.kept (t' := s1.toks) fun b o e => Heap.get?_push_of_some _ e, ba3 _ z t, ⟨_, Heap.get?_push_size _ rfl, rfl, rfl⟩, fp, q⟩
theorem fT {es : List Expr} {k : Nat} {t : wW} {pos : Pos} (n : Nat) (hc : X.calm = true) (h : PGs X es t)
 (hn : (assignEach es X.env).length = n := by rfl) (hst : (assignEach es X.env).findIdx? (·.1) = none := by rfl) (hK : X.K = K := by rfl) : PG X (.Tuple es k pos) (bw9 K n t) := by
 subst hK
 exact cs8 hc h hn hst
theorem eP {o e : Expr} {es : List Expr} {to : TE} {t : TA} {name : Str} {apos cpos : Pos} {T id : String} {r : V → List V → Hp → VK → Prop} (pa : PlainAttrs T) (slot : Slot T name id) (hty : typeOf (.builtin id) = pure (.type "method_descriptor")) (hm : MtR X id r) (ho : PE X o to) (ha : PA X (e :: es) t)
 (hbase : attributeBase o name X.env (eval o X.env) = eval o X.env := by rfl)
 (hfew : ((backTo cpos (starEach (e :: es) X.env)).all (fun x => !x.1) && (backToKw cpos (keywordEach [] X.env)).all (fun x => x.1.isSome)
  && decide ((e :: es).length + ([] : List Keyword).length + (if ([] : List Keyword).isEmpty then 0 else 1) < 30)) = true := by rfl)
 (hline : (apos.endLine == cpos.line) = true := by rfl) (hs : starEach (e :: es) X.env = (false, eval e X.env) :: starEach es X.env := by rfl) (hplain : (backTo cpos (starEach es X.env)).any (·.1) = false := by rfl) (hK : X.K = K := by rfl) :
 PE X (.Call (.Attribute o name apos) (e :: es) [] cpos) (tBM K T r to t) := by
 subst hK
 exact dp1 pa slot hty hm ho ha hbase hfew hline hs hplain
theorem bo1 {e st : Expr} {te : TE} {ts : TO} {pos p2 : Pos} (he : PE X e te) (hst : PO X (some st) ts) (hops : ∀ o i, subscripted (.Slice none none (some st) p2) false o i = operate [o, i] (getItem o i) := by intros; rfl) (hK : X.K = K := by rfl) : PE X (.Subscript e (.Slice none none (some st) p2) pos) (bt9 K te ts) := by
 subst hK
 exact cv5 he hst hops
theorem cM (hK : X.K = K := by rfl) : CallR X (.builtin "len") (cr8 K) := by subst hK; exact cj1
theorem xQ (hK : X.K = K := by rfl) : CallR X (.builtin "abs") cm9 := bp9
theorem ah9 (hK : X.K = K := by rfl) : CallR X (.builtin "divmod") bm1 := bp0
theorem lC (hc : X.calm = true := by rfl) (hK : X.K = K := by rfl) : CallR X (.builtin "all") (cm8 K) := by subst hK; exact bn9 hc
theorem bz6 (hc : X.calm = true := by rfl) (hK : X.K = K := by rfl) : CallR X (.builtin "any") (cs6 K) := by subst hK; exact cl0 hc
theorem qP (hc : X.calm = true := by rfl) (hK : X.K = K := by rfl) : CallR X (.builtin "max") (be8 K) := by subst hK; exact bc7 hc
theorem kU (hc : X.calm = true := by rfl) (hK : X.K = K := by rfl) : CallR X (.builtin "min") (cs0 K) := by subst hK; exact bw5 hc
def bw4 : List V → Hp → VK → Prop := fun xs H Q => ∃ p ys, xs = [.ref p] ∧ (SqL K H p ys ∨ SqT K H p ys) ∧ ∀ l, H l = none → Q (.ref l) (upd H l (.lst ys))
theorem fP (hK : X.K = K := by rfl) : CallR X (.type "list") (bw4 K) := by subst hK; exact ax9
theorem by9 (hK : X.K = K := by rfl) : MtR X "str.join" (bn2 K) := by subst hK; exact ck4
end
end L2
namespace TL
open PySem PySem.Spec PyProof.Rows L2
section
variable {Jn : gL} {K : PySem.W.Frag} {cn : Str → Option Addr} {E : XK} {As : List (List Addr)} {H : Hp} {Z : Addr → Prop} {Q : VK}
def aX : T → T → Res T
 | .lst _ ts, .int n => match atI ts n with
  | some t => .ok t
  | none => .no
 | .tup ts, .int n => match atI ts n with
  | some t => .ok t
  | none => .no
 | .str z, .int n => if z.length ≤ sizeLine then match atI z.cps.toList n with
  | some c => .ok (.str ⟨#[c]⟩)
  | none => .no else .no
 | _, _ => .no
theorem Reps.atI {ts : List T} {vs : List V} {A : List Addr} {n : Int} {t : T} (r : Reps K cn H Z ts vs A) (h : L2.atI ts n = some t) : ∃ v B, L2.atI vs n = some v ∧ Rep K cn H Z t v B := by
 unfold L2.atI at h ⊢
 rw [Option.bind_eq_some_iff] at h
 obtain ⟨j, h1, h2⟩ := h
 obtain ⟨v, B, e, rv, _⟩ := Reps.get ts r h2
 exact ⟨v, B, by rw [Reps.length ts r, h1]; exact e, rv⟩
theorem dx3 {ta tb : TE} {a b : Fr → Res T} (ha : RB Jn K cn E ta a) (hb : RB Jn K cn E tb b) : RB Jn K cn E (tOp (rIx K) ta tb) (aG aX a b) := fun As H Z ρ σ F Q w => by
 unfold aG at w
 refine ha As H Z ρ σ F _ ?_
 cases e : a ρ with
 | ok t =>
  rw [e] at w
  intro v H1 Z1 B p
  refine hb As H1 Z1 ρ σ (F.mo p.mo) _ ?_
  simp only [Res.bind] at w
  cases e2 : b ρ with
  | ok u =>
   rw [e2] at w
   intro v2 H2 Z2 B2 p2
   have rt := p.rep.same p2.same p2.zz
   have m := p.mo.trans p2.mo
   have bY : ∀ {t : T} {v : V} {C : List Addr}, WpB K cn E As H Z Q (.ok t) → Rep K cn H2 Z2 t v C → Q v H2 := fun w r => w _ H2 Z2 _ ⟨m.same, m.zz, m.zn, m.zi, r⟩
   simp only at w
   unfold aX at w
   split at w
   · next o ts n =>
     split at w
     · next t' h =>
       obtain ⟨q, vs, C, rfl, hs, r, _⟩ := rt.lstSq
       obtain ⟨v', D, e3, rv⟩ := r.atI h
       exact .inl ⟨q, vs, n, v', rfl, p2.rep.int, hs.sq, e3, bY w rv⟩
     · exact w.elim
   · next ts n =>
     split at w
     · next t' h =>
       obtain ⟨q, vs, rfl, hs, r⟩ := rt.tupS
       obtain ⟨v', D, e3, rv⟩ := r.atI h
       exact .inr (.inl ⟨q, vs, n, v', rfl, p2.rep.int, hs, e3, bY w rv⟩)
     · exact w.elim
   · next z n =>
     split at w
     · next hz =>
       split at w
       · next c h => exact .inr (.inr ⟨z, n, c, rt.str, p2.rep.int, hz, h, bY w (yU _)⟩)
       · exact w.elim
     · exact w.elim
   · exact w.elim
  | ex x => rw [e2] at w; exact WpX.ev w p.mo.ev
  | no => rw [e2] at w; exact w
 | ex x => rw [e] at w; exact w
 | no => rw [e] at w; exact w
def fZ {α : Type} (xs : List α) (lo hi : Option Int) : List α := (xs.drop (HT.sIx xs.length 0 lo)).take (HT.sIx xs.length xs.length hi - HT.sIx xs.length 0 lo)
def qK : T → Option Int → Option Int → Res T
 | .lst _ ts, lo, hi => if bA ts = true then .ok (.lst true (fZ ts lo hi)) else .no
 | .tup ts, lo, hi => if bA ts = true ∧ ¬ (HT.sIx ts.length 0 lo = 0 ∧ HT.sIx ts.length ts.length hi = ts.length) then .ok (.tup (fZ ts lo hi)) else .no
 | .str z, lo, hi => if z.length ≤ sizeLine then .ok (.str (Txt.slice z lo hi)) else .no
 | _, _, _ => .no
theorem Reps.cut {ts : List T} {vs : List V} (r : Reps K cn H Z ts vs []) (lo hi : Option Int) : Reps K cn H Z (fZ ts lo hi) (yO vs lo hi) [] := by
 unfold fZ yO
 rw [Reps.length ts r]
 exact Reps.take _ _ (Reps.drop _ _ r)
theorem dp4 : RSR K cn (cc9 K) qK := fun E As H Z t x A lo hi Q zi rt w => by
 cases t with
 | lst o ts =>
  simp only [qK] at w
  split at w
  · next h =>
    obtain ⟨q, vs, C, rfl, hs, r, _⟩ := rt.lstSq
    exact .inl ⟨q, vs, rfl, hs.sq, fun p hp => w.newL zi ((r.bareE h).cut lo hi) p hp⟩
  · exact w.elim
 | tup ts =>
  simp only [qK] at w
  split at w
  · next h =>
    obtain ⟨q, vs, rfl, hs, r⟩ := rt.tupS
    exact .inr (.inl ⟨q, vs, rfl, hs, by rw [Reps.length ts r]; exact h.2, fun p hp => w.newT zi ((r.bareE h.1).cut lo hi) p hp⟩)
  · exact w.elim
 | str z =>
  simp only [qK] at w
  split at w
  · next h => rw [rt.str]; exact .inr (.inr ⟨z, rfl, h, w.val zi (yU _)⟩)
  · exact w.elim
 | _ => exact w.elim
def bi3 (k : Option Int) : T → Res T
 | .lst _ ts => if bA ts = true ∧ k = some (-1) then .ok (.lst true ts.reverse) else .no
 | _ => .no
def ap0 (a : Fr → Res T) (s : Fr → Res (Option Int)) : Fr → Res T := fun ρ => (a ρ).bind fun t => (s ρ).bind fun k => bi3 k t
theorem cq6 {te : TE} {ts : TO} {a : Fr → Res T} {s : Fr → Res (Option Int)} (ha : RB Jn K cn E te a) (hs : RO Jn K cn E ts s) : RE Jn K cn E [] (bt9 K te ts) (ap0 a s) := fun As H Z ρ σ F Q w => by
 unfold ap0 at w
 refine ha As H Z ρ σ F _ ?_
 cases e : a ρ with
 | ok t =>
  rw [e] at w
  intro v H1 Z1 B p
  refine hs As H1 Z1 ρ σ (F.mo p.mo) _ ?_
  simp only [Res.bind] at w
  cases e2 : s ρ with
  | ok k =>
   rw [e2] at w
   intro H2 Z2 m2
   have m := p.mo.trans m2
   simp only at w
   have w2 := WpE.mo F w m
   cases t with
   | lst o ts =>
    simp only [bi3] at w2
    split at w2
    · next h =>
      obtain ⟨q, vs, C, rfl, hs, r, _⟩ := (p.rep.same m2.same m2.zz).lstSq
      exact ⟨h.2, q, vs, rfl, hs.sq, fun p hp => WpE.newL w2 m.zi (Reps.reverse ts (r.bareE h.1)) p hp⟩
    · exact w2.elim
   | _ => exact w2.elim
  | ex x => rw [e2] at w; exact WpX.ev w p.mo.ev
  | no => rw [e2] at w; exact w
 | ex x => rw [e] at w; exact w
 | no => rw [e] at w; exact w
theorem Reps.one1 {t : T} {vs : List V} {A : List Addr} (r : Reps K cn H Z [t] vs A) : ∃ v, vs = [v] ∧ Rep K cn H Z t v A := by
 simp only [Reps] at r
 obtain ⟨v, w, B, C, rfl, rfl, r, rfl, rfl⟩ := r
 exact ⟨v, rfl, by simpa using r⟩
theorem Reps.two2 {t u : T} {vs : List V} {A : List Addr} (r : Reps K cn H Z [t, u] vs A) : ∃ v w B C, vs = [v, w] ∧ A = B ++ C ∧ Rep K cn H Z t v B ∧ Rep K cn H Z u w C := by
 simp only [Reps] at r
 obtain ⟨v, w, B, C, rfl, rfl, r, v2, w2, B2, C2, rfl, rfl, r2, rfl, rfl⟩ := r
 exact ⟨v, v2, B, B2, rfl, by simp, r, r2⟩
def eF : List T → Res T
 | [.str z] => if z.length ≤ sizeLine then .ok (.int z.length) else .no
 | [.lst _ ts] => .ok (.int ts.length)
 | [.tup ts] => .ok (.int ts.length)
 | _ => .no
theorem dk0 : uV K cn (cr8 K) eF := fun E As H Z ts xs A Q zi r w => by
 unfold eF at w
 split at w
 · next z =>
   split at w
   · next h => obtain ⟨v, rfl, rv⟩ := r.one1; rw [rv.str]; exact ⟨_, _, rfl, ⟨h, rfl⟩, w.val zi (jD _)⟩
   · exact w.elim
 · next o ts =>
   obtain ⟨v, rfl, rv⟩ := r.one1
   obtain ⟨q, vs, C, rfl, hs, r', _⟩ := rv.lstSq
   exact ⟨_, _, rfl, .inl ⟨vs, hs.sq, rfl⟩, by rw [Reps.length ts r']; exact w.val zi (jD _)⟩
 · next ts =>
   obtain ⟨v, rfl, rv⟩ := r.one1
   obtain ⟨q, vs, rfl, hs, r'⟩ := rv.tupS
   exact ⟨_, _, rfl, .inr ⟨vs, hs, rfl⟩, by rw [Reps.length ts r']; exact w.val zi (jD _)⟩
 · exact w.elim
def ax0 : List T → Res T
 | [.int i] => .ok (.int (if i < 0 then -i else i))
 | _ => .no
theorem dl0 : uV K cn cm9 ax0 := fun E As H Z ts xs A Q zi r w => by
 unfold ax0 at w
 split at w
 · next i => rw [r.ints1]; exact ⟨i, rfl, w.val zi (jD _)⟩
 · exact w.elim
noncomputable def zG : List T → Res T
 | [.int i, .int j] => gate (tW i j) (.ok (.tup [.int (i / j), .int (i % j)]))
 | _ => .no
theorem dh4 (i j : Int) : Reps K cn H Z [.int i, .int j] [.int i, .int j] [] := by
 simp only [Reps]
 exact ⟨_, _, [], [], rfl, rfl, jD _, _, _, [], [], rfl, rfl, jD _, rfl, rfl⟩
theorem bo8 : uV K cn bm1 zG := fun E As H Z ts xs A Q zi r w => by
 unfold zG at w
 split at w
 · next i j =>
   obtain ⟨h, w⟩ := w.gate
   rw [r.ints2]; exact ⟨i, j, rfl, h, fun p hp => w.newT zi (dh4 _ _) p hp⟩
 · exact w.elim
def al7 : T → Option String
 | .int _ => some "int"
 | .bl _ => some "bool"
 | .str _ => some "str"
 | .lst _ _ => some "list"
 | .tup _ => some "tuple"
 | _ => none
def bw8 (tx ty : String) : Option Bool :=
 if (ty = "int" ∨ ty = "bool" ∨ ty = "str" ∨ ty = "list" ∨ ty = "tuple") then some (tx = ty ∨ (tx = "bool" ∧ ty = "int")) else none
theorem ci4 {tx ty : String} {b : Bool} {t : T} (h0 : al7 t = some tx) (h : bw8 tx ty = some b) : fN tx ty b := by
 have hx : tx = "int" ∨ tx = "bool" ∨ tx = "str" ∨ tx = "list" ∨ tx = "tuple" := by
  cases t <;> simp [al7] at h0 <;> subst h0 <;> simp
 unfold bw8 at h
 split at h
 · next hy =>
   cases h
   rcases hx with rfl | rfl | rfl | rfl | rfl <;> rcases hy with rfl | rfl | rfl | rfl | rfl <;> constructor
 · cases h
theorem ba9 {t : T} {v : V} {A : List Addr} {tx : String} (r : Rep K cn H Z t v A) (h : al7 t = some tx) : TyN K H v tx := by
 cases t with
 | int i => rw [r.int]; cases h; rfl
 | bl i => rw [r.bl]; cases h; rfl
 | str i => rw [r.str]; cases h; rfl
 | lst o ts => obtain ⟨q, vs, C, rfl, hs, _⟩ := r.lstSq; cases h; exact .inl ⟨rfl, vs, hs.sq⟩
 | tup ts => obtain ⟨q, vs, rfl, hs, _⟩ := r.tupS; cases h; exact .inr ⟨rfl, vs, hs⟩
 | _ => cases h
def sG : List T → Res T
 | [t, .ty n] => match al7 t with
  | some tx => match bw8 tx n with
   | some b => .ok (.bl b)
   | none => .no
  | none => .no
 | _ => .no
theorem dn1 : uV K cn (df5 K) sG := fun E As H Z ts xs A Q zi r w => by
 unfold sG at w
 split at w
 · next t n =>
   split at w
   · next tx h1 =>
     split at w
     · next b h2 =>
       obtain ⟨v, u, B, C, rfl, _, r1, r2⟩ := r.two2
       simp only [Rep] at r2
       rw [r2.1]
       exact ⟨v, n, tx, b, rfl, ba9 r1 h1, ci4 h1 h2, w.val zi (oX _)⟩
     · exact w.elim
   · exact w.elim
 · exact w.elim
def zF : List T → Option (List Bool)
 | [] => some []
 | .bl b :: ts => (zF ts).map (b :: ·)
 | _ :: _ => none
theorem ao0 : ∀ (ts : List T) {vs : List V} {A : List Addr} {bs : List Bool}, Reps K cn H Z ts vs A → zF ts = some bs → vs = bs.map V.bl
 | [], vs, A, bs, r, h => by
  simp only [Reps] at r
  cases h
  exact r.1
 | t :: ts, vs, A, bs, r, h => by
  simp only [Reps] at r
  obtain ⟨v, vs', B, C, rfl, rfl, r1, r2⟩ := r
  cases t with
  | bl b =>
   simp only [zF] at h
   rw [Option.map_eq_some_iff] at h
   obtain ⟨bs', h1, rfl⟩ := h
   rw [ao0 ts r2 h1, r1.bl]
   rfl
  | _ => cases h
def mN (any : Bool) : List T → Res T
 | [.lst _ ts] => match zF ts with
  | some bs => .ok (.bl (if any = true then bs.any id else bs.all id))
  | none => .no
 | _ => .no
theorem dk1 : uV K cn (cm8 K) (mN false) := fun E As H Z ts xs A Q zi r w => by
 unfold mN at w
 split at w
 · next o ts =>
   split at w
   · next bs h =>
     obtain ⟨v, rfl, rv⟩ := r.one1
     obtain ⟨q, vs, C, rfl, hs, r', _⟩ := rv.lstSq
     have := ao0 ts r' h
     subst this
     exact ⟨q, bs, rfl, hs.sq, w.val zi (oX _)⟩
   · exact w.elim
 · exact w.elim
theorem dj3 : uV K cn (cs6 K) (mN true) := fun E As H Z ts xs A Q zi r w => by
 unfold mN at w
 split at w
 · next o ts =>
   split at w
   · next bs h =>
     obtain ⟨v, rfl, rv⟩ := r.one1
     obtain ⟨q, vs, C, rfl, hs, r', _⟩ := rv.lstSq
     have := ao0 ts r' h
     subst this
     exact ⟨q, bs, rfl, hs.sq, w.val zi (oX _)⟩
   · exact w.elim
 · exact w.elim
def xC : List T → Option (List Int)
 | [] => some []
 | .int b :: ts => (xC ts).map (b :: ·)
 | _ :: _ => none
theorem av4 : ∀ (ts : List T) {vs : List V} {A : List Addr} {bs : List Int}, Reps K cn H Z ts vs A → xC ts = some bs → vs = bs.map V.int
 | [], vs, A, bs, r, h => by
  simp only [Reps] at r
  cases h
  exact r.1
 | t :: ts, vs, A, bs, r, h => by
  simp only [Reps] at r
  obtain ⟨v, vs', B, C, rfl, rfl, r1, r2⟩ := r
  cases t with
  | int b =>
   simp only [xC] at h
   rw [Option.map_eq_some_iff] at h
   obtain ⟨bs', h1, rfl⟩ := h
   rw [av4 ts r2 h1, r1.int]
   rfl
  | _ => cases h
theorem vH : ∀ ns : List Int, xC (ns.map T.int) = some ns
 | [] => rfl
 | n :: ns => by simp [xC, vH ns]
theorem ai6 : ∀ ns : List Bool, zF (ns.map T.bl) = some ns
 | [] => rfl
 | n :: ns => by simp [zF, ai6 ns]
def bv9 : List Int → Int
 | [] => 0
 | n :: ns => ns.foldl (fun a b => if b > a then b else a) n
def ci1 : List Int → Int
 | [] => 0
 | n :: ns => ns.foldl (fun a b => if b < a then b else a) n
theorem aq5 : ∀ (n : Int) (ns : List Int), (ns.foldl (fun a b => if b > a then b else a) n ∈ n :: ns) ∧ ∀ a ∈ n :: ns, a ≤ ns.foldl (fun a b => if b > a then b else a) n
 | n, [] => by simp
 | n, m :: ns => by
  simp only [List.foldl_cons]
  have ih := aq5 (if m > n then m else n) ns
  refine ⟨?_, fun a ha => ?_⟩
  · rcases List.mem_cons.mp ih.1 with h | h
    · rw [h]; split <;> simp
    · exact List.mem_cons_of_mem _ (List.mem_cons_of_mem _ h)
  · have h1 := ih.2 (if m > n then m else n) List.mem_cons_self
    rcases List.mem_cons.mp ha with rfl | ha
    · split at h1 <;> rename_i hc
      · simp only [hc, if_true]; omega
      · simp only [hc, if_false]; exact h1
    · rcases List.mem_cons.mp ha with rfl | ha
      · split at h1 <;> rename_i hc
        · simp only [hc, if_true]; exact h1
        · simp only [hc, if_false]; omega
      · exact ih.2 a (List.mem_cons_of_mem _ ha)
theorem ap5 : ∀ (n : Int) (ns : List Int), (ns.foldl (fun a b => if b < a then b else a) n ∈ n :: ns) ∧ ∀ a ∈ n :: ns, ns.foldl (fun a b => if b < a then b else a) n ≤ a
 | n, [] => by simp
 | n, m :: ns => by
  simp only [List.foldl_cons]
  have ih := ap5 (if m < n then m else n) ns
  refine ⟨?_, fun a ha => ?_⟩
  · rcases List.mem_cons.mp ih.1 with h | h
    · rw [h]; split <;> simp
    · exact List.mem_cons_of_mem _ (List.mem_cons_of_mem _ h)
  · have h1 := ih.2 (if m < n then m else n) List.mem_cons_self
    rcases List.mem_cons.mp ha with rfl | ha
    · split at h1 <;> rename_i hc
      · simp only [hc, if_true]; omega
      · simp only [hc, if_false]; exact h1
    · rcases List.mem_cons.mp ha with rfl | ha
      · split at h1 <;> rename_i hc
        · simp only [hc, if_true]; exact h1
        · simp only [hc, if_false]; omega
      · exact ih.2 a (List.mem_cons_of_mem _ ha)
def tZ : List T → Res T
 | [.int i, .int j] => .ok (.int (if j > i then j else i))
 | [.lst _ ts] => match xC ts with
  | some (n :: ns) => .ok (.int (bv9 (n :: ns)))
  | _ => .no
 | _ => .no
def qV : List T → Res T
 | [.int i, .int j] => .ok (.int (if j < i then j else i))
 | [.lst _ ts] => match xC ts with
  | some (n :: ns) => .ok (.int (ci1 (n :: ns)))
  | _ => .no
 | _ => .no
theorem dp3 : uV K cn (be8 K) tZ := fun E As H Z ts xs A Q zi r w => by
 unfold tZ at w
 split at w
 · next i j => rw [r.ints2]; exact .inl ⟨i, j, rfl, w.val zi (jD _)⟩
 · next o ts =>
   split at w
   · next n ns h =>
     obtain ⟨v, rfl, rv⟩ := r.one1
     obtain ⟨q, vs, C, rfl, hs, r', _⟩ := rv.lstSq
     have := av4 ts r' h
     subst this
     refine .inr ⟨q, n :: ns, rfl, hs.sq, List.cons_ne_nil _ _, fun M h1 h2 => ?_⟩
     obtain ⟨g1, g2⟩ := aq5 n ns
     have : M = bv9 (n :: ns) := Int.le_antisymm (g2 M h1) (h2 _ g1)
     rw [this]
     exact w.val zi (jD _)
   · exact w.elim
 · exact w.elim
theorem dw3 : uV K cn (cs0 K) qV := fun E As H Z ts xs A Q zi r w => by
 unfold qV at w
 split at w
 · next i j => rw [r.ints2]; exact .inl ⟨i, j, rfl, w.val zi (jD _)⟩
 · next o ts =>
   split at w
   · next n ns h =>
     obtain ⟨v, rfl, rv⟩ := r.one1
     obtain ⟨q, vs, C, rfl, hs, r', _⟩ := rv.lstSq
     have := av4 ts r' h
     subst this
     refine .inr ⟨q, n :: ns, rfl, hs.sq, List.cons_ne_nil _ _, fun M h1 h2 => ?_⟩
     obtain ⟨g1, g2⟩ := ap5 n ns
     have : M = ci1 (n :: ns) := Int.le_antisymm (h2 _ g1) (g2 M h1)
     rw [this]
     exact w.val zi (jD _)
   · exact w.elim
 · exact w.elim
def dd0 (n : Int) : List Int → List Int
 | [] => [n]
 | m :: ms => if n ≤ m then n :: m :: ms else m :: dd0 n ms
def bj3 : List Int → List Int
 | [] => []
 | n :: ns => dd0 n (bj3 ns)
def by1 : List T → Res T
 | [.lst _ ts] => match xC ts with
  | some ns => if ns.length < 64 then .ok (.lst true ((bj3 ns).map .int)) else .no
  | none => .no
 | _ => .no
def gQ : List T → Res T
 | [.lst _ ts] => if bA ts = true then .ok (.lst true ts) else .no
 | [.tup ts] => if bA ts = true then .ok (.lst true ts) else .no
 | _ => .no
theorem cz9 : uV K cn (bw4 K) gQ := fun E As H Z ts xs A Q zi r w => by
 unfold gQ at w
 split at w
 · next o ts =>
   split at w
   · next h =>
     obtain ⟨v, rfl, rv⟩ := r.one1
     obtain ⟨q, vs, C, rfl, hs, r', _⟩ := rv.lstSq
     exact ⟨q, vs, rfl, .inl hs.sq, fun l hl => w.newL zi (r'.bareE h) l hl⟩
   · exact w.elim
 · next ts =>
   split at w
   · next h =>
     obtain ⟨v, rfl, rv⟩ := r.one1
     obtain ⟨q, vs, rfl, hs, r'⟩ := rv.tupS
     exact ⟨q, vs, rfl, .inr hs, fun l hl => w.newL zi (r'.bareE h) l hl⟩
   · exact w.elim
 · exact w.elim
def ch3 : T → List T → Res T
 | .str z, [.str y] => .ok (.bl (Txt.startswith z y))
 | _, _ => .no
def wL : List T → Option (List Str)
 | [] => some []
 | .str b :: ts => (wL ts).map (b :: ·)
 | _ :: _ => none
theorem ac4 : ∀ (ts : List T) {vs : List V} {A : List Addr} {bs : List Str}, Reps K cn H Z ts vs A → wL ts = some bs → vs = bs.map V.str
 | [], vs, A, bs, r, h => by
  simp only [Reps] at r
  cases h
  exact r.1
 | t :: ts, vs, A, bs, r, h => by
  simp only [Reps] at r
  obtain ⟨v, vs', B, C, rfl, rfl, r1, r2⟩ := r
  cases t with
  | str b =>
   simp only [wL] at h
   rw [Option.map_eq_some_iff] at h
   obtain ⟨bs', h1, rfl⟩ := h
   rw [ac4 ts r2 h1, r1.str]
   rfl
  | _ => cases h
theorem yK : ∀ ns : List Str, wL (ns.map T.str) = some ns
 | [] => rfl
 | n :: ns => by simp [wL, yK ns]
def yY : T → List T → Res T
 | .str z, [.lst _ ts] => match wL ts with
  | some ys => if (ys.map (·.length)).sum + ys.length * z.length ≤ 16777216 then .ok (.str (Txt.join z ys)) else .no
  | none => .no
 | _, _ => .no
theorem cz7 : RMR K cn "str" (bn2 K) yY := fun E As H Z t ts x xs A B Q zi rt r w => by
 unfold yY at w
 split at w
 · next z o ts =>
   split at w
   · next ys h =>
     split at w
     · next hz =>
       obtain ⟨v, rfl, rv⟩ := r.one1
       obtain ⟨q, vs, C, rfl, hs, r', _⟩ := rv.lstSq
       have := ac4 ts r' h
       subst this
       rw [rt.str]
       exact ⟨z, q, ys, rfl, rfl, hs.sq, hz, w.val zi (yU _)⟩
     · exact w.elim
   · exact w.elim
 · exact w.elim
end
end TL
namespace TL
open PySem PySem.Spec PyProof.Rows L2
theorem nS {α β : Type} (a : α) (f : α → Res β) : (Res.ok a).bind f = f a := rfl
theorem aa8 {b : T → Fr → Option Fr} {body : Fr → bT} (P : Nat → Fr → Prop) : ∀ (ts : List T) (k : Nat) {ρ : Fr}, P k ρ → (∀ i t ρ, ts[i]? = some t → P (k + i) ρ → ∃ ρ1 ρ2, b t ρ = some ρ1 ∧ (body ρ1 = .nx ρ2 ∨ body ρ1 = .ct ρ2) ∧ P (k + i + 1) ρ2) → ∃ ρ', fH b body ts ρ = .nx ρ' ∧ P (k + ts.length) ρ'
 | [], k, ρ, h0, _ => ⟨ρ, rfl, h0⟩
 | t :: ts, k, ρ, h0, hs => by
  obtain ⟨ρ1, ρ2, h1, h2, h3⟩ := hs 0 t ρ rfl h0
  obtain ⟨ρ', h4, h5⟩ := aa8 (b := b) (body := body) P ts (k + 1) h3 (fun i u ρ e p => by
   have := hs (i + 1) u ρ (by simpa using e) (by rw [show k + (i + 1) = k + 1 + i by omega]; exact p)
   rw [show k + (i + 1) + 1 = k + 1 + i + 1 by omega] at this
   exact this)
  refine ⟨ρ', ?_, by rw [List.length_cons, show k + (ts.length + 1) = k + 1 + ts.length by omega]; exact h5⟩
  rcases h2 with h2 | h2 <;> simp only [fH, h1, h2, h4]
def Go (P : Fr → Prop) : bT → Prop
 | .nx ρ => P ρ
 | .ct ρ => P ρ
 | _ => False
def GoB (P : Fr → Prop) (body : Fr → bT) : Option Fr → Prop
 | some ρ => Go P (body ρ)
 | none => False
theorem df2 {P : Fr → Prop} {ρ : Fr} : Go P (.nx ρ) = P ρ := rfl
theorem dn2 {P : Fr → Prop} {ρ : Fr} : Go P (.ct ρ) = P ρ := rfl
theorem bu8 {P : Fr → Prop} {body : Fr → bT} {ρ : Fr} : GoB P body (some ρ) = Go P (body ρ) := rfl
theorem jB {b : T → Fr → Option Fr} {body : Fr → bT} {ts : List T} {ρ : Fr} {o : bT} (P : Nat → Fr → Prop) (h : fH b body ts ρ = o) (h0 : P 0 ρ) (hs : ∀ i t ρ, ts[i]? = some t → P i ρ → GoB (P (i + 1)) body (b t ρ)) : ∃ ρ', o = .nx ρ' ∧ P ts.length ρ' := by
 obtain ⟨ρ', h1, h2⟩ := aa8 (b := b) (body := body) P ts 0 h0 (fun i t ρ e p => by
  have := hs i t ρ e (by rw [Nat.zero_add] at p; exact p)
  rw [Nat.zero_add]
  cases e1 : b t ρ with
  | none => rw [e1] at this; exact this.elim
  | some ρ1 =>
   rw [e1] at this
   have g : Go (P (i + 1)) (body ρ1) := this
   cases e2 : body ρ1 with
   | nx ρ2 => rw [e2] at g; exact ⟨ρ1, ρ2, rfl, .inl e2, g⟩
   | ct ρ2 => rw [e2] at g; exact ⟨ρ1, ρ2, rfl, .inr e2, g⟩
   | _ => rw [e2] at g; exact g.elim)
 rw [Nat.zero_add] at h2
 exact ⟨ρ', by rw [← h, h1], h2⟩
def bs3 (P B : Fr → Prop) (R : T → Prop) : bT → Prop
 | .nx ρ => P ρ
 | .ct ρ => P ρ
 | .bk ρ => B ρ
 | .rt t => R t
 | _ => False
def aq9 (P B : Fr → Prop) (R : T → Prop) (body : Fr → bT) : Option Fr → Prop
 | some ρ => bs3 P B R (body ρ)
 | none => False
theorem am1 {b : T → Fr → Option Fr} {body : Fr → bT} (P : Nat → Fr → Prop) (B : Fr → Prop) (R : T → Prop) : ∀ (ts : List T) (k : Nat) {ρ : Fr}, P k ρ → (∀ i t ρ, ts[i]? = some t → P (k + i) ρ → aq9 (P (k + i + 1)) B R body (b t ρ)) →
 (∃ ρ', fH b body ts ρ = .nx ρ' ∧ (P (k + ts.length) ρ' ∨ B ρ')) ∨ ∃ t, fH b body ts ρ = .rt t ∧ R t
 | [], k, ρ, h0, _ => .inl ⟨ρ, rfl, .inl h0⟩
 | t :: ts, k, ρ, h0, hs => by
  have h1 := hs 0 t ρ rfl h0
  have next : ∀ {ρ2 : Fr}, P (k + 1) ρ2 → (∃ ρ', fH b body ts ρ2 = .nx ρ' ∧ (P (k + (ts.length + 1)) ρ' ∨ B ρ')) ∨ ∃ t, fH b body ts ρ2 = .rt t ∧ R t := by
   intro ρ2 p
   have := am1 (b := b) (body := body) P B R ts (k + 1) p (fun i u ρ e p => by
    have := hs (i + 1) u ρ (by simpa using e) (by rw [show k + (i + 1) = k + 1 + i by omega]; exact p)
    rw [show k + (i + 1) + 1 = k + 1 + i + 1 by omega] at this
    exact this)
   rw [show k + 1 + ts.length = k + (ts.length + 1) by omega] at this
   exact this
  rw [List.length_cons]
  simp only [fH]
  cases e1 : b t ρ with
  | none => rw [e1] at h1; exact h1.elim
  | some ρ1 =>
   rw [e1] at h1
   have g : bs3 (P (k + 0 + 1)) B R (body ρ1) := h1
   simp only
   cases e2 : body ρ1 with
   | nx ρ2 => rw [e2] at g; exact next g
   | ct ρ2 => rw [e2] at g; exact next g
   | bk ρ2 => rw [e2] at g; exact .inl ⟨ρ2, rfl, .inr g⟩
   | rt t => rw [e2] at g; exact .inr ⟨t, rfl, g⟩
   | _ => rw [e2] at g; exact g.elim
theorem bf7 {b : T → Fr → Option Fr} {body : Fr → bT} {ts : List T} {ρ : Fr} {o : bT} (P : Nat → Fr → Prop) (B : Fr → Prop) (R : T → Prop) (h : fH b body ts ρ = o) (h0 : P 0 ρ) (hs : ∀ i t ρ, ts[i]? = some t → P i ρ → aq9 (P (i + 1)) B R body (b t ρ)) :
 (∃ ρ', o = .nx ρ' ∧ (P ts.length ρ' ∨ B ρ')) ∨ ∃ t, o = .rt t ∧ R t := by
 have := am1 (b := b) (body := body) P B R ts 0 h0 (fun i t ρ e p => by
  rw [Nat.zero_add] at p ⊢
  exact hs i t ρ e p)
 rw [Nat.zero_add, h] at this
 exact this
def GoW (P : Fr → Prop) (body : Fr → bT) (ρ : Fr) : Res Bool → Prop
 | .ok true => Go P (body ρ)
 | .ok false => True
 | _ => False
theorem ce8 (i j : Int) : cN (.int i) (.int j) = .ok (.int (i + j)) := rfl
theorem cr9 (a b : Str) : cN (.str a) (.str b) = gate (a.length + b.length ≤ sizeLine) (.ok (.str (a ++ b))) := rfl
theorem cv7 (o o' : Bool) (xs ys : List T) : cN (.lst o xs) (.lst o' ys) = gate ((bA xs && bA ys) = true ∧ xs.length + ys.length ≤ sizeLine) (.ok (.lst true (xs ++ ys))) := rfl
theorem ci8 (xs ys : List T) : cN (.tup xs) (.tup ys) = gate ((bA xs && bA ys) = true ∧ xs.length + ys.length ≤ sizeLine ∧ xs.isEmpty = false ∧ ys.isEmpty = false) (.ok (.tup (xs ++ ys))) := rfl
theorem cd6 (i j : Int) : dH (.int i) (.int j) = .ok (.int (i - j)) := rfl
theorem ce6 (i j : Int) : kM (.int i) (.int j) = gate (mulOk i j) (.ok (.int (i * j))) := rfl
theorem cy8 (z : Str) (k : Int) : kM (.str z) (.int k) = gate (-(2 ^ 63) ≤ k ∧ k < 2 ^ 62 ∧ z.length * k.toNat ≤ sizeLine) (.ok (.str (vL z k.toNat))) := rfl
theorem cv3 (i j : Int) : gH (.int i) (.int j) = gate (tW i j) (.ok (.int (i / j))) := rfl
theorem cs9 (i j : Int) : cP (.int i) (.int j) = gate (0 < j) (.ok (.int (i % j))) := rfl
theorem ay1 (i j : Int) : xP (.int i) (.int j) = gate (xD i j) (.ok (.int (i ^ j.toNat))) := rfl
theorem dl3 (i : Int) : nG (.int i) = .ok (.int (-i)) := rfl
theorem do1 (i j : Int) : xN (.int i) (.int j) = .ok (.bl (decide (i < j))) := rfl
theorem dw0 (i j : Int) : oY (.int i) (.int j) = .ok (.bl (decide (i ≤ j))) := rfl
theorem dy2 (i j : Int) : gtT (.int i) (.int j) = .ok (.bl (decide (j < i))) := rfl
theorem da3 (i j : Int) : geT (.int i) (.int j) = .ok (.bl (decide (j ≤ i))) := rfl
theorem dq3 (a b : Bool) : zW (.bl a) (.bl b) = .ok (.bl (a == b)) := rfl
theorem di3 : zW .non .non = .ok (.bl true) := rfl
theorem du3 (i : Int) : zW (.int i) .non = .ok (.bl false) := rfl
theorem dt1 (i : Str) : zW (.str i) .non = .ok (.bl false) := rfl
theorem dz1 (o : Bool) (i : List T) : zW (.lst o i) .non = .ok (.bl false) := rfl
theorem de2 (i : List T) : zW (.tup i) .non = .ok (.bl false) := rfl
theorem cl1 : kY .non .non = .ok (.bl false) := rfl
theorem by8 (i : Int) : kY (.int i) .non = .ok (.bl true) := rfl
theorem by7 (i : Str) : kY (.str i) .non = .ok (.bl true) := rfl
theorem bh8 (o : Bool) (i : List T) : kY (.lst o i) .non = .ok (.bl true) := rfl
theorem br9 (i : List T) : kY (.tup i) .non = .ok (.bl true) := rfl
theorem dj2 (i j : Int) : gO (.int i) (.int j) = .ok (.bl (i == j)) := rfl
theorem dm2 (i j : Str) : gO (.str i) (.str j) = .ok (.bl (i == j)) := rfl
theorem df3 (i j : Bool) : gO (.bl i) (.bl j) = .ok (.bl (i == j)) := rfl
theorem dw2 (i j : Int) : neT (.int i) (.int j) = .ok (.bl (!(i == j))) := rfl
theorem db2 (i j : Str) : neT (.str i) (.str j) = .ok (.bl (!(i == j))) := rfl
theorem du2 (i j : Bool) : neT (.bl i) (.bl j) = .ok (.bl (!(i == j))) := rfl
theorem dg2 (n : Bool) (i j : Str) : zR n (.str i) (.str j) = .ok (.bl (if n = true then !occ j i else occ j i)) := rfl
theorem ds3 (o : Bool) (ts : List T) (n : Int) : aX (.lst o ts) (.int n) = match atI ts n with | some t => .ok t | none => .no := rfl
theorem cg2 (ts : List T) (n : Int) : aX (.tup ts) (.int n) = match atI ts n with | some t => .ok t | none => .no := rfl
theorem dm1 (z : Str) (n : Int) : aX (.str z) (.int n) = if z.length ≤ sizeLine then match atI z.cps.toList n with | some c => .ok (.str ⟨#[c]⟩) | none => .no else .no := rfl
theorem do4 (o : Bool) (ts : List T) (lo hi : Option Int) : qK (.lst o ts) lo hi = if bA ts = true then .ok (.lst true (fZ ts lo hi)) else .no := rfl
theorem ds4 (ts : List T) (lo hi : Option Int) : qK (.tup ts) lo hi = if bA ts = true ∧ ¬ (HT.sIx ts.length 0 lo = 0 ∧ HT.sIx ts.length ts.length hi = ts.length) then .ok (.tup (fZ ts lo hi)) else .no := rfl
theorem dl4 (z : Str) (lo hi : Option Int) : qK (.str z) lo hi = if z.length ≤ sizeLine then .ok (.str (Txt.slice z lo hi)) else .no := rfl
theorem dj1 (z : Str) : eF [.str z] = if z.length ≤ sizeLine then .ok (.int z.length) else .no := rfl
theorem dz0 (o : Bool) (ts : List T) : eF [.lst o ts] = .ok (.int ts.length) := rfl
theorem ds1 (ts : List T) : eF [.tup ts] = .ok (.int ts.length) := rfl
theorem dh1 (i : Int) : ax0 [.int i] = .ok (.int (if i < 0 then -i else i)) := rfl
theorem bj7 (i j : Int) : zG [.int i, .int j] = gate (tW i j) (.ok (.tup [.int (i / j), .int (i % j)])) := rfl
theorem co2 (i : Int) : sG [.int i, .ty "int"] = .ok (.bl true) := by with_unfolding_all rfl
theorem bb7 (i : Int) : sG [.int i, .ty "bool"] = .ok (.bl false) := by with_unfolding_all rfl
theorem cv2 (i : Bool) : sG [.bl i, .ty "bool"] = .ok (.bl true) := by with_unfolding_all rfl
theorem bh5 (i : Bool) : sG [.bl i, .ty "int"] = .ok (.bl true) := by with_unfolding_all rfl
theorem cv1 (i : List T) : sG [.tup i, .ty "tuple"] = .ok (.bl true) := by with_unfolding_all rfl
theorem cq2 (o : Bool) (i : List T) : sG [.lst o i, .ty "list"] = .ok (.bl true) := by with_unfolding_all rfl
theorem dt0 (i : Str) : sG [.str i, .ty "str"] = .ok (.bl true) := by with_unfolding_all rfl
theorem ca7 (i : Str) : sG [.str i, .ty "int"] = .ok (.bl false) := by with_unfolding_all rfl
theorem cs2 (a o : Bool) (bs : List Bool) : mN a [.lst o (bs.map .bl)] = .ok (.bl (if a = true then bs.any id else bs.all id)) := by
 simp only [mN, ai6]
theorem cf8 (i j : Int) : tZ [.int i, .int j] = .ok (.int (if j > i then j else i)) := rfl
theorem ca6 (i j : Int) : qV [.int i, .int j] = .ok (.int (if j < i then j else i)) := rfl
theorem de1 (o : Bool) (n : Int) (ns : List Int) : tZ [.lst o ((n :: ns).map .int)] = .ok (.int (bv9 (n :: ns))) := by
 simp only [tZ, vH]
theorem dx0 (o : Bool) (n : Int) (ns : List Int) : qV [.lst o ((n :: ns).map .int)] = .ok (.int (ci1 (n :: ns))) := by
 simp only [qV, vH]
theorem bl9 (o : Bool) (ns : List Int) : by1 [.lst o (ns.map .int)] = if ns.length < 64 then .ok (.lst true ((bj3 ns).map .int)) else .no := by
 simp only [by1, vH]
theorem cf7 (o : Bool) (ts : List T) : gQ [.lst o ts] = if bA ts = true then .ok (.lst true ts) else .no := rfl
theorem cw9 (ts : List T) : gQ [.tup ts] = if bA ts = true then .ok (.lst true ts) else .no := rfl
theorem bi6 (z y : Str) : ch3 (.str z) [.str y] = .ok (.bl (Txt.startswith z y)) := rfl
theorem bz1 (z : Str) (o : Bool) (ys : List Str) : yY (.str z) [.lst o (ys.map .str)] = if (ys.map (·.length)).sum + ys.length * z.length ≤ 16777216 then .ok (.str (Txt.join z ys)) else .no := by
 simp only [yY, yK]
theorem dl1 (o : Bool) (ts : List T) : lI (.lst o ts) = if bA ts = true then .ok ts else .no := rfl
theorem dc1 (ts : List T) : lI (.tup ts) = if bA ts = true then .ok ts else .no := rfl
theorem du0 (z : Str) : lI (.str z) = .ok (z.cps.toList.map fun c => T.str ⟨#[c]⟩) := rfl
theorem da1 (ts : List T) : xZ (.lst false ts) = if bA ts = true then .ok ts else .no := by simp only [xZ, Bool.not_false, Bool.true_and]
theorem dp0 (ts : List T) : xZ (.tup ts) = if bA ts = true then .ok ts else .no := rfl
theorem dd1 (z : Str) : xZ (.str z) = .ok (z.cps.toList.map fun c => T.str ⟨#[c]⟩) := rfl
theorem dw1 (j : Int) : pO [.int j] = gate (-(2 ^ 62) ≤ j ∧ j < 2 ^ 62) (.ok (iR 0 j.toNat)) := rfl
theorem db1 (i j : Int) : bv3 [.int i, .int j] = gate (-(2 ^ 62) ≤ i ∧ i < 2 ^ 62 ∧ -(2 ^ 62) ≤ j ∧ j < 2 ^ 62) (.ok (iR i (j - i).toNat)) := rfl
theorem dc3 (b : Bool) : uM (.bl b) = .ok b := rfl
theorem db3 (b : Int) : uM (.int b) = .ok (b != 0) := rfl
theorem dn3 : uM .non = .ok false := rfl
theorem da2 (o : Bool) (b : List T) : uM (.lst o b) = .ok (!b.isEmpty) := rfl
theorem dt2 (b : Bool) : toB (.bl b) = .ok b := rfl
theorem de3 (i : Int) : toI (.int i) = .ok (some i) := rfl
theorem dy0 (o : Bool) (ts : List T) : bi3 (some (-1)) (.lst o ts) = if bA ts = true then .ok (.lst true ts.reverse) else .no := by
 simp only [bi3, and_true]
theorem gK {α : Type} {k : Nat} {d : Fr → Res T} {ρ : Fr} {g f : α → T} : ∀ {l : List α}, (∀ a ∈ l, d (ρ.set k (some (g a))) = .ok (f a)) → cD (aK k) dE d ρ (l.map g) = .ok (l.map f)
 | [], _ => rfl
 | a :: l, h => by
  simp only [List.map_cons, cD, aK, dE, nS, if_true, h a List.mem_cons_self, gK (fun u hu => h u (List.mem_cons_of_mem _ hu))]
theorem ao1 {α : Type} {k : Nat} {c : Fr → Res Bool} {d : Fr → Res T} {ρ : Fr} {g f : α → T} {p : α → Bool} : ∀ {l : List α}, (∀ a ∈ l, c (ρ.set k (some (g a))) = .ok (p a) ∧ (p a = true → d (ρ.set k (some (g a))) = .ok (f a))) → cD (aK k) c d ρ (l.map g) = .ok ((l.filter p).map f)
 | [], _ => rfl
 | a :: l, h => by
  obtain ⟨h1, h2⟩ := h a List.mem_cons_self
  have ih := ao1 (k := k) (c := c) (d := d) (ρ := ρ) (g := g) (f := f) (p := p) (l := l) (fun u hu => h u (List.mem_cons_of_mem _ hu))
  cases hp : p a with
  | true => simp only [List.map_cons, cD, aK, h1, hp, h2 hp, nS, if_true, List.filter_cons, ih]
  | false => simp only [List.map_cons, cD, aK, h1, hp, nS, Bool.false_eq_true, if_false, List.filter_cons, ih]
theorem jU {lo : Int} {n i : Nat} {t : T} (h : (iR lo n)[i]? = some t) : i < n ∧ t = .int (lo + i) := by
 unfold iR at h
 rw [List.getElem?_map] at h
 cases q : (List.range n)[i]? with
 | none => rw [q] at h; cases h
 | some j =>
  rw [q] at h
  obtain ⟨h1, h2⟩ := List.getElem?_eq_some_iff.mp q
  simp at h1 h2
  subst h2
  cases h
  exact ⟨h1, rfl⟩
theorem gN (lo : Int) (n : Nat) : (iR lo n).length = n := by simp [iR]
theorem kA {α : Type} {g : α → T} (h : ∀ a, eC (g a) = true) : ∀ l : List α, bA (l.map g) = true
 | [] => rfl
 | a :: l => by simp only [List.map_cons, bA, h a, kA h l, Bool.and_self]
theorem sL {α : Type} {g : α → T} (h : ∀ a, frz (g a) = g a) : ∀ l : List α, frzs (l.map g) = l.map g
 | [] => rfl
 | a :: l => by simp only [List.map_cons, frzs, h a, sL h l]
theorem jW {α : Type} {g : α → T} (h : ∀ a, eA (g a) = true) : ∀ l : List α, dL (l.map g) = true
 | [] => rfl
 | a :: l => by simp only [List.map_cons, dL, h a, jW h l, Bool.and_self]
theorem mQ (l : List Int) : bA (l.map T.int) = true := kA (fun _ => rfl) l
theorem yC (l : List Int) : frzs (l.map T.int) = l.map T.int := sL (fun _ => rfl) l
theorem tS (l : List Int) : dL (l.map T.int) = true := jW (fun _ => rfl) l
theorem qD (l : List Str) : bA (l.map T.str) = true := kA (fun _ => rfl) l
theorem xH (l : List Str) : frzs (l.map T.str) = l.map T.str := sL (fun _ => rfl) l
theorem uI (l : List Str) : dL (l.map T.str) = true := jW (fun _ => rfl) l
theorem cx3 (z : Str) : z.length = z.cps.toList.length := Array.length_toList.symm
end TL
namespace TL
open PySem PySem.Spec PyProof.Rows L2
section
variable {Jn : gL} {K : PySem.W.Frag} {cn : Str → Option Addr} {E : XK}
def fJ (cs : List Str) (f : Str) : T → Res T
 | .ins _ c ns ts => if cs.contains c = true then match (ns.zip ts).lookup f with
  | some t => .ok t
  | none => .no else .no
 | _ => .no
def iQ (K : PySem.W.Frag) (cn : Str → Option Addr) (cs : List Str) (f : Str) : Prop := ∀ c ∈ cs, ∀ C, cn c = some C → Cls K C ∧ NoAttr K C f
theorem Reps.lookup {H : Hp} {Z : Addr → Prop} {f : Str} {t : T} : ∀ (ns : List Str) (ts : List T) {vs : List V} {A : List Addr}, Reps K cn H Z ts vs A → (ns.zip ts).lookup f = some t → ∃ v B, (ns.zip vs).lookup f = some v ∧ Rep K cn H Z t v B
 | [], ts, _, _, _, e => by simp at e
 | n :: ns, [], _, _, _, e => by simp at e
 | n :: ns, u :: ts, vs, A, r, e => by
  simp only [Reps] at r
  obtain ⟨v, r', B, C, rfl, rfl, h1, h2⟩ := r
  rw [List.zip_cons_cons, List.lookup_cons] at e ⊢
  cases q : f == n with
  | true =>
   rw [q] at e
   cases e
   exact ⟨v, B, rfl, h1⟩
  | false =>
   rw [q] at e
   exact Reps.lookup ns ts h2 e
theorem Rep.insS {H : Hp} {Z : Addr → Prop} {o : Bool} {c : Str} {ns : List Str} {ts : List T} {v : V} {B : List Addr} (r : Rep K cn H Z (.ins o c ns ts) v B) : ∃ a C dx vs D, v = .ref a ∧ cn c = some C ∧ H a = some (.ins C dx (ns.zip vs)) ∧ ns.length = vs.length ∧ Reps K cn H Z ts vs D := by
 cases o with
 | true =>
  simp only [Rep] at r
  obtain ⟨a, C, dx, vs, D, rfl, _, hc, e, l, r⟩ := r
  exact ⟨a, C, dx, vs, D, rfl, hc, e, l, r⟩
 | false =>
  simp only [Rep] at r
  obtain ⟨a, C, dx, vs, rfl, _, hc, e, _, l, r⟩ := r
  exact ⟨a, C, dx, vs, [], rfl, hc, e, l, r⟩
theorem cw6 {cs : List Str} {f : Str} {ta : TE} {a : Fr → Res T} (hf : iQ K cn cs f) (ha : RB Jn K cn E ta a) : RB Jn K cn E (bq9 K ta f) (eO (fJ cs f) a) := fun As H Z ρ σ F Q w => by
 unfold eO at w
 refine ha As H Z ρ σ F _ ?_
 cases e : a ρ with
 | ok t =>
  rw [e] at w
  intro v H1 Z1 B p
  simp only [Res.bind] at w
  unfold fJ at w
  split at w
  · next o c ns ts =>
    split at w
    · next hc =>
      split at w
      · next t' h =>
        obtain ⟨q, C, dx, vs, D, rfl, hC, eq, _, r⟩ := p.rep.insS
        obtain ⟨v', B', e3, rv⟩ := Reps.lookup ns ts r h
        obtain ⟨k1, k2⟩ := hf c (by simpa using hc) C hC
        exact ⟨q, C, dx, _, v', rfl, eq, k1, k2, e3, w v' H1 Z1 B' ⟨p.same, p.zz, p.zn, p.zi, rv⟩⟩
      · exact w.elim
    · exact w.elim
  · exact w.elim
 | ex x => rw [e] at w; exact w
 | no => rw [e] at w; exact w
def fG (f : Str) : List Str → Option Nat
 | [] => none
 | n :: ns => if n = f then some 0 else (fG f ns).map (· + 1)
theorem bb2 {f : Str} {y : V} : ∀ (ns : List Str) (vs : List V) {k : Nat}, ns.length = vs.length → fG f ns = some k → jC f y (ns.zip vs) = ns.zip (vs.set k y)
 | [], _, _, _, h => by simp [fG] at h
 | n :: ns, [], _, l, _ => by simp at l
 | n :: ns, w :: vs, k, l, h => by
  unfold fG at h
  rw [List.zip_cons_cons, jC]
  by_cases q : n = f
  · rw [if_pos q] at h; cases h
    rw [if_pos q]; rfl
  · rw [if_neg q, Option.map_eq_some_iff] at h
    obtain ⟨k', h1, rfl⟩ := h
    rw [if_neg q, bb2 ns vs (by simpa using l) h1]; rfl
theorem am9 {f : Str} {y : V} : ∀ (ns : List Str) (vs : List V), ns.length = vs.length → fG f ns = none → jC f y (ns.zip vs) = (ns ++ [f]).zip (vs ++ [y])
 | [], [], _, _ => rfl
 | [], w :: vs, l, _ => by simp at l
 | n :: ns, [], l, _ => by simp at l
 | n :: ns, w :: vs, l, h => by
  unfold fG at h
  rw [List.zip_cons_cons, jC]
  by_cases q : n = f
  · rw [if_pos q] at h; cases h
  · rw [if_neg q, Option.map_eq_none_iff] at h
    rw [if_neg q, am9 ns vs (by simpa using l) h]; rfl
def dh5 (j : Nat) (cs : List Str) (f : Str) (d : Fr → Res (List Nat)) : Fr → Res (List Nat) := fun ρ => (d ρ).bind fun p => match ρ[j]? with
 | some (some t0) => match lG p t0 with
  | some (.ins o c ns ts) => if (o && cs.contains c) = true then match fG f ns with
   | some k => if k < ts.length then .ok (p ++ [k]) else .no
   | none => .no else .no
  | _ => .no
 | _ => .no
def qT (j : Nat) (mv : List Nat) (cs : List Str) (f : Str) (e : Fr → Res T) (d : Fr → Res (List Nat)) : Fr → bT := fun ρ => match e ρ with
 | .ok t => match (kills mv ρ)[j]? with
  | some (some t0) => match d (kills mv ρ) with
   | .ok p => match lG p t0 with
    | some (.ins o c ns us) => if (o && cs.contains c && decide (ns.length < 1000)) = true then match fG f ns with
     | some k => if k < us.length then av7 j p (.ins true c ns (us.set k t)) (kills mv ρ) else .no
     | none => av7 j p (.ins true c (ns ++ [f]) (us ++ [t])) (kills mv ρ)
     else .no
    | _ => .no
   | .ex x => .ex x
   | .no => .no
  | _ => .no
 | .ex x => .ex x
 | .no => .no
theorem cp6 {j : Nat} {mv : List Nat} {cs : List Str} {f : Str} {te to : TE} {e : Fr → Res T} {d : Fr → Res (List Nat)} (hf : iQ K cn cs f) (he : RE Jn K cn E mv te e) (hd : RP Jn K cn E j to d) : RS Jn K cn E (cm0 K to te f) (qT j mv cs f e d) := fun As H Z ρ σ F D w => by
 unfold qT at w
 refine he As H Z ρ σ F _ ?_
 cases ee : e ρ with
 | ok t =>
  rw [ee] at w
  intro y H1 Z1 C p1
  simp only at w
  have F1 := (F.mo p1.mo).kills mv
  cases e1 : (kills mv ρ)[j]? with
  | none => rw [e1] at w; exact w.elim
  | some o =>
   rw [e1] at w
   cases o with
   | none => exact w.elim
   | some t0 =>
    obtain ⟨v0, e2, r0⟩ := F1.sl.get e1
    simp only at w
    have ev1 : Ev As H Z (gA mv As) H1 Z1 := ⟨fun b o q _ => p1.same b o q, fun b hb => .inl (fV hb), p1.zz, fun b h => (p1.zn b h).imp_right .inr, fun b h => p1.same.free h⟩
    refine hd (gA mv As) H1 Z1 (kills mv ρ) σ F1 t0 v0 e1 e2 r0 _ ?_
    cases ed : d (kills mv ρ) with
    | ok p =>
     rw [ed] at w
     intro u v B H2 Z2 m2 hn pl
     simp only [hn] at w
     split at w
     · next o c ns us hq =>
       cases hq
       split at w
       · next hc =>
         rw [Bool.and_eq_true, Bool.and_eq_true] at hc
         obtain ⟨⟨rfl, hc⟩, hl⟩ := hc
         have hl := of_decide_eq_true hl
         have q := pl.rep
         simp only [Rep] at q
         obtain ⟨a, C', dx, ws, C0, rfl, rfl, hC, ea, l, rs⟩ := q
         have rt : Rep K cn H2 Z2 t y C := p1.rep.same m2.same m2.zz
         have F2 := F1.mo m2
         have lw := Reps.length us rs
         obtain ⟨k1, k2⟩ := hf c (by simpa using hc) C' hC
         refine ⟨a, C', dx, _, rfl, ea, k1, k2, by rw [List.length_zip]; omega, ?_⟩
         have ndB : (a :: C0).Nodup := (uT F1.nd j).sublist pl.sub
         have cA : ∀ x ∈ C0, x ∈ (gA mv As).getD j [] := fun x hx => pl.sub.mem (List.mem_cons_of_mem _ hx)
         have cOut := p1.out F
         have cz : ∀ x ∈ C, ¬ Z2 x := fun x hx z => by
          rcases m2.zn x z with z | z
          · exact p1.bz x hx z
          · obtain ⟨o, ho, _⟩ := p1.rep.dom t x hx
            rw [ho] at z; cases z
         cases ek : fG f ns with
         | none =>
          rw [ek] at w
          rw [am9 ns ws l ek]
          refine ao4 (As := As) (H := H) (Z := Z) (E := E) F2 e1 e2 pl rfl rfl ea rfl (u' := .ins true c (ns ++ [f]) (us ++ [t])) (C := C0 ++ C) (fun aC aZ => ?_) ?_ ?_ ?_ (ev1.trans m2.ev) ?_ w
          · simp only [Rep]
            exact ⟨a, C', dx, ws ++ [y], C0 ++ C, rfl, rfl, hC, dZ, by simp [l], (Reps.append us rs (Reps.one rt)).upd ea rfl aC aZ⟩
          · rw [List.nodup_append]
            exact ⟨(List.nodup_cons.mp ndB).2, p1.nd, fun x hx z hz e => by subst e; exact cOut x hz (bD (cA x hx))⟩
          · intro x hx
            rcases List.mem_append.mp hx with hx | hx
            · exact F2.nz x (bD (cA x hx))
            · exact cz x hx
          · intro x hx hA
            rcases List.mem_append.mp hx with hx | hx
            · exact hx
            · exact absurd hA (cOut x hx)
          · intro x hx
            rcases List.mem_append.mp hx with hx | hx
            · exact .inl (fV (bD (cA x hx)))
            · exact p1.inA x hx
         | some k =>
          rw [ek] at w
          simp only at w
          split at w
          · next hk =>
            rw [bb2 ns ws l ek]
            obtain ⟨B1, Bo, B2, rfl, rs'⟩ := Reps.put rt us rs hk
            have i1 : ∀ x ∈ B1, x ∈ B1 ++ Bo ++ B2 := fun x hx => List.mem_append_left _ (List.mem_append_left _ hx)
            have i2 : ∀ x ∈ B2, x ∈ B1 ++ Bo ++ B2 := fun x hx => List.mem_append_right _ hx
            have nd1 := (List.nodup_cons.mp ndB).2
            rw [List.append_assoc, List.nodup_append] at nd1
            obtain ⟨n1, n2, n3⟩ := nd1
            rw [List.nodup_append] at n2
            refine ao4 (As := As) (H := H) (Z := Z) (E := E) F2 e1 e2 pl rfl rfl ea rfl (u' := .ins true c ns (us.set k t)) (C := B1 ++ C ++ B2) (fun aC aZ => ?_) ?_ ?_ ?_ (ev1.trans m2.ev) ?_ w
            · simp only [Rep]
              exact ⟨a, C', dx, ws.set k y, B1 ++ C ++ B2, rfl, rfl, hC, dZ, by simp [l], rs'.upd ea rfl aC aZ⟩
            · rw [List.append_assoc, List.nodup_append]
              refine ⟨n1, ?_, fun x hx z hz e => ?_⟩
              · rw [List.nodup_append]
                exact ⟨p1.nd, n2.2.1, fun x hx z hz e => by subst e; exact cOut x hx (bD (cA x (i2 x hz)))⟩
              · subst e
                rcases List.mem_append.mp hz with hz | hz
                · exact cOut x hz (bD (cA x (i1 x hx)))
                · exact n3 x hx x (List.mem_append_right _ hz) rfl
            · intro x hx
              rcases List.mem_append.mp hx with hx | hx
              · rcases List.mem_append.mp hx with hx | hx
                · exact F2.nz x (bD (cA x (i1 x hx)))
                · exact cz x hx
              · exact F2.nz x (bD (cA x (i2 x hx)))
            · intro x hx hA
              rcases List.mem_append.mp hx with hx | hx
              · rcases List.mem_append.mp hx with hx | hx
                · exact i1 x hx
                · exact absurd hA (cOut x hx)
              · exact i2 x hx
            · intro x hx
              rcases List.mem_append.mp hx with hx | hx
              · rcases List.mem_append.mp hx with hx | hx
                · exact .inl (fV (bD (cA x (i1 x hx))))
                · exact p1.inA x hx
              · exact .inl (fV (bD (cA x (i2 x hx))))
          · exact w.elim
       · exact w.elim
     · exact w.elim
    | ex x => rw [ed] at w; exact WpX.ev w ev1
    | no => rw [ed] at w; exact w
 | ex x => rw [ee] at w; exact w
 | no => rw [ee] at w; exact w
def mT (K : PySem.W.Frag) (cn : Str → Option Addr) (c : Str) (n : Nat) (G : List T → Res T) : Sp := fun vs H Q E => vs.length = n + 1 ∧ ∃ x C dx us ts Z, vs = .ref x :: us ∧ cn c = some C ∧ H x = some (.ins C dx []) ∧ ¬ Z x ∧ (∀ a, Z a → H a ≠ none) ∧ Reps K cn H Z ts us [] ∧
 match G ts with
 | .ok t => ∀ H' Z' B, Ev [[x]] H Z [B] H' Z' → Rep K cn H' Z' t (.ref x) B → B.Nodup → (∀ b ∈ B, ¬ Z' b) → (∀ a, Z' a → H' a ≠ none) → Q .non H'
 | .ex e => WpX K cn E [[x]] H Z e
 | .no => False
theorem ct3 {c : Str} {C : Addr} {n : Nat} {G : List T → Res T} {ta : TA} {a : Fr → Res (List T)} {E' : XK} (hc : cn c = some C) (ha : uS Jn K cn E ta a) : RE Jn K cn E [] (bt3 C (mT K cn c n G) [] E' ta) (bB n G a) := fun As H Z ρ σ F Q w => by
 unfold bB at w
 refine ha As H Z ρ σ F _ ?_
 cases e : a ρ with
 | ok ts =>
  rw [e] at w
  intro vs H1 Z1 B m r1 x dx hx hdx hne
  simp only [Res.bind] at w
  split at w
  · next hn =>
    have hs : Same H1 (L2.upd (L2.upd H1 dx (.own x)) x (.ins C dx [])) := fun b u q => by
     rw [cQ (gG q hx), cQ (gG q hdx)]; exact q
    refine ⟨by simp [Reps.length ts r1, hn], x, C, dx, vs, frzs ts, (fun a => Z1 a ∨ a ∈ B), by simp, hc, by rw [dZ], fun h => ?_, fun a h => ?_, (Reps.frz ts r1 (fun a h => .inl h) (fun a h => .inr h)).same hs (fun _ h => h), ?_⟩
    · rcases h with h | h
      · exact m.zi x h hx
      · obtain ⟨o, q, _⟩ := Reps.dom ts r1 x h
        rw [hx] at q
        cases q
    · intro q
      have q' := hs.free q
      rcases h with h | h
      · exact m.zi a h q'
      · obtain ⟨o, q2, _⟩ := Reps.dom ts r1 a h
        rw [q2] at q'
        cases q'
    cases e2 : G (frzs ts) with
    | ok t =>
     rw [e2] at w
     intro H2 Z2 C2 ev r2 nd bz zi2
     refine ⟨rfl, ?_⟩
     simp only at w
     have sm : Same H1 H2 := fun b u q => ev.keep b u (hs b u q) (by simpa using gG q hx)
     have bn : ∀ b ∈ C2, H1 b = none := fun b hb => by
      rcases ev.own b (by simpa using hb) with q | q
      · have : b = x := by simpa using q
        rw [this]; exact hx
      · exact hs.free q
     split at w
     · next hcl =>
       rw [Bool.or_eq_true] at hcl
       by_cases hcl' : eA t = true
       · refine w _ H2 Z1 C2 ⟨m.same.trans sm, m.zz, fun a h => m.zn a h, fun a h q => m.zi a h (sm.free q), Rep.any t hcl' r2, nd, fun b hb z => m.zi b z (bn b hb), fun b hb => .inl (m.same.free (bn b hb))⟩
       · have hno := hcl.resolve_left hcl'
         have hB := Reps.bare ts hno r1
         subst hB
         refine w _ H2 Z2 C2 ⟨m.same.trans sm, fun a h => ev.zz a (.inl (m.zz a h)), fun a h => ?_, zi2, r2, nd, bz, fun b hb => .inl (m.same.free (bn b hb))⟩
         rcases ev.zn a h with (h | h) | h | h
         · exact m.zn a h
         · cases h
         · have : a = x := by simpa using h
           rw [this]; exact .inr (m.same.free hx)
         · exact .inr (m.same.free (hs.free h))
     · exact w.elim
    | ex x => rw [e2] at w; exact w.elim
    | no => rw [e2] at w; exact w.elim
  · exact w.elim
 | ex x => rw [e] at w; exact w
 | no => rw [e] at w; exact w
def jG : bT → Res T
 | .nx ρ => match ρ[0]? with
  | some (some t) => .ok t
  | _ => .no
 | .ex x => .ex x
 | _ => .no
theorem cy4 {c : Str} {P : Program} {w : World} {mg : Str → Option Value} {base : Heap} {x qual : Str} {st : Stmt} {f : Addr} {fd : FuncData} {N ps : List Str} {k : Nat} {d : Fr → bT} (F : Fun K x qual st f fd) (S : bE N ps (aN st))
    (hbody : ∀ (y : Addr) (cdv : Value) (A : Around) (outer : List Env) (s : Shared) (H : Hp) (E : XK), Room k (A.deeper (envOfC qual (aN st) s.heap.objs.size f cdv)) →
      ∃ t, PSs (mO jQ P w K mg base N qual (aN st) f cdv A outer s H E).nox (dN st) t ∧ RS [(0, .ref y)] K cn E t d) {n : Nat} {G : List T → Res T} (hn : ps.length = n + 1) (hG : ∀ ts, G ts = jG (d (cS N.length (.ins true c [] [] :: ts)))) : FnOk P w K mg base jQ (k + 1) f fd ps (mT K cn c n G) := by
  have eG : G = fun ts => jG (d (cS N.length (.ins true c [] [] :: ts))) := funext hG
  subst eG
  refine F.ok S (fun vs H Q E h => by rw [hn]; exact h.1) fun cdv A outer s H vs Q E hr h => ?_
  obtain ⟨hl, y, C, dx, us, ts, Z, rfl, hC, hy, hZ, zi, r, w⟩ := h
  obtain ⟨t, hp, ht⟩ := hbody y cdv A outer s H E hr
  refine ⟨t, hp, ?_⟩
  have lt := Reps.length ts r
  have ry : Rep K cn H Z (.ins true c [] []) (.ref y) [y] := by
    simp only [Rep, Reps]
    exact ⟨y, C, dx, [], [], rfl, rfl, hC, hy, rfl, rfl, rfl⟩
  let m := N.length - (ts.length + 1)
  have sl : Slots K cn H Z (cS N.length (.ins true c [] [] :: ts)) (L2.iS N (.ref y :: us)) ([y] :: List.replicate (ts.length + m) []) := by
    unfold cS L2.iS
    refine ⟨some (.ref y), us.map some ++ List.replicate m none, [y], _, ?_, rfl, ⟨_, rfl, ry⟩, ?_⟩
    · simp only [List.map_cons, List.length_cons, lt, List.cons_append]; rfl
    · exact xR ts r
  have fl : ([y] :: List.replicate (ts.length + m) []).flatten = [y] := by rw [List.flatten_cons, kX]; rfl
  have F0 : Frm [(0, .ref y)] K cn H Z (cS N.length (.ins true c [] [] :: ts)) (L2.iS N (.ref y :: us)) ([y] :: List.replicate (ts.length + m) []) :=
    ⟨sl, by rw [fl]; simp, by rw [fl]; intro a ha; have : a = y := by simpa using ha
                              rw [this]; exact hZ, zi, fun p hp => by
      rw [List.mem_singleton] at hp
      subst hp
      rfl⟩
  refine ht _ H Z _ _ F0 _ ?_
  cases ed : d (cS N.length (.ins true c [] [] :: ts)) with
  | nx ρ =>
    simp only [ed, jG] at w
    intro σ' As' H' Z' F' ev
    cases e0 : ρ[0]? with
    | none => rw [e0] at w; exact w.elim
    | some o =>
      rw [e0] at w
      cases o with
      | none => exact w.elim
      | some t0 =>
        simp only at w
        obtain ⟨v, e1, r1⟩ := F'.sl.get e0
        have e2 := F'.pn (0, .ref y) (List.mem_singleton.mpr rfl)
        simp only at e2
        rw [e1] at e2
        cases e2
        refine w H' Z' (As'.getD 0 []) ⟨fun a o h q => ev.keep a o h (by rw [fl]; simpa using q), fun a ha => ?_, ev.zz, fun a h => ?_, ev.dom⟩ r1 (uT F'.nd 0) (fun b hb => F'.nz b (bD hb)) F'.zi
        · have q := ev.own a (bD (i := 0) (by simpa using ha))
          rw [fl] at q
          simpa using q
        · have q := ev.zn a h
          rw [fl] at q
          simpa using q
  | ex e =>
    simp only [ed, jG] at w
    exact WpX.ev w ⟨fun _ _ q _ => q, fun a ha => (by rw [fl] at ha; exact .inl (by simpa using ha)), fun _ h => h, fun _ h => .inl h, fun _ h => h⟩
  | rt t => simp only [ed, jG] at w
  | bk ρ => simp only [ed, jG] at w
  | ct ρ => simp only [ed, jG] at w
  | no => simp only [ed, jG] at w
end
end TL
namespace L2
open PySem PySem.Spec PyProof.Rows
structure iZ (P : Program) (w : World) (K : PySem.W.Frag) (mg : Str → Option Value) (base : Heap) (k : Nat) (C : Addr) (m : Str) (sp : Sp) : Prop where
 ex : ∃ f fd ps, Cls K C ∧ bt8 K C m f ∧ FnOk P w K mg base jQ k f fd ps sp ∧ Binds K fd ps []
structure nU (P : Program) (w : World) (K : PySem.W.Frag) (mg : Str → Option Value) (base : Heap) (k : Nat) (x : Str) (C : Addr) (sp : Sp) : Prop where
 ex : ∃ f fd ps, Mk K C f ∧ FnOk P w K mg base jQ k f fd ps sp ∧ mg x = some (.ref C) ∧ Binds K fd ps []
def ad8 (tab : List (Addr × Sp)) (m : Str) (ta : TE) (t : TA) : TE := fun σ H Q => ta σ H fun x H1 => ∃ a C dx fs sp, x = .ref a ∧ H1 a = some (.ins C dx fs) ∧ (C, sp) ∈ tab ∧ fs.lookup m = none ∧ t σ H1 fun vs H2 => sp (x :: vs) H2 Q E0
section
variable {X : Cx}
theorem bx7 {k : Nat} {m : Str} {o e : Expr} {es : List Expr} {apos pos : Pos} {ta : TE} {t : TA} {tab : List (Addr × Sp)} {pl : Sem Bool} (he : PE X o ta) (hT : ∀ q ∈ tab, iZ X.prog X.w X.K X.mg X.base k q.1 m q.2) (hr : Room k X.A) (ha : PA X (e :: es) t)
 (hst : starEach (e :: es) X.env = (false, eval e X.env) :: starEach es X.env := by rfl) (hpl : (backTo pos (starEach es X.env)).any (·.1) = false := by rfl)
 (ht : eval (.Call (.Attribute o m apos) (e :: es) [] pos) X.env = (do
  let ov ← eval o X.env
  standAt apos.atName
  let (f, first) ← holding [ov] (getMethod ov m pl)
  callWith pos f first (backTo pos (starEach (e :: es) X.env)) (backToKw pos (keywordEach [] X.env))) := by rfl) :
 PE X (.Call (.Attribute o m apos) (e :: es) [] pos) (ad8 tab m ta t) := by
 intro pins s σ H Q I h
 refine PySem.W.methodCall_KW (pl := pl) (cI (he pins s σ H _ I h) fun u s1 ⟨x, H1, I1, rx, a, C, dx, fs, sp, ex, ea, hq, l, q⟩ => ?_) ht
 subst ex
 obtain rfl : u = Value.ref a := rx
 obtain ⟨f, fd, ps, c, hm, F, hb⟩ := (hT _ hq).ex
 refine aq2 I1 ea c hm l ?_
 refine PySem.W.callWith_K (first := [.ref a]) (h₀ := X.base) I.ok.mod.kin hm.kp (cI (ha pos pins s1 σ H1 _ I1 q) fun us s2 ⟨vs, H2, I2, r, q2⟩ => ⟨I2.kIn, ?_⟩) hst hpl
 exact ak2 (us := .ref a :: us) (vs := .ref a :: vs) F hr hb .nil ar2 I2 (.cons rfl r) (by rw [List.append_nil]; exact q2)
theorem ab6 {k : Nat} {m : Str} {o : Expr} {apos pos : Pos} {ta : TE} {tab : List (Addr × Sp)} {pl : Sem Bool} (he : PE X o ta) (hT : ∀ q ∈ tab, iZ X.prog X.w X.K X.mg X.base k q.1 m q.2) (hr : Room k X.A)
 (ht : eval (.Call (.Attribute o m apos) [] [] pos) X.env = (do
  let ov ← eval o X.env
  standAt apos.atName
  let (f, first) ← holding [ov] (getMethod ov m pl)
  callWith pos f first (backTo pos (starEach [] X.env)) (backToKw pos (keywordEach [] X.env))) := by rfl) :
 PE X (.Call (.Attribute o m apos) [] [] pos) (ad8 tab m ta as3) := by
 intro pins s σ H Q I h
 refine PySem.W.methodCall_KW (pl := pl) (cI (he pins s σ H _ I h) fun u s1 ⟨x, H1, I1, rx, a, C, dx, fs, sp, ex, ea, hq, l, q⟩ => ?_) ht
 subst ex
 obtain rfl : u = Value.ref a := rx
 obtain ⟨f, fd, ps, c, hm, F, hb⟩ := (hT _ hq).ex
 refine aq2 I1 ea c hm l ?_
 exact PySem.W.callWith_K0 (first := [.ref a]) I1.kIn hm.kp (ak2 (us := [.ref a]) (vs := [.ref a]) F hr hb .nil ar2 I1 (.cons rfl .nil) q)
theorem oU {k : Nat} {x : Str} {C : Addr} {sp : Sp} {p pos : Pos} {e : Expr} {es : List Expr} {t : TA} (d : nU X.prog X.w X.K X.mg X.base k x C sp) (hr : Room (k + 1) X.A) (ha : PA X (e :: es) t) (hg : Gl X x := by rfl)
 (hdb : (x == ("__debug__" : Str)) = false := by decide) (he : starEach (e :: es) X.env = (false, eval e X.env) :: starEach es X.env := by rfl) (hpl : (backTo pos (starEach es X.env)).any (·.1) = false := by rfl) :
 PE X (.Call (.Name x p) (e :: es) [] pos) (bt3 C sp [] E0 t) := by
 obtain ⟨f, fd, ps, M, F, hm, hb⟩ := d.ex
 exact cz2 M F hr hg hm hb .nil ar2 ha hdb he hpl
end
end L2
namespace TL
open PySem PySem.Spec PyProof.Rows L2
section
variable {Jn : gL} {K : PySem.W.Frag} {cn : Str → Option Addr} {E : XK}
def tP (n : Nat) (G : List T → Res T) (ts : List T) : Res T := if ts.length = n then match G (frzs ts) with
 | .ok t => if (eA t || bA ts) = true then .ok t else .no
 | _ => .no else .no
theorem ao9 {n : Nat} {G : List T → Res T} {As : List (List Addr)} {H H1 : Hp} {Z Z1 : Addr → Prop} {ts : List T} {vs : List V} {B : List Addr} {Q : VK} {E' : XK} (m : Mo H Z H1 Z1) (r1 : Reps K cn H1 Z1 ts vs B) (w : WpE K cn E As H Z [] Q (tP n G ts)) : aV K cn n G vs H1 Q E' := by
 unfold tP at w
 split at w
 · next hn =>
   refine ⟨by rw [Reps.length ts r1, hn], frzs ts, (fun a => Z1 a ∨ a ∈ B), fun a h => ?_, Reps.frz ts r1 (fun a h => .inl h) (fun a h => .inr h), ?_⟩
   · rcases h with h | h
     · exact m.zi a h
     · obtain ⟨o, q, _⟩ := Reps.dom ts r1 a h
       rw [q]
       exact (fun z => nomatch z)
   cases e2 : G (frzs ts) with
   | ok t =>
    rw [e2] at w
    intro v H2 Z2 C p
    simp only at w
    split at w
    · next hc =>
      rw [Bool.or_eq_true] at hc
      have bn : ∀ b ∈ C, H1 b = none := fun b hb => (p.bn b hb).resolve_right (fun ⟨i, hi, _⟩ => by cases hi)
      by_cases hcl : eA t = true
      · refine w v H2 Z1 C ⟨m.same.trans p.same, m.zz, fun a h => m.zn a h, fun a h => ?_, Rep.any t hcl p.rep, p.nd, fun b hb z => ?_, fun b hb => .inl (m.same.free (bn b hb))⟩
        · intro q
          exact m.zi a h (p.same.free q)
        · exact m.zi b z (bn b hb)
      · have hno := hc.resolve_left hcl
        have hB := Reps.bare ts hno r1
        subst hB
        refine w v H2 Z2 C ⟨m.same.trans p.same, fun a h => p.zz a (.inl (m.zz a h)), fun a h => ?_, p.zi, p.rep, p.nd, p.bz, fun b hb => .inl (m.same.free (bn b hb))⟩
        rcases p.zn a h with (h | h) | h
        · exact m.zn a h
        · cases h
        · exact .inr (m.same.free h)
    · exact w.elim
   | ex x => rw [e2] at w; exact w.elim
   | no => rw [e2] at w; exact w.elim
 · exact w.elim
theorem zU {f : Str} : ∀ (ns : List Str) (vs : List V), fG f ns = none → (ns.zip vs).lookup f = none
 | [], _, _ => by simp
 | n :: ns, [], _ => by simp
 | n :: ns, w :: vs, h => by
  unfold fG at h
  rw [List.zip_cons_cons, List.lookup_cons]
  by_cases q : n = f
  · rw [if_pos q] at h; cases h
  · rw [if_neg q, Option.map_eq_none_iff] at h
    rw [show (f == n) = false from by rw [beq_eq_false_iff_ne]; exact fun z => q z.symm]
    exact zU ns vs h
def kR (n : Nat) (m : Str) (tabs : List (Str × (List T → Res T))) (o : Fr → Res T) (r : Fr → Res (List T)) : Fr → Res T := fun ρ => (o ρ).bind fun t => match t with
 | .ins _ c ns _ => match fG m ns with
  | none => match tabs.lookup c with
   | some G => (r ρ).bind fun ts => tP n G (t :: ts)
   | none => .no
  | some _ => .no
 | _ => .no
def aa0 (K : PySem.W.Frag) (cn : Str → Option Addr) (n : Nat) (tabs : List (Str × (List T → Res T))) (tab : List (Addr × Sp)) : Prop := ∀ c G C, tabs.lookup c = some G → cn c = some C → (C, aV K cn n G) ∈ tab
theorem cu0 {n : Nat} {m : Str} {tabs : List (Str × (List T → Res T))} {tab : List (Addr × Sp)} {to : TE} {ta : TA} {o : Fr → Res T} {a : Fr → Res (List T)} (hT : aa0 K cn n tabs tab) (ho : RB Jn K cn E to o) (ha : uS Jn K cn E ta a) : RE Jn K cn E [] (ad8 tab m to ta) (kR n m tabs o a) := fun As H Z ρ σ F Q w => by
 unfold kR at w
 refine ho As H Z ρ σ F _ ?_
 cases e : o ρ with
 | ok t =>
  rw [e] at w
  intro v H1 Z1 B p
  simp only [Res.bind] at w
  split at w
  · next ow c ns us =>
    split at w
    · next hm =>
      split at w
      · next G hG =>
        obtain ⟨q, C, dx, vs, D, rfl, hC, eq, _, r⟩ := p.rep.insS
        refine ⟨q, C, dx, _, aV K cn n G, rfl, eq, hT c G C hG hC, zU ns vs hm, ha As H1 Z1 ρ σ (F.mo p.mo) _ ?_⟩
        cases e2 : a ρ with
        | ok ts =>
         rw [e2] at w
         intro ws H2 Z2 D2 m2 r2
         refine ao9 (As := As) (E := E) (p.mo.trans m2) (ts := .ins ow c ns us :: ts) (B := B ++ D2) ?_ w
         simp only [Reps]
         exact ⟨_, ws, B, D2, rfl, rfl, p.rep.same m2.same m2.zz, r2⟩
        | ex x => rw [e2] at w; exact WpX.ev w p.mo.ev
        | no => rw [e2] at w; exact w
      · exact w.elim
    · exact w.elim
  · exact w.elim
 | ex x => rw [e] at w; exact w
 | no => rw [e] at w; exact w
end
end TL
namespace L2
open PySem PySem.Spec PyProof.Rows
section
variable {X : Cx} (K : PySem.W.Frag)
end
end L2
namespace TL
open PySem PySem.Spec PyProof.Rows L2
section
variable {Jn : gL} {K : PySem.W.Frag} {cn : Str → Option Addr} {E : XK} {As : List (List Addr)} {H : Hp} {Z : Addr → Prop} {Q : VK}
def ck7 : List T → Res T
 | [.lst _ ts] => if bA ts = true then .ok (.tup ts) else .no
 | [.tup ts] => if bA ts = true then .ok (.tup ts) else .no
 | _ => .no
end
end TL
namespace L2
open PySem PySem.Spec PyProof.Rows
section
variable {X : Cx}
def cr2 : TS := fun _ _ _ => False
theorem kH {st : Stmt} : PS X st cr2 := fun _ _ _ _ _ _ h => h.elim
def bj2 : V → List V → Hp → VK → Prop := fun x vs H Q => ∃ l xs i y, x = .ref l ∧ vs = [.int i, y] ∧ H l = some (.lst xs) ∧ 0 ≤ i ∧ i.toNat ≤ xs.length ∧ xs.length < sizeLine ∧ Q .non (upd H l (.lst (xs.take i.toNat ++ y :: xs.drop i.toNat)))
def al9 (K : PySem.W.Frag) (n : Nat) : V → List V → Hp → VK → Prop := fun x vs H Q => ∃ p ys y, x = .ref p ∧ vs = [y] ∧ SqL K H p ys ∧ ∃ (es : List Bool) (j : Nat), es.length = ys.length ∧ (∀ (j : Nat) z e, ys[j]? = some z → es[j]? = some e → EqD K H n z y e) ∧ es[j]? = some true ∧ (∀ m, m < j → es[m]? = some false) ∧ Q (.int j) H
def bc8 (K : PySem.W.Frag) (n : Nat) : R2 := fun x y H Q => rNe x y H Q ∨ (∃ p q b, x = .ref p ∧ y = .ref q ∧ EqD K H n x y b ∧ Q (.bl (!b)) H)
theorem cn7 {n : Nat} (hu : X.A.units + n < cLine) : OpR X (compareOp .NotEq) (bc8 X.K n) := by
 intro pins s σ H x y v u Q I rx ry h
 rcases h with h | ⟨p, q, b, rfl, rfl, h, hq⟩
 · exact ds2 pins s σ H x y v u Q I rx ry h
 · cases rx
   cases ry
   have bY : EP X pins σ Q (.bool (!b)) s := ⟨.bl (!b), H, I, rfl, hq⟩
   cases n with
   | zero => exact absurd h.1 (fun z => by cases z)
   | succ n =>
    rcases h with ⟨h1, _, _⟩ | ⟨p, q, xs, ys, e1, e2, s1, s2, h⟩ | ⟨p, q, xs, ys, e1, e2, s1, s2, es, hl, he, rfl⟩
    · exact absurd h1 (fun z => by cases z)
    · cases e1
      cases e2
      obtain ⟨its, r1, p1, _⟩ := I.list s1
      obtain ⟨jts, r2, p2, _⟩ := I.list s2
      have l1 := r1.length
      have l2 := r2.length
      rcases h with ⟨hne, rfl⟩ | ⟨heq, es, hl, he, rfl⟩
      · exact SeqAt.RcNeAt.lists_lengths p1.isList p2.isList (by simp only [List.size_toArray, bne_iff_ne, ne_eq]; omega) (by omega) _ _ _ _ bY
      · refine SeqAt.RcNeAt.lists (e := fun j => es.getD j true) p1.isList p2.isList (by simp only [List.size_toArray]; omega) (by omega) (fun j h1 h2 => ?_) _ _ _ _ ?_
        · simp only [List.size_toArray] at h1 h2
          simp only [List.getElem_toArray]
          obtain ⟨x, ex, rx⟩ := fF r1 h1
          obtain ⟨y, ey, ry⟩ := fF r2 h2
          have hj : j < es.length := by omega
          have eg : es.getD j true = es[j] := by rw [List.getD_eq_getElem?_getD, List.getElem?_eq_getElem hj]; rfl
          rw [eg]
          exact oS I n (by show X.A.units + 1 + n < cLine; omega) rx ry (he j x y es[j] ex ey (List.getElem?_eq_getElem hj))
        · rw [List.size_toArray, show its.length = es.length by omega, pL]
          exact bY
    · cases e1
      cases e2
      obtain ⟨its, r1, p1, _⟩ := I.tuple s1
      obtain ⟨jts, r2, p2, _⟩ := I.tuple s2
      have l1 := r1.length
      have l2 := r2.length
      refine SeqAt.RcNeAt.tuples (e := fun j => es.getD j true) (show s.heap.IsTuple _ its.toArray from p1) (show s.heap.IsTuple _ jts.toArray from p2) (by omega) (fun j h1 h2 => ?_) _ _ _ _ ?_
      · simp only [List.size_toArray] at h1 h2
        simp only [List.getElem_toArray]
        obtain ⟨x, ex, rx⟩ := fF r1 h1
        obtain ⟨y, ey, ry⟩ := fF r2 h2
        have hj : j < es.length := by omega
        have eg : es.getD j true = es[j] := by rw [List.getD_eq_getElem?_getD, List.getElem?_eq_getElem hj]; rfl
        rw [eg]
        exact oS I n (by show X.A.units + 1 + n < cLine; omega) rx ry (he j x y es[j] ex ey (List.getElem?_eq_getElem hj))
      · simp only [List.size_toArray]
        rw [show min its.length jts.length = es.length by omega, pL, ← l1, ← l2]
        exact bY
theorem ao2 (K : PySem.W.Frag) {n : Nat} {k : Nat} (hr : Room k X.A) (hn : n ≤ 60 := by decide) (hK : X.K = K := by rfl) : OpR X (compareOp .NotEq) (bc8 K n) := by
 subst hK
 exact cn7 (Nat.lt_of_le_of_lt (Nat.add_le_add_left (Nat.le_trans hn (by decide)) _) hr.units)
theorem bk7 : MtM X "list.insert" bj2 := by
 intro pins s σ H x vs v us Q I rx rv h
 obtain ⟨l, xs, i, y, rfl, rfl, hH, h0, h1, hz, q⟩ := h
 cases rx
 obtain ⟨u, u', rfl, ru, ru'⟩ := rv.two
 obtain ⟨t, rfl⟩ := ru
 obtain ⟨z, its, n, r, hl, e⟩ := I.lstM hH
 have hfit : ¬ (!Builtin.List.listFitsIndex i) = true := by
  rw [fitsIndex_both (by omega) (by have : xs.length < 2 ^ 62 := Nat.lt_trans hz (by decide); omega)]
  decide
 refine call_meets F.slot_list_insert ⟨_, e, rfl⟩ F.entry_list_insert (F.args_list_insert_3 _ _ _) (AutoSeq1.list_insert_list_int_val_1 l its.toArray n i t u' hfit (by rw [List.size_toArray]; omega)) ⟨e, ?_⟩
 refine ⟨.non, _, I.lset (its' := its.take i.toNat ++ u' :: its.drop i.toNat) hH e ?_ ((r.take i.toNat).append (.cons ru' (r.drop i.toNat))) ?_, rfl, q⟩
 · have hn : ¬ i < 0 := by omega
   simp only [hn, if_false, List.size_toArray, Nat.min_eq_left (show i.toNat ≤ its.length by omega)]
   apply Array.toList_inj.mp
   simp [List.take_append, List.drop_eq_nil_of_le]
   exact List.take_of_length_le (by simp)
 · simp
   omega
theorem cb1 {n : Nat} (hu : X.A.units + n + 1 < cLine) : MtR X "list.index" (al9 X.K n) := by
 intro pins s σ H x vs v us Q I rx rv h
 obtain ⟨p, ys, y, rfl, rfl, hq, es, j, hl, he, hj, hno, q⟩ := h
 cases rx
 obtain ⟨u, rfl, ru⟩ := rv.one
 obtain ⟨its, r, pl, hz⟩ := I.list hq
 have l1 := r.length
 obtain ⟨f, hf, _⟩ := bl2 I r hl he
 have at_ : ∀ (m : Nat) (hm : m < its.length) b, es[m]? = some b → f its[m] = b := fun m hm b eb => by
  obtain ⟨z, ez, rz⟩ := fF r hm
  obtain ⟨z', rz', d⟩ := hf its[m] (List.getElem_mem hm)
  cases rz.inj rz'
  exact EqD.det I n _ _ _ _ d (he m z b ez eb)
 have hjl : j < its.length := by
  have := (List.getElem?_eq_some_iff.mp hj).1
  omega
 obtain ⟨⟨oc, od, odt, osl⟩, n0, ho, hc, hd, hdt⟩ := pl
 simp only at hc hd hdt
 subst hc hd hdt
 refine call_meets F.slot_list_index ⟨_, ho, rfl⟩ F.entry_list_index (F.args_list_index_2 _ _) (SeqAt.list_indexAt p its.toArray n0 none osl u f j (by simpa using hjl) ?_ ?_ ?_) ⟨ho, fun y hy => ?_, ?_⟩
 · have : j < 2 ^ 62 := Nat.lt_of_lt_of_le hjl (by rw [← l1]; exact Nat.le_trans hz (by decide))
   omega
 · simpa using at_ j hjl true hj
 · intro m hm hmj
   simpa using at_ m (by simpa using hm) false (hno m hmj)
 · obtain ⟨z, rz, d⟩ := hf y (by simpa using hy)
   exact oS I n (by show X.A.units + 1 + n < cLine; omega) rz ru d
 · exact ⟨.int j, H, I.tok _, ⟨_, rfl⟩, q⟩
end
end L2
namespace TL
open PySem PySem.Spec PyProof.Rows L2
section
variable {Jn : gL} {K : PySem.W.Frag} {cn : Str → Option Addr} {E : XK}
def mZ : Fr → bT := fun _ => .no
theorem ce5 : RS Jn K cn E cr2 mZ := fun _ _ _ _ _ _ _ w => w.elim
def bq2 (K : PySem.W.Frag) (cn : Str → Option Addr) (r : V → List V → Hp → VK → Prop) (f : List T → List T → Option (List T)) : Prop :=
 ∀ (H : Hp) (Z : Addr → Prop) (a : Addr) (us ts us' : List T) (ws vs : List V) (C0 C : List Addr), H a = some (.lst ws) → Reps K cn H Z us ws C0 → Reps K cn H Z ts vs C → (C0 ++ C).Nodup → f us ts = some us' →
  ∃ ws' D, Reps K cn H Z us' ws' D ∧ D.Nodup ∧ (∀ x ∈ D, x ∈ C0 ∨ x ∈ C) ∧ ∀ Q : VK, (∀ y, Q y (L2.upd H a (.lst ws'))) → r (.ref a) vs H Q
def yJ (j : Nat) (mv : List Nat) (f : List T → List T → Option (List T)) (d : Fr → Res (List Nat)) (e : Fr → Res (List T)) : Fr → bT := fun ρ => match ρ[j]? with
 | some (some t0) => match d ρ with
  | .ok p => match lG p t0 with
   | some (.lst true us) => match e ρ with
    | .ok ts => match f us ts with
     | some us' => aa2 j p us' (kills mv ρ)
     | none => .no
    | .ex x => .ex x
    | .no => .no
   | _ => .no
  | .ex x => .ex x
  | .no => .no
 | _ => .no
theorem cl7 {j : Nat} {mv : List Nat} {r : V → List V → Hp → VK → Prop} {f : List T → List T → Option (List T)} {to : TE} {ta : TA} {d : Fr → Res (List Nat)} {e : Fr → Res (List T)} (hr : bq2 K cn r f) (hd : RP Jn K cn E j to d) (he : RA Jn K cn E mv ta e) (hj : mv.contains j = false := by rfl) : RS Jn K cn E (be4 (tBM K "list" r to ta)) (yJ j mv f d e) := fun As H Z ρ σ F D w => by
 unfold yJ at w
 cases e1 : ρ[j]? with
 | none => rw [e1] at w; exact w.elim
 | some o =>
  rw [e1] at w
  cases o with
  | none => exact w.elim
  | some t0 =>
   obtain ⟨v0, e2, r0⟩ := F.sl.get e1
   refine hd As H Z ρ σ F t0 v0 e1 e2 r0 _ ?_
   simp only at w
   cases ed : d ρ with
   | ok p =>
    rw [ed] at w
    intro u v B H1 Z1 m1 hn pl
    simp only [hn] at w
    split at w
    · next us hq =>
      cases hq
      have q := pl.rep
      simp only [Rep] at q
      obtain ⟨a, ws, C0, rfl, rfl, ea, rs⟩ := q
      refine ⟨.inl ⟨rfl, ws, SqL.of ea⟩, he As H1 Z1 ρ σ (F.mo m1) _ ?_⟩
      cases ee : e ρ with
      | ok ts =>
       rw [ee] at w
       intro vs H2 Z2 C p2
       simp only at w
       cases ef : f us ts with
       | none => rw [ef] at w; exact w.elim
       | some us' =>
        rw [ef] at w
        simp only at w
        have pl2 := pl.mo p2.mo.same p2.mo.zz
        have ea2 := p2.mo.same _ _ ea
        have rs2 := rs.same p2.mo.same p2.mo.zz
        have m2 := m1.trans p2.mo
        have F2 := (F.mo m2).kills mv
        have gD : (gA mv As).getD j [] = As.getD j [] := vP mv hj As
        have pl3 : Plug K cn H2 Z2 t0 v0 ((gA mv As).getD j []) p (.lst true us) (.ref a) (a :: C0) := by rw [gD]; exact pl2
        have ndB : (a :: C0).Nodup := (uT F.nd j).sublist pl.sub
        have c0A : ∀ x ∈ C0, x ∈ As.getD j [] := fun x hx => pl.sub.mem (List.mem_cons_of_mem _ hx)
        have cOut : ∀ x ∈ C, x ∉ (gA mv As).flatten := fun x hx hA => by
         rcases p2.bn x hx with z | ⟨i, hi, z⟩
         · obtain ⟨o, ho, _⟩ := (F.mo m1).sl.dom x (fV hA)
           rw [ho] at z; cases z
         · exact yQ F.nd hi z hA
        have c0In : ∀ x ∈ C0, x ∈ (gA mv As).flatten := fun x hx => bD (i := j) (by rw [gD]; exact c0A x hx)
        have ndC : (C0 ++ C).Nodup := by
         rw [List.nodup_append]
         exact ⟨(List.nodup_cons.mp ndB).2, p2.nd, fun x hx y hy e => by subst e; exact cOut x hy (c0In x hx)⟩
        obtain ⟨ws', D', r', nd', in', hQ⟩ := hr H2 Z2 a us ts us' ws vs C0 C ea2 rs2 p2.rep ndC ef
        refine hQ _ fun _ => ?_
        refine bl6 (As := As) (H := H) (Z := Z) (E := E) F2 (by rw [yI mv hj]; exact e1) e2 pl3 rfl rfl ea2 (us' := us') (ws' := ws') (C := D') r' nd' ?_ ?_ ?_ ?_ w
        · intro x hx
          rcases in' x hx with hx | hx
          · exact F2.nz x (c0In x hx)
          · exact p2.bz x hx
        · intro x hx hA
          rcases in' x hx with hx | hx
          · exact hx
          · exact absurd hA (cOut x hx)
        · exact ⟨fun b o q _ => m2.same b o q, fun b hb => .inl (fV hb), m2.zz, fun b h => (m2.zn b h).imp_right .inr, fun b h => m2.same.free h⟩
        · intro x hx
          rcases in' x hx with hx | hx
          · exact .inl (bD (c0A x hx))
          · rcases p2.bn x hx with z | ⟨i, hi, z⟩
            · exact .inr (m1.same.free z)
            · exact .inl (bD z)
      | ex x => rw [ee] at w; exact WpX.ev w m1.ev
      | no => rw [ee] at w; exact w.elim
    · exact w.elim
   | ex x => rw [ed] at w; exact w
   | no => rw [ed] at w; exact w
def ao7 (us : List T) : List T → Option (List T)
 | [.lst true zs] => if us.length + zs.length ≤ sizeLine then some (us ++ zs) else none
 | _ => none
def bc3 (us : List T) : List T → Option (List T)
 | [.int i, t] => if 0 ≤ i ∧ i.toNat ≤ us.length ∧ us.length < sizeLine then some (us.take i.toNat ++ t :: us.drop i.toNat) else none
 | _ => none
def as9 (_ : List T) : List T → Option (List T)
 | [] => some []
 | _ => none
theorem dg3 : bq2 K cn bf2 ao7 := fun H Z a us ts us' ws vs C0 C ha r0 r1 nd h => by
 unfold ao7 at h
 split at h
 · next zs =>
   split at h
   · next hl =>
     cases h
     simp only [Reps] at r1
     obtain ⟨v, r', B1, C1, rfl, rfl, ra, rfl, rfl⟩ := r1
     simp only [Rep] at ra
     obtain ⟨b, zs', B, rfl, rfl, eb, rz⟩ := ra
     simp only [List.append_nil] at nd ⊢
     refine ⟨ws ++ zs', C0 ++ B, Reps.append us r0 rz, nd.sublist ((List.sublist_cons_self b B).append_left C0), fun x hx => (List.mem_append.mp hx).imp_right (List.mem_cons_of_mem _), fun Q hQ => ⟨a, b, ws, zs', rfl, rfl, ha, eb, ?_, hQ _⟩⟩
     rw [Reps.length us r0, Reps.length zs rz]
     exact hl
   · cases h
 · cases h
theorem Reps.split {H : Hp} {Z : Addr → Prop} : ∀ (n : Nat) (us : List T) {ws : List V} {C : List Addr}, Reps K cn H Z us ws C → ∃ C1 C2, C = C1 ++ C2 ∧ Reps K cn H Z (us.take n) (ws.take n) C1 ∧ Reps K cn H Z (us.drop n) (ws.drop n) C2
 | 0, us, ws, C, r => ⟨[], C, rfl, by simp [Reps], by simpa using r⟩
 | n + 1, [], ws, C, r => by
  simp only [Reps] at r
  obtain ⟨rfl, rfl⟩ := r
  exact ⟨[], [], rfl, by simp [Reps], by simp [Reps]⟩
 | n + 1, t :: us, ws, C, r => by
  simp only [Reps] at r
  obtain ⟨v, r', B1, B2, rfl, rfl, h1, h2⟩ := r
  obtain ⟨C1, C2, rfl, a1, a2⟩ := Reps.split n us h2
  refine ⟨B1 ++ C1, C2, by simp, ?_, by simpa using a2⟩
  simp only [List.take_succ_cons, Reps]
  exact ⟨v, r'.take n, B1, C1, rfl, rfl, h1, a1⟩
theorem dn0 : bq2 K cn bj2 bc3 := fun H Z a us ts us' ws vs C0 C ha r0 r1 nd h => by
 unfold bc3 at h
 split at h
 · next i t =>
   split at h
   · next hl =>
     cases h
     obtain ⟨h0, h1, h2⟩ := hl
     simp only [Reps] at r1
     obtain ⟨v, r', B1, D1, rfl, rfl, ra, v2, r2, B2, D2, rfl, rfl, rb, rfl, rfl⟩ := r1
     simp only [Rep] at ra
     obtain ⟨rfl, rfl⟩ := ra
     obtain ⟨C1, C2, rfl, a1, a2⟩ := Reps.split i.toNat us r0
     simp only [List.append_nil, List.nil_append] at nd ⊢
     have pm : (C1 ++ (B2 ++ C2)).Perm ((C1 ++ C2) ++ B2) := by
      rw [List.append_assoc]
      exact List.Perm.append_left C1 List.perm_append_comm
     refine ⟨ws.take i.toNat ++ v2 :: ws.drop i.toNat, C1 ++ (B2 ++ C2), Reps.append _ a1 ?_, pm.nodup_iff.mpr nd, fun x hx => List.mem_append.mp (pm.mem_iff.mp hx), fun Q hQ => ⟨a, ws, i, v2, rfl, rfl, ha, h0, ?_, ?_, hQ _⟩⟩
     · simp only [Reps]
       exact ⟨v2, ws.drop i.toNat, B2, C2, rfl, rfl, rb, a2⟩
     · rw [Reps.length us r0]; exact h1
     · rw [Reps.length us r0]; exact h2
   · cases h
 · cases h
theorem dc2 : bq2 K cn bo5 as9 := fun H Z a us ts us' ws vs C0 C ha r0 r1 nd h => by
 unfold as9 at h
 split at h
 · cases h
   simp only [Reps] at r1
   obtain ⟨rfl, rfl⟩ := r1
   exact ⟨[], [], Reps.nil, List.nodup_nil, dJ, fun Q hQ => ⟨a, ws, rfl, rfl, ha, hQ _⟩⟩
 · cases h
def frz1 : T → T
 | .lst o xs => .lst o (frzs xs)
 | t => t
def wQ (d : Fr → Res T) : Fr → Res T := fun ρ => (d ρ).bind fun t => .ok (frz1 t)
theorem RE.frz1 {te : TE} {d : Fr → Res T} (h : RE Jn K cn E [] te d) : RE Jn K cn E [] te (wQ d) := fun As H Z ρ σ F Q w => h As H Z ρ σ F Q (by
 unfold wQ at w
 cases e : d ρ with
 | ok t =>
  rw [e] at w
  intro v H' Z' B p
  simp only [Res.bind] at w
  cases t with
  | lst o xs =>
   cases o with
   | true =>
    have q := p.rep
    simp only [Rep] at q
    obtain ⟨a, vs, C, rfl, rfl, ea, rs⟩ := q
    have hC : ∀ x ∈ C, H x = none := fun x hx => (p.bn x (List.mem_cons_of_mem _ hx)).resolve_right (fun ⟨i, hi, _⟩ => by cases hi)
    refine w (.ref a) H' (fun x => Z' x ∨ x ∈ C) [a] ⟨p.same, fun x z => .inl (p.zz x z), fun x z => ?_, fun x z => ?_, ?_, by simp, fun b hb => ?_, fun b hb => ?_⟩
    · rcases z with z | z
      · exact p.zn x z
      · exact .inr (hC x z)
    · rcases z with z | z
      · exact p.zi x z
      · obtain ⟨o, q, _⟩ := Reps.dom xs rs x z
        rw [q]
        exact (fun z => nomatch z)
    · simp only [TL.frz1, Rep]
      exact ⟨a, vs, [], rfl, rfl, ea, Reps.frz xs rs (fun _ z => .inl z) (fun _ z => .inr z)⟩
    · have hb : b = a := by simpa using hb
      subst hb
      rintro (z | z)
      · exact p.bz b List.mem_cons_self z
      · exact (List.nodup_cons.mp p.nd).1 z
    · have hb : b = a := by simpa using hb
      subst hb
      exact p.bn b List.mem_cons_self
   | false =>
    have q := p.rep
    simp only [Rep] at q
    obtain ⟨a, vs, rfl, rfl, ea, rs⟩ := q
    refine w (.ref a) H' Z' [] ⟨p.same, p.zz, p.zn, p.zi, ?_, List.nodup_nil, dJ, dJ⟩
    simp only [TL.frz1, Rep]
    exact ⟨a, vs, rfl, trivial, ea, Reps.frz xs rs (fun _ z => z) dJ⟩
  | _ => exact w v H' Z' B p
 | ex x => rw [e] at w; exact w
 | no => rw [e] at w; exact w)
def wZ (t u : T) : Res T := if tQ t = true ∧ tQ u = true then match xB bV t u with
 | some b => .ok (.bl (!b))
 | none => .no
 else neT t u
theorem dv0 : mS K cn (bc8 K bV) wZ := fun E As H Z t u x y A B Q zi rt ru w => by
 unfold wZ at w
 split at w
 · next hs =>
   obtain ⟨a, rfl⟩ := rt.seqRef hs.1
   obtain ⟨b, rfl⟩ := ru.seqRef hs.2
   cases e : xB bV t u with
   | none => rw [e] at w; exact w.elim
   | some k =>
    rw [e] at w
    exact .inr ⟨a, b, k, rfl, rfl, ab9 bV t u rt ru e, WpE.bl w zi⟩
 · exact .inl (dd5 E As H Z t u x y A B Q zi rt ru w)
def wR : List Bool → Option Nat
 | [] => none
 | true :: _ => some 0
 | false :: bs => (wR bs).map (· + 1)
theorem bd2 : ∀ (bs : List Bool) {j : Nat}, wR bs = some j → bs[j]? = some true ∧ ∀ m, m < j → bs[m]? = some false
 | [], _, h => by cases h
 | true :: bs, j, h => by cases h; exact ⟨rfl, fun m hm => by omega⟩
 | false :: bs, j, h => by
  simp only [wR] at h
  cases e : wR bs with
  | none => rw [e] at h; cases h
  | some k =>
   rw [e] at h
   cases h
   obtain ⟨h1, h2⟩ := bd2 bs e
   refine ⟨by simpa using h1, fun m hm => ?_⟩
   cases m with
   | zero => rfl
   | succ m =>
    have hm : m + 1 < k + 1 := hm
    simpa using h2 m (by omega)
def uU : T → List T → Res T
 | .lst _ us, [t] => match wK t us with
  | some es => match wR es with
   | some j => .ok (.int j)
   | none => .no
  | none => .no
 | _, _ => .no
theorem cr3 : RMR K cn "list" (al9 K bV) uU := fun E As H Z t ts x xs A B Q zi rt r w => by
 unfold uU at w
 split at w
 · next o us t =>
   obtain ⟨a, vs, C, rfl, s, rs, _⟩ := rt.lstSq
   simp only [Reps] at r
   obtain ⟨v, r', B1, C1, rfl, rfl, ra, rfl, rfl⟩ := r
   cases e : wK t us with
   | none => rw [e] at w; exact w.elim
   | some es =>
    rw [e] at w
    simp only at w
    cases e2 : wR es with
    | none => rw [e2] at w; exact w.elim
    | some j =>
     rw [e2] at w
     obtain ⟨h1, h2⟩ := bd2 es e2
     obtain ⟨g1, g2⟩ := zL ra us rs e
     exact ⟨a, vs, v, rfl, rfl, s.sq, es, j, g1, g2, h1, h2, w.val zi (jD _)⟩
 · exact w.elim
end
end TL
namespace L2
open PySem PySem.Spec PyProof.Rows
inductive DRows (w : World) : List DictEntry → List (Str × Value) → Prop
 | nil : DRows w [] []
 | cons {x : Str} {t : Tok} {v : Value} {es : List DictEntry} {kvs : List (Str × Value)} : DRows w es kvs → DRows w (⟨hashStr w x, .str x t, v⟩ :: es) ((x, v) :: kvs)
structure DicK (w : World) (K : PySem.W.Frag) (a : Addr) (kvs : List (Str × Value)) : Prop where
 ex : ∃ o es ep, K.lookup a = some o ∧ o.ExactDict ∧ o.data = .dict es ep ∧ DRows w es.toList kvs
 nd : (kvs.map (·.1)).Nodup
 sm : (a == sysModules) = false
theorem DRows.keys {P : Program} {w : World} : ∀ {es : List DictEntry} {kvs : List (Str × Value)}, DRows w es kvs → (∀ e ∈ es, ∃ k, (strKind P w).is k e.key = true ∧ e.hash = (strKind P w).hash k) ∧ Pairs (strKind P w) es kvs
 | _, _, .nil => ⟨fun e h => (nomatch h), .nil⟩
 | _, _, @DRows.cons _ x t v es kvs r => by
  obtain ⟨h1, h2⟩ := DRows.keys (P := P) r
  refine ⟨fun e he => ?_, .cons (strKind_is P w x t) rfl h2⟩
  rcases List.mem_cons.mp he with rfl | he
  · exact ⟨x, strKind_is P w x t, rfl⟩
  · exact h1 e he
theorem DicK.dictOf {P : Program} {w : World} {K : PySem.W.Frag} {a : Addr} {kvs : List (Str × Value)} {h : Heap} (D : DicK w K a kvs) (X : K.In h) : h.DictOf (strKind P w) a kvs := by
 obtain ⟨o, es, ep, l, x, d, r⟩ := D.ex
 obtain ⟨h1, h2⟩ := DRows.keys (P := P) r
 exact ⟨o, es, ep, X a o l, x, d, fun e he => h1 e (by simpa using he), h2, D.nd⟩
theorem uD {x : Str} : ∀ (kvs : List (Str × Value)), valueAt kvs x = kvs.lookup x
  | [] => rfl
  | (y, v) :: kvs => by
    unfold valueAt
    rw [List.find?_cons, List.lookup_cons]
    by_cases e : y = x
    · subst e; simp
    · have e1 : (x == y) = false := by simpa using Ne.symm e
      have e2 : decide ((y, v).1 = x) = false := decide_eq_false e
      rw [e1, e2]
      exact uD kvs
structure wS (w : World) (K : PySem.W.Frag) (mg : Str → Option Value) (d : Str) (kvs : List (Str × Value)) : Prop where
 ex : ∃ a, mg d = some (.ref a) ∧ DicK w K a kvs
def cp2 (kvs : List (Str × Value)) (ty : TE) : TE := fun σ H Q => ty σ H fun y H1 => ∃ x u v, y = .str x ∧ kvs.lookup x = some u ∧ RelV v u ∧ Q v H1
def cu6 (neg : Bool) (kvs : List (Str × Value)) (ty : TE) : TE := fun σ H Q => ty σ H fun y H1 => ∃ x, y = .str x ∧ Q (.bl (if neg = true then !(kvs.lookup x).isSome else (kvs.lookup x).isSome)) H1
theorem cm2 {P : Program} {w : World} {x : Str} {u : Value} (r : RelV (.str x) u) : (strKind P w).is x u = true := by
 obtain ⟨t, rfl⟩ := r
 exact strKind_is P w x t
def bs2 (i : Expr) : Prop := ∀ ov iv, subscripted i false ov iv = operate [ov, iv] (getItem ov iv)
theorem cm5 {prog : Program} {w : World} {A : Around} {E : Value → Shared → Prop} {s : Shared} {env : Env} {value slice : Expr} {pos : Pos} {T id : String} {Q : Value → Shared → Prop}
 (hl : typeLookup (.type T) "__getitem__" = pure (some (.builtin id))) (hs : bs2 slice)
 (h : wpAny (model prog w) A (eval value env) (fun o s₁ => wpAny (model prog w) A (eval slice env) (fun i s₂ => s₂.TypeIs o T ∧ wpAny (model prog w) A (getItem o i) Q E s₂) E s₁) E s) :
 wpAny (model prog w) A (eval (.Subscript value slice pos) env) Q E s := by
 refine Subscript_ (wpAny_mono h (fun o s₁ h₁ => wpAny_mono h₁ (fun i s₂ h₂ => ?_) fun _ _ x => x) fun _ _ x => x)
 obtain ⟨hT, h₂⟩ := h₂
 unfold subscriptTail
 refine wpAny_bind ?_
 rw [getitemInPython_of_ne hT.not_modules]
 refine wpAny_bind (wpAny_specialOf hT hl ?_)
 have bY : wpAny (model prog w) A (subscripted slice false o i) (fun r s₃ => wpAny (model prog w) A (letTemporaryGo value o r >>= fun _ => pure r) Q E s₃) E s₂ := by
  rw [hs o i]
  exact wpAny_operating (wpAny_mono h₂ (fun r s₃ h₃ => wpAny_bind (wpAny_letTemporaryGo (wpAny_pure h₃))) fun _ _ x => x)
 first
  | exact wpAny_pure (wpAny_bind bY)
  | exact wpAny_bind (wpAny_pure (wpAny_bind bY))
  | exact wpAny_bind bY
section
variable {X : Cx}
theorem br1 {d : Str} {kvs : List (Str × Value)} {i : Expr} {ty : TE} {p pos : Pos} {pins : List (Addr × Obj)} {s : Shared} {σ : St} {H : Hp} {W : VK} {R : Value → Shared → Prop} (hD : wS X.w X.K X.mg d kvs) (hi : PE X i ty) (hg : Gl X d) (hdb : (d == ("__debug__" : Str)) = false) (hs : bs2 i) (I : Inv X pins σ H s)
 (h : ty σ H W) (hW : ∀ y H1, W y H1 → ∃ x u, y = .str x ∧ kvs.lookup x = some u ∧ ∀ s1, Inv X pins σ H1 s1 → R u s1) : wpAny (model X.prog X.w) X.A (eval (.Subscript (.Name d p) i pos) X.env) R X.xe s := by
 obtain ⟨a, hm, D⟩ := hD.ex
 refine cm5 PySem.F.slot_dict_getitem.lookup hs (uQ I hg hm ?_ hdb)
 refine cI (hi pins s σ H _ I h) fun iv s2 ⟨y, H2, I2, ry, q⟩ => ?_
 obtain ⟨x, u, ey, el, q2⟩ := hW y H2 q
 subst ey
 have dd := D.dictOf (P := X.prog) I2.kIn
 exact ⟨dd.typeIs, wpAny_getItem_of (cm2 ry) dd.mapOf (by rw [uD]; exact el) (q2 _ (I2.tok _))⟩
theorem rW {d : Str} {kvs : List (Str × Value)} {i : Expr} {ty : TE} {p pos : Pos} (hD : wS X.w X.K X.mg d kvs) (hi : PE X i ty) (hg : Gl X d := by rfl) (hdb : (d == ("__debug__" : Str)) = false := by decide) (hs : bs2 i := by intro _ _; rfl) : PE X (.Subscript (.Name d p) i pos) (cp2 kvs ty) := by
 intro pins s σ H Q I h
 refine br1 hD hi hg hdb hs I h fun y H1 ⟨x, u, v, ey, el, rv, q⟩ => ⟨x, u, ey, el, fun s1 I1 => ⟨v, H1, I1, rv, q⟩⟩
theorem bd5 {d : Str} {kvs : List (Str × Value)} {i : Expr} {ty : TE} {p : Pos} (hD : wS X.w X.K X.mg d kvs) (hi : PE X i ty) (hg : Gl X d := by rfl) (hdb : (d == ("__debug__" : Str)) = false := by decide) : PC X .NotIn i (.Name d p) (cu6 true kvs ty) := by
 intro pins s σ H Q I h
 obtain ⟨a, hm, D⟩ := hD.ex
 refine cI (hi pins s σ H _ I h) fun iv s2 ⟨y, H2, I2, ry, x, ey, q⟩ => uQ I2 hg hm ?_ hdb
 subst ey
 have dd := D.dictOf (P := X.prog) I2.kIn
 exact wpAny_notIn_of (cm2 ry) D.sm dd.mapOf ⟨.bl (!(valueAt kvs x).isSome), H2, I2.tok _, rfl, by rw [uD]; exact q⟩
def by5 (tab : List (Str × Sp)) (ty : TE) (ta : TA) : TE := fun σ H Q => ty σ H fun y H1 => ∃ z sp, y = .str z ∧ (z, sp) ∈ tab ∧ ta σ H1 fun vs H2 => sp vs H2 Q E0
structure bm2 (P : Program) (w : World) (K : PySem.W.Frag) (mg : Str → Option Value) (base : Heap) (k : Nat) (d : Str) (tab : List (Str × Sp)) : Prop where
 ex : ∃ kvs, wS w K mg d kvs ∧ ∀ q ∈ tab, ∃ f fd ps, kvs.lookup q.1 = some (.ref f) ∧ FnOk P w K mg base jQ k f fd ps q.2 ∧ Binds K fd ps [] ∧ PySem.W.keepIn K (.ref f) = true
theorem bu9 {k : Nat} {d : Str} {tab : List (Str × Sp)} {i e : Expr} {es : List Expr} {ty : TE} {t : TA} {p p2 pos : Pos} (hD : bm2 X.prog X.w X.K X.mg X.base k d tab) (hr : Room k X.A) (hi : PE X i ty) (ha : PA X (e :: es) t) (hg : Gl X d := by rfl) (hdb : (d == ("__debug__" : Str)) = false := by decide) (hs : bs2 i := by intro _ _; rfl)
 (hst : starEach (e :: es) X.env = (false, eval e X.env) :: starEach es X.env := by rfl) (hpl : (backTo pos (starEach es X.env)).any (·.1) = false := by rfl) : PE X (.Call (.Subscript (.Name d p) i p2) (e :: es) [] pos) (by5 tab ty t) := by
 obtain ⟨kvs, D, hT⟩ := hD.ex
 intro pins s σ H Q I h
 refine Call_ (br1 D hi hg hdb hs I h fun y H1 ⟨z, sp, ey, hq, q⟩ => ?_)
 obtain ⟨f, fd, ps, el, F, hb, hk⟩ := hT _ hq
 refine ⟨z, .ref f, ey, el, fun s1 I1 => ?_⟩
 refine PySem.W.callWith_K (first := []) (h₀ := X.base) I.ok.mod.kin hk (cI (ha pos pins s1 σ H1 _ I1 q) fun us s2 ⟨vs, H2, I2, r, q2⟩ => ⟨I2.kIn, ?_⟩) hst hpl
 exact ak2 (us := us) (vs := vs) F hr hb .nil ar2 I2 r (by rw [List.append_nil]; exact q2)
def cd2 : List V → Hp → VK → Prop := fun xs H Q => (∃ i, xs = [.int i] ∧ i.natAbs.log2 < 1920 ∧ Q (.str (toString i)) H) ∨ ∃ x, xs = [.str x] ∧ Q (.str x) H
theorem ba6 : CallR X (.type "str") cd2 := by
 intro pins s σ H xs us Q I r h
 rcases h with h | ⟨x, rfl, q⟩
 · exact ap8 pins s σ H xs us Q I r h
 · obtain ⟨u, rfl, t, rfl⟩ := ag2 r
   exact PySem.P.str_of_str ⟨.str _, H, I, ⟨_, rfl⟩, q⟩
def cb2 (K : PySem.W.Frag) : List V → Hp → VK → Prop := fun xs H Q => (∃ x T tx b, xs = [x, .ty T] ∧ TyN K H x tx ∧ fN tx T b ∧ Q (.bl b) H) ∨ ∃ T, xs = [.non, .ty T] ∧ (T = "int" ∨ T = "bool" ∨ T = "str" ∨ T = "list" ∨ T = "tuple") ∧ Q (.bl false) H
theorem lL (K : PySem.W.Frag) (hK : X.K = K := by rfl) : CallR X (.builtin "isinstance") (cb2 K) := by
 subst hK
 intro pins s σ H xs us Q I r h
 rcases h with h | ⟨T, rfl, hT, q⟩
 · exact cj0 pins s σ H xs us Q I r h
 · obtain ⟨u, v, rfl, rx, rT⟩ := r.two
   obtain rfl : v = Value.type T := rT
   obtain rfl : u = Value.none := rx
   have fin2 : EP X pins σ Q (.bool false) { s with toks := s.toks + 1 } := ⟨.bl false, H, I.tok _, rfl, q⟩
   rcases hT with rfl | rfl | rfl | rfl | rfl
   · exact IsiPair.NoneType_int fin2
   · exact IsiPair.NoneType_bool fin2
   · exact IsiPair.NoneType_str fin2
   · exact IsiPair.NoneType_list fin2
   · exact IsiPair.NoneType_tuple fin2
theorem fS (K : PySem.W.Frag) {e : Expr} {f : Str} {ta : TE} {pos : Pos} (he : PE X e ta) (hb : attributeBase e f X.env (eval e X.env) = eval e X.env := by rfl) (hK : X.K = K := by rfl) : PE X (.Attribute e f pos) (bq9 K ta f) := by
 subst hK
 exact ct9 he hb
theorem lQ (K : PySem.W.Frag) {o value : Expr} {f : Str} {ta tv : TE} {pos pos' : Pos} (ha : PE X o ta) (hv : PE X value tv) (hs : swapsWith value (some (.Attribute o f pos')) pos.line X.env = pure false := by rfl) (hK : X.K = K := by rfl) : PS X (.Assign [.Attribute o f pos'] value pos) (cm0 K ta tv f) := by
 subst hK
 exact ch8 ha hv hs
theorem ag4 (K : PySem.W.Frag) {es : List Expr} {n : Nat} {tpos : Pos} {a b : Expr} {ta : TA} {p pos : Pos} (hm : X.mg "zip" = none) (ha : PA X [a, b] ta) (hg : Gl X "zip" := by rfl) (hs : starEach [a, b] X.env = [(false, eval a X.env), (false, eval b X.env)] := by rfl) (hs2 : starEach [b] X.env = [(false, eval b X.env)] := by rfl) (hK : X.K = K := by rfl) :
 PI X (.Tuple es n tpos) (.Call (.Name "zip" p) [a, b] [] pos) (bw7 K ta) := by
 subst hK
 exact cu9 hg hm ha hs hs2
theorem bk8 (K : PySem.W.Frag) {es : List Expr} {n : Nat} {tpos : Pos} {a : Expr} {ta : TA} {p pos : Pos} (hm : X.mg "enumerate" = none) (ha : PA X [a] ta) (hg : Gl X "enumerate" := by rfl) (hs : starEach [a] X.env = [(false, eval a X.env)] := by rfl) (hK : X.K = K := by rfl) :
 PI X (.Tuple es n tpos) (.Call (.Name "enumerate" p) [a] [] pos) (bp3 K ta) := by
 subst hK
 exact cf3 hg hm ha hs
theorem ce3 (K : PySem.W.Frag) {o : Expr} {to : TE} {name : Str} {apos cpos : Pos} {T id : String} {r : V → List V → Hp → VK → Prop} (pa : PlainAttrs T) (slot : Slot T name id) (hty : typeOf (.builtin id) = pure (.type "method_descriptor")) (hm : MtR X id r) (ho : PE X o to)
 (hbase : attributeBase o name X.env (eval o X.env) = eval o X.env := by rfl) (hline : (apos.endLine == cpos.line) = true := by rfl) (hK : X.K = K := by rfl) : PE X (.Call (.Attribute o name apos) [] [] cpos) (tBM K T r to as3) := by
 subst hK
 exact cj8 pa slot hty hm ho hbase hline
theorem bj6 (K : PySem.W.Frag) {n : Nat} {k : Nat} (hr : Room k X.A) (hn : n ≤ 60 := by decide) (hK : X.K = K := by rfl) : MtR X "list.index" (al9 K n) := by
 subst hK
 exact cb1 (Nat.lt_of_le_of_lt (by omega) hr.units)
end
structure eE (K : PySem.W.Frag) (C : Addr) (m qual : Str) (st : Stmt) : Prop where
 ex : ∃ f fd, bt8 K C m f ∧ Fun K m qual st f fd
structure jF (K : PySem.W.Frag) (mg : Str → Option Value) (x : Str) (C : Addr) (qual : Str) (st : Stmt) : Prop where
 ex : ∃ f fd, Mk K C f ∧ Fun K "__init__" qual st f fd
 mg : mg x = some (.ref C)
theorem eZ {K : PySem.W.Frag} {C f : Addr} {m qual : Str} {st : Stmt} {oc : Value} {od an : Option Addr} {osl : Array (Option Value)} {kV doc pm cdv ct : Value} (a : PySem.W.findIn K (.ref C) m = some (some (.ref f))) (b : PySem.W.isFn K (.ref f) = true)
 (l : K.lookup f = some ⟨oc, od, .func (PySem.W.fnOf m qual (iK st) (dN st) (aN st) .none kV doc pm an cdv ct), osl⟩) (c : PySem.W.codeIn K cdv qual = true) (k : PySem.W.keepIn K (.ref f) = true) : eE K C m qual st :=
 ⟨f, _, ⟨a, b, k⟩, au1 l c k⟩
theorem lU {K : PySem.W.Frag} {h : Heap} {mg : Str → Option Value} (X : K.In h) (G : h.Ns mainGlobals mg) {x : Str} {C f : Addr} {qual : Str} {st : Stmt} {oc : Value} {od an : Option Addr} {osl : Array (Option Value)} {kV doc pm cdv ct : Value} (g : PySem.W.nsIn K mainGlobals x = some (some (.ref C)))
 (mk : PySem.W.makesIn K C = true) (a : PySem.W.findIn K (.ref C) "__init__" = some (some (.ref f))) (b : PySem.W.isFn K (.ref f) = true) (kc : PySem.W.keepIn K (.ref C) = true)
 (l : K.lookup f = some ⟨oc, od, .func (PySem.W.fnOf "__init__" qual (iK st) (dN st) (aN st) .none kV doc pm an cdv ct), osl⟩) (c : PySem.W.codeIn K cdv qual = true) (k : PySem.W.keepIn K (.ref f) = true) : jF K mg x C qual st :=
 ⟨⟨f, _, ⟨mk, a, b, kc⟩, au1 l c k⟩, PySem.W.mg_of X G g⟩
theorem oB {K : PySem.W.Frag} {C : Addr} (a : PySem.W.plainGet K C Str.empty = true) (b : PySem.W.hasDictIn K C = true) (c : PySem.W.plainOver K C = true) (d : PySem.W.findIn K (.ref C) "__setattr__" = some (some (.builtin "object.__setattr__"))) : Cls K C := ⟨a, b, c, d⟩
theorem al4 {w : World} {K : PySem.W.Frag} {h : Heap} {mg : Str → Option Value} (X : K.In h) (G : h.Ns mainGlobals mg) {d : Str} {a : Addr} {es : Array DictEntry} {ep : Nat} {kvs : List (Str × Value)} (g : PySem.W.nsIn K mainGlobals d = some (some (.ref a)))
 (l : K.lookup a = some ⟨.type "dict", none, .dict es ep, #[]⟩) (r : DRows w es.toList kvs) (nd : (kvs.map (·.1)).Nodup) (sm : (a == sysModules) = false) : wS w K mg d kvs :=
 ⟨a, PySem.W.mg_of X G g, ⟨_, es, ep, l, ⟨rfl, rfl, rfl⟩, rfl, r⟩, nd, sm⟩
end L2
namespace TL
open PySem PySem.Spec PyProof.Rows L2
section
variable {Jn : gL} {K : PySem.W.Frag} {cn : Str → Option Addr} {E : XK}
def GD (K : PySem.W.Frag) (cn : Str → Option Addr) (kts : List (Str × T)) (kvs : List (Str × Value)) : Prop := Paired (fun (p : Str × T) (q : Str × Value) => p.1 = q.1 ∧ ∃ v, RelV v q.2 ∧ ∀ H Z, Rep K cn H Z p.2 v []) kts kvs
theorem GD.lookup {kts : List (Str × T)} {kvs : List (Str × Value)} (g : GD K cn kts kvs) (z : Str) : match kts.lookup z with
 | some t => ∃ u v, kvs.lookup z = some u ∧ RelV v u ∧ ∀ H Z, Rep K cn H Z t v []
 | none => kvs.lookup z = none := by
 unfold GD at g
 induction g with
 | nil => rfl
 | @cons a b l1 l2 h _ ih =>
  obtain ⟨x, t⟩ := a
  obtain ⟨y, u⟩ := b
  obtain ⟨rfl, v, rv, r⟩ := h
  rw [List.lookup_cons, List.lookup_cons]
  by_cases e : (z == x) = true
  · rw [e]; exact ⟨u, v, rfl, rv, r⟩
  · rw [Bool.not_eq_true] at e
    rw [e]
    exact ih
def wE (kts : List (Str × T)) : T → Res T
 | .str z => match kts.lookup z with
  | some t => .ok t
  | none => .no
 | _ => .no
def bv7 (neg : Bool) (kts : List (Str × T)) : T → Res T
 | .str z => .ok (.bl (if neg = true then !(kts.lookup z).isSome else (kts.lookup z).isSome))
 | _ => .no
theorem cw4 {kts : List (Str × T)} {kvs : List (Str × Value)} {ty : TE} {a : Fr → Res T} (g : GD K cn kts kvs) (ha : RB Jn K cn E ty a) : RE Jn K cn E [] (cp2 kvs ty) (eO (wE kts) a) := fun As H Z ρ σ F Q w => by
 unfold eO at w
 refine ha As H Z ρ σ F _ ?_
 cases e : a ρ with
 | ok t =>
  rw [e] at w
  intro v H1 Z1 B p
  simp only [Res.bind] at w
  cases t with
  | str z =>
   have hz := p.rep.str
   subst hz
   have gl := g.lookup z
   simp only [wE] at w
   cases el : kts.lookup z with
   | none => rw [el] at w; exact w.elim
   | some t =>
    rw [el] at w gl
    obtain ⟨u, v, hl, rv, r⟩ := gl
    exact ⟨z, u, v, rfl, hl, rv, WpE.val (WpE.mo F w p.mo) p.zi (r _ _)⟩
  | _ => exact w.elim
 | ex x => rw [e] at w; exact w
 | no => rw [e] at w; exact w
theorem cy3 {neg : Bool} {kts : List (Str × T)} {kvs : List (Str × Value)} {ty : TE} {a : Fr → Res T} (g : GD K cn kts kvs) (ha : RB Jn K cn E ty a) : RE Jn K cn E [] (cu6 neg kvs ty) (eO (bv7 neg kts) a) := fun As H Z ρ σ F Q w => by
 unfold eO at w
 refine ha As H Z ρ σ F _ ?_
 cases e : a ρ with
 | ok t =>
  rw [e] at w
  intro v H1 Z1 B p
  simp only [Res.bind] at w
  cases t with
  | str z =>
   have hz := p.rep.str
   subst hz
   have gl := g.lookup z
   have es : (kvs.lookup z).isSome = (kts.lookup z).isSome := by
    cases el : kts.lookup z with
    | none => rw [el] at gl; rw [show kvs.lookup z = none from gl]; rfl
    | some t => rw [el] at gl; obtain ⟨u, v, hl, _⟩ := gl; rw [hl]; rfl
   refine ⟨z, rfl, ?_⟩
   rw [es]
   exact WpE.bl (WpE.mo F w p.mo) p.zi
  | _ => exact w.elim
 | ex x => rw [e] at w; exact w
 | no => rw [e] at w; exact w
def aj1 (n : Nat) (tabs : List (Str × (List T → Res T))) (i : Fr → Res T) (r : Fr → Res (List T)) : Fr → Res T := fun ρ => (i ρ).bind fun t => match t with
 | .str z => match tabs.lookup z with
  | some G => (r ρ).bind fun ts => tP n G ts
  | none => .no
 | _ => .no
def bw2 (K : PySem.W.Frag) (cn : Str → Option Addr) (n : Nat) (tabs : List (Str × (List T → Res T))) : List (Str × Sp) := tabs.map fun p => (p.1, aV K cn n p.2)
theorem ae2 {α : Type} {z : Str} {a : α} : ∀ {l : List (Str × α)}, l.lookup z = some a → (z, a) ∈ l
  | [], h => by cases h
  | (y, b) :: l, h => by
    rw [List.lookup_cons] at h
    by_cases e : (z == y) = true
    · rw [e] at h
      cases h
      have : z = y := by simpa using e
      subst this
      exact List.mem_cons_self
    · rw [Bool.not_eq_true] at e
      rw [e] at h
      exact List.mem_cons_of_mem _ (ae2 h)
theorem bd8 {n : Nat} {tabs : List (Str × (List T → Res T))} {ty : TE} {ta : TA} {i : Fr → Res T} {a : Fr → Res (List T)} (hi : RB Jn K cn E ty i) (ha : uS Jn K cn E ta a) : RE Jn K cn E [] (by5 (bw2 K cn n tabs) ty ta) (aj1 n tabs i a) := fun As H Z ρ σ F Q w => by
 unfold aj1 at w
 refine hi As H Z ρ σ F _ ?_
 cases e : i ρ with
 | ok t =>
  rw [e] at w
  intro v H1 Z1 B p
  simp only [Res.bind] at w
  cases t with
  | str z =>
   have hz := p.rep.str
   subst hz
   simp only at w
   cases el : tabs.lookup z with
   | none => rw [el] at w; exact w.elim
   | some G =>
    rw [el] at w
    refine ⟨z, aV K cn n G, rfl, List.mem_map.mpr ⟨(z, G), ae2 el, rfl⟩, ?_⟩
    refine ha As H1 Z1 ρ σ (F.mo p.mo) _ ?_
    simp only at w
    cases e2 : a ρ with
    | ok ts =>
     rw [e2] at w
     intro vs H2 Z2 B2 m2 r2
     exact ao9 (p.mo.trans m2) r2 w
    | ex x => rw [e2] at w; exact WpX.ev w p.mo.ev
    | no => rw [e2] at w; exact w.elim
  | _ => exact w.elim
 | ex x => rw [e] at w; exact w
 | no => rw [e] at w; exact w
noncomputable def zK : List T → Res T
 | [.int i] => gate (i.natAbs.log2 < 1920) (.ok (.str (toString i)))
 | [.str x] => .ok (.str x)
 | _ => .no
theorem cn9 : uV K cn cd2 zK := fun E As H Z ts xs A Q zi r w => by
 unfold zK at w
 split at w
 · next i =>
   obtain ⟨v, rfl, rv⟩ := r.one1
   have := rv.int
   subst this
   obtain ⟨h, w⟩ := w.gate
   exact .inl ⟨i, rfl, h, w.val zi (yU _)⟩
 · next x =>
   obtain ⟨v, rfl, rv⟩ := r.one1
   have := rv.str
   subst this
   exact .inr ⟨x, rfl, w.val zi (yU _)⟩
 · exact w.elim
def gY : List T → Res T
 | [.non, .ty n] => if (n = "int" ∨ n = "bool" ∨ n = "str" ∨ n = "list" ∨ n = "tuple") then .ok (.bl false) else .no
 | ts => sG ts
theorem cf6 : uV K cn (cb2 K) gY := fun E As H Z ts xs A Q zi r w => by
 unfold gY at w
 split at w
 · next n =>
   obtain ⟨v, u, B, C, rfl, rfl, rv, ru⟩ := r.two2
   have := rv.non
   subst this
   simp only [Rep] at ru
   obtain ⟨rfl, rfl⟩ := ru
   split at w
   · next hn => exact .inr ⟨n, rfl, hn, WpE.bl w zi⟩
   · exact w.elim
 · exact .inl (dn1 E As H Z _ xs A Q zi r w)
inductive TupR : List T → List Value → Prop
 | nil : TupR [] []
 | str {x : Str} {t : Tok} {ts : List T} {us : List Value} : TupR ts us → TupR (.str x :: ts) (.str x t :: us)
 | int {x : Int} {t : Tok} {ts : List T} {us : List Value} : TupR ts us → TupR (.int x :: ts) (.int x t :: us)
theorem TupR.vals {ts : List T} {us : List Value} (h : TupR ts us) : ∃ vs, Vals vs us ∧ ∀ H Z, Reps K cn H Z ts vs [] := by
 induction h with
 | nil => exact ⟨[], .nil, fun _ _ => Reps.nil⟩
 | @str x t ts us _ ih =>
  obtain ⟨vs, h1, h2⟩ := ih
  refine ⟨.str x :: vs, .cons ⟨t, rfl⟩ h1, fun H Z => ?_⟩
  simp only [Reps]
  exact ⟨_, _, [], [], rfl, rfl, yU x, h2 H Z⟩
 | @int x t ts us _ ih =>
  obtain ⟨vs, h1, h2⟩ := ih
  refine ⟨.int x :: vs, .cons ⟨t, rfl⟩ h1, fun H Z => ?_⟩
  simp only [Reps]
  exact ⟨_, _, [], [], rfl, rfl, jD x, h2 H Z⟩
theorem jK {x : Str} {a : Addr} {oc : Option Addr} {sl : Array (Option Value)} {us : List Value} {n : Nat} {ts : List T} (l : K.lookup a = some ⟨.type "tuple", oc, .seq us.toArray n, sl⟩) (r : TupR ts us) (hz : us.length ≤ sizeLine) :
 (x, T.tup ts).1 = (x, Value.ref a).1 ∧ ∃ v, RelV v (x, Value.ref a).2 ∧ ∀ H Z, Rep K cn H Z (x, T.tup ts).2 v [] := by
 obtain ⟨vs, h1, h2⟩ := r.vals (K := K) (cn := cn)
 refine ⟨rfl, .ref a, rfl, fun H Z => ?_⟩
 simp only [Rep]
 exact ⟨a, vs, rfl, .inr ⟨_, us.toArray, n, l, rfl, rfl, by simpa using hz, by simpa using h1⟩, h2 H Z⟩
theorem dW {P : Program} {w : World} {mg : Str → Option Value} {base : Heap} {C : Addr} {m qual : Str} {st : Stmt} {N ps : List Str} {k : Nat} {d : Fr → bT} (F : eE K C m qual st) (c : Cls K C) (S : bE N ps (aN st))
 (hb : ∀ (kV doc pm : Value) (an : Option Addr) (cdv ct : Value) (us : List Value), us.length = ps.length → bindArgs (PySem.W.fnOf m qual (iK st) (dN st) (aN st) .none kV doc pm an cdv ct) ⟨us, []⟩ = pure (ps.zip us))
 (hbody : ∀ (f : Addr) (cdv : Value) (A : Around) (outer : List Env) (s : Shared) (H : Hp) (E : XK), Room k (A.deeper (envOfC qual (aN st) s.heap.objs.size f cdv)) →
  ∃ t, PSs (mO jQ P w K mg base N qual (aN st) f cdv A outer s H E).nox (dN st) t ∧ RS [] K cn E t d) {n : Nat} {G : List T → Res T} (hn : ps.length = n) (hG : ∀ ts, G ts = bY (d (cS N.length ts))) {k' : Nat} (hk : k + 1 ≤ k') : iZ P w K mg base k' C m (aV K cn n G) := by
 obtain ⟨f, fd, M, F⟩ := F.ex
 exact ⟨f, fd, ps, c, M, (ab4 F S (fun cdv A outer s H E hr => hbody f cdv A outer s H E hr) hn hG).mono hk, F.binds hb⟩
theorem iN {P : Program} {w : World} {mg : Str → Option Value} {base : Heap} {x c : Str} {C : Addr} {qual : Str} {st : Stmt} {N ps : List Str} {k : Nat} {d : Fr → bT} (F : jF K mg x C qual st) (S : bE N ps (aN st))
 (hb : ∀ (kV doc pm : Value) (an : Option Addr) (cdv ct : Value) (us : List Value), us.length = ps.length → bindArgs (PySem.W.fnOf "__init__" qual (iK st) (dN st) (aN st) .none kV doc pm an cdv ct) ⟨us, []⟩ = pure (ps.zip us))
 (hbody : ∀ (f y : Addr) (cdv : Value) (A : Around) (outer : List Env) (s : Shared) (H : Hp) (E : XK), Room k (A.deeper (envOfC qual (aN st) s.heap.objs.size f cdv)) →
  ∃ t, PSs (mO jQ P w K mg base N qual (aN st) f cdv A outer s H E).nox (dN st) t ∧ RS [(0, .ref y)] K cn E t d) {n : Nat} {G : List T → Res T} (hn : ps.length = n + 1) (hG : ∀ ts, G ts = jG (d (cS N.length (.ins true c [] [] :: ts)))) : nU P w K mg base (k + 1) x C (mT K cn c n G) := by
 obtain ⟨f, fd, M, F'⟩ := F.ex
 exact ⟨f, fd, ps, M, cy4 F' S (fun y cdv A outer s H E hr => hbody f y cdv A outer s H E hr) hn hG, F.mg, F'.binds hb⟩
end
end TL
namespace L2
open PySem PySem.Spec PyProof.Rows
theorem bj8 : bootBuiltins "set" = some (.type "set") := by decide +kernel
def aq1 (ss : List Str) : Nat := (jV (fun i => ss.getD i Str.empty) ss.length).length
def bx1 (K : PySem.W.Frag) : List V → Hp → VK → Prop := fun xs H Q => ∃ p ss, xs = [.ref p] ∧ SqL K H p (ss.map V.str) ∧ ss.length ≤ 1000 ∧ Q (.int (aq1 ss)) H
section
variable {X : Cx}
theorem bf5 (K : PySem.W.Frag) {e : Expr} {t : TA} {p p2 pos pos2 : Pos} (hm : X.mg "len" = none) (hm2 : X.mg "set" = none) (ha : PA X [e] t) (hc : X.calm = true := by rfl) (hg : Gl X "len" := by rfl) (hg2 : Gl X "set" := by rfl) (he : starEach [e] X.env = [(false, eval e X.env)] := by rfl) (hK : X.K = K := by rfl) :
 PE X (.Call (.Name "len" p) [.Call (.Name "set" p2) [e] [] pos2] [] pos) (tCB (bx1 K) t) := by
 subst hK
 intro pins s σ H Q I h
 refine wpAny_Call_Name_kw (oN I hg hm boot_len ?_)
 refine PyProof.Rows.callWith_builtin1 (PyProof.Rows.args_cons ?_) rfl rfl
 refine wpAny_Call_Name_kw (oN I hg2 hm2 bj8 ?_)
 refine PyProof.Rows.callWith_type1 (cI (ha pos2 pins s σ H _ I h) fun us s1 ⟨vs, H1, I1, r1, q1⟩ => ?_) he rfl
 obtain ⟨l, ss, rfl, hq, hl, q⟩ := q1
 cases r1 with
 | cons r rr =>
  cases rr
  cases r
  obtain ⟨its, rv, pl, _⟩ := I1.list hq
  have e1 : its.length = ss.length := by have := rv.length; simpa using this.symm
  refine am6 (val := fun i => ss.getD i Str.empty) (I.ok.hd hc) pl.isList (fun i v hv => ?_) (by rw [List.size_toArray, e1]; unfold scanBound; omega) fun h' tk hS kk => PyProof.Rows.args_nil ?_
  · have hi : i < its.length := by
     have := (Array.getElem?_eq_some_iff.mp hv).1
     simpa using this
    obtain ⟨x, ex, rx⟩ := fF rv hi
    have ev : v = its[i] := by
     have := (Array.getElem?_eq_some_iff.mp hv).2
     simpa using this.symm
    rw [List.getElem?_map] at ex
    cases eg : ss[i]? with
    | none => rw [eg] at ex; cases ex
    | some z =>
     rw [eg] at ex
     cases ex
     obtain ⟨t, et⟩ := rx
     refine ⟨t, ?_⟩
     rw [ev, et, List.getD_eq_getElem?_getD, eg]
     rfl
  · have I2 : Inv X pins σ H1 { s1 with heap := h', toks := tk } := I1.kept fun b u eb => kk b u (Heap.lt_size eb) eb
    obtain ⟨o, es, ep, tb, ho, hx, hd, _, _, hs, hf, hn⟩ := hS
    refine call_len_set ho hx hd hf (by have : es.size < 4096 := hs; omega) ?_
    refine ⟨.int (aq1 ss), H1, I2.tok _, ⟨tk + 1, ?_⟩, q⟩
    rw [hn, List.size_toArray, e1]
    rfl
end
end L2
namespace TL
open PySem PySem.Spec PyProof.Rows L2
section
variable {Jn : gL} {K : PySem.W.Frag} {cn : Str → Option Addr} {E : XK}
def vB : List T → Res T
 | [.lst _ ts] => match wL ts with
  | some ss => if ss.length ≤ 1000 then .ok (.int (aq1 ss)) else .no
  | none => .no
 | _ => .no
theorem cw0 : uV K cn (bx1 K) vB := fun E As H Z ts xs A Q zi r w => by
 unfold vB at w
 split at w
 · next o ts =>
   obtain ⟨v, rfl, rv⟩ := r.one1
   obtain ⟨a, vs, C, rfl, s, rs, _⟩ := rv.lstSq
   split at w
   · next ss hs =>
     split at w
     · next hl =>
       have := ac4 ts rs hs
       subst this
       exact ⟨a, ss, rfl, s.sq, hl, w.val zi (jD _)⟩
     · exact w.elim
   · exact w.elim
 · exact w.elim
theorem af2 : ∀ (l acc : List Str), (acc ++ l).Nodup → l.foldl pZ acc = acc ++ l
 | [], acc, _ => by simp
 | x :: l, acc, h => by
  have hx : x ∉ acc := fun hx => by
   rw [List.nodup_append] at h
   exact h.2.2 x hx x List.mem_cons_self rfl
  have hs : pZ acc x = acc ++ [x] := by
   unfold pZ
   rw [if_neg]
   intro q
   rw [List.any_eq_true] at q
   obtain ⟨y, hy, e⟩ := q
   have : y = x := by simpa using e
   subst this
   exact hx hy
  rw [List.foldl_cons, hs, af2 l (acc ++ [x]) (by simpa using h)]
  simp
theorem bf3 (l : List Str) : (List.range l.length).map (fun i => l.getD i Str.empty) = l := by
 apply List.ext_getElem?
 intro i
 by_cases h : i < l.length
 · rw [List.getElem?_map, List.getElem?_range h, List.getElem?_eq_getElem h]
   simp [List.getD_eq_getElem?_getD, List.getElem?_eq_getElem h]
 · rw [List.getElem?_eq_none (by simpa using h), List.getElem?_eq_none (by omega)]
theorem bo0 {ss : List Str} (h : ss.Nodup) : aq1 ss = ss.length := by
 unfold aq1 jV
 rw [bf3, af2 ss [] (by simpa using h)]
 simp
theorem cg1 {ss : List Str} (o : Bool) (h : ss.Nodup) (hl : ss.length ≤ 1000) : vB [.lst o (ss.map .str)] = .ok (.int ss.length) := by
 simp only [vB, yK, if_pos hl, bo0 h]
end
end TL
namespace TL
open PySem PySem.Spec PyProof.Rows L2
section
variable {P : Program} {w : World} {K : PySem.W.Frag} {cn : Str → Option Addr} {mg : Str → Option Value} {base : Heap} {k n : Nat}
theorem gZ {f : Str} : iQ K cn [] f := fun _ h => nomatch h
theorem bC {c f : Str} {C : Addr} {cs : List Str} (h : cn c = some C) (k : Cls K C) (n : NoAttr K C f) (r : iQ K cn cs f) : iQ K cn (c :: cs) f := fun d hd D hD => by
 rcases List.mem_cons.mp hd with rfl | hd
 · rw [h] at hD
   cases hD
   exact ⟨k, n⟩
 · exact r d hd D hD
theorem aq0 : aa0 K cn n [] [] := fun c G C h => by cases h
theorem dU {c : Str} {C : Addr} {G : List T → Res T} {tabs : List (Str × (List T → Res T))} {tab : List (Addr × Sp)} (h : cn c = some C) (r : aa0 K cn n tabs tab) : aa0 K cn n ((c, G) :: tabs) ((C, aV K cn n G) :: tab) := fun d G' D hl hD => by
 rw [List.lookup_cons] at hl
 by_cases e : (d == c) = true
 · rw [e] at hl
   cases hl
   have : d = c := by simpa using e
   subst this
   rw [h] at hD
   cases hD
   exact List.mem_cons_self
 · rw [Bool.not_eq_true] at e
   rw [e] at hl
   exact List.mem_cons_of_mem _ (r d G' D hl hD)
theorem at0 {m : Str} : ∀ q ∈ ([] : List (Addr × Sp)), iZ P w K mg base k q.1 m q.2 := dJ
theorem dS {m : Str} {C : Addr} {sp : Sp} {tab : List (Addr × Sp)} (h : iZ P w K mg base k C m sp) (r : ∀ q ∈ tab, iZ P w K mg base k q.1 m q.2) : ∀ q ∈ (C, sp) :: tab, iZ P w K mg base k q.1 m q.2 := fun q hq => by
 rcases List.mem_cons.mp hq with rfl | hq
 · exact h
 · exact r q hq
def MD (P : Program) (w : World) (K : PySem.W.Frag) (mg : Str → Option Value) (base : Heap) (k : Nat) (kvs : List (Str × Value)) (tab : List (Str × Sp)) : Prop := ∀ q ∈ tab, ∃ f fd ps, kvs.lookup q.1 = some (.ref f) ∧ FnOk P w K mg base jQ k f fd ps q.2 ∧ Binds K fd ps [] ∧ PySem.W.keepIn K (.ref f) = true
theorem br8 {kvs : List (Str × Value)} : MD P w K mg base k kvs [] := dJ
theorem jO {kvs : List (Str × Value)} {z x : Str} {ps : List Str} {sp : Sp} {j : Nat} {tab : List (Str × Sp)} (e : kvs.lookup z = mg x) (d : bW P w K mg base j x ps sp) (h : j ≤ k) (r : MD P w K mg base k kvs tab) : MD P w K mg base k kvs ((z, sp) :: tab) := fun q hq => by
 rcases List.mem_cons.mp hq with rfl | hq
 · obtain ⟨f, fd, F, hm, hk, hb⟩ := d.ex
   exact ⟨f, fd, ps, e.trans hm, F.mono h, hb, hk⟩
 · exact r q hq
theorem cl3 {d : Str} {kvs : List (Str × Value)} {tab : List (Str × Sp)} (D : wS w K mg d kvs) (r : MD P w K mg base k kvs tab) : bm2 P w K mg base k d tab := ⟨kvs, D, r⟩
end
end TL
namespace L2
open PySem PySem.Spec PyProof.Rows
theorem tL {K : PySem.W.Frag} {h : Heap} {mg : Str → Option Value} {kvs : List (Str × Value)} {z x : Str} {u : Value} (X : K.In h) (G : h.Ns mainGlobals mg) (a : PySem.W.nsIn K mainGlobals x = some (some u)) (e : kvs.lookup z = some u) : kvs.lookup z = mg x := e.trans (PySem.W.mg_of X G a).symm
end L2
namespace TL
open PySem PySem.Spec PyProof.Rows L2
theorem db4 {i j : Int} (h1 : -(2 ^ 64) < i) (h2 : i < 2 ^ 64) : mulOk i j := .inl ⟨h1, h2⟩
theorem bw3 {i j : Int} (h1 : -(2 ^ 64) < j) (h2 : j < 2 ^ 64) : mulOk i j := .inr (.inl ⟨h1, h2⟩)
theorem co3 (i : Int) : gY [.int i, .ty "int"] = .ok (.bl true) := co2 i
theorem ax4 (i : Int) : gY [.int i, .ty "bool"] = .ok (.bl false) := bb7 i
theorem ck3 (i : Bool) : gY [.bl i, .ty "bool"] = .ok (.bl true) := cv2 i
theorem cg3 (i : Bool) : gY [.bl i, .ty "int"] = .ok (.bl true) := bh5 i
theorem ct4 (i : List T) : gY [.tup i, .ty "tuple"] = .ok (.bl true) := cv1 i
theorem cj3 (o : Bool) (i : List T) : gY [.lst o i, .ty "list"] = .ok (.bl true) := cq2 o i
theorem bk1 : gY [.non, .ty "bool"] = .ok (.bl false) := by with_unfolding_all rfl
theorem cb4 : gY [.non, .ty "int"] = .ok (.bl false) := by with_unfolding_all rfl
theorem cy9 (i : Int) : zK [.int i] = gate (i.natAbs.log2 < 1920) (.ok (.str (toString i))) := rfl
theorem cg6 (x : Str) : zK [.str x] = .ok (.str x) := rfl
theorem co9 (i j : Int) : wZ (.int i) (.int j) = .ok (.bl (!(i == j))) := rfl
theorem cb8 (i j : Str) : wZ (.str i) (.str j) = .ok (.bl (!(i == j))) := rfl
theorem co8 (i j : Bool) : wZ (.bl i) (.bl j) = .ok (.bl (!(i == j))) := rfl
theorem cr4 (o : Bool) (ts : List T) : ck7 [.lst o ts] = if bA ts = true then .ok (.tup ts) else .no := rfl
end TL
namespace TL
open PySem L2
theorem ca0 {n : Nat} (h : n ≤ 100000) : (n ≤ sizeLine) = True := eq_true (Nat.le_trans h (by decide))
theorem bv8 {n : Nat} (h : n ≤ 100000) : (n < sizeLine) = True := eq_true (Nat.lt_of_le_of_lt h (by decide))
theorem pE {m : Int} (h : 0 ≤ m) : ∃ k : Nat, m = k := ⟨m.toNat, by omega⟩
end TL
namespace TL
open PySem L2
theorem dt3 {i j : Int} (h1 : 0 < j) (h2 : j < 1073741824) : tW i j := ⟨h1, h2⟩
theorem dm3 {i j : Int} (h1 : 0 ≤ j) (h2 : j ≤ 1000000) (h3 : i.natAbs < 2 ^ 64) : xD i j := ⟨h1, h2, h3⟩
end TL
namespace L2
open PySem
theorem cZ {K : PySem.W.Frag} {C : Addr} {f : Str} (h : PySem.W.findIn K (.ref C) f = some none) : NoAttr K C f := h
end L2

set_option maxHeartbeats 4000000
namespace TL
open PySem PySem.Spec PyProof.Rows L2
section
variable {Jn : gL} {K : PySem.W.Frag} {cn : Str → Option Addr} {E : XK}
theorem dz2 {mv mw L : List Nat} {te : TE} {tr : TA} {a : Fr → Res T} {r : Fr → Res (List T)} (ha : RE Jn K cn E mv te a) (hr : RA Jn K cn E mw tr r) (e : mv ++ mw = L) (hd : (mv.all fun i => !mw.contains i) = true) : RA Jn K cn E L (ap1 te tr) (aD a r) := e ▸ cp5 ha hr hd
theorem cw5 {ks ls L : List Nat} {n : Nat} {g : TG} {gs : wW} {b : T → Fr → Option Fr} {bs : List T → Fr → Option Fr} (h1 : RG Jn K cn ks g b) (h2 : RGs Jn K cn ls n gs bs) (e : ks ++ ls = L) : RGs Jn K cn L (n + 1) (bo2 g gs) (bJ b bs) := e ▸ bx8 h1 h2
end
end TL
local macro_rules | `(tactic| walk_at "gt") => `(tactic| first | assumption | exact TL.db4 (by decide) (by decide) | exact TL.bw3 (by decide) (by decide) | exact TL.dt3 (by decide) (by decide) | exact TL.dm3 (by decide) (by decide) (by decide) | decide | omega | (constructor <;> omega))
local macro_rules | `(tactic| walk_at "ev") => `(tactic| simp (disch := walk_at "gt") only [TL.vU, TL.ca0, TL.bv8, TL.aO, TL.bI, TL.bL, TL.dI, TL.dg1, TL.lB, TL.cH, TL.ca8, TL.di2, TL.aE, TL.dC, TL.aS, TL.aG, TL.eO, TL.lF, TL.oH, TL.dm4, TL.av1, TL.dIf, TL.bR, TL.gW, TL.iG, TL.qY, TL.xA, TL.fO, TL.cW, TL.aD, TL.aI, TL.cK, TL.bB, TL.dBM, TL.vA, TL.gX, TL.kI, TL.jR, TL.hU, TL.eQ, TL.dE, TL.bu2, TL.ap0, TL.dp2, TL.kills, TL.aK, TL.fI, TL.bJ, TL.fM, TL.bY, TL.cS, TL.nS, TL.dD, TL.frz, TL.frzs, TL.eC, TL.bA, TL.eA, TL.dL, TL.ak9, TL.ag1, TL.mQ, TL.yC, TL.tS, TL.qD, TL.xH, TL.uI, TL.iF, TL.de5, TL.lG, TL.wT, TL.aa2, TL.GoW, TL.bs3, TL.aq9, TL.ce8, TL.cr9, TL.cv7, TL.ci8, TL.cd6, TL.ce6, TL.cy8, TL.cv3, TL.cs9, TL.ay1, TL.dl3, TL.do1, TL.dw0, TL.dy2, TL.da3, TL.dq3, TL.di3, TL.du3, TL.dt1, TL.dz1, TL.de2, TL.cl1, TL.by8, TL.by7, TL.bh8, TL.br9, TL.dj2, TL.dm2, TL.df3, TL.dw2, TL.db2, TL.du2, TL.dg2, TL.ds3, TL.cg2, TL.dm1, TL.do4, TL.ds4, TL.dl4, TL.dj1, TL.dz0, TL.ds1, TL.dh1, TL.bj7, TL.co2, TL.bb7, TL.cv2, TL.bh5, TL.cv1, TL.cq2, TL.dt0, TL.ca7, TL.cs2, TL.cf8, TL.ca6, TL.de1, TL.dx0, TL.bl9, TL.cf7, TL.cw9, TL.bi6, TL.bz1, TL.dl1, TL.dc1, TL.du0, TL.da1, TL.dp0, TL.dd1, TL.dw1, TL.db1, TL.dc3, TL.db3, TL.dn3, TL.da2, TL.dt2, TL.de3, TL.dy0, TL.bx4, TL.df2, TL.dn2, TL.bu8,
 TL.co3, TL.ax4, TL.ck3, TL.cg3, TL.ct4, TL.cj3, TL.bk1, TL.cb4, TL.cy9, TL.cg6, TL.co9, TL.cb8, TL.co8, TL.eO, TL.wE, TL.bv7, TL.ak4, TL.bv2, TL.aj0, TL.wQ, TL.frz1, TL.jG, TL.mZ, TL.yJ, TL.ao7, TL.bc3, TL.as9, TL.qT, TL.av7, TL.tP, TL.aj1, TL.cr4, List.length_map, Option.map_some, Option.isSome_some, List.isEmpty_cons, List.isEmpty_nil, Option.isSome_none, List.map_cons, List.map_nil, List.length_cons, List.length_nil, List.replicate_succ, List.replicate_zero, List.cons_append, List.nil_append, List.set_cons_zero, List.set_cons_succ, List.getElem?_cons_zero, List.getElem?_cons_succ, Nat.reduceAdd, Nat.reduceSub, Bool.not_true, Bool.not_false, Bool.and_true, Bool.true_and, Bool.and_false, Bool.false_and, Bool.or_true, Bool.true_or, Bool.or_false, Bool.false_or, if_true, if_false, Bool.false_eq_true, reduceIte, reduceCtorEq, decide_true, decide_false, and_self, and_true, true_and, Bool.and_self, *])
namespace Nk21
open PySem L2 TL
noncomputable section
def eI (i : Nat) : Stmt := PySem.Challenge.pw_inkyears_k21_steps_of_a_heap.main.body.getD i (.Pass ⟨0, 0, 0, 0⟩)
abbrev kt_NUMBERS : List (Str × T) := [("dark", .tup [.int 0, .int 1000000]), ("place", .tup [.int 1, .int 100]), ("year", .tup [.int (-4000), .int 4000]), ("later", .tup [.int 0, .int 300]), ("gap", .tup [.int (-300), .int 300])]
abbrev kt_PARTS : List (Str × T) := [("ink", .tup [.str "letter", .str "ink", .str "dark", .str "dark"]), ("reign", .tup [.str "letter", .str "reign", .str "place"]), ("under", .tup [.str "letter", .str "reign"]), ("between", .tup [.str "letter", .str "year", .str "year"]), ("after", .tup [.str "letter", .str "letter"]), ("same", .tup [.str "letter", .str "letter"]), ("within", .tup [.str "letter", .str "letter", .str "later"]), ("apart", .tup [.str "letter", .str "letter", .str "gap", .str "gap"])]
def rR : Fr → bT :=
 (aO (dI (bR (aG xN (aE 1) (cK eF (aD (aE 0) aI)))) (bL [] (aS (aG aX (aE 0) (aE 1)))) cH)
 (bL [] (dC (.int 0))))
def eD : List T → Res T := fun ts => bY (rR (cS 2 ts))
def pW : Fr → bT :=
 (aO (bI [] (fO (aD (dC (.str "a")) (aD (dC (.str "ab")) (aD (dC (.str "abc")) (aD (dC (.str "b")) (aD (dC (.str "ba")) (aD (dC (.str "zzzzzzzz")) (aD (dC (.str "zzzzzzzy")) (aD (dC (.str "q")) aI))))))))) (aK 1))
 (bL [] (aG cN (vA qK (aE 1) (gX (aG cP (aE 0) (dC (.int 8)))) kI) (vA qK (aE 1) kI (gX (aG cP (aE 0) (dC (.int 8))))))))
def mP : List T → Res T := fun ts => bY (pW (cS 2 ts))
def qB : Fr → bT :=
 (aO (bI [] (aG cN (aG cN (aG cP (aE 0) (dC (.int 1000000021))) (aG kM (dC (.int 4099)) (aE 1))) (dC (.int 77))) (aK 0))
 (aO (bI [] (cK zG (aD (aG cP (aG kM (aE 0) (dC (.int 30011))) (dC (.int 2140000027))) (aD (dC (.int 46133)) aI))) (fI (bJ (aK 2) (bJ (aK 3) fM))))
 (aO (bI [] (aG cN (aG cN (aG cN (aG kM (aE 2) (aE 3)) (aG kM (dC (.int 6007)) (aE 2))) (aG kM (dC (.int 271)) (aE 3))) (aE 1)) (aK 4))
 (bL [] (aG cP (aG kM (aE 4) (aG cN (aG cP (aE 4) (dC (.int 1009))) (dC (.int 7919)))) (dC (.int 1700000009)))))))
def dA : List T → Res T := fun ts => bY (qB (cS 5 ts))
def qA : Fr → bT :=
 (aO (bI [] (aG cP (bB 2 eD (aD (aE 0) (aD (dC (.int 0)) aI))) (aG xP (dC (.int 10)) (dC (.int 15)))) (aK 2))
 (aO (bI [] (aS (aG aX (fO (aD (dC (.int 0)) (aD (dC (.int 1)) (aD (dC (.int 3)) (aD (dC (.int 8)) (aD (dC (.int 20)) (aD (dC (.int 20)) (aD (dC (.int 60)) (aD (dC (.int 300)) aI))))))))) (aG cP (aE 2) (dC (.int 8))))) (aK 3))
 (aO (bI [] (aS (aG aX (fO (aD (eO nG (dC (.int 3000))) (aD (aG dH (dC (.int 3000)) (aE 3)) (aD (eO nG (dC (.int 10))) (aD (dC (.int 1400)) aI))))) (aG cP (aG gH (aE 2) (dC (.int 8))) (dC (.int 4))))) (aK 4))
 (aO (bI [] (vA qK (bB 1 mP (aD (aG gH (aE 2) (dC (.int 32))) aI)) kI (gX (aG cN (dC (.int 1)) (aG cP (aG gH (aE 2) (dC (.int 256))) (aE 1))))) (aK 5))
 (aO (bI [] (fO aI) (aK 6))
 (aO (lB (hU pO (aD (aG cN (dC (.int 2)) (aG cP (bB 2 dA (aD (aE 2) (aD (dC (.int 6)) aI))) (dC (.int 5)))) aI)) (aK 7) (aO (bI [] (aG cN (dC (.int 400)) (aG cP (aG gH (aE 2) (dC (.int 2048))) (dC (.int 9)))) (aK 8))
 (aO (bI [] (fO (aD (aS (aE 8)) aI)) (aK 9))
 (aO (lB (hU pO (aD (aG cP (bB 2 dA (aD (aE 2) (aD (aE 7) aI))) (aG aX (fO (aD (dC (.int 12)) (aD (dC (.int 60)) aI))) (aG gH (aG cP (aG gH (aE 2) (dC (.int 18432))) (dC (.int 4))) (dC (.int 3))))) aI)) (aK 10) (aO (bI [] (cK tZ (aD (dC (.int 0)) (aD (aG dH (aE 8) (aG cP (bB 2 dA (aD (aE 2) (aD (aG cN (aG kM (dC (.int 10)) (aE 10)) (aE 7)) aI))) (dC (.int 13)))) aI))) (aK 8))
 (iF 9 [] dD (aS (aE 8)))))
 (iF 6 [9] dD (cW (aD (aS (aG aX (fO (aD (dC (.str "oak")) (aD (dC (.str "soot")) (aD (dC (.str "oa")) (aD (dC (.str "ink")) (aD (dC (.str "oakoak")) (aD (dC (.str "s")) aI))))))) (aE 7))) (aD (aE 9) aI))))))))
 (aO (bI [] (aG cN (aG dH (aE 4) (dC (.int 5))) (aG cP (bB 2 dA (aD (aE 2) (aD (dC (.int 3)) aI))) (aG cN (aE 3) (dC (.int 9))))) (aK 11))
 (aO (bI [] (fO (aD (cW (aD (dC (.str "ann")) (aD (aS (aE 11)) (aD (aG cN (dC (.int 1)) (aG cP (bB 2 dA (aD (aE 2) (aD (dC (.int 4)) aI))) (dC (.int 30)))) aI)))) (aD (cW (aD (dC (.str "anna")) (aD (aG cN (aE 11) (dC (.int 3))) (aD (aG cN (dC (.int 1)) (aG cP (bB 2 dA (aD (aE 2) (aD (dC (.int 5)) aI))) (dC (.int 100)))) aI)))) aI))) (aK 12))
 (aO (lB (hU pO (aD (aG cP (bB 2 dA (aD (aE 2) (aD (dC (.int 7)) aI))) (dC (.int 7))) aI)) (aK 7) (aO (bI [] (aG dH (aG cN (aE 11) (aG cP (bB 2 dA (aD (aE 2) (aD (aG cN (dC (.int 8)) (aE 7)) aI))) (dC (.int 9)))) (dC (.int 4))) (aK 11))
 (yJ 12 [] bc3 dD (aD (dC (.int 1)) (aD (cW (aD (aS (aG aX (fO (aD (dC (.str "an")) (aD (dC (.str "b")) (aD (dC (.str "annab")) (aD (dC (.str "zz")) (aD (dC (.str "nn")) (aD (dC (.str "a")) aI))))))) (aE 7))) (aD (aS (aE 11)) (aD (aG cN (dC (.int 1)) (aG cP (bB 2 dA (aD (aE 2) (aD (aG cN (dC (.int 14)) (aE 7)) aI))) (dC (.int 60)))) aI)))) aI)))))
 (bL [5, 6, 12] (cW (aD (aS (aE 4)) (aD (aG cN (aE 4) (aE 3)) (aD (aE 5) (aD (aE 6) (aD (aE 12) aI))))))))))))))))
def kK : List T → Res T := fun ts => bY (qA (cS 13 ts))
def tO : Fr → bT :=
 (aO (bI [] (aG cP (cK ax0 (aD (aE 0) aI)) (aG xP (dC (.int 10)) (dC (.int 60)))) (aK 2))
 (aO (bI [] (fO aI) (aK 3))
 (aO (lB (hU pO (aD (aE 1) aI)) (aK 4) (dI (xA (bR (aG xN (aE 0) (dC (.int 0)))) (bR (aG geT (aE 0) (aG xP (dC (.int 10)) (dC (.int 18)))))) (aO (iF 3 [] dD (aG cP (aE 2) (dC (.int 10007))))
 (bI [] (aG gH (aE 2) (dC (.int 10007))) (aK 2))) (iF 3 [] dD (bB 2 dA (aD (aG cN (bB 2 dA (aD (aE 0) (aD (aE 4) aI))) (aE 0)) (aD (aE 4) aI))))))
 (bL [3] (aE 3)))))
def jT : List T → Res T := fun ts => bY (tO (cS 5 ts))
def oI : Fr → bT :=
 (bL [] (eQ [2] (jR lI (bB 2 jT (aD (aE 0) (aD (cK eF (aD (aG aX (aE 1) (dC (.int 2))) aI)) aI)))) (aK 2) dE (aG cN (aG aX (aE 1) (dC (.int 0))) (aG cP (aE 2) (aG cN (aG dH (aG aX (aE 1) (dC (.int 1))) (aG aX (aE 1) (dC (.int 0)))) (dC (.int 1)))))))
def jH : List T → Res T := fun ts => bY (oI (cS 3 ts))
def rP : Fr → bT :=
 (aO (bI [] (fO (aD (aS (aG aX (aG aX (aE 1) (dC (.int 2))) (aE 2))) (aD (aS (aG aX (aG aX (aE 1) (dC (.int 2))) (aE 3))) aI))) (aK 4))
 (aO (dI (xA (bR (aG gO (aE 2) (aE 3))) (bR (aG gO (aG cP (aG aX (aE 0) (dC (.int 2))) (dC (.int 2))) (dC (.int 0))))) (aO (bI [] (aG cN (aG dH (aG aX (aE 1) (dC (.int 0))) (dC (.int 30))) (aG cP (aG aX (aE 0) (dC (.int 3))) (aG cN (aG dH (aG aX (aE 1) (dC (.int 1))) (aG aX (aE 1) (dC (.int 0)))) (dC (.int 61))))) (aK 5))
 (aO (bI [] (aG cN (aE 5) (aG cP (aG aX (aE 0) (dC (.int 4))) (dC (.int 40)))) (aK 6))
 (bL [] (cW (aD (dC (.str "between")) (aD (aG cN (vA qK (aE 4) kI (gX (dC (.int 1)))) (fO (aD (aS (aE 5)) (aD (aS (aE 6)) aI)))) (aD (cW (aD (aS (aE 2)) aI)) (aD (cW (aD (aS (aE 5)) (aD (aS (aE 6)) aI))) aI)))))))) cH)
 (aO (bI [] (aG dH (aG cP (aG aX (aE 0) (dC (.int 3))) (dC (.int 601))) (dC (.int 300))) (aK 5))
 (aO (bI [] (cK qV (aD (dC (.int 300)) (aD (aG cN (aE 5) (aG cP (aG aX (aE 0) (dC (.int 4))) (dC (.int 40)))) aI))) (aK 6))
 (bL [] (cW (aD (dC (.str "apart")) (aD (aG cN (aE 4) (fO (aD (aS (aE 5)) (aD (aS (aE 6)) aI)))) (aD (cW (aD (aS (aE 2)) (aD (aS (aE 3)) aI))) (aD (cW (aD (aS (aE 5)) (aD (aS (aE 6)) aI))) aI))))))))))
def oP : List T → Res T := fun ts => bY (rP (cS 7 ts))
def oF : Fr → bT :=
 (aO (bI [] (aS (aG aX (aG aX (aE 1) (dC (.int 2))) (aE 2))) (aK 4))
 (aO (bI [] (aG gH (aE 0) (dC (.int 4))) (aK 5))
 (aO (dI (bR (aG gO (aG cP (aE 0) (dC (.int 4))) (dC (.int 0)))) (aO (bI [] (aS (aG aX (aG aX (aE 1) (dC (.int 3))) (aG cP (aE 5) (cK eF (aD (aG aX (aE 1) (dC (.int 3))) aI))))) (fI (bJ (aK 6) (bJ (aK 7) fM))))
 (aO (bI [] (aG cP (aG gH (aE 5) (dC (.int 2))) (dC (.int 5))) (aK 8))
 (aO (bI [] (aS (aG aX (aE 7) (cK qV (aD (aG dH (aG aX (aE 1) (dC (.int 1))) (aE 3)) (aD (aG dH (cK eF (aD (aE 7) aI)) (dC (.int 1))) aI))))) (aK 9))
 (aO (bI [] (cK tZ (aD (dC (.int 0)) (aD (aG dH (aG cN (aE 9) (aG cP (aG gH (aE 5) (dC (.int 10))) (aG cN (aG kM (dC (.int 2)) (aE 8)) (dC (.int 1))))) (aE 8)) aI))) (aK 9))
 (aO (bI [] (fO aI) (aK 10))
 (aO (lB (hU pO (aD (aG cN (aG dH (aG aX (aE 1) (dC (.int 1))) (aG aX (aE 1) (dC (.int 0)))) (dC (.int 1))) aI)) (aK 11) (dI (bR (aG oY (cK ax0 (aD (aG dH (aG aX (aE 7) (cK qV (aD (aE 11) (aD (aG dH (cK eF (aD (aE 7) aI)) (dC (.int 1))) aI)))) (aE 9)) aI)) (aE 8))) (iF 10 [] dD (aS (aE 11))) cH))
 (bL [] (cW (aD (dC (.str "ink")) (aD (fO (aD (aS (aE 4)) (aD (aS (aE 6)) (aD (aS (aE 9)) (aD (aS (aE 8)) aI))))) (aD (cW (aD (aS (aE 2)) aI)) (aD (cW (aD (aG dH (aG aX (aE 1) (dC (.int 1))) (aG aX (aE 10) (eO nG (dC (.int 1))))) (aD (aG dH (aG aX (aE 1) (dC (.int 1))) (aG aX (aE 10) (dC (.int 0)))) aI))) aI)))))))))))) cH)
 (aO (bI [] (aG cP (aG gH (aE 5) (dC (.int 2))) (cK eF (aD (aG aX (aE 1) (dC (.int 4))) aI))) (aK 12))
 (aO (lB (jR xZ (bu2 (aG cN (vA qK (aG aX (aE 1) (dC (.int 4))) (gX (aE 12)) kI) (vA qK (aG aX (aE 1) (dC (.int 4))) kI (gX (aE 12)))))) (fI (bJ (aK 13) (bJ (aK 14) (bJ (aK 15) fM)))) (dI (qY (bR (aG gO (aG cP (aE 0) (dC (.int 4))) (dC (.int 1)))) (bR (lF oY xN (aE 14) (aE 3) (aG cN (aE 14) (aE 15))))) (aO (dI (bR (aG gO (aG cP (aE 5) (dC (.int 2))) (dC (.int 0)))) (bL [] (cW (aD (dC (.str "reign")) (aD (fO (aD (aS (aE 4)) (aD (aS (aE 13)) (aD (aG cN (aG dH (aE 3) (aE 14)) (dC (.int 1))) aI)))) (aD (cW (aD (aS (aE 2)) aI)) (aD (cW (aD (aS (aE 3)) (aD (aS (aE 3)) aI))) aI)))))) cH)
 (bL [] (cW (aD (dC (.str "under")) (aD (fO (aD (aS (aE 4)) (aD (aS (aE 13)) aI))) (aD (cW (aD (aS (aE 2)) aI)) (aD (cW (aD (aS (aE 14)) (aD (aG dH (aG cN (aE 14) (aE 15)) (dC (.int 1))) aI))) aI))))))) cH))
 (aO (bI [] (cK tZ (aD (eO nG (dC (.int 4000))) (aD (aG dH (aE 3) (aG cP (aE 5) (dC (.int 9)))) aI))) (aK 16))
 (aO (bI [] (cK qV (aD (dC (.int 4000)) (aD (aG cN (aE 3) (aG cP (aG gH (aE 5) (dC (.int 9))) (dC (.int 9)))) aI))) (aK 17))
 (bL [] (cW (aD (dC (.str "between")) (aD (fO (aD (aS (aE 4)) (aD (aS (aE 16)) (aD (aS (aE 17)) aI)))) (aD (cW (aD (aS (aE 2)) aI)) (aD (cW (aD (aS (aE 16)) (aD (aS (aE 17)) aI))) aI)))))))))))))
def lA : List T → Res T := fun ts => bY (oF (cS 18 ts))
def oJ : Fr → bT :=
 (aO (bI [] (eQ [9] (jR lI (aE 2)) (aK 9) dE (aS (aG aX (aG aX (aE 1) (dC (.int 2))) (aE 9)))) (aK 4))
 (aO (bI [] (aG gH (aE 0) (dC (.int 4))) (aK 5))
 (aO (dI (qY (bR (aG gO (aE 3) (dC (.int 0)))) (bR (aG gO (aG cP (aE 0) (dC (.int 4))) (dC (.int 0))))) (bL [4] (cW (aD (dC (.str "same")) (aD (aE 4) (aD (aS (aE 2)) (aD (cW (aD (dC (.int 0)) (aD (dC (.int 0)) aI))) aI)))))) cH)
 (aO (dI (qY (bR (aG gtT (aE 3) (dC (.int 0)))) (bR (aG xN (aG cP (aE 0) (dC (.int 4))) (dC (.int 2))))) (bL [4] (cW (aD (dC (.str "after")) (aD (aE 4) (aD (aS (aE 2)) (aD (cW (aD (dC (.int 1)) (aD (dC .non) aI))) aI)))))) cH)
 (aO (dI (qY (bR (aG geT (aE 3) (dC (.int 0)))) (bR (aG gO (aG cP (aE 0) (dC (.int 4))) (dC (.int 2))))) (aO (bI [] (cK qV (aD (dC (.int 300)) (aD (aG cN (aE 3) (aG cP (aE 5) (dC (.int 4)))) aI))) (aK 6))
 (bL [] (cW (aD (dC (.str "within")) (aD (aG cN (aE 4) (fO (aD (aS (aE 6)) aI))) (aD (aS (aE 2)) (aD (cW (aD (dC (.int 0)) (aD (aS (aE 6)) aI))) aI))))))) cH)
 (aO (bI [] (cK tZ (aD (eO nG (dC (.int 300))) (aD (aG dH (aE 3) (aG cP (aE 5) (dC (.int 6)))) aI))) (aK 7))
 (aO (bI [] (cK qV (aD (dC (.int 300)) (aD (aG cN (aE 3) (aG cP (aG gH (aE 5) (dC (.int 6))) (dC (.int 6)))) aI))) (aK 8))
 (bL [] (cW (aD (dC (.str "apart")) (aD (aG cN (aE 4) (fO (aD (aS (aE 7)) (aD (aS (aE 8)) aI)))) (aD (aS (aE 2)) (aD (cW (aD (aS (aE 7)) (aD (aS (aE 8)) aI))) aI)))))))))))))
def lM : List T → Res T := fun ts => bY (oJ (cS 10 ts))
def nE : Fr → bT :=
 (aO (bI [] (cK eF (aD (aG aX (aE 1) (dC (.int 2))) aI)) (aK 4))
 (aO (bI [] (aG dH (aG aX (aE 1) (dC (.int 1))) (aG aX (aE 1) (dC (.int 0)))) (aK 5))
 (aO (bI [] (fO aI) (aK 6))
 (aO (lB (jR xZ (aE 0)) (aK 7) (aO (bI [] (bB 2 jT (aD (aE 7) (aD (dC (.int 6)) aI))) (aK 8))
 (aO (bI [] (aG cP (aG aX (aE 8) (dC (.int 0))) (aE 4)) (aK 9))
 (aO (bI [] (cK gQ (aD (aE 3) aI)) (aK 10))
 (aO (dI (qY (gW (aE 2)) (bR (aG gO (aG cP (aG aX (aE 8) (dC (.int 1))) (dC (.int 3))) (dC (.int 0))))) (bI [] (eQ [12] (hU pO (aD (aE 4) aI)) (aK 12) dE (aG cN (aG aX (aE 1) (dC (.int 0))) (aG cP (aG cN (aG aX (aE 8) (dC (.int 4))) (aG kM (aG kM (dC (.int 7)) (aG aX (aE 8) (dC (.int 5)))) (aE 12))) (aG cN (aE 5) (dC (.int 1)))))) (aK 10)) cH)
 (aO (bI [] (aG cP (aG cN (aG cN (aE 9) (dC (.int 1))) (aG cP (aG gH (aG aX (aE 8) (dC (.int 1))) (dC (.int 3))) (cK tZ (aD (dC (.int 1)) (aD (aG dH (aE 4) (dC (.int 1))) aI))))) (aE 4)) (aK 11))
 (dI (qY (gW (aE 2)) (bR (aG gO (aG cP (aG aX (aE 8) (dC (.int 5))) (dC (.int 8))) (dC (.int 5))))) (iF 6 [] dD (bB 4 oP (aD (aE 8) (aD (aE 1) (aD (aE 9) (aD (aE 11) aI)))))) (dI (xA (bR (aG gO (aE 4) (dC (.int 1)))) (bR (aG xN (aG cP (aG aX (aE 8) (dC (.int 2))) (dC (.int 5))) (dC (.int 2))))) (iF 6 [] dD (bB 4 lA (aD (aG aX (aE 8) (dC (.int 3))) (aD (aE 1) (aD (aE 9) (aD (aG aX (aE 10) (aE 9)) aI)))))) (iF 6 [] dD (bB 4 lM (aD (aG aX (aE 8) (dC (.int 3))) (aD (aE 1) (aD (cW (aD (aS (aE 9)) (aD (aS (aE 11)) aI))) (aD (aG dH (aG aX (aE 10) (aE 9)) (aG aX (aE 10) (aE 11))) aI))))))))))))))
 (bL [6] (aE 6))))))
def iJ : List T → Res T := fun ts => bY (nE (cS 13 ts))
def rD : Fr → bT :=
 (bL [] (oH (cK gY (aD (aE 0) (aD (dC (.ty "int")) aI))) (av1 (cK gY (aD (aE 0) (aD (dC (.ty "bool")) aI))))))
def oC : List T → Res T := fun ts => bY (rD (cS 1 ts))
def kP : Fr → bT :=
 (bL [] (oH (bB 1 oC (aD (aE 0) aI)) (lF oY oY (aE 1) (aE 0) (aE 2))))
def cG : List T → Res T := fun ts => bY (kP (cS 3 ts))
def qE : Fr → bT :=
 (aO (dI (iG (gW (bB 3 cG (aD (aE 0) (aD (eO nG (dC (.int 3000))) (aD (dC (.int 3000)) aI)))))) (bL [] (dC (.bl false))) cH)
 (aO (dI (iG (gW (bB 3 cG (aD (aE 1) (aD (eO nG (dC (.int 3000))) (aD (dC (.int 3000)) aI)))))) (bL [] (dC (.bl false))) cH)
 (bL [] (lF oY oY (dC (.int 0)) (aG dH (aE 1) (aE 0)) (dC (.int 300))))))
def kJ : List T → Res T := fun ts => bY (qE (cS 2 ts))
def oW : Fr → bT :=
 (bL [] (oH (lF oY oY (dC (.int 1)) (cK eF (aD (aE 0) aI)) (aE 2)) (cK (mN false) (aD (eQ [3] (jR lI (aE 0)) (aK 3) dE (aG (zR false) (aE 3) (aE 1))) aI))))
def kW : List T → Res T := fun ts => bY (oW (cS 4 ts))
def tM : Fr → bT :=
 (bL [] (bB 3 kW (aD (aE 0) (aD (dC (.str "abcdefghijklmnopqrstuvwxyz")) (aD (dC (.int 8)) aI)))))
def nT : List T → Res T := fun ts => bY (tM (cS 1 ts))
def qG : Fr → bT :=
 (aO (dI (iG (bR (lF oY oY (aE 1) (cK eF (aD (aE 0) aI)) (aE 2)))) (bL [] (dC (.bl false))) cH)
 (bL [] (oH (cK (mN false) (aD (eQ [3] (jR lI (aE 0)) (aK 3) dE (bB 1 nT (aD (aE 3) aI))) aI)) (aG gO (cK vB (aD (aE 0) aI)) (cK eF (aD (aE 0) aI))))))
def fK : List T → Res T := fun ts => bY (qG (cS 4 ts))
def rJ : Fr → bT :=
 (aO (dI (iG (bR (lF oY oY (dC (.int 1)) (cK eF (aD (aE 0) aI)) (dC (.int 60))))) (bL [] (dC (.bl false))) cH)
 (aO (dI (iG (gW (cK (mN false) (aD (eQ [1] (jR lI (aE 0)) (aK 1) dE (bB 3 cG (aD (aE 1) (aD (dC (.int 0)) (aD (dC (.int 1000000)) aI))))) aI)))) (bL [] (dC (.bl false))) cH)
 (bL [] (cK (mN false) (aD (eQ [2] (hU bv3 (aD (dC (.int 1)) (aD (cK eF (aD (aE 0) aI)) aI))) (aK 2) dE (aG oY (aG aX (aE 0) (aE 2)) (aG aX (aE 0) (aG dH (aE 2) (dC (.int 1)))))) aI)))))
def lV : List T → Res T := fun ts => bY (rJ (cS 3 ts))
def rE : Fr → bT :=
 (aO (dI (iG (gW (bB 3 fK (aD (eQ [1, 2] (jR lI (aE 0)) (fI (bJ (aK 1) (bJ (aK 2) fM))) dE (aS (aE 1))) (aD (dC (.int 0)) (aD (dC (.int 6)) aI)))))) (bL [] (dC (.bl false))) cH)
 (bL [] (cK (mN false) (aD (eQ [1, 2] (jR lI (aE 0)) (fI (bJ (aK 1) (bJ (aK 2) fM))) dE (bB 1 lV (aD (aE 2) aI))) aI))))
def lR : List T → Res T := fun ts => bY (rE (cS 3 ts))
def rL : Fr → bT :=
 (bL [] (oH (bB 3 cG (aD (aE 0) (aD (eO nG (dC (.int 4000))) (aD (dC (.int 4000)) aI)))) (bB 3 cG (aD (aE 1) (aD (dC (.int 1)) (aD (dC (.int 100)) aI))))))
def mF : List T → Res T := fun ts => bY (rL (cS 2 ts))
def oE : Fr → bT :=
 (aO (dI (iG (gW (bB 3 fK (aD (eQ [1, 2, 3] (jR lI (aE 0)) (fI (bJ (aK 1) (bJ (aK 2) (bJ (aK 3) fM)))) dE (aS (aE 1))) (aD (dC (.int 0)) (aD (dC (.int 8)) aI)))))) (bL [] (dC (.bl false))) cH)
 (bL [] (cK (mN false) (aD (eQ [1, 2, 3] (jR lI (aE 0)) (fI (bJ (aK 1) (bJ (aK 2) (bJ (aK 3) fM)))) dE (bB 2 mF (aD (aE 2) (aD (aE 3) aI)))) aI))))
def jM : List T → Res T := fun ts => bY (oE (cS 4 ts))
def jE : Fr → bT :=
 (aO (dI (iG (gW (bB 2 kJ (aD (aE 1) (aD (aE 2) aI))))) mZ cH)
 (aO (dI (iG (gW (bB 3 fK (aD (aE 3) (aD (dC (.int 1)) (aD (dC (.int 8)) aI)))))) mZ cH)
 (aO (dI (iG (gW (bB 1 lR (aD (aE 4) aI)))) mZ cH)
 (aO (dI (iG (gW (bB 1 jM (aD (aE 5) aI)))) mZ cH)
 (aO (qT 0 [] ["Archive"] "first" (aS (aE 1)) dD)
 (aO (qT 0 [] ["Archive"] "present" (aS (aE 2)) dD)
 (aO (qT 0 [] ["Archive"] "letters" (cK gQ (aD (aE 3) aI)) dD)
 (aO (qT 0 [] ["Archive"] "inks" (eQ [6, 7] (jR lI (aE 4)) (fI (bJ (aK 6) (bJ (aK 7) fM))) dE (cW (aD (aS (aE 6)) (aD (cK gQ (aD (aE 7) aI)) aI)))) dD)
 (qT 0 [] ["Archive"] "reigns" (cK gQ (aD (aE 5) aI)) dD)))))))))
def lK : List T → Res T := fun ts => jG (jE (cS 8 (.ins true "Archive" [] [] :: ts)))
def nC : Fr → bT :=
 (aO (bI [] (eQ [2, 3] (jR lI (aG aX (aE 0) (dC (.int 3)))) (fI (bJ (aK 2) (bJ (aK 3) fM))) dE (cW (aD (aS (aE 2)) (aD (cK gQ (aD (aE 3) aI)) aI)))) (aK 1))
 (bL [] (bB 5 lK (aD (aG aX (aE 0) (dC (.int 0))) (aD (aG aX (aE 0) (dC (.int 1))) (aD (cK gQ (aD (aG aX (aE 0) (dC (.int 2))) aI)) (aD (aE 1) (aD (cK gQ (aD (aG aX (aE 0) (dC (.int 4))) aI)) aI))))))))
def iI : List T → Res T := fun ts => bY (nC (cS 4 ts))
def nF : Fr → bT :=
 (aO (dI (bR (aG gO (aE 1) (dC (.str "letter")))) (bL [] (aG (zR false) (aE 2) (eO (fJ ["Archive"] "letters") (aE 0)))) cH)
 (aO (dI (bR (aG gO (aE 1) (dC (.str "ink")))) (bL [] (aG (zR false) (aE 2) (eQ [3] (jR lI (eO (fJ ["Archive"] "inks") (aE 0))) (aK 3) dE (aS (aG aX (aE 3) (dC (.int 0))))))) cH)
 (aO (dI (bR (aG gO (aE 1) (dC (.str "reign")))) (bL [] (aG (zR false) (aE 2) (eQ [4] (jR lI (eO (fJ ["Archive"] "reigns") (aE 0))) (aK 4) dE (aS (aG aX (aE 4) (dC (.int 0))))))) cH)
 (bL [] (bB 3 cG (aD (aE 2) (aD (aG aX (eO (wE kt_NUMBERS) (aE 1)) (dC (.int 0))) (aD (aG aX (eO (wE kt_NUMBERS) (aE 1)) (dC (.int 1))) aI))))))))
def fQ : List T → Res T := fun ts => bY (nF (cS 5 ts))
def tR : Fr → bT :=
 (aO (dI (xA (bR (eO (bv7 true kt_PARTS) (aE 1))) (bR (aG wZ (cK eF (aD (aE 2) aI)) (cK eF (aD (eO (wE kt_PARTS) (aE 1)) aI))))) (bL [] (dC (.bl false))) cH)
 (bL [] (cK (mN false) (aD (eQ [3, 4] (hU (ak4 false) (aD (eO (wE kt_PARTS) (aE 1)) (aD (aE 2) aI))) (fI (bJ (aK 3) (bJ (aK 4) fM))) dE (bB 3 fQ (aD (aE 0) (aD (aE 3) (aD (aE 4) aI))))) aI))))
def nW : List T → Res T := fun ts => bY (tR (cS 5 ts))
def iT : Fr → bT :=
 (aO (lB (jR xZ (eO (fJ ["Archive"] "inks") (aE 0))) (fI (bJ (aK 2) (bJ (aK 3) fM))) (dI (bR (aG gO (aE 2) (aE 1))) (bL [] (cK gQ (aD (aE 3) aI))) cH))
 (bL [] (dC .non)))
def eR : List T → Res T := fun ts => bY (iT (cS 4 ts))
def tJ : Fr → bT :=
 (aO (bI [] (aG dH (cK eF (aD (aE 0) aI)) (dC (.int 1))) (aK 4))
 (aO (bI [] (eQ [7] (hU pO (aD (aG cN (cK qV (aD (aE 4) (aD (aE 3) aI))) (dC (.int 1))) aI)) (aK 7) (bR (aG oY (cK ax0 (aD (aG dH (aG aX (aE 0) (aE 7)) (aE 1)) aI)) (aE 2))) (aS (aE 7))) (aK 5))
 (aO (dI (bR (aG gO (cK eF (aD (aE 5) aI)) (dC (.int 0)))) (bL [] (dC .non)) cH)
 (aO (bI [] (aS (aG aX (aE 5) (aG dH (cK eF (aD (aE 5) aI)) (dC (.int 1))))) (aK 6))
 (bL [] (cW (aD (aS (aG aX (aE 5) (dC (.int 0)))) (aD (dIf (bR (aG gO (aE 6) (aE 4))) (aS (aE 3)) (aS (aE 6))) aI))))))))
def nV : List T → Res T := fun ts => bY (tJ (cS 8 ts))
def cF : Fr → bT :=
 (aO (bI [] (eQ [7, 8] (hU (ak4 false) (aD (aE 3) (aD (eO (wE kt_PARTS) (aE 2)) aI))) (fI (bJ (aK 7) (bJ (aK 8) fM))) (bR (aG gO (aE 8) (dC (.str "letter")))) (aS (aE 7))) (aK 6))
 (aO (qT 0 [] ["Ink", "Reign", "Under", "Between", "After", "Same", "Within", "Apart"] "spoken" (eQ [9] (jR lI (aE 6)) (aK 9) dE (dBM ag1 uU (eO (fJ ["Archive"] "letters") (aE 1)) (aD (aE 9) aI))) dD)
 (aO (qT 0 [] ["Ink", "Reign", "Under", "Between", "After", "Same", "Within", "Apart"] "low" (aS (aE 4)) dD)
 (aO (qT 0 [] ["Ink", "Reign", "Under", "Between", "After", "Same", "Within", "Apart"] "high" (aS (aE 5)) dD)
 (qT 0 [] ["Ink", "Reign", "Under", "Between", "After", "Same", "Within", "Apart"] "text" (dBM ak9 yY (dC (.str " ")) (aD (aG cN (fO (aD (aS (aE 2)) aI)) (eQ [7] (jR lI (aE 3)) (aK 7) dE (cK zK (aD (aE 7) aI)))) aI)) dD)))))
noncomputable abbrev tm_table : List (Str × (List T → Res T)) := [("Archive", eR)]
def wM : List T → Res T := fun ts => jG (cF (cS 10 (.ins true "Ink" [] [] :: ts)))
def oQ : Fr → bT :=
 (aO (bI [] (bB 4 nV (aD (kR 2 "table" tm_table (aE 0) (aD (aG aX (aE 1) (dC (.int 1))) aI)) (aD (aG aX (aE 1) (dC (.int 2))) (aD (aG aX (aE 1) (dC (.int 3))) (aD (aG dH (eO (fJ ["Archive"] "present") (aE 0)) (eO (fJ ["Archive"] "first") (aE 0))) aI))))) (aK 2))
 (aO (dI (bR (aG zW (aE 2) (dC .non))) mZ cH)
 (bL [] (bB 5 wM (aD (aE 0) (aD (dC (.str "ink")) (aD (aE 1) (aD (aG dH (eO (fJ ["Archive"] "present") (aE 0)) (aG aX (aE 2) (dC (.int 1)))) (aD (aG dH (eO (fJ ["Archive"] "present") (aE 0)) (aG aX (aE 2) (dC (.int 0)))) aI)))))))))
def oO : List T → Res T := fun ts => bY (oQ (cS 3 ts))
def mJ : Fr → bT :=
 (aO (lB (jR xZ (eO (fJ ["Archive"] "reigns") (aE 0))) (aK 2) (dI (bR (aG gO (aG aX (aE 2) (dC (.int 0))) (aE 1))) (bL [] (aS (aE 2))) cH))
 (bL [] (dC .non)))
def gE : List T → Res T := fun ts => bY (mJ (cS 3 ts))
def oG : Fr → bT :=
 (aO (dI (iG (gW (bB 3 cG (aD (aE 2) (aD (dC (.int 1)) (aD (aE 1) aI)))))) (bL [] (dC .non)) cH)
 (bL [] (aG dH (aG cN (aE 0) (aE 2)) (dC (.int 1)))))
def iD : List T → Res T := fun ts => bY (oG (cS 3 ts))
def rO : List T → Res T := fun ts => jG (cF (cS 10 (.ins true "Reign" [] [] :: ts)))
def mC : Fr → bT :=
 (aO (bI [] (bB 2 gE (aD (aE 0) (aD (aG aX (aE 1) (dC (.int 1))) aI))) (aK 2))
 (aO (bI [] (bB 3 iD (aD (aG aX (aE 2) (dC (.int 1))) (aD (aG aX (aE 2) (dC (.int 2))) (aD (aG aX (aE 1) (dC (.int 2))) aI)))) (aK 3))
 (aO (dI (bR (aG zW (aE 3) (dC .non))) mZ cH)
 (bL [] (bB 5 rO (aD (aE 0) (aD (dC (.str "reign")) (aD (aE 1) (aD (aE 3) (aD (aE 3) aI))))))))))
def lW : List T → Res T := fun ts => bY (mC (cS 4 ts))
def rF : List T → Res T := fun ts => jG (cF (cS 10 (.ins true "Under" [] [] :: ts)))
def lX : Fr → bT :=
 (aO (bI [] (bB 2 gE (aD (aE 0) (aD (aG aX (aE 1) (dC (.int 1))) aI))) (aK 2))
 (bL [] (bB 5 rF (aD (aE 0) (aD (dC (.str "under")) (aD (aE 1) (aD (aG aX (aE 2) (dC (.int 1))) (aD (bB 3 iD (aD (aG aX (aE 2) (dC (.int 1))) (aD (aG aX (aE 2) (dC (.int 2))) (aD (aG aX (aE 2) (dC (.int 2))) aI)))) aI))))))))
def lY : List T → Res T := fun ts => bY (lX (cS 3 ts))
def oA : List T → Res T := fun ts => jG (cF (cS 10 (.ins true "Between" [] [] :: ts)))
def jY : Fr → bT :=
 (aO (dI (bR (aG gtT (aG aX (aE 1) (dC (.int 1))) (aG aX (aE 1) (dC (.int 2))))) mZ cH)
 (bL [] (bB 5 oA (aD (aE 0) (aD (dC (.str "between")) (aD (aE 1) (aD (aG aX (aE 1) (dC (.int 1))) (aD (aG aX (aE 1) (dC (.int 2))) aI))))))))
def jX : List T → Res T := fun ts => bY (jY (cS 2 ts))
def rM : List T → Res T := fun ts => jG (cF (cS 10 (.ins true "After" [] [] :: ts)))
def mG : Fr → bT :=
 (bL [] (bB 5 rM (aD (aE 0) (aD (dC (.str "after")) (aD (aE 1) (aD (dC (.int 1)) (aD (dC .non) aI)))))))
def mI : List T → Res T := fun ts => bY (mG (cS 2 ts))
def tN : List T → Res T := fun ts => jG (cF (cS 10 (.ins true "Same" [] [] :: ts)))
def nA : Fr → bT :=
 (bL [] (bB 5 tN (aD (aE 0) (aD (dC (.str "same")) (aD (aE 1) (aD (dC (.int 0)) (aD (dC (.int 0)) aI)))))))
def nB : List T → Res T := fun ts => bY (nA (cS 2 ts))
def pY : List T → Res T := fun ts => jG (cF (cS 10 (.ins true "Within" [] [] :: ts)))
def kS : Fr → bT :=
 (bL [] (bB 5 pY (aD (aE 0) (aD (dC (.str "within")) (aD (aE 1) (aD (dC (.int 0)) (aD (aG aX (aE 1) (dC (.int 2))) aI)))))))
def kQ : List T → Res T := fun ts => bY (kS (cS 2 ts))
def rG : List T → Res T := fun ts => jG (cF (cS 10 (.ins true "Apart" [] [] :: ts)))
def mB : Fr → bT :=
 (aO (dI (bR (aG gtT (aG aX (aE 1) (dC (.int 2))) (aG aX (aE 1) (dC (.int 3))))) mZ cH)
 (bL [] (bB 5 rG (aD (aE 0) (aD (dC (.str "apart")) (aD (aE 1) (aD (aG aX (aE 1) (dC (.int 2))) (aD (aG aX (aE 1) (dC (.int 3))) aI))))))))
def lZ : List T → Res T := fun ts => bY (mB (cS 2 ts))
noncomputable abbrev tb_MAKERS : List (Str × (List T → Res T)) := [("ink", oO), ("reign", lW), ("under", lY), ("between", jX), ("after", mI), ("same", nB), ("within", kQ), ("apart", lZ)]
def pV : Fr → bT :=
 (aO (dI (iG (gW (bB 3 nW (aD (aE 0) (aD (aE 1) (aD (aE 2) aI)))))) mZ cH)
 (aO (dI (qY (bR (aG gO (aG aX (eO (wE kt_PARTS) (aE 1)) (dC (.int 1))) (dC (.str "letter")))) (bR (aG gO (aG aX (aE 2) (dC (.int 0))) (aG aX (aE 2) (dC (.int 1)))))) mZ cH)
 (bL [] (aj1 2 tb_MAKERS (aE 1) (aD (aE 0) (aD (aE 2) aI))))))
def cX : List T → Res T := fun ts => bY (pV (cS 3 ts))
def rC : Fr → bT :=
 (bL [] (eQ [2, 3, 4, 5] (jR lI (aE 1)) (fI (bJ (aK 2) (bJ (aK 3) (bJ (aK 4) (bJ (aK 5) fM))))) dE (bB 3 cX (aD (aE 0) (aD (aE 2) (aD (cK gQ (aD (aE 3) aI)) aI))))))
def lT : List T → Res T := fun ts => bY (rC (cS 6 ts))
def qC : Fr → bT :=
 (aO (bI [] (fO aI) (aK 2))
 (aO (lB (hU pO (aD (cK eF (aD (aE 1) aI)) aI)) (aK 3) (aO (bI [] (aS (aG aX (aG aX (aE 1) (aE 3)) (dC (.int 2)))) (aK 4))
 (aO (bI [] (aS (aG aX (aG aX (aE 1) (aE 3)) (dC (.int 3)))) (fI (bJ (aK 5) (bJ (aK 6) fM))))
 (aO (bI [] (aS (aG aX (aG cN (aE 4) (cW (aD (dC .non) aI))) (dC (.int 1)))) (aK 7))
 (aO (dI (bR (aG kY (aE 6) (dC .non))) (iF 2 [] dD (cW (aD (aS (aE 7)) (aD (aS (aG aX (aE 4) (dC (.int 0)))) (aD (aS (aE 6)) (aD (aS (aE 3)) aI)))))) cH)
 (dI (bR (aG kY (aE 5) (dC .non))) (iF 2 [] dD (cW (aD (aS (aG aX (aE 4) (dC (.int 0)))) (aD (aS (aE 7)) (aD (aG dH (dC (.int 0)) (aE 5)) (aD (aS (aE 3)) aI)))))) cH))))))
 (aO (lB (hU pO (aD (cK eF (aD (aG aX (aE 0) (dC (.int 2))) aI)) aI)) (aK 8) (aO (iF 2 [] dD (cW (aD (dC .non) (aD (aS (aE 8)) (aD (aS (aG aX (aE 0) (dC (.int 1)))) (aD (dC .non) aI))))))
 (iF 2 [] dD (cW (aD (aS (aE 8)) (aD (dC .non) (aD (aG dH (dC (.int 0)) (aG aX (aE 0) (dC (.int 0)))) (aD (dC .non) aI))))))))
 (bL [2] (aE 2)))))
def hV : List T → Res T := fun ts => bY (qC (cS 9 ts))
def dF : Fr → bT :=
 (bL [] (cK gQ (aD (eO (fJ ["Ink", "Reign", "Under", "Between", "After", "Same", "Within", "Apart"] "spoken") (aE 0)) aI)))
def aR : List T → Res T := fun ts => bY (dF (cS 1 ts))
def cY : Fr → bT :=
 (bL [] (cW (aD (aS (eO (fJ ["Ink", "Reign", "Under", "Between", "After", "Same", "Within", "Apart"] "low") (aE 0))) (aD (aS (eO (fJ ["Ink", "Reign", "Under", "Between", "After", "Same", "Within", "Apart"] "high") (aE 0))) aI))))
def aQ : List T → Res T := fun ts => bY (cY (cS 1 ts))
noncomputable abbrev tm_about : List (Str × (List T → Res T)) := [("Ink", aR), ("Reign", aR), ("Under", aR), ("Between", aR), ("After", aR), ("Same", aR), ("Within", aR), ("Apart", aR)]
noncomputable abbrev tm_bounds : List (Str × (List T → Res T)) := [("Ink", aQ), ("Reign", aQ), ("Under", aQ), ("Between", aQ), ("After", aQ), ("Same", aQ), ("Within", aQ), ("Apart", aQ)]
def mD : Fr → bT :=
 (aO (bI [] (kR 1 "about" tm_about (aE 0) aI) (aK 2))
 (aO (bI [] (kR 1 "bounds" tm_bounds (aE 0) aI) (aK 3))
 (aO (bI [] (dIf (bR (aG gO (cK eF (aD (aE 2) aI)) (dC (.int 2)))) (aS (aG aX (aE 2) (dC (.int 1)))) (dC .non)) (aK 4))
 (aO (bI [] (fO aI) (aK 5))
 (aO (dI (bR (aG kY (aG aX (aE 3) (dC (.int 1))) (dC .non))) (iF 5 [] dD (cW (aD (aS (aE 4)) (aD (aS (aG aX (aE 2) (dC (.int 0)))) (aD (aS (aG aX (aE 3) (dC (.int 1)))) (aD (aS (aE 1)) aI)))))) cH)
 (aO (dI (bR (aG kY (aG aX (aE 3) (dC (.int 0))) (dC .non))) (iF 5 [] dD (cW (aD (aS (aG aX (aE 2) (dC (.int 0)))) (aD (aS (aE 4)) (aD (aG dH (dC (.int 0)) (aG aX (aE 3) (dC (.int 0)))) (aD (aS (aE 1)) aI)))))) cH)
 (bL [5] (aE 5))))))))
def jL : List T → Res T := fun ts => bY (mD (cS 6 ts))
def oR : Fr → bT :=
 (bL [] (fO (aD (cW (aD (dC .non) (aD (aS (aE 1)) (aD (aS (eO (fJ ["Archive"] "present") (aE 0))) (aD (dC .non) aI))))) (aD (cW (aD (aS (aE 1)) (aD (dC .non) (aD (aG dH (dC (.int 0)) (eO (fJ ["Archive"] "first") (aE 0))) (aD (dC .non) aI))))) aI))))
def lJ : List T → Res T := fun ts => bY (oR (cS 2 ts))
def rN : Fr → bT :=
 (aO (bI [] (fO aI) (aK 2))
 (aO (lB (hU (bv2 true) (aD (aE 1) aI)) (fI (bJ (aK 3) (bJ (aK 4) fM))) (yJ 2 [] ao7 dD (aD (bB 2 jL (aD (aE 4) (aD (aE 3) aI))) aI)))
 (aO (lB (hU pO (aD (cK eF (aD (eO (fJ ["Archive"] "letters") (aE 0)) aI)) aI)) (aK 5) (yJ 2 [] ao7 dD (aD (bB 2 lJ (aD (aE 0) (aD (aE 5) aI))) aI)))
 (bL [2] (aE 2)))))
def eW : List T → Res T := fun ts => bY (rN (cS 6 ts))
def qH : Fr → bT :=
 (bL [] (oH (cK gY (aD (aE 0) (aD (dC (.ty "int")) aI))) (av1 (cK gY (aD (aE 0) (aD (dC (.ty "bool")) aI))))))
def mR : List T → Res T := fun ts => bY (qH (cS 1 ts))
def rK : Fr → bT :=
 (aO (dI (xA (iG (gW (cK gY (aD (aE 0) (aD (dC (.ty "list")) aI))))) (bR (aG wZ (cK eF (aD (aE 0) aI)) (cK eF (aD (aE 1) aI))))) (bL [] (dC (.bl false))) cH)
 (aO (lB (hU (ak4 true) (aD (aE 0) (aD (aE 1) aI))) (fI (bJ (aK 2) (bJ (aK 3) fM))) (aO (dI (xA (iG (gW (cK gY (aD (aE 2) (aD (dC (.ty "tuple")) aI))))) (xA (bR (aG wZ (aE 2) (aE 3))) (iG (gW (bB 1 mR (aD (aG aX (aE 2) (dC (.int 2))) aI)))))) (bL [] (dC (.bl false))) cH)
 (dI (gW (cK (mN true) (aD (eQ [4] (jR lI (aE 2)) (aK 4) dE (cK gY (aD (aE 4) (aD (dC (.ty "bool")) aI)))) aI))) (bL [] (dC (.bl false))) cH)))
 (bL [] (dC (.bl true)))))
def eU : List T → Res T := fun ts => bY (rK (cS 5 ts))
def ak7 : Fr → bT :=
 (aO (bI [] (bB 2 kK (aD (aE 0) (aD (dC (.int 8)) aI))) (aK 1))
 (aO (bI [] (bB 2 jH (aD (aG gH (bB 2 eD (aD (aE 0) (aD (dC (.int 1)) aI))) (dC (.int 32))) (aD (aE 1) aI))) (aK 2))
 (aO (bI [] (wQ (bB 4 iJ (aD (vA qK (aE 0) (gX (dC (.int 2))) (gX (dC (.int 18)))) (aD (aE 1) (aD (aG gO (aG cP (bB 2 eD (aD (aE 0) (aD (dC (.int 1)) aI))) (dC (.int 2))) (dC (.int 1))) (aD (aE 2) aI)))))) (aK 3))
 (aO (bI [] (bB 1 iI (aD (aE 1) aI)) (aK 4))
 (aO (bI [] (wQ (bB 2 lT (aD (aE 4) (aD (aE 3) aI)))) (aK 5))
 (aO (dI (qY (bR (lF xN xN (dC (.int 0)) (cK eF (aD (aE 3) aI)) (dC (.int 16)))) (bR (aG gO (aG cP (aG gH (bB 2 eD (aD (aE 0) (aD (dC (.int 1)) aI))) (dC (.int 2))) (dC (.int 8))) (dC (.int 3))))) (aO (iF 3 [] dD (aS (aG aX (aE 3) (dC (.int 0)))))
 (iF 5 [] dD (aS (aG aX (aE 5) (dC (.int 0)))))) cH)
 (aO (bI [] (cK gQ (aD (aE 5) aI)) (aK 6))
 (aO (bI [] (bB 2 hV (aD (aE 1) (aD (aE 3) aI))) (aK 7))
 (aO (bI [] (bB 2 eW (aD (aE 4) (aD (aE 6) aI))) (aK 8))
 (aO (dI (xA (iG (gW (bB 2 eU (aD (aE 8) (aD (aE 7) aI))))) (bR (aG wZ (cK eF (aD (aE 6) aI)) (cK eF (aD (aE 5) aI))))) (bL [] (dC (.bl false))) cH)
 (aO (iF 8 [] dD (dC .non))
 (aO (yJ 6 [] as9 dD aI)
 (aO (dI (iG (gW (bB 2 eU (aD (bB 2 eW (aD (aE 4) (aD (ap0 (aE 5) (gX (eO nG (dC (.int 1))))) aI))) (aD (bB 2 hV (aD (aE 1) (aD (ap0 (aE 3) (gX (eO nG (dC (.int 1))))) aI))) aI))))) (bL [] (dC (.bl false))) cH)
 (aO (bI [] (vA qK (aE 7) (gX (aG dH (dC (.int 0)) (aG kM (dC (.int 2)) (cK eF (aD (aG aX (aE 1) (dC (.int 2))) aI))))) kI) (aK 9))
 (bL [] (oH (bB 2 eU (aD (bB 2 eW (aD (aE 4) (aD (aE 5) aI))) (aD (aE 7) aI))) (bB 2 eU (aD (bB 2 eW (aD (aE 4) (aD (aE 6) aI))) (aD (aE 9) aI)))))))))))))))))))
def am7 : List T → Res T := fun ts => bY (ak7 (cS 10 ts))
abbrev vN : Stmt := eI 63
abbrev tY : Stmt := eI 65
abbrev tX : Stmt := eI 64
abbrev uE : Stmt := eI 66
abbrev xI : Stmt := eI 69
abbrev sD : Stmt := eI 70
abbrev wN : Stmt := eI 71
abbrev sX : Stmt := eI 67
abbrev tF : Stmt := eI 68
abbrev qU : Stmt := eI 72
abbrev vV : Stmt := eI 13
abbrev oT : Stmt := eI 14
abbrev uF : Stmt := eI 32
abbrev tE : Stmt := eI 15
abbrev yL : Stmt := eI 16
abbrev uC : Stmt := eI 33
abbrev vZ : Stmt := eI 22
abbrev wP : Stmt := eI 34
abbrev wF : Stmt := eI 24
abbrev sN : Stmt := eI 35
abbrev iC : Stmt := uP (eI 36) 0
abbrev qZ : Stmt := eI 74
abbrev ae0 : Stmt := eI 50
abbrev xU : Stmt := eI 51
abbrev gP : Stmt := uP (eI 36) 1
abbrev yH : Stmt := eI 23
abbrev cE : Stmt := uP (eI 40) 0
abbrev sP : Stmt := eI 52
abbrev pG : Stmt := eI 49
abbrev sT : Stmt := eI 25
abbrev pM : Stmt := eI 53
abbrev pF : Stmt := eI 54
abbrev nI : Stmt := eI 55
abbrev pP : Stmt := eI 56
abbrev qX : Stmt := eI 57
abbrev oK : Stmt := eI 58
abbrev pJ : Stmt := eI 59
abbrev tU : Stmt := eI 61
abbrev wG : Stmt := eI 75
abbrev uK : Stmt := eI 73
abbrev bS : Stmt := uP (eI 40) 1
abbrev bO : Stmt := uP (eI 40) 2
abbrev pN : Stmt := eI 2
abbrev sC : Stmt := eI 3
abbrev vF : Stmt := eI 4
abbrev uA : Stmt := eI 76
abbrev vI : Stmt := eI 77
abbrev rV : Stmt := eI 78
end
structure Txt (w : World) (K : PySem.W.Frag) (cn : Str → Option Addr) (mg : Str → Option Value) (c_Archive c_Ink c_Reign c_Under c_Between c_After c_Same c_Within c_Apart : Addr) (nY rZ : List (Str × Value)) : Prop where
 bh4 : mg "abs" = none
 wU : mg "all" = none
 da4 : mg "any" = none
 ba0 : mg "bool" = none
 cp1 : mg "divmod" = none
 bz0 : mg "enumerate" = none
 cw2 : mg "int" = none
 iH : mg "isinstance" = none
 eJ : mg "len" = none
 kG : mg "list" = none
 aa3 : mg "max" = none
 wV : mg "min" = none
 jN : mg "range" = none
 dz3 : mg "set" = none
 dy3 : mg "str" = none
 cu5 : mg "tuple" = none
 bi4 : mg "zip" = none
 g_DARKEST : uX mg "DARKEST" (.int 1000000)
 g_FARTHEST_END : uX mg "FARTHEST_END" (.int 3000)
 g_FARTHEST_YEAR : uX mg "FARTHEST_YEAR" (.int 4000)
 g_LETTERS : uX mg "LETTERS" (.str "abcdefghijklmnopqrstuvwxyz")
 g_LONGEST_REIGN : uX mg "LONGEST_REIGN" (.int 100)
 g_LONGEST_SPAN : uX mg "LONGEST_SPAN" (.int 300)
 g_MOST_AGES : uX mg "MOST_AGES" (.int 60)
 g_MOST_INKS : uX mg "MOST_INKS" (.int 6)
 g_MOST_LETTERS_archives : uX mg "MOST_LETTERS_archives" (.int 8)
 g_MOST_LETTERS_words : uX mg "MOST_LETTERS_words" (.int 8)
 g_MOST_REIGNS : uX mg "MOST_REIGNS" (.int 8)
 d_NUMBERS : wS w K mg "NUMBERS" nY
 g_NUMBERS : GD K cn kt_NUMBERS nY
 d_PARTS : wS w K mg "PARTS" rZ
 g_PARTS : GD K cn kt_PARTS rZ
 kE : cn "Archive" = some c_Archive
 mL : Cls K c_Archive
 tH : cn "Ink" = some c_Ink
 vE : Cls K c_Ink
 nL : cn "Reign" = some c_Reign
 pR : Cls K c_Reign
 nM : cn "Under" = some c_Under
 pQ : Cls K c_Under
 kF : cn "Between" = some c_Between
 mK : Cls K c_Between
 nJ : cn "After" = some c_After
 pU : Cls K c_After
 pS : cn "Same" = some c_Same
 sA : Cls K c_Same
 lP : cn "Within" = some c_Within
 nX : Cls K c_Within
 nK : cn "Apart" = some c_Apart
 pT : Cls K c_Apart
 az0 : NoAttr K c_Archive "first"
 by0 : NoAttr K c_Ink "high"
 ae7 : NoAttr K c_Reign "high"
 aw6 : NoAttr K c_Under "high"
 ae3 : NoAttr K c_Between "high"
 aa7 : NoAttr K c_After "high"
 bk0 : NoAttr K c_Same "high"
 ai5 : NoAttr K c_Within "high"
 ad7 : NoAttr K c_Apart "high"
 ag3 : NoAttr K c_Archive "inks"
 yV : NoAttr K c_Archive "letters"
 bj4 : NoAttr K c_Ink "low"
 ay9 : NoAttr K c_Reign "low"
 bc0 : NoAttr K c_Under "low"
 ae5 : NoAttr K c_Between "low"
 bd0 : NoAttr K c_After "low"
 bb1 : NoAttr K c_Same "low"
 ab7 : NoAttr K c_Within "low"
 bb0 : NoAttr K c_Apart "low"
 yW : NoAttr K c_Archive "present"
 zP : NoAttr K c_Archive "reigns"
 ac7 : NoAttr K c_Ink "spoken"
 ah3 : NoAttr K c_Reign "spoken"
 ax2 : NoAttr K c_Under "spoken"
 zO : NoAttr K c_Between "spoken"
 az2 : NoAttr K c_After "spoken"
 af5 : NoAttr K c_Same "spoken"
 ae1 : NoAttr K c_Within "spoken"
 as2 : NoAttr K c_Apart "spoken"
 bh1 : NoAttr K c_Ink "text"
 aj7 : NoAttr K c_Reign "text"
 av6 : NoAttr K c_Under "text"
 ab3 : NoAttr K c_Between "text"
 az6 : NoAttr K c_After "text"
 bn0 : NoAttr K c_Same "text"
 am5 : NoAttr K c_Within "text"
 af7 : NoAttr K c_Apart "text"
section
local macro_rules | `(tactic| walk_at "s") => `(tactic| exact ⟨rfl, rfl, rfl, by decide +kernel, rfl, by decide +kernel, by decide +kernel⟩)
theorem bv0 : bE ["_law_script", "_law_at"] ["_law_script", "_law_at"] (aN vN) := by walk_at "s"
theorem sc_law_names : bE ["_law_cell_here", "_law_some"] ["_law_cell_here"] (aN tY) := by walk_at "s"
theorem sc_law_whirl : bE ["_law_number", "_law_k", "_law_upper", "_law_lower", "_law_found"] ["_law_number", "_law_k"] (aN tX) := by walk_at "s"
theorem sc_law_frame : bE ["_law_script", "_law_most", "_law_cell_here", "_law_span", "_law_first", "_law_names_here", "_law_inks", "_law_k", "_law_dark", "_law_table", "_law_j", "_law_begin", "_law_reigns"] ["_law_script", "_law_most"] (aN uE) := by walk_at "s"
theorem sc_law_row : bE ["_law_cell_here", "_law_many", "_law_rest", "_law_found", "_law_k"] ["_law_cell_here", "_law_many"] (aN xI) := by walk_at "s"
theorem sc_law_hidden : bE ["_law_cell_here", "_law_frame_here", "_law_x"] ["_law_cell_here", "_law_frame_here"] (aN sD) := by walk_at "s"
theorem sc_law_free : bE ["_law_xs", "_law_frame_here", "_law_one", "_law_other", "_law_names_here", "_law_low", "_law_high"] ["_law_xs", "_law_frame_here", "_law_one", "_law_other"] (aN wN) := by walk_at "s"
theorem sc_law_of_one : bE ["_law_number", "_law_frame_here", "_law_letter", "_law_year", "_law_name", "_law_rest", "_law_ink", "_law_table", "_law_error", "_law_dark", "_law_ages", "_law_age", "_law_at", "_law_reign", "_law_begin", "_law_length", "_law_low", "_law_high"] ["_law_number", "_law_frame_here", "_law_letter", "_law_year"] (aN sX) := by walk_at "s"
theorem sc_law_of_two : bE ["_law_number", "_law_frame_here", "_law_letters", "_law_gap", "_law_names_here", "_law_rest", "_law_many", "_law_low", "_law_high", "_law_letter"] ["_law_number", "_law_frame_here", "_law_letters", "_law_gap"] (aN tF) := by walk_at "s"
theorem sc_law_sayings : bE ["_law_cells", "_law_frame_here", "_law_false", "_law_hidden_here", "_law_many", "_law_span", "_law_told", "_law_cell_here", "_law_xs", "_law_one", "_law_years", "_law_other", "_law_k"] ["_law_cells", "_law_frame_here", "_law_false", "_law_hidden_here"] (aN qU) := by walk_at "s"
theorem bs0 : bE ["some"] ["some"] (aN vV) := by walk_at "s"
theorem af0 : bE ["some", "low", "high"] ["some", "low", "high"] (aN oT) := by walk_at "s"
theorem ab8 : bE ["first", "present"] ["first", "present"] (aN uF) := by walk_at "s"
theorem sc_is_made_of : bE ["word", "signs", "most", "sign"] ["word", "signs", "most"] (aN tE) := by walk_at "s"
theorem bh3 : bE ["word"] ["word"] (aN yL) := by walk_at "s"
theorem sc_are_names : bE ["names", "least", "most", "name"] ["names", "least", "most"] (aN uC) := by walk_at "s"
theorem sc_is_table : bE ["some", "dark", "age"] ["some"] (aN vZ) := by walk_at "s"
theorem sc_are_inks : bE ["inks", "name", "table"] ["inks"] (aN wP) := by walk_at "s"
theorem br0 : bE ["begin", "length"] ["begin", "length"] (aN wF) := by walk_at "s"
theorem sc_are_reigns : bE ["reigns", "name", "begin", "length"] ["reigns"] (aN sN) := by walk_at "s"
theorem sc_Archive_init : bE ["self", "first", "present", "letters", "inks", "reigns", "name", "table"] ["self", "first", "present", "letters", "inks", "reigns"] (aN iC) := by walk_at "s"
theorem sc_law_archive : bE ["_law_frame_here", "_law_inks", "_law_name", "_law_table"] ["_law_frame_here"] (aN qZ) := by walk_at "s"
theorem sc_is_due : bE ["archive", "due", "part", "ink", "reign"] ["archive", "due", "part"] (aN ae0) := by walk_at "s"
theorem sc_are_due : bE ["archive", "word", "parts", "due", "part"] ["archive", "word", "parts"] (aN xU) := by walk_at "s"
theorem sc_Archive_table : bE ["self", "name", "other", "table"] ["self", "name"] (aN gP) := by walk_at "s"
theorem sc_ages_of : bE ["table", "dark", "error", "greatest", "last", "ages", "most", "age"] ["table", "dark", "error", "greatest"] (aN yH) := by walk_at "s"
theorem sc_Saying_init : bE ["self", "archive", "word", "parts", "low", "high", "names", "part", "due", "name"] ["self", "archive", "word", "parts", "low", "high"] (aN cE) := by walk_at "s"
theorem sc_ink_saying : bE ["archive", "parts", "ages"] ["archive", "parts"] (aN sP) := by walk_at "s"
theorem sc_reign_called : bE ["archive", "name", "reign"] ["archive", "name"] (aN pG) := by walk_at "s"
theorem ak6 : bE ["begin", "length", "k"] ["begin", "length", "k"] (aN sT) := by walk_at "s"
theorem sc_reign_saying : bE ["archive", "parts", "reign", "year"] ["archive", "parts"] (aN pM) := by walk_at "s"
theorem sc_under_saying : bE ["archive", "parts", "reign"] ["archive", "parts"] (aN pF) := by walk_at "s"
theorem zM : bE ["archive", "parts"] ["archive", "parts"] (aN nI) := by walk_at "s"
theorem ac2 : bE ["archive", "parts"] ["archive", "parts"] (aN pP) := by walk_at "s"
theorem an4 : bE ["archive", "parts"] ["archive", "parts"] (aN qX) := by walk_at "s"
theorem ag0 : bE ["archive", "parts"] ["archive", "parts"] (aN oK) := by walk_at "s"
theorem ai1 : bE ["archive", "parts"] ["archive", "parts"] (aN pJ) := by walk_at "s"
theorem az7 : bE ["archive", "word", "parts"] ["archive", "word", "parts"] (aN tU) := by walk_at "s"
theorem sc_law_heap : bE ["_law_archive_here", "_law_told", "_law_word", "_law_parts", "_law_letters", "_law_bounds"] ["_law_archive_here", "_law_told"] (aN wG) := by walk_at "s"
theorem sc_law_steps : bE ["_law_frame_here", "_law_told", "_law_found", "_law_k", "_law_letters", "_law_low", "_law_high", "_law_other", "_law_letter"] ["_law_frame_here", "_law_told"] (aN uK) := by walk_at "s"
theorem eS : bE ["self"] ["self"] (aN bS) := by walk_at "s"
theorem eM : bE ["self"] ["self"] (aN bO) := by walk_at "s"
theorem sc_saying_steps : bE ["saying", "number", "letters", "bounds", "other", "steps"] ["saying", "number"] (aN pN) := by walk_at "s"
theorem al6 : bE ["archive", "letter"] ["archive", "letter"] (aN sC) := by walk_at "s"
theorem sc_steps_of : bE ["archive", "sayings", "steps", "number", "saying", "letter"] ["archive", "sayings"] (aN vF) := by walk_at "s"
theorem al8 : bE ["_law_found"] ["_law_found"] (aN uA) := by walk_at "s"
theorem sc_law_same : bE ["_law_found", "_law_due", "_law_one", "_law_step", "_law_part"] ["_law_found", "_law_due"] (aN vI) := by walk_at "s"
theorem sc_law : bE ["_law_script", "_law_frame_here", "_law_hidden_here", "_law_told", "_law_archive_here", "_law_sayings_here", "_law_handed", "_law_due", "_law_found", "_law_alone"] ["_law_script"] (aN rV) := by walk_at "s"
variable {P : Program} {w : World} {K : PySem.W.Frag} {cn : Str → Option Addr} {mg : Str → Option Value} {base : Heap} {c_Archive c_Ink c_Reign c_Under c_Between c_After c_Same c_Within c_Apart : Addr} {nY rZ : List (Str × Value)} (T : Txt w K cn mg c_Archive c_Ink c_Reign c_Under c_Between c_After c_Same c_Within c_Apart nY rZ)
include T
theorem cd1 : iQ K cn ["Archive"] "first" := bC T.kE T.mL T.az0 (gZ)
theorem ca4 : iQ K cn ["Ink", "Reign", "Under", "Between", "After", "Same", "Within", "Apart"] "high" := bC T.tH T.vE T.by0 (bC T.nL T.pR T.ae7 (bC T.nM T.pQ T.aw6 (bC T.kF T.mK T.ae3 (bC T.nJ T.pU T.aa7 (bC T.pS T.sA T.bk0 (bC T.lP T.nX T.ai5 (bC T.nK T.pT T.ad7 (gZ))))))))
theorem cu4 : iQ K cn ["Archive"] "inks" := bC T.kE T.mL T.ag3 (gZ)
theorem bq3 : iQ K cn ["Archive"] "letters" := bC T.kE T.mL T.yV (gZ)
theorem cm6 : iQ K cn ["Ink", "Reign", "Under", "Between", "After", "Same", "Within", "Apart"] "low" := bC T.tH T.vE T.bj4 (bC T.nL T.pR T.ay9 (bC T.nM T.pQ T.bc0 (bC T.kF T.mK T.ae5 (bC T.nJ T.pU T.bd0 (bC T.pS T.sA T.bb1 (bC T.lP T.nX T.ab7 (bC T.nK T.pT T.bb0 (gZ))))))))
theorem bm3 : iQ K cn ["Archive"] "present" := bC T.kE T.mL T.yW (gZ)
theorem ba5 : iQ K cn ["Archive"] "reigns" := bC T.kE T.mL T.zP (gZ)
theorem bf6 : iQ K cn ["Ink", "Reign", "Under", "Between", "After", "Same", "Within", "Apart"] "spoken" := bC T.tH T.vE T.ac7 (bC T.nL T.pR T.ah3 (bC T.nM T.pQ T.ax2 (bC T.kF T.mK T.zO (bC T.nJ T.pU T.az2 (bC T.pS T.sA T.af5 (bC T.lP T.nX T.ae1 (bC T.nK T.pT T.as2 (gZ))))))))
theorem co5 : iQ K cn ["Ink", "Reign", "Under", "Between", "After", "Same", "Within", "Apart"] "text" := bC T.tH T.vE T.bh1 (bC T.nL T.pR T.aj7 (bC T.nM T.pQ T.av6 (bC T.kF T.mK T.ab3 (bC T.nJ T.pU T.az6 (bC T.pS T.sA T.bn0 (bC T.lP T.nX T.am5 (bC T.nK T.pT T.af7 (gZ))))))))
theorem cf0 : aa0 K cn 2 tm_table [(c_Archive, aV K cn 2 eR)] := dU T.kE (aq0)
theorem bz7 : aa0 K cn 1 tm_about [(c_Ink, aV K cn 1 aR), (c_Reign, aV K cn 1 aR), (c_Under, aV K cn 1 aR), (c_Between, aV K cn 1 aR), (c_After, aV K cn 1 aR), (c_Same, aV K cn 1 aR), (c_Within, aV K cn 1 aR), (c_Apart, aV K cn 1 aR)] := dU T.tH (dU T.nL (dU T.nM (dU T.kF (dU T.nJ (dU T.pS (dU T.lP (dU T.nK (aq0))))))))
theorem bg6 : aa0 K cn 1 tm_bounds [(c_Ink, aV K cn 1 aQ), (c_Reign, aV K cn 1 aQ), (c_Under, aV K cn 1 aQ), (c_Between, aV K cn 1 aQ), (c_After, aV K cn 1 aQ), (c_Same, aV K cn 1 aQ), (c_Within, aV K cn 1 aQ), (c_Apart, aV K cn 1 aQ)] := dU T.tH (dU T.nL (dU T.nM (dU T.kF (dU T.nJ (dU T.pS (dU T.lP (dU T.nK (aq0))))))))
local macro_rules | `(tactic| walk_at "b") => `(tactic| first | exact .inl rfl | exact .inr rfl)
local macro_rules | `(tactic| walk_at "rr") => `(tactic| first | exact di1 | exact df1 | exact dv2 | exact co7 | exact dc5 | exact dx4 | exact dv3 | exact dc4 | exact dv0 | exact cn3 | exact dy4 | exact dx2 | exact dq4 | exact dr4 | exact dj4)
local macro_rules | `(tactic| walk_at "rc") => `(tactic| first | exact dk0 | exact cz9 | exact dk1 | exact dw3 | exact dp3 | exact cf6 | exact dl0 | exact bo8 | exact cw0 | exact cn9 | exact dj3)
local macro_rules | `(tactic| walk_at "rf") => `(tactic| first | exact cd1 ‹_› | exact ca4 ‹_› | exact cu4 ‹_› | exact bq3 ‹_› | exact cm6 ‹_› | exact bm3 ‹_› | exact ba5 ‹_› | exact bf6 ‹_› | exact co5 ‹_›)
local macro_rules | `(tactic| walk_at "r") => `(tactic| with_reducible first
 | exact ct6 _
 | exact dg0
 | exact ci5
 | (refine dx3 ?_ ?_ <;> walk_at "r")
 | (refine cw6 ?_ ?_; walk_at "rf"; walk_at "r")
 | (refine RE.rb (mv := []) ?_; walk_at "r")
 | (refine bg8 ?_ ?_ <;> walk_at "r")
 | (refine dr3 ?_ ?_ ?_; walk_at "rr"; walk_at "r"; walk_at "r")
 | (apply dz2; walk_at "r"; walk_at "r"; with_unfolding_all exact rfl; with_unfolding_all exact rfl)
 | exact ca9
 | exact cx8
 | (refine RB.chk ?_; walk_at "r")
 | (refine cb7 ?_ ?_ <;> walk_at "r")
 | (refine bc4 ?_ ?_ ?_ ?_ ?_ ?_; walk_at "r"; walk_at "r"; walk_at "r"; walk_at "r"; with_unfolding_all exact rfl; with_unfolding_all exact rfl)
 | (apply bo6 <;> walk_at "r")
 | (refine bt1 _ ?_; with_unfolding_all exact rfl)
 | (refine cv8 ?_; walk_at "r")
 | (refine dh2 ?_ ?_; walk_at "rc"; walk_at "r")
 | (refine cw7 ?_; walk_at "r")
 | (refine dq2 ?_ ?_ ?_ <;> walk_at "r")
 | exact cz3
 | exact ce5
 | exact cs7
 | exact cv6
 | exact dk3
 | exact dx1
 | (refine bs1 ?_; walk_at "r")
 | (refine cz5 ?_; walk_at "r")
 | (refine cf9 ?_; walk_at "r")
 | (refine cn6 ?_ ?_ <;> walk_at "r")
 | (refine dd3 ?_ ?_ <;> walk_at "r")
 | (apply cn8; walk_at "r")
 | (apply cb9; walk_at "r")
 | exact do0 _
 | (apply cd7; walk_at "r")
 | exact cy2
 | (apply cw5; walk_at "r"; walk_at "r"; with_unfolding_all exact rfl)
 | (apply ck8 <;> walk_at "r")
 | (refine cv4 ?_; walk_at "r")
 | (refine dk4 ?_; walk_at "r")
 | (refine da5 ?_; walk_at "r")
 | (refine cm4 ?_; walk_at "r")
 | (refine ca5 ?_; walk_at "r")
 | (refine df0 ?_; walk_at "r")
 | exact ce7 _
 | (refine ch6 ?_ ?_ ?_; walk_at "r"; walk_at "r"; with_unfolding_all exact rfl)
 | (refine cl7 ?_ ?_ ?_ ?_; (first | exact dg3 | exact dn0 | exact dc2); walk_at "r"; walk_at "r"; with_unfolding_all exact rfl)
 | (refine cp6 ?_ ?_ ?_; walk_at "rf"; walk_at "r"; walk_at "r")
 | (refine bg2 ?_ ?_ ?_ ?_ ?_; walk_at "r"; walk_at "r"; walk_at "r"; walk_at "r"; with_unfolding_all exact rfl)
 | (refine dq1 dp4 ?_ ?_ ?_ <;> walk_at "r")
 | exact cj4
 | (refine cc3 ?_; walk_at "r")
 | (refine dq0 do2 ?_; walk_at "r")
 | (refine ck0 ?_ ?_ ?_ ?_ ?_; walk_at "rr"; walk_at "rr"; walk_at "r"; walk_at "r"; walk_at "r")
 | (refine cb3 ?_ ?_ <;> walk_at "r")
 | (refine cd4 ?_; walk_at "r")
 | (refine ds0 ?_ ?_ ?_ <;> walk_at "r")
 | (refine cq6 ?_ ?_ <;> walk_at "r")
 | (refine RE.frz ?_; walk_at "r")
 | (refine RE.frz1 ?_; walk_at "r")
 | (refine cu0 ?_ ?_ ?_; (first | exact bz7 ‹_› | exact bg6 ‹_› | exact cf0 ‹_›); walk_at "r"; walk_at "r")
 | (refine ct3 ?_ ?_; (first | exact Txt.nJ ‹_› | exact Txt.nK ‹_› | exact Txt.kE ‹_› | exact Txt.kF ‹_› | exact Txt.tH ‹_› | exact Txt.nL ‹_› | exact Txt.pS ‹_› | exact Txt.nM ‹_› | exact Txt.lP ‹_›); walk_at "r")
 | (refine cw4 ?_ ?_; (first | exact Txt.g_NUMBERS ‹_› | exact Txt.g_PARTS ‹_›); walk_at "r")
 | (refine cy3 ?_ ?_; (first | exact Txt.g_NUMBERS ‹_› | exact Txt.g_PARTS ‹_›); walk_at "r")
 | (refine ct2 bw6 cr3 ?_ ?_ <;> walk_at "r")
 | (refine ct2 bu4 cz7 ?_ ?_ <;> walk_at "r")
 | (with_unfolding_all refine bs1 ?_; walk_at "r")
 | (refine bd8 ?_ ?_ <;> walk_at "r"))
theorem jZ (F : cJ K mg "_law_cell" vN)  : bW P w K mg base 1 "_law_cell" ["_law_script", "_law_at"] (aV K cn 2 eD) := by
 refine bK (d := rR) F bv0 (fun _ _ _ _ _ _ us hl => match us, hl with | [_, _], _ => rfl) (fun f cdv A outer s H E hr => ⟨_, (aJ (cO (bP vG (pv 1) (aU (cM K) rfl T.eJ dM (aB (pv 0) aH)) (bU _)) (aM (aW (aP (aT K) (pv 0) (pv 1) (fun _ _ => rfl)))) bN)
 (aM (aW aF))), by unfold rR; walk_at "r"⟩) rfl (fun _ => rfl)
theorem uB (F : cJ K mg "_law_names" tY)  : bW P w K mg base 1 "_law_names" ["_law_cell_here"] (aV K cn 1 mP) := by
 refine bK (d := pW) F sc_law_names (fun _ _ _ _ _ _ us hl => match us, hl with | [_], _ => rfl) (fun f cdv A outer s H E hr => ⟨_, (aJ (bF (i := 1) sc_law_names.nd rfl (by walk_at "b") (dQ (aB bX (aB bX (aB bX (aB bX (aB bX (aB bX (aB bX (aB bX aH))))))))))
 (aM (aW (aL (bH K) (lO (xO K) (pv 1) (jJ (aL bM (pv 0) aF)) pC) (lO (xO K) (pv 1) pC (jJ (aL bM (pv 0) aF))))))), by unfold pW; walk_at "r"⟩) rfl (fun _ => rfl)
theorem dO (F : cJ K mg "_law_whirl" tX)  : bW P w K mg base 1 "_law_whirl" ["_law_number", "_law_k"] (aV K cn 2 dA) := by
 refine bK (d := qB) F sc_law_whirl (fun _ _ _ _ _ _ us hl => match us, hl with | [_, _], _ => rfl) (fun f cdv A outer s H E hr => ⟨_, (aJ (bF (i := 0) sc_law_whirl.nd rfl (by walk_at "b") (aL (bH K) (aL (bH K) (aL bM (pv 0) aF) (aL jI aF (pv 1))) aF))
 (aJ (at9 (aU (ah9 K) rfl T.cp1 bl5 (aB (aL bM (aL jI (pv 0) aF) aF) (aB aF aH))) (fT K 2 rfl (bQ (aY (i := 2) sc_law_whirl.nd rfl (by walk_at "b")) (bQ (aY (i := 3) sc_law_whirl.nd rfl (by walk_at "b")) fR))))
 (aJ (bF (i := 4) sc_law_whirl.nd rfl (by walk_at "b") (aL (bH K) (aL (bH K) (aL (bH K) (aL jI (pv 2) (pv 3)) (aL jI aF (pv 2))) (aL jI aF (pv 3))) (pv 1)))
 (aM (aW (aL bM (aL jI (pv 4) (aL (bH K) (aL bM (pv 4) aF) aF)) aF)))))), by unfold qB; walk_at "r"⟩) rfl (fun _ => rfl)
theorem tT (F : cJ K mg "_law_frame" uE) (jZ : bW P w K mg base 1 "_law_cell" ["_law_script", "_law_at"] (aV K cn 2 eD)) (uB : bW P w K mg base 1 "_law_names" ["_law_cell_here"] (aV K cn 1 mP)) (dO : bW P w K mg base 1 "_law_whirl" ["_law_number", "_law_k"] (aV K cn 2 dA)) : bW P w K mg base 2 "_law_frame" ["_law_script", "_law_most"] (aV K cn 2 kK) := by
 refine bK (d := qA) F sc_law_frame (fun _ _ _ _ _ _ us hl => match us, hl with | [_, _], _ => rfl) (fun f cdv A outer s H E hr => ⟨_, (aJ (bF (i := 2) sc_law_frame.nd rfl (by walk_at "b") (aL bM (bG jZ (hr.mono (by decide)) (aB (pv 0) (aB aF aH))) (aL an8 aF aF)))
 (aJ (bF (i := 3) sc_law_frame.nd rfl (by walk_at "b") (aP (aT K) (dQ (aB aF (aB aF (aB aF (aB aF (aB aF (aB aF (aB aF (aB aF aH))))))))) (aL bM (pv 2) aF) (fun _ _ => rfl)))
 (aJ (bF (i := 4) sc_law_frame.nd rfl (by walk_at "b") (aP (aT K) (dQ (aB (qJ mV aF) (aB (aL cR aF (pv 3)) (aB (qJ mV aF) (aB aF aH))))) (aL bM (aL fB (pv 2) aF) aF) (fun _ _ => rfl)))
 (aJ (bF (i := 5) sc_law_frame.nd rfl (by walk_at "b") (lO (xO K) (bG uB (hr.mono (by decide)) (aB (aL fB (pv 2) aF) aH)) pC (jJ (aL (bH K) aF (aL bM (aL fB (pv 2) aF) (pv 1))))))
 (aJ (bF (i := 6) sc_law_frame.nd rfl (by walk_at "b") (dQ aH))
 (aJ (iP PassesOwn.never rfl (iB rfl T.jN (aB (aL (bH K) aF (aL bM (bG dO (hr.mono (by decide)) (aB (pv 2) (aB aF aH))) aF)) aH)) (aY (i := 7) sc_law_frame.nd rfl (by walk_at "b")) (aJ (bF (i := 8) sc_law_frame.nd rfl (by walk_at "b") (aL (bH K) aF (aL bM (aL fB (pv 2) aF) aF)))
 (aJ (bF (i := 9) sc_law_frame.nd rfl (by walk_at "b") (dQ (aB (pv 8) aH)))
 (aJ (iP PassesOwn.never rfl (iB rfl T.jN (aB (aL bM (bG dO (hr.mono (by decide)) (aB (pv 2) (aB (pv 7) aH))) (aP (aT K) (dQ (aB aF (aB aF aH))) (aL fB (aL bM (aL fB (pv 2) aF) aF) aF) (fun _ _ => rfl))) aH)) (aY (i := 10) sc_law_frame.nd rfl (by walk_at "b")) (aJ (bF (i := 8) sc_law_frame.nd rfl (by walk_at "b") (aU (qP K) rfl T.aa3 yP (aB aF (aB (aL cR (pv 8) (aL bM (bG dO (hr.mono (by decide)) (aB (pv 2) (aB (aL (bH K) (aL jI aF (pv 10)) (pv 7)) aH))) aF)) aH))))
 (aM (dY (eP K PySem.F.plainAttrs_list PySem.F.slot_list_append PySem.F.type_list_append dR (pv 9) (aB (pv 8) aH))))))
 (aM (dY (eP K PySem.F.plainAttrs_list PySem.F.slot_list_append PySem.F.type_list_append dR (pv 6) (aB (bZ (aB (aP (aT K) (dQ (aB bX (aB bX (aB bX (aB bX (aB bX (aB bX aH))))))) (pv 7) (fun _ _ => rfl)) (aB (pv 9) aH))) aH))))))))
 (aJ (bF (i := 11) sc_law_frame.nd rfl (by walk_at "b") (aL (bH K) (aL cR (pv 4) aF) (aL bM (bG dO (hr.mono (by decide)) (aB (pv 2) (aB aF aH))) (aL (bH K) (pv 3) aF))))
 (aJ (bF (i := 12) sc_law_frame.nd rfl (by walk_at "b") (dQ (aB (bZ (aB bX (aB (pv 11) (aB (aL (bH K) aF (aL bM (bG dO (hr.mono (by decide)) (aB (pv 2) (aB aF aH))) aF)) aH)))) (aB (bZ (aB bX (aB (aL (bH K) (pv 11) aF) (aB (aL (bH K) aF (aL bM (bG dO (hr.mono (by decide)) (aB (pv 2) (aB aF aH))) aF)) aH)))) aH))))
 (aJ (iP PassesOwn.never rfl (iB rfl T.jN (aB (aL bM (bG dO (hr.mono (by decide)) (aB (pv 2) (aB aF aH))) aF) aH)) (aY (i := 7) sc_law_frame.nd rfl (by walk_at "b")) (aJ (bF (i := 11) sc_law_frame.nd rfl (by walk_at "b") (aL cR (aL (bH K) (pv 11) (aL bM (bG dO (hr.mono (by decide)) (aB (pv 2) (aB (aL (bH K) aF (pv 7)) aH))) aF)) aF))
 (aM (dY (eP K PySem.F.plainAttrs_list PySem.F.slot_list_insert PySem.F.type_list_insert bk7 (pv 12) (aB aF (aB (bZ (aB (aP (aT K) (dQ (aB bX (aB bX (aB bX (aB bX (aB bX (aB bX aH))))))) (pv 7) (fun _ _ => rfl)) (aB (pv 11) (aB (aL (bH K) aF (aL bM (bG dO (hr.mono (by decide)) (aB (pv 2) (aB (aL (bH K) aF (pv 7)) aH))) aF)) aH)))) aH)))))))
 (aM (aW (bZ (aB (pv 4) (aB (aL (bH K) (pv 4) (pv 3)) (aB (pv 5) (aB (pv 6) (aB (pv 12) aH))))))))))))))))), by unfold qA; walk_at "r"⟩) rfl (fun _ => rfl)
theorem qM (F : cJ K mg "_law_row" xI) (dO : bW P w K mg base 1 "_law_whirl" ["_law_number", "_law_k"] (aV K cn 2 dA)) : bW P w K mg base 2 "_law_row" ["_law_cell_here", "_law_many"] (aV K cn 2 jT) := by
 refine bK (d := tO) F sc_law_row (fun _ _ _ _ _ _ us hl => match us, hl with | [_, _], _ => rfl) (fun f cdv A outer s H E hr => ⟨_, (aJ (bF (i := 2) sc_law_row.nd rfl (by walk_at "b") (aL bM (aU (xQ K) rfl T.bh4 ah8 (aB (pv 0) aH)) (aL an8 aF aF)))
 (aJ (bF (i := 3) sc_law_row.nd rfl (by walk_at "b") (dQ aH))
 (aJ (iP PassesOwn.never rfl (iB rfl T.jN (aB (pv 1) aH)) (aY (i := 4) sc_law_row.nd rfl (by walk_at "b")) (aM (cO (PW.pt (tI (bP vG (pv 0) aF (bU _)) (sV (bP cj2 (pv 0) (aL an8 aF aF) (bU _))))) (aJ (dY (eP K PySem.F.plainAttrs_list PySem.F.slot_list_append PySem.F.type_list_append dR (pv 3) (aB (aL bM (pv 2) aF) aH)))
 (aM (bF (i := 2) sc_law_row.nd rfl (by walk_at "b") (aL fB (pv 2) aF)))) (aM (dY (eP K PySem.F.plainAttrs_list PySem.F.slot_list_append PySem.F.type_list_append dR (pv 3) (aB (bG dO (hr.mono (by decide)) (aB (aL (bH K) (bG dO (hr.mono (by decide)) (aB (pv 0) (aB (pv 4) aH))) (pv 0)) (aB (pv 4) aH))) aH)))))))
 (aM (aW (pv 3)))))), by unfold tO; walk_at "r"⟩) rfl (fun _ => rfl)
theorem sI (F : cJ K mg "_law_hidden" sD) (qM : bW P w K mg base 2 "_law_row" ["_law_cell_here", "_law_many"] (aV K cn 2 jT)) : bW P w K mg base 3 "_law_hidden" ["_law_cell_here", "_law_frame_here"] (aV K cn 2 jH) := by
 refine bK (d := oI) F sc_law_hidden (fun _ _ _ _ _ _ us hl => match us, hl with | [_, _], _ => rfl) (fun f cdv A outer s H E hr => ⟨_, (aM (aW (fE (ks := [2]) ⟨rfl, by decide +kernel, by decide +kernel, by rfl, by rfl⟩ rfl (iW K (bG qM (hr.mono (by decide)) (aB (pv 0) (aB (aU (cM K) rfl T.eJ dM (aB (aP (aT K) (pv 1) aF (fun _ _ => rfl)) aH)) aH)))) (fun _ _ _ _ _ => (aY (i := 2) sc_law_hidden.nd rfl (by walk_at "b"))) (fun _ _ _ _ _ => eH) (fun _ _ _ _ _ => (aL (bH K) (aP (aT K) (pv 1) aF (fun _ _ => rfl)) (aL bM (pv 2) (aL (bH K) (aL cR (aP (aT K) (pv 1) aF (fun _ _ => rfl)) (aP (aT K) (pv 1) aF (fun _ _ => rfl))) aF))))))), by unfold oI; walk_at "r"⟩) rfl (fun _ => rfl)
theorem vO (F : cJ K mg "_law_free" wN)  : bW P w K mg base 1 "_law_free" ["_law_xs", "_law_frame_here", "_law_one", "_law_other"] (aV K cn 4 oP) := by
 refine bK (d := rP) F sc_law_free (fun _ _ _ _ _ _ us hl => match us, hl with | [_, _, _, _], _ => rfl) (fun f cdv A outer s H E hr => ⟨_, (aJ (bF (i := 4) sc_law_free.nd rfl (by walk_at "b") (dQ (aB (aP (aT K) (aP (aT K) (pv 1) aF (fun _ _ => rfl)) (pv 2) (fun _ _ => rfl)) (aB (aP (aT K) (aP (aT K) (pv 1) aF (fun _ _ => rfl)) (pv 3) (fun _ _ => rfl)) aH))))
 (aJ (cO (PW.pt (tI (bP (dX K (n := bV) hr) (pv 2) (pv 3) (bU _)) (sV (bP (dX K (n := bV) hr) (aL bM (aP (aT K) (pv 0) aF (fun _ _ => rfl)) aF) aF (bU _))))) (aJ (bF (i := 5) sc_law_free.nd rfl (by walk_at "b") (aL (bH K) (aL cR (aP (aT K) (pv 1) aF (fun _ _ => rfl)) aF) (aL bM (aP (aT K) (pv 0) aF (fun _ _ => rfl)) (aL (bH K) (aL cR (aP (aT K) (pv 1) aF (fun _ _ => rfl)) (aP (aT K) (pv 1) aF (fun _ _ => rfl))) aF))))
 (aJ (bF (i := 6) sc_law_free.nd rfl (by walk_at "b") (aL (bH K) (pv 5) (aL bM (aP (aT K) (pv 0) aF (fun _ _ => rfl)) aF)))
 (aM (aW (bZ (aB bX (aB (aL (bH K) (lO (xO K) (pv 4) pC (jJ aF)) (dQ (aB (pv 5) (aB (pv 6) aH)))) (aB (bZ (aB (pv 2) aH)) (aB (bZ (aB (pv 5) (aB (pv 6) aH))) aH))))))))) bN)
 (aJ (bF (i := 5) sc_law_free.nd rfl (by walk_at "b") (aL cR (aL bM (aP (aT K) (pv 0) aF (fun _ _ => rfl)) aF) aF))
 (aJ (bF (i := 6) sc_law_free.nd rfl (by walk_at "b") (aU (kU K) rfl T.wV sU (aB aF (aB (aL (bH K) (pv 5) (aL bM (aP (aT K) (pv 0) aF (fun _ _ => rfl)) aF)) aH))))
 (aM (aW (bZ (aB bX (aB (aL (bH K) (pv 4) (dQ (aB (pv 5) (aB (pv 6) aH)))) (aB (bZ (aB (pv 2) (aB (pv 3) aH))) (aB (bZ (aB (pv 5) (aB (pv 6) aH))) aH))))))))))), by unfold rP; walk_at "r"⟩) rfl (fun _ => rfl)
theorem sO (F : cJ K mg "_law_of_one" sX)  : bW P w K mg base 1 "_law_of_one" ["_law_number", "_law_frame_here", "_law_letter", "_law_year"] (aV K cn 4 lA) := by
 refine bK (d := oF) F sc_law_of_one (fun _ _ _ _ _ _ us hl => match us, hl with | [_, _, _, _], _ => rfl) (fun f cdv A outer s H E hr => ⟨_, (aJ (bF (i := 4) sc_law_of_one.nd rfl (by walk_at "b") (aP (aT K) (aP (aT K) (pv 1) aF (fun _ _ => rfl)) (pv 2) (fun _ _ => rfl)))
 (aJ (bF (i := 5) sc_law_of_one.nd rfl (by walk_at "b") (aL fB (pv 0) aF))
 (aJ (cO (bP (dX K (n := bV) hr) (aL bM (pv 0) aF) aF (bU _)) (aJ (at9 (aP (aT K) (aP (aT K) (pv 1) aF (fun _ _ => rfl)) (aL bM (pv 5) (aU (cM K) rfl T.eJ dM (aB (aP (aT K) (pv 1) aF (fun _ _ => rfl)) aH))) (fun _ _ => rfl)) (fT K 2 rfl (bQ (aY (i := 6) sc_law_of_one.nd rfl (by walk_at "b")) (bQ (aY (i := 7) sc_law_of_one.nd rfl (by walk_at "b")) fR))))
 (aJ (bF (i := 8) sc_law_of_one.nd rfl (by walk_at "b") (aL bM (aL fB (pv 5) aF) aF))
 (aJ (bF (i := 9) sc_law_of_one.nd rfl (by walk_at "b") (aP (aT K) (pv 7) (aU (kU K) rfl T.wV sU (aB (aL cR (aP (aT K) (pv 1) aF (fun _ _ => rfl)) (pv 3)) (aB (aL cR (aU (cM K) rfl T.eJ dM (aB (pv 7) aH)) aF) aH))) (fun _ _ => rfl)))
 (aJ (bF (i := 9) sc_law_of_one.nd rfl (by walk_at "b") (aU (qP K) rfl T.aa3 yP (aB aF (aB (aL cR (aL (bH K) (pv 9) (aL bM (aL fB (pv 5) aF) (aL (bH K) (aL jI aF (pv 8)) aF))) (pv 8)) aH))))
 (aJ (bF (i := 10) sc_law_of_one.nd rfl (by walk_at "b") (dQ aH))
 (aJ (iP PassesOwn.never rfl (iB rfl T.jN (aB (aL (bH K) (aL cR (aP (aT K) (pv 1) aF (fun _ _ => rfl)) (aP (aT K) (pv 1) aF (fun _ _ => rfl))) aF) aH)) (aY (i := 11) sc_law_of_one.nd rfl (by walk_at "b")) (aM (cO (bP kN (aU (xQ K) rfl T.bh4 ah8 (aB (aL cR (aP (aT K) (pv 7) (aU (kU K) rfl T.wV sU (aB (pv 11) (aB (aL cR (aU (cM K) rfl T.eJ dM (aB (pv 7) aH)) aF) aH))) (fun _ _ => rfl)) (pv 9)) aH)) (pv 8) (bU _)) (aM (dY (eP K PySem.F.plainAttrs_list PySem.F.slot_list_append PySem.F.type_list_append dR (pv 10) (aB (pv 11) aH)))) bN)))
 (aM (aW (bZ (aB bX (aB (dQ (aB (pv 4) (aB (pv 6) (aB (pv 9) (aB (pv 8) aH))))) (aB (bZ (aB (pv 2) aH)) (aB (bZ (aB (aL cR (aP (aT K) (pv 1) aF (fun _ _ => rfl)) (aP (aT K) (pv 10) (qJ mV aF) (fun _ _ => rfl))) (aB (aL cR (aP (aT K) (pv 1) aF (fun _ _ => rfl)) (aP (aT K) (pv 10) aF (fun _ _ => rfl))) aH))) aH))))))))))))) bN)
 (aJ (bF (i := 12) sc_law_of_one.nd rfl (by walk_at "b") (aL bM (aL fB (pv 5) aF) (aU (cM K) rfl T.eJ dM (aB (aP (aT K) (pv 1) aF (fun _ _ => rfl)) aH))))
 (aJ (iP PassesOwn.never rfl (iW K (aL (bH K) (lO (xO K) (aP (aT K) (pv 1) aF (fun _ _ => rfl)) (jJ (pv 12)) pC) (lO (xO K) (aP (aT K) (pv 1) aF (fun _ _ => rfl)) pC (jJ (pv 12))))) (fT K 3 rfl (bQ (aY (i := 13) sc_law_of_one.nd rfl (by walk_at "b")) (bQ (aY (i := 14) sc_law_of_one.nd rfl (by walk_at "b")) (bQ (aY (i := 15) sc_law_of_one.nd rfl (by walk_at "b")) fR)))) (aM (cO (PW.pt (qN (bP (dX K (n := bV) hr) (aL bM (pv 0) aF) aF (bU _)) (nP (vY kN vG (pv 14) (pv 3) (aL (bH K) (pv 14) (pv 15)))))) (aJ (cO (bP (dX K (n := bV) hr) (aL bM (pv 5) aF) aF (bU _)) (aM (aW (bZ (aB bX (aB (dQ (aB (pv 4) (aB (pv 13) (aB (aL (bH K) (aL cR (pv 3) (pv 14)) aF) aH)))) (aB (bZ (aB (pv 2) aH)) (aB (bZ (aB (pv 3) (aB (pv 3) aH))) aH))))))) bN)
 (aM (aW (bZ (aB bX (aB (dQ (aB (pv 4) (aB (pv 13) aH))) (aB (bZ (aB (pv 2) aH)) (aB (bZ (aB (pv 14) (aB (aL cR (aL (bH K) (pv 14) (pv 15)) aF) aH))) aH)))))))) bN)))
 (aJ (bF (i := 16) sc_law_of_one.nd rfl (by walk_at "b") (aU (qP K) rfl T.aa3 yP (aB (qJ mV aF) (aB (aL cR (pv 3) (aL bM (pv 5) aF)) aH))))
 (aJ (bF (i := 17) sc_law_of_one.nd rfl (by walk_at "b") (aU (kU K) rfl T.wV sU (aB aF (aB (aL (bH K) (pv 3) (aL bM (aL fB (pv 5) aF) aF)) aH))))
 (aM (aW (bZ (aB bX (aB (dQ (aB (pv 4) (aB (pv 16) (aB (pv 17) aH)))) (aB (bZ (aB (pv 2) aH)) (aB (bZ (aB (pv 16) (aB (pv 17) aH))) aH)))))))))))))), by unfold oF; walk_at "r"⟩) rfl (fun _ => rfl)
theorem sY (F : cJ K mg "_law_of_two" tF)  : bW P w K mg base 1 "_law_of_two" ["_law_number", "_law_frame_here", "_law_letters", "_law_gap"] (aV K cn 4 lM) := by
 refine bK (d := oJ) F sc_law_of_two (fun _ _ _ _ _ _ us hl => match us, hl with | [_, _, _, _], _ => rfl) (fun f cdv A outer s H E hr => ⟨_, (aJ (oM (i := 4) sc_law_of_two.nd rfl (by walk_at "b") (ks := [9]) ⟨rfl, by decide +kernel, by decide +kernel, by rfl, by rfl⟩ rfl (iW K (pv 2)) (fun _ _ _ _ _ => (aY (i := 9) sc_law_of_two.nd rfl (by walk_at "b"))) (fun _ _ _ _ _ => eH) (fun _ _ _ _ _ => (aP (aT K) (aP (aT K) (pv 1) aF (fun _ _ => rfl)) (pv 9) (fun _ _ => rfl))))
 (aJ (bF (i := 5) sc_law_of_two.nd rfl (by walk_at "b") (aL fB (pv 0) aF))
 (aJ (cO (PW.pt (qN (bP (dX K (n := bV) hr) (pv 3) aF (bU _)) (nP (bP (dX K (n := bV) hr) (aL bM (pv 0) aF) aF (bU _))))) (aM (aW (bZ (aB bX (aB (pv 4) (aB (pv 2) (aB (bZ (aB aF (aB aF aH))) aH))))))) bN)
 (aJ (cO (PW.pt (qN (bP bp2 (pv 3) aF (bU _)) (nP (bP vG (aL bM (pv 0) aF) aF (bU _))))) (aM (aW (bZ (aB bX (aB (pv 4) (aB (pv 2) (aB (bZ (aB aF (aB eN aH))) aH))))))) bN)
 (aJ (cO (PW.pt (qN (bP cj2 (pv 3) aF (bU _)) (nP (bP (dX K (n := bV) hr) (aL bM (pv 0) aF) aF (bU _))))) (aJ (bF (i := 6) sc_law_of_two.nd rfl (by walk_at "b") (aU (kU K) rfl T.wV sU (aB aF (aB (aL (bH K) (pv 3) (aL bM (pv 5) aF)) aH))))
 (aM (aW (bZ (aB bX (aB (aL (bH K) (pv 4) (dQ (aB (pv 6) aH))) (aB (pv 2) (aB (bZ (aB aF (aB (pv 6) aH))) aH)))))))) bN)
 (aJ (bF (i := 7) sc_law_of_two.nd rfl (by walk_at "b") (aU (qP K) rfl T.aa3 yP (aB (qJ mV aF) (aB (aL cR (pv 3) (aL bM (pv 5) aF)) aH))))
 (aJ (bF (i := 8) sc_law_of_two.nd rfl (by walk_at "b") (aU (kU K) rfl T.wV sU (aB aF (aB (aL (bH K) (pv 3) (aL bM (aL fB (pv 5) aF) aF)) aH))))
 (aM (aW (bZ (aB bX (aB (aL (bH K) (pv 4) (dQ (aB (pv 7) (aB (pv 8) aH)))) (aB (pv 2) (aB (bZ (aB (pv 7) (aB (pv 8) aH))) aH)))))))))))))), by unfold oJ; walk_at "r"⟩) rfl (fun _ => rfl)
theorem rA (F : cJ K mg "_law_sayings" qU) (qM : bW P w K mg base 2 "_law_row" ["_law_cell_here", "_law_many"] (aV K cn 2 jT)) (vO : bW P w K mg base 1 "_law_free" ["_law_xs", "_law_frame_here", "_law_one", "_law_other"] (aV K cn 4 oP)) (sO : bW P w K mg base 1 "_law_of_one" ["_law_number", "_law_frame_here", "_law_letter", "_law_year"] (aV K cn 4 lA)) (sY : bW P w K mg base 1 "_law_of_two" ["_law_number", "_law_frame_here", "_law_letters", "_law_gap"] (aV K cn 4 lM)) : bW P w K mg base 3 "_law_sayings" ["_law_cells", "_law_frame_here", "_law_false", "_law_hidden_here"] (aV K cn 4 iJ) := by
 refine bK (d := nE) F sc_law_sayings (fun _ _ _ _ _ _ us hl => match us, hl with | [_, _, _, _], _ => rfl) (fun f cdv A outer s H E hr => ⟨_, (aJ (bF (i := 4) sc_law_sayings.nd rfl (by walk_at "b") (aU (cM K) rfl T.eJ dM (aB (aP (aT K) (pv 1) aF (fun _ _ => rfl)) aH)))
 (aJ (bF (i := 5) sc_law_sayings.nd rfl (by walk_at "b") (aL cR (aP (aT K) (pv 1) aF (fun _ _ => rfl)) (aP (aT K) (pv 1) aF (fun _ _ => rfl))))
 (aJ (bF (i := 6) sc_law_sayings.nd rfl (by walk_at "b") (dQ aH))
 (aJ (iP PassesOwn.never rfl (iW K (pv 0)) (aY (i := 7) sc_law_sayings.nd rfl (by walk_at "b")) (aJ (bF (i := 8) sc_law_sayings.nd rfl (by walk_at "b") (bG qM (hr.mono (by decide)) (aB (pv 7) (aB aF aH))))
 (aJ (bF (i := 9) sc_law_sayings.nd rfl (by walk_at "b") (aL bM (aP (aT K) (pv 8) aF (fun _ _ => rfl)) (pv 4)))
 (aJ (bF (i := 10) sc_law_sayings.nd rfl (by walk_at "b") (fW (fP K) rfl T.kG iL (aB (pv 3) aH)))
 (aJ (cO (PW.pt (qN (dG K (pv 2) (fun _ => rfl)) (nP (bP (dX K (n := bV) hr) (aL bM (aP (aT K) (pv 8) aF (fun _ _ => rfl)) aF) aF (bU _))))) (aM (oM (i := 10) sc_law_sayings.nd rfl (by walk_at "b") (ks := [12]) ⟨rfl, by decide +kernel, by decide +kernel, by rfl, by rfl⟩ rfl (iB rfl T.jN (aB (pv 4) aH)) (fun _ _ _ _ _ => (aY (i := 12) sc_law_sayings.nd rfl (by walk_at "b"))) (fun _ _ _ _ _ => eH) (fun _ _ _ _ _ => (aL (bH K) (aP (aT K) (pv 1) aF (fun _ _ => rfl)) (aL bM (aL (bH K) (aP (aT K) (pv 8) aF (fun _ _ => rfl)) (aL jI (aL jI aF (aP (aT K) (pv 8) aF (fun _ _ => rfl))) (pv 12))) (aL (bH K) (pv 5) aF)))))) bN)
 (aJ (bF (i := 11) sc_law_sayings.nd rfl (by walk_at "b") (aL bM (aL (bH K) (aL (bH K) (pv 9) aF) (aL bM (aL fB (aP (aT K) (pv 8) aF (fun _ _ => rfl)) aF) (aU (qP K) rfl T.aa3 yP (aB aF (aB (aL cR (pv 4) aF) aH))))) (pv 4)))
 (aM (cO (PW.pt (qN (dG K (pv 2) (fun _ => rfl)) (nP (bP (dX K (n := bV) hr) (aL bM (aP (aT K) (pv 8) aF (fun _ _ => rfl)) aF) aF (bU _))))) (aM (dY (eP K PySem.F.plainAttrs_list PySem.F.slot_list_append PySem.F.type_list_append dR (pv 6) (aB (bG vO (hr.mono (by decide)) (aB (pv 8) (aB (pv 1) (aB (pv 9) (aB (pv 11) aH))))) aH)))) (aM (cO (PW.pt (tI (bP (dX K (n := bV) hr) (pv 4) aF (bU _)) (sV (bP vG (aL bM (aP (aT K) (pv 8) aF (fun _ _ => rfl)) aF) aF (bU _))))) (aM (dY (eP K PySem.F.plainAttrs_list PySem.F.slot_list_append PySem.F.type_list_append dR (pv 6) (aB (bG sO (hr.mono (by decide)) (aB (aP (aT K) (pv 8) aF (fun _ _ => rfl)) (aB (pv 1) (aB (pv 9) (aB (aP (aT K) (pv 10) (pv 9) (fun _ _ => rfl)) aH))))) aH)))) (aM (dY (eP K PySem.F.plainAttrs_list PySem.F.slot_list_append PySem.F.type_list_append dR (pv 6) (aB (bG sY (hr.mono (by decide)) (aB (aP (aT K) (pv 8) aF (fun _ _ => rfl)) (aB (pv 1) (aB (bZ (aB (pv 9) (aB (pv 11) aH))) (aB (aL cR (aP (aT K) (pv 10) (pv 9) (fun _ _ => rfl)) (aP (aT K) (pv 10) (pv 11) (fun _ _ => rfl))) aH))))) aH))))))))))))))
 (aM (aW (pv 6))))))), by unfold nE; walk_at "r"⟩) rfl (fun _ => rfl)
theorem wI (F : cJ K mg "is_whole" vV)  : bW P w K mg base 1 "is_whole" ["some"] (aV K cn 1 oC) := by
 refine bK (d := rD) F bs0 (fun _ _ _ _ _ _ us hl => match us, hl with | [_], _ => rfl) (fun f cdv A outer s H E hr => ⟨_, (aM (aW (sE (aU (lL K) rfl T.iH gS (aB (pv 0) (aB (wA T.cw2 bc6) aH))) (tD (bv6 (aU (lL K) rfl T.iH gS (aB (pv 0) (aB (wA T.ba0 af4) aH)))))))), by unfold rD; walk_at "r"⟩) rfl (fun _ => rfl)
theorem cU (F : cJ K mg "is_whole_from" oT) (wI : bW P w K mg base 1 "is_whole" ["some"] (aV K cn 1 oC)) : bW P w K mg base 2 "is_whole_from" ["some", "low", "high"] (aV K cn 3 cG) := by
 refine bK (d := kP) F af0 (fun _ _ _ _ _ _ us hl => match us, hl with | [_, _, _], _ => rfl) (fun f cdv A outer s H E hr => ⟨_, (aM (aW (sE (bG wI (hr.mono (by decide)) (aB (pv 0) aH)) (tD (av0 kN kN (pv 1) (pv 0) (pv 2)))))), by unfold kP; walk_at "r"⟩) rfl (fun _ => rfl)
theorem mW (F : cJ K mg "are_years" uF) (cU : bW P w K mg base 2 "is_whole_from" ["some", "low", "high"] (aV K cn 3 cG)) : bW P w K mg base 3 "are_years" ["first", "present"] (aV K cn 2 kJ) := by
 refine bK (d := qE) F ab8 (fun _ _ _ _ _ _ us hl => match us, hl with | [_, _], _ => rfl) (fun f cdv A outer s H E hr => ⟨_, (aJ (cO (gB (dG K (bG cU (hr.mono (by decide)) (aB (pv 0) (aB (qJ mV (iE T.g_FARTHEST_END)) (aB (iE T.g_FARTHEST_END) aH)))) (fun _ => rfl))) (aM (aW kO)) bN)
 (aJ (cO (gB (dG K (bG cU (hr.mono (by decide)) (aB (pv 1) (aB (qJ mV (iE T.g_FARTHEST_END)) (aB (iE T.g_FARTHEST_END) aH)))) (fun _ => rfl))) (aM (aW kO)) bN)
 (aM (aW (av0 kN kN aF (aL cR (pv 1) (pv 0)) (iE T.g_LONGEST_SPAN)))))), by unfold qE; walk_at "r"⟩) rfl (fun _ => rfl)
theorem sF (F : cJ K mg "is_made_of" tE)  : bW P w K mg base 1 "is_made_of" ["word", "signs", "most"] (aV K cn 3 kW) := by
 refine bK (d := oW) F sc_is_made_of (fun _ _ _ _ _ _ us hl => match us, hl with | [_, _, _], _ => rfl) (fun f cdv A outer s H E hr => ⟨_, (aM (aW (sE (av0 kN kN aF (aU (cM K) rfl T.eJ dM (aB (pv 0) aH)) (pv 2)) (tD (aU (lC K) rfl T.wU sS (aB (fE (ks := [3]) ⟨rfl, by decide +kernel, by decide +kernel, by rfl, by rfl⟩ rfl (iW K (pv 0)) (fun _ _ _ _ _ => (aY (i := 3) sc_is_made_of.nd rfl (by walk_at "b"))) (fun _ _ _ _ _ => eH) (fun _ _ _ _ _ => (pK (am2 K (n := bV) hr) (pv 3) (pv 1) (by with_unfolding_all rfl)))) aH)))))), by unfold oW; walk_at "r"⟩) rfl (fun _ => rfl)
theorem yM (F : cJ K mg "is_name" yL) (sF : bW P w K mg base 1 "is_made_of" ["word", "signs", "most"] (aV K cn 3 kW)) : bW P w K mg base 2 "is_name" ["word"] (aV K cn 1 nT) := by
 refine bK (d := tM) F bh3 (fun _ _ _ _ _ _ us hl => match us, hl with | [_], _ => rfl) (fun f cdv A outer s H E hr => ⟨_, (aM (aW (bG sF (hr.mono (by decide)) (aB (pv 0) (aB (iE T.g_LETTERS) (aB (iE T.g_MOST_LETTERS_words) aH)))))), by unfold tM; walk_at "r"⟩) rfl (fun _ => rfl)
theorem gJ (F : cJ K mg "are_names" uC) (yM : bW P w K mg base 2 "is_name" ["word"] (aV K cn 1 nT)) : bW P w K mg base 3 "are_names" ["names", "least", "most"] (aV K cn 3 fK) := by
 refine bK (d := qG) F sc_are_names (fun _ _ _ _ _ _ us hl => match us, hl with | [_, _, _], _ => rfl) (fun f cdv A outer s H E hr => ⟨_, (aJ (cO (gB (vY kN kN (pv 1) (aU (cM K) rfl T.eJ dM (aB (pv 0) aH)) (pv 2))) (aM (aW kO)) bN)
 (aM (aW (sE (aU (lC K) rfl T.wU sS (aB (fE (ks := [3]) ⟨rfl, by decide +kernel, by decide +kernel, by rfl, by rfl⟩ rfl (iW K (pv 0)) (fun _ _ _ _ _ => (aY (i := 3) sc_are_names.nd rfl (by walk_at "b"))) (fun _ _ _ _ _ => eH) (fun _ _ _ _ _ => (bG yM (hr.mono (by decide)) (aB (pv 3) aH)))) aH)) (tD (pK (dX K (n := bV) hr) (bf5 K T.eJ T.dz3 (aB (pv 0) aH)) (aU (cM K) rfl T.eJ dM (aB (pv 0) aH)) (bU _))))))), by unfold qG; walk_at "r"⟩) rfl (fun _ => rfl)
theorem vJ (F : cJ K mg "is_table" vZ) (cU : bW P w K mg base 2 "is_whole_from" ["some", "low", "high"] (aV K cn 3 cG)) : bW P w K mg base 3 "is_table" ["some"] (aV K cn 1 lV) := by
 refine bK (d := rJ) F sc_is_table (fun _ _ _ _ _ _ us hl => match us, hl with | [_], _ => rfl) (fun f cdv A outer s H E hr => ⟨_, (aJ (cO (gB (vY kN kN aF (aU (cM K) rfl T.eJ dM (aB (pv 0) aH)) (iE T.g_MOST_AGES))) (aM (aW kO)) bN)
 (aJ (cO (gB (dG K (aU (lC K) rfl T.wU sS (aB (fE (ks := [1]) ⟨rfl, by decide +kernel, by decide +kernel, by rfl, by rfl⟩ rfl (iW K (pv 0)) (fun _ _ _ _ _ => (aY (i := 1) sc_is_table.nd rfl (by walk_at "b"))) (fun _ _ _ _ _ => eH) (fun _ _ _ _ _ => (bG cU (hr.mono (by decide)) (aB (pv 1) (aB aF (aB (iE T.g_DARKEST) aH)))))) aH)) (fun _ => rfl))) (aM (aW kO)) bN)
 (aM (aW (aU (lC K) rfl T.wU sS (aB (fE (ks := [2]) ⟨rfl, by decide +kernel, by decide +kernel, by rfl, by rfl⟩ rfl (bg5 rfl T.jN (aB aF (aB (aU (cM K) rfl T.eJ dM (aB (pv 0) aH)) aH))) (fun _ _ _ _ _ => (aY (i := 2) sc_is_table.nd rfl (by walk_at "b"))) (fun _ _ _ _ _ => eH) (fun _ _ _ _ _ => (pK kN (aP (aT K) (pv 0) (pv 2) (fun _ _ => rfl)) (aP (aT K) (pv 0) (aL cR (pv 2) aF) (fun _ _ => rfl)) (bU _)))) aH)))))), by unfold rJ; walk_at "r"⟩) rfl (fun _ => rfl)
theorem oV (F : cJ K mg "are_inks" wP) (gJ : bW P w K mg base 3 "are_names" ["names", "least", "most"] (aV K cn 3 fK)) (vJ : bW P w K mg base 3 "is_table" ["some"] (aV K cn 1 lV)) : bW P w K mg base 4 "are_inks" ["inks"] (aV K cn 1 lR) := by
 refine bK (d := rE) F sc_are_inks (fun _ _ _ _ _ _ us hl => match us, hl with | [_], _ => rfl) (fun f cdv A outer s H E hr => ⟨_, (aJ (cO (gB (dG K (bG gJ (hr.mono (by decide)) (aB (fE (ks := [1, 2]) ⟨rfl, by decide +kernel, by decide +kernel, by rfl, by rfl⟩ rfl (iW K (pv 0)) (fun _ _ _ _ _ => (fT K 2 rfl (bQ (aY (i := 1) sc_are_inks.nd rfl (by walk_at "b")) (bQ (aY (i := 2) sc_are_inks.nd rfl (by walk_at "b")) fR)))) (fun _ _ _ _ _ => eH) (fun _ _ _ _ _ => (pv 1))) (aB aF (aB (iE T.g_MOST_INKS) aH)))) (fun _ => rfl))) (aM (aW kO)) bN)
 (aM (aW (aU (lC K) rfl T.wU sS (aB (fE (ks := [1, 2]) ⟨rfl, by decide +kernel, by decide +kernel, by rfl, by rfl⟩ rfl (iW K (pv 0)) (fun _ _ _ _ _ => (fT K 2 rfl (bQ (aY (i := 1) sc_are_inks.nd rfl (by walk_at "b")) (bQ (aY (i := 2) sc_are_inks.nd rfl (by walk_at "b")) fR)))) (fun _ _ _ _ _ => eH) (fun _ _ _ _ _ => (bG vJ (hr.mono (by decide)) (aB (pv 2) aH)))) aH))))), by unfold rE; walk_at "r"⟩) rfl (fun _ => rfl)
theorem wD (F : cJ K mg "is_reign" wF) (cU : bW P w K mg base 2 "is_whole_from" ["some", "low", "high"] (aV K cn 3 cG)) : bW P w K mg base 3 "is_reign" ["begin", "length"] (aV K cn 2 mF) := by
 refine bK (d := rL) F br0 (fun _ _ _ _ _ _ us hl => match us, hl with | [_, _], _ => rfl) (fun f cdv A outer s H E hr => ⟨_, (aM (aW (sE (bG cU (hr.mono (by decide)) (aB (pv 0) (aB (qJ mV (iE T.g_FARTHEST_YEAR)) (aB (iE T.g_FARTHEST_YEAR) aH)))) (tD (bG cU (hr.mono (by decide)) (aB (pv 1) (aB aF (aB (iE T.g_LONGEST_REIGN) aH)))))))), by unfold rL; walk_at "r"⟩) rfl (fun _ => rfl)
theorem kZ (F : cJ K mg "are_reigns" sN) (gJ : bW P w K mg base 3 "are_names" ["names", "least", "most"] (aV K cn 3 fK)) (wD : bW P w K mg base 3 "is_reign" ["begin", "length"] (aV K cn 2 mF)) : bW P w K mg base 4 "are_reigns" ["reigns"] (aV K cn 1 jM) := by
 refine bK (d := oE) F sc_are_reigns (fun _ _ _ _ _ _ us hl => match us, hl with | [_], _ => rfl) (fun f cdv A outer s H E hr => ⟨_, (aJ (cO (gB (dG K (bG gJ (hr.mono (by decide)) (aB (fE (ks := [1, 2, 3]) ⟨rfl, by decide +kernel, by decide +kernel, by rfl, by rfl⟩ rfl (iW K (pv 0)) (fun _ _ _ _ _ => (fT K 3 rfl (bQ (aY (i := 1) sc_are_reigns.nd rfl (by walk_at "b")) (bQ (aY (i := 2) sc_are_reigns.nd rfl (by walk_at "b")) (bQ (aY (i := 3) sc_are_reigns.nd rfl (by walk_at "b")) fR))))) (fun _ _ _ _ _ => eH) (fun _ _ _ _ _ => (pv 1))) (aB aF (aB (iE T.g_MOST_REIGNS) aH)))) (fun _ => rfl))) (aM (aW kO)) bN)
 (aM (aW (aU (lC K) rfl T.wU sS (aB (fE (ks := [1, 2, 3]) ⟨rfl, by decide +kernel, by decide +kernel, by rfl, by rfl⟩ rfl (iW K (pv 0)) (fun _ _ _ _ _ => (fT K 3 rfl (bQ (aY (i := 1) sc_are_reigns.nd rfl (by walk_at "b")) (bQ (aY (i := 2) sc_are_reigns.nd rfl (by walk_at "b")) (bQ (aY (i := 3) sc_are_reigns.nd rfl (by walk_at "b")) fR))))) (fun _ _ _ _ _ => eH) (fun _ _ _ _ _ => (bG wD (hr.mono (by decide)) (aB (pv 2) (aB (pv 3) aH))))) aH))))), by unfold oE; walk_at "r"⟩) rfl (fun _ => rfl)
theorem aw4 (mW : bW P w K mg base 3 "are_years" ["first", "present"] (aV K cn 2 kJ)) (gJ : bW P w K mg base 3 "are_names" ["names", "least", "most"] (aV K cn 3 fK)) (oV : bW P w K mg base 4 "are_inks" ["inks"] (aV K cn 1 lR)) (kZ : bW P w K mg base 4 "are_reigns" ["reigns"] (aV K cn 1 jM)) (f y : Addr) (cdv : Value) (A : Around) (outer : List Env) (s : Shared) (H : Hp) (E : XK) (hr : Room 4 (A.deeper (PyProof.Rows.envOfC "Archive.__init__" (aN iC) s.heap.objs.size f cdv))) :
 ∃ t, PSs (mO jQ P w K mg base ["self", "first", "present", "letters", "inks", "reigns", "name", "table"] "Archive.__init__" (aN iC) f cdv A outer s H E).nox (dN iC) t ∧ RS [(0, .ref y)] K cn E t jE :=
 ⟨_, (aJ (cO (gB (dG K (bG mW (hr.mono (by decide)) (aB (pv 1) (aB (pv 2) aH))) (fun _ => rfl))) (aM kH) bN)
 (aJ (cO (gB (dG K (bG gJ (hr.mono (by decide)) (aB (pv 3) (aB aF (aB (iE T.g_MOST_LETTERS_archives) aH)))) (fun _ => rfl))) (aM kH) bN)
 (aJ (cO (gB (dG K (bG oV (hr.mono (by decide)) (aB (pv 4) aH)) (fun _ => rfl))) (aM kH) bN)
 (aJ (cO (gB (dG K (bG kZ (hr.mono (by decide)) (aB (pv 5) aH)) (fun _ => rfl))) (aM kH) bN)
 (aJ (lQ K (pv 0) (pv 1))
 (aJ (lQ K (pv 0) (pv 2))
 (aJ (lQ K (pv 0) (fW (fP K) rfl T.kG iL (aB (pv 3) aH)))
 (aJ (lQ K (pv 0) (fE (ks := [6, 7]) ⟨rfl, by decide +kernel, by decide +kernel, by rfl, by rfl⟩ rfl (iW K (pv 4)) (fun _ _ _ _ _ => (fT K 2 rfl (bQ (aY (i := 6) sc_Archive_init.nd rfl (by walk_at "b")) (bQ (aY (i := 7) sc_Archive_init.nd rfl (by walk_at "b")) fR)))) (fun _ _ _ _ _ => eH) (fun _ _ _ _ _ => (bZ (aB (pv 6) (aB (fW (fP K) rfl T.kG iL (aB (pv 7) aH)) aH))))))
 (aM (lQ K (pv 0) (fW (fP K) rfl T.kG iL (aB (pv 5) aH)))))))))))), by unfold jE; walk_at "r"⟩
theorem qW (F : cJ K mg "_law_archive" qZ) (yN : nU P w K mg base 5 "Archive" c_Archive (mT K cn "Archive" 5 lK)) : bW P w K mg base 7 "_law_archive" ["_law_frame_here"] (aV K cn 1 iI) := by
 refine bK (d := nC) F sc_law_archive (fun _ _ _ _ _ _ us hl => match us, hl with | [_], _ => rfl) (fun f cdv A outer s H E hr => ⟨_, (aJ (oM (i := 1) sc_law_archive.nd rfl (by walk_at "b") (ks := [2, 3]) ⟨rfl, by decide +kernel, by decide +kernel, by rfl, by rfl⟩ rfl (iW K (aP (aT K) (pv 0) aF (fun _ _ => rfl))) (fun _ _ _ _ _ => (fT K 2 rfl (bQ (aY (i := 2) sc_law_archive.nd rfl (by walk_at "b")) (bQ (aY (i := 3) sc_law_archive.nd rfl (by walk_at "b")) fR)))) (fun _ _ _ _ _ => eH) (fun _ _ _ _ _ => (bZ (aB (pv 2) (aB (fW (fP K) rfl T.kG iL (aB (pv 3) aH)) aH)))))
 (aM (aW (oU yN (hr.mono (by decide)) (aB (aP (aT K) (pv 0) aF (fun _ _ => rfl)) (aB (aP (aT K) (pv 0) aF (fun _ _ => rfl)) (aB (fW (fP K) rfl T.kG iL (aB (aP (aT K) (pv 0) aF (fun _ _ => rfl)) aH)) (aB (pv 1) (aB (fW (fP K) rfl T.kG iL (aB (aP (aT K) (pv 0) aF (fun _ _ => rfl)) aH)) aH))))))))), by unfold nC; walk_at "r"⟩) rfl (fun _ => rfl)
theorem ac0 (F : cJ K mg "is_due" ae0) (cU : bW P w K mg base 2 "is_whole_from" ["some", "low", "high"] (aV K cn 3 cG)) : bW P w K mg base 3 "is_due" ["archive", "due", "part"] (aV K cn 3 fQ) := by
 refine bK (d := nF) F sc_is_due (fun _ _ _ _ _ _ us hl => match us, hl with | [_, _, _], _ => rfl) (fun f cdv A outer s H E hr => ⟨_, (aJ (cO (bP (dX K (n := bV) hr) (pv 1) bX (bU _)) (aM (aW (pK (am2 K (n := bV) hr) (pv 2) (fS K (pv 0)) (by with_unfolding_all rfl)))) bN)
 (aJ (cO (bP (dX K (n := bV) hr) (pv 1) bX (bU _)) (aM (aW (pK (am2 K (n := bV) hr) (pv 2) (fE (ks := [3]) ⟨rfl, by decide +kernel, by decide +kernel, by rfl, by rfl⟩ rfl (iW K (fS K (pv 0))) (fun _ _ _ _ _ => (aY (i := 3) sc_is_due.nd rfl (by walk_at "b"))) (fun _ _ _ _ _ => eH) (fun _ _ _ _ _ => (aP (aT K) (pv 3) aF (fun _ _ => rfl)))) (by with_unfolding_all rfl)))) bN)
 (aJ (cO (bP (dX K (n := bV) hr) (pv 1) bX (bU _)) (aM (aW (pK (am2 K (n := bV) hr) (pv 2) (fE (ks := [4]) ⟨rfl, by decide +kernel, by decide +kernel, by rfl, by rfl⟩ rfl (iW K (fS K (pv 0))) (fun _ _ _ _ _ => (aY (i := 4) sc_is_due.nd rfl (by walk_at "b"))) (fun _ _ _ _ _ => eH) (fun _ _ _ _ _ => (aP (aT K) (pv 4) aF (fun _ _ => rfl)))) (by with_unfolding_all rfl)))) bN)
 (aM (aW (bG cU (hr.mono (by decide)) (aB (pv 2) (aB (aP (aT K) (rW T.d_NUMBERS (pv 1)) aF (fun _ _ => rfl)) (aB (aP (aT K) (rW T.d_NUMBERS (pv 1)) aF (fun _ _ => rfl)) aH))))))))), by unfold nF; walk_at "r"⟩) rfl (fun _ => rfl)
theorem yS (F : cJ K mg "are_due" xU) (ac0 : bW P w K mg base 3 "is_due" ["archive", "due", "part"] (aV K cn 3 fQ)) : bW P w K mg base 4 "are_due" ["archive", "word", "parts"] (aV K cn 3 nW) := by
 refine bK (d := tR) F sc_are_due (fun _ _ _ _ _ _ us hl => match us, hl with | [_, _, _], _ => rfl) (fun f cdv A outer s H E hr => ⟨_, (aJ (cO (PW.pt (tI (cl6 (bd5 T.d_PARTS (pv 1)) (by with_unfolding_all rfl)) (sV (bP (ao2 K (n := bV) hr) (aU (cM K) rfl T.eJ dM (aB (pv 2) aH)) (aU (cM K) rfl T.eJ dM (aB (rW T.d_PARTS (pv 1)) aH)) (bU _))))) (aM (aW kO)) bN)
 (aM (aW (aU (lC K) rfl T.wU sS (aB (fE (ks := [3, 4]) ⟨rfl, by decide +kernel, by decide +kernel, by rfl, by rfl⟩ rfl (ag4 K T.bi4 (aB (rW T.d_PARTS (pv 1)) (aB (pv 2) aH))) (fun _ _ _ _ _ => (fT K 2 rfl (bQ (aY (i := 3) sc_are_due.nd rfl (by walk_at "b")) (bQ (aY (i := 4) sc_are_due.nd rfl (by walk_at "b")) fR)))) (fun _ _ _ _ _ => eH) (fun _ _ _ _ _ => (bG ac0 (hr.mono (by decide)) (aB (pv 0) (aB (pv 3) (aB (pv 4) aH)))))) aH))))), by unfold tR; walk_at "r"⟩) rfl (fun _ => rfl)
theorem ax1  (f : Addr) (cdv : Value) (A : Around) (outer : List Env) (s : Shared) (H : Hp) (E : XK) (hr : Room 0 (A.deeper (PyProof.Rows.envOfC "Archive.table" (aN gP) s.heap.objs.size f cdv))) :
 ∃ t, PSs (mO jQ P w K mg base ["self", "name", "other", "table"] "Archive.table" (aN gP) f cdv A outer s H E).nox (dN gP) t ∧ RS [] K cn E t iT :=
 ⟨_, (aJ (iP PassesOwn.never rfl (iW K (fS K (pv 0))) (fT K 2 rfl (bQ (aY (i := 2) sc_Archive_table.nd rfl (by walk_at "b")) (bQ (aY (i := 3) sc_Archive_table.nd rfl (by walk_at "b")) fR))) (aM (cO (bP (dX K (n := bV) hr) (pv 2) (pv 1) (bU _)) (aM (aW (fW (fP K) rfl T.kG iL (aB (pv 3) aH)))) bN)))
 (aM (aW eN))), by unfold iT; walk_at "r"⟩
theorem xM (F : cJ K mg "ages_of" yH)  : bW P w K mg base 1 "ages_of" ["table", "dark", "error", "greatest"] (aV K cn 4 nV) := by
 refine bK (d := tJ) F sc_ages_of (fun _ _ _ _ _ _ us hl => match us, hl with | [_, _, _, _], _ => rfl) (fun f cdv A outer s H E hr => ⟨_, (aJ (bF (i := 4) sc_ages_of.nd rfl (by walk_at "b") (aL cR (aU (cM K) rfl T.eJ dM (aB (pv 0) aH)) aF))
 (aJ (oM (i := 5) sc_ages_of.nd rfl (by walk_at "b") (ks := [7]) ⟨rfl, by decide +kernel, by decide +kernel, by rfl, by rfl⟩ rfl (iB rfl T.jN (aB (aL (bH K) (aU (kU K) rfl T.wV sU (aB (pv 4) (aB (pv 3) aH))) aF) aH)) (fun _ _ _ _ _ => (aY (i := 7) sc_ages_of.nd rfl (by walk_at "b"))) (fun _ _ _ _ _ => (bn1 (bP kN (aU (xQ K) rfl T.bh4 ah8 (aB (aL cR (aP (aT K) (pv 0) (pv 7) (fun _ _ => rfl)) (pv 1)) aH)) (pv 2) (bU _)))) (fun _ _ _ _ _ => (pv 7)))
 (aJ (cO (bP (dX K (n := bV) hr) (aU (cM K) rfl T.eJ dM (aB (pv 5) aH)) aF (bU _)) (aM (aW eN)) bN)
 (aJ (bF (i := 6) sc_ages_of.nd rfl (by walk_at "b") (aP (aT K) (pv 5) (aL cR (aU (cM K) rfl T.eJ dM (aB (pv 5) aH)) aF) (fun _ _ => rfl)))
 (aM (aW (bZ (aB (aP (aT K) (pv 5) aF (fun _ _ => rfl)) (aB (av8 (bP (dX K (n := bV) hr) (pv 6) (pv 4) (bU _)) (pv 3) (pv 6)) aH))))))))), by unfold tJ; walk_at "r"⟩) rfl (fun _ => rfl)
theorem fX  (f y : Addr) (cdv : Value) (A : Around) (outer : List Env) (s : Shared) (H : Hp) (E : XK) (hr : Room 0 (A.deeper (PyProof.Rows.envOfC "Saying.__init__" (aN cE) s.heap.objs.size f cdv))) :
 ∃ t, PSs (mO jQ P w K mg base ["self", "archive", "word", "parts", "low", "high", "names", "part", "due", "name"] "Saying.__init__" (aN cE) f cdv A outer s H E).nox (dN cE) t ∧ RS [(0, .ref y)] K cn E t cF :=
 ⟨_, (aJ (oM (i := 6) sc_Saying_init.nd rfl (by walk_at "b") (ks := [7, 8]) ⟨rfl, by decide +kernel, by decide +kernel, by rfl, by rfl⟩ rfl (ag4 K T.bi4 (aB (pv 3) (aB (rW T.d_PARTS (pv 2)) aH))) (fun _ _ _ _ _ => (fT K 2 rfl (bQ (aY (i := 7) sc_Saying_init.nd rfl (by walk_at "b")) (bQ (aY (i := 8) sc_Saying_init.nd rfl (by walk_at "b")) fR)))) (fun _ _ _ _ _ => (bn1 (bP (dX K (n := bV) hr) (pv 8) bX (bU _)))) (fun _ _ _ _ _ => (pv 7)))
 (aJ (lQ K (pv 0) (fE (ks := [9]) ⟨rfl, by decide +kernel, by decide +kernel, by rfl, by rfl⟩ rfl (iW K (pv 6)) (fun _ _ _ _ _ => (aY (i := 9) sc_Saying_init.nd rfl (by walk_at "b"))) (fun _ _ _ _ _ => eH) (fun _ _ _ _ _ => (eP K PySem.F.plainAttrs_list PySem.F.slot_list_index PySem.F.type_list_index (bj6 K (n := bV) hr) (fS K (pv 1)) (aB (pv 9) aH)))))
 (aJ (lQ K (pv 0) (pv 4))
 (aJ (lQ K (pv 0) (pv 5))
 (aM (lQ K (pv 0) (eP K PySem.F.plainAttrs_str PySem.F.slot_str_join PySem.F.type_str_join (by9 K) bX (aB (aL (bH K) (dQ (aB (pv 2) aH)) (fE (ks := [7]) ⟨rfl, by decide +kernel, by decide +kernel, by rfl, by rfl⟩ rfl (iW K (pv 3)) (fun _ _ _ _ _ => (aY (i := 7) sc_Saying_init.nd rfl (by walk_at "b"))) (fun _ _ _ _ _ => eH) (fun _ _ _ _ _ => (fW ba6 rfl T.dy3 ck6 (aB (pv 7) aH))))) aH)))))))), by unfold cF; walk_at "r"⟩
theorem ai8 (F : cJ K mg "ink_saying" sP) (h_table : ∀ q ∈ [(c_Archive, aV K cn 2 eR)], iZ P w K mg base 1 q.1 "table" q.2) (xM : bW P w K mg base 1 "ages_of" ["table", "dark", "error", "greatest"] (aV K cn 4 nV)) (bb3 : nU P w K mg base 1 "Ink" c_Ink (mT K cn "Ink" 5 wM)) : bW P w K mg base 3 "ink_saying" ["archive", "parts"] (aV K cn 2 oO) := by
 refine bK (d := oQ) F sc_ink_saying (fun _ _ _ _ _ _ us hl => match us, hl with | [_, _], _ => rfl) (fun f cdv A outer s H E hr => ⟨_, (aJ (bF (i := 2) sc_ink_saying.nd rfl (by walk_at "b") (bG xM (hr.mono (by decide)) (aB (bx7 (pv 0) h_table (hr.mono (by decide)) (aB (aP (aT K) (pv 1) aF (fun _ _ => rfl)) aH)) (aB (aP (aT K) (pv 1) aF (fun _ _ => rfl)) (aB (aP (aT K) (pv 1) aF (fun _ _ => rfl)) (aB (aL cR (fS K (pv 0)) (fS K (pv 0))) aH))))))
 (aJ (cO (bP be7 (pv 2) eN (bU _)) (aM kH) bN)
 (aM (aW (oU bb3 (hr.mono (by decide)) (aB (pv 0) (aB bX (aB (pv 1) (aB (aL cR (fS K (pv 0)) (aP (aT K) (pv 2) aF (fun _ _ => rfl))) (aB (aL cR (fS K (pv 0)) (aP (aT K) (pv 2) aF (fun _ _ => rfl))) aH)))))))))), by unfold oQ; walk_at "r"⟩) rfl (fun _ => rfl)
theorem jA (F : cJ K mg "reign_called" pG)  : bW P w K mg base 1 "reign_called" ["archive", "name"] (aV K cn 2 gE) := by
 refine bK (d := mJ) F sc_reign_called (fun _ _ _ _ _ _ us hl => match us, hl with | [_, _], _ => rfl) (fun f cdv A outer s H E hr => ⟨_, (aJ (iP PassesOwn.never rfl (iW K (fS K (pv 0))) (aY (i := 2) sc_reign_called.nd rfl (by walk_at "b")) (aM (cO (bP (dX K (n := bV) hr) (aP (aT K) (pv 2) aF (fun _ _ => rfl)) (pv 1) (bU _)) (aM (aW (pv 2))) bN)))
 (aM (aW eN))), by unfold mJ; walk_at "r"⟩) rfl (fun _ => rfl)
theorem kT (F : cJ K mg "reign_year" sT) (cU : bW P w K mg base 2 "is_whole_from" ["some", "low", "high"] (aV K cn 3 cG)) : bW P w K mg base 3 "reign_year" ["begin", "length", "k"] (aV K cn 3 iD) := by
 refine bK (d := oG) F ak6 (fun _ _ _ _ _ _ us hl => match us, hl with | [_, _, _], _ => rfl) (fun f cdv A outer s H E hr => ⟨_, (aJ (cO (gB (dG K (bG cU (hr.mono (by decide)) (aB (pv 2) (aB aF (aB (pv 1) aH)))) (fun _ => rfl))) (aM (aW eN)) bN)
 (aM (aW (aL cR (aL (bH K) (pv 0) (pv 2)) aF)))), by unfold oG; walk_at "r"⟩) rfl (fun _ => rfl)
theorem ap4 (F : cJ K mg "reign_saying" pM) (jA : bW P w K mg base 1 "reign_called" ["archive", "name"] (aV K cn 2 gE)) (kT : bW P w K mg base 3 "reign_year" ["begin", "length", "k"] (aV K cn 3 iD)) (ad4 : nU P w K mg base 1 "Reign" c_Reign (mT K cn "Reign" 5 rO)) : bW P w K mg base 4 "reign_saying" ["archive", "parts"] (aV K cn 2 lW) := by
 refine bK (d := mC) F sc_reign_saying (fun _ _ _ _ _ _ us hl => match us, hl with | [_, _], _ => rfl) (fun f cdv A outer s H E hr => ⟨_, (aJ (bF (i := 2) sc_reign_saying.nd rfl (by walk_at "b") (bG jA (hr.mono (by decide)) (aB (pv 0) (aB (aP (aT K) (pv 1) aF (fun _ _ => rfl)) aH))))
 (aJ (bF (i := 3) sc_reign_saying.nd rfl (by walk_at "b") (bG kT (hr.mono (by decide)) (aB (aP (aT K) (pv 2) aF (fun _ _ => rfl)) (aB (aP (aT K) (pv 2) aF (fun _ _ => rfl)) (aB (aP (aT K) (pv 1) aF (fun _ _ => rfl)) aH)))))
 (aJ (cO (bP be7 (pv 3) eN (bU _)) (aM kH) bN)
 (aM (aW (oU ad4 (hr.mono (by decide)) (aB (pv 0) (aB bX (aB (pv 1) (aB (pv 3) (aB (pv 3) aH))))))))))), by unfold mC; walk_at "r"⟩) rfl (fun _ => rfl)
theorem ap3 (F : cJ K mg "under_saying" pF) (jA : bW P w K mg base 1 "reign_called" ["archive", "name"] (aV K cn 2 gE)) (kT : bW P w K mg base 3 "reign_year" ["begin", "length", "k"] (aV K cn 3 iD)) (ar3 : nU P w K mg base 1 "Under" c_Under (mT K cn "Under" 5 rF)) : bW P w K mg base 4 "under_saying" ["archive", "parts"] (aV K cn 2 lY) := by
 refine bK (d := lX) F sc_under_saying (fun _ _ _ _ _ _ us hl => match us, hl with | [_, _], _ => rfl) (fun f cdv A outer s H E hr => ⟨_, (aJ (bF (i := 2) sc_under_saying.nd rfl (by walk_at "b") (bG jA (hr.mono (by decide)) (aB (pv 0) (aB (aP (aT K) (pv 1) aF (fun _ _ => rfl)) aH))))
 (aM (aW (oU ar3 (hr.mono (by decide)) (aB (pv 0) (aB bX (aB (pv 1) (aB (aP (aT K) (pv 2) aF (fun _ _ => rfl)) (aB (bG kT (hr.mono (by decide)) (aB (aP (aT K) (pv 2) aF (fun _ _ => rfl)) (aB (aP (aT K) (pv 2) aF (fun _ _ => rfl)) (aB (aP (aT K) (pv 2) aF (fun _ _ => rfl)) aH)))) aH))))))))), by unfold lX; walk_at "r"⟩) rfl (fun _ => rfl)
theorem al0 (F : cJ K mg "between_saying" nI) (yB : nU P w K mg base 1 "Between" c_Between (mT K cn "Between" 5 oA)) : bW P w K mg base 3 "between_saying" ["archive", "parts"] (aV K cn 2 jX) := by
 refine bK (d := jY) F zM (fun _ _ _ _ _ _ us hl => match us, hl with | [_, _], _ => rfl) (fun f cdv A outer s H E hr => ⟨_, (aJ (cO (bP bp2 (aP (aT K) (pv 1) aF (fun _ _ => rfl)) (aP (aT K) (pv 1) aF (fun _ _ => rfl)) (bU _)) (aM kH) bN)
 (aM (aW (oU yB (hr.mono (by decide)) (aB (pv 0) (aB bX (aB (pv 1) (aB (aP (aT K) (pv 1) aF (fun _ _ => rfl)) (aB (aP (aT K) (pv 1) aF (fun _ _ => rfl)) aH))))))))), by unfold jY; walk_at "r"⟩) rfl (fun _ => rfl)
theorem am3 (F : cJ K mg "after_saying" pP) (ae4 : nU P w K mg base 1 "After" c_After (mT K cn "After" 5 rM)) : bW P w K mg base 3 "after_saying" ["archive", "parts"] (aV K cn 2 mI) := by
 refine bK (d := mG) F ac2 (fun _ _ _ _ _ _ us hl => match us, hl with | [_, _], _ => rfl) (fun f cdv A outer s H E hr => ⟨_, (aM (aW (oU ae4 (hr.mono (by decide)) (aB (pv 0) (aB bX (aB (pv 1) (aB aF (aB eN aH)))))))), by unfold mG; walk_at "r"⟩) rfl (fun _ => rfl)
theorem an6 (F : cJ K mg "same_saying" qX) (aa9 : nU P w K mg base 1 "Same" c_Same (mT K cn "Same" 5 tN)) : bW P w K mg base 3 "same_saying" ["archive", "parts"] (aV K cn 2 nB) := by
 refine bK (d := nA) F an4 (fun _ _ _ _ _ _ us hl => match us, hl with | [_, _], _ => rfl) (fun f cdv A outer s H E hr => ⟨_, (aM (aW (oU aa9 (hr.mono (by decide)) (aB (pv 0) (aB bX (aB (pv 1) (aB aF (aB aF aH)))))))), by unfold nA; walk_at "r"⟩) rfl (fun _ => rfl)
theorem ah2 (F : cJ K mg "within_saying" oK) (ar0 : nU P w K mg base 1 "Within" c_Within (mT K cn "Within" 5 pY)) : bW P w K mg base 3 "within_saying" ["archive", "parts"] (aV K cn 2 kQ) := by
 refine bK (d := kS) F ag0 (fun _ _ _ _ _ _ us hl => match us, hl with | [_, _], _ => rfl) (fun f cdv A outer s H E hr => ⟨_, (aM (aW (oU ar0 (hr.mono (by decide)) (aB (pv 0) (aB bX (aB (pv 1) (aB aF (aB (aP (aT K) (pv 1) aF (fun _ _ => rfl)) aH)))))))), by unfold kS; walk_at "r"⟩) rfl (fun _ => rfl)
theorem ay3 (F : cJ K mg "apart_saying" pJ) (au4 : nU P w K mg base 1 "Apart" c_Apart (mT K cn "Apart" 5 rG)) : bW P w K mg base 3 "apart_saying" ["archive", "parts"] (aV K cn 2 lZ) := by
 refine bK (d := mB) F ai1 (fun _ _ _ _ _ _ us hl => match us, hl with | [_, _], _ => rfl) (fun f cdv A outer s H E hr => ⟨_, (aJ (cO (bP bp2 (aP (aT K) (pv 1) aF (fun _ _ => rfl)) (aP (aT K) (pv 1) aF (fun _ _ => rfl)) (bU _)) (aM kH) bN)
 (aM (aW (oU au4 (hr.mono (by decide)) (aB (pv 0) (aB bX (aB (pv 1) (aB (aP (aT K) (pv 1) aF (fun _ _ => rfl)) (aB (aP (aT K) (pv 1) aF (fun _ _ => rfl)) aH))))))))), by unfold mB; walk_at "r"⟩) rfl (fun _ => rfl)
theorem tV (F : cJ K mg "saying_of" tU) (yS : bW P w K mg base 4 "are_due" ["archive", "word", "parts"] (aV K cn 3 nW)) (q_MAKERS : bm2 P w K mg base 4 "MAKERS" (bw2 K cn 2 tb_MAKERS)) : bW P w K mg base 5 "saying_of" ["archive", "word", "parts"] (aV K cn 3 cX) := by
 refine bK (d := pV) F az7 (fun _ _ _ _ _ _ us hl => match us, hl with | [_, _, _], _ => rfl) (fun f cdv A outer s H E hr => ⟨_, (aJ (cO (gB (dG K (bG yS (hr.mono (by decide)) (aB (pv 0) (aB (pv 1) (aB (pv 2) aH)))) (fun _ => rfl))) (aM kH) bN)
 (aJ (cO (PW.pt (qN (bP (dX K (n := bV) hr) (aP (aT K) (rW T.d_PARTS (pv 1)) aF (fun _ _ => rfl)) bX (bU _)) (nP (bP (dX K (n := bV) hr) (aP (aT K) (pv 2) aF (fun _ _ => rfl)) (aP (aT K) (pv 2) aF (fun _ _ => rfl)) (bU _))))) (aM kH) bN)
 (aM (aW (bu9 q_MAKERS (hr.mono (by decide)) (pv 1) (aB (pv 0) (aB (pv 2) aH))))))), by unfold pV; walk_at "r"⟩) rfl (fun _ => rfl)
theorem vM (F : cJ K mg "_law_heap" wG) (tV : bW P w K mg base 5 "saying_of" ["archive", "word", "parts"] (aV K cn 3 cX)) : bW P w K mg base 6 "_law_heap" ["_law_archive_here", "_law_told"] (aV K cn 2 lT) := by
 refine bK (d := rC) F sc_law_heap (fun _ _ _ _ _ _ us hl => match us, hl with | [_, _], _ => rfl) (fun f cdv A outer s H E hr => ⟨_, (aM (aW (fE (ks := [2, 3, 4, 5]) ⟨rfl, by decide +kernel, by decide +kernel, by rfl, by rfl⟩ rfl (iW K (pv 1)) (fun _ _ _ _ _ => (fT K 4 rfl (bQ (aY (i := 2) sc_law_heap.nd rfl (by walk_at "b")) (bQ (aY (i := 3) sc_law_heap.nd rfl (by walk_at "b")) (bQ (aY (i := 4) sc_law_heap.nd rfl (by walk_at "b")) (bQ (aY (i := 5) sc_law_heap.nd rfl (by walk_at "b")) fR)))))) (fun _ _ _ _ _ => eH) (fun _ _ _ _ _ => (bG tV (hr.mono (by decide)) (aB (pv 0) (aB (pv 2) (aB (fW (fP K) rfl T.kG iL (aB (pv 3) aH)) aH)))))))), by unfold rC; walk_at "r"⟩) rfl (fun _ => rfl)
theorem qI (F : cJ K mg "_law_steps" uK)  : bW P w K mg base 1 "_law_steps" ["_law_frame_here", "_law_told"] (aV K cn 2 hV) := by
 refine bK (d := qC) F sc_law_steps (fun _ _ _ _ _ _ us hl => match us, hl with | [_, _], _ => rfl) (fun f cdv A outer s H E hr => ⟨_, (aJ (bF (i := 2) sc_law_steps.nd rfl (by walk_at "b") (dQ aH))
 (aJ (iP PassesOwn.never rfl (iB rfl T.jN (aB (aU (cM K) rfl T.eJ dM (aB (pv 1) aH)) aH)) (aY (i := 3) sc_law_steps.nd rfl (by walk_at "b")) (aJ (bF (i := 4) sc_law_steps.nd rfl (by walk_at "b") (aP (aT K) (aP (aT K) (pv 1) (pv 3) (fun _ _ => rfl)) aF (fun _ _ => rfl)))
 (aJ (at9 (aP (aT K) (aP (aT K) (pv 1) (pv 3) (fun _ _ => rfl)) aF (fun _ _ => rfl)) (fT K 2 rfl (bQ (aY (i := 5) sc_law_steps.nd rfl (by walk_at "b")) (bQ (aY (i := 6) sc_law_steps.nd rfl (by walk_at "b")) fR))))
 (aJ (bF (i := 7) sc_law_steps.nd rfl (by walk_at "b") (aP (aT K) (aL (bH K) (pv 4) (bZ (aB eN aH))) aF (fun _ _ => rfl)))
 (aJ (cO (bP zH (pv 6) eN (bU _)) (aM (dY (eP K PySem.F.plainAttrs_list PySem.F.slot_list_append PySem.F.type_list_append dR (pv 2) (aB (bZ (aB (pv 7) (aB (aP (aT K) (pv 4) aF (fun _ _ => rfl)) (aB (pv 6) (aB (pv 3) aH))))) aH)))) bN)
 (aM (cO (bP zH (pv 5) eN (bU _)) (aM (dY (eP K PySem.F.plainAttrs_list PySem.F.slot_list_append PySem.F.type_list_append dR (pv 2) (aB (bZ (aB (aP (aT K) (pv 4) aF (fun _ _ => rfl)) (aB (pv 7) (aB (aL cR aF (pv 5)) (aB (pv 3) aH))))) aH)))) bN)))))))
 (aJ (iP PassesOwn.never rfl (iB rfl T.jN (aB (aU (cM K) rfl T.eJ dM (aB (aP (aT K) (pv 0) aF (fun _ _ => rfl)) aH)) aH)) (aY (i := 8) sc_law_steps.nd rfl (by walk_at "b")) (aJ (dY (eP K PySem.F.plainAttrs_list PySem.F.slot_list_append PySem.F.type_list_append dR (pv 2) (aB (bZ (aB eN (aB (pv 8) (aB (aP (aT K) (pv 0) aF (fun _ _ => rfl)) (aB eN aH))))) aH)))
 (aM (dY (eP K PySem.F.plainAttrs_list PySem.F.slot_list_append PySem.F.type_list_append dR (pv 2) (aB (bZ (aB (pv 8) (aB eN (aB (aL cR aF (aP (aT K) (pv 0) aF (fun _ _ => rfl))) (aB eN aH))))) aH))))))
 (aM (aW (pv 2)))))), by unfold qC; walk_at "r"⟩) rfl (fun _ => rfl)
theorem eY  (f : Addr) (cdv : Value) (A : Around) (outer : List Env) (s : Shared) (H : Hp) (E : XK) (hr : Room 0 (A.deeper (PyProof.Rows.envOfC "Saying.about" (aN bS) s.heap.objs.size f cdv))) :
 ∃ t, PSs (mO jQ P w K mg base ["self"] "Saying.about" (aN bS) f cdv A outer s H E).nox (dN bS) t ∧ RS [] K cn E t dF :=
 ⟨_, (aM (aW (fW (fP K) rfl T.kG iL (aB (fS K (pv 0)) aH)))), by unfold dF; walk_at "r"⟩
theorem eT  (f : Addr) (cdv : Value) (A : Around) (outer : List Env) (s : Shared) (H : Hp) (E : XK) (hr : Room 0 (A.deeper (PyProof.Rows.envOfC "Saying.bounds" (aN bO) s.heap.objs.size f cdv))) :
 ∃ t, PSs (mO jQ P w K mg base ["self"] "Saying.bounds" (aN bO) f cdv A outer s H E).nox (dN bO) t ∧ RS [] K cn E t cY :=
 ⟨_, (aM (aW (bZ (aB (fS K (pv 0)) (aB (fS K (pv 0)) aH))))), by unfold cY; walk_at "r"⟩
theorem pI (F : cJ K mg "saying_steps" pN) (h_about : ∀ q ∈ [(c_Ink, aV K cn 1 aR), (c_Reign, aV K cn 1 aR), (c_Under, aV K cn 1 aR), (c_Between, aV K cn 1 aR), (c_After, aV K cn 1 aR), (c_Same, aV K cn 1 aR), (c_Within, aV K cn 1 aR), (c_Apart, aV K cn 1 aR)], iZ P w K mg base 1 q.1 "about" q.2) (h_bounds : ∀ q ∈ [(c_Ink, aV K cn 1 aQ), (c_Reign, aV K cn 1 aQ), (c_Under, aV K cn 1 aQ), (c_Between, aV K cn 1 aQ), (c_After, aV K cn 1 aQ), (c_Same, aV K cn 1 aQ), (c_Within, aV K cn 1 aQ), (c_Apart, aV K cn 1 aQ)], iZ P w K mg base 1 q.1 "bounds" q.2) : bW P w K mg base 2 "saying_steps" ["saying", "number"] (aV K cn 2 jL) := by
 refine bK (d := mD) F sc_saying_steps (fun _ _ _ _ _ _ us hl => match us, hl with | [_, _], _ => rfl) (fun f cdv A outer s H E hr => ⟨_, (aJ (bF (i := 2) sc_saying_steps.nd rfl (by walk_at "b") (ab6 (pv 0) h_about (hr.mono (by decide))))
 (aJ (bF (i := 3) sc_saying_steps.nd rfl (by walk_at "b") (ab6 (pv 0) h_bounds (hr.mono (by decide))))
 (aJ (bF (i := 4) sc_saying_steps.nd rfl (by walk_at "b") (av8 (bP (dX K (n := bV) hr) (aU (cM K) rfl T.eJ dM (aB (pv 2) aH)) aF (bU _)) (aP (aT K) (pv 2) aF (fun _ _ => rfl)) eN))
 (aJ (bF (i := 5) sc_saying_steps.nd rfl (by walk_at "b") (dQ aH))
 (aJ (cO (bP zH (aP (aT K) (pv 3) aF (fun _ _ => rfl)) eN (bU _)) (aM (dY (eP K PySem.F.plainAttrs_list PySem.F.slot_list_append PySem.F.type_list_append dR (pv 5) (aB (bZ (aB (pv 4) (aB (aP (aT K) (pv 2) aF (fun _ _ => rfl)) (aB (aP (aT K) (pv 3) aF (fun _ _ => rfl)) (aB (pv 1) aH))))) aH)))) bN)
 (aJ (cO (bP zH (aP (aT K) (pv 3) aF (fun _ _ => rfl)) eN (bU _)) (aM (dY (eP K PySem.F.plainAttrs_list PySem.F.slot_list_append PySem.F.type_list_append dR (pv 5) (aB (bZ (aB (aP (aT K) (pv 2) aF (fun _ _ => rfl)) (aB (pv 4) (aB (aL cR aF (aP (aT K) (pv 3) aF (fun _ _ => rfl))) (aB (pv 1) aH))))) aH)))) bN)
 (aM (aW (pv 5))))))))), by unfold mD; walk_at "r"⟩) rfl (fun _ => rfl)
theorem sK (F : cJ K mg "span_steps" sC)  : bW P w K mg base 1 "span_steps" ["archive", "letter"] (aV K cn 2 lJ) := by
 refine bK (d := oR) F al6 (fun _ _ _ _ _ _ us hl => match us, hl with | [_, _], _ => rfl) (fun f cdv A outer s H E hr => ⟨_, (aM (aW (dQ (aB (bZ (aB eN (aB (pv 1) (aB (fS K (pv 0)) (aB eN aH))))) (aB (bZ (aB (pv 1) (aB eN (aB (aL cR aF (fS K (pv 0))) (aB eN aH))))) aH))))), by unfold oR; walk_at "r"⟩) rfl (fun _ => rfl)
theorem mH (F : cJ K mg "steps_of" vF) (pI : bW P w K mg base 2 "saying_steps" ["saying", "number"] (aV K cn 2 jL)) (sK : bW P w K mg base 1 "span_steps" ["archive", "letter"] (aV K cn 2 lJ)) : bW P w K mg base 3 "steps_of" ["archive", "sayings"] (aV K cn 2 eW) := by
 refine bK (d := rN) F sc_steps_of (fun _ _ _ _ _ _ us hl => match us, hl with | [_, _], _ => rfl) (fun f cdv A outer s H E hr => ⟨_, (aJ (bF (i := 2) sc_steps_of.nd rfl (by walk_at "b") (dQ aH))
 (aJ (iP PassesOwn.never rfl (bk8 K T.bz0 (aB (pv 1) aH)) (fT K 2 rfl (bQ (aY (i := 3) sc_steps_of.nd rfl (by walk_at "b")) (bQ (aY (i := 4) sc_steps_of.nd rfl (by walk_at "b")) fR))) (aM (dY (eP K PySem.F.plainAttrs_list PySem.F.slot_list_extend PySem.F.type_list_extend ay5 (pv 2) (aB (bG pI (hr.mono (by decide)) (aB (pv 4) (aB (pv 3) aH))) aH)))))
 (aJ (iP PassesOwn.never rfl (iB rfl T.jN (aB (aU (cM K) rfl T.eJ dM (aB (fS K (pv 0)) aH)) aH)) (aY (i := 5) sc_steps_of.nd rfl (by walk_at "b")) (aM (dY (eP K PySem.F.plainAttrs_list PySem.F.slot_list_extend PySem.F.type_list_extend ay5 (pv 2) (aB (bG sK (hr.mono (by decide)) (aB (pv 0) (aB (pv 5) aH))) aH)))))
 (aM (aW (pv 2)))))), by unfold rN; walk_at "r"⟩) rfl (fun _ => rfl)
theorem uJ (F : cJ K mg "_law_whole" uA)  : bW P w K mg base 1 "_law_whole" ["_law_found"] (aV K cn 1 mR) := by
 refine bK (d := qH) F al8 (fun _ _ _ _ _ _ us hl => match us, hl with | [_], _ => rfl) (fun f cdv A outer s H E hr => ⟨_, (aM (aW (sE (aU (lL K) rfl T.iH gS (aB (pv 0) (aB (wA T.cw2 bc6) aH))) (tD (bv6 (aU (lL K) rfl T.iH gS (aB (pv 0) (aB (wA T.ba0 af4) aH)))))))), by unfold qH; walk_at "r"⟩) rfl (fun _ => rfl)
theorem mE (F : cJ K mg "_law_same" vI) (uJ : bW P w K mg base 1 "_law_whole" ["_law_found"] (aV K cn 1 mR)) : bW P w K mg base 2 "_law_same" ["_law_found", "_law_due"] (aV K cn 2 eU) := by
 refine bK (d := rK) F sc_law_same (fun _ _ _ _ _ _ us hl => match us, hl with | [_, _], _ => rfl) (fun f cdv A outer s H E hr => ⟨_, (aJ (cO (PW.pt (tI (gB (dG K (aU (lL K) rfl T.iH gS (aB (pv 0) (aB (wA T.kG iL) aH))) (fun _ => rfl))) (sV (bP (ao2 K (n := bV) hr) (aU (cM K) rfl T.eJ dM (aB (pv 0) aH)) (aU (cM K) rfl T.eJ dM (aB (pv 1) aH)) (bU _))))) (aM (aW kO)) bN)
 (aJ (iP PassesOwn.never rfl (ag4 K T.bi4 (aB (pv 0) (aB (pv 1) aH))) (fT K 2 rfl (bQ (aY (i := 2) sc_law_same.nd rfl (by walk_at "b")) (bQ (aY (i := 3) sc_law_same.nd rfl (by walk_at "b")) fR))) (aJ (cO (PW.pt (tI (gB (dG K (aU (lL K) rfl T.iH gS (aB (pv 2) (aB (wA T.cu5 bo9) aH))) (fun _ => rfl))) (tI (bP (ao2 K (n := bV) hr) (pv 2) (pv 3) (bU _)) (sV (gB (dG K (bG uJ (hr.mono (by decide)) (aB (aP (aT K) (pv 2) aF (fun _ _ => rfl)) aH)) (fun _ => rfl))))))) (aM (aW kO)) bN)
 (aM (cO (dG K (aU (bz6 K) rfl T.da4 cb6 (aB (fE (ks := [4]) ⟨rfl, by decide +kernel, by decide +kernel, by rfl, by rfl⟩ rfl (iW K (pv 2)) (fun _ _ _ _ _ => (aY (i := 4) sc_law_same.nd rfl (by walk_at "b"))) (fun _ _ _ _ _ => eH) (fun _ _ _ _ _ => (aU (lL K) rfl T.iH gS (aB (pv 4) (aB (wA T.ba0 af4) aH))))) aH)) (fun _ => rfl)) (aM (aW kO)) bN))))
 (aM (aW kO)))), by unfold rK; walk_at "r"⟩) rfl (fun _ => rfl)
theorem ci9 {f : Addr} {fd : FuncData} (F : Fun K "law" "law" rV f fd) (tT : bW P w K mg base 2 "_law_frame" ["_law_script", "_law_most"] (aV K cn 2 kK)) (jZ : bW P w K mg base 1 "_law_cell" ["_law_script", "_law_at"] (aV K cn 2 eD)) (sI : bW P w K mg base 3 "_law_hidden" ["_law_cell_here", "_law_frame_here"] (aV K cn 2 jH)) (rA : bW P w K mg base 3 "_law_sayings" ["_law_cells", "_law_frame_here", "_law_false", "_law_hidden_here"] (aV K cn 4 iJ)) (qW : bW P w K mg base 7 "_law_archive" ["_law_frame_here"] (aV K cn 1 iI)) (vM : bW P w K mg base 6 "_law_heap" ["_law_archive_here", "_law_told"] (aV K cn 2 lT)) (qI : bW P w K mg base 1 "_law_steps" ["_law_frame_here", "_law_told"] (aV K cn 2 hV)) (mH : bW P w K mg base 3 "steps_of" ["archive", "sayings"] (aV K cn 2 eW)) (mE : bW P w K mg base 2 "_law_same" ["_law_found", "_law_due"] (aV K cn 2 eU)) : FnOk P w K mg base jQ 8 f fd ["_law_script"] (aV K cn 1 am7) := by
 refine ab4 (d := ak7) F sc_law (fun cdv A outer s H E hr => ⟨_, (aJ (bF (i := 1) sc_law.nd rfl (by walk_at "b") (bG tT (hr.mono (by decide)) (aB (pv 0) (aB aF aH))))
 (aJ (bF (i := 2) sc_law.nd rfl (by walk_at "b") (bG sI (hr.mono (by decide)) (aB (aL fB (bG jZ (hr.mono (by decide)) (aB (pv 0) (aB aF aH))) aF) (aB (pv 1) aH))))
 (aJ (bF (i := 3) sc_law.nd rfl (by walk_at "b") (bG rA (hr.mono (by decide)) (aB (lO (xO K) (pv 0) (jJ aF) (jJ aF)) (aB (pv 1) (aB (pK (dX K (n := bV) hr) (aL bM (bG jZ (hr.mono (by decide)) (aB (pv 0) (aB aF aH))) aF) aF (bU _)) (aB (pv 2) aH))))))
 (aJ (bF (i := 4) sc_law.nd rfl (by walk_at "b") (bG qW (hr.mono (by decide)) (aB (pv 1) aH)))
 (aJ (bF (i := 5) sc_law.nd rfl (by walk_at "b") (bG vM (hr.mono (by decide)) (aB (pv 4) (aB (pv 3) aH))))
 (aJ (cO (PW.pt (qN (vY vG vG aF (aU (cM K) rfl T.eJ dM (aB (pv 3) aH)) aF) (nP (bP (dX K (n := bV) hr) (aL bM (aL fB (bG jZ (hr.mono (by decide)) (aB (pv 0) (aB aF aH))) aF) aF) aF (bU _))))) (aJ (dY (eP K PySem.F.plainAttrs_list PySem.F.slot_list_append PySem.F.type_list_append dR (pv 3) (aB (aP (aT K) (pv 3) aF (fun _ _ => rfl)) aH)))
 (aM (dY (eP K PySem.F.plainAttrs_list PySem.F.slot_list_append PySem.F.type_list_append dR (pv 5) (aB (aP (aT K) (pv 5) aF (fun _ _ => rfl)) aH))))) bN)
 (aJ (bF (i := 6) sc_law.nd rfl (by walk_at "b") (fW (fP K) rfl T.kG iL (aB (pv 5) aH)))
 (aJ (bF (i := 7) sc_law.nd rfl (by walk_at "b") (bG qI (hr.mono (by decide)) (aB (pv 1) (aB (pv 3) aH))))
 (aJ (bF (i := 8) sc_law.nd rfl (by walk_at "b") (bG mH (hr.mono (by decide)) (aB (pv 4) (aB (pv 6) aH))))
 (aJ (cO (PW.pt (tI (gB (dG K (bG mE (hr.mono (by decide)) (aB (pv 8) (aB (pv 7) aH))) (fun _ => rfl))) (sV (bP (ao2 K (n := bV) hr) (aU (cM K) rfl T.eJ dM (aB (pv 6) aH)) (aU (cM K) rfl T.eJ dM (aB (pv 5) aH)) (bU _))))) (aM (aW kO)) bN)
 (aJ (dY (eP K PySem.F.plainAttrs_list PySem.F.slot_list_append PySem.F.type_list_append dR (pv 8) (aB eN aH)))
 (aJ (dY (ce3 K PySem.F.plainAttrs_list PySem.F.slot_list_clear PySem.F.type_list_clear cq0 (pv 6)))
 (aJ (cO (gB (dG K (bG mE (hr.mono (by decide)) (aB (bG mH (hr.mono (by decide)) (aB (pv 4) (aB (bo1 K (pv 5) (jJ (qJ mV aF))) aH))) (aB (bG qI (hr.mono (by decide)) (aB (pv 1) (aB (bo1 K (pv 3) (jJ (qJ mV aF))) aH))) aH))) (fun _ => rfl))) (aM (aW kO)) bN)
 (aJ (bF (i := 9) sc_law.nd rfl (by walk_at "b") (lO (xO K) (pv 7) (jJ (aL cR aF (aL jI aF (aU (cM K) rfl T.eJ dM (aB (aP (aT K) (pv 1) aF (fun _ _ => rfl)) aH))))) pC))
 (aM (aW (sE (bG mE (hr.mono (by decide)) (aB (bG mH (hr.mono (by decide)) (aB (pv 4) (aB (pv 5) aH))) (aB (pv 7) aH))) (tD (bG mE (hr.mono (by decide)) (aB (bG mH (hr.mono (by decide)) (aB (pv 4) (aB (pv 6) aH))) (aB (pv 9) aH))))))))))))))))))))), by unfold ak7; walk_at "r"⟩) rfl (fun _ => rfl)
theorem yN (F : jF K mg "Archive" c_Archive "Archive.__init__" iC) (mW : bW P w K mg base 3 "are_years" ["first", "present"] (aV K cn 2 kJ)) (gJ : bW P w K mg base 3 "are_names" ["names", "least", "most"] (aV K cn 3 fK)) (oV : bW P w K mg base 4 "are_inks" ["inks"] (aV K cn 1 lR)) (kZ : bW P w K mg base 4 "are_reigns" ["reigns"] (aV K cn 1 jM)) : nU P w K mg base 5 "Archive" c_Archive (mT K cn "Archive" 5 lK) :=
 iN (d := jE) F sc_Archive_init (fun _ _ _ _ _ _ us hl => match us, hl with | [_, _, _, _, _, _], _ => rfl) (aw4 T mW gJ oV kZ) rfl (fun _ => rfl)
theorem bb3 (F : jF K mg "Ink" c_Ink "Saying.__init__" cE)  : nU P w K mg base 1 "Ink" c_Ink (mT K cn "Ink" 5 wM) :=
 iN (d := cF) F sc_Saying_init (fun _ _ _ _ _ _ us hl => match us, hl with | [_, _, _, _, _, _], _ => rfl) (fX T ) rfl (fun _ => rfl)
theorem ad4 (F : jF K mg "Reign" c_Reign "Saying.__init__" cE)  : nU P w K mg base 1 "Reign" c_Reign (mT K cn "Reign" 5 rO) :=
 iN (d := cF) F sc_Saying_init (fun _ _ _ _ _ _ us hl => match us, hl with | [_, _, _, _, _, _], _ => rfl) (fX T ) rfl (fun _ => rfl)
theorem ar3 (F : jF K mg "Under" c_Under "Saying.__init__" cE)  : nU P w K mg base 1 "Under" c_Under (mT K cn "Under" 5 rF) :=
 iN (d := cF) F sc_Saying_init (fun _ _ _ _ _ _ us hl => match us, hl with | [_, _, _, _, _, _], _ => rfl) (fX T ) rfl (fun _ => rfl)
theorem yB (F : jF K mg "Between" c_Between "Saying.__init__" cE)  : nU P w K mg base 1 "Between" c_Between (mT K cn "Between" 5 oA) :=
 iN (d := cF) F sc_Saying_init (fun _ _ _ _ _ _ us hl => match us, hl with | [_, _, _, _, _, _], _ => rfl) (fX T ) rfl (fun _ => rfl)
theorem ae4 (F : jF K mg "After" c_After "Saying.__init__" cE)  : nU P w K mg base 1 "After" c_After (mT K cn "After" 5 rM) :=
 iN (d := cF) F sc_Saying_init (fun _ _ _ _ _ _ us hl => match us, hl with | [_, _, _, _, _, _], _ => rfl) (fX T ) rfl (fun _ => rfl)
theorem aa9 (F : jF K mg "Same" c_Same "Saying.__init__" cE)  : nU P w K mg base 1 "Same" c_Same (mT K cn "Same" 5 tN) :=
 iN (d := cF) F sc_Saying_init (fun _ _ _ _ _ _ us hl => match us, hl with | [_, _, _, _, _, _], _ => rfl) (fX T ) rfl (fun _ => rfl)
theorem ar0 (F : jF K mg "Within" c_Within "Saying.__init__" cE)  : nU P w K mg base 1 "Within" c_Within (mT K cn "Within" 5 pY) :=
 iN (d := cF) F sc_Saying_init (fun _ _ _ _ _ _ us hl => match us, hl with | [_, _, _, _, _, _], _ => rfl) (fX T ) rfl (fun _ => rfl)
theorem au4 (F : jF K mg "Apart" c_Apart "Saying.__init__" cE)  : nU P w K mg base 1 "Apart" c_Apart (mT K cn "Apart" 5 rG) :=
 iN (d := cF) F sc_Saying_init (fun _ _ _ _ _ _ us hl => match us, hl with | [_, _, _, _, _, _], _ => rfl) (fX T ) rfl (fun _ => rfl)
theorem an2 (F : eE K c_Archive "table" "Archive.table" gP)  : iZ P w K mg base 1 c_Archive "table" (aV K cn 2 eR) :=
 dW (d := iT) F T.mL sc_Archive_table (fun _ _ _ _ _ _ us hl => match us, hl with | [_, _], _ => rfl) (ax1 T ) rfl (fun _ => rfl) (by decide)
theorem bu0 (F : eE K c_Ink "about" "Saying.about" bS)  : iZ P w K mg base 1 c_Ink "about" (aV K cn 1 aR) :=
 dW (d := dF) F T.vE eS (fun _ _ _ _ _ _ us hl => match us, hl with | [_], _ => rfl) (eY T ) rfl (fun _ => rfl) (by decide)
theorem at6 (F : eE K c_Reign "about" "Saying.about" bS)  : iZ P w K mg base 1 c_Reign "about" (aV K cn 1 aR) :=
 dW (d := dF) F T.pR eS (fun _ _ _ _ _ _ us hl => match us, hl with | [_], _ => rfl) (eY T ) rfl (fun _ => rfl) (by decide)
theorem aj6 (F : eE K c_Under "about" "Saying.about" bS)  : iZ P w K mg base 1 c_Under "about" (aV K cn 1 aR) :=
 dW (d := dF) F T.pQ eS (fun _ _ _ _ _ _ us hl => match us, hl with | [_], _ => rfl) (eY T ) rfl (fun _ => rfl) (by decide)
theorem af1 (F : eE K c_Between "about" "Saying.about" bS)  : iZ P w K mg base 1 c_Between "about" (aV K cn 1 aR) :=
 dW (d := dF) F T.mK eS (fun _ _ _ _ _ _ us hl => match us, hl with | [_], _ => rfl) (eY T ) rfl (fun _ => rfl) (by decide)
theorem aq6 (F : eE K c_After "about" "Saying.about" bS)  : iZ P w K mg base 1 c_After "about" (aV K cn 1 aR) :=
 dW (d := dF) F T.pU eS (fun _ _ _ _ _ _ us hl => match us, hl with | [_], _ => rfl) (eY T ) rfl (fun _ => rfl) (by decide)
theorem au8 (F : eE K c_Same "about" "Saying.about" bS)  : iZ P w K mg base 1 c_Same "about" (aV K cn 1 aR) :=
 dW (d := dF) F T.sA eS (fun _ _ _ _ _ _ us hl => match us, hl with | [_], _ => rfl) (eY T ) rfl (fun _ => rfl) (by decide)
theorem ax3 (F : eE K c_Within "about" "Saying.about" bS)  : iZ P w K mg base 1 c_Within "about" (aV K cn 1 aR) :=
 dW (d := dF) F T.nX eS (fun _ _ _ _ _ _ us hl => match us, hl with | [_], _ => rfl) (eY T ) rfl (fun _ => rfl) (by decide)
theorem ar6 (F : eE K c_Apart "about" "Saying.about" bS)  : iZ P w K mg base 1 c_Apart "about" (aV K cn 1 aR) :=
 dW (d := dF) F T.pT eS (fun _ _ _ _ _ _ us hl => match us, hl with | [_], _ => rfl) (eY T ) rfl (fun _ => rfl) (by decide)
theorem ae9 (F : eE K c_Ink "bounds" "Saying.bounds" bO)  : iZ P w K mg base 1 c_Ink "bounds" (aV K cn 1 aQ) :=
 dW (d := cY) F T.vE eM (fun _ _ _ _ _ _ us hl => match us, hl with | [_], _ => rfl) (eT T ) rfl (fun _ => rfl) (by decide)
theorem aa4 (F : eE K c_Reign "bounds" "Saying.bounds" bO)  : iZ P w K mg base 1 c_Reign "bounds" (aV K cn 1 aQ) :=
 dW (d := cY) F T.pR eM (fun _ _ _ _ _ _ us hl => match us, hl with | [_], _ => rfl) (eT T ) rfl (fun _ => rfl) (by decide)
theorem ar4 (F : eE K c_Under "bounds" "Saying.bounds" bO)  : iZ P w K mg base 1 c_Under "bounds" (aV K cn 1 aQ) :=
 dW (d := cY) F T.pQ eM (fun _ _ _ _ _ _ us hl => match us, hl with | [_], _ => rfl) (eT T ) rfl (fun _ => rfl) (by decide)
theorem au0 (F : eE K c_Between "bounds" "Saying.bounds" bO)  : iZ P w K mg base 1 c_Between "bounds" (aV K cn 1 aQ) :=
 dW (d := cY) F T.mK eM (fun _ _ _ _ _ _ us hl => match us, hl with | [_], _ => rfl) (eT T ) rfl (fun _ => rfl) (by decide)
theorem av3 (F : eE K c_After "bounds" "Saying.bounds" bO)  : iZ P w K mg base 1 c_After "bounds" (aV K cn 1 aQ) :=
 dW (d := cY) F T.pU eM (fun _ _ _ _ _ _ us hl => match us, hl with | [_], _ => rfl) (eT T ) rfl (fun _ => rfl) (by decide)
theorem ao6 (F : eE K c_Same "bounds" "Saying.bounds" bO)  : iZ P w K mg base 1 c_Same "bounds" (aV K cn 1 aQ) :=
 dW (d := cY) F T.sA eM (fun _ _ _ _ _ _ us hl => match us, hl with | [_], _ => rfl) (eT T ) rfl (fun _ => rfl) (by decide)
theorem ar1 (F : eE K c_Within "bounds" "Saying.bounds" bO)  : iZ P w K mg base 1 c_Within "bounds" (aV K cn 1 aQ) :=
 dW (d := cY) F T.nX eM (fun _ _ _ _ _ _ us hl => match us, hl with | [_], _ => rfl) (eT T ) rfl (fun _ => rfl) (by decide)
theorem an3 (F : eE K c_Apart "bounds" "Saying.bounds" bO)  : iZ P w K mg base 1 c_Apart "bounds" (aV K cn 1 aQ) :=
 dW (d := cY) F T.pT eM (fun _ _ _ _ _ _ us hl => match us, hl with | [_], _ => rfl) (eT T ) rfl (fun _ => rfl) (by decide)
end
theorem cp8 {l : PySem.W.OpenLaw} {w : World} {K : PySem.W.Frag} {h : Heap} {mg : Str → Option Value} {fa f0 : Addr} (X : K.In h) (G : h.Ns mainGlobals mg) (hfa : mg "law" = some (.ref fa))
 {od0 an0 : Option Addr} {sl0 : Array (Option Value)} {oc0 kV0 dc0 pm0 cd0 ct0 : Value}
 (a0 : PySem.W.nsIn K mainGlobals "law" = some (some (.ref f0))) (l0 : K.lookup f0 = some ⟨oc0, od0, .func (PySem.W.fnOf "law" "law" (iK rV) (dN rV) (aN rV) .none kV0 dc0 pm0 an0 cd0 ct0), sl0⟩) (c0 : PySem.W.codeIn K cd0 "law" = true) (k0 : PySem.W.keepIn K (.ref f0) = true)
 {cn : Str → Option Addr} {c_Archive c_Ink c_Reign c_Under c_Between c_After c_Same c_Within c_Apart : Addr} {nY rZ kD : List (Str × Value)}
 (T : Txt w K cn mg c_Archive c_Ink c_Reign c_Under c_Between c_After c_Same c_Within c_Apart nY rZ) (bm4 : cJ K mg "_law_cell" vN) (bc1 : cJ K mg "_law_names" tY) (bx0 : cJ K mg "_law_whirl" tX) (bd1 : cJ K mg "_law_frame" uE) (bu7 : cJ K mg "_law_row" xI) (az9 : cJ K mg "_law_hidden" sD) (bk4 : cJ K mg "_law_free" wN) (be0 : cJ K mg "_law_of_one" sX) (bf0 : cJ K mg "_law_of_two" tF) (ah7 : cJ K mg "_law_sayings" qU) (bq4 : cJ K mg "is_whole" vV) (aw2 : cJ K mg "is_whole_from" oT) (bf1 : cJ K mg "are_years" uF) (bl0 : cJ K mg "is_made_of" tE) (bs7 : cJ K mg "is_name" yL) (ba1 : cJ K mg "are_names" uC) (bg4 : cJ K mg "is_table" vZ) (br4 : cJ K mg "are_inks" wP) (bf4 : cJ K mg "is_reign" wF) (bi0 : cJ K mg "are_reigns" sN) (ay6 : cJ K mg "_law_archive" qZ) (cn1 : cJ K mg "is_due" ae0) (bq7 : cJ K mg "are_due" xU) (bp7 : cJ K mg "ages_of" yH) (bj0 : cJ K mg "ink_saying" sP) (ad5 : cJ K mg "reign_called" pG) (bg0 : cJ K mg "reign_year" sT) (al5 : cJ K mg "reign_saying" pM) (ak5 : cJ K mg "under_saying" pF) (aa1 : cJ K mg "between_saying" nI) (aj5 : cJ K mg "after_saying" pP) (ai7 : cJ K mg "same_saying" qX) (au2 : cJ K mg "within_saying" oK) (ay4 : cJ K mg "apart_saying" pJ) (be1 : cJ K mg "saying_of" tU) (bo4 : cJ K mg "_law_heap" wG) (bg1 : cJ K mg "_law_steps" uK) (az4 : cJ K mg "saying_steps" pN) (bh0 : cJ K mg "span_steps" sC) (bl4 : cJ K mg "steps_of" vF) (bw0 : cJ K mg "_law_whole" uA) (bn4 : cJ K mg "_law_same" vI) (bs4 : jF K mg "Archive" c_Archive "Archive.__init__" iC) (dj0 : jF K mg "Ink" c_Ink "Saying.__init__" cE) (cs1 : jF K mg "Reign" c_Reign "Saying.__init__" cE) (co1 : jF K mg "Under" c_Under "Saying.__init__" cE) (bp4 : jF K mg "Between" c_Between "Saying.__init__" cE) (cq1 : jF K mg "After" c_After "Saying.__init__" cE) (ct5 : jF K mg "Same" c_Same "Saying.__init__" cE) (bt7 : jF K mg "Within" c_Within "Saying.__init__" cE) (cr1 : jF K mg "Apart" c_Apart "Saying.__init__" cE) (ad1 : eE K c_Archive "table" "Archive.table" gP) (bm0 : eE K c_Ink "about" "Saying.about" bS) (ab5 : eE K c_Reign "about" "Saying.about" bS) (aa5 : eE K c_Under "about" "Saying.about" bS) (ab1 : eE K c_Between "about" "Saying.about" bS) (ag5 : eE K c_After "about" "Saying.about" bS) (au6 : eE K c_Same "about" "Saying.about" bS) (ad3 : eE K c_Within "about" "Saying.about" bS) (an5 : eE K c_Apart "about" "Saying.about" bS) (ag7 : eE K c_Ink "bounds" "Saying.bounds" bO) (ac3 : eE K c_Reign "bounds" "Saying.bounds" bO) (ak3 : eE K c_Under "bounds" "Saying.bounds" bO) (zN : eE K c_Between "bounds" "Saying.bounds" bO) (ai3 : eE K c_After "bounds" "Saying.bounds" bO) (ac5 : eE K c_Same "bounds" "Saying.bounds" bO) (ac1 : eE K c_Within "bounds" "Saying.bounds" bO) (af3 : eE K c_Apart "bounds" "Saying.bounds" bO) (br7 : wS w K mg "MAKERS" kD) (ax6 : kD.lookup ("ink" : Str) = mg "ink_saying") (at2 : kD.lookup ("reign" : Str) = mg "reign_saying") (ay2 : kD.lookup ("under" : Str) = mg "under_saying") (zQ : kD.lookup ("between" : Str) = mg "between_saying") (av2 : kD.lookup ("after" : Str) = mg "after_saying") (ah5 : kD.lookup ("same" : Str) = mg "same_saying") (ay0 : kD.lookup ("within" : Str) = mg "within_saying") (aj3 : kD.lookup ("apart" : Str) = mg "apart_saying")
 (main : ∀ ns : List Int, ns.length ≤ 63 → (∀ n ∈ ns, Builtin.Int.intBits n ≤ 1048576) → am7 [.lst false (ns.map .int)] = .ok (.bl true)) :
 ∃ fd : FuncData, (∀ (s : Shared) (v : Value), BindsTo s fd ⟨[v], []⟩ [("_law_script", v)]) ∧ ∀ base : Heap, K.In base → base.Ns mainGlobals mg → FnOk l.prog w K mg base jQ 8 fa fd ["_law_script"] (an7 K) := by
 have e := hfa.symm.trans (PySem.W.mg_of X G a0)
 cases e
 have F0 := au1 (st := rV) l0 c0 k0
 have key : ∀ base : Heap, FnOk l.prog w K mg base jQ 8 fa (PySem.W.fnOf "law" "law" (iK rV) (dN rV) (aN rV) .none kV0 dc0 pm0 an0 cd0 ct0) ["_law_script"] (an7 K) := by
  intro base
  have x_d_law_cell := jZ (P := l.prog) (base := base) T bm4
  have x_d_law_names := uB (P := l.prog) (base := base) T bc1
  have x_d_law_whirl := dO (P := l.prog) (base := base) T bx0
  have x_d_law_frame := tT (P := l.prog) (base := base) T bd1 x_d_law_cell x_d_law_names x_d_law_whirl
  have x_d_law_row := qM (P := l.prog) (base := base) T bu7 x_d_law_whirl
  have x_d_law_hidden := sI (P := l.prog) (base := base) T az9 x_d_law_row
  have x_d_law_free := vO (P := l.prog) (base := base) T bk4
  have x_d_law_of_one := sO (P := l.prog) (base := base) T be0
  have x_d_law_of_two := sY (P := l.prog) (base := base) T bf0
  have x_d_law_sayings := rA (P := l.prog) (base := base) T ah7 x_d_law_row x_d_law_free x_d_law_of_one x_d_law_of_two
  have x_d_is_whole := wI (P := l.prog) (base := base) T bq4
  have x_d_is_whole_from := cU (P := l.prog) (base := base) T aw2 x_d_is_whole
  have x_d_are_years := mW (P := l.prog) (base := base) T bf1 x_d_is_whole_from
  have x_d_is_made_of := sF (P := l.prog) (base := base) T bl0
  have x_d_is_name := yM (P := l.prog) (base := base) T bs7 x_d_is_made_of
  have x_d_are_names := gJ (P := l.prog) (base := base) T ba1 x_d_is_name
  have x_d_is_table := vJ (P := l.prog) (base := base) T bg4 x_d_is_whole_from
  have x_d_are_inks := oV (P := l.prog) (base := base) T br4 x_d_are_names x_d_is_table
  have x_d_is_reign := wD (P := l.prog) (base := base) T bf4 x_d_is_whole_from
  have x_d_are_reigns := kZ (P := l.prog) (base := base) T bi0 x_d_are_names x_d_is_reign
  have x_k_Archive := yN (P := l.prog) (base := base) T bs4 x_d_are_years x_d_are_names x_d_are_inks x_d_are_reigns
  have x_d_law_archive := qW (P := l.prog) (base := base) T ay6 x_k_Archive
  have x_d_is_due := ac0 (P := l.prog) (base := base) T cn1 x_d_is_whole_from
  have x_d_are_due := yS (P := l.prog) (base := base) T bq7 x_d_is_due
  have x_h_table := dS (an2 (P := l.prog) (base := base) T ad1 ) (at0)
  have x_d_ages_of := xM (P := l.prog) (base := base) T bp7
  have x_k_Ink := bb3 (P := l.prog) (base := base) T dj0
  have x_d_reign_called := jA (P := l.prog) (base := base) T ad5
  have x_d_reign_year := kT (P := l.prog) (base := base) T bg0 x_d_is_whole_from
  have x_k_Reign := ad4 (P := l.prog) (base := base) T cs1
  have x_k_Under := ar3 (P := l.prog) (base := base) T co1
  have x_k_Between := yB (P := l.prog) (base := base) T bp4
  have x_k_After := ae4 (P := l.prog) (base := base) T cq1
  have x_k_Same := aa9 (P := l.prog) (base := base) T ct5
  have x_k_Within := ar0 (P := l.prog) (base := base) T bt7
  have x_k_Apart := au4 (P := l.prog) (base := base) T cr1
  have x_d_ink_saying := ai8 (P := l.prog) (base := base) T bj0 x_h_table x_d_ages_of x_k_Ink
  have x_d_reign_saying := ap4 (P := l.prog) (base := base) T al5 x_d_reign_called x_d_reign_year x_k_Reign
  have x_d_under_saying := ap3 (P := l.prog) (base := base) T ak5 x_d_reign_called x_d_reign_year x_k_Under
  have x_d_between_saying := al0 (P := l.prog) (base := base) T aa1 x_k_Between
  have x_d_after_saying := am3 (P := l.prog) (base := base) T aj5 x_k_After
  have x_d_same_saying := an6 (P := l.prog) (base := base) T ai7 x_k_Same
  have x_d_within_saying := ah2 (P := l.prog) (base := base) T au2 x_k_Within
  have x_d_apart_saying := ay3 (P := l.prog) (base := base) T ay4 x_k_Apart
  have x_q_MAKERS : bm2 l.prog w K mg base 4 "MAKERS" (bw2 K cn 2 tb_MAKERS) := cl3 br7 (jO ax6 x_d_ink_saying (by decide) (jO at2 x_d_reign_saying (by decide) (jO ay2 x_d_under_saying (by decide) (jO zQ x_d_between_saying (by decide) (jO av2 x_d_after_saying (by decide) (jO ah5 x_d_same_saying (by decide) (jO ay0 x_d_within_saying (by decide) (jO aj3 x_d_apart_saying (by decide) (br8)))))))))
  have x_d_saying_of := tV (P := l.prog) (base := base) T be1 x_d_are_due x_q_MAKERS
  have x_d_law_heap := vM (P := l.prog) (base := base) T bo4 x_d_saying_of
  have x_d_law_steps := qI (P := l.prog) (base := base) T bg1
  have x_h_about := dS (bu0 (P := l.prog) (base := base) T bm0 ) (dS (at6 (P := l.prog) (base := base) T ab5 ) (dS (aj6 (P := l.prog) (base := base) T aa5 ) (dS (af1 (P := l.prog) (base := base) T ab1 ) (dS (aq6 (P := l.prog) (base := base) T ag5 ) (dS (au8 (P := l.prog) (base := base) T au6 ) (dS (ax3 (P := l.prog) (base := base) T ad3 ) (dS (ar6 (P := l.prog) (base := base) T an5 ) (at0))))))))
  have x_h_bounds := dS (ae9 (P := l.prog) (base := base) T ag7 ) (dS (aa4 (P := l.prog) (base := base) T ac3 ) (dS (ar4 (P := l.prog) (base := base) T ak3 ) (dS (au0 (P := l.prog) (base := base) T zN ) (dS (av3 (P := l.prog) (base := base) T ai3 ) (dS (ao6 (P := l.prog) (base := base) T ac5 ) (dS (ar1 (P := l.prog) (base := base) T ac1 ) (dS (an3 (P := l.prog) (base := base) T af3 ) (at0))))))))
  have x_d_saying_steps := pI (P := l.prog) (base := base) T az4 x_h_about x_h_bounds
  have x_d_span_steps := sK (P := l.prog) (base := base) T bh0
  have x_d_steps_of := mH (P := l.prog) (base := base) T bl4 x_d_saying_steps x_d_span_steps
  have x_d_law_whole := uJ (P := l.prog) (base := base) T bw0
  have x_d_law_same := mE (P := l.prog) (base := base) T bn4 x_d_law_whole
  exact law_fn (ci9 T F0 x_d_law_frame x_d_law_cell x_d_law_hidden x_d_law_sayings x_d_law_archive x_d_law_heap x_d_law_steps x_d_steps_of x_d_law_same) main
 exact ⟨_, fun s v => .of_eq rfl, fun base _ _ => key base⟩
end Nk21
namespace Nk21
open PySem L2 TL
def whirl (n k : Int) : Int :=
 let p := (n % 1000000021 + 4099 * k + 77) * 30011 % 2140000027
 let f := p / 46133 * (p % 46133) + 6007 * (p / 46133) + 271 * (p % 46133) + k
 f * (f % 1009 + 7919) % 1700000009
theorem al3 (n k : Int) : 0 ≤ whirl n k ∧ whirl n k < 1700000009 := ⟨Int.emod_nonneg _ (by decide), Int.emod_lt_of_pos _ (by decide)⟩
theorem be2 (n k : Int) : dA [.int n, .int k] = .ok (.int (whirl n k)) := by
 unfold dA qB
 have q : ∀ f : Int, mulOk f (f % 1009 + 7919) := fun f => bw3 (by have := Int.emod_nonneg f (show (1009 : Int) ≠ 0 by decide); omega) (by have := Int.emod_lt_of_pos f (show (0 : Int) < 1009 by decide); omega)
 have q2 : ∀ p : Int, mulOk (p / 46133) (p % 46133) := fun p => bw3 (by have := Int.emod_nonneg p (show (46133 : Int) ≠ 0 by decide); omega) (by have := Int.emod_lt_of_pos p (show (0 : Int) < 46133 by decide); omega)
 have q3 : ∀ p : Int, tW p 46133 := fun p => ⟨by decide, by decide⟩
 walk_at "ev"
 rfl
theorem ba7 (o : Bool) (ns : List Int) (k : Nat) : eD [.lst o (ns.map .int), .int k] = .ok (.int (ns.getD k 0)) := by
 unfold eD rR
 by_cases h : k < ns.length
 · have h1 : decide ((k : Int) < (ns.length : Nat)) = true := by simpa using h
   have h2 : atI (ns.map T.int) (k : Int) = some (.int (ns.getD k 0)) := gC (by simp [List.getD_eq_getElem?_getD, List.getElem?_eq_getElem h])
   walk_at "ev"
 · have h1 : decide ((k : Int) < (ns.length : Nat)) = false := by simpa using h
   have h2 : ns.getD k 0 = 0 := by simp [List.getD_eq_getElem?_getD, List.getElem?_eq_none (show ns.length ≤ k by omega)]
   walk_at "ev"
def eight : List Str := ["a", "ab", "abc", "b", "ba", "zzzzzzzz", "zzzzzzzy", "q"]
def turned (k : Nat) : List Str := eight.drop k ++ eight.take k
theorem as7 {α : Type} (xs : List α) (k : Nat) (h : k ≤ xs.length) : fZ xs (some (k : Int)) none = xs.drop k := by
 unfold fZ
 have e1 : HT.sIx xs.length 0 (some (k : Int)) = k := by
  simp only [HT.sIx]
  rw [if_neg (by omega)]
  omega
 have e2 : HT.sIx xs.length xs.length none = xs.length := rfl
 rw [e1, e2, List.take_of_length_le (by simp)]
theorem ai2 {α : Type} (xs : List α) (k : Nat) : fZ xs none (some (k : Int)) = xs.take k := by
 unfold fZ
 have e1 : HT.sIx xs.length 0 none = 0 := rfl
 have e2 : HT.sIx xs.length xs.length (some (k : Int)) = min k xs.length := by
  simp only [HT.sIx]
  rw [if_neg (by omega)]
  omega
 rw [e1, e2, List.drop_zero, Nat.sub_zero]
 rw [List.take_eq_take_iff]
 omega
theorem e_names (n : Int) : mP [.int n] = .ok (.lst true ((turned (n % 8).toNat).map .str)) := by
 unfold mP pW
 have h0 := Int.emod_nonneg n (show (8 : Int) ≠ 0 by decide)
 have h1 := Int.emod_lt_of_pos n (show (0 : Int) < 8 by decide)
 obtain ⟨k, hk⟩ := pE h0
 have hk8 : k < 8 := by omega
 have c1 : fZ [T.str "a", .str "ab", .str "abc", .str "b", .str "ba", .str "zzzzzzzz", .str "zzzzzzzy", .str "q"] (some (n % 8)) none = (eight.drop k).map .str := by
  rw [hk]
  exact (as7 (eight.map T.str) k (by show k ≤ 8; omega)).trans List.map_drop.symm
 have c2 : fZ [T.str "a", .str "ab", .str "abc", .str "b", .str "ba", .str "zzzzzzzz", .str "zzzzzzzy", .str "q"] none (some (n % 8)) = (eight.take k).map .str := by
  rw [hk]
  exact (ai2 (eight.map T.str) k).trans List.map_take.symm
 have l1 : (eight.drop k).length + (eight.take k).length ≤ 100000 := by simp [eight]; omega
 rw [show (turned (n % 8).toNat) = eight.drop k ++ eight.take k by rw [hk]; rfl, List.map_append]
 clear hk
 walk_at "ev"
structure Fm where
 first : Int
 span : Int
 names : List Str
 inks : List (Str × List Int)
 reigns : List (Str × Int × Int)
def dP (o : Bool) (p : Str × List Int) : T := .tup [.str p.1, .lst o (p.2.map .int)]
def eX (p : Str × Int × Int) : T := .tup [.str p.1, .int p.2.1, .int p.2.2]
def fU (o : Bool) (f : Fm) : T := .tup [.int f.first, .int (f.first + f.span), .lst o (f.names.map .str), .lst o (f.inks.map (dP o)), .lst o (f.reigns.map eX)]
def mY (w : Str) : Bool := decide (1 ≤ (w.length : Int)) && (decide ((w.length : Int) ≤ 8) && w.cps.toList.all fun c => occ "abcdefghijklmnopqrstuvwxyz" ⟨#[c]⟩)
structure TabOk (xs : List Int) : Prop where
 l1 : 1 ≤ xs.length
 l60 : xs.length ≤ 60
 b : ∀ x ∈ xs, 0 ≤ x ∧ x ≤ 408
 f : xs.Pairwise (fun a b => b ≤ a)
structure Gd (f : Fm) : Prop where
 s0 : 0 ≤ f.span
 s1 : f.span ≤ 300
 f0 : -3000 ≤ f.first
 f1 : f.first + f.span ≤ 3000
 n1 : 1 ≤ f.names.length
 n8 : f.names.length ≤ 8
 nn : ∀ x ∈ f.names, mY x = true
 nd : f.names.Nodup
 i1 : 2 ≤ f.inks.length
 i6 : f.inks.length ≤ 6
 ind : (f.inks.map (·.1)).Nodup
 inn : ∀ p ∈ f.inks, mY p.1 = true ∧ TabOk p.2
 r1 : 2 ≤ f.reigns.length
 r8 : f.reigns.length ≤ 8
 rnd : (f.reigns.map (·.1)).Nodup
 rn : ∀ p ∈ f.reigns, mY p.1 = true ∧ -4000 ≤ p.2.1 ∧ p.2.1 ≤ 4000 ∧ 1 ≤ p.2.2 ∧ p.2.2 ≤ 100
theorem ac9 (l : List Int) {i : Int} (h0 : 0 ≤ i) (h1 : i < l.length) : ∃ v, atI (l.map T.int) i = some (.int v) ∧ v ∈ l := by
 obtain ⟨k, rfl⟩ := pE h0
 have hk : k < l.length := by omega
 exact ⟨l[k], gC (by simp [hk]), List.getElem_mem hk⟩
def sixI : List Str := ["oak", "soot", "oa", "ink", "oakoak", "s"]
def sixR : List Str := ["an", "b", "annab", "zz", "nn", "a"]
theorem bb6 (l : List Str) {i : Nat} (h1 : i < l.length) : ∃ v, atI (l.map T.str) (0 + (i : Int)) = some (.str v) ∧ l[i]? = some v := by
 rw [Int.zero_add]
 exact ⟨l[i], gC (by simp [h1]), List.getElem?_eq_getElem h1⟩
theorem kL (l : List (Str × List Int)) : bA (l.map (dP false)) = true := kA (fun a => by simp only [dP, eC, bA, mQ, Bool.not_false, Bool.and_self]) l
theorem uN (l : List (Str × List Int)) : dL (l.map (dP true)) = true := jW (fun a => by simp only [dP, eA, dL, tS, Bool.and_self]) l
theorem nO (o : Bool) : ∀ l : List (Str × List Int), frzs (l.map (dP o)) = l.map (dP false)
 | [] => rfl
 | p :: l => by simp only [List.map_cons, frzs, nO o l, dP, frz, yC]
theorem kC (l : List (Str × Int × Int)) : bA (l.map eX) = true := kA (fun a => rfl) l
theorem aw1 (l : List (Str × Int × Int)) : dL (l.map eX) = true := jW (fun a => rfl) l
theorem oZ (l : List (Str × Int × Int)) : frzs (l.map eX) = l.map eX := sL (fun a => rfl) l
theorem cd3 (ns : List Int) : ∃ f, kK [.lst false (ns.map .int), .int 8] = .ok (fU true f) ∧ Gd f := by
 unfold kK qA
 have ew := be2
 have ec : eD [.lst false (ns.map .int), .int 0] = .ok (.int (ns.getD 0 0)) := ba7 false ns 0
 have en := e_names
 have hp : xP (.int 10) (.int 15) = .ok (.int 1000000000000000) := by
  rw [ay1, vU (show xD 10 15 from ⟨by decide, by decide, by decide⟩)]
  rfl
 have hc0 : 0 ≤ ns.getD 0 0 % 1000000000000000 := Int.emod_nonneg _ (by decide)
 generalize hc : ns.getD 0 0 % 1000000000000000 = c at hc0
 obtain ⟨span, hs, ms⟩ := ac9 [0, 1, 3, 8, 20, 20, 60, 300] (i := c % 8) (by omega) (by simp; omega)
 obtain ⟨first, hf, mf⟩ := ac9 [-3000, 3000 - span, -10, 1400] (i := c / 8 % 4) (by omega) (by simp; omega)
 simp only [List.map_cons, List.map_nil] at hs hf
 walk_at "ev"
 clear hs hf hp ec en
 generalize hL : fH _ _ _ _ = o
 obtain ⟨ρ', rfl, inks, o7, o8, o9, o10, rfl, il, inm, iok⟩ := jB (fun i ρ => ∃ (inks : List (Str × List Int)) (o7 o8 o9 o10 : Option T), ρ = [some (T.lst false (List.map T.int ns)), some (T.int 8), some (T.int c), some (T.int span),
  some (T.int first), some (T.lst true (fZ (List.map T.str (turned (c / 32 % 8).toNat)) none (some (1 + c / 256 % 8)))), some (T.lst true (inks.map (dP true))), o7, o8, o9, o10, none, none] ∧
  inks.length = i ∧ inks.map (·.1) = sixI.take i ∧ ∀ p ∈ inks, TabOk p.2) hL ⟨[], _, _, _, _, rfl, rfl, rfl, dJ⟩ (by
  rintro i t ρ et ⟨inks, o7, o8, o9, o10, rfl, il, inm, iok⟩
  obtain ⟨hi, rfl⟩ := jU et
  have hw := al3 c 6
  have hi' : i < 6 := by omega
  obtain ⟨m, hm, mm⟩ := ac9 [12, 60] (i := c / 18432 % 4 / 3) (by omega) (by simp; omega)
  obtain ⟨nm, hn, en⟩ := bb6 sixI (i := i) (by show i < 6; exact hi')
  simp only [List.map_cons, List.map_nil, sixI] at hm hn
  have hm0 : 0 < m := by simp at mm; omega
  have hw2 := Int.emod_nonneg (whirl c (0 + (i : Int))) (show m ≠ 0 by omega)
  have hw3 := Int.emod_lt_of_pos (whirl c (0 + (i : Int))) hm0
  have hw4 : whirl c (0 + (i : Int)) % m < 60 := by simp at mm; omega
  clear mm
  clear hL et
  walk_at "ev"
  generalize hL : fH _ _ _ _ = o
  obtain ⟨ρ', rfl, xs, d, p10, rfl, xl, xb, xf, hd0, hd1⟩ := jB (fun j ρ => ∃ (xs : List Int) (d : Int) (p10 : Option T), ρ = [some (T.lst false (List.map T.int ns)), some (T.int 8), some (T.int c), some (T.int span),
   some (T.int first), some (T.lst true (fZ (List.map T.str (turned (c / 32 % 8).toNat)) none (some (1 + c / 256 % 8)))), some (T.lst true (inks.map (dP true))), some (.int (0 + (i : Int))), some (.int d), some (.lst true (xs.map .int)), p10, none, none] ∧
   xs.length = j + 1 ∧ (∀ x ∈ xs, d ≤ x ∧ x ≤ 408) ∧ xs.Pairwise (fun a b => b ≤ a) ∧ 0 ≤ d ∧ d ≤ 408) hL ⟨[400 + c / 2048 % 9], _, _, rfl, rfl, by simp; omega, by simp, by omega, by omega⟩ (by
   rintro j t ρ et ⟨xs, d, p10, rfl, xl, xb, xf, hd0, hd1⟩
   obtain ⟨hj, rfl⟩ := jU et
   have hj' : j < 60 := by omega
   have z0 := Int.emod_nonneg (whirl c (10 * (0 + (j : Int)) + (0 + (i : Int)))) (show (13 : Int) ≠ 0 by decide)
   have hl : xs.length ≤ 100000 := by omega
   clear hL et
   walk_at "ev"
   refine ⟨xs ++ [if d - whirl c (10 * (0 + (j : Int)) + (0 + (i : Int))) % 13 > 0 then d - whirl c (10 * (0 + (j : Int)) + (0 + (i : Int))) % 13 else 0], _, _, by rw [List.map_append]; rfl, by simp [xl], ?_, ?_, ?_, ?_⟩
   · intro x hx
     rcases List.mem_append.mp hx with hx | hx
     · have := xb x hx
       split <;> omega
     · have hx := List.mem_singleton.mp hx
       subst hx
       split <;> omega
   · rw [List.pairwise_append]
     refine ⟨xf, by simp, fun a ha b hb => ?_⟩
     have hb := List.mem_singleton.mp hb
     subst hb
     have := xb a ha
     split <;> omega
   · split <;> omega
   · split <;> omega)
  rw [gN] at xl
  clear hL
  have hl : inks.length ≤ 100000 := by omega
  walk_at "ev"
  refine ⟨inks ++ [(nm, xs)], _, _, _, _, by rw [List.map_append]; rfl, by simp [il], ?_, ?_⟩
  · rw [List.map_append, inm, List.take_succ, en]
    rfl
  · intro p hp
    rcases List.mem_append.mp hp with hp | hp
    · exact iok p hp
    · have hp := List.mem_singleton.mp hp
      subst hp
      exact ⟨by show 1 ≤ xs.length; omega, by show xs.length ≤ 60; omega, fun x hx => ⟨Int.le_trans hd0 (xb x hx).1, (xb x hx).2⟩, xf⟩)
 rw [gN] at il inm
 clear hL
 have h9 : 0 < span + 9 := by simp at ms; omega
 have b0 := Int.emod_nonneg (whirl c 3) (show span + 9 ≠ 0 by omega)
 have b1 := Int.emod_lt_of_pos (whirl c 3) h9
 have b2 := al3 c 7
 have sb : 0 ≤ span ∧ span ≤ 300 := by simp at ms; omega
 have fb : -3000 ≤ first ∧ first + span ≤ 3000 := by simp at mf; omega
 walk_at "ev"
 have t1 : Int.toNat 1 = 1 := rfl
 generalize hL : fH _ _ _ _ = o
 obtain ⟨ρ', rfl, r0, rest, b, q7, rfl, e0, rn, rl, rb, hb0, hb1⟩ := jB (fun i ρ => ∃ (r0 : Str × Int × Int) (rest : List (Str × Int × Int)) (b : Int) (q7 : Option T), ρ = [some (T.lst false (List.map T.int ns)), some (T.int 8), some (T.int c), some (T.int span),
  some (T.int first), some (T.lst true (fZ (List.map T.str (turned (c / 32 % 8).toNat)) none (some (1 + c / 256 % 8)))), some (T.lst true (inks.map (dP true))), q7, o8, o9, o10, some (.int b), some (.lst true (eX r0 :: rest.map eX))] ∧
  r0.1 = "ann" ∧ rest.map (·.1) = (sixR.take i).reverse ++ [("anna" : Str)] ∧ rest.length = i + 1 ∧ (∀ p ∈ r0 :: rest, -4000 ≤ p.2.1 ∧ p.2.1 ≤ 4000 ∧ 1 ≤ p.2.2 ∧ p.2.2 ≤ 100) ∧ first - 5 - 4 * i ≤ b ∧ b ≤ first + span + 3 + 4 * i) hL
  ⟨("ann", first - 5 + whirl c 3 % (span + 9), 1 + whirl c 4 % 30), [("anna", first - 5 + whirl c 3 % (span + 9) + 3, 1 + whirl c 5 % 100)], _, _, rfl, rfl, rfl, rfl, by simp; omega, by omega, by omega⟩ (by
  rintro i t ρ et ⟨r0, rest, b, q7, rfl, e0, rn, rl, rb, hb0, hb1⟩
  obtain ⟨hi, rfl⟩ := jU et
  have hi' : i < 6 := by omega
  obtain ⟨nm, hn, en⟩ := bb6 sixR (i := i) (by show i < 6; exact hi')
  simp only [List.map_cons, List.map_nil, sixR] at hn
  have l1 : (rest.map eX).length + 1 ≤ 100000 := by rw [List.length_map]; omega
  have l2 : 1 ≤ (rest.map eX).length + 1 := by omega
  rw [List.length_map] at l1 l2
  clear hL et
  walk_at "ev"
  rw [if_pos ⟨by decide, by omega⟩]
  refine ⟨r0, (nm, b + whirl c (8 + (0 + (i : Int))) % 9 - 4, 1 + whirl c (14 + (0 + (i : Int))) % 60) :: rest, _, _, rfl, e0, ?_, by simp [rl], ?_, ?_, ?_⟩
  · rw [List.map_cons, rn, List.take_succ, en]
    simp
  · intro p hp
    rcases List.mem_cons.mp hp with rfl | hp
    · exact rb _ List.mem_cons_self
    · rcases List.mem_cons.mp hp with rfl | hp
      · simp only
        omega
      · exact rb p (List.mem_cons_of_mem _ hp)
  · omega
  · omega)
 rw [gN] at rn rl hb0 hb1
 clear hL
 have k0 : 0 ≤ 1 + c / 256 % 8 := by omega
 obtain ⟨kn, hkn⟩ := pE k0
 have ct : fZ (List.map T.str (turned (c / 32 % 8).toNat)) none (some (1 + c / 256 % 8)) = ((turned (c / 32 % 8).toNat).take kn).map .str := by
  rw [hkn, ai2, List.map_take]
 have hk8 : 1 ≤ kn ∧ kn ≤ 8 := by omega
 obtain ⟨kt, hkt⟩ : ∃ kt : Nat, kt < 8 ∧ (c / 32 % 8).toNat = kt := ⟨(c / 32 % 8).toNat, by omega, rfl⟩
 obtain ⟨im, him⟩ : ∃ im : Nat, (2 ≤ im ∧ im ≤ 6) ∧ (2 + whirl c 6 % 5).toNat = im := ⟨_, by omega, rfl⟩
 obtain ⟨rm, hrm⟩ : ∃ rm : Nat, rm ≤ 6 ∧ (whirl c 7 % 7).toNat = rm := ⟨_, by omega, rfl⟩
 rw [hkt.2] at ct
 rw [him.2] at il inm
 rw [hrm.2] at rn rl
 rw [hkt.2]
 refine ⟨⟨first, span, (turned kt).take kn, inks, r0 :: rest⟩, ?_, ?_⟩
 · clear hkn
   walk_at "ev"
   simp only [fU, List.map_cons]
 · have turn_ok : ∀ k, k < 8 → (turned k).length = 8 ∧ (turned k).Nodup ∧ ∀ x ∈ turned k, mY x = true := by decide +kernel
   obtain ⟨u1, u2, u3⟩ := turn_ok kt hkt.1
   have ink_ok : sixI.Nodup ∧ ∀ x ∈ sixI, mY x = true := by decide +kernel
   have rg_ok : ∀ k, k ≤ 6 → (("ann" : Str) :: ((sixR.take k).reverse ++ [("anna" : Str)])).Nodup ∧ ∀ x ∈ ("ann" : Str) :: ((sixR.take k).reverse ++ [("anna" : Str)]), mY x = true := by decide +kernel
   obtain ⟨v1, v2⟩ := rg_ok rm hrm.1
   have rnm : (r0 :: rest).map (·.1) = ("ann" : Str) :: ((sixR.take rm).reverse ++ [("anna" : Str)]) := by rw [List.map_cons, rn, e0]
   exact {
    s0 := sb.1
    s1 := sb.2
    f0 := fb.1
    f1 := fb.2
    n1 := by simp [u1]; omega
    n8 := by simp [u1]; omega
    nn := fun x hx => u3 x (List.mem_of_mem_take hx)
    nd := u2.sublist (List.take_sublist _ _)
    i1 := by show 2 ≤ inks.length; omega
    i6 := by show inks.length ≤ 6; omega
    ind := by show (inks.map (·.1)).Nodup; rw [inm]; exact ink_ok.1.sublist (List.take_sublist _ _)
    inn := fun p hp => ⟨ink_ok.2 _ (List.mem_of_mem_take (i := im) (by rw [← inm]; exact List.mem_map_of_mem hp)), iok p hp⟩
    r1 := by simp [rl]
    r8 := by simp [rl]; omega
    rnd := by show ((r0 :: rest).map (·.1)).Nodup; rw [rnm]; exact v1
    rn := fun p hp => ⟨v2 _ (by rw [← rnm]; exact List.mem_map_of_mem hp), rb p hp⟩ }
end Nk21
namespace Nk21
open PySem L2 TL
theorem pH {n : Nat} (h : n ≤ 100000) : n ≤ sizeLine := Nat.le_trans h (by decide)
theorem dz4 {α : Type} (l : List α) (p : α → Bool) : (l.map fun c => p c).all id = l.all p := by
 induction l with
 | nil => rfl
 | cons a l ih => simp only [List.map_cons, List.all_cons, ih, id]
theorem lS {α : Type} {b : T → Fr → Option Fr} {c : Fr → Res Bool} {d : Fr → Res T} {ρ : Fr} {g f : α → T} : ∀ {l : List α}, (∀ a ∈ l, (match b (g a) ρ with | some ρ1 => (c ρ1).bind fun k => if k = true then d ρ1 else .no | none => .no) = .ok (f a)) → cD b c d ρ (l.map g) = .ok (l.map f)
 | [], _ => rfl
 | a :: l, h => by
  have h0 := h a List.mem_cons_self
  have ih := lS (l := l) fun u hu => h u (List.mem_cons_of_mem _ hu)
  simp only [List.map_cons, cD]
  cases e : b (g a) ρ with
  | none => rw [e] at h0; cases h0
  | some ρ1 =>
   rw [e] at h0
   simp only at h0 ⊢
   cases e2 : c ρ1 with
   | ok k =>
    rw [e2] at h0
    simp only [nS] at h0 ⊢
    cases k with
    | true => rw [if_pos rfl] at h0 ⊢; rw [h0, ih]; rfl
    | false => rw [if_neg (by decide)] at h0; cases h0
   | ex x => rw [e2] at h0; cases h0
   | no => rw [e2] at h0; cases h0
theorem aj9 (w s : Str) (m : Int) (hw : w.length ≤ 100000) : kW [.str w, .str s, .int m] = .ok (.bl (decide (1 ≤ (w.length : Int)) && (decide ((w.length : Int) ≤ m) && w.cps.toList.all fun c => occ s ⟨#[c]⟩))) := by
 unfold kW oW
 have h2 : w.cps.toList.length ≤ sizeLine := by rw [← cx3]; exact pH hw
 have hc : cD (aK 3) dE (aG (zR false) (aE 3) (aE 1)) [some (.str w), some (.str s), some (.int m), none] (w.cps.toList.map fun c => T.str ⟨#[c]⟩) = .ok ((w.cps.toList.map fun c => occ s ⟨#[c]⟩).map .bl) := by
  rw [List.map_map]
  exact gK fun c _ => by walk_at "ev"; rfl
 walk_at "ev"
 cases hA : decide (1 ≤ (w.length : Int)) with
 | false => walk_at "ev"
 | true =>
  cases hB : decide ((w.length : Int) ≤ m) with
  | false => walk_at "ev"
  | true =>
   walk_at "ev"
   rw [dz4]
theorem qQ {w : Str} (h : mY w = true) : w.length ≤ 8 := by
 unfold mY at h
 simp only [Bool.and_eq_true, decide_eq_true_iff] at h
 omega
theorem bz5 {w : Str} (h : mY w = true) : nT [.str w] = .ok (.bl true) := by
 unfold nT tM
 have h1 := aj9 w "abcdefghijklmnopqrstuvwxyz" 8 (by have := qQ h; omega)
 rw [show (decide (1 ≤ (w.length : Int)) && (decide ((w.length : Int) ≤ 8) && w.cps.toList.all fun c => occ "abcdefghijklmnopqrstuvwxyz" ⟨#[c]⟩)) = true from h] at h1
 walk_at "ev"
theorem ak1 (x l u : Int) : cG [.int x, .int l, .int u] = .ok (.bl (decide (l ≤ x) && decide (x ≤ u))) := by
 have h : oC [.int x] = .ok (.bl true) := by
  unfold oC rD
  walk_at "ev"
 unfold cG kP
 cases hA : decide (l ≤ x) with
 | true => walk_at "ev"
 | false => walk_at "ev"
theorem nH {x l u : Int} (h1 : l ≤ x) (h2 : x ≤ u) : cG [.int x, .int l, .int u] = .ok (.bl true) := by
 rw [ak1, decide_eq_true h1, decide_eq_true h2]
 rfl
theorem co6 {α : Type} (l : List α) : l.map (fun _ => T.bl true) = (l.map fun _ => true).map T.bl := by rw [List.map_map]; rfl
theorem rX {α : Type} (o : Bool) (l : List α) : mN false [.lst o (l.map fun _ => T.bl true)] = .ok (.bl true) := by
 rw [co6, cs2]
 simp
theorem sR {xs : List Int} {i : Nat} (h : i < xs.length) : atI (xs.map T.int) (i : Int) = some (.int (xs.getD i 0)) :=
 gC (by rw [List.getElem?_map, List.getElem?_eq_getElem h, List.getD_eq_getElem?_getD, List.getElem?_eq_getElem h]; rfl)
theorem cr6 {xs : List Int} (h : xs.Pairwise (fun a b => b ≤ a)) {i : Nat} (hi : i + 1 < xs.length) : xs.getD (i + 1) 0 ≤ xs.getD i 0 := by
 rw [List.pairwise_iff_getElem] at h
 have := h i (i + 1) (by omega) hi (by omega)
 simpa [List.getD_eq_getElem?_getD, List.getElem?_eq_getElem hi, List.getElem?_eq_getElem (show i < xs.length by omega)] using this
theorem bl3 (o : Bool) {xs : List Int} (h : TabOk xs) : lV [.lst o (xs.map .int)] = .ok (.bl true) := by
 unfold lV rJ
 obtain ⟨h1, h60, hb, hf⟩ := h
 have hc1 : cD (aK 1) dE (bB 3 cG (aD (aE 1) (aD (dC (.int 0)) (aD (dC (.int 1000000)) aI)))) [some (.lst o (xs.map .int)), none, none] (xs.map .int) = .ok (xs.map fun _ => .bl true) := by
  refine gK fun c hc => ?_
  have := nH (hb c hc).1 (Int.le_trans (hb c hc).2 (show (408 : Int) ≤ 1000000 by decide))
  walk_at "ev"
 have hc2 : cD (aK 2) dE (aG oY (aG aX (aE 0) (aE 2)) (aG aX (aE 0) (aG dH (aE 2) (dC (.int 1))))) [some (.lst o (xs.map .int)), none, none] (iR 1 ((xs.length : Int) - 1).toNat) = .ok ((List.range (xs.length - 1)).map fun _ => .bl true) := by
  unfold iR
  rw [show ((xs.length : Int) - 1).toNat = xs.length - 1 by omega]
  refine gK fun i hi => ?_
  have hi := List.mem_range.mp hi
  have a1 : atI (xs.map T.int) (1 + (i : Int)) = some (.int (xs.getD (i + 1) 0)) := by
   rw [show (1 : Int) + (i : Int) = ((i + 1 : Nat) : Int) by omega]
   exact sR (by omega)
  have a2 : atI (xs.map T.int) (1 + (i : Int) - 1) = some (.int (xs.getD i 0)) := by
   rw [show (1 : Int) + (i : Int) - 1 = (i : Int) by omega]
   exact sR (by omega)
  have a3 := decide_eq_true (cr6 hf (i := i) (by omega))
  walk_at "ev"
 have hl2 : (iR 1 ((xs.length : Int) - 1).toNat).length ≤ sizeLine := by rw [gN]; exact pH (by omega)
 have k1 : decide (1 ≤ (xs.length : Int)) = true := decide_eq_true (by omega)
 have k2 : decide ((xs.length : Int) ≤ 60) = true := decide_eq_true (by omega)
 have y1 := fun o => rX o xs
 have y2 := fun o => rX o (List.range (xs.length - 1))
 clear hb hf
 walk_at "ev"
theorem bz3 {b l : Int} (h1 : -4000 ≤ b) (h2 : b ≤ 4000) (h3 : 1 ≤ l) (h4 : l ≤ 100) : mF [.int b, .int l] = .ok (.bl true) := by
 unfold mF rL
 have k1 := nH h1 h2
 have k2 := nH h3 h4
 walk_at "ev"
theorem bt0 {a b : Int} (h1 : -3000 ≤ a) (h2 : a ≤ b) (h3 : b ≤ 3000) (h4 : b - a ≤ 300) : kJ [.int a, .int b] = .ok (.bl true) := by
 unfold kJ qE
 have k1 := nH h1 (show a ≤ 3000 by omega)
 have k2 := nH (show -3000 ≤ b by omega) h3
 have k3 : decide (0 ≤ b - a) = true := decide_eq_true (by omega)
 have k4 : decide (b - a ≤ 300) = true := decide_eq_true (by omega)
 walk_at "ev"
theorem uH {o : Bool} {ss : List Str} {l u : Int} (h1 : l ≤ ss.length) (h2 : (ss.length : Int) ≤ u) (h3 : ss.length ≤ 1000) (hn : ∀ x ∈ ss, mY x = true) (nd : ss.Nodup) : fK [.lst o (ss.map .str), .int l, .int u] = .ok (.bl true) := by
 unfold fK qG
 have hc : cD (aK 3) dE (bB 1 nT (aD (aE 3) aI)) [some (.lst o (ss.map .str)), some (.int l), some (.int u), none] (ss.map .str) = .ok (ss.map fun _ => .bl true) := by
  refine gK fun c hc => ?_
  have := bz5 (hn c hc)
  walk_at "ev"
 have k1 : decide (l ≤ (ss.length : Int)) = true := decide_eq_true h1
 have k2 : decide ((ss.length : Int) ≤ u) = true := decide_eq_true h2
 have y1 := fun o => rX o ss
 have ls := cg1 o nd h3
 have l4 : ss.length ≤ 100000 := by omega
 clear hn nd
 walk_at "ev"
 simp
theorem be3 {is : List (Str × List Int)} (h6 : is.length ≤ 6) (nd : (is.map (·.1)).Nodup) (ok : ∀ p ∈ is, mY p.1 = true ∧ TabOk p.2) : lR [.lst false (is.map (dP false))] = .ok (.bl true) := by
 unfold lR rE
 have hc1 : cD (fI (bJ (aK 1) (bJ (aK 2) fM))) dE (aS (aE 1)) [some (.lst false (is.map (dP false))), none, none] (is.map (dP false)) = .ok ((is.map (·.1)).map .str) := by
  rw [List.map_map]
  exact lS fun p _ => by simp only [dP]; walk_at "ev"; rfl
 have hc2 : cD (fI (bJ (aK 1) (bJ (aK 2) fM))) dE (bB 1 lV (aD (aE 2) aI)) [some (.lst false (is.map (dP false))), none, none] (is.map (dP false)) = .ok (is.map fun _ => .bl true) := by
  refine lS fun p hp => ?_
  simp only [dP]
  have := bl3 false (ok p hp).2
  walk_at "ev"
 have nm := uH (o := false) (ss := is.map (·.1)) (l := 0) (u := 6) (by omega) (by simp; omega) (by simp; omega) (fun x hx => by
  obtain ⟨p, hp, rfl⟩ := List.mem_map.mp hx
  exact (ok p hp).1) nd
 have y1 := fun o => rX o is
 have n1 := kL is
 have l4 : is.length ≤ 100000 := by omega
 clear ok nd
 walk_at "ev"
theorem af9 {rs : List (Str × Int × Int)} (h8 : rs.length ≤ 8) (nd : (rs.map (·.1)).Nodup) (ok : ∀ p ∈ rs, mY p.1 = true ∧ -4000 ≤ p.2.1 ∧ p.2.1 ≤ 4000 ∧ 1 ≤ p.2.2 ∧ p.2.2 ≤ 100) : jM [.lst false (rs.map eX)] = .ok (.bl true) := by
 unfold jM oE
 have hc1 : cD (fI (bJ (aK 1) (bJ (aK 2) (bJ (aK 3) fM)))) dE (aS (aE 1)) [some (.lst false (rs.map eX)), none, none, none] (rs.map eX) = .ok ((rs.map (·.1)).map .str) := by
  rw [List.map_map]
  exact lS fun p _ => by simp only [eX]; walk_at "ev"; rfl
 have hc2 : cD (fI (bJ (aK 1) (bJ (aK 2) (bJ (aK 3) fM)))) dE (bB 2 mF (aD (aE 2) (aD (aE 3) aI))) [some (.lst false (rs.map eX)), none, none, none] (rs.map eX) = .ok (rs.map fun _ => .bl true) := by
  refine lS fun p hp => ?_
  simp only [eX]
  obtain ⟨_, k1, k2, k3, k4⟩ := ok p hp
  have := bz3 k1 k2 k3 k4
  walk_at "ev"
 have nm := uH (o := false) (ss := rs.map (·.1)) (l := 0) (u := 8) (by omega) (by simp; omega) (by simp; omega) (fun x hx => by
  obtain ⟨p, hp, rfl⟩ := List.mem_map.mp hx
  exact (ok p hp).1) nd
 have y1 := fun o => rX o rs
 have n1 := kC rs
 have l4 : rs.length ≤ 100000 := by omega
 clear ok nd
 walk_at "ev"
def cT (o : Bool) (f : Fm) : T := .ins o "Archive" ["first", "present", "letters", "inks", "reigns"] [.int f.first, .int (f.first + f.span), .lst o (f.names.map .str), .lst o (f.inks.map (dP o)), .lst o (f.reigns.map eX)]
theorem fi1 : fG "first" [] = none := rfl
theorem fi2 : fG "present" ["first"] = none := by decide +kernel
theorem fi3 : fG "letters" ["first", "present"] = none := by decide +kernel
theorem fi4 : fG "inks" ["first", "present", "letters"] = none := by decide +kernel
theorem fi5 : fG "reigns" ["first", "present", "letters", "inks"] = none := by decide +kernel
theorem ct1 : (["Archive"] : List Str).contains "Archive" = true := by decide +kernel
theorem at8 {f : Fm} (g : Gd f) : lK [.int f.first, .int (f.first + f.span), .lst false (f.names.map .str), .lst false (f.inks.map (dP false)), .lst false (f.reigns.map eX)] = .ok (cT true f) := by
 unfold lK jE cT
 have k1 := bt0 g.f0 (show f.first ≤ f.first + f.span by have := g.s0; omega) g.f1 (by have := g.s1; omega)
 have k2 := uH (o := false) (l := 1) (u := 8) (ss := f.names) (by have := g.n1; omega) (by have := g.n8; omega) (by have := g.n8; omega) g.nn g.nd
 have k3 := be3 g.i6 g.ind g.inn
 have k4 := af9 g.r8 g.rnd g.rn
 have n1 := kL f.inks
 have n2 := kC f.reigns
 have z1 := nO false f.inks
 have z2 := oZ f.reigns
 have i1 := fi1
 have i2 := fi2
 have i3 := fi3
 have i4 := fi4
 have i5 := fi5
 have c1 := ct1
 have d0 : ∀ x y z : T, cD (fI (bJ (aK 6) (bJ (aK 7) fM))) dE (cW (aD (aS (aE 6)) (aD (cK gQ (aD (aE 7) aI)) aI))) [some x, some (.int f.first), some (.int (f.first + f.span)), some y, some (.lst false (f.inks.map (dP false))), some z, none, none] (f.inks.map (dP false)) = .ok (f.inks.map (dP true)) := fun x y z =>
  lS fun p _ => by simp only [dP]; walk_at "ev"
 have l4 : f.inks.length ≤ 100000 := by have := g.i6; omega
 clear g
 have q1 : decide (0 < 1000) = true := rfl
 have q2 : decide (1 < 1000) = true := rfl
 have q3 : decide (2 < 1000) = true := rfl
 have q4 : decide (3 < 1000) = true := rfl
 have q5 : decide (4 < 1000) = true := rfl
 walk_at "ev"
end Nk21
namespace Nk21
open PySem L2 TL
theorem iO (o : Bool) (f : Fm) : frz (cT o f) = cT false f := by simp only [cT, frz, frzs, xH, nO, oZ]
theorem iU (f : Fm) : eC (cT false f) = true := by simp only [cT, eC, bA, qD, kL, kC, Bool.not_false, Bool.and_self]
theorem am8 (f : Fm) : eA (cT true f) = true := by simp only [cT, eA, dL, uI, uN, aw1, Bool.and_self]
theorem aw9 (o : Bool) (f : Fm) : fJ ["Archive"] "first" (cT o f) = .ok (.int f.first) := by with_unfolding_all rfl
theorem ab2 (o : Bool) (f : Fm) : fJ ["Archive"] "present" (cT o f) = .ok (.int (f.first + f.span)) := by with_unfolding_all rfl
theorem wC (o : Bool) (f : Fm) : fJ ["Archive"] "letters" (cT o f) = .ok (.lst o (f.names.map .str)) := by with_unfolding_all rfl
theorem bl1 (o : Bool) (f : Fm) : fJ ["Archive"] "inks" (cT o f) = .ok (.lst o (f.inks.map (dP o))) := by with_unfolding_all rfl
theorem av5 (o : Bool) (f : Fm) : fJ ["Archive"] "reigns" (cT o f) = .ok (.lst o (f.reigns.map eX)) := by with_unfolding_all rfl
theorem jS {α : Type} (a : α) (l : List α) : atI (a :: l) 0 = some a := gC (j := 0) rfl
theorem iX {α : Type} (a b : α) (l : List α) : atI (a :: b :: l) 1 = some b := gC (j := 1) rfl
theorem qO {α : Type} (a b c : α) (l : List α) : atI (a :: b :: c :: l) 2 = some c := gC (j := 2) rfl
theorem vC {α : Type} (a b c d : α) (l : List α) : atI (a :: b :: c :: d :: l) 3 = some d := gC (j := 3) rfl
theorem ix4 {α : Type} (a b c d e : α) (l : List α) : atI (a :: b :: c :: d :: e :: l) 4 = some e := gC (j := 4) rfl
theorem ap6 {f : Fm} (g : Gd f) : iI [fU false f] = .ok (cT true f) := by
 unfold iI nC
 have hc : cD (fI (bJ (aK 2) (bJ (aK 3) fM))) dE (cW (aD (aS (aE 2)) (aD (cK gQ (aD (aE 3) aI)) aI))) [some (fU false f), none, none, none] (f.inks.map (dP false)) = .ok (f.inks.map (dP true)) :=
  lS fun p _ => by simp only [dP]; walk_at "ev"
 have k := at8 g
 have n1 := kL f.inks
 have n2 := kC f.reigns
 have z1 := nO true f.inks
 have z2 := oZ f.reigns
 have z3 := uN f.inks
 have l4 : f.inks.length ≤ 100000 := by have := g.i6; omega
 have ca := am8 f
 have a0 := fun l => jS (T.int f.first) l
 simp only [fU] at hc ⊢
 clear g
 have b0 := @jS T
 have b1 := @iX T
 have b2 := @qO T
 have b3 := @vC T
 have b4 := @ix4 T
 walk_at "ev"
def lN : Option Int → T
 | none => .non
 | some h => .int h
def iY : List Str := ["Ink", "Reign", "Under", "Between", "After", "Same", "Within", "Apart"]
def gF (o : Bool) (c : Str) (ls : List Int) (lo : Int) (hi : Option Int) (x : Str) : T := .ins o c ["spoken", "low", "high", "text"] [.lst o (ls.map .int), .int lo, lN hi, .str x]
theorem aw3 (h : Option Int) : eC (lN h) = true ∧ eA (lN h) = true ∧ frz (lN h) = lN h := by cases h <;> exact ⟨rfl, rfl, rfl⟩
theorem vX (h : Option Int) : eC (lN h) = true := (aw3 h).1
theorem ai0 (h : Option Int) : eA (lN h) = true := (aw3 h).2.1
theorem bi7 (h : Option Int) : frz (lN h) = lN h := (aw3 h).2.2
theorem eK (c : Str) (ls : List Int) (lo : Int) (hi : Option Int) (x : Str) : eA (gF true c ls lo hi x) = true := by simp only [gF, eA, dL, tS, ai0, Bool.and_self]
theorem cc1 (c : Str) (ls : List Int) (lo : Int) (hi : Option Int) (x : Str) : eC (gF false c ls lo hi x) = true := by simp only [gF, eC, bA, mQ, vX, Bool.not_false, Bool.and_self]
theorem ch7 (o : Bool) (c : Str) (ls : List Int) (lo : Int) (hi : Option Int) (x : Str) : frz (gF o c ls lo hi x) = gF false c ls lo hi x := by simp only [gF, frz, frzs, yC, bi7]
theorem fj1 : fG "spoken" [] = none := rfl
theorem fj2 : fG "low" ["spoken"] = none := by decide +kernel
theorem fj3 : fG "high" ["spoken", "low"] = none := by decide +kernel
theorem fj4 : fG "text" ["spoken", "low", "high"] = none := by decide +kernel
theorem ct8 : ∀ c ∈ iY, (["Ink", "Reign", "Under", "Between", "After", "Same", "Within", "Apart"] : List Str).contains c = true := by decide +kernel
theorem cf4 {ys : List Str} (h : ∀ y ∈ ys, y.length ≤ 2000000) (hl : ys.length ≤ 5) (o : Bool) : yY (.str " ") [.lst o (ys.map .str)] = .ok (.str (Txt.join " " ys)) := by
 rw [bz1, if_pos]
 have hs : (ys.map (·.length)).sum ≤ ys.length * 2000000 := by
  clear hl
  induction ys with
  | nil => simp
  | cons y ys ih =>
   have h1 := h y List.mem_cons_self
   have h2 := ih fun z hz => h z (List.mem_cons_of_mem _ hz)
   simp only [List.map_cons, List.sum_cons, List.length_cons]
   omega
 have h1 : (" " : Str).length = 1 := by decide +kernel
 rw [h1]
 have : ys.length * 2000000 ≤ 5 * 2000000 := Nat.mul_le_mul_right _ hl
 omega
theorem xV (n : Str) : ∀ ss : List Str, wK (.str n) (ss.map .str) = some (ss.map fun s => s == n)
 | [] => rfl
 | s :: ss => by
  simp only [List.map_cons, wK, xV n ss]
  rfl
theorem bw1 {n : Str} : ∀ {ss : List Str} {l : Nat}, ss.Nodup → ss[l]? = some n → wR (ss.map fun s => s == n) = some l
 | [], l, _, h => by simp at h
 | s :: ss, 0, _, h => by
  simp at h
  subst h
  simp [wR]
 | s :: ss, l + 1, nd, h => by
  rw [List.nodup_cons] at nd
  simp only [List.getElem?_cons_succ] at h
  have hne : (s == n) = false := by
   simp
   rintro rfl
   exact nd.1 (List.mem_of_getElem? h)
  simp only [List.map_cons, hne, wR, bw1 nd.2 h]
  rfl
theorem ce4 {f : Fm} (g : Gd f) {l : Nat} {n : Str} (h : f.names[l]? = some n) (o : Bool) : uU (.lst o (f.names.map .str)) [.str n] = .ok (.int (l : Int)) := by
 simp only [uU, xV, bw1 g.nd h]
theorem bg9 {ss : List Str} {n : Str} (h : n ∈ ss) (o : Bool) : zR false (.str n) (.lst o (ss.map .str)) = .ok (.bl true) := by
 have : (ss.map fun s => s == n).any id = true := by
  rw [List.any_map, List.any_eq_true]
  exact ⟨n, h, by simp⟩
 simp only [zR, xV, Bool.false_eq_true, if_false, this]
theorem e_init {f : Fm} (g : Gd f) {c w : Str} (hc : c ∈ iY) {ps : List T} {ds : List T} {nl : List (Str × Nat)} {xs : List Str} {lo : Int} {hi : Option Int} (hp : bA ps = true) (hpl : ps.length ≤ 4) (hk : kt_PARTS.lookup w = some (.tup ds)) (hds : bA ds = true)
 (h7 : ∀ a b d e h i : Option T, cD (fI (bJ (aK 7) (bJ (aK 8) fM))) (bR (aG gO (aE 8) (dC (.str "letter")))) (aS (aE 7)) [a, b, d, e, h, i, none, none, none, none] (fL ps ds) = .ok ((nl.map (·.1)).map .str))
 (hn : nl.length ≤ 4) (hnl : ∀ p ∈ nl, f.names[p.2]? = some p.1)
 (hx : ∀ a b d e h i j : Option T, cD (aK 7) dE (cK zK (aD (aE 7) aI)) [a, b, d, e, h, i, j, none, none, none] ps = .ok (xs.map .str)) (hxl : xs.length ≤ 4) (hxb : ∀ y ∈ w :: xs, y.length ≤ 2000000) :
 ∃ x, jG (cF (cS 10 [.ins true c [] [], cT false f, .str w, .lst false ps, .int lo, lN hi])) = .ok (gF true c (nl.map fun p => (p.2 : Int)) lo hi x) := by
 refine ⟨Txt.join " " (w :: xs), ?_⟩
 unfold cF gF
 have hl7 : (fL ps ds).length ≤ sizeLine := by rw [xE]; exact pH (by omega)
 have i1 := fj1
 have i2 := fj2
 have i3 := fj3
 have i4 := fj4
 have cc := ct8 c hc
 have fl := wC false f
 have h9 : cD (aK 9) dE (dBM ag1 uU (eO (fJ ["Archive"] "letters") (aE 1)) (aD (aE 9) aI)) [some (.ins true c [] []), some (cT false f), some (.str w), some (.lst false ps), some (.int lo), some (lN hi), some (.lst true ((nl.map (·.1)).map .str)), none, none, none] ((nl.map (·.1)).map .str) = .ok ((nl.map fun p => (p.2 : Int)).map .int) := by
  rw [List.map_map, List.map_map]
  refine gK (α := Str × Nat) fun p hp => ?_
  have := ce4 g (hnl p hp) false
  walk_at "ev"
  exact this
 have nh := vX hi
 have jn := cf4 (ys := w :: xs) hxb (by simp; omega) true
 simp only [List.map_cons] at jn
 have np := qD
 have hxl2 : 1 + xs.length ≤ sizeLine := pH (by omega)
 have hnn : (nl.map (·.1)).length ≤ 100000 := by simp; omega
 have q1 : decide (0 < 1000) = true := rfl
 have q2 : decide (1 < 1000) = true := rfl
 have q3 : decide (2 < 1000) = true := rfl
 have q4 : decide (3 < 1000) = true := rfl
 clear g hnl hxb
 walk_at "ev"
end Nk21
namespace Nk21
open PySem L2 TL
theorem di4 (a b : T) : frz (.tup [a, b]) = .tup [frz a, frz b] := rfl
theorem bi5 {a : T} {ts us : List T} (h : a ∈ fL ts us) : ∃ (i : Nat) (t u : T), ts[i]? = some t ∧ us[i]? = some u ∧ a = .tup [t, u] := by
 obtain ⟨i, hi⟩ := List.getElem?_of_mem h
 obtain ⟨t, u, h1, h2, h3⟩ := yT hi
 exact ⟨i, t, u, h1, h2, h3⟩
theorem bd4 {ts : List T} {i : Nat} {t : T} (h : bA ts = true) (e : ts[i]? = some t) : eC t = true := by
 rw [yG, List.all_eq_true] at h
 exact h t (List.mem_of_getElem? e)
theorem jP {f : Fm} {w : Str} {ps : List T} {ds : List Str} (hk : kt_PARTS.lookup w = some (.tup (ds.map .str))) (hp : bA ps = true) (hl : ps.length = ds.length) (h4 : ds.length ≤ 4)
 (h : ∀ (i : Nat) (d : Str) (p : T), ds[i]? = some d → ps[i]? = some p → fQ [cT false f, .str d, p] = .ok (.bl true)) : nW [cT false f, .str w, .lst false ps] = .ok (.bl true) := by
 unfold nW tR
 have na := iU f
 have za := iO false f
 have hc : cD (fI (bJ (aK 3) (bJ (aK 4) fM))) dE (bB 3 fQ (aD (aE 0) (aD (aE 3) (aD (aE 4) aI)))) [some (cT false f), some (.str w), some (.lst false ps), none, none] (fL (ds.map .str) ps) = .ok ((fL (ds.map .str) ps).map fun _ => .bl true) := by
  have := lS (b := fI (bJ (aK 3) (bJ (aK 4) fM))) (c := dE) (d := bB 3 fQ (aD (aE 0) (aD (aE 3) (aD (aE 4) aI)))) (ρ := [some (cT false f), some (.str w), some (.lst false ps), none, none]) (g := id) (f := fun _ => T.bl true) (l := fL (ds.map .str) ps) fun a ha => ?_
  · rw [List.map_id] at this
    exact this
  obtain ⟨i, t, u, h1, h2, rfl⟩ := bi5 ha
  rw [List.getElem?_map] at h1
  cases e : ds[i]? with
  | none => rw [e] at h1; cases h1
  | some d =>
   rw [e] at h1
   cases h1
   have k := h i d u e h2
   have nu := bd4 hp h2
   have zu := ac6 u nu
   simp only [id]
   clear h hk hp ha
   walk_at "ev"
 have hs : (kt_PARTS.lookup w).isSome = true := by rw [hk]; rfl
 have e1 : (!((ps.length : Int) == (ds.length : Int))) = false := by rw [hl]; simp
 have hpl : (fL (ds.map .str) ps).length ≤ sizeLine := by rw [xE, List.length_map]; exact pH (by omega)
 have y := fun o => rX o (fL (ds.map .str) ps)
 have nd := qD ds
 clear h hl
 walk_at "ev"
theorem sH : ∀ d ∈ (["ink", "reign", "dark", "place", "year", "later", "gap"] : List Str), (d == "letter") = false := by decide +kernel
theorem ch9 : ∀ d ∈ (["reign", "dark", "place", "year", "later", "gap"] : List Str), (d == "ink") = false := by decide +kernel
theorem dt4 : ∀ d ∈ (["dark", "place", "year", "later", "gap"] : List Str), (d == "reign") = false := by decide +kernel
theorem eV {f : Fm} {n : Str} (h : n ∈ f.names) : fQ [cT false f, .str "letter", .str n] = .ok (.bl true) := by
 unfold fQ nF
 have k := bg9 h false
 have fl := wC false f
 have e : (("letter" : Str) == "letter") = true := beq_self_eq_true _
 walk_at "ev"
theorem cd5 {f : Fm} (g : Gd f) {n : Str} (h : n ∈ f.inks.map (·.1)) : fQ [cT false f, .str "ink", .str n] = .ok (.bl true) := by
 unfold fQ nF
 have fl := bl1 false f
 have e : (("ink" : Str) == "ink") = true := beq_self_eq_true _
 have e1 := sH "ink" (by decide +kernel)
 have k := bg9 h true
 have b0 := @jS T
 have l6 : f.inks.length ≤ 100000 := by have := g.i6; omega
 have n1 := kL f.inks
 have hc : cD (aK 3) dE (aS (aG aX (aE 3) (dC (.int 0)))) [some (cT false f), some (.str "ink"), some (.str n), none, none] (f.inks.map (dP false)) = .ok ((f.inks.map (·.1)).map .str) := by
  rw [List.map_map]
  exact gK fun p _ => by simp only [dP]; walk_at "ev"; rfl
 clear g h
 walk_at "ev"
theorem az5 {f : Fm} (g : Gd f) {n : Str} (h : n ∈ f.reigns.map (·.1)) : fQ [cT false f, .str "reign", .str n] = .ok (.bl true) := by
 unfold fQ nF
 have fl := av5 false f
 have e : (("reign" : Str) == "reign") = true := beq_self_eq_true _
 have e1 := sH "reign" (by decide +kernel)
 have e2 := ch9 "reign" (by decide +kernel)
 have k := bg9 h true
 have b0 := @jS T
 have l6 : f.reigns.length ≤ 100000 := by have := g.r8; omega
 have n1 := kC f.reigns
 have hc : cD (aK 4) dE (aS (aG aX (aE 4) (dC (.int 0)))) [some (cT false f), some (.str "reign"), some (.str n), none, none] (f.reigns.map eX) = .ok ((f.reigns.map (·.1)).map .str) := by
  rw [List.map_map]
  exact gK fun p _ => by simp only [eX]; walk_at "ev"; rfl
 clear g h
 walk_at "ev"
theorem nR {f : Fm} {d : Str} {lo hi i : Int} (hd : d ∈ (["dark", "place", "year", "later", "gap"] : List Str)) (hk : kt_NUMBERS.lookup d = some (.tup [.int lo, .int hi])) (h1 : lo ≤ i) (h2 : i ≤ hi) : fQ [cT false f, .str d, .int i] = .ok (.bl true) := by
 unfold fQ nF
 have e1 := sH d (List.mem_cons_of_mem _ (List.mem_cons_of_mem _ hd))
 have e2 := ch9 d (List.mem_cons_of_mem _ hd)
 have e3 := dt4 d hd
 have k := nH h1 h2
 have b0 := @jS T
 have b1 := @iX T
 walk_at "ev"
theorem bp1 : kt_NUMBERS.lookup ("dark" : Str) = some (.tup [.int 0, .int 1000000]) := by with_unfolding_all rfl
theorem bn8 : kt_NUMBERS.lookup ("place" : Str) = some (.tup [.int 1, .int 100]) := by with_unfolding_all rfl
theorem bc2 : kt_NUMBERS.lookup ("year" : Str) = some (.tup [.int (-4000), .int 4000]) := by with_unfolding_all rfl
theorem bx9 : kt_NUMBERS.lookup ("later" : Str) = some (.tup [.int 0, .int 300]) := by with_unfolding_all rfl
theorem bn5 : kt_NUMBERS.lookup ("gap" : Str) = some (.tup [.int (-300), .int 300]) := by with_unfolding_all rfl
abbrev d_ink : List Str := ["letter", "ink", "dark", "dark"]
abbrev d_reign : List Str := ["letter", "reign", "place"]
abbrev d_under : List Str := ["letter", "reign"]
abbrev d_between : List Str := ["letter", "year", "year"]
abbrev d_two : List Str := ["letter", "letter"]
abbrev d_within : List Str := ["letter", "letter", "later"]
abbrev d_apart : List Str := ["letter", "letter", "gap", "gap"]
theorem aq7 : kt_PARTS.lookup ("ink" : Str) = some (.tup (d_ink.map .str)) := by with_unfolding_all rfl
theorem as0 : kt_PARTS.lookup ("reign" : Str) = some (.tup (d_reign.map .str)) := by with_unfolding_all rfl
theorem ad0 : kt_PARTS.lookup ("under" : Str) = some (.tup (d_under.map .str)) := by with_unfolding_all rfl
theorem wH : kt_PARTS.lookup ("between" : Str) = some (.tup (d_between.map .str)) := by with_unfolding_all rfl
theorem am0 : kt_PARTS.lookup ("after" : Str) = some (.tup (d_two.map .str)) := by with_unfolding_all rfl
theorem az3 : kt_PARTS.lookup ("same" : Str) = some (.tup (d_two.map .str)) := by with_unfolding_all rfl
theorem xT : kt_PARTS.lookup ("within" : Str) = some (.tup (d_within.map .str)) := by with_unfolding_all rfl
theorem ak0 : kt_PARTS.lookup ("apart" : Str) = some (.tup (d_apart.map .str)) := by with_unfolding_all rfl
theorem cc6 : tb_MAKERS.lookup ("ink" : Str) = some oO := by with_unfolding_all rfl
theorem ci0 : tb_MAKERS.lookup ("reign" : Str) = some lW := by with_unfolding_all rfl
theorem bi8 : tb_MAKERS.lookup ("under" : Str) = some lY := by with_unfolding_all rfl
theorem bd3 : tb_MAKERS.lookup ("between" : Str) = some jX := by with_unfolding_all rfl
theorem bs8 : tb_MAKERS.lookup ("after" : Str) = some mI := by with_unfolding_all rfl
theorem ck5 : tb_MAKERS.lookup ("same" : Str) = some nB := by with_unfolding_all rfl
theorem be5 : tb_MAKERS.lookup ("within" : Str) = some kQ := by with_unfolding_all rfl
theorem ce0 : tb_MAKERS.lookup ("apart" : Str) = some lZ := by with_unfolding_all rfl
theorem lE {f : Fm} {w d1 : Str} {ps ds : List T} {F : List T → Res T} {r : T} (hk : kt_PARTS.lookup w = some (.tup ds)) (hp : bA ps = true) (hds : bA ds = true) (hd : nW [cT false f, .str w, .lst false ps] = .ok (.bl true)) (h1 : atI ds 1 = some (.str d1))
 (h2 : (d1 == "letter") = false ∨ ((d1 == "letter") = true ∧ ∃ a b : Str, atI ps 0 = some (.str a) ∧ atI ps 1 = some (.str b) ∧ (a == b) = false)) (hm : tb_MAKERS.lookup w = some F) (hF : F [cT false f, .lst false ps] = .ok r) (hc : eA r = true) :
 cX [cT false f, .str w, .lst false ps] = .ok r := by
 unfold cX pV
 have na := iU f
 have za := iO false f
 have zp := iA ps hp
 rcases h2 with h2 | ⟨h2, a, b, h3, h4, h5⟩
 · walk_at "ev"
 · walk_at "ev"
end Nk21
namespace Nk21
open PySem L2 TL
def pB (xs : List Int) (d e : Int) (j : Nat) : Bool := decide ((if xs.getD (min j (xs.length - 1)) 0 - d < 0 then -(xs.getD (min j (xs.length - 1)) 0 - d) else xs.getD (min j (xs.length - 1)) 0 - d) ≤ e)
def fY (xs : List Int) (d e : Int) (n : Nat) : List Int := ((List.range n).filter (pB xs d e)).map fun (j : Nat) => (j : Int)
def bp8 : List Int → T
 | [] => .non
 | a :: l => .tup [.int a, .int ((a :: l).getD l.length 0)]
theorem nN (xs : List Int) (d e : Int) (n : Nat) : fY xs d e (n + 1) = fY xs d e n ++ (if pB xs d e n = true then [(n : Int)] else []) := by
 unfold fY
 rw [List.range_succ, List.filter_append, List.map_append]
 congr 1
 simp only [List.filter_cons, List.filter_nil]
 split <;> rfl
theorem cm1 {l : List Int} {a : Int} : atI ((a :: l).map T.int) (-1) = some (.int ((a :: l).getD l.length 0)) := by
 have e0 : zZ ((a :: l).map T.int).length (-1) = some l.length := by
  unfold zZ
  rw [if_neg (by decide), List.length_map, List.length_cons, if_pos (by omega)]
  congr 1
  omega
 unfold atI
 rw [e0]
 show ((a :: l).map T.int)[l.length]? = _
 rw [List.getElem?_map, List.getD_eq_getElem?_getD, List.getElem?_eq_getElem (by simp)]
 rfl
theorem vT (xs : List Int) (d e : Int) (n m : Nat) (h : ∀ j, n ≤ j → j < n + m → pB xs d e j = false) : fY xs d e (n + m) = fY xs d e n := by
 induction m with
 | zero => rfl
 | succ m ih =>
  rw [← Nat.add_assoc, nN, ih (fun j h1 h2 => h j h1 (by omega)), h (n + m) (by omega) (by omega)]
  simp
theorem yA {xs : List Int} {d e : Int} {n : Nat} (h : pB xs d e n = true) : ∃ l, fY xs d e (n + 1) = l ++ [(n : Int)] := ⟨fY xs d e n, by rw [nN, if_pos h]⟩
theorem ap2 (xs : List Int) (d e : Int) (n : Nat) : ∀ x ∈ fY xs d e n, x < n := by
 intro x hx
 unfold fY at hx
 obtain ⟨j, hj, rfl⟩ := List.mem_map.mp hx
 have := List.mem_range.mp (List.mem_filter.mp hj).1
 omega
theorem ah6 (l : List Int) (z : Int) : (l ++ [z]).getD l.length 0 = z := by
 rw [List.getD_eq_getElem?_getD, List.getElem?_append_right (Nat.le_refl _)]
 simp
theorem ci3 (xs : List Int) (d e : Int) (G : Nat) (h0 : 0 < xs.length) (a : Int) (l : List Int) (hh : fY xs d e (min (xs.length - 1) G + 1) = a :: l) :
 bp8 (fY xs d e (G + 1)) = .tup [.int a, .int (if (a :: l).getD l.length 0 = ((xs.length - 1 : Nat) : Int) then (G : Int) else (a :: l).getD l.length 0)] := by
 have hmem : (a :: l).getD l.length 0 ∈ a :: l := by
  rw [List.getD_eq_getElem?_getD, List.getElem?_eq_getElem (by simp)]
  exact List.getElem_mem _
 have hb := ap2 xs d e (min (xs.length - 1) G + 1) _ (by rw [hh]; exact hmem)
 rcases Nat.lt_or_ge (xs.length - 1) G with hG | hG
 · rw [Nat.min_eq_left (by omega)] at hh hb
   have same : ∀ j, xs.length - 1 ≤ j → pB xs d e j = pB xs d e (xs.length - 1) := by
    intro j hj
    unfold pB
    rw [Nat.min_eq_right hj, Nat.min_self]
   cases hp : pB xs d e (xs.length - 1) with
   | true =>
    have hG' : pB xs d e G = true := by rw [same G (by omega), hp]
    obtain ⟨l1, h1⟩ := yA hG'
    obtain ⟨l2, h2⟩ := yA hp
    rw [hh] at h2
    have pre : ∀ m, ∃ r, fY xs d e (xs.length - 1 + 1 + m) = a :: l ++ r := by
     intro m
     induction m with
     | zero => exact ⟨[], by rw [Nat.add_zero, hh, List.append_nil]⟩
     | succ m ih =>
      obtain ⟨r, hr⟩ := ih
      rw [← Nat.add_assoc, nN, hr, List.append_assoc]
      exact ⟨_, rfl⟩
    obtain ⟨r, hr⟩ := pre (G + 1 - (xs.length - 1 + 1))
    rw [show xs.length - 1 + 1 + (G + 1 - (xs.length - 1 + 1)) = G + 1 by omega] at hr
    have last : (a :: l).getD l.length 0 = ((xs.length - 1 : Nat) : Int) := by
     have : l.length = l2.length := by
      have := congrArg List.length h2
      simp at this
      exact this
     rw [h2, this, ah6]
    rw [last, if_pos rfl, hr]
    rw [hr] at h1
    show T.tup [.int a, .int ((a :: (l ++ r)).getD (l ++ r).length 0)] = _
    have h1' : a :: (l ++ r) = l1 ++ [(G : Int)] := h1
    have hlen : (l ++ r).length = l1.length := by
     have := congrArg List.length h1'
     simp at this ⊢
     exact this
    rw [h1', hlen, ah6]
   | false =>
    have hs := vT xs d e (xs.length - 1 + 1) (G + 1 - (xs.length - 1 + 1)) (fun j h1 h2 => by rw [same j (by omega), hp])
    rw [show xs.length - 1 + 1 + (G + 1 - (xs.length - 1 + 1)) = G + 1 by omega, hh] at hs
    rw [hs]
    have hz : fY xs d e (xs.length - 1 + 1) = fY xs d e (xs.length - 1) := vT xs d e (xs.length - 1) 1 (fun j h1 h2 => by rw [show j = xs.length - 1 by omega, hp])
    have hb2 := ap2 xs d e (xs.length - 1) _ (by rw [← hz, hh]; exact hmem)
    rw [if_neg (by omega)]
    rfl
 · rw [Nat.min_eq_right hG] at hh hb
   rw [hh]
   show T.tup [.int a, .int ((a :: l).getD l.length 0)] = _
   have : (if (a :: l).getD l.length 0 = ((xs.length - 1 : Nat) : Int) then (G : Int) else (a :: l).getD l.length 0) = (a :: l).getD l.length 0 := by
    split
    · next h => rw [h]; rw [h] at hb; omega
    · rfl
   rw [this]
theorem cx0 (xs : List Int) (d e : Int) (G : Nat) (h0 : 0 < xs.length) (hh : fY xs d e (min (xs.length - 1) G + 1) = []) : fY xs d e (G + 1) = [] := by
 rcases Nat.lt_or_ge (xs.length - 1) G with hG | hG
 · rw [Nat.min_eq_left (by omega)] at hh
   have hp : pB xs d e (xs.length - 1) = false := by
    cases hp : pB xs d e (xs.length - 1) with
    | false => rfl
    | true =>
     obtain ⟨l, h⟩ := yA hp
     rw [hh] at h
     simp at h
   have hs := vT xs d e (xs.length - 1 + 1) (G + 1 - (xs.length - 1 + 1)) (fun j h1 h2 => by
    have : pB xs d e j = pB xs d e (xs.length - 1) := by
     unfold pB
     rw [Nat.min_eq_right (by omega), Nat.min_self]
    rw [this, hp])
   rw [show xs.length - 1 + 1 + (G + 1 - (xs.length - 1 + 1)) = G + 1 by omega, hh] at hs
   exact hs
 · rw [Nat.min_eq_right hG] at hh
   exact hh
theorem bh7 (o : Bool) (xs : List Int) (d e : Int) (G : Nat) (h0 : xs ≠ []) (hx : xs.length ≤ 1000) (hG : G ≤ 1000) : nV [.lst o (xs.map .int), .int d, .int e, .int G] = .ok (bp8 (fY xs d e (G + 1))) := by
 unfold nV tJ
 have hl : 0 < xs.length := List.length_pos_iff.mpr h0
 obtain ⟨n, hn⟩ : ∃ n, min (xs.length - 1) G + 1 = n := ⟨_, rfl⟩
 have e1 : (if (G : Int) < (xs.length : Int) - 1 then (G : Int) else (xs.length : Int) - 1) + 1 = (n : Int) := by
  split <;> omega
 have k1 : -(2 ^ 62) ≤ (n : Int) ∧ (n : Int) < 2 ^ 62 := by omega
 have k2 : (iR 0 (n : Int).toNat).length ≤ sizeLine := by rw [gN]; exact pH (by omega)
 have hc : cD (aK 7) (bR (aG oY (cK ax0 (aD (aG dH (aG aX (aE 0) (aE 7)) (aE 1)) aI)) (aE 2))) (aS (aE 7)) [some (.lst o (xs.map .int)), some (.int d), some (.int e), some (.int G), some (.int ((xs.length : Int) - 1)), none, none, none] (iR 0 (n : Int).toNat) = .ok ((fY xs d e n).map .int) := by
  unfold iR fY
  rw [Int.toNat_natCast, List.map_map]
  refine ao1 fun i hi => ?_
  have hi := List.mem_range.mp hi
  have a1 := sR (xs := xs) (i := i) (by omega)
  have hp : pB xs d e i = decide ((if xs.getD i 0 - d < 0 then -(xs.getD i 0 - d) else xs.getD i 0 - d) ≤ e) := by
   unfold pB
   rw [Nat.min_eq_left (by omega)]
  have z : (0 : Int) + (i : Int) = (i : Int) := Int.zero_add _
  refine ⟨?_, fun _ => ?_⟩
  · rw [hp]
    clear hp
    walk_at "ev"
  · clear hp
    walk_at "ev"
    rfl
 walk_at "ev"
 have hlast : ((xs.length : Int) - 1) = ((xs.length - 1 : Nat) : Int) := by omega
 cases hh : fY xs d e n with
 | nil =>
  rw [← hn] at hh
  have z1 := cx0 xs d e G hl hh
  have z2 : (((0 : Nat) : Int) == 0) = true := rfl
  rw [z1]
  clear hh hn e1 hc z1 hlast
  walk_at "ev"
  rfl
 | cons a l =>
  rw [← hn] at hh
  rw [ci3 xs d e G hl a l hh]
  have q1 : atI ((a :: l).map T.int) 0 = some (.int a) := gC (j := 0) rfl
  have q2 : atI ((a :: l).map T.int) ((((a :: l).map T.int).length : Int) - 1) = some (.int ((a :: l).getD l.length 0)) := by
   have := sR (xs := a :: l) (i := l.length) (by simp)
   rw [List.length_map, List.length_cons, show ((l.length + 1 : Nat) : Int) - 1 = (l.length : Int) by omega]
   exact this
  have q3 : ((((a :: l).map T.int).length : Int) == 0) = false := by
   rw [List.length_map, List.length_cons, beq_eq_false_iff_ne]
   omega
  have q3' : (((l.length + 1 : Nat) : Int) == 0) = false := by
   rw [beq_eq_false_iff_ne]
   omega
  have q4 : (2 : Nat) ≤ sizeLine := by decide
  have q5 : bA ((a :: l).map T.int) = true := mQ _
  clear hh hn e1 hc
  generalize (a :: l).map T.int = X at q1 q2 q3 q5 ⊢
  generalize (a :: l).getD l.length 0 = z at q2 ⊢
  cases hz : (z == ((xs.length - 1 : Nat) : Int)) with
  | true =>
   have hz' : z = ((xs.length - 1 : Nat) : Int) := eq_of_beq hz
   rw [if_pos hz']
   clear hz'
   walk_at "ev"
  | false =>
   have hz' : ¬ z = ((xs.length - 1 : Nat) : Int) := by rw [beq_eq_false_iff_ne] at hz; exact hz
   rw [if_neg hz']
   clear hz'
   walk_at "ev"
end Nk21
namespace Nk21
open PySem L2 TL
theorem yF {α : Type} {b : T → Fr → Option Fr} {body : Fr → bT} {g r : α → T} {key : α → Str} {n : Str} (Iv : Fr → Prop)
 (hs : ∀ a ρ, Iv ρ → ∃ ρ1, b (g a) ρ = some ρ1 ∧ (((key a == n) = true ∧ body ρ1 = .rt (r a)) ∨ ((key a == n) = false ∧ ∃ ρ2, body ρ1 = .nx ρ2 ∧ Iv ρ2))) :
 ∀ {l : List α} {ρ : Fr} {a0 : α}, Iv ρ → l.find? (fun a => key a == n) = some a0 → fH b body (l.map g) ρ = .rt (r a0)
 | [], ρ, a0, _, h => by simp at h
 | a :: l, ρ, a0, hi, h => by
  obtain ⟨ρ1, h1, h2⟩ := hs a ρ hi
  rw [List.find?_cons] at h
  simp only [List.map_cons, fH, h1]
  rcases h2 with ⟨k, h2⟩ | ⟨k, ρ2, h2, h3⟩
  · rw [k] at h
    cases h
    rw [h2]
  · rw [k] at h
    rw [h2]
    exact yF Iv hs h3 h
theorem aq4 {α : Type} {key : α → Str} : ∀ {l : List α} {a : α}, (l.map key).Nodup → a ∈ l → l.find? (fun x => key x == key a) = some a
 | [], a, _, h => by cases h
 | x :: l, a, nd, h => by
  rw [List.map_cons, List.nodup_cons] at nd
  rw [List.find?_cons]
  rcases List.mem_cons.mp h with rfl | h
  · simp
  · have : (key x == key a) = false := by
     simp
     intro e
     exact nd.1 (by rw [e]; exact List.mem_map_of_mem h)
    rw [this]
    exact aq4 nd.2 h
theorem e_table {f : Fm} (g : Gd f) {p : Str × List Int} (hp : p ∈ f.inks) : eR [cT false f, .str p.1] = .ok (.lst true (p.2.map .int)) := by
 unfold eR iT
 have fl := bl1 false f
 have n1 := kL f.inks
 have key : ∀ o2 o3 : Option T, fH (fI (bJ (aK 2) (bJ (aK 3) fM))) (dI (bR (aG gO (aE 2) (aE 1))) (bL [] (cK gQ (aD (aE 3) aI))) cH) (f.inks.map (dP false)) [some (cT false f), some (.str p.1), o2, o3] = .rt (.lst true (p.2.map .int)) := fun o2 o3 => by
  refine yF (key := fun q : Str × List Int => q.1) (r := fun q : Str × List Int => .lst true (q.2.map .int)) (fun ρ => ∃ o2 o3, ρ = [some (cT false f), some (.str p.1), o2, o3]) ?_ ⟨o2, o3, rfl⟩ (aq4 (key := fun q : Str × List Int => q.1) g.ind hp)
  rintro a ρ ⟨o2, o3, rfl⟩
  refine ⟨[some (cT false f), some (.str p.1), some (.str a.1), some (.lst false (a.2.map .int))], rfl, ?_⟩
  cases e : (a.1 == p.1) with
  | true => exact .inl ⟨rfl, by walk_at "ev"⟩
  | false => exact .inr ⟨rfl, [some (cT false f), some (.str p.1), some (.str a.1), some (.lst false (a.2.map .int))], by walk_at "ev", _, _, rfl⟩
 clear g
 walk_at "ev"
theorem ax7 {f : Fm} (g : Gd f) {p : Str × Int × Int} (hp : p ∈ f.reigns) : gE [cT false f, .str p.1] = .ok (eX p) := by
 unfold gE mJ
 have fl := av5 false f
 have n1 := kC f.reigns
 have b0 := @jS T
 have key : ∀ o2 : Option T, fH (aK 2) (dI (bR (aG gO (aG aX (aE 2) (dC (.int 0))) (aE 1))) (bL [] (aS (aE 2))) cH) (f.reigns.map eX) [some (cT false f), some (.str p.1), o2] = .rt (eX p) := fun o2 => by
  refine yF (key := fun q : Str × Int × Int => q.1) (r := fun q : Str × Int × Int => eX q) (fun ρ => ∃ o2, ρ = [some (cT false f), some (.str p.1), o2]) ?_ ⟨o2, rfl⟩ (aq4 (key := fun q : Str × Int × Int => q.1) g.rnd hp)
  rintro a ρ ⟨o2, rfl⟩
  refine ⟨[some (cT false f), some (.str p.1), some (eX a)], rfl, ?_⟩
  simp only [eX]
  cases e : (a.1 == p.1) with
  | true => exact .inl ⟨rfl, by walk_at "ev"⟩
  | false => exact .inr ⟨rfl, [some (cT false f), some (.str p.1), some (.tup [.str a.1, .int a.2.1, .int a.2.2])], by walk_at "ev", _, rfl⟩
 clear g
 walk_at "ev"
theorem xW {b l k : Int} (h1 : 1 ≤ k) (h2 : k ≤ l) : iD [.int b, .int l, .int k] = .ok (.int (b + k - 1)) := by
 unfold iD oG
 have := nH h1 h2
 walk_at "ev"
theorem qS {i : Int} (h1 : -10000000 ≤ i) (h2 : i ≤ 10000000) : i.natAbs.log2 < 1920 := by
 by_cases e : i.natAbs = 0
 · rw [e]; decide
 · rw [Nat.log2_lt e]
   exact Nat.lt_of_lt_of_le (show i.natAbs < 2 ^ 24 by omega) (Nat.pow_le_pow_right (by decide) (by decide))
theorem qL {i : Int} (h1 : -1000000 ≤ i) (h2 : i ≤ 1000000) : (toString i : Str).length ≤ 2000000 := by
 have := PyProof.Rows.len_str_of_int i
 omega
theorem iM {f : Fm} (g : Gd f) {l : Nat} {n : Str} (h : f.names[l]? = some n) : n.length ≤ 2000000 := by
 have := qQ (g.nn n (List.mem_of_getElem? h))
 omega
theorem nQ : ∀ w ∈ (["ink", "reign", "under", "between", "after", "same", "within", "apart"] : List Str), w.length ≤ 2000000 := by decide +kernel
theorem eL : (("letter" : Str) == "letter") = true := beq_self_eq_true _
theorem ah1 {f : Fm} (g : Gd f) {l : Nat} {n : Str} (h : f.names[l]? = some n) {lo hi : Int} (h1 : -4000 ≤ lo) (h2 : lo ≤ hi) (h3 : hi ≤ 4000) :
 ∃ x, cX [cT false f, .str "between", .lst false [.str n, .int lo, .int hi]] = .ok (gF true "Between" [(l : Int)] lo (some hi) x) := by
 have e1 := eL
 have e2 := sH "year" (by decide +kernel)
 have g_lo := qS (show -10000000 ≤ lo by omega) (by omega)
 have g_hi := qS (show -10000000 ≤ hi by omega) (by omega)
 obtain ⟨x, hx⟩ := e_init g (c := "Between") (w := "between") (by decide +kernel) (ps := [.str n, .int lo, .int hi]) (ds := d_between.map .str) (nl := [(n, l)]) (xs := [n, toString lo, toString hi]) (lo := lo) (hi := (some hi)) rfl (by simp) wH rfl
  (by intros; simp only [List.map_cons, List.map_nil, fL, List.zipWith_cons_cons, List.zipWith_nil_left, cD]; walk_at "ev") (by simp) (by intro p hp; simp only [List.mem_cons, List.not_mem_nil, or_false] at hp; subst hp; assumption)
  (by intros; simp only [cD]; walk_at "ev") (by simp) (by
   simp only [List.mem_cons, List.not_mem_nil, or_false]
   rintro y (rfl | rfl | rfl | rfl)
   · exact nQ _ (by decide +kernel)
   · exact iM g h
   · exact qL (by omega) (by omega)
   · exact qL (by omega) (by omega))
 have hm : oA [cT false f, .str "between", .lst false [.str n, .int lo, .int hi], .int lo, .int hi] = .ok (gF true "Between" [(l : Int)] lo (some hi) x) := hx
 refine ⟨x, lE wH rfl rfl (jP wH rfl rfl (by decide) ?_) (d1 := "year") (iX _ _ _) (.inl e2) bd3 ?_ (eK _ _ _ _ _)⟩
 · intro i d q hd hq
   match i, hd, hq with
   | 0, hd, hq => cases hd; cases hq; exact eV (List.mem_of_getElem? h)
   | 1, hd, hq => cases hd; cases hq; exact nR (by decide +kernel) bc2 (by omega) (by omega)
   | 2, hd, hq => cases hd; cases hq; exact nR (by decide +kernel) bc2 (by omega) (by omega)
   | n + 3, hd, hq => simp at hd
 · unfold jX jY
   have b0 := @jS T
   have b1 := @iX T
   have b2 := @qO T
   have b3 := @vC T
   have na := iU f
   have za := iO false f
   have cs := eK "Between" [(l : Int)] lo (some hi) x
   have k1 : decide (hi < lo) = false := decide_eq_false (by omega)
   clear hx
   walk_at "ev"
theorem cr0 {f : Fm} (g : Gd f) {l m : Nat} {n k : Str} (h : f.names[l]? = some n) (h' : f.names[m]? = some k) (hne : (n == k) = false) :
 ∃ x, cX [cT false f, .str "after", .lst false [.str n, .str k]] = .ok (gF true "After" [(l : Int), (m : Int)] 1 none x) := by
 have e1 := eL
 obtain ⟨x, hx⟩ := e_init g (c := "After") (w := "after") (by decide +kernel) (ps := [.str n, .str k]) (ds := d_two.map .str) (nl := [(n, l), (k, m)]) (xs := [n, k]) (lo := 1) (hi := none) rfl (by simp) am0 rfl
  (by intros; simp only [List.map_cons, List.map_nil, fL, List.zipWith_cons_cons, List.zipWith_nil_left, cD]; walk_at "ev") (by simp) (by intro p hp; simp only [List.mem_cons, List.not_mem_nil, or_false] at hp; rcases hp with rfl | rfl <;> assumption)
  (by intros; simp only [cD]; walk_at "ev") (by simp) (by
   simp only [List.mem_cons, List.not_mem_nil, or_false]
   rintro y (rfl | rfl | rfl)
   · exact nQ _ (by decide +kernel)
   · exact iM g h
   · exact iM g h')
 have hm : rM [cT false f, .str "after", .lst false [.str n, .str k], .int 1, .non] = .ok (gF true "After" [(l : Int), (m : Int)] 1 none x) := hx
 refine ⟨x, lE am0 rfl rfl (jP am0 rfl rfl (by decide) ?_) (d1 := "letter") (iX _ _ _) (.inr ⟨e1, n, k, jS _ _, iX _ _ _, hne⟩) bs8 ?_ (eK _ _ _ _ _)⟩
 · intro i d q hd hq
   match i, hd, hq with
   | 0, hd, hq => cases hd; cases hq; exact eV (List.mem_of_getElem? h)
   | 1, hd, hq => cases hd; cases hq; exact eV (List.mem_of_getElem? h')
   | n + 2, hd, hq => simp at hd
 · unfold mI mG
   have b0 := @jS T
   have b1 := @iX T
   have b2 := @qO T
   have b3 := @vC T
   have na := iU f
   have za := iO false f
   have cs := eK "After" [(l : Int), (m : Int)] 1 none x
   clear hx
   walk_at "ev"
theorem cx2 {f : Fm} (g : Gd f) {l m : Nat} {n k : Str} (h : f.names[l]? = some n) (h' : f.names[m]? = some k) (hne : (n == k) = false) :
 ∃ x, cX [cT false f, .str "same", .lst false [.str n, .str k]] = .ok (gF true "Same" [(l : Int), (m : Int)] 0 (some 0) x) := by
 have e1 := eL
 obtain ⟨x, hx⟩ := e_init g (c := "Same") (w := "same") (by decide +kernel) (ps := [.str n, .str k]) (ds := d_two.map .str) (nl := [(n, l), (k, m)]) (xs := [n, k]) (lo := 0) (hi := (some 0)) rfl (by simp) az3 rfl
  (by intros; simp only [List.map_cons, List.map_nil, fL, List.zipWith_cons_cons, List.zipWith_nil_left, cD]; walk_at "ev") (by simp) (by intro p hp; simp only [List.mem_cons, List.not_mem_nil, or_false] at hp; rcases hp with rfl | rfl <;> assumption)
  (by intros; simp only [cD]; walk_at "ev") (by simp) (by
   simp only [List.mem_cons, List.not_mem_nil, or_false]
   rintro y (rfl | rfl | rfl)
   · exact nQ _ (by decide +kernel)
   · exact iM g h
   · exact iM g h')
 have hm : tN [cT false f, .str "same", .lst false [.str n, .str k], .int 0, .int 0] = .ok (gF true "Same" [(l : Int), (m : Int)] 0 (some 0) x) := hx
 refine ⟨x, lE az3 rfl rfl (jP az3 rfl rfl (by decide) ?_) (d1 := "letter") (iX _ _ _) (.inr ⟨e1, n, k, jS _ _, iX _ _ _, hne⟩) ck5 ?_ (eK _ _ _ _ _)⟩
 · intro i d q hd hq
   match i, hd, hq with
   | 0, hd, hq => cases hd; cases hq; exact eV (List.mem_of_getElem? h)
   | 1, hd, hq => cases hd; cases hq; exact eV (List.mem_of_getElem? h')
   | n + 2, hd, hq => simp at hd
 · unfold nB nA
   have b0 := @jS T
   have b1 := @iX T
   have b2 := @qO T
   have b3 := @vC T
   have na := iU f
   have za := iO false f
   have cs := eK "Same" [(l : Int), (m : Int)] 0 (some 0) x
   clear hx
   walk_at "ev"
theorem bp5 {f : Fm} (g : Gd f) {l m : Nat} {n k : Str} (h : f.names[l]? = some n) (h' : f.names[m]? = some k) (hne : (n == k) = false) {hi : Int} (h1 : 0 ≤ hi) (h2 : hi ≤ 300) :
 ∃ x, cX [cT false f, .str "within", .lst false [.str n, .str k, .int hi]] = .ok (gF true "Within" [(l : Int), (m : Int)] 0 (some hi) x) := by
 have e1 := eL
 have e2 := sH "later" (by decide +kernel)
 have g_hi := qS (show -10000000 ≤ hi by omega) (by omega)
 obtain ⟨x, hx⟩ := e_init g (c := "Within") (w := "within") (by decide +kernel) (ps := [.str n, .str k, .int hi]) (ds := d_within.map .str) (nl := [(n, l), (k, m)]) (xs := [n, k, toString hi]) (lo := 0) (hi := (some hi)) rfl (by simp) xT rfl
  (by intros; simp only [List.map_cons, List.map_nil, fL, List.zipWith_cons_cons, List.zipWith_nil_left, cD]; walk_at "ev") (by simp) (by intro p hp; simp only [List.mem_cons, List.not_mem_nil, or_false] at hp; rcases hp with rfl | rfl <;> assumption)
  (by intros; simp only [cD]; walk_at "ev") (by simp) (by
   simp only [List.mem_cons, List.not_mem_nil, or_false]
   rintro y (rfl | rfl | rfl | rfl)
   · exact nQ _ (by decide +kernel)
   · exact iM g h
   · exact iM g h'
   · exact qL (by omega) (by omega))
 have hm : pY [cT false f, .str "within", .lst false [.str n, .str k, .int hi], .int 0, .int hi] = .ok (gF true "Within" [(l : Int), (m : Int)] 0 (some hi) x) := hx
 refine ⟨x, lE xT rfl rfl (jP xT rfl rfl (by decide) ?_) (d1 := "letter") (iX _ _ _) (.inr ⟨e1, n, k, jS _ _, iX _ _ _, hne⟩) be5 ?_ (eK _ _ _ _ _)⟩
 · intro i d q hd hq
   match i, hd, hq with
   | 0, hd, hq => cases hd; cases hq; exact eV (List.mem_of_getElem? h)
   | 1, hd, hq => cases hd; cases hq; exact eV (List.mem_of_getElem? h')
   | 2, hd, hq => cases hd; cases hq; exact nR (by decide +kernel) bx9 h1 h2
   | n + 3, hd, hq => simp at hd
 · unfold kQ kS
   have b0 := @jS T
   have b1 := @iX T
   have b2 := @qO T
   have b3 := @vC T
   have na := iU f
   have za := iO false f
   have cs := eK "Within" [(l : Int), (m : Int)] 0 (some hi) x
   clear hx
   walk_at "ev"
theorem ag8 {f : Fm} (g : Gd f) {l m : Nat} {n k : Str} (h : f.names[l]? = some n) (h' : f.names[m]? = some k) (hne : (n == k) = false) {lo hi : Int} (h1 : -300 ≤ lo) (h2 : lo ≤ hi) (h3 : hi ≤ 300) :
 ∃ x, cX [cT false f, .str "apart", .lst false [.str n, .str k, .int lo, .int hi]] = .ok (gF true "Apart" [(l : Int), (m : Int)] lo (some hi) x) := by
 have e1 := eL
 have e2 := sH "gap" (by decide +kernel)
 have g_lo := qS (show -10000000 ≤ lo by omega) (by omega)
 have g_hi := qS (show -10000000 ≤ hi by omega) (by omega)
 obtain ⟨x, hx⟩ := e_init g (c := "Apart") (w := "apart") (by decide +kernel) (ps := [.str n, .str k, .int lo, .int hi]) (ds := d_apart.map .str) (nl := [(n, l), (k, m)]) (xs := [n, k, toString lo, toString hi]) (lo := lo) (hi := (some hi)) rfl (by simp) ak0 rfl
  (by intros; simp only [List.map_cons, List.map_nil, fL, List.zipWith_cons_cons, List.zipWith_nil_left, cD]; walk_at "ev") (by simp) (by intro p hp; simp only [List.mem_cons, List.not_mem_nil, or_false] at hp; rcases hp with rfl | rfl <;> assumption)
  (by intros; simp only [cD]; walk_at "ev") (by simp) (by
   simp only [List.mem_cons, List.not_mem_nil, or_false]
   rintro y (rfl | rfl | rfl | rfl | rfl)
   · exact nQ _ (by decide +kernel)
   · exact iM g h
   · exact iM g h'
   · exact qL (by omega) (by omega)
   · exact qL (by omega) (by omega))
 have hm : rG [cT false f, .str "apart", .lst false [.str n, .str k, .int lo, .int hi], .int lo, .int hi] = .ok (gF true "Apart" [(l : Int), (m : Int)] lo (some hi) x) := hx
 refine ⟨x, lE ak0 rfl rfl (jP ak0 rfl rfl (by decide) ?_) (d1 := "letter") (iX _ _ _) (.inr ⟨e1, n, k, jS _ _, iX _ _ _, hne⟩) ce0 ?_ (eK _ _ _ _ _)⟩
 · intro i d q hd hq
   match i, hd, hq with
   | 0, hd, hq => cases hd; cases hq; exact eV (List.mem_of_getElem? h)
   | 1, hd, hq => cases hd; cases hq; exact eV (List.mem_of_getElem? h')
   | 2, hd, hq => cases hd; cases hq; exact nR (by decide +kernel) bn5 (by omega) (by omega)
   | 3, hd, hq => cases hd; cases hq; exact nR (by decide +kernel) bn5 (by omega) (by omega)
   | n + 4, hd, hq => simp at hd
 · unfold lZ mB
   have b0 := @jS T
   have b1 := @iX T
   have b2 := @qO T
   have b3 := @vC T
   have na := iU f
   have za := iO false f
   have cs := eK "Apart" [(l : Int), (m : Int)] lo (some hi) x
   have k1 : decide (hi < lo) = false := decide_eq_false (by omega)
   clear hx
   walk_at "ev"
theorem bb8 {f : Fm} (g : Gd f) {l : Nat} {n : Str} (h : f.names[l]? = some n) {p : Str × Int × Int} (hp : p ∈ f.reigns) {k : Int} (h1 : 1 ≤ k) (h2 : k ≤ p.2.2) :
 ∃ x, cX [cT false f, .str "reign", .lst false [.str n, .str p.1, .int k]] = .ok (gF true "Reign" [(l : Int)] (p.2.1 + k - 1) (some (p.2.1 + k - 1)) x) := by
 have e1 := eL
 have h100 := (g.rn p hp).2.2.2.2
 have e2 := sH "reign" (by decide +kernel)
 have e3 := sH "place" (by decide +kernel)
 have g_k := qS (show -10000000 ≤ k by omega) (by omega)
 obtain ⟨x, hx⟩ := e_init g (c := "Reign") (w := "reign") (by decide +kernel) (ps := [.str n, .str p.1, .int k]) (ds := d_reign.map .str) (nl := [(n, l)]) (xs := [n, p.1, toString k]) (lo := (p.2.1 + k - 1)) (hi := (some (p.2.1 + k - 1))) rfl (by simp) as0 rfl
  (by intros; simp only [List.map_cons, List.map_nil, fL, List.zipWith_cons_cons, List.zipWith_nil_left, cD]; walk_at "ev") (by simp) (by intro p hp; simp only [List.mem_cons, List.not_mem_nil, or_false] at hp; subst hp; assumption)
  (by intros; simp only [cD]; walk_at "ev") (by simp) (by
   simp only [List.mem_cons, List.not_mem_nil, or_false]
   rintro y (rfl | rfl | rfl | rfl)
   · exact nQ _ (by decide +kernel)
   · exact iM g h
   · exact Nat.le_trans (qQ (g.rn p hp).1) (by decide)
   · exact qL (by omega) (by omega))
 have hm : rO [cT false f, .str "reign", .lst false [.str n, .str p.1, .int k], .int (p.2.1 + k - 1), .int (p.2.1 + k - 1)] = .ok (gF true "Reign" [(l : Int)] (p.2.1 + k - 1) (some (p.2.1 + k - 1)) x) := hx
 refine ⟨x, lE as0 rfl rfl (jP as0 rfl rfl (by decide) ?_) (d1 := "reign") (iX _ _ _) (.inl e2) ci0 ?_ (eK _ _ _ _ _)⟩
 · intro i d q hd hq
   match i, hd, hq with
   | 0, hd, hq => cases hd; cases hq; exact eV (List.mem_of_getElem? h)
   | 1, hd, hq => cases hd; cases hq; exact az5 g (List.mem_map_of_mem hp)
   | 2, hd, hq => cases hd; cases hq; exact nR (by decide +kernel) bn8 h1 (by omega)
   | n + 3, hd, hq => simp at hd
 · unfold lW mC
   have b0 := @jS T
   have b1 := @iX T
   have b2 := @qO T
   have b3 := @vC T
   have na := iU f
   have za := iO false f
   have cs := eK "Reign" [(l : Int)] (p.2.1 + k - 1) (some (p.2.1 + k - 1)) x
   have k1 := ax7 g hp
   have k2 := xW (b := p.2.1) h1 h2
   simp only [eX] at k1
   clear hx
   walk_at "ev"
theorem bz8 {f : Fm} (g : Gd f) {l : Nat} {n : Str} (h : f.names[l]? = some n) {p : Str × Int × Int} (hp : p ∈ f.reigns) :
 ∃ x, cX [cT false f, .str "under", .lst false [.str n, .str p.1]] = .ok (gF true "Under" [(l : Int)] p.2.1 (some (p.2.1 + p.2.2 - 1)) x) := by
 have e1 := eL
 have e2 := sH "reign" (by decide +kernel)
 obtain ⟨x, hx⟩ := e_init g (c := "Under") (w := "under") (by decide +kernel) (ps := [.str n, .str p.1]) (ds := d_under.map .str) (nl := [(n, l)]) (xs := [n, p.1]) (lo := p.2.1) (hi := (some (p.2.1 + p.2.2 - 1))) rfl (by simp) ad0 rfl
  (by intros; simp only [List.map_cons, List.map_nil, fL, List.zipWith_cons_cons, List.zipWith_nil_left, cD]; walk_at "ev") (by simp) (by intro p hp; simp only [List.mem_cons, List.not_mem_nil, or_false] at hp; subst hp; assumption)
  (by intros; simp only [cD]; walk_at "ev") (by simp) (by
   simp only [List.mem_cons, List.not_mem_nil, or_false]
   rintro y (rfl | rfl | rfl)
   · exact nQ _ (by decide +kernel)
   · exact iM g h
   · exact Nat.le_trans (qQ (g.rn p hp).1) (by decide))
 have hm : rF [cT false f, .str "under", .lst false [.str n, .str p.1], .int p.2.1, .int (p.2.1 + p.2.2 - 1)] = .ok (gF true "Under" [(l : Int)] p.2.1 (some (p.2.1 + p.2.2 - 1)) x) := hx
 refine ⟨x, lE ad0 rfl rfl (jP ad0 rfl rfl (by decide) ?_) (d1 := "reign") (iX _ _ _) (.inl e2) bi8 ?_ (eK _ _ _ _ _)⟩
 · intro i d q hd hq
   match i, hd, hq with
   | 0, hd, hq => cases hd; cases hq; exact eV (List.mem_of_getElem? h)
   | 1, hd, hq => cases hd; cases hq; exact az5 g (List.mem_map_of_mem hp)
   | n + 2, hd, hq => simp at hd
 · unfold lY lX
   have b0 := @jS T
   have b1 := @iX T
   have b2 := @qO T
   have b3 := @vC T
   have na := iU f
   have za := iO false f
   have cs := eK "Under" [(l : Int)] p.2.1 (some (p.2.1 + p.2.2 - 1)) x
   have k1 := ax7 g hp
   have k2 := xW (b := p.2.1) (l := p.2.2) (k := p.2.2) (g.rn p hp).2.2.2.1 (Int.le_refl _)
   simp only [eX] at k1
   clear hx
   walk_at "ev"
end Nk21
namespace Nk21
open PySem L2 TL
theorem ba8 : fG "table" ["first", "present", "letters", "inks", "reigns"] = none := by decide +kernel
theorem cr5 : tm_table.lookup ("Archive" : Str) = some eR := by with_unfolding_all rfl
theorem br2 {b : Bool} {f : Fm} {o : Fr → Res T} {r : Fr → Res (List T)} {ρ : Fr} {ts : List T} (ho : o ρ = .ok (cT b f)) (hr : r ρ = .ok ts) : kR 2 "table" tm_table o r ρ = tP 2 eR (cT b f :: ts) := by
 simp only [kR, ho, hr, nS, cT, ba8, cr5]
theorem ci6 {f : Fm} (g : Gd f) {l : Nat} {n : Str} (h : f.names[l]? = some n) {p : Str × List Int} (hp : p ∈ f.inks) {d e : Int} (h1 : 0 ≤ d) (h2 : d ≤ 1000000) (h3 : 0 ≤ e) (h4 : e ≤ 1000000) {a z : Int} {r : List Int} (hh : fY p.2 d e (f.span.toNat + 1) = a :: r) (hz : (a :: r).getD r.length 0 = z) :
 ∃ x, cX [cT false f, .str "ink", .lst false [.str n, .str p.1, .int d, .int e]] = .ok (gF true "Ink" [(l : Int)] (f.first + f.span - z) (some (f.first + f.span - a)) x) := by
 have e1 := eL
 have e2 := sH "ink" (by decide +kernel)
 have e3 := sH "dark" (by decide +kernel)
 have g_d := qS (show -10000000 ≤ d by omega) (by omega)
 have g_e := qS (show -10000000 ≤ e by omega) (by omega)
 obtain ⟨x, hx⟩ := e_init g (c := "Ink") (w := "ink") (by decide +kernel) (ps := [.str n, .str p.1, .int d, .int e]) (ds := d_ink.map .str) (nl := [(n, l)]) (xs := [n, p.1, toString d, toString e]) (lo := f.first + f.span - z) (hi := some (f.first + f.span - a)) rfl (by simp) aq7 rfl
  (by clear hh hz; intros; simp only [List.map_cons, List.map_nil, fL, List.zipWith_cons_cons, List.zipWith_nil_left, cD]; walk_at "ev") (by simp) (by intro p hp; simp only [List.mem_cons, List.not_mem_nil, or_false] at hp; subst hp; assumption)
  (by clear hh hz; intros; simp only [cD]; walk_at "ev") (by simp) (by
   simp only [List.mem_cons, List.not_mem_nil, or_false]
   rintro y (rfl | rfl | rfl | rfl | rfl)
   · exact nQ _ (by decide +kernel)
   · exact iM g h
   · exact Nat.le_trans (qQ (g.inn p hp).1) (by decide)
   · exact qL (by omega) (by omega)
   · exact qL (by omega) (by omega))
 have hm : wM [cT false f, .str "ink", .lst false [.str n, .str p.1, .int d, .int e], .int (f.first + f.span - z), .int (f.first + f.span - a)] = .ok (gF true "Ink" [(l : Int)] (f.first + f.span - z) (some (f.first + f.span - a)) x) := hx
 refine ⟨x, lE aq7 rfl rfl (jP aq7 rfl rfl (by decide) ?_) (d1 := "ink") (iX _ _ _) (.inl e2) cc6 ?_ (eK _ _ _ _ _)⟩
 · intro i d q hd hq
   match i, hd, hq with
   | 0, hd, hq => cases hd; cases hq; exact eV (List.mem_of_getElem? h)
   | 1, hd, hq => cases hd; cases hq; exact cd5 g (List.mem_map_of_mem hp)
   | 2, hd, hq => cases hd; cases hq; exact nR (by decide +kernel) bp1 (by omega) (by omega)
   | 3, hd, hq => cases hd; cases hq; exact nR (by decide +kernel) bp1 (by omega) (by omega)
   | n + 4, hd, hq => simp at hd
 · unfold oO oQ
   have b0 := @jS T
   have b1 := @iX T
   have b2 := @qO T
   have b3 := @vC T
   have na := iU f
   have za := iO false f
   have cs := eK "Ink" [(l : Int)] (f.first + f.span - z) (some (f.first + f.span - a)) x
   have fp := ab2 false f
   have ff := aw9 false f
   have ht := e_table g hp
   have hA : nV [.lst false (p.2.map .int), .int d, .int e, .int (f.first + f.span - f.first)] = .ok (.tup [.int a, .int z]) := by
    have := bh7 false p.2 d e f.span.toNat (by have := (g.inn p hp).2.l1; intro q; rw [q] at this; simp at this) (by have := (g.inn p hp).2.l60; omega) (by have := g.s1; omega)
    rw [hh] at this
    simp only [bp8, hz] at this
    rw [show f.first + f.span - f.first = (f.span.toNat : Int) by have := g.s0; omega]
    exact this
   have hmt : kR 2 "table" tm_table (aE 0) (aD (aG aX (aE 1) (dC (.int 1))) aI) [some (cT false f), some (.lst false [.str n, .str p.1, .int d, .int e]), none] = .ok (.lst true (p.2.map .int)) := by
    rw [br2 (b := false) (f := f) (ts := [.str p.1]) rfl (by clear hA hm hx hh hz; walk_at "ev")]
    clear hA hm hx hh hz
    walk_at "ev"
   clear hx hh hz
   walk_at "ev"
end Nk21
namespace Nk21
open PySem L2 TL
theorem cc2 (c : Int) (m : Nat) (hm : m ≤ 8) : ∃ xs : List Int, jT [.int c, .int m] = .ok (.lst true (xs.map .int)) ∧ xs.length = m ∧ ∀ x ∈ xs, 0 ≤ x := by
 unfold jT tO
 have ew := be2
 have h60 : xP (.int 10) (.int 60) = .ok (.int 1000000000000000000000000000000000000000000000000000000000000) := by
  rw [ay1, vU (show xD 10 60 from ⟨by decide, by decide, by decide⟩)]
  rfl
 have h18 : xP (.int 10) (.int 18) = .ok (.int 1000000000000000000) := by
  rw [ay1, vU (show xD 10 18 from ⟨by decide, by decide, by decide⟩)]
  rfl
 walk_at "ev"
 generalize hL : fH _ _ _ _ = o
 obtain ⟨ρ', rfl, xs, r, o4, rfl, xl, xb, hr⟩ := jB (fun i ρ => ∃ (xs : List Int) (r : Int) (o4 : Option T), ρ = [some (.int c), some (.int m), some (.int r), some (.lst true (xs.map .int)), o4] ∧ xs.length = i ∧ (∀ x ∈ xs, 0 ≤ x) ∧ 0 ≤ r) hL ⟨[], _, _, rfl, rfl, dJ, Int.emod_nonneg _ (by decide)⟩ (by
  rintro i t ρ et ⟨xs, r, o4, rfl, xl, xb, hr⟩
  obtain ⟨hi, rfl⟩ := jU et
  have hl : xs.length ≤ 100000 := by omega
  clear hL et
  by_cases hA : c < 0 ∨ 1000000000000000000 ≤ c
  · have k : (decide (c < 0) || decide (1000000000000000000 ≤ c)) = true := by simpa using hA
    cases h1 : decide (c < 0) with
    | true =>
     walk_at "ev"
     exact ⟨xs ++ [r % 10007], _, _, by rw [List.map_append]; rfl, by simp [xl], fun x hx => (List.mem_append.mp hx).elim (xb x) (fun q => by rw [List.mem_singleton.mp q]; exact Int.emod_nonneg _ (by decide)), by omega⟩
    | false =>
     have h2 : decide (1000000000000000000 ≤ c) = true := by rw [h1] at k; simpa using k
     walk_at "ev"
     exact ⟨xs ++ [r % 10007], _, _, by rw [List.map_append]; rfl, by simp [xl], fun x hx => (List.mem_append.mp hx).elim (xb x) (fun q => by rw [List.mem_singleton.mp q]; exact Int.emod_nonneg _ (by decide)), by omega⟩
  · have h1 : decide (c < 0) = false := decide_eq_false (by omega)
    have h2 : decide (1000000000000000000 ≤ c) = false := decide_eq_false (by omega)
    walk_at "ev"
    exact ⟨xs ++ [whirl (whirl c (0 + (i : Int)) + c) (0 + (i : Int))], _, _, by rw [List.map_append]; rfl, by simp [xl], fun x hx => (List.mem_append.mp hx).elim (xb x) (fun q => by rw [List.mem_singleton.mp q]; exact (al3 _ _).1), hr⟩)
 rw [gN] at xl
 refine ⟨xs, ?_, by omega, xb⟩
 clear hL
 walk_at "ev"
theorem cc0 (c : Int) {f : Fm} (g : Gd f) : ∃ ys : List Int, jH [.int c, fU false f] = .ok (.lst true (ys.map .int)) ∧ ys.length = f.names.length ∧ ∀ y ∈ ys, f.first ≤ y ∧ y ≤ f.first + f.span := by
 obtain ⟨xs, h1, h2, h3⟩ := cc2 c f.names.length g.n8
 have hs := g.s0
 have hm : 0 < f.first + f.span - f.first + 1 := by omega
 refine ⟨xs.map fun x => f.first + x % (f.first + f.span - f.first + 1), ?_, by simp [h2], fun y hy => ?_⟩
 · unfold jH oI
   have hx : xs.length ≤ 100000 := by have := g.n8; omega
   have hc : cD (aK 2) dE (aG cN (aG aX (aE 1) (dC (.int 0))) (aG cP (aE 2) (aG cN (aG dH (aG aX (aE 1) (dC (.int 1))) (aG aX (aE 1) (dC (.int 0)))) (dC (.int 1))))) [some (.int c), some (fU false f), none] (xs.map .int) = .ok ((xs.map fun x => f.first + x % (f.first + f.span - f.first + 1)).map .int) := by
    rw [List.map_map]
    refine gK fun x _ => ?_
    simp only [fU]
    have b0 := @jS T
    have b1 := @iX T
    clear h1 h2 h3
    walk_at "ev"
    rfl
   have b2 := @qO T
   simp only [fU] at hc ⊢
   clear h2 h3
   walk_at "ev"
 · obtain ⟨x, _, rfl⟩ := List.mem_map.mp hy
   have := Int.emod_nonneg x (show f.first + f.span - f.first + 1 ≠ 0 by omega)
   have := Int.emod_lt_of_pos x hm
   omega
structure Sd where
 word : Str
 cls : Str
 parts : List T
 ls : List Nat
 lo : Int
 hi : Option Int
def gU (o : Bool) (s : Sd) : T := .tup [.str s.word, .lst o s.parts, .tup (s.ls.map fun (l : Nat) => T.int (l : Int)), .tup [.int s.lo, lN s.hi]]
structure SdOk (f : Fm) (s : Sd) : Prop where
 np : bA s.parts = true
 cp : dL s.parts = true
 c8 : s.cls ∈ iY
 l12 : s.ls.length = 1 ∨ s.ls.length = 2
 made : ∃ x, cX [cT false f, .str s.word, .lst false s.parts] = .ok (gF true s.cls (s.ls.map fun (l : Nat) => (l : Int)) s.lo s.hi x)
theorem cx5 : ("Ink" : Str) ∈ iY := by decide +kernel
theorem bc9 : ("Reign" : Str) ∈ iY := by decide +kernel
theorem cp0 : ("Under" : Str) ∈ iY := by decide +kernel
theorem an1 : ("Between" : Str) ∈ iY := by decide +kernel
theorem cb0 : ("After" : Str) ∈ iY := by decide +kernel
theorem cg5 : ("Same" : Str) ∈ iY := by decide +kernel
theorem by6 : ("Within" : Str) ∈ iY := by decide +kernel
theorem ag9 : ("Apart" : Str) ∈ iY := by decide +kernel
theorem uW {f : Fm} {k : Nat} (h : k < f.names.length) : ∃ n, f.names[k]? = some n ∧ atI (f.names.map T.str) (k : Int) = some (.str n) :=
 ⟨f.names[k], List.getElem?_eq_getElem h, gC (by simp [h])⟩
theorem bx5 {xs : List Int} {k : Nat} (h : k < xs.length) : ∃ v ∈ xs, atI (xs.map T.int) (k : Int) = some (.int v) :=
 ⟨xs[k], List.getElem_mem h, gC (by simp [h])⟩
theorem cy5 {xs : List Int} (h : xs.length = 6) (hb : ∀ x ∈ xs, 0 ≤ x) : ∃ a b c d e g : Int, xs.map T.int = [.int a, .int b, .int c, .int d, .int e, .int g] ∧ 0 ≤ a ∧ 0 ≤ b ∧ 0 ≤ c ∧ 0 ≤ d ∧ 0 ≤ e ∧ 0 ≤ g := by
 match xs, h with
 | [a, b, c, d, e, g], _ => exact ⟨a, b, c, d, e, g, rfl, hb a (by simp), hb b (by simp), hb c (by simp), hb d (by simp), hb e (by simp), hb g (by simp)⟩
theorem cu1 {f : Fm} (g : Gd f) {i j : Nat} {n k : Str} (h1 : f.names[i]? = some n) (h2 : f.names[j]? = some k) (h : i ≠ j) : (n == k) = false := by
 simp
 rintro rfl
 obtain ⟨a1, a2⟩ := List.getElem?_eq_some_iff.mp h1
 obtain ⟨b1, b2⟩ := List.getElem?_eq_some_iff.mp h2
 exact h ((List.getElem_inj g.nd).mp (a2.trans b2.symm))
theorem bl7 {f : Fm} (g : Gd f) {a b c d e w : Int} (hc : 0 ≤ c) (hd : 0 ≤ d) (he : 0 ≤ e) {i j : Nat} (hi : i < f.names.length) (hj : j < f.names.length) : ∃ s, oP [.lst false [.int a, .int b, .int c, .int d, .int e, .int w], fU false f, .int i, .int j] = .ok (gU true s) ∧ SdOk f s := by
  obtain ⟨n, hn, an⟩ := uW hi
  obtain ⟨k, hk, ak⟩ := uW hj
  unfold oP rP
  have b0 := @jS T
  have b1 := @iX T
  have b2 := @qO T
  have b3 := @vC T
  have b4 := @ix4 T
  have s0 := g.s0
  have s1 := g.s1
  have f0 := g.f0
  have f1 := g.f1
  have m1 : 0 < f.first + f.span - f.first + 61 := by omega
  have m2 := Int.emod_nonneg d (show f.first + f.span - f.first + 61 ≠ 0 by omega)
  have m3 := Int.emod_lt_of_pos d m1
  simp only [fU]
  by_cases q : i = j ∨ c % 2 = 0
  · have k0 : (((i : Int) == (j : Int)) || (c % 2 == 0)) = true := by
      rcases q with q | q
      · subst q; simp
      · simp [q]
    obtain ⟨x, hx⟩ := ah1 g hn (lo := f.first - 30 + d % (f.first + f.span - f.first + 61)) (hi := f.first - 30 + d % (f.first + f.span - f.first + 61) + e % 40) (by omega) (by omega) (by omega)
    refine ⟨⟨"between", "Between", [.str n, .int (f.first - 30 + d % (f.first + f.span - f.first + 61)), .int (f.first - 30 + d % (f.first + f.span - f.first + 61) + e % 40)], [i], f.first - 30 + d % (f.first + f.span - f.first + 61), some (f.first - 30 + d % (f.first + f.span - f.first + 61) + e % 40)⟩, ?_, ⟨rfl, rfl, an1, .inl rfl, x, hx⟩⟩
    have ct : fZ [T.str n, T.str k] none (some 1) = [T.str n] := ai2 [T.str n, T.str k] 1
    clear hx hn hk
    cases h1 : ((i : Int) == (j : Int)) with
    | true =>
      walk_at "ev"
      rfl
    | false =>
      have h2 : (c % 2 == 0) = true := by rw [h1] at k0; simpa using k0
      walk_at "ev"
      rfl
  · have h1 : ((i : Int) == (j : Int)) = false := by simp; omega
    have h2 : (c % 2 == 0) = false := by simp; omega
    have hne := cu1 g hn hk (by omega)
    obtain ⟨x, hx⟩ := ag8 g hn hk hne (lo := d % 601 - 300) (hi := if d % 601 - 300 + e % 40 < 300 then d % 601 - 300 + e % 40 else 300) (by omega) (by split <;> omega) (by split <;> omega)
    refine ⟨⟨"apart", "Apart", [.str n, .str k, .int (d % 601 - 300), .int (if d % 601 - 300 + e % 40 < 300 then d % 601 - 300 + e % 40 else 300)], [i, j], d % 601 - 300, some (if d % 601 - 300 + e % 40 < 300 then d % 601 - 300 + e % 40 else 300)⟩, ?_, ⟨rfl, rfl, ag9, .inr rfl, x, hx⟩⟩
    clear hx hn hk
    walk_at "ev"
    rfl
end Nk21
namespace Nk21
open PySem L2 TL
theorem ab0 {f : Fm} (g : Gd f) {num gap : Int} (hn0 : 0 ≤ num) {i j : Nat} (hi : i < f.names.length) (hj : j < f.names.length) (hij : i ≠ j) (g0 : -300 ≤ gap) (g1 : gap ≤ 300) : ∃ s, lM [.int num, fU false f, .tup [.int i, .int j], .int gap] = .ok (gU true s) ∧ SdOk f s := by
 obtain ⟨n, hn, an⟩ := uW hi
 obtain ⟨k, hk, ak⟩ := uW hj
 have hne := cu1 g hn hk hij
 unfold lM oJ
 have b2 := @qO T
 obtain ⟨x1, hx1⟩ := cx2 g hn hk hne
 obtain ⟨x2, hx2⟩ := cr0 g hn hk hne
 simp only [fU]
 have hc : ∀ q1 q2 q3 q4 q5 : Option T, cD (aK 9) dE (aS (aG aX (aG aX (aE 1) (dC (.int 2))) (aE 9))) [some (.int num), some (.tup [.int f.first, .int (f.first + f.span), .lst false (f.names.map .str), .lst false (f.inks.map (dP false)), .lst false (f.reigns.map eX)]), some (.tup [.int i, .int j]), some (.int gap), q1, q2, q3, q4, q5, none] [.int i, .int j] = .ok [.str n, .str k] := by
  intros
  simp only [cD]
  walk_at "ev"
 have z1 := Int.emod_nonneg (num / 4) (show (4 : Int) ≠ 0 by decide)
 by_cases cA : gap = 0 ∧ num % 4 = 0
 · refine ⟨⟨"same", "Same", [.str n, .str k], [i, j], 0, some 0⟩, ?_, ⟨rfl, rfl, cg5, .inr rfl, x1, hx1⟩⟩
   have h1 : (gap == 0) = true := by simp [cA.1]
   have h2 : (num % 4 == 0) = true := by simp [cA.2]
   clear hx1 hx2 hn hk cA
   walk_at "ev"
   rfl
 by_cases cB : 0 < gap ∧ num % 4 < 2
 · refine ⟨⟨"after", "After", [.str n, .str k], [i, j], 1, none⟩, ?_, ⟨rfl, rfl, cb0, .inr rfl, x2, hx2⟩⟩
   have h1 : (gap == 0) = false := by simp; omega
   have h3 : decide (0 < gap) = true := decide_eq_true cB.1
   have h4 : decide (num % 4 < 2) = true := decide_eq_true cB.2
   clear hx1 hx2 hn hk cA cB
   walk_at "ev"
   rfl
 have tA : (gap == 0) = false ∨ ((gap == 0) = true ∧ (num % 4 == 0) = false) := by
  by_cases q : gap = 0
  · exact .inr ⟨by simp [q], by simp; omega⟩
  · exact .inl (by simp [q])
 have tB : decide (0 < gap) = false ∨ (decide (0 < gap) = true ∧ decide (num % 4 < 2) = false) := by
  by_cases q : 0 < gap
  · exact .inr ⟨decide_eq_true q, decide_eq_false (by omega)⟩
  · exact .inl (decide_eq_false q)
 by_cases cC : 0 ≤ gap ∧ num % 4 = 2
 · obtain ⟨x3, hx3⟩ := bp5 g hn hk hne (hi := if gap + num / 4 % 4 < 300 then gap + num / 4 % 4 else 300) (by split <;> omega) (by split <;> omega)
   refine ⟨⟨"within", "Within", [.str n, .str k, .int (if gap + num / 4 % 4 < 300 then gap + num / 4 % 4 else 300)], [i, j], 0, some (if gap + num / 4 % 4 < 300 then gap + num / 4 % 4 else 300)⟩, ?_, ⟨rfl, rfl, by6, .inr rfl, x3, hx3⟩⟩
   have h5 : decide (0 ≤ gap) = true := decide_eq_true cC.1
   have h6 : (num % 4 == 2) = true := by simp [cC.2]
   clear hx1 hx2 hx3 hn hk cA cB cC
   rcases tA with h1 | ⟨h1, h2⟩ <;> rcases tB with h3 | ⟨h3, h4⟩ <;> (walk_at "ev"; rfl)
 have tC : decide (0 ≤ gap) = false ∨ (decide (0 ≤ gap) = true ∧ (num % 4 == 2) = false) := by
  by_cases q : 0 ≤ gap
  · exact .inr ⟨decide_eq_true q, by simp; omega⟩
  · exact .inl (decide_eq_false q)
 obtain ⟨x4, hx4⟩ := ag8 g hn hk hne (lo := if gap - num / 4 % 6 > -300 then gap - num / 4 % 6 else -300) (hi := if gap + num / 4 / 6 % 6 < 300 then gap + num / 4 / 6 % 6 else 300) (by split <;> omega) (by split <;> split <;> omega) (by split <;> omega)
 refine ⟨⟨"apart", "Apart", [.str n, .str k, .int (if gap - num / 4 % 6 > -300 then gap - num / 4 % 6 else -300), .int (if gap + num / 4 / 6 % 6 < 300 then gap + num / 4 / 6 % 6 else 300)], [i, j], if gap - num / 4 % 6 > -300 then gap - num / 4 % 6 else -300, some (if gap + num / 4 / 6 % 6 < 300 then gap + num / 4 / 6 % 6 else 300)⟩, ?_, ⟨rfl, rfl, ag9, .inr rfl, x4, hx4⟩⟩
 clear hx1 hx2 hx4 hn hk cA cB cC
 rcases tA with h1 | ⟨h1, h2⟩ <;> rcases tB with h3 | ⟨h3, h4⟩ <;> rcases tC with h5 | ⟨h5, h6⟩ <;> (walk_at "ev"; rfl)
end Nk21
namespace Nk21
open PySem L2 TL
theorem yX {a : Int} {n : Nat} (h : 0 < n) : 0 ≤ a % (n : Int) ∧ a % (n : Int) < n := ⟨Int.emod_nonneg _ (by omega), Int.emod_lt_of_pos _ (by omega)⟩
theorem cg8 {α : Type} {g : α → T} {l : List α} (h : 0 < l.length) (a : Int) : ∃ p ∈ l, atI (l.map g) (a % (l.length : Int)) = some (g p) := by
 obtain ⟨h0, h1⟩ := yX (a := a) h
 obtain ⟨k, hk⟩ := pE h0
 rw [hk] at h1 ⊢
 have hk' : k < l.length := by omega
 exact ⟨l[k], List.getElem_mem hk', gC (by simp [hk'])⟩
theorem bj1 {xs : List Int} (h : 0 < xs.length) {a : Int} (ha : 0 ≤ a) : atI (xs.map T.int) (if (xs.length : Int) - 1 < a then (xs.length : Int) - 1 else a) = some (.int (xs.getD (min a.toNat (xs.length - 1)) 0)) := by
 have e : (if (xs.length : Int) - 1 < a then (xs.length : Int) - 1 else a) = ((min a.toNat (xs.length - 1) : Nat) : Int) := by split <;> omega
 rw [e]
 exact sR (by omega)
theorem bm8 {xs : List Int} {d e : Int} {n j : Nat} (hj : j < n) (h : pB xs d e j = true) : (j : Int) ∈ fY xs d e n := by
 unfold fY
 exact List.mem_map.mpr ⟨j, List.mem_filter.mpr ⟨List.mem_range.mpr hj, h⟩, rfl⟩
theorem pD {f : Fm} (g : Gd f) {num y : Int} (hn0 : 0 ≤ num) {i : Nat} (hi : i < f.names.length) (y0 : f.first ≤ y) (y1 : y ≤ f.first + f.span) : ∃ s, lA [.int num, fU false f, .int i, .int y] = .ok (gU true s) ∧ SdOk f s := by
 obtain ⟨n, hn, an⟩ := uW hi
 unfold lA oF
 have b0 := @jS T
 have b1 := @iX T
 have b2 := @qO T
 have b3 := @vC T
 have b4 := @ix4 T
 have s0 := g.s0
 have s1 := g.s1
 have f0 := g.f0
 have f1 := g.f1
 simp only [fU]
 by_cases c0 : num % 4 = 0
 · have h0 : (num % 4 == 0) = true := by simp [c0]
   clear c0
   obtain ⟨p, hp, ap⟩ := cg8 (g := dP false) (l := f.inks) (by have := g.i1; omega) (num / 4)
   obtain ⟨t1, t60, tb, tf⟩ := (g.inn p hp).2
   have hlen : 0 < (f.inks.length : Int) := by have := g.i1; omega
   obtain ⟨er, her⟩ : ∃ er, num / 4 / 2 % 5 = er := ⟨_, rfl⟩
   have e0 : 0 ≤ er ∧ er < 5 := by omega
   have ix := bj1 (xs := p.2) t1 (a := f.first + f.span - y) (by omega)
   have m1 : 0 < 2 * er + 1 := by omega
   have z1 := Int.emod_nonneg (num / 4 / 10) (show 2 * er + 1 ≠ 0 by omega)
   have z2 := Int.emod_lt_of_pos (num / 4 / 10) m1
   obtain ⟨D, hD⟩ : ∃ D, p.2.getD (min (f.first + f.span - y).toNat (p.2.length - 1)) 0 = D := ⟨_, rfl⟩
   have dB : 0 ≤ D ∧ D ≤ 408 := by
    rw [← hD, List.getD_eq_getElem?_getD, List.getElem?_eq_getElem (show min (f.first + f.span - y).toNat (p.2.length - 1) < p.2.length by omega)]
    exact tb _ (List.getElem_mem _)
   obtain ⟨dk, hdk⟩ : ∃ dk, (if D + num / 4 / 10 % (2 * er + 1) - er > 0 then D + num / 4 / 10 % (2 * er + 1) - er else 0) = dk := ⟨_, rfl⟩
   have dkB : 0 ≤ dk ∧ dk ≤ 412 ∧ D - dk ≤ er ∧ dk - D ≤ er := by rw [← hdk]; split <;> omega
   rw [hD] at ix
   simp only [dP] at ap
   have pin : pB p.2 dk er (f.first + f.span - y).toNat = true := by
    unfold pB
    rw [hD]
    exact decide_eq_true (by split <;> omega)
   have hmem := bm8 (n := f.span.toNat + 1) (by omega) pin
   obtain ⟨a, r, hh⟩ : ∃ a r, fY p.2 dk er (f.span.toNat + 1) = a :: r := by
    cases q : fY p.2 dk er (f.span.toNat + 1) with
    | nil => rw [q] at hmem; cases hmem
    | cons a r => exact ⟨a, r, rfl⟩
   have hdm : dk ≤ 1000000 := by omega
   obtain ⟨x, hx⟩ := ci6 g hn hp (d := dk) (e := er) (by omega) hdm (by omega) (by omega) hh rfl
   refine ⟨⟨"ink", "Ink", [.str n, .str p.1, .int dk, .int er], [i], f.first + f.span - (a :: r).getD r.length 0, some (f.first + f.span - a)⟩, ?_, ⟨rfl, rfl, cx5, .inl rfl, x, hx⟩⟩
   have rg : -(2 ^ 62) ≤ f.first + f.span - f.first + 1 ∧ f.first + f.span - f.first + 1 < 2 ^ 62 := by omega
   clear hx hn hmem pin hD tb tf
   walk_at "ev"
   generalize hL : fH _ _ _ _ = o
   obtain ⟨ρ', rfl, o11, rfl⟩ := jB (fun j ρ => ∃ (o11 : Option T), ρ = [some (.int num), some (.tup [.int f.first, .int (f.first + f.span), .lst false (f.names.map .str), .lst false (f.inks.map (dP false)), .lst false (f.reigns.map eX)]), some (.int i), some (.int y), some (.str n), some (.int (num / 4)), some (.str p.1), some (.lst false (p.2.map .int)), some (.int er), some (.int dk), some (.lst true ((fY p.2 dk er j).map .int)), o11, none, none, none, none, none, none]) hL ⟨_, rfl⟩ (by
    rintro j t ρ et ⟨o11, rfl⟩
    obtain ⟨hj, rfl⟩ := jU et
    have ixj := bj1 (xs := p.2) t1 (a := 0 + (j : Int)) (by omega)
    rw [show (0 + (j : Int)).toNat = j by omega] at ixj
    have hl : (fY p.2 dk er j).length ≤ 100000 := by
     unfold fY
     rw [List.length_map]
     exact Nat.le_trans (List.length_filter_le _ _) (by rw [List.length_range]; omega)
    have hsucc := nN p.2 dk er j
    clear hL et hh hdk ix
    cases hB : pB p.2 dk er j with
    | true =>
     rw [if_pos hB] at hsucc
     unfold pB at hB
     clear hsucc
     walk_at "ev"
     refine ⟨some (.int (0 + (j : Int))), ?_⟩
     rw [nN, if_pos (show pB p.2 dk er j = true from hB), List.map_append, show (0 + (j : Int)) = (j : Int) by omega]
     rfl
    | false =>
     unfold pB at hB
     clear hsucc
     walk_at "ev"
     refine ⟨some (.int (0 + (j : Int))), ?_⟩
     rw [nN, if_neg (by rw [show pB p.2 dk er j = false from hB]; decide), List.append_nil])
   rw [gN, show (f.first + f.span - f.first + 1).toNat = f.span.toNat + 1 by omega, hh]
   clear hL hh hdk
   have ae := cm1 (a := a) (l := r)
   simp only [List.map_cons] at ae ⊢
   walk_at "ev"
   rfl
 · have h0 : (num % 4 == 0) = false := by simpa using c0
   clear c0
   have hlen : 0 < (f.reigns.length : Int) := by have := g.r1; omega
   obtain ⟨k0, k1⟩ := yX (a := num / 4 / 2) (n := f.reigns.length) (by omega)
   obtain ⟨kn, hkn⟩ := pE k0
   have hk' : kn ≤ f.reigns.length := by omega
   have c1 : fZ (f.reigns.map eX) (some (num / 4 / 2 % (f.reigns.length : Int))) none = (f.reigns.drop kn).map eX := by rw [hkn, as7 _ _ (by simpa using hk'), List.map_drop]
   have c2 : fZ (f.reigns.map eX) none (some (num / 4 / 2 % (f.reigns.length : Int))) = (f.reigns.take kn).map eX := by rw [hkn, ai2, List.map_take]
   have n1 := kC
   have z1 := oZ
   have l1 : (f.reigns.drop kn).length + (f.reigns.take kn).length ≤ 100000 := by have := g.r8; simp; omega
   have mA := (List.map_append (f := eX) (l₁ := f.reigns.drop kn) (l₂ := f.reigns.take kn)).symm
   clear hkn k0 k1
   have hmem : ∀ q ∈ f.reigns.drop kn ++ f.reigns.take kn, q ∈ f.reigns := fun q hq => (List.mem_append.mp hq).elim List.mem_of_mem_drop List.mem_of_mem_take
   walk_at "ev"
   generalize hL : fH _ _ _ _ = o
   have hx := bf7 (fun _ ρ => ∃ (o13 o14 o15 : Option T), ρ = [some (.int num), some (.tup [.int f.first, .int (f.first + f.span), .lst false (f.names.map .str), .lst false (f.inks.map (dP false)), .lst false (f.reigns.map eX)]), some (.int i), some (.int y), some (.str n), some (.int (num / 4)), none, none, none, none, none, none, some (.int (num / 4 / 2 % (f.reigns.length : Int))), o13, o14, o15, none, none]) (fun _ => False) (fun t => ∃ s, t = gU true s ∧ SdOk f s) hL ⟨_, _, _, rfl⟩ (by
    rintro j t ρ et ⟨o13, o14, o15, rfl⟩
    rw [List.getElem?_map] at et
    cases eq : (f.reigns.drop kn ++ f.reigns.take kn)[j]? with
    | none => rw [eq] at et; cases et
    | some q =>
     rw [eq] at et
     have et := (Option.some.inj et).symm
     subst et
     have hq := hmem q (List.mem_of_getElem? eq)
     obtain ⟨_, r1, r2, r3, r4⟩ := g.rn q hq
     simp only [eX]
     clear hL c1 c2 mA n1 z1 l1 hmem eq
     by_cases t1 : num % 4 = 1
     · have e1 : (num % 4 == 1) = true := by simp [t1]
       clear t1
       by_cases t2 : q.2.1 ≤ y ∧ y < q.2.1 + q.2.2
       · have e2 : decide (q.2.1 ≤ y) = true := decide_eq_true t2.1
         have e3 : decide (y < q.2.1 + q.2.2) = true := decide_eq_true t2.2
         cases e4 : (num / 4 % 2 == 0) with
         | true =>
          obtain ⟨x, hx⟩ := bb8 g hn hq (k := y - q.2.1 + 1) (by omega) (by omega)
          rw [show q.2.1 + (y - q.2.1 + 1) - 1 = y by omega] at hx
          clear t2 hn
          walk_at "ev"
          exact ⟨⟨"reign", "Reign", [.str n, .str q.1, .int (y - q.2.1 + 1)], [i], y, some y⟩, rfl, ⟨rfl, rfl, bc9, .inl rfl, x, hx⟩⟩
         | false =>
          obtain ⟨x, hx⟩ := bz8 g hn hq
          clear t2 hn
          walk_at "ev"
          exact ⟨⟨"under", "Under", [.str n, .str q.1], [i], q.2.1, some (q.2.1 + q.2.2 - 1)⟩, rfl, ⟨rfl, rfl, cp0, .inl rfl, x, hx⟩⟩
       · by_cases t3 : q.2.1 ≤ y
         · have e2 : decide (q.2.1 ≤ y) = true := decide_eq_true t3
           have e3 : decide (y < q.2.1 + q.2.2) = false := decide_eq_false (by omega)
           clear t2 t3 hn
           walk_at "ev"
           exact ⟨_, _, _, rfl⟩
         · have e2 : decide (q.2.1 ≤ y) = false := decide_eq_false t3
           clear t2 t3 hn
           walk_at "ev"
           exact ⟨_, _, _, rfl⟩
     · have e1 : (num % 4 == 1) = false := by simpa using t1
       clear t1 hn
       walk_at "ev"
       exact ⟨_, _, _, rfl⟩)
   rcases hx with ⟨ρ', rfl, (⟨o13, o14, o15, rfl⟩ | h)⟩ | ⟨t, rfl, s, rfl, hs⟩
   · obtain ⟨x, hx⟩ := ah1 g hn (lo := if y - num / 4 % 9 > -4000 then y - num / 4 % 9 else -4000) (hi := if y + num / 4 / 9 % 9 < 4000 then y + num / 4 / 9 % 9 else 4000) (by split <;> omega) (by split <;> split <;> omega) (by split <;> omega)
     refine ⟨⟨"between", "Between", [.str n, .int (if y - num / 4 % 9 > -4000 then y - num / 4 % 9 else -4000), .int (if y + num / 4 / 9 % 9 < 4000 then y + num / 4 / 9 % 9 else 4000)], [i], if y - num / 4 % 9 > -4000 then y - num / 4 % 9 else -4000, some (if y + num / 4 / 9 % 9 < 4000 then y + num / 4 / 9 % 9 else 4000)⟩, ?_, ⟨rfl, rfl, an1, .inl rfl, x, hx⟩⟩
     clear hL c1 c2 mA n1 z1 l1 hmem hx hn
     walk_at "ev"
     rfl
   · exact h.elim
   · exact ⟨s, rfl, hs⟩
end Nk21
namespace Nk21
open PySem L2 TL
theorem ix5 {α : Type} (a b c d e g : α) (l : List α) : atI (a :: b :: c :: d :: e :: g :: l) 5 = some g := gC (j := 5) rfl
theorem gR {f : Fm} {s : Sd} (h : SdOk f s) : eA (gU true s) = true := by
 have q : dL (s.ls.map fun (l : Nat) => T.int (l : Int)) = true := jW (fun _ => rfl) _
 simp only [gU, eA, dL, h.cp, q, ai0, Bool.and_self]
theorem bm5 {f : Fm} (g : Gd f) (cs : List Int) (hcs : cs.length ≤ 100) (fl : Bool) (hid : List Int) (hl : hid.length = f.names.length) (hb : ∀ y ∈ hid, f.first ≤ y ∧ y ≤ f.first + f.span) :
 ∃ ss : List Sd, iJ [.lst false (cs.map .int), fU false f, .bl fl, .lst false (hid.map .int)] = .ok (.lst true (ss.map (gU true))) ∧ ss.length = cs.length ∧ ∀ s ∈ ss, SdOk f s := by
 unfold iJ nE
 have b0 := @jS T
 have b1 := @iX T
 have b2 := @qO T
 have b3 := @vC T
 have b4 := @ix4 T
 have b5 := @ix5 T
 have z1 := nO false f.inks
 have z2 := oZ f.reigns
 have s0 := g.s0
 have s1 := g.s1
 have n1 := g.n1
 have n8 := g.n8
 simp only [fU]
 walk_at "ev"
 generalize hL : fH _ _ _ _ = o
 obtain ⟨ρ', rfl, ss, o7, o8, o9, o10, o11, o12, rfl, sl, sb⟩ := jB (fun j ρ => ∃ (ss : List Sd) (o7 o8 o9 o10 o11 o12 : Option T), ρ = [some (.lst false (cs.map .int)), some (.tup [.int f.first, .int (f.first + f.span), .lst false (f.names.map .str), .lst false (f.inks.map (dP false)), .lst false (f.reigns.map eX)]), some (.bl fl), some (.lst false (hid.map .int)), some (.int f.names.length), some (.int (f.first + f.span - f.first)), some (.lst true (ss.map (gU true))), o7, o8, o9, o10, o11, o12] ∧ ss.length = j ∧ ∀ s ∈ ss, SdOk f s) hL ⟨[], _, _, _, _, _, _, rfl, rfl, dJ⟩ (by
  rintro j0 t ρ et ⟨ss, o7, o8, o9, o10, o11, o12, rfl, sl, sb⟩
  rw [List.getElem?_map] at et
  cases eq : cs[j0]? with
  | none => rw [eq] at et; cases et
  | some cell =>
   rw [eq] at et
   have et := (Option.some.inj et).symm
   subst et
   have hj0 : j0 < cs.length := (List.getElem?_eq_some_iff.mp eq).1
   have hsl : ss.length ≤ 100000 := by omega
   clear hL eq
   obtain ⟨xs, hr, hxl, hxb⟩ := cc2 cell 6 (by decide)
   obtain ⟨a, b, c, d, e, w, hx6, ha0, hb0, hc0, hd0, he0, hw0⟩ := cy5 hxl hxb
   rw [hx6] at hr
   have hr : jT [.int cell, .int 6] = .ok (.lst true [.int a, .int b, .int c, .int d, .int e, .int w]) := hr
   clear hx6 hxl hxb
   obtain ⟨i0, i1⟩ := yX (a := a) (n := f.names.length) (by omega)
   obtain ⟨i, hie⟩ := pE i0
   have hi : i < f.names.length := by omega
   have mx : 0 < (if (f.names.length : Int) - 1 > 1 then (f.names.length : Int) - 1 else 1) := by split <;> omega
   have mx1 := Int.emod_nonneg (b / 3) (show (if (f.names.length : Int) - 1 > 1 then (f.names.length : Int) - 1 else 1) ≠ 0 by omega)
   have mx2 := Int.emod_lt_of_pos (b / 3) mx
   have mp : 0 < (f.names.length : Int) := by omega
   obtain ⟨j1, j2⟩ := yX (a := (i : Int) + 1 + b / 3 % (if (f.names.length : Int) - 1 > 1 then (f.names.length : Int) - 1 else 1)) (n := f.names.length) (by omega)
   obtain ⟨j, hje⟩ := pE j1
   have hj : j < f.names.length := by omega
   have hij : ¬ f.names.length = 1 → i ≠ j := by
    intro hm hq
    subst hq
    generalize b / 3 % (if (f.names.length : Int) - 1 > 1 then (f.names.length : Int) - 1 else 1) = v at *
    have hv : v < (f.names.length : Int) - 1 := by split at mx2 <;> omega
    by_cases q : (i : Int) + 1 + v < f.names.length
    · rw [Int.emod_eq_of_lt (by omega) q] at hje
      omega
    · rw [show (i : Int) + 1 + v = ((i : Int) + 1 + v - f.names.length) + (f.names.length : Int) * 1 by omega, Int.add_mul_emod_self_left, Int.emod_eq_of_lt (by omega) (by omega)] at hje
      omega
   clear i0 i1 j1 j2
   have goal : ∀ ys : List Int, ys.length = f.names.length → (∀ y ∈ ys, f.first ≤ y ∧ y ≤ f.first + f.span) → ∃ yi ∈ ys, ∃ yj ∈ ys, atI (ys.map T.int) (i : Int) = some (.int yi) ∧ atI (ys.map T.int) (j : Int) = some (.int yj) := fun ys hy _ => by
    obtain ⟨yi, h1, h2⟩ := bx5 (xs := ys) (k := i) (by omega)
    obtain ⟨yj, h3, h4⟩ := bx5 (xs := ys) (k := j) (by omega)
    exact ⟨yi, h1, yj, h3, h2, h4⟩
   cases fl with
   | false =>
    obtain ⟨yi, hyi, yj, hyj, ai, aj⟩ := goal hid hl hb
    have yb := hb
    clear goal
    by_cases hm1 : f.names.length = 1
    · have t1 : ((f.names.length : Int) == 1) = true := by simp [hm1]
      clear hm1 hij
      obtain ⟨s, hF, hs⟩ := pD g hd0 hi (yb yi hyi).1 (yb yi hyi).2
      simp only [fU] at hF
      have ccs := gR hs
      walk_at "ev"
      exact ⟨ss ++ [s], _, _, _, _, _, _, by rw [List.map_append]; rfl, by simp [sl], fun q hq => (List.mem_append.mp hq).elim (sb q) (fun z => by rw [List.mem_singleton.mp z]; exact hs)⟩
    · have t1 : ((f.names.length : Int) == 1) = false := by simp; omega
      cases t2 : decide (c % 5 < 2) with
      | true =>
       obtain ⟨s, hF, hs⟩ := pD g hd0 hi (yb yi hyi).1 (yb yi hyi).2
       simp only [fU] at hF
       have ccs := gR hs
       walk_at "ev"
       exact ⟨ss ++ [s], _, _, _, _, _, _, by rw [List.map_append]; rfl, by simp [sl], fun q hq => (List.mem_append.mp hq).elim (sb q) (fun z => by rw [List.mem_singleton.mp z]; exact hs)⟩
      | false =>
       obtain ⟨s, hF, hs⟩ := ab0 g (gap := yi - yj) hd0 hi hj (hij hm1) (by have := yb yi hyi; have := yb yj hyj; omega) (by have := yb yi hyi; have := yb yj hyj; omega)
       simp only [fU] at hF
       have ccs := gR hs
       walk_at "ev"
       exact ⟨ss ++ [s], _, _, _, _, _, _, by rw [List.map_append]; rfl, by simp [sl], fun q hq => (List.mem_append.mp hq).elim (sb q) (fun z => by rw [List.mem_singleton.mp z]; exact hs)⟩
   | true =>
    cases h3 : (b % 3 == 0) with
    | false =>
     obtain ⟨yi, hyi, yj, hyj, ai, aj⟩ := goal hid hl hb
     have yb := hb
     clear goal
     cases h8 : (w % 8 == 5) with
     | true =>
      obtain ⟨s, hF, hs⟩ := bl7 g (a := a) (b := b) (w := w) hc0 hd0 he0 hi hj
      simp only [fU] at hF
      have ccs := gR hs
      walk_at "ev"
      exact ⟨ss ++ [s], _, _, _, _, _, _, by rw [List.map_append]; rfl, by simp [sl], fun q hq => (List.mem_append.mp hq).elim (sb q) (fun z => by rw [List.mem_singleton.mp z]; exact hs)⟩
     | false =>
      by_cases hm1 : f.names.length = 1
      · have t1 : ((f.names.length : Int) == 1) = true := by simp [hm1]
        clear hm1 hij
        obtain ⟨s, hF, hs⟩ := pD g hd0 hi (yb yi hyi).1 (yb yi hyi).2
        simp only [fU] at hF
        have ccs := gR hs
        walk_at "ev"
        exact ⟨ss ++ [s], _, _, _, _, _, _, by rw [List.map_append]; rfl, by simp [sl], fun q hq => (List.mem_append.mp hq).elim (sb q) (fun z => by rw [List.mem_singleton.mp z]; exact hs)⟩
      · have t1 : ((f.names.length : Int) == 1) = false := by simp; omega
        cases t2 : decide (c % 5 < 2) with
        | true =>
         obtain ⟨s, hF, hs⟩ := pD g hd0 hi (yb yi hyi).1 (yb yi hyi).2
         simp only [fU] at hF
         have ccs := gR hs
         walk_at "ev"
         exact ⟨ss ++ [s], _, _, _, _, _, _, by rw [List.map_append]; rfl, by simp [sl], fun q hq => (List.mem_append.mp hq).elim (sb q) (fun z => by rw [List.mem_singleton.mp z]; exact hs)⟩
        | false =>
         obtain ⟨s, hF, hs⟩ := ab0 g (gap := yi - yj) hd0 hi hj (hij hm1) (by have := yb yi hyi; have := yb yj hyj; omega) (by have := yb yi hyi; have := yb yj hyj; omega)
         simp only [fU] at hF
         have ccs := gR hs
         walk_at "ev"
         exact ⟨ss ++ [s], _, _, _, _, _, _, by rw [List.map_append]; rfl, by simp [sl], fun q hq => (List.mem_append.mp hq).elim (sb q) (fun z => by rw [List.mem_singleton.mp z]; exact hs)⟩
    | true =>
     have rg : -(2 ^ 62) ≤ (f.names.length : Int) ∧ (f.names.length : Int) < 2 ^ 62 := by omega
     have mspan : 0 < f.first + f.span - f.first + 1 := by omega
     obtain ⟨ys, hys, hyl, yb⟩ : ∃ ys : List Int, (∀ q : Option T, cD (aK 12) dE (aG cN (aG aX (aE 1) (dC (.int 0))) (aG cP (aG cN (aG aX (aE 8) (dC (.int 4))) (aG kM (aG kM (dC (.int 7)) (aG aX (aE 8) (dC (.int 5)))) (aE 12))) (aG cN (aE 5) (dC (.int 1))))) [some (.lst false (cs.map .int)), some (.tup [.int f.first, .int (f.first + f.span), .lst false (f.names.map .str), .lst false (f.inks.map (dP false)), .lst false (f.reigns.map eX)]), some (.bl true), some (.lst false (hid.map .int)), some (.int f.names.length), some (.int (f.first + f.span - f.first)), some (.lst true (ss.map (gU true))), some (.int cell), some (.lst true [.int a, .int b, .int c, .int d, .int e, .int w]), some (.int i), some (.lst true (hid.map .int)), q, none] (iR 0 (f.names.length : Int).toNat) = .ok (ys.map .int)) ∧ ys.length = f.names.length ∧ ∀ y ∈ ys, f.first ≤ y ∧ y ≤ f.first + f.span := by
      refine ⟨(List.range f.names.length).map fun (k : Nat) => f.first + (e + 7 * w * (0 + (k : Int))) % (f.first + f.span - f.first + 1), fun q => ?_, by simp, fun y hy => ?_⟩
      · unfold iR
        rw [List.map_map, Int.toNat_natCast]
        refine gK fun k hk => ?_
        have hk := List.mem_range.mp hk
        have mk : mulOk (7 * w) (0 + (k : Int)) := bw3 (by omega) (by omega)
        clear hr hie hje
        walk_at "ev"
        rfl
      · obtain ⟨k, _, rfl⟩ := List.mem_map.mp hy
        have := Int.emod_nonneg (e + 7 * w * (0 + (k : Int))) (show f.first + f.span - f.first + 1 ≠ 0 by omega)
        have := Int.emod_lt_of_pos (e + 7 * w * (0 + (k : Int))) mspan
        omega
     have ity : (iR 0 (f.names.length : Int).toNat).length ≤ sizeLine := by rw [gN]; exact pH (by omega)
     obtain ⟨yi, hyi, yj, hyj, ai, aj⟩ := goal ys hyl yb
     clear goal
     cases h8 : (w % 8 == 5) with
     | true =>
      obtain ⟨s, hF, hs⟩ := bl7 g (a := a) (b := b) (w := w) hc0 hd0 he0 hi hj
      simp only [fU] at hF
      have ccs := gR hs
      walk_at "ev"
      exact ⟨ss ++ [s], _, _, _, _, _, _, by rw [List.map_append]; rfl, by simp [sl], fun q hq => (List.mem_append.mp hq).elim (sb q) (fun z => by rw [List.mem_singleton.mp z]; exact hs)⟩
     | false =>
      by_cases hm1 : f.names.length = 1
      · have t1 : ((f.names.length : Int) == 1) = true := by simp [hm1]
        clear hm1 hij
        obtain ⟨s, hF, hs⟩ := pD g hd0 hi (yb yi hyi).1 (yb yi hyi).2
        simp only [fU] at hF
        have ccs := gR hs
        walk_at "ev"
        exact ⟨ss ++ [s], _, _, _, _, _, _, by rw [List.map_append]; rfl, by simp [sl], fun q hq => (List.mem_append.mp hq).elim (sb q) (fun z => by rw [List.mem_singleton.mp z]; exact hs)⟩
      · have t1 : ((f.names.length : Int) == 1) = false := by simp; omega
        cases t2 : decide (c % 5 < 2) with
        | true =>
         obtain ⟨s, hF, hs⟩ := pD g hd0 hi (yb yi hyi).1 (yb yi hyi).2
         simp only [fU] at hF
         have ccs := gR hs
         walk_at "ev"
         exact ⟨ss ++ [s], _, _, _, _, _, _, by rw [List.map_append]; rfl, by simp [sl], fun q hq => (List.mem_append.mp hq).elim (sb q) (fun z => by rw [List.mem_singleton.mp z]; exact hs)⟩
        | false =>
         obtain ⟨s, hF, hs⟩ := ab0 g (gap := yi - yj) hd0 hi hj (hij hm1) (by have := yb yi hyi; have := yb yj hyj; omega) (by have := yb yi hyi; have := yb yj hyj; omega)
         simp only [fU] at hF
         have ccs := gR hs
         walk_at "ev"
         exact ⟨ss ++ [s], _, _, _, _, _, _, by rw [List.map_append]; rfl, by simp [sl], fun q hq => (List.mem_append.mp hq).elim (sb q) (fun z => by rw [List.mem_singleton.mp z]; exact hs)⟩)
 clear hL
 rw [List.length_map] at sl
 refine ⟨ss, ?_, sl, sb⟩
 walk_at "ev"
end Nk21
namespace Nk21
open PySem L2 TL
open Classical in
noncomputable def txt (f : Fm) (s : Sd) : Str := if h : ∃ x, cX [cT false f, .str s.word, .lst false s.parts] = .ok (gF true s.cls (s.ls.map fun (l : Nat) => (l : Int)) s.lo s.hi x) then Classical.choose h else ""
noncomputable def gT (o : Bool) (f : Fm) (s : Sd) : T := gF o s.cls (s.ls.map fun (l : Nat) => (l : Int)) s.lo s.hi (txt f s)
theorem cc4 {f : Fm} {s : Sd} (h : SdOk f s) : cX [cT false f, .str s.word, .lst false s.parts] = .ok (gT true f s) := by
 unfold gT txt
 rw [dif_pos h.made]
 exact Classical.choose_spec h.made
theorem ad2 (o : Bool) (f : Fm) (s : Sd) : frz (gT o f s) = gT false f s := ch7 _ _ _ _ _ _
theorem ac8 (f : Fm) (s : Sd) : eA (gT true f s) = true := eK _ _ _ _ _
theorem ar9 (f : Fm) (s : Sd) : eC (gT false f s) = true := cc1 _ _ _ _ _
theorem wJ (o : Bool) (f : Fm) : ∀ ss : List Sd, frzs (ss.map (gT o f)) = ss.map (gT false f)
 | [] => rfl
 | s :: ss => by simp only [List.map_cons, frzs, ad2, wJ o f ss]
theorem bx2 (f : Fm) (ss : List Sd) : dL (ss.map (gT true f)) = true := jW (ac8 f) ss
theorem wO (f : Fm) (ss : List Sd) : bA (ss.map (gT false f)) = true := kA (ar9 f) ss
theorem cj7 {f : Fm} {s : Sd} (h : SdOk f s) (o : Bool) : frz (gU o s) = gU false s := by
 have q : frzs (s.ls.map fun (l : Nat) => T.int (l : Int)) = s.ls.map fun (l : Nat) => T.int (l : Int) := sL (fun _ => rfl) _
 simp only [gU, frz, frzs, iA _ h.np, q, bi7]
theorem av9 {f : Fm} {s : Sd} (h : SdOk f s) : eC (gU false s) = true := by
 have q : bA (s.ls.map fun (l : Nat) => T.int (l : Int)) = true := kA (fun _ => rfl) _
 simp only [gU, eC, bA, h.np, q, vX, Bool.not_false, Bool.and_self]
theorem sB {f : Fm} (o : Bool) : ∀ {ss : List Sd}, (∀ s ∈ ss, SdOk f s) → frzs (ss.map (gU o)) = ss.map (gU false)
 | [], _ => rfl
 | s :: ss, h => by simp only [List.map_cons, frzs, cj7 (h s List.mem_cons_self), sB o fun t ht => h t (List.mem_cons_of_mem _ ht)]
theorem rH {f : Fm} : ∀ {ss : List Sd}, (∀ s ∈ ss, SdOk f s) → bA (ss.map (gU false)) = true
 | [], _ => rfl
 | s :: ss, h => by simp only [List.map_cons, bA, av9 (h s List.mem_cons_self), rH fun t ht => h t (List.mem_cons_of_mem _ ht), Bool.and_self]
theorem al2 {f : Fm} : ∀ {ss : List Sd}, (∀ s ∈ ss, SdOk f s) → dL (ss.map (gU true)) = true
 | [], _ => rfl
 | s :: ss, h => by simp only [List.map_cons, dL, gR (h s List.mem_cons_self), al2 fun t ht => h t (List.mem_cons_of_mem _ ht), Bool.and_self]
theorem cq8 {f : Fm} {ss : List Sd} (h : ∀ s ∈ ss, SdOk f s) (hl : ss.length ≤ 1000) : lT [cT false f, .lst false (ss.map (gU false))] = .ok (.lst true (ss.map (gT true f))) := by
 unfold lT rC
 have hc : cD (fI (bJ (aK 2) (bJ (aK 3) (bJ (aK 4) (bJ (aK 5) fM))))) dE (bB 3 cX (aD (aE 0) (aD (aE 2) (aD (cK gQ (aD (aE 3) aI)) aI)))) [some (cT false f), some (.lst false (ss.map (gU false))), none, none, none, none] (ss.map (gU false)) = .ok (ss.map (gT true f)) := by
  refine lS fun s hs => ?_
  have k := cc4 (h s hs)
  have np := (h s hs).np
  have zp := iA _ np
  have za := iO false f
  have co := ac8 f s
  simp only [gU]
  clear h
  walk_at "ev"
 have nn := rH h
 have l1 : ss.length ≤ 100000 := by omega
 clear h
 walk_at "ev"
def oth (s : Sd) : T := match s.ls with
 | [_, b] => .int b
 | _ => .non
def fst (s : Sd) : Int := match s.ls with
 | a :: _ => a
 | _ => 0
def st (s : Sd) (k : Int) : List T := (match s.hi with
 | some h => [.tup [oth s, .int (fst s), .int h, .int k]]
 | none => []) ++ [.tup [.int (fst s), oth s, .int (0 - s.lo), .int k]]
def sp (f : Fm) (l : Int) : List T := [.tup [.non, .int l, .int (f.first + f.span), .non], .tup [.int l, .non, .int (0 - f.first), .non]]
theorem bk6 (c : Str) (hc : c ∈ iY) (o : Bool) (ls : List Int) (lo : Int) (hi : Option Int) (x : Str) : fJ ["Ink", "Reign", "Under", "Between", "After", "Same", "Within", "Apart"] "spoken" (gF o c ls lo hi x) = .ok (.lst o (ls.map .int)) := by
 have := ct8 c hc
 simp only [fJ, gF, this, if_true]
 with_unfolding_all rfl
theorem da0 (c : Str) (hc : c ∈ iY) (o : Bool) (ls : List Int) (lo : Int) (hi : Option Int) (x : Str) : fJ ["Ink", "Reign", "Under", "Between", "After", "Same", "Within", "Apart"] "low" (gF o c ls lo hi x) = .ok (.int lo) := by
 have := ct8 c hc
 simp only [fJ, gF, this, if_true]
 with_unfolding_all rfl
theorem cp3 (c : Str) (hc : c ∈ iY) (o : Bool) (ls : List Int) (lo : Int) (hi : Option Int) (x : Str) : fJ ["Ink", "Reign", "Under", "Between", "After", "Same", "Within", "Apart"] "high" (gF o c ls lo hi x) = .ok (lN hi) := by
 have := ct8 c hc
 simp only [fJ, gF, this, if_true]
 with_unfolding_all rfl
theorem cn0 : fG "about" ["spoken", "low", "high", "text"] = none := by decide +kernel
theorem bt6 : fG "bounds" ["spoken", "low", "high", "text"] = none := by decide +kernel
theorem ch4 {c : Str} (h : c ∈ iY) : tm_about.lookup c = some aR := by
 simp only [iY, List.mem_cons, List.not_mem_nil, or_false] at h
 rcases h with rfl | rfl | rfl | rfl | rfl | rfl | rfl | rfl <;> with_unfolding_all rfl
theorem cf5 {c : Str} (h : c ∈ iY) : tm_bounds.lookup c = some aQ := by
 simp only [iY, List.mem_cons, List.not_mem_nil, or_false] at h
 rcases h with rfl | rfl | rfl | rfl | rfl | rfl | rfl | rfl <;> with_unfolding_all rfl
theorem ca3 {s : Sd} (c8 : s.cls ∈ iY) (f : Fm) {ρ : Fr} (h : aE 0 ρ = .ok (gT false f s)) : kR 1 "about" tm_about (aE 0) aI ρ = .ok (.lst true ((s.ls.map fun (l : Nat) => (l : Int)).map .int)) := by
 have k : aR [gT false f s] = .ok (.lst true ((s.ls.map fun (l : Nat) => (l : Int)).map .int)) := by
  unfold aR dF gT
  have := bk6 s.cls c8 false (s.ls.map fun (l : Nat) => (l : Int)) s.lo s.hi (txt f s)
  walk_at "ev"
 have zo := ad2 false f s
 have e : kR 1 "about" tm_about (aE 0) aI ρ = tP 1 aR [gT false f s] := by
  simp only [kR, h, nS, aI, gT, gF, cn0, ch4 c8]
 rw [e]
 clear h
 walk_at "ev"
theorem bd9 {s : Sd} (c8 : s.cls ∈ iY) (f : Fm) {ρ : Fr} (h : aE 0 ρ = .ok (gT false f s)) : kR 1 "bounds" tm_bounds (aE 0) aI ρ = .ok (.tup [.int s.lo, lN s.hi]) := by
 have ch := ai0 s.hi
 have nh := vX s.hi
 have k : aQ [gT false f s] = .ok (.tup [.int s.lo, lN s.hi]) := by
  unfold aQ cY gT
  have := da0 s.cls c8 false (s.ls.map fun (l : Nat) => (l : Int)) s.lo s.hi (txt f s)
  have := cp3 s.cls c8 false (s.ls.map fun (l : Nat) => (l : Int)) s.lo s.hi (txt f s)
  walk_at "ev"
 have zo := ad2 false f s
 have e : kR 1 "bounds" tm_bounds (aE 0) aI ρ = tP 1 aQ [gT false f s] := by
  simp only [kR, h, nS, aI, gT, gF, bt6, cf5 c8]
 rw [e]
 clear h
 walk_at "ev"
theorem ai4 {f : Fm} {s : Sd} (ok : SdOk f s) (k : Int) : jL [gT false f s, .int k] = .ok (.lst true (st s k)) := by
 unfold jL mD
 have ha := ca3 ok.c8 f (ρ := [some (gT false f s), some (.int k), none, none, none, none]) rfl
 have hb := fun q => bd9 ok.c8 f (ρ := [some (gT false f s), some (.int k), some q, none, none, none]) rfl
 have b0 := @jS T
 have b1 := @iX T
 obtain ⟨word, cls, parts, ls, lo, hi⟩ := s
 have l12 := ok.l12
 simp only at l12 ha hb
 clear ok
 have t2 : ((2 : Nat) : Int) = 2 := rfl
 have q3 : ((2 : Int) == 2) = true := rfl
 have q1 : (((0 + 1 : Nat) : Int) == 2) = false := rfl
 have q2 : (((0 + 1 + 1 : Nat) : Int) == 2) = true := rfl
 rcases ls with _ | ⟨a, _ | ⟨b, _ | ⟨c, r⟩⟩⟩
 · simp at l12
 · simp only [List.map_cons, List.map_nil] at ha
   cases hi with
   | none => simp only [lN] at hb; walk_at "ev"; rfl
   | some h => simp only [lN] at hb; walk_at "ev"; rfl
 · simp only [List.map_cons, List.map_nil] at ha
   cases hi with
   | none => simp only [lN] at hb; walk_at "ev"; rfl
   | some h => simp only [lN] at hb; walk_at "ev"; rfl
 · simp at l12
end Nk21
namespace Nk21
open PySem L2 TL
theorem ak8 (f : Fm) (l : Int) : lJ [cT false f, .int l] = .ok (.lst true (sp f l)) := by
 unfold lJ oR sp
 have f1 := aw9 false f
 have f2 := ab2 false f
 walk_at "ev"
def au7 (ss : List Sd) (k : Nat) : List T := match ss[k]? with
 | some s => st s k
 | none => []
def mM (ss : List Sd) (n : Nat) : List T := (List.range n).flatMap (au7 ss)
def sM (f : Fm) (n : Nat) : List T := (List.range n).flatMap fun (l : Nat) => sp f (l : Int)
def tG (f : Fm) (ss : List Sd) : List T := mM ss ss.length ++ sM f f.names.length
theorem aj8 {ss : List Sd} {n : Nat} {s : Sd} (h : ss[n]? = some s) : mM ss (n + 1) = mM ss n ++ st s n := by
 unfold mM
 rw [List.range_succ, List.flatMap_append]
 simp [au7, h]
theorem aw0 (f : Fm) (n : Nat) : sM f (n + 1) = sM f n ++ sp f n := by
 unfold sM
 rw [List.range_succ, List.flatMap_append]
 simp
def pX (t : T) : Prop := ∃ a b c d, t = .tup [a, b, .int c, d] ∧ (a = .non ∨ ∃ i, a = .int i) ∧ (b = .non ∨ ∃ i, b = .int i) ∧ (d = .non ∨ ∃ i, d = .int i)
theorem bo7 (s : Sd) : oth s = .non ∨ ∃ i, oth s = .int i := by
 unfold oth
 split
 · exact .inr ⟨_, rfl⟩
 · exact .inl rfl
theorem at3 (s : Sd) (k : Int) : ∀ t ∈ st s k, pX t := by
 intro t ht
 unfold st at ht
 rcases List.mem_append.mp ht with ht | ht
 · split at ht
   · rw [List.mem_singleton.mp ht]
     exact ⟨_, _, _, _, rfl, bo7 s, .inr ⟨_, rfl⟩, .inr ⟨_, rfl⟩⟩
   · cases ht
 · rw [List.mem_singleton.mp ht]
   exact ⟨_, _, _, _, rfl, .inr ⟨_, rfl⟩, bo7 s, .inr ⟨_, rfl⟩⟩
theorem cz0 (ss : List Sd) (n : Nat) : ∀ t ∈ mM ss n, pX t := by
 intro t ht
 obtain ⟨k, _, h⟩ := List.mem_flatMap.mp ht
 unfold au7 at h
 split at h
 · exact at3 _ _ t h
 · cases h
theorem bs9 (f : Fm) (n : Nat) : ∀ t ∈ sM f n, pX t := by
 intro t ht
 obtain ⟨k, _, h⟩ := List.mem_flatMap.mp ht
 simp only [sp, List.mem_cons, List.not_mem_nil, or_false] at h
 rcases h with rfl | rfl
 · exact ⟨_, _, _, _, rfl, .inl rfl, .inr ⟨_, rfl⟩, .inl rfl⟩
 · exact ⟨_, _, _, _, rfl, .inr ⟨_, rfl⟩, .inl rfl, .inl rfl⟩
theorem yD (f : Fm) (ss : List Sd) : ∀ t ∈ tG f ss, pX t := fun t ht => (List.mem_append.mp ht).elim (cz0 _ _ t) (bs9 _ _ t)
theorem xL {t : T} (h : pX t) : eC t = true ∧ eA t = true ∧ frz t = t := by
 obtain ⟨a, b, c, d, rfl, ha, hb, hd⟩ := h
 rcases ha with rfl | ⟨i, rfl⟩ <;> rcases hb with rfl | ⟨j, rfl⟩ <;> rcases hd with rfl | ⟨k, rfl⟩ <;> exact ⟨rfl, rfl, rfl⟩
theorem yE {ts : List T} (h : ∀ t ∈ ts, pX t) : bA ts = true := by
 rw [yG, List.all_eq_true]
 exact fun t ht => (xL (h t ht)).1
theorem tK {ts : List T} (h : ∀ t ∈ ts, pX t) : dL ts = true := by
 rw [ae6, List.all_eq_true]
 exact fun t ht => (xL (h t ht)).2.1
theorem zJ {ts : List T} (h : ∀ t ∈ ts, pX t) : frzs ts = ts := iA ts (yE h)
theorem bh6 (s : Sd) (k : Int) : (st s k).length ≤ 2 := by
 unfold st
 split <;> simp
theorem rY (ss : List Sd) : ∀ n, (mM ss n).length ≤ 2 * n
 | 0 => by simp [mM]
 | n + 1 => by
  have ih := rY ss n
  unfold mM at ih ⊢
  rw [List.range_succ, List.flatMap_append, List.length_append]
  have : (([n] : List Nat).flatMap (au7 ss)).length ≤ 2 := by
   simp only [List.flatMap_cons, List.flatMap_nil, List.append_nil, au7]
   split
   · exact bh6 _ _
   · simp
  omega
theorem vD (f : Fm) : ∀ n, (sM f n).length = 2 * n
 | 0 => by simp [sM]
 | n + 1 => by rw [aw0, List.length_append, vD f n]; simp [sp]; omega
theorem vS {f : Fm} (g : Gd f) {ss : List Sd} (h : ∀ s ∈ ss, SdOk f s) (hl : ss.length ≤ 1000) : eW [cT false f, .lst false (ss.map (gT false f))] = .ok (.lst true (tG f ss)) := by
 unfold eW rN
 have fl := wC false f
 have no := wO f ss
 have n8 := g.n8
 walk_at "ev"
 generalize hL : fH _ _ _ _ = o
 obtain ⟨ρ', rfl, o3, o4, rfl⟩ := jB (fun j ρ => ∃ (o3 o4 : Option T), ρ = [some (cT false f), some (.lst false (ss.map (gT false f))), some (.lst true (mM ss j)), o3, o4, none]) hL ⟨_, _, rfl⟩ (by
  rintro j t ρ et ⟨o3, o4, rfl⟩
  obtain ⟨t2, e2, rfl⟩ := at5 et
  rw [List.getElem?_map] at e2
  cases eq : ss[j]? with
  | none => rw [eq] at e2; cases e2
  | some s =>
   rw [eq] at e2
   have e2 := (Option.some.inj e2).symm
   subst e2
   have hs := h s (List.mem_of_getElem? eq)
   have k := ai4 hs (j : Int)
   have zo := ad2 false f s
   have cs := tK (at3 s j)
   have zs := zJ (at3 s j)
   have hj : j < ss.length := (List.getElem?_eq_some_iff.mp eq).1
   have l1 := rY ss j
   have l2 := bh6 s j
   have l3 : (mM ss j).length + (st s j).length ≤ 100000 := by omega
   have sc := aj8 eq
   clear hL et eq h
   walk_at "ev"
   exact ⟨_, _, rfl⟩)
 rw [aa6, List.length_map]
 clear hL
 walk_at "ev"
 generalize hL : fH _ _ _ _ = o
 obtain ⟨ρ', rfl, o5, rfl⟩ := jB (fun j ρ => ∃ (o5 : Option T), ρ = [some (cT false f), some (.lst false (ss.map (gT false f))), some (.lst true (mM ss ss.length ++ sM f j)), o3, o4, o5]) hL ⟨none, by simp [sM]⟩ (by
  rintro j t ρ et ⟨o5, rfl⟩
  obtain ⟨hj, rfl⟩ := jU et
  have k := ak8 f (0 + (j : Int))
  have za := iO false f
  have l1 := rY ss ss.length
  have l2 := vD f j
  have l3 : (mM ss ss.length ++ sM f j).length + (sp f (0 + (j : Int))).length ≤ 100000 := by rw [List.length_append]; simp [sp]; omega
  have cs : dL (sp f (0 + (j : Int))) = true := rfl
  clear hL et h l1 l2
  walk_at "ev"
  refine ⟨some (.int (0 + (j : Int))), ?_⟩
  rw [aw0, List.append_assoc, show (0 + (j : Int)) = (j : Int) by omega])
 rw [gN]
 clear hL
 simp only [Int.toNat_natCast]
 walk_at "ev"
 rfl
theorem zX {f : Fm} (g : Gd f) {ss : List Sd} (h : ∀ s ∈ ss, SdOk f s) (hl : ss.length ≤ 1000) : hV [fU false f, .lst false (ss.map (gU false))] = .ok (.lst true (tG f ss)) := by
 unfold hV qC
 have b0 := @jS T
 have b1 := @iX T
 have b2 := @qO T
 have b3 := @vC T
 have n8 := g.n8
 simp only [fU]
 have rg : -(2 ^ 62) ≤ (ss.length : Int) ∧ (ss.length : Int) < 2 ^ 62 := by omega
 walk_at "ev"
 generalize hL : fH _ _ _ _ = o
 obtain ⟨ρ', rfl, o3, o4, o5, o6, o7, rfl⟩ := jB (fun j ρ => ∃ (o3 o4 o5 o6 o7 : Option T), ρ = [some (.tup [.int f.first, .int (f.first + f.span), .lst false (f.names.map .str), .lst false (f.inks.map (dP false)), .lst false (f.reigns.map eX)]), some (.lst false (ss.map (gU false))), some (.lst true (mM ss j)), o3, o4, o5, o6, o7, none]) hL ⟨_, _, _, _, _, rfl⟩ (by
  rintro j t ρ et ⟨o3, o4, o5, o6, o7, rfl⟩
  obtain ⟨hj, rfl⟩ := jU et
  have hj : j < ss.length := by simpa using hj
  obtain ⟨s, eq⟩ : ∃ s, ss[j]? = some s := ⟨ss[j], List.getElem?_eq_getElem hj⟩
  have hs := h s (List.mem_of_getElem? eq)
  have at1 : atI (ss.map (gU false)) (j : Int) = some (gU false s) := by
   exact gC (by rw [List.getElem?_map, eq]; rfl)
  have l1 := rY ss j
  have l3 : (mM ss j).length ≤ 100000 := by omega
  have l4 : ∀ x : T, (mM ss j ++ [x]).length < sizeLine := fun x => Nat.lt_of_le_of_lt (show (mM ss j ++ [x]).length ≤ 100000 by rw [List.length_append]; simp; omega) (by decide)
  have sc := aj8 eq
  obtain ⟨word, cls, parts, ls, lo, hi⟩ := s
  have l12 := hs.l12
  simp only [gU] at at1 l12
  clear hL et eq h hs l1
  have zz : (0 + (j : Int)) = (j : Int) := Int.zero_add _
  rcases ls with _ | ⟨a, _ | ⟨b, _ | ⟨c, r⟩⟩⟩
  · simp at l12
  · simp only [List.map_cons, List.map_nil] at at1
    cases hi with
    | none =>
     simp only [lN] at at1
     clear l12
     walk_at "ev"
     exact ⟨_, _, _, _, _, by simp only [st, oth, fst, List.nil_append]; rfl⟩
    | some hh =>
     simp only [lN] at at1
     clear l12
     walk_at "ev"
     exact ⟨_, _, _, _, _, by simp only [st, oth, fst, List.append_assoc, List.cons_append, List.nil_append]; rfl⟩
  · simp only [List.map_cons, List.map_nil] at at1
    cases hi with
    | none =>
     simp only [lN] at at1
     clear l12
     walk_at "ev"
     exact ⟨_, _, _, _, _, by simp only [st, oth, fst, List.nil_append]; rfl⟩
    | some hh =>
     simp only [lN] at at1
     clear l12
     walk_at "ev"
     exact ⟨_, _, _, _, _, by simp only [st, oth, fst, List.append_assoc, List.cons_append, List.nil_append]; rfl⟩
  · simp at l12)
 rw [gN]
 clear hL
 simp only [Int.toNat_natCast]
 walk_at "ev"
 generalize hL : fH _ _ _ _ = o
 obtain ⟨ρ', rfl, o8, rfl⟩ := jB (fun j ρ => ∃ (o8 : Option T), ρ = [some (.tup [.int f.first, .int (f.first + f.span), .lst false (f.names.map .str), .lst false (f.inks.map (dP false)), .lst false (f.reigns.map eX)]), some (.lst false (ss.map (gU false))), some (.lst true (mM ss ss.length ++ sM f j)), o3, o4, o5, o6, o7, o8]) hL ⟨none, by simp [sM]⟩ (by
  rintro j t ρ et ⟨o8, rfl⟩
  obtain ⟨hj, rfl⟩ := jU et
  have l1 := rY ss ss.length
  have l2 := vD f j
  have l3 : (mM ss ss.length ++ sM f j).length ≤ 100000 := by rw [List.length_append]; omega
  have l4 : ∀ x : T, (mM ss ss.length ++ sM f j ++ [x]).length < sizeLine := fun x => Nat.lt_of_le_of_lt (show (mM ss ss.length ++ sM f j ++ [x]).length ≤ 100000 by rw [List.length_append, List.length_append]; simp; omega) (by decide)
  clear hL et h l1 l2
  walk_at "ev"
  refine ⟨some (.int (0 + (j : Int))), ?_⟩
  rw [aw0, show (0 + (j : Int)) = (j : Int) by omega]
  simp [sp])
 rw [gN]
 clear hL
 simp only [Int.toNat_natCast]
 walk_at "ev"
 rfl
theorem cc5 {t : T} (h : pX t) : wZ t t = .ok (.bl false) := by
 obtain ⟨a, b, c, d, rfl, ha, hb, hd⟩ := h
 have e : ∀ i : Int, (i == i) = true := fun i => beq_self_eq_true i
 rcases ha with rfl | ⟨i, rfl⟩ <;> rcases hb with rfl | ⟨j, rfl⟩ <;> rcases hd with rfl | ⟨k, rfl⟩ <;> simp [wZ, tQ, bV, xB, xY, lH]
theorem bq0 (c : Int) : mR [.int c] = .ok (.bl true) := by
 unfold mR qH
 walk_at "ev"
theorem ah0 {a : T} (h : a = .non ∨ ∃ i, a = .int i) : gY [a, .ty "bool"] = .ok (.bl false) := by
 rcases h with rfl | ⟨i, rfl⟩
 · exact bk1
 · exact ax4 i
theorem bt5 : ∀ (ts : List T) {i : Nat} {t : T}, (fL ts ts)[i]? = some t → ∃ u ∈ ts, t = .tup [u, u] := by
 intro ts i t h
 obtain ⟨a, b, h1, h2, rfl⟩ := yT h
 rw [h1] at h2
 cases h2
 exact ⟨a, List.mem_of_getElem? h1, rfl⟩
theorem wB {ts : List T} (h : ∀ t ∈ ts, pX t) (hl : ts.length ≤ 100000) : eU [.lst false ts, .lst false ts] = .ok (.bl true) := by
 unfold eU rK
 have no := yE h
 have e0 : (!((ts.length : Int) == (ts.length : Int))) = false := by simp
 walk_at "ev"
 generalize hL : fH _ _ _ _ = o
 obtain ⟨ρ', rfl, o2, o3, rfl⟩ := jB (fun j ρ => ∃ (o2 o3 : Option T), ρ = [some (.lst false ts), some (.lst false ts), o2, o3, none]) hL ⟨_, _, rfl⟩ (by
  rintro j t ρ et ⟨o2, o3, rfl⟩
  obtain ⟨u, hu, rfl⟩ := bt5 ts et
  have ne := cc5 (h u hu)
  obtain ⟨nu, cu, zu⟩ := xL (h u hu)
  obtain ⟨a, b, c, d, rfl, ha, hb, hd⟩ := h u hu
  have k := bq0 c
  have ia := ah0 ha
  have ib := ah0 hb
  have id' := ah0 hd
  have ic := ax4 c
  have b2 := @qO T
  have na : eC a = true := by rcases ha with rfl | ⟨i, rfl⟩ <;> rfl
  have nb : eC b = true := by rcases hb with rfl | ⟨i, rfl⟩ <;> rfl
  have nd : eC d = true := by rcases hd with rfl | ⟨i, rfl⟩ <;> rfl
  have al : mN true [.lst true [.bl false, .bl false, .bl false, .bl false]] = .ok (.bl false) := rfl
  clear hL et h hu ha hb hd nu cu zu
  have hc : cD (aK 4) dE (cK gY (aD (aE 4) (aD (dC (.ty "bool")) aI))) [some (.lst false ts), some (.lst false ts), some (.tup [a, b, .int c, d]), some (.tup [a, b, .int c, d]), none] [a, b, .int c, d] = .ok [.bl false, .bl false, .bl false, .bl false] := by
   simp only [cD]
   walk_at "ev"
  walk_at "ev"
  exact ⟨_, _, rfl⟩)
 clear hL
 walk_at "ev"
end Nk21
namespace Nk21
open PySem L2 TL
noncomputable def ax8 : Fr → bT :=
 (aO (bI [] (cK gQ (aD (aE 5) aI)) (aK 6))
 (aO (bI [] (bB 2 hV (aD (aE 1) (aD (aE 3) aI))) (aK 7))
 (aO (bI [] (bB 2 eW (aD (aE 4) (aD (aE 6) aI))) (aK 8))
 (aO (dI (xA (iG (gW (bB 2 eU (aD (aE 8) (aD (aE 7) aI))))) (bR (aG wZ (cK eF (aD (aE 6) aI)) (cK eF (aD (aE 5) aI))))) (bL [] (dC (.bl false))) cH)
 (aO (iF 8 [] dD (dC .non))
 (aO (yJ 6 [] as9 dD aI)
 (aO (dI (iG (gW (bB 2 eU (aD (bB 2 eW (aD (aE 4) (aD (ap0 (aE 5) (gX (eO nG (dC (.int 1))))) aI))) (aD (bB 2 hV (aD (aE 1) (aD (ap0 (aE 3) (gX (eO nG (dC (.int 1))))) aI))) aI))))) (bL [] (dC (.bl false))) cH)
 (aO (bI [] (vA qK (aE 7) (gX (aG dH (dC (.int 0)) (aG kM (dC (.int 2)) (cK eF (aD (aG aX (aE 1) (dC (.int 2))) aI))))) kI) (aK 9))
 (bL [] (oH (bB 2 eU (aD (bB 2 eW (aD (aE 4) (aD (aE 5) aI))) (aD (aE 7) aI))) (bB 2 eU (aD (bB 2 eW (aD (aE 4) (aD (aE 6) aI))) (aD (aE 9) aI)))))))))))))
theorem co0 : ak7 = (aO (bI [] (bB 2 kK (aD (aE 0) (aD (dC (.int 8)) aI))) (aK 1))
 (aO (bI [] (bB 2 jH (aD (aG gH (bB 2 eD (aD (aE 0) (aD (dC (.int 1)) aI))) (dC (.int 32))) (aD (aE 1) aI))) (aK 2))
 (aO (bI [] (wQ (bB 4 iJ (aD (vA qK (aE 0) (gX (dC (.int 2))) (gX (dC (.int 18)))) (aD (aE 1) (aD (aG gO (aG cP (bB 2 eD (aD (aE 0) (aD (dC (.int 1)) aI))) (dC (.int 2))) (dC (.int 1))) (aD (aE 2) aI)))))) (aK 3))
 (aO (bI [] (bB 1 iI (aD (aE 1) aI)) (aK 4))
 (aO (bI [] (wQ (bB 2 lT (aD (aE 4) (aD (aE 3) aI)))) (aK 5))
 (aO (dI (qY (bR (lF xN xN (dC (.int 0)) (cK eF (aD (aE 3) aI)) (dC (.int 16)))) (bR (aG gO (aG cP (aG gH (bB 2 eD (aD (aE 0) (aD (dC (.int 1)) aI))) (dC (.int 2))) (dC (.int 8))) (dC (.int 3))))) (aO (iF 3 [] dD (aS (aG aX (aE 3) (dC (.int 0)))))
 (iF 5 [] dD (aS (aG aX (aE 5) (dC (.int 0)))))) cH)
 ax8)))))) := rfl
theorem bn7 (o : Bool) (f : Fm) : frz (fU o f) = fU false f := by simp only [fU, frz, frzs, xH, nO, oZ]
theorem bk9 (f : Fm) : eA (fU true f) = true := by simp only [fU, eA, dL, uI, uN, aw1, Bool.and_self]
theorem db5 (o : Bool) (f : Fm) : aX (fU o f) (.int 2) = .ok (.lst o (f.names.map .str)) := by
 simp only [fU, cg2, qO]
theorem co4 {α : Type} (xs : List α) (m : Nat) (h0 : 0 < m) (h : m ≤ xs.length) : fZ xs (some (0 - (m : Int))) none = xs.drop (xs.length - m) := by
 unfold fZ
 have e1 : HT.sIx xs.length 0 (some (0 - (m : Int))) = xs.length - m := by
  simp only [HT.sIx]
  rw [if_pos (by omega)]
  omega
 have e2 : HT.sIx xs.length xs.length none = xs.length := rfl
 rw [e1, e2, List.take_of_length_le (by simp)]
theorem ch5 {α β : Type} (g : α → β) (xs : List α) (lo hi : Option Int) : fZ (xs.map g) lo hi = (fZ xs lo hi).map g := by
 unfold fZ
 rw [List.length_map, List.map_take, List.map_drop]
theorem cs3 {α : Type} (xs : List α) (lo hi : Option Int) : (fZ xs lo hi).length ≤ xs.length := by
 unfold fZ
 rw [List.length_take, List.length_drop]
 omega
theorem vK {f : Fm} (g : Gd f) {ss : List Sd} (h : ss.length ≤ 100) : (tG f ss).length ≤ 1000 := by
 unfold tG
 have := rY ss ss.length
 have := vD f f.names.length
 have := g.n8
 rw [List.length_append]
 omega
theorem bx6 {f : Fm} (g : Gd f) {ss : List Sd} (h : ∀ s ∈ ss, SdOk f s) (hl : ss.length ≤ 100) (x y : Option T) : ax8 [x, some (fU true f), y, some (.lst true (ss.map (gU false))), some (cT true f), some (.lst true (ss.map (gT false f))), none, none, none, none] = .rt (.bl true) := by
 unfold ax8
 have k1 := zX g h (by omega)
 have k2 := vS g h (by omega)
 have hr : ∀ s ∈ ss.reverse, SdOk f s := fun s hs => h s (List.mem_reverse.mp hs)
 have k3 := zX g hr (by simp; omega)
 have k4 := vS g hr (by simp; omega)
 have k5 := vS g (ss := []) dJ (by decide)
 rw [List.map_reverse] at k3 k4
 have a1 := yD f ss
 have a2 := yD f ss.reverse
 have a3 := yD f []
 have s1 := wB a1 (by have := vK g hl; omega)
 have s2 := wB a2 (by have := vK g (ss := ss.reverse) (by simpa using hl); omega)
 have s3 := wB a3 (by have := vK g (ss := []) (by decide); omega)
 have c1 := tK a1
 have c2 := tK a2
 have c3 := tK a3
 have z1 := zJ a1
 have z2 := zJ a2
 have z3 := zJ a3
 have n1 := yE a1
 have fm := bn7 true f
 have ar := iO true f
 have f2 := db5 true f
 have zs := sB (f := f) false h
 have zr : frzs (ss.map (gU false)).reverse = (ss.map (gU false)).reverse := by rw [← List.map_reverse]; exact sB (f := f) false hr
 have ns := rH h
 have zo := wJ false f ss
 have zor : frzs (ss.map (gT false f)).reverse = (ss.map (gT false f)).reverse := by rw [← List.map_reverse]; exact wJ false f ss.reverse
 have no := wO f ss
 have e0 : (!((ss.length : Int) == (ss.length : Int))) = false := by simp
 have la := vK g hl
 have lb : (tG f ss).length ≤ 100000 := by omega
 have al : fZ (tG f ss) (some (0 - 2 * (f.names.length : Int))) none = tG f [] := by
  have hs := vD f f.names.length
  have hn := g.n1
  have e1 : (tG f ss).length = (mM ss ss.length).length + 2 * f.names.length := by unfold tG; rw [List.length_append, hs]
  rw [show (0 - 2 * (f.names.length : Int)) = 0 - ((2 * f.names.length : Nat) : Int) by omega, co4 _ _ (by omega) (by omega), e1, Nat.add_sub_cancel]
  unfold tG
  rw [List.drop_left]
  simp [mM]
 simp only [List.map_nil] at k5
 clear h hr a1 a2 a3 la hl g
 walk_at "ev"
theorem main (ns : List Int) (h63 : ns.length ≤ 63) (hb : ∀ n ∈ ns, Builtin.Int.intBits n ≤ 1048576) : am7 [.lst false (ns.map .int)] = .ok (.bl true) := by
 unfold am7
 rw [co0]
 obtain ⟨f, hf, g⟩ := cd3 ns
 have ec : eD [.lst false (ns.map .int), .int 1] = .ok (.int (ns.getD 1 0)) := ba7 false ns 1
 obtain ⟨hid, hh, hl, hhb⟩ := cc0 (ns.getD 1 0 / 32) g
 have ct := ch5 T.int ns (some 2) (some 18)
 have ctl := cs3 ns (some 2) (some 18)
 obtain ⟨ss, hs, sl, sok⟩ := bm5 g (fZ ns (some 2) (some 18)) (by omega) (ns.getD 1 0 % 2 == 1) hid hl hhb
 have ka := ap6 g
 have kh := cq8 sok (by omega)
 have fm := bn7 true f
 have cf := bk9 f
 have ar := iO true f
 have ca := am8 f
 have zs := sB (f := f) true sok
 have zs0 := sB (f := f) false sok
 have cs := al2 sok
 have co := bx2 f ss
 have zo := wJ true f ss
 have ns1 := rH sok
 have no := wO f ss
 have tl := bx6 g sok (by omega)
 have nn := mQ ns
 by_cases cA : (0 < ss.length ∧ ss.length < 16) ∧ ns.getD 1 0 / 2 % 8 = 3
 · have t1 : decide (0 < (ss.length : Int)) = true := decide_eq_true (by omega)
   have t2 : decide ((ss.length : Int) < 16) = true := decide_eq_true (by omega)
   have t3 : (ns.getD 1 0 / 2 % 8 == 3) = true := by rw [cA.2]; rfl
   obtain ⟨s0, r, hss⟩ : ∃ s0 r, ss = s0 :: r := by
    cases ss with
    | nil => simp at cA
    | cons s0 r => exact ⟨s0, r, rfl⟩
   have sok2 : ∀ s ∈ ss ++ [s0], SdOk f s := fun s h => (List.mem_append.mp h).elim (sok s) (fun q => by rw [List.mem_singleton.mp q]; exact sok s0 (by rw [hss]; simp))
   have tl2 := bx6 g sok2 (by simp; omega)
   rw [List.map_append, List.map_append] at tl2
   have a1 : atI (ss.map (gU false)) 0 = some (gU false s0) := by rw [hss]; exact jS _ _
   have a2 : atI (ss.map (gT false f)) 0 = some (gT false f s0) := by rw [hss]; exact jS _ _
   have o1 := av9 (sok s0 (by rw [hss]; simp))
   have o2 := ar9 f s0
   have ll : ss.length ≤ 100000 := by omega
   simp only [List.map_cons, List.map_nil] at tl2
   clear cA hss sok sok2 hb sl ctl tl hl hhb g
   walk_at "ev"
 · have tC : decide (0 < (ss.length : Int)) = false ∨ (decide (0 < (ss.length : Int)) = true ∧ (decide ((ss.length : Int) < 16) = false ∨ (decide ((ss.length : Int) < 16) = true ∧ (ns.getD 1 0 / 2 % 8 == 3) = false))) := by
    by_cases q1 : 0 < ss.length
    · by_cases q2 : ss.length < 16
      · exact .inr ⟨decide_eq_true (by omega), .inr ⟨decide_eq_true (by omega), beq_eq_false_iff_ne.mpr fun q => cA ⟨⟨q1, q2⟩, q⟩⟩⟩
      · exact .inr ⟨decide_eq_true (by omega), .inl (decide_eq_false (by omega))⟩
    · exact .inl (decide_eq_false (by omega))
   clear cA sok hb sl ctl hl hhb g
   rcases tC with t1 | ⟨t1, t2 | ⟨t2, t3⟩⟩
   · walk_at "ev"
   · walk_at "ev"
   · walk_at "ev"
end Nk21
namespace PySem.W.Fast
def tw10052964011729730303 := 0
def tw10149074626379184544 := 0
def tw10158571231373879018 := 0
def tw10225516135905254287 := 0
def tw1022910771506821162 := 0
def tw10246653989229108730 := 0
def tw10318703796312147040 := 0
def tw10336283470565389700 := 0
def tw10449284809836978797 := 0
def tw10497306903932557425 := 0
def tw10531821558276618980 := 0
def tw10533421746347292121 := 0
def tw10543785901853450308 := 0
def tw10583940616426837397 := 0
def tw10604636330379727323 := 0
def tw10632364997051575871 := 0
def tw10638392201742091343 := 0
def tw10655337842730903272 := 0
def tw10685131781804178623 := 0
def tw10813831207125909913 := 0
def tw10829532490900838793 := 0
def tw10832493851216503164 := 0
def tw10865115137804798954 := 0
def tw10899022971606274397 := 0
def tw10901482881933288122 := 0
def tw10904636339166734321 := 0
def tw1091537151791185381 := 0
def tw10984770170088755163 := 0
def tw1101543249193242454 := 0
def tw11020248180814647942 := 0
def tw11071013868020568940 := 0
def tw11080359499390591624 := 0
def tw11131302230300149397 := 0
def tw11141456881368193679 := 0
def tw11205711739351462050 := 0
def tw11212175292438398198 := 0
def tw1122950436607087701 := 0
def tw11245012618609844264 := 0
def tw11246741593899750581 := 0
def tw11265754675422924262 := 0
def tw11300299886430411774 := 0
def tw11348324603549231089 := 0
def tw11353024635089632965 := 0
def tw11367702654486195877 := 0
def tw11403485873633986749 := 0
def tw11424498708909183515 := 0
def tw1143657285102276183 := 0
def tw11454713872980434220 := 0
def tw11528928765277343692 := 0
def tw1153605208504905214 := 0
def tw1156594060359497364 := 0
def tw11723091094729620750 := 0
def tw11766813334023356095 := 0
def tw11773205496008776202 := 0
def tw1180373684696407031 := 0
def tw11810888831781396535 := 0
def tw11840761033988404445 := 0
def tw11860459540001267242 := 0
def tw11895366686475535022 := 0
def tw11914079368942970383 := 0
def tw11932410251689122547 := 0
def tw11942509294604125783 := 0
def tw1202017387886099518 := 0
def tw12022916627044200492 := 0
def tw12046834083121076847 := 0
def tw12080395773896861410 := 0
def tw12119478267045660819 := 0
def tw12132491275611940569 := 0
def tw12152416578840408583 := 0
def tw12156044984361327715 := 0
def tw12164713464807031856 := 0
def tw12201914334785257131 := 0
def tw12216188559697723140 := 0
def tw12217675286657648437 := 0
def tw1226171627853576572 := 0
def tw12276643274262010226 := 0
def tw12287713873335510517 := 0
def tw12341606014456019583 := 0
def tw12380350233239656710 := 0
def tw12392434494320948071 := 0
def tw12469031804747822838 := 0
def tw1250307991487908745 := 0
def tw12504909476515837928 := 0
def tw12511468527538445657 := 0
def tw12517482531160555088 := 0
def tw12529382046659212176 := 0
def tw12592150354658581919 := 0
def tw12660735748346472961 := 0
def tw12716070274021826722 := 0
def tw12735501326996184157 := 0
def tw12748900230775571763 := 0
def tw12750181739773969 := 0
def tw1275091215266429544 := 0
def tw12756778442316753762 := 0
def tw12787236417815965000 := 0
def tw12820316208789745512 := 0
def tw12848262466196111545 := 0
def tw12884707581104198786 := 0
def tw12889031016729301242 := 0
def tw1291244273927658941 := 0
def tw12977068138428505310 := 0
def tw13006363551880263680 := 0
def tw13006979788512965779 := 0
def tw13023943843252528298 := 0
def tw13044563050149063847 := 0
def tw13079123784739610070 := 0
def tw13095078867771610793 := 0
def tw13129485779830112997 := 0
def tw13148116757311072415 := 0
def tw13160457647251226044 := 0
def tw13165219325295623424 := 0
def tw13198340220024308024 := 0
def tw13253315608321222250 := 0
def tw13390047622743870058 := 0
def tw1340927629616205894 := 0
def tw13410702263212712432 := 0
def tw1348844119899600466 := 0
def tw13552597984491393319 := 0
def tw13603216747654040308 := 0
def tw13662349388204082602 := 0
def tw13687736559815869467 := 0
def tw1372284619549582708 := 0
def tw1373353609253808787 := 0
def tw13738578749158785758 := 0
def tw13755574212115830108 := 0
def tw1380519439346605854 := 0
def tw13848225633117690304 := 0
def tw13852623190220031507 := 0
def tw13872760302663395562 := 0
def tw13898970601142941893 := 0
def tw13958241833356149776 := 0
def tw13981515264468641895 := 0
def tw14012223581789938365 := 0
def tw14046679109945374838 := 0
def tw1414359584990168537 := 0
def tw14147749713056749527 := 0
def tw1419180008999726577 := 0
def tw14284716639394022780 := 0
def tw14382532846077625340 := 0
def tw14392301986356194854 := 0
def tw14393394970803006563 := 0
def tw14395709325615883770 := 0
def tw14398181613720277579 := 0
def tw14404981751694969543 := 0
def tw14442461058151782422 := 0
def tw14451141522599081651 := 0
def tw14467988368532849683 := 0
def tw14468928656650678144 := 0
def tw14530750663229365217 := 0
def tw14542052204105153217 := 0
def tw14585379964138629543 := 0
def tw14612915046865305538 := 0
def tw14633795090852900867 := 0
def tw14636318701846653101 := 0
def tw14645544874095157967 := 0
def tw14649599785939363079 := 0
def tw14657346668856237941 := 0
def tw14723208587614094813 := 0
def tw14733906601985567141 := 0
def tw14750385012751201959 := 0
def tw14791027325585872567 := 0
def tw1481309531669602743 := 0
def tw14814890076226591751 := 0
def tw14848040062332997997 := 0
def tw14898016388150188319 := 0
def tw14935204171010161367 := 0
def tw1499411107158124709 := 0
def tw15016427269381013121 := 0
def tw1504192490222787625 := 0
def tw15088510043660885007 := 0
def tw15101154998436038933 := 0
def tw15111045851617524278 := 0
def tw15113691260094770012 := 0
def tw15119157174707939249 := 0
def tw15158859315425814942 := 0
def tw15226317245712483036 := 0
def tw15251370920098010456 := 0
def tw15287762050309647561 := 0
def tw1530669897523879971 := 0
def tw15325331138663320177 := 0
def tw15332101165241439760 := 0
def tw15375011649670154715 := 0
def tw15375318181928338563 := 0
def tw15393924873671160163 := 0
def tw15444990445099769520 := 0
def tw15509256993050691520 := 0
def tw1550985160060308838 := 0
def tw15539246638350898267 := 0
def tw15540119138758732326 := 0
def tw15569564355603159418 := 0
def tw15585579024555229173 := 0
def tw15595761303750080599 := 0
def tw1559631218340946457 := 0
def tw15605123683288281493 := 0
def tw15630131780510671545 := 0
def tw15709118283186017826 := 0
def tw15709702117738469132 := 0
def tw15725110634243106184 := 0
def tw15756466367909355125 := 0
def tw15760469867922822493 := 0
def tw157767031646691245 := 0
def tw15969895595256761723 := 0
def tw15972170818158223959 := 0
def tw15974638608863701934 := 0
def tw15986799970926845375 := 0
def tw16018534530774185776 := 0
def tw16022009493650105172 := 0
def tw16167271182905173381 := 0
def tw1617066887643469193 := 0
def tw16205307207753868926 := 0
def tw16210310627509507847 := 0
def tw1635202520192708565 := 0
def tw16457775264403345323 := 0
def tw16473321785987566925 := 0
def tw16484214298242826792 := 0
def tw16506864751213905459 := 0
def tw16585138738352060844 := 0
def tw16609430788384357791 := 0
def tw16628481402709409262 := 0
def tw16647678755248248084 := 0
def tw16649781119103188437 := 0
def tw16673940016576446334 := 0
def tw16728164805664480276 := 0
def tw16786812120502582833 := 0
def tw16789479077243274086 := 0
def tw16799753391446745757 := 0
def tw16876159839136281162 := 0
def tw16889297853990431629 := 0
def tw16894206803047312132 := 0
def tw16919247066570963420 := 0
def tw16963066345618130926 := 0
def tw17029194762665954 := 0
def tw17067232757239876760 := 0
def tw17105518247376365471 := 0
def tw17139472473947670999 := 0
def tw17144809373938304691 := 0
def tw1715377823772908629 := 0
def tw17160433665579890140 := 0
def tw17199326619896500820 := 0
def tw17236386305947844060 := 0
def tw17242934748894261589 := 0
def tw17250682444341377733 := 0
def tw17254829778513982243 := 0
def tw17296826415789576548 := 0
def tw17300653576729030619 := 0
def tw17302469314743288561 := 0
def tw17357024763659455346 := 0
def tw173730985380582956 := 0
def tw17389440370297557933 := 0
def tw17401637977477682702 := 0
def tw1742372841808356396 := 0
def tw17425277647792392963 := 0
def tw17442365990841424580 := 0
def tw17504274273195038542 := 0
def tw17521972523183844415 := 0
def tw17563960144133956766 := 0
def tw17571357426453578750 := 0
def tw17592057511289462736 := 0
def tw17604953223644206776 := 0
def tw1763423810248459006 := 0
def tw17673572764864149622 := 0
def tw17704034990618332949 := 0
def tw17705022421850296772 := 0
def tw17794215033300864483 := 0
def tw17797561974766095102 := 0
def tw17797675000485447812 := 0
def tw17815973620981961445 := 0
def tw17958942143333476698 := 0
def tw1796782643145660044 := 0
def tw17969040329357294511 := 0
def tw17987240491664849977 := 0
def tw17998260106587421676 := 0
def tw18004501627399138438 := 0
def tw18014447779225127167 := 0
def tw18040139772515977849 := 0
def tw1811340110091806460 := 0
def tw1815067939769940816 := 0
def tw18192878200251475845 := 0
def tw18228543603273096569 := 0
def tw18273198658080853394 := 0
def tw18277876931743168647 := 0
def tw18293345482073079278 := 0
def tw18325107900984466513 := 0
def tw18334698480931497814 := 0
def tw18347126763302190985 := 0
def tw18387859658009149522 := 0
def tw18409233076798649595 := 0
def tw1861790702761866234 := 0
def tw1928265515891900596 := 0
def tw1930803934060184463 := 0
def tw1949618572121779319 := 0
def tw1971234225353635980 := 0
def tw1979679214320576576 := 0
def tw2028213134059713645 := 0
def tw2048529718681150501 := 0
def tw2061514241953538618 := 0
def tw2104620331353323436 := 0
def tw2136407319561263405 := 0
def tw2150507597388817475 := 0
def tw2159764088044618594 := 0
def tw218892555269937106 := 0
def tw2212792917546799644 := 0
def tw2407476410882723969 := 0
def tw243584462237345936 := 0
def tw2449181760642645226 := 0
def tw2488429500536114150 := 0
def tw2490865096519146704 := 0
def tw2510304730424683340 := 0
def tw2590504529444223795 := 0
def tw2597108890389321438 := 0
def tw2632611337283836532 := 0
def tw2642247952026620678 := 0
def tw2683358330522046615 := 0
def tw2684980119569102859 := 0
def tw2694719289835710448 := 0
def tw2714344904791503083 := 0
def tw272659244543122718 := 0
def tw2764082626101765501 := 0
def tw2795205577710191606 := 0
def tw2817725190182044350 := 0
def tw2836189992037475271 := 0
def tw2891029560735282968 := 0
def tw2896644953011976159 := 0
def tw2934108480701728887 := 0
def tw3098647953550740803 := 0
def tw3128343967447936751 := 0
def tw3180803626923213629 := 0
def tw3259556619771307588 := 0
def tw3302377639660460411 := 0
def tw3315691979174571205 := 0
def tw333599240391006480 := 0
def tw3371958231197288230 := 0
def tw3374919153297325727 := 0
def tw3379759352852280950 := 0
def tw3379934815445763845 := 0
def tw3385711353190635937 := 0
def tw3389646159930029832 := 0
def tw3393910265748347330 := 0
def tw3422264747607576851 := 0
def tw3434476037642829010 := 0
def tw3510054025195928588 := 0
def tw3553958069936136623 := 0
def tw3596220096774746599 := 0
def tw3635918797282004238 := 0
def tw3644325575312604613 := 0
def tw3647345142285114526 := 0
def tw3658400834157809441 := 0
def tw3660824679071657368 := 0
def tw3737931194536441687 := 0
def tw3737994605081476682 := 0
def tw3766027642515650744 := 0
def tw3790760855906753586 := 0
def tw3828413381598038264 := 0
def tw3829972838895844416 := 0
def tw3876698790522129118 := 0
def tw3878510265440378827 := 0
def tw3902469048769369944 := 0
def tw3919592731686962922 := 0
def tw3969280828851849203 := 0
def tw3985279313880593357 := 0
def tw4003473074268234497 := 0
def tw4005789445134171902 := 0
def tw4010823605682262816 := 0
def tw4056650220309126897 := 0
def tw412395270423994044 := 0
def tw4352861459716373031 := 0
def tw4353511064464629136 := 0
def tw4376062955497175577 := 0
def tw4426118871214694495 := 0
def tw4427067962673436880 := 0
def tw4428140190263569503 := 0
def tw4440874299146600960 := 0
def tw4468136959768436085 := 0
def tw4474295599403418660 := 0
def tw4529354552277422646 := 0
def tw4529431580240362723 := 0
def tw4552901388900507179 := 0
def tw4567452903102980569 := 0
def tw4632831233276696425 := 0
def tw4819845344993245697 := 0
def tw4836735043277776622 := 0
def tw4957923000342609068 := 0
def tw5027654091572397751 := 0
def tw5090804661965595914 := 0
def tw5097069510317291871 := 0
def tw513448769976724646 := 0
def tw5140609849102436482 := 0
def tw5170533839147356948 := 0
def tw5179349404025586587 := 0
def tw5183398585316960553 := 0
def tw520927763150084308 := 0
def tw5243084440610046662 := 0
def tw529717621926256206 := 0
def tw530662282167031606 := 0
def tw5321619729121586957 := 0
def tw5339360036029658579 := 0
def tw5341989207025648063 := 0
def tw5362694897623832491 := 0
def tw5382171795890907210 := 0
def tw5496592175459387951 := 0
def tw5577160521772877711 := 0
def tw572350032989565267 := 0
def tw573491266489395281 := 0
def tw5761218514727303565 := 0
def tw5891173691313128691 := 0
def tw5938119357745853674 := 0
def tw5939974527111513478 := 0
def tw5957671337889120537 := 0
def tw5976236172501910379 := 0
def tw598555690218498817 := 0
def tw5996615063114998897 := 0
def tw6006224182766271355 := 0
def tw6062056079842851919 := 0
def tw6075318578774402486 := 0
def tw6077021142225750011 := 0
def tw6080435146006125574 := 0
def tw6170519354609424491 := 0
def tw6185221783101968848 := 0
def tw6190993117559069307 := 0
def tw6201924886263487864 := 0
def tw6251594107673863761 := 0
def tw6275717088314095827 := 0
def tw6279999831188378656 := 0
def tw6311042693905465080 := 0
def tw6311743435838059400 := 0
def tw6334586902603139613 := 0
def tw6352662006435062945 := 0
def tw637128168068705985 := 0
def tw6384240486524394075 := 0
def tw6389403301662713836 := 0
def tw6406265353155223456 := 0
def tw642600183925291375 := 0
def tw6428913967668298041 := 0
def tw6539673245916812662 := 0
def tw6569153049545376961 := 0
def tw6594537689968893773 := 0
def tw6614544627821513808 := 0
def tw6775045984896711385 := 0
def tw6890674318253706468 := 0
def tw6925081007569463627 := 0
def tw6941455241985731497 := 0
def tw6958490578772113214 := 0
def tw69901426719549317 := 0
def tw6992129977213055227 := 0
def tw7044085386843705234 := 0
def tw7069521671726315539 := 0
def tw712566703408243197 := 0
def tw7180396858106702447 := 0
def tw7215738033812598778 := 0
def tw7216753240359616741 := 0
def tw722861868458728535 := 0
def tw7234584745660169603 := 0
def tw7252897364967926017 := 0
def tw7307349442583266430 := 0
def tw7314023608661246795 := 0
def tw7324373025511465164 := 0
def tw7343841842855693718 := 0
def tw7384422165590180979 := 0
def tw739035769312925855 := 0
def tw7398391361855164887 := 0
def tw7405189751950798585 := 0
def tw7412552685286932225 := 0
def tw7449174225668190261 := 0
def tw7463754775317275792 := 0
def tw7519524813641375154 := 0
def tw7541290299991345755 := 0
def tw761600821701203573 := 0
def tw7617916453534199629 := 0
def tw7640291833694259856 := 0
def tw7645487256475349339 := 0
def tw7767199241756955763 := 0
def tw7769018950718415371 := 0
def tw7798770451513296983 := 0
def tw7818426181834427382 := 0
def tw7922486266463709767 := 0
def tw7944754790981989994 := 0
def tw8044399202014418341 := 0
def tw8064465536541582148 := 0
def tw8177896853640043368 := 0
def tw817856844559229027 := 0
def tw8205384746043251469 := 0
def tw8239165780773476694 := 0
def tw8246438020056585875 := 0
def tw8342480780978935562 := 0
def tw8346163263891302915 := 0
def tw835082040345389683 := 0
def tw8359457607866210387 := 0
def tw839801680272080663 := 0
def tw8486790850202863189 := 0
def tw8535973923749178604 := 0
def tw8561977995357784317 := 0
def tw8568426334653334997 := 0
def tw8583640579429141318 := 0
def tw8606549718839343074 := 0
def tw8633567541594979508 := 0
def tw8649508822776652711 := 0
def tw8675815449984103970 := 0
def tw8845080218934498642 := 0
def tw8905850746665327873 := 0
def tw893359823888818415 := 0
def tw8950712230263831178 := 0
def tw8955735990982757767 := 0
def tw9008350016564025838 := 0
def tw9032577807215453915 := 0
def tw910432925133420537 := 0
def tw9128728320411581903 := 0
def tw9160074210278664928 := 0
def tw9200548292608596016 := 0
def tw9244302129234286919 := 0
def tw9290347585031537935 := 0
def tw9410387018668275491 := 0
def tw9512789563009716000 := 0
def tw9522471529173388990 := 0
def tw9567391418989982205 := 0
def tw9585861905116824158 := 0
def tw9602592902303861904 := 0
def tw960633216464592924 := 0
def tw9617272943122720961 := 0
def tw9635115970554472687 := 0
def tw967314856531398181 := 0
def tw9697081012482407850 := 0
def tw9797950693321531343 := 0
def tw9811543146152089273 := 0
def tw9823508198002720600 := 0
def tw9911086872774069808 := 0
def tw9929558499890067515 := 0
def tw9982015844770419475 := 0
def tw9985614482528059350 := 0
end PySem.W.Fast
open PySem PySem.W PyProof.Rows
set_option maxRecDepth 100000 in
set_option maxHeartbeats 0 in
theorem PySem.Challenge.cw_inkyears_k21_steps_of_a_heap_holds : PySem.Challenge.rw_inkyears_k21_steps_of_a_heap.Holds := by
 w_on; o_law; k_head; (case hw => w_witness2)
 k_fill
 refine L2.ch0 (l := PySem.Challenge.rw_inkyears_k21_steps_of_a_heap) (k := 8) (x := "_law_script") rfl rfl ⟨rfl, by decide, by decide⟩ (fun w h Y => PySem.W.kIn_of Y) ?F
 case F =>
  intro w mg fa h KX G hmg
  refine' Nk21.cp8 (cn := fun x => [(("Archive" : Str), ?c_Archive), (("Ink" : Str), ?c_Ink), (("Reign" : Str), ?c_Reign), (("Under" : Str), ?c_Under), (("Between" : Str), ?c_Between), (("After" : Str), ?c_After), (("Same" : Str), ?c_Same), (("Within" : Str), ?c_Within), (("Apart" : Str), ?c_Apart)].lookup x) (c_Archive := ?c_Archive) (c_Ink := ?c_Ink) (c_Reign := ?c_Reign) (c_Under := ?c_Under) (c_Between := ?c_Between) (c_After := ?c_After) (c_Same := ?c_Same) (c_Within := ?c_Within) (c_Apart := ?c_Apart) KX G hmg ?a0 ?l0 ?c0 ?k0 ⟨?T0, ?T1, ?T2, ?T3, ?T4, ?T5, ?T6, ?T7, ?T8, ?T9, ?T10, ?T11, ?T12, ?T13, ?T14, ?T15, ?T16, ?T17, ?T18, ?T19, ?T20, ?T21, ?T22, ?T23, ?T24, ?T25, ?T26, ?T27, ?T28, ?T29, ?T30, ?T31, ?T32, ?T33, ?T34, ?T35, ?T36, ?T37, ?T38, ?T39, ?T40, ?T41, ?T42, ?T43, ?T44, ?T45, ?T46, ?T47, ?T48, ?T49, ?T50, ?T51, ?T52, ?T53, ?T54, ?T55, ?T56, ?T57, ?T58, ?T59, ?T60, ?T61, ?T62, ?T63, ?T64, ?T65, ?T66, ?T67, ?T68, ?T69, ?T70, ?T71, ?T72, ?T73, ?T74, ?T75, ?T76, ?T77, ?T78, ?T79, ?T80, ?T81, ?T82, ?T83, ?T84, ?T85, ?T86⟩ ?t0 ?t1 ?t2 ?t3 ?t4 ?t5 ?t6 ?t7 ?t8 ?t9 ?t10 ?t11 ?t12 ?t13 ?t14 ?t15 ?t16 ?t17 ?t18 ?t19 ?t20 ?t21 ?t22 ?t23 ?t24 ?t25 ?t26 ?t27 ?t28 ?t29 ?t30 ?t31 ?t32 ?t33 ?t34 ?t35 ?t36 ?t37 ?t38 ?t39 ?t40 ?t41 ?t42 ?t43 ?t44 ?t45 ?t46 ?t47 ?t48 ?t49 ?t50 ?t51 ?t52 ?t53 ?t54 ?t55 ?t56 ?t57 ?t58 ?t59 ?t60 ?t61 ?t62 ?t63 ?t64 ?t65 ?t66 ?t67 ?t68 ?t69 ?t70 ?t71 ?t72 ?t73 ?t74 ?t75 ?t76 Nk21.main
  (case a0 => k_is); (case l0 => k_is); (case c0 => k_is); (case k0 => k_is)
  case t0 => (refine' L2.cL KX G ?a ?l ?c ?k; (case a => k_is); (case l => k_is); (case c => k_is); (case k => k_is))
  case t1 => (refine' L2.cL KX G ?a ?l ?c ?k; (case a => k_is); (case l => k_is); (case c => k_is); (case k => k_is))
  case t2 => (refine' L2.cL KX G ?a ?l ?c ?k; (case a => k_is); (case l => k_is); (case c => k_is); (case k => k_is))
  case t3 => (refine' L2.cL KX G ?a ?l ?c ?k; (case a => k_is); (case l => k_is); (case c => k_is); (case k => k_is))
  case t4 => (refine' L2.cL KX G ?a ?l ?c ?k; (case a => k_is); (case l => k_is); (case c => k_is); (case k => k_is))
  case t5 => (refine' L2.cL KX G ?a ?l ?c ?k; (case a => k_is); (case l => k_is); (case c => k_is); (case k => k_is))
  case t6 => (refine' L2.cL KX G ?a ?l ?c ?k; (case a => k_is); (case l => k_is); (case c => k_is); (case k => k_is))
  case t7 => (refine' L2.cL KX G ?a ?l ?c ?k; (case a => k_is); (case l => k_is); (case c => k_is); (case k => k_is))
  case t8 => (refine' L2.cL KX G ?a ?l ?c ?k; (case a => k_is); (case l => k_is); (case c => k_is); (case k => k_is))
  case t9 => (refine' L2.cL KX G ?a ?l ?c ?k; (case a => k_is); (case l => k_is); (case c => k_is); (case k => k_is))
  case t10 => (refine' L2.cL KX G ?a ?l ?c ?k; (case a => k_is); (case l => k_is); (case c => k_is); (case k => k_is))
  case t11 => (refine' L2.cL KX G ?a ?l ?c ?k; (case a => k_is); (case l => k_is); (case c => k_is); (case k => k_is))
  case t12 => (refine' L2.cL KX G ?a ?l ?c ?k; (case a => k_is); (case l => k_is); (case c => k_is); (case k => k_is))
  case t13 => (refine' L2.cL KX G ?a ?l ?c ?k; (case a => k_is); (case l => k_is); (case c => k_is); (case k => k_is))
  case t14 => (refine' L2.cL KX G ?a ?l ?c ?k; (case a => k_is); (case l => k_is); (case c => k_is); (case k => k_is))
  case t15 => (refine' L2.cL KX G ?a ?l ?c ?k; (case a => k_is); (case l => k_is); (case c => k_is); (case k => k_is))
  case t16 => (refine' L2.cL KX G ?a ?l ?c ?k; (case a => k_is); (case l => k_is); (case c => k_is); (case k => k_is))
  case t17 => (refine' L2.cL KX G ?a ?l ?c ?k; (case a => k_is); (case l => k_is); (case c => k_is); (case k => k_is))
  case t18 => (refine' L2.cL KX G ?a ?l ?c ?k; (case a => k_is); (case l => k_is); (case c => k_is); (case k => k_is))
  case t19 => (refine' L2.cL KX G ?a ?l ?c ?k; (case a => k_is); (case l => k_is); (case c => k_is); (case k => k_is))
  case t20 => (refine' L2.cL KX G ?a ?l ?c ?k; (case a => k_is); (case l => k_is); (case c => k_is); (case k => k_is))
  case t21 => (refine' L2.cL KX G ?a ?l ?c ?k; (case a => k_is); (case l => k_is); (case c => k_is); (case k => k_is))
  case t22 => (refine' L2.cL KX G ?a ?l ?c ?k; (case a => k_is); (case l => k_is); (case c => k_is); (case k => k_is))
  case t23 => (refine' L2.cL KX G ?a ?l ?c ?k; (case a => k_is); (case l => k_is); (case c => k_is); (case k => k_is))
  case t24 => (refine' L2.cL KX G ?a ?l ?c ?k; (case a => k_is); (case l => k_is); (case c => k_is); (case k => k_is))
  case t25 => (refine' L2.cL KX G ?a ?l ?c ?k; (case a => k_is); (case l => k_is); (case c => k_is); (case k => k_is))
  case t26 => (refine' L2.cL KX G ?a ?l ?c ?k; (case a => k_is); (case l => k_is); (case c => k_is); (case k => k_is))
  case t27 => (refine' L2.cL KX G ?a ?l ?c ?k; (case a => k_is); (case l => k_is); (case c => k_is); (case k => k_is))
  case t28 => (refine' L2.cL KX G ?a ?l ?c ?k; (case a => k_is); (case l => k_is); (case c => k_is); (case k => k_is))
  case t29 => (refine' L2.cL KX G ?a ?l ?c ?k; (case a => k_is); (case l => k_is); (case c => k_is); (case k => k_is))
  case t30 => (refine' L2.cL KX G ?a ?l ?c ?k; (case a => k_is); (case l => k_is); (case c => k_is); (case k => k_is))
  case t31 => (refine' L2.cL KX G ?a ?l ?c ?k; (case a => k_is); (case l => k_is); (case c => k_is); (case k => k_is))
  case t32 => (refine' L2.cL KX G ?a ?l ?c ?k; (case a => k_is); (case l => k_is); (case c => k_is); (case k => k_is))
  case t33 => (refine' L2.cL KX G ?a ?l ?c ?k; (case a => k_is); (case l => k_is); (case c => k_is); (case k => k_is))
  case t34 => (refine' L2.cL KX G ?a ?l ?c ?k; (case a => k_is); (case l => k_is); (case c => k_is); (case k => k_is))
  case t35 => (refine' L2.cL KX G ?a ?l ?c ?k; (case a => k_is); (case l => k_is); (case c => k_is); (case k => k_is))
  case t36 => (refine' L2.cL KX G ?a ?l ?c ?k; (case a => k_is); (case l => k_is); (case c => k_is); (case k => k_is))
  case t37 => (refine' L2.cL KX G ?a ?l ?c ?k; (case a => k_is); (case l => k_is); (case c => k_is); (case k => k_is))
  case t38 => (refine' L2.cL KX G ?a ?l ?c ?k; (case a => k_is); (case l => k_is); (case c => k_is); (case k => k_is))
  case t39 => (refine' L2.cL KX G ?a ?l ?c ?k; (case a => k_is); (case l => k_is); (case c => k_is); (case k => k_is))
  case t40 => (refine' L2.cL KX G ?a ?l ?c ?k; (case a => k_is); (case l => k_is); (case c => k_is); (case k => k_is))
  case t41 => (refine' L2.cL KX G ?a ?l ?c ?k; (case a => k_is); (case l => k_is); (case c => k_is); (case k => k_is))
  case t42 => (refine' L2.lU KX G ?g ?mk ?a ?b ?kc ?l ?c ?k; (case g => k_is); (case mk => k_is); (case a => k_is); (case b => k_is); (case kc => k_is); (case l => k_is); (case c => k_is); (case k => k_is))
  case t43 => (refine' L2.lU KX G ?g ?mk ?a ?b ?kc ?l ?c ?k; (case g => k_is); (case mk => k_is); (case a => k_is); (case b => k_is); (case kc => k_is); (case l => k_is); (case c => k_is); (case k => k_is))
  case t44 => (refine' L2.lU KX G ?g ?mk ?a ?b ?kc ?l ?c ?k; (case g => k_is); (case mk => k_is); (case a => k_is); (case b => k_is); (case kc => k_is); (case l => k_is); (case c => k_is); (case k => k_is))
  case t45 => (refine' L2.lU KX G ?g ?mk ?a ?b ?kc ?l ?c ?k; (case g => k_is); (case mk => k_is); (case a => k_is); (case b => k_is); (case kc => k_is); (case l => k_is); (case c => k_is); (case k => k_is))
  case t46 => (refine' L2.lU KX G ?g ?mk ?a ?b ?kc ?l ?c ?k; (case g => k_is); (case mk => k_is); (case a => k_is); (case b => k_is); (case kc => k_is); (case l => k_is); (case c => k_is); (case k => k_is))
  case t47 => (refine' L2.lU KX G ?g ?mk ?a ?b ?kc ?l ?c ?k; (case g => k_is); (case mk => k_is); (case a => k_is); (case b => k_is); (case kc => k_is); (case l => k_is); (case c => k_is); (case k => k_is))
  case t48 => (refine' L2.lU KX G ?g ?mk ?a ?b ?kc ?l ?c ?k; (case g => k_is); (case mk => k_is); (case a => k_is); (case b => k_is); (case kc => k_is); (case l => k_is); (case c => k_is); (case k => k_is))
  case t49 => (refine' L2.lU KX G ?g ?mk ?a ?b ?kc ?l ?c ?k; (case g => k_is); (case mk => k_is); (case a => k_is); (case b => k_is); (case kc => k_is); (case l => k_is); (case c => k_is); (case k => k_is))
  case t50 => (refine' L2.lU KX G ?g ?mk ?a ?b ?kc ?l ?c ?k; (case g => k_is); (case mk => k_is); (case a => k_is); (case b => k_is); (case kc => k_is); (case l => k_is); (case c => k_is); (case k => k_is))
  case t51 => (refine' L2.eZ ?a ?b ?l ?c ?k; (case a => k_is); (case b => k_is); (case l => k_is); (case c => k_is); (case k => k_is))
  case t52 => (refine' L2.eZ ?a ?b ?l ?c ?k; (case a => k_is); (case b => k_is); (case l => k_is); (case c => k_is); (case k => k_is))
  case t53 => (refine' L2.eZ ?a ?b ?l ?c ?k; (case a => k_is); (case b => k_is); (case l => k_is); (case c => k_is); (case k => k_is))
  case t54 => (refine' L2.eZ ?a ?b ?l ?c ?k; (case a => k_is); (case b => k_is); (case l => k_is); (case c => k_is); (case k => k_is))
  case t55 => (refine' L2.eZ ?a ?b ?l ?c ?k; (case a => k_is); (case b => k_is); (case l => k_is); (case c => k_is); (case k => k_is))
  case t56 => (refine' L2.eZ ?a ?b ?l ?c ?k; (case a => k_is); (case b => k_is); (case l => k_is); (case c => k_is); (case k => k_is))
  case t57 => (refine' L2.eZ ?a ?b ?l ?c ?k; (case a => k_is); (case b => k_is); (case l => k_is); (case c => k_is); (case k => k_is))
  case t58 => (refine' L2.eZ ?a ?b ?l ?c ?k; (case a => k_is); (case b => k_is); (case l => k_is); (case c => k_is); (case k => k_is))
  case t59 => (refine' L2.eZ ?a ?b ?l ?c ?k; (case a => k_is); (case b => k_is); (case l => k_is); (case c => k_is); (case k => k_is))
  case t60 => (refine' L2.eZ ?a ?b ?l ?c ?k; (case a => k_is); (case b => k_is); (case l => k_is); (case c => k_is); (case k => k_is))
  case t61 => (refine' L2.eZ ?a ?b ?l ?c ?k; (case a => k_is); (case b => k_is); (case l => k_is); (case c => k_is); (case k => k_is))
  case t62 => (refine' L2.eZ ?a ?b ?l ?c ?k; (case a => k_is); (case b => k_is); (case l => k_is); (case c => k_is); (case k => k_is))
  case t63 => (refine' L2.eZ ?a ?b ?l ?c ?k; (case a => k_is); (case b => k_is); (case l => k_is); (case c => k_is); (case k => k_is))
  case t64 => (refine' L2.eZ ?a ?b ?l ?c ?k; (case a => k_is); (case b => k_is); (case l => k_is); (case c => k_is); (case k => k_is))
  case t65 => (refine' L2.eZ ?a ?b ?l ?c ?k; (case a => k_is); (case b => k_is); (case l => k_is); (case c => k_is); (case k => k_is))
  case t66 => (refine' L2.eZ ?a ?b ?l ?c ?k; (case a => k_is); (case b => k_is); (case l => k_is); (case c => k_is); (case k => k_is))
  case t67 => (refine' L2.eZ ?a ?b ?l ?c ?k; (case a => k_is); (case b => k_is); (case l => k_is); (case c => k_is); (case k => k_is))
  case t68 => (refine' L2.al4 KX G ?g ?l ?r ?nd ?sm; (case g => k_is); (case l => k_is); (case r => exact .cons (.cons (.cons (.cons (.cons (.cons (.cons (.cons (.nil))))))))); (case nd => decide +kernel); (case sm => rfl))
  case t69 => exact L2.tL KX G (by k_is) rfl
  case t70 => exact L2.tL KX G (by k_is) rfl
  case t71 => exact L2.tL KX G (by k_is) rfl
  case t72 => exact L2.tL KX G (by k_is) rfl
  case t73 => exact L2.tL KX G (by k_is) rfl
  case t74 => exact L2.tL KX G (by k_is) rfl
  case t75 => exact L2.tL KX G (by k_is) rfl
  case t76 => exact L2.tL KX G (by k_is) rfl
  case T0 => exact PySem.W.mg_none_of KX G (by k_is)
  case T1 => exact PySem.W.mg_none_of KX G (by k_is)
  case T2 => exact PySem.W.mg_none_of KX G (by k_is)
  case T3 => exact PySem.W.mg_none_of KX G (by k_is)
  case T4 => exact PySem.W.mg_none_of KX G (by k_is)
  case T5 => exact PySem.W.mg_none_of KX G (by k_is)
  case T6 => exact PySem.W.mg_none_of KX G (by k_is)
  case T7 => exact PySem.W.mg_none_of KX G (by k_is)
  case T8 => exact PySem.W.mg_none_of KX G (by k_is)
  case T9 => exact PySem.W.mg_none_of KX G (by k_is)
  case T10 => exact PySem.W.mg_none_of KX G (by k_is)
  case T11 => exact PySem.W.mg_none_of KX G (by k_is)
  case T12 => exact PySem.W.mg_none_of KX G (by k_is)
  case T13 => exact PySem.W.mg_none_of KX G (by k_is)
  case T14 => exact PySem.W.mg_none_of KX G (by k_is)
  case T15 => exact PySem.W.mg_none_of KX G (by k_is)
  case T16 => exact PySem.W.mg_none_of KX G (by k_is)
  case T17 => (refine' L2.lD KX G ?a ?r; (case a => k_is); (case r => exact ⟨_, rfl⟩))
  case T18 => (refine' L2.lD KX G ?a ?r; (case a => k_is); (case r => exact ⟨_, rfl⟩))
  case T19 => (refine' L2.lD KX G ?a ?r; (case a => k_is); (case r => exact ⟨_, rfl⟩))
  case T20 => (refine' L2.lD KX G ?a ?r; (case a => k_is); (case r => exact ⟨_, rfl⟩))
  case T21 => (refine' L2.lD KX G ?a ?r; (case a => k_is); (case r => exact ⟨_, rfl⟩))
  case T22 => (refine' L2.lD KX G ?a ?r; (case a => k_is); (case r => exact ⟨_, rfl⟩))
  case T23 => (refine' L2.lD KX G ?a ?r; (case a => k_is); (case r => exact ⟨_, rfl⟩))
  case T24 => (refine' L2.lD KX G ?a ?r; (case a => k_is); (case r => exact ⟨_, rfl⟩))
  case T25 => (refine' L2.lD KX G ?a ?r; (case a => k_is); (case r => exact ⟨_, rfl⟩))
  case T26 => (refine' L2.lD KX G ?a ?r; (case a => k_is); (case r => exact ⟨_, rfl⟩))
  case T27 => (refine' L2.lD KX G ?a ?r; (case a => k_is); (case r => exact ⟨_, rfl⟩))
  case T28 => (refine' L2.al4 KX G ?g ?l ?r ?nd ?sm; (case g => k_is); (case l => k_is); (case r => exact .cons (.cons (.cons (.cons (.cons (.nil)))))); (case nd => decide +kernel); (case sm => rfl))
  case T29 => exact .cons (TL.jK (by k_is) (.int (.int .nil)) (by decide)) (.cons (TL.jK (by k_is) (.int (.int .nil)) (by decide)) (.cons (TL.jK (by k_is) (.int (.int .nil)) (by decide)) (.cons (TL.jK (by k_is) (.int (.int .nil)) (by decide)) (.cons (TL.jK (by k_is) (.int (.int .nil)) (by decide)) (.nil)))))
  case T30 => (refine' L2.al4 KX G ?g ?l ?r ?nd ?sm; (case g => k_is); (case l => k_is); (case r => exact .cons (.cons (.cons (.cons (.cons (.cons (.cons (.cons (.nil))))))))); (case nd => decide +kernel); (case sm => rfl))
  case T31 => exact .cons (TL.jK (by k_is) (.str (.str (.str (.str .nil)))) (by decide)) (.cons (TL.jK (by k_is) (.str (.str (.str .nil))) (by decide)) (.cons (TL.jK (by k_is) (.str (.str .nil)) (by decide)) (.cons (TL.jK (by k_is) (.str (.str (.str .nil))) (by decide)) (.cons (TL.jK (by k_is) (.str (.str .nil)) (by decide)) (.cons (TL.jK (by k_is) (.str (.str .nil)) (by decide)) (.cons (TL.jK (by k_is) (.str (.str (.str .nil))) (by decide)) (.cons (TL.jK (by k_is) (.str (.str (.str (.str .nil)))) (by decide)) (.nil))))))))
  case T32 => rfl
  case T33 => (refine' L2.oB ?a ?b ?c ?d; (case a => k_is); (case b => k_is); (case c => k_is); (case d => k_is))
  case T34 => rfl
  case T35 => (refine' L2.oB ?a ?b ?c ?d; (case a => k_is); (case b => k_is); (case c => k_is); (case d => k_is))
  case T36 => rfl
  case T37 => (refine' L2.oB ?a ?b ?c ?d; (case a => k_is); (case b => k_is); (case c => k_is); (case d => k_is))
  case T38 => rfl
  case T39 => (refine' L2.oB ?a ?b ?c ?d; (case a => k_is); (case b => k_is); (case c => k_is); (case d => k_is))
  case T40 => rfl
  case T41 => (refine' L2.oB ?a ?b ?c ?d; (case a => k_is); (case b => k_is); (case c => k_is); (case d => k_is))
  case T42 => rfl
  case T43 => (refine' L2.oB ?a ?b ?c ?d; (case a => k_is); (case b => k_is); (case c => k_is); (case d => k_is))
  case T44 => rfl
  case T45 => (refine' L2.oB ?a ?b ?c ?d; (case a => k_is); (case b => k_is); (case c => k_is); (case d => k_is))
  case T46 => rfl
  case T47 => (refine' L2.oB ?a ?b ?c ?d; (case a => k_is); (case b => k_is); (case c => k_is); (case d => k_is))
  case T48 => rfl
  case T49 => (refine' L2.oB ?a ?b ?c ?d; (case a => k_is); (case b => k_is); (case c => k_is); (case d => k_is))
  case T50 => exact L2.cZ (by k_is)
  case T51 => exact L2.cZ (by k_is)
  case T52 => exact L2.cZ (by k_is)
  case T53 => exact L2.cZ (by k_is)
  case T54 => exact L2.cZ (by k_is)
  case T55 => exact L2.cZ (by k_is)
  case T56 => exact L2.cZ (by k_is)
  case T57 => exact L2.cZ (by k_is)
  case T58 => exact L2.cZ (by k_is)
  case T59 => exact L2.cZ (by k_is)
  case T60 => exact L2.cZ (by k_is)
  case T61 => exact L2.cZ (by k_is)
  case T62 => exact L2.cZ (by k_is)
  case T63 => exact L2.cZ (by k_is)
  case T64 => exact L2.cZ (by k_is)
  case T65 => exact L2.cZ (by k_is)
  case T66 => exact L2.cZ (by k_is)
  case T67 => exact L2.cZ (by k_is)
  case T68 => exact L2.cZ (by k_is)
  case T69 => exact L2.cZ (by k_is)
  case T70 => exact L2.cZ (by k_is)
  case T71 => exact L2.cZ (by k_is)
  case T72 => exact L2.cZ (by k_is)
  case T73 => exact L2.cZ (by k_is)
  case T74 => exact L2.cZ (by k_is)
  case T75 => exact L2.cZ (by k_is)
  case T76 => exact L2.cZ (by k_is)
  case T77 => exact L2.cZ (by k_is)
  case T78 => exact L2.cZ (by k_is)
  case T79 => exact L2.cZ (by k_is)
  case T80 => exact L2.cZ (by k_is)
  case T81 => exact L2.cZ (by k_is)
  case T82 => exact L2.cZ (by k_is)
  case T83 => exact L2.cZ (by k_is)
  case T84 => exact L2.cZ (by k_is)
  case T85 => exact L2.cZ (by k_is)
  case T86 => exact L2.cZ (by k_is)

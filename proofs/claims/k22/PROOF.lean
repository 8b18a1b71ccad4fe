import PyProof.Rows.All
import Wide.All
import OpenK.AllK
import Wide.FinOn
import Lean
import PyProof.EqAt
import PyProof.EqKinds
import PyProof.TupleCall
import PyProof.NeKinds
import PyProof.ZipIter
import PyProof.EnumMake
import PyProof.Rows.ZipGen
import PyProof.Rows.SetFrom
import PyProof.IsiNone
import KE.KRevSl
import PyProof.Rows.ListMul
import PySem.Challenge.RW_inkyears_k22_what_datings_are
set_option Elab.async false
set_option linter.all false
set_option maxRecDepth 100000
set_option maxHeartbeats 4000000

namespace L2
open PySem PySem.Spec PyProof.Rows
abbrev rZ := Sum Int Str
def cu3 : rZ → Value → Bool
 | .inl k, v => Value.isInt k v
 | .inr x, v => Value.isStrOf x v
def ds7 (w : World) : rZ → Int
 | .inl k => hashInt k
 | .inr x => hashStr w x
theorem gR : ∀ {k : rZ} {v : Value}, cu3 k v = true → (∃ i t, k = Sum.inl i ∧ v = Value.int i t) ∨ (∃ x t, k = Sum.inr x ∧ v = Value.str x t)
 | .inl i, v, h => by
  obtain ⟨t, e⟩ := Value.isInt_shape (k := i) (v := v) h
  exact .inl ⟨i, t, rfl, e⟩
 | .inr x, v, h => by
  obtain ⟨t, e⟩ := Value.isStrOf_shape (x := x) (v := v) h
  exact .inr ⟨x, t, rfl, e⟩
theorem cx9 (a b : Int) : decide ((Sum.inl a : rZ) = Sum.inl b) = (a == b) := by
 by_cases e : a = b
 · subst e; simp
 · have h : ¬ (Sum.inl a : rZ) = Sum.inl b := fun q => e (Sum.inl.inj q)
   rw [decide_eq_false h]
   exact (beq_eq_false_iff_ne.mpr e).symm
theorem dh1 (a b : Str) : decide ((Sum.inr a : rZ) = Sum.inr b) = decide (a = b) := by
 by_cases e : a = b
 · subst e; simp
 · have h : ¬ (Sum.inr a : rZ) = Sum.inr b := fun q => e (Sum.inr.inj q)
   rw [decide_eq_false h, decide_eq_false e]
theorem dq0 (a : Int) (b : Str) : decide ((Sum.inl a : rZ) = Sum.inr b) = false := decide_eq_false (fun q => nomatch q)
theorem df1 (a : Str) (b : Int) : decide ((Sum.inr a : rZ) = Sum.inl b) = false := decide_eq_false (fun q => nomatch q)
def an4 (prog : Program) (w : World) : PySem.KeyKind prog w rZ where
 is := cu3
 hash := ds7 w
 inj := fun v a b ha hb => by
  rcases gR ha with ⟨i, t, rfl, rfl⟩ | ⟨x, t, rfl, rfl⟩
  · rcases gR hb with ⟨j, u, rfl, e⟩ | ⟨y, u, rfl, e⟩
    · injection e with e1 _; rw [e1]
    · exact nomatch e
  · rcases gR hb with ⟨j, u, rfl, e⟩ | ⟨y, u, rfl, e⟩
    · exact nomatch e
    · injection e with e1 _; rw [e1]
 byValue := fun k v h => by
  rcases gR h with ⟨i, t, rfl, rfl⟩ | ⟨x, t, rfl, rfl⟩ <;> rfl
 pyHash := fun hv h => by
  rcases gR hv with ⟨i, t, rfl, rfl⟩ | ⟨x, t, rfl, rfl⟩
  · exact wpAny_pyHash_int h
  · exact wpAny_pyHash_str h
 eqBool := fun hu hv h => by
  rcases gR hu with ⟨i, t, rfl, rfl⟩ | ⟨x, t, rfl, rfl⟩
  · rcases gR hv with ⟨j, u, rfl, rfl⟩ | ⟨y, u, rfl, rfl⟩
    · rw [cx9] at h; exact wpAny_eqBool_int h
    · rw [dq0] at h; exact SeqAt.EqAt.int_str i t y u _ _ _ _ h
  · rcases gR hv with ⟨j, u, rfl, rfl⟩ | ⟨y, u, rfl, rfl⟩
    · rw [df1] at h; exact SeqAt.EqAt.str_int x t j u _ _ _ _ h
    · rw [dh1] at h; exact wpAny_eqBool_str h
 «strs» := fun k x t v h => by
  rcases gR h with ⟨i, u, rfl, e⟩ | ⟨y, u, rfl, e⟩
  · exact nomatch e
  · injection e with e1 _
    subst e1
    cases v <;> rfl
end L2
namespace L2
open PySem PySem.Spec PyProof.Rows
inductive V where
 | non | bl (b : Bool) | int (i : Int) | str (x : Str) | byt (b : Array UInt8) | flt (b : UInt64) | ref (a : Addr) | ty (n : String)
 deriving DecidableEq
def RelV : V → Value → Prop
 | .non, u => u = Value.none
 | .bl b, u => u = Value.bool b
 | .int i, u => ∃ t, u = Value.int i t
 | .str x, u => ∃ t, u = Value.str x t
 | .byt b, u => ∃ t, u = Value.bytes b t
 | .flt b, u => ∃ t, u = Value.float b t
 | .ref a, u => u = Value.ref a
 | .ty n, u => u = Value.type n
abbrev Vals : List V → List Value → Prop := Paired RelV
theorem Vals.length (r : Vals xs us) : xs.length = us.length := Paired.length r
theorem Vals.get : ∀ {xs : List V} {us : List Value} {i : Nat} {x : V}, Vals xs us → xs[i]? = some x → ∃ u, us[i]? = some u ∧ RelV x u
 | _, _, _, _, .nil, e => by simp at e
 | _, _, 0, _, .cons r _, e => by simp at e; subst e; exact ⟨_, rfl, r⟩
 | _, _, i + 1, x, .cons _ t, e => by
  obtain ⟨u, h1, h2⟩ := Vals.get (i := i) (x := x) t (by simpa using e)
  exact ⟨u, by simpa using h1, h2⟩
theorem Vals.set (r : RelV x u) : ∀ {xs : List V} {us : List Value} (i : Nat), Vals xs us → Vals (xs.set i x) (us.set i u)
 | _, _, _, .nil => .nil
 | _, _, 0, .cons _ t => .cons r t
 | _, _, i + 1, .cons q t => .cons q (Vals.set r i t)
theorem Vals.append : ∀ {xs ys : List V} {us ws : List Value}, Vals xs us → Vals ys ws → Vals (xs ++ ys) (us ++ ws)
 | _, _, _, _, .nil, s => s
 | _, _, _, _, .cons r t, s => .cons r (Vals.append t s)
theorem Vals.take : ∀ {xs : List V} {us : List Value} (n : Nat), Vals xs us → Vals (xs.take n) (us.take n)
 | _, _, 0, _ => .nil
 | _, _, _ + 1, .nil => .nil
 | _, _, n + 1, .cons r t => .cons r (Vals.take n t)
theorem Vals.drop : ∀ {xs : List V} {us : List Value} (n : Nat), Vals xs us → Vals (xs.drop n) (us.drop n)
 | _, _, 0, r => r
 | _, _, _ + 1, .nil => .nil
 | _, _, n + 1, .cons _ t => Vals.drop n t
def RelO : Option V → Option Value → Prop
 | some v, some u => RelV v u
 | none, none => True
 | _, _ => False
def KV {κ : Type} : List (κ × V) → List (κ × Value) → Prop := Paired fun (p : κ × V) (q : κ × Value) => p.1 = q.1 ∧ RelV p.2 q.2
def kV : rZ → V
 | .inl i => .int i
 | .inr x => .str x
inductive HO where
 | lst (xs : List V)
 | tup (xs : List V)
 | dK (kvs : List (rZ × V)) | dT (kvs : List (List rZ × V))
 | set (S : Int → Bool) (n : Nat)
 | ins (C dx : Addr) (fs : List (Str × V))
 | own (x : Addr)
 | xd (fs : List (Str × V))
 | met (f x : Addr)
 | rng (lo hi : Int)
 | frz (o : Obj) (u : HO)
 | tbl (ps : Array Value)
 | ext (φ : Heap → Prop)
abbrev Hp := Addr → Option HO
def upd (H : Hp) (a : Addr) (o : HO) : Hp := fun b => if b = a then some o else H b
theorem eM : upd H a o a = some o := by unfold upd; rw [if_pos rfl]
theorem cV (h : b ≠ a) : upd H a o b = H b := by unfold upd; rw [if_neg h]
theorem gT {H : Hp} {a b : Addr} {o : HO} (h : H a = some o) (h' : H b = none) : a ≠ b := by
 intro e; subst e; rw [h] at h'; cases h'
section
variable (P : Program) (w : World)
def ObjOk (H : Hp) (h : Heap) (a : Addr) : HO → Prop
 | .lst xs => xs.length ≤ sizeLine ∧ ∃ (its : List Value) (n : Nat), Vals xs its ∧ h.get? a = some { cls := .type "list", data := .seq its.toArray n }
 | .tup xs => xs.length ≤ sizeLine ∧ ∃ its : List Value, Vals xs its ∧ IsTup h a its.toArray
 | .dK kvs => kvs.length ≤ sizeLine ∧ (a == sysModules) = false ∧ ∃ vs, KV kvs vs ∧ h.DictOf (an4 P w) a vs
 | .dT kvs => kvs.length ≤ sizeLine ∧ (a == sysModules) = false ∧ ∃ xs : List (List rZ × Addr × Value),
  Paired (fun (p : List rZ × V) (q : List rZ × Addr × Value) => p.1 = q.1 ∧ H q.2.1 = some (.tup (p.1.map kV)) ∧ RelV p.2 q.2.2) kvs xs ∧
  ∃ o es ep, h.get? a = some o ∧ o.ExactDict ∧ o.data = .dict es ep ∧ es.toList = xs.map (entryOfKey (tupleKind (an4 P w))) ∧ (xs.map (·.1)).Nodup
 | .set S n => h.SetOf (intKind P w) a S n
 | .ins C dx fs => H dx = some (.own a) ∧ fs.length ≤ 1000 ∧ dx ≠ a ∧ h.get? a = some (PySem.W.instObj C dx) ∧
  ∃ mA, h.Ns1 dx mA ∧ (∀ f, RelO (fs.lookup f) (mA f)) ∧ PySem.Within mA (fs.map (·.1))
 | .own _ => ∃ o, h.get? a = some o
 | .xd fs => ∃ mA, h.Ns1 a mA ∧ ∀ f, RelO (fs.lookup f) (mA f)
 | .rng lo hi => ∃ t u v, h.get? a = some { cls := .type "range", data := .fields #[.int lo t, .int hi u, .int 1 v] }
 | .frz o u => h.get? a = some o ∧ ObjOk H h a u
 | .tbl ps => h.get? a = some { cls := .none, data := .fields ps }
 | .met f x => h.get? a = some (PySem.W.methodObj (.ref f) (.ref x))
 | .ext φ => φ h ∧ (∃ o, h.get? a = some o) ∧ ∀ h1 h2 : Heap, φ h1 → (∀ o, h1.get? a = some o → h2.get? a = some o) → φ h2
def HOk (H : Hp) (h : Heap) : Prop := ∀ a o, H a = some o → ObjOk P w H h a o
end
section
variable {P : Program} {w : World} {H H' : Hp} {h h' : Heap} {a : Addr} {o : HO}
theorem ObjOk.lt (x : ObjOk P w H h a o) : a < h.objs.size := by
 cases o with
 | lst xs => obtain ⟨_, _, _, _, e⟩ := x; exact Heap.lt_size e
 | tup xs => obtain ⟨_, _, _, p⟩ := x; exact p.lt
 | dK kvs => obtain ⟨_, _, _, _, o, _, _, e, _⟩ := x; exact Heap.lt_size e
 | dT kvs => obtain ⟨_, _, _, _, o, _, _, e, _⟩ := x; exact Heap.lt_size e
 | set S n => obtain ⟨o, _, _, _, e, _⟩ := x; exact Heap.lt_size e
 | ins C dx fs => obtain ⟨_, _, _, e, _⟩ := x; exact Heap.lt_size e
 | own y => obtain ⟨_, e⟩ := x; exact Heap.lt_size e
 | xd fs => obtain ⟨_, ⟨_, _, _, e, _⟩, _⟩ := x; exact Heap.lt_size e
 | rng lo hi => obtain ⟨_, _, _, e⟩ := x; exact Heap.lt_size e
 | frz ob u => obtain ⟨e, _⟩ := x; exact Heap.lt_size e
 | tbl ps => exact Heap.lt_size (show h.get? a = some _ from x)
 | met f y => exact Heap.lt_size (show h.get? a = some _ from x)
 | ext φ => obtain ⟨_, ⟨_, e⟩, _⟩ := x; exact Heap.lt_size e
theorem Paired.mapP : ∀ {l₁ : List α} {l₂ : List β}, Paired F l₁ l₂ → (∀ a b, F a b → G a b) → Paired G l₁ l₂
 | _, _, .nil, _ => .nil
 | _, _, .cons r t, f => .cons (f _ _ r) (Paired.mapP t f)
theorem ObjOk.stay (x : ObjOk P w H h a o) (k : ∀ b u, (b = a ∨ H b = some (.own a)) → h.get? b = some u → h'.get? b = some u)
 (ho : ∀ b, H b = some (.own a) → H' b = some (.own a)) (ht : ∀ b xs, H b = some (.tup xs) → H' b = some (.tup xs)) : ObjOk P w H' h' a o := by
 induction o with
 | lst xs => obtain ⟨z, its, n, r, e⟩ := x; exact ⟨z, its, n, r, k _ _ (.inl rfl) e⟩
 | tup xs => obtain ⟨z, its, r, ob, e, c⟩ := x; exact ⟨z, its, r, ob, k _ _ (.inl rfl) e, c⟩
 | dK kvs => obtain ⟨z, y, vs, r, ob, es, ep, e, c⟩ := x; exact ⟨z, y, vs, r, ob, es, ep, k _ _ (.inl rfl) e, c⟩
 | dT kvs =>
  obtain ⟨z, y, xs, r, ob, es, ep, e, c⟩ := x
  exact ⟨z, y, xs, Paired.mapP r fun p q z => ⟨z.1, ht _ _ z.2.1, z.2.2⟩, ob, es, ep, k _ _ (.inl rfl) e, c⟩
 | set S n => obtain ⟨ob, es, ep, t, e, c⟩ := x; exact ⟨ob, es, ep, t, k _ _ (.inl rfl) e, c⟩
 | ins C dx fs =>
  obtain ⟨d, z, ne, e, mA, ⟨od, es, ep, e2, c⟩, r⟩ := x
  exact ⟨ho _ d, z, ne, k _ _ (.inl rfl) e, mA, ⟨od, es, ep, k _ _ (.inr d) e2, c⟩, r⟩
 | own y => obtain ⟨ob, e⟩ := x; exact ⟨ob, k _ _ (.inl rfl) e⟩
 | xd fs => obtain ⟨mA, ⟨od, es, ep, e, c⟩, r⟩ := x; exact ⟨mA, ⟨od, es, ep, k _ _ (.inl rfl) e, c⟩, r⟩
 | rng lo hi => obtain ⟨t, u, v, e⟩ := x; exact ⟨t, u, v, k _ _ (.inl rfl) e⟩
 | frz ob u ih => obtain ⟨e, q⟩ := x; exact ⟨k _ _ (.inl rfl) e, ih q⟩
 | tbl ps =>
  have e : h.get? a = some { cls := .none, data := .fields ps } := x
  show h'.get? a = some { cls := .none, data := .fields ps }
  exact k a _ (.inl rfl) e
 | met f y =>
  have e : h.get? a = some (PySem.W.methodObj (.ref f) (.ref y)) := x
  show h'.get? a = some (PySem.W.methodObj (.ref f) (.ref y))
  exact k a _ (.inl rfl) e
 | ext φ => obtain ⟨p, ⟨o, e⟩, st⟩ := x; exact ⟨st _ _ p fun o q => k _ _ (.inl rfl) q, ⟨o, k _ _ (.inl rfl) e⟩, st⟩
theorem HOk.lt (x : HOk P w H h) (e : H a = some o) : a < h.objs.size := (x a o e).lt
theorem HOk.fresh (x : HOk P w H h) (e : h.objs.size ≤ a) : H a = none := by
 cases q : H a with
 | none => rfl
 | some u => exact absurd (Nat.lt_of_lt_of_le (x.lt q) e) (Nat.lt_irrefl _)
theorem HOk.kept (x : HOk P w H h) (k : ∀ b u, h.get? b = some u → h'.get? b = some u) : HOk P w H h' := fun a o e =>
 (x a o e).stay (fun b u _ q => k b u q) (fun _ q => q) fun _ _ q => q
theorem HOk.laid (x : HOk P w H h) (k : ∀ b u, h.get? b = some u → h'.get? b = some u) (hp : h.objs.size ≤ a) (new : ObjOk P w (upd H a o) h' a o) : HOk P w (upd H a o) h' := fun b u e => by
 have hn := x.fresh hp
 by_cases hb : b = a
 · subst hb; rw [eM] at e; cases e; exact new
 · rw [cV hb] at e
   exact (x b u e).stay (fun c v _ q => k c v q) (fun c q => by rw [cV (gT q hn)]; exact q) fun c xs q => by rw [cV (gT q hn)]; exact q
end
def Rd (H : Hp) (a : Addr) (u : HO) : Prop := H a = some u ∨ ∃ o, H a = some (.frz o u)
theorem Rd.ok (r : Rd H a u) (x : HOk P w H h) : ObjOk P w H h a u := by
 rcases r with r | ⟨o, r⟩
 · exact x a u r
 · obtain ⟨_, q⟩ := x a _ r
   exact q
def Mut : Option HO → Prop
 | some (.lst _) => True
 | some (.dK _) => True
 | some (.dT _) => True
 | some (.set _ _) => True
 | some (.ins _ _ _) => True
 | some (.ext _) => True
 | _ => False
section
variable {P : Program} {w : World} {H : Hp} {h h' : Heap} {x e : Addr} {o' : HO}
theorem HOk.write (ok : HOk P w H h) (mu : Mut (H x)) (he : e = x ∨ H e = some (.own x)) (k : ∀ b u, b ≠ e → h.get? b = some u → h'.get? b = some u) (heo : ∃ u, h'.get? e = some u)
 (new : ObjOk P w (upd H x o') h' x o') : HOk P w (upd H x o') h' := fun b u q => by
 have nown : ∀ c y, H c = some (.own y) → c ≠ x := fun c y r z => by subst z; rw [r] at mu; exact mu
 have ntup : ∀ c xs, H c = some (.tup xs) → c ≠ x := fun c xs r z => by subst z; rw [r] at mu; exact mu
 by_cases hb : b = x
 · subst hb; rw [eM] at q; cases q; exact new
 · rw [cV hb] at q
   by_cases hbe : b = e
   · have q' : H b = some (.own x) := by
      rcases he with z | z
      · exact absurd (hbe.trans z) hb
      · rw [hbe]; exact z
     rw [q] at q'; cases q'
     obtain ⟨v, hv⟩ := heo
     exact ⟨v, by rw [hbe]; exact hv⟩
   · refine (ok b u q).stay (fun c v hc r => k c v ?_ r) (fun c r => by rw [cV (nown c b r)]; exact r) fun c xs r => by rw [cV (ntup c xs r)]; exact r
     rcases hc with rfl | hc
     · exact hbe
     · rintro rfl
       rcases he with z | z
       · exact nown c b hc z
       · rw [hc] at z; cases z; exact hb rfl
end
structure Un (fs ex : List Addr) (H H' : Hp) (h h' : Heap) : Prop where
 keep : ∀ b o, h.get? b = some o → H b = none → b ∉ fs → b ∉ ex → h'.get? b = some o
 slot : ∀ b o, h.get? b = some o → H b = none → b ∈ fs → b ∉ ex → ∃ sl, h'.get? b = some { o with slots := sl }
 free : ∀ b o, h.get? b = some o → H b = none → b ∉ ex → H' b = none
 there : ∀ b o, h.get? b = some o → b ∉ ex → ∃ o', h'.get? b = some o'
 tups : ∀ b xs, H b = some (.tup xs) → H' b = some (.tup xs)
 frzs : ∀ b o u, H b = some (.frz o u) → H' b = some (.frz o u)
 tbls : ∀ b ps, H b = some (.tbl ps) → ∃ more, H' b = some (.tbl (ps ++ more))
section
variable {fs fs' ex ex' : List Addr} {H H1 H2 : Hp} {h h1 h2 h' : Heap} {a x e : Addr} {o : HO}
theorem Un.any (u : Un fs ex H H1 h h1) (q : h.get? b = some ob) (n : H b = none) (hx : b ∉ ex) : ∃ sl, h1.get? b = some { ob with slots := sl } := by
 by_cases hb : b ∈ fs
 · exact u.slot b ob q n hb hx
 · exact ⟨ob.slots, u.keep b ob q n hb hx⟩
theorem Un.kept (k : ∀ b u, h.get? b = some u → h'.get? b = some u) : Un fs ex H H h h' :=
 ⟨fun b ob q _ _ _ => k b ob q, fun b ob q _ _ _ => ⟨ob.slots, k b ob q⟩, fun _ _ _ n _ => n, fun b ob q _ => ⟨ob, k b ob q⟩, fun _ _ q => q, fun _ _ _ q => q, fun _ ps q => ⟨#[], by rw [q]; simp⟩⟩
theorem Un.refl : Un fs ex H H h h := Un.kept fun _ _ q => q
theorem Un.laid (k : ∀ b u, h.get? b = some u → h'.get? b = some u) (hp : h.objs.size ≤ a) (hn : H a = none) : Un fs ex H (upd H a o) h h' where
 keep := fun b u q _ _ _ => k b u q
 slot := fun b u q _ _ _ => ⟨u.slots, k b u q⟩
 free := fun b u q n _ => by rw [cV (Nat.ne_of_lt (Nat.lt_of_lt_of_le (Heap.lt_size q) hp))]; exact n
 there := fun b u q _ => ⟨u, k b u q⟩
 tups := fun b xs q => by rw [cV (gT q hn)]; exact q
 frzs := fun b u xs q => by rw [cV (gT q hn)]; exact q
 tbls := fun b ps q => ⟨#[], by rw [cV (gT q hn), q]; simp⟩
theorem Un.write (mu : Mut (H x)) (he : e = x ∨ H e = some (.own x)) (k : ∀ b u, b ≠ e → h.get? b = some u → h'.get? b = some u) (heo : ∃ u, h'.get? e = some u) : Un fs ex H (upd H x o) h h' := by
 have hx : ∀ b, H b = none → b ≠ x := fun b n z => by subst z; rw [n] at mu; exact mu
 have hb : ∀ b, H b = none → b ≠ e := fun b n z => by
  subst z
  rcases he with r | r
  · exact hx b n r
  · rw [n] at r; cases r
 have hm : ∀ b u, H b = some u → ¬ Mut (some u) → b ≠ x := fun b u q nm z => by subst z; rw [q] at mu; exact nm mu
 refine ⟨fun b u q n _ _ => k b u (hb b n) q, fun b u q n _ _ => ⟨u.slots, k b u (hb b n) q⟩, fun b u q n _ => by rw [cV (hx b n)]; exact n, fun b u q _ => ?_,
  fun b xs q => by rw [cV (hm b _ q fun z => z)]; exact q, fun b u xs q => by rw [cV (hm b _ q fun z => z)]; exact q, fun b ps q => ⟨#[], by rw [cV (hm b _ q fun z => z), q]; simp⟩⟩
 by_cases hbe : b = e
 · subst hbe; exact heo
 · exact ⟨u, k b u hbe q⟩
end
def trk (h : Heap) (H : Hp) : List Addr := (List.range h.objs.size).filter fun a => (H a).isSome
def wS (h : Heap) (H : Hp) : Heap := PySem.W.hideAll h (trk h H)
theorem bj8 (h : Heap) (H : Hp) : (wS h H).objs.size = h.objs.size := PySem.W.hideAll_size _ _
theorem cj1 (e : h.get? b = some o) (n : H b = none) : (wS h H).get? b = some o :=
 PySem.W.hideAll_get _ e fun hm => by
  have q : (H b).isSome = true := (List.mem_filter.mp hm).2
  rw [n] at q; simp at q
theorem cd6 (e : (wS h H).get? b = some o) : h.get? b = some o ∧ H b = none := by
 have e' : h.get? b = some o := PySem.W.of_hideAll (trk h H) e
 refine ⟨e', ?_⟩
 cases q : H b with
 | none => rfl
 | some x =>
  have hm : b ∈ trk h H := List.mem_filter.mpr ⟨List.mem_range.mpr (Heap.lt_size e'), by simp [q]⟩
  have z : (wS h H).get? b = none := PySem.W.hideAll_none (trk h H) hm
  rw [z] at e; cases e
end L2
namespace L2
open PySem PySem.Spec PyProof.Rows
structure Mod (K : PySem.W.Frag) (mg : Str → Option Value) (base : Heap) : Prop where
 kin : K.In base
 glob : base.Ns mainGlobals mg
 blt : ∃ mb, base.Ns builtinsNs mb ∧ ∀ x : Str, x ≠ "__name__" → mb x = bootBuiltins x
 nolimit : base.NoLimit
structure Cx where
 prog : Program
 w : World
 K : PySem.W.Frag
 mg : Str → Option Value
 base : Heap
 A : Around
 N : List Str
 s₀ : Shared
 H₀ : Hp
 env : Env
 outer : List Env
 stack : List Env
 ex : List Addr
 fn : Str → Bool
 calm : Bool
 pn : List (Addr × Obj)
 xe : Value → Shared → Prop
def vX (l : List Env) : List Addr := l.filterMap (·.frame)
abbrev Cx.fs (X : Cx) : List Addr := vX X.outer
def Vis (sc : Scope) (x : Str) : Prop := sc.names.lookup x = some .local ∨ sc.names.lookup x = some .cell ∨ sc.names.lookup x = some .free
def Loc (sc : Scope) (x : Str) : Prop := sc.names.lookup x = some .local ∨ sc.names.lookup x = some .cell
def db7 (env : Env) (h : Heap) (m : Str → Option Value) (x : Str) (u : Value) : Prop :=
 (env.kindOf x = some .local ∧ m x = some u) ∨ ((env.kindOf x = some .cell ∨ env.kindOf x = some .free) ∧ ∃ c, env.cells.lookup x = some c ∧ h.IsCell c (some u))
structure Cx.Ok (X : Cx) : Prop where
 mod : Mod X.K X.mg X.base
 kind : X.env.scope.kind = .function
 glob : X.env.globals = mainGlobals
 blt : X.env.builtins = builtinsNs
 above : X.s₀.heap.objs.size ≤ X.env.locals
 inj : ∀ x y c, X.env.cells.lookup x = some c → X.env.cells.lookup y = some c → x = y
 has : ∀ x, (X.env.kindOf x = some .cell ∨ X.env.kindOf x = some .free) → ∃ c, X.env.cells.lookup x = some c
 cab : ∀ x c, X.fn x = true → X.env.cells.lookup x = some c → X.s₀.heap.objs.size ≤ c
 hd : X.calm = true → X.A.handled = none
 frames : X.A.frames = some X.stack
 stk : X.stack = X.outer ∨ (X.stack = X.env :: X.outer ∧ X.env.frame = some X.env.locals)
 exf : ∀ b ∈ X.ex, b ≠ X.env.locals ∧ ∀ x c, X.env.cells.lookup x = some c → c ≠ b
 bs : ∀ b o, X.base.get? b = some o → X.s₀.heap.get? b = some o ∧ X.H₀ b = none
 bsz : X.base.objs.size ≤ X.s₀.heap.objs.size
 noex : ∀ b o, X.base.get? b = some o → b ∉ X.ex
 exfs : ∀ b ∈ X.ex, b ∉ X.fs
 funs : X.s₀.heap.FunFrames X.base X.outer
 frf : ∀ b ∈ X.fs, X.H₀ b = none
structure Inv (X : Cx) (pins : List (Addr × Obj)) (σ : List (Option V)) (H : Hp) (s : Shared) : Prop where
 ok : X.Ok
 os : s.os = X.s₀.os
 bare : AllBare s.gens
 base : Un X.fs X.ex X.H₀ H X.s₀.heap s.heap
 loc : ∃ m, s.heap.Ns X.env.locals m ∧ ∀ (i : Nat) (x : Str) (v : V), X.N[i]? = some x → σ[i]? = some (some v) → Vis X.env.scope x → ∃ u, RelV v u ∧ db7 X.env s.heap m x u
 cell : ∀ x c, X.env.cells.lookup x = some c → ∃ v, s.heap.IsCell c v
 free : H X.env.locals = none
 freeC : ∀ x c, X.env.cells.lookup x = some c → H c = none
 pin : ∀ p ∈ X.pn ++ pins, s.heap.get? p.1 = some p.2 ∧ H p.1 = none ∧ p.1 ≠ X.env.locals ∧ p.1 ∉ X.fs ∧ ∀ v, p.2.data ≠ .cell v
 hok : HOk X.prog X.w H s.heap
 len : σ.length = X.N.length
section
variable {X : Cx} {pins : List (Addr × Obj)} {σ : List (Option V)} {H H' : Hp} {s : Shared} {h' : Heap}
theorem Cx.Ok.nofr (ok : X.Ok) (e : X.base.get? b = some o) : b ∉ X.fs := fun hb => by
 have := (ok.funs.mem hb).1
 rw [e] at this; cases this
theorem Inv.bs (I : Inv X pins σ H s) : ∀ b o, X.base.get? b = some o → s.heap.get? b = some o ∧ H b = none := fun b o e =>
 ⟨I.base.keep b o (I.ok.bs b o e).1 (I.ok.bs b o e).2 (I.ok.nofr e) (I.ok.noex b o e), I.base.free b o (I.ok.bs b o e).1 (I.ok.bs b o e).2 (I.ok.noex b o e)⟩
theorem Inv.bk (I : Inv X pins σ H s) : ∀ b o, X.base.get? b = some o → s.heap.get? b = some o := fun b o e => (I.bs b o e).1
theorem Inv.mod (I : Inv X pins σ H s) : Mod X.K X.mg X.base := I.ok.mod
theorem Inv.kIn (I : Inv X pins σ H s) : X.K.In s.heap := I.ok.mod.kin.keeps I.bk
theorem Inv.fr (I : Inv X pins σ H s) : ∃ m, Fr X.base X.env.locals s.heap m :=
 let ⟨m, hn, _⟩ := I.loc
 ⟨m, hn, I.bk, Nat.le_trans I.ok.bsz I.ok.above⟩
theorem Inv.lt (I : Inv X pins σ H s) : X.env.locals < s.heap.objs.size := let ⟨_, hn, _⟩ := I.loc; hn.lt
theorem Inv.sz (I : Inv X pins σ H s) : X.s₀.heap.objs.size ≤ s.heap.objs.size := Nat.le_trans I.ok.above (Nat.le_of_lt I.lt)
theorem Inv.nofs (I : Inv X pins σ H s) (h : s.heap.objs.size ≤ a) : a ∉ X.fs := fun hb => by
 obtain ⟨_, o, ho, _⟩ := I.ok.funs.mem hb
 exact absurd (Nat.lt_of_lt_of_le (Heap.lt_size ho) (Nat.le_trans I.sz h)) (Nat.lt_irrefl _)
theorem Inv.cne (I : Inv X pins σ H s) : ∀ x c, X.env.cells.lookup x = some c → c ≠ X.env.locals := fun x c e z => by
 obtain ⟨v, o, ho, hd⟩ := I.cell x c e
 obtain ⟨m, ⟨o', es, ep, ho', hd', _⟩, _⟩ := I.loc
 rw [z, ho'] at ho; cases ho; rw [hd'] at hd; cases hd
theorem Inv.funs (I : Inv X pins σ H s) : s.heap.FunFrames X.base X.outer := by
 have all : ∀ (l : List Env), (∀ b ∈ vX l, b ∈ X.fs) → X.s₀.heap.FunFrames X.base l → s.heap.FunFrames X.base l := by
  intro l
  induction l with
  | nil => intro _ _; trivial
  | cons env r ih =>
   intro hs hl
   obtain ⟨hk, ⟨L, o, hf, hn, ho, hd⟩, hr⟩ := hl
   have hL : L ∈ X.fs := hs L (by unfold vX; rw [List.filterMap_cons, hf]; exact List.mem_cons_self)
   obtain ⟨sl, e⟩ := I.base.slot L o ho (I.ok.frf L hL) hL fun z => I.ok.exfs L z hL
   exact ⟨hk, ⟨L, _, hf, hn, e, hd⟩, ih (fun b hb => hs b (by unfold vX; rw [List.filterMap_cons, hf]; exact List.mem_cons_of_mem _ hb)) hr⟩
 exact all X.outer (fun _ hb => hb) I.ok.funs
theorem Inv.stack (I : Inv X pins σ H s) : s.heap.FunFrames X.base X.stack := by
 rcases I.ok.stk with e | ⟨e, hf⟩
 · rw [e]; exact I.funs
 · rw [e]
   obtain ⟨m, hn, _⟩ := I.loc
   refine .cons (by rw [I.ok.kind]; decide) hf hn ?_ I.funs
   exact Heap.get?_none_of_le (Nat.le_trans I.ok.bsz I.ok.above)
theorem Inv.stkSub (I : Inv X pins σ H s) : ∀ b ∈ vX X.stack, b ∈ X.env.locals :: X.fs := fun b hb => by
 rcases I.ok.stk with e | ⟨e, hf⟩
 · rw [e] at hb; exact List.mem_cons_of_mem _ hb
 · rw [e] at hb
   unfold vX at hb
   rw [List.filterMap_cons, hf] at hb
   exact hb
theorem Inv.stkFree (I : Inv X pins σ H s) : ∀ b ∈ vX X.stack, H b = none := fun b hb => by
 rcases List.mem_cons.mp (I.stkSub b hb) with e | hb
 · rw [e]; exact I.free
 · obtain ⟨_, o, ho, _⟩ := I.ok.funs.mem hb
   exact I.base.free b o ho (I.ok.frf b hb) fun z => I.ok.exfs b z hb
theorem Inv.step {g' : Array GenState} {t' : Nat} {d' : Drawn} {ch : List Addr} (I : Inv X pins σ H s)
 (hch : ∀ b ∈ ch, (b ∈ X.ex ∨ X.s₀.heap.objs.size ≤ b) ∧ b ≠ X.env.locals ∧ (∀ x c, X.env.cells.lookup x = some c → c ≠ b) ∧ ∀ p ∈ X.pn ++ pins, p.1 ≠ b)
 (keep : ∀ b o, b ≠ X.env.locals → b ∉ X.fs → b ∉ ch → s.heap.get? b = some o → H b = none → h'.get? b = some o)
 (slot : ∀ b o, b ≠ X.env.locals → b ∈ X.fs → b ∉ ch → s.heap.get? b = some o → H b = none → ∃ sl, h'.get? b = some { o with slots := sl }) (free : ∀ b o, b ∉ ch → s.heap.get? b = some o → H b = none → H' b = none)
 (there : ∀ b o, b ∉ ch → s.heap.get? b = some o → ∃ o', h'.get? b = some o')
 (tups : ∀ b xs, H b = some (.tup xs) → H' b = some (.tup xs)) (frzs : ∀ b o u, H b = some (.frz o u) → H' b = some (.frz o u)) (tbls : ∀ b ps, H b = some (.tbl ps) → ∃ more, H' b = some (.tbl (ps ++ more)))
 (ns : ∀ m, s.heap.Ns X.env.locals m → h'.Ns X.env.locals m) (hok : HOk X.prog X.w H' h') (hg : AllBare g') :
 Inv X pins σ H' { s with heap := h', gens := g', drawn := d', toks := t' } := by
 have neL : ∀ b o, X.s₀.heap.get? b = some o → b ≠ X.env.locals := fun b o e => Nat.ne_of_lt (Nat.lt_of_lt_of_le (Heap.lt_size e) I.ok.above)
 have neC : ∀ b o, X.s₀.heap.get? b = some o → b ∉ X.ex → b ∉ ch := fun b o e hx hb => by
  rcases (hch b hb).1 with z | z
  · exact hx z
  · exact absurd (Nat.lt_of_lt_of_le (Heap.lt_size e) z) (Nat.lt_irrefl _)
 have cellK : ∀ x c, X.env.cells.lookup x = some c → ∀ v, s.heap.IsCell c v → h'.IsCell c v := fun x c e v ⟨o, ho, hd⟩ => by
  have nch : c ∉ ch := fun z => (hch c z).2.2.1 x c e rfl
  by_cases hc : c ∈ X.fs
  · obtain ⟨sl, q⟩ := slot c o (I.cne x c e) hc nch ho (I.freeC x c e)
    exact ⟨_, q, hd⟩
  · exact ⟨o, keep c o (I.cne x c e) hc nch ho (I.freeC x c e), hd⟩
 refine ⟨I.ok, I.os, hg, ⟨fun b o e n hb hx => ?_, fun b o e n hb hx => ?_, fun b o e n hx => ?_, fun b o e hx => ?_, fun b xs e => tups b xs (I.base.tups b xs e), fun b o xs e => frzs b o xs (I.base.frzs b o xs e), fun b ps e => ?_⟩, ?_, fun x c e => ?_, ?_, fun x c e => ?_, fun p hp => ?_, hok, I.len⟩
 · exact keep b o (neL b o e) hb (neC b o e hx) (I.base.keep b o e n hb hx) (I.base.free b o e n hx)
 · obtain ⟨sl, e1⟩ := I.base.slot b o e n hb hx
   obtain ⟨sl', e2⟩ := slot b _ (neL b o e) hb (neC b o e hx) e1 (I.base.free b o e n hx)
   exact ⟨sl', e2⟩
 · obtain ⟨o', e1⟩ := I.base.there b o e hx
   exact free b o' (neC b o e hx) e1 (I.base.free b o e n hx)
 · obtain ⟨o', e1⟩ := I.base.there b o e hx
   exact there b o' (neC b o e hx) e1
 · obtain ⟨m1, e1⟩ := I.base.tbls b ps e
   obtain ⟨m2, e2⟩ := tbls b _ e1
   exact ⟨m1 ++ m2, by rw [e2, Array.append_assoc]⟩
 · obtain ⟨m, hn, hl⟩ := I.loc
   refine ⟨m, ns m hn, fun i x v e1 e2 e3 => ?_⟩
   obtain ⟨u, r, l⟩ := hl i x v e1 e2 e3
   refine ⟨u, r, ?_⟩
   rcases l with l | ⟨k, c, e, z⟩
   · exact .inl l
   · exact .inr ⟨k, c, e, cellK x c e _ z⟩
 · obtain ⟨v, z⟩ := I.cell x c e
   exact ⟨v, cellK x c e v z⟩
 · obtain ⟨m, ⟨o, _, _, ho, _⟩, _⟩ := I.loc
   exact free _ o (fun z => (hch _ z).2.1 rfl) ho I.free
 · obtain ⟨v, o, ho, hd⟩ := I.cell x c e
   exact free c o (fun z => (hch c z).2.2.1 x c e rfl) ho (I.freeC x c e)
 · obtain ⟨e, n, ne, nf, d⟩ := I.pin p hp
   have nch : p.1 ∉ ch := fun z => (hch p.1 z).2.2.2 p hp rfl
   exact ⟨keep p.1 p.2 ne nf nch e n, free p.1 p.2 nch e n, ne, nf, d⟩
theorem Inv.un {t' : Nat} (I : Inv X pins σ H s) (u : Un X.fs [] H H' s.heap h') (hok : HOk X.prog X.w H' h') : Inv X pins σ H' { s with heap := h', toks := t' } := by
 obtain ⟨m, ⟨o, es, ep, ho, r⟩, _⟩ := id I.loc
 obtain ⟨sl, hL⟩ := u.any ho I.free (by simp)
 exact I.step (g' := s.gens) (d' := s.drawn) (ch := []) (fun _ z => nomatch z) (fun b o _ hb _ e n => u.keep b o e n hb (by simp)) (fun b o _ hb _ e n => u.slot b o e n hb (by simp)) (fun b o _ e n => u.free b o e n (by simp)) (fun b o _ e => u.there b o e (by simp)) u.tups u.frzs u.tbls (fun m' hm => by
  obtain ⟨o', es', ep', ho', r'⟩ := hm
  rw [ho] at ho'; cases ho'
  exact ⟨_, es', ep', hL, r'⟩) hok I.bare
theorem Inv.call {g' : Array GenState} {t' : Nat} {d' : Drawn} {ch : List Addr} (I : Inv X pins σ H s) (u : Un (vX X.stack) ch H H' s.heap h') (hok : HOk X.prog X.w H' h') (hg : AllBare g')
 (hch : ∀ b ∈ ch, (b ∈ X.ex ∨ X.s₀.heap.objs.size ≤ b) ∧ b ≠ X.env.locals ∧ (∀ x c, X.env.cells.lookup x = some c → c ≠ b) ∧ ∀ p ∈ X.pn ++ pins, p.1 ≠ b) :
 Inv X pins σ H' { s with heap := h', gens := g', drawn := d', toks := t' } := by
 obtain ⟨m, ⟨o, es, ep, ho, r⟩, _⟩ := id I.loc
 obtain ⟨sl, hL⟩ := u.any ho I.free fun z => (hch _ z).2.1 rfl
 exact I.step (ch := ch) hch (fun b o hL hb hc e n => u.keep b o e n (fun z => (List.mem_cons.mp (I.stkSub b z)).elim hL hb) hc) (fun b o _ _ hc e n => u.any e n hc) (fun b o hc e n => u.free b o e n hc) (fun b o hc e => u.there b o e hc) u.tups u.frzs u.tbls (fun m' hm => by
  obtain ⟨o', es', ep', ho', r'⟩ := hm
  rw [ho] at ho'; cases ho'
  exact ⟨_, es', ep', hL, r'⟩) hok hg
theorem Inv.turned {t' : Nat} {it : Addr} (I : Inv X pins σ H s) (k : ∀ b o, b ≠ it → s.heap.get? b = some o → h'.get? b = some o) (hn : H it = none) (hL : it ≠ X.env.locals)
 (h1 : it ∈ X.ex ∨ X.s₀.heap.objs.size ≤ it) (h2 : ∀ x c, X.env.cells.lookup x = some c → c ≠ it) (h3 : ∀ p ∈ X.pn ++ pins, p.1 ≠ it) : Inv X pins σ H { s with heap := h', toks := t' } := by
 have nit : ∀ b u, H b = some u → b ≠ it := fun b u e z => by rw [z, hn] at e; cases e
 refine I.step (g' := s.gens) (d' := s.drawn) (ch := [it]) (fun b hb => ?_) (fun b o _ _ hc e _ => k b o (fun z => hc (by simp [z])) e) (fun b o _ _ hc e _ => ⟨o.slots, k b o (fun z => hc (by simp [z])) e⟩) (fun _ _ _ _ n => n)
  (fun b o hc e => ⟨o, k b o (fun z => hc (by simp [z])) e⟩) (fun _ _ e => e) (fun _ _ _ e => e) (fun b ps e => ⟨#[], by rw [e]; simp⟩) (fun m hm => ?_) (fun b u e => ?_) I.bare
 · have e : b = it := by simpa using hb
   subst e
   exact ⟨h1, hL, h2, h3⟩
 · obtain ⟨o, es, ep, ho, r⟩ := hm
   exact ⟨o, es, ep, k _ o (Ne.symm hL) ho, r⟩
 · refine (I.hok b u e).stay (fun c v hc q => k c v ?_ q) (fun _ q => q) fun _ _ q => q
   rcases hc with z | z
   · rw [z]; exact nit b u e
   · exact nit c _ z
theorem Inv.tok (I : Inv X pins σ H s) (t : Nat) : Inv X pins σ H { s with toks := t } := I.un (h' := s.heap) (t' := t) Un.refl I.hok
theorem Inv.kept (I : Inv X pins σ H s) (k : ∀ b u, s.heap.get? b = some u → h'.get? b = some u) : Inv X pins σ H { s with heap := h', toks := t' } := I.un (Un.kept k) (I.hok.kept k)
theorem Inv.laid (I : Inv X pins σ H s) (k : ∀ b u, s.heap.get? b = some u → h'.get? b = some u) (hp : s.heap.objs.size ≤ a) (new : ObjOk X.prog X.w (upd H a o) h' a o) :
 Inv X pins σ (upd H a o) { s with heap := h', toks := t' } := I.un (Un.laid k hp (I.hok.fresh hp)) (I.hok.laid k hp new)
theorem Inv.write (I : Inv X pins σ H s) (mu : Mut (H x)) (he : e = x ∨ H e = some (.own x)) (k : ∀ b u, b ≠ e → s.heap.get? b = some u → h'.get? b = some u) (heo : ∃ u, h'.get? e = some u)
 (new : ObjOk X.prog X.w (upd H x o) h' x o) : Inv X pins σ (upd H x o) { s with heap := h', toks := t' } := I.un (Un.write mu he k heo) (I.hok.write mu he k heo new)
theorem Inv.weak (I : Inv X pins σ H s) (hl : σ'.length = σ.length) (w : ∀ (i : Nat) v, σ'[i]? = some (some v) → σ[i]? = some (some v)) : Inv X pins σ' H s :=
 ⟨I.ok, I.os, I.bare, I.base, let ⟨m, hn, hl'⟩ := I.loc; ⟨m, hn, fun i x v e1 e2 e3 => hl' i x v e1 (w i v e2) e3⟩, I.cell, I.free, I.freeC, I.pin, I.hok, hl.trans I.len⟩
theorem Inv.pins_of (I : Inv X pins σ H s) (h : ∀ p ∈ pins', s.heap.get? p.1 = some p.2 ∧ H p.1 = none ∧ p.1 ≠ X.env.locals ∧ p.1 ∉ X.fs ∧ ∀ v, p.2.data ≠ .cell v) : Inv X pins' σ H s :=
 ⟨I.ok, I.os, I.bare, I.base, I.loc, I.cell, I.free, I.freeC, fun p hp => (List.mem_append.mp hp).elim (fun z => I.pin p (List.mem_append_left _ z)) (h p), I.hok, I.len⟩
theorem bd1 {N : List Str} (hN : N.Nodup) {i j : Nat} {x : Str} (a : N[i]? = some x) (b : N[j]? = some x) : i = j := by
 obtain ⟨h1, e1⟩ := List.getElem?_eq_some_iff.mp a
 obtain ⟨h2, e2⟩ := List.getElem?_eq_some_iff.mp b
 exact (List.getElem_inj hN).mp (e1.trans e2.symm)
theorem ar6 {M : Model} {A : Around} {E : Value → Shared → Prop} {i : Nat} {x : Str} {v : V} {u : Value} {Q : Unit → Shared → Prop} (I : Inv X pins σ H s) (hN : X.N.Nodup) (hi : X.N[i]? = some x) (hx : Loc X.env.scope x) (r : RelV v u)
    (h : ∀ s', Inv X pins (σ.set i (some v)) H s' → (∃ a, Heap.SameBut a s.heap s'.heap ∧ (a = X.env.locals ∨ X.env.cells.lookup x = some a)) → Q () s') (hf : X.fn x = true ∨ X.env.scope.names.lookup x = some .local := by first | exact .inl rfl | exact .inr rfl | assumption) : wpAny M A (storeName X.env x u) Q E s := by
  obtain ⟨m, hn, hl⟩ := id I.loc
  have hcls : (X.env.scope.kind == .class || (X.env.scope.kind == .module && X.env.locals != X.env.globals)) = false := by rw [I.ok.kind]; rfl
  have hiσ : i < σ.length := by rw [I.len]; exact (List.getElem?_eq_some_iff.mp hi).1
  have cne := I.cne
  have tracked : ∀ {a : Addr} {h' : Heap}, (∃ o, s.heap.get? a = some o ∧ H a = none) → Heap.SameBut a s.heap h' → HOk X.prog X.w H h' := fun {a h'} ha hs b ob e => by
    obtain ⟨_, _, hfree⟩ := ha
    refine (I.hok b ob e).stay (fun c w' hc q => (hs.2 c ?_).trans q) (fun _ q => q) fun _ _ q => q
    rintro rfl
    rcases hc with rfl | hc
    · rw [hfree] at e; cases e
    · rw [hfree] at hc; cases hc
  rcases hx with hk | hk
  · refine wpAny_storeName_local hk hn (fun h' hn' hs => ?_) hcls
    obtain ⟨oL, _, _, hoL, _⟩ := id hn
    refine h _ ⟨I.ok, I.os, I.bare, ⟨fun b o e n hb hx => ?_, fun b o e n hb hx => ?_, I.base.free, fun b o e hx => ?_, I.base.tups, I.base.frzs, I.base.tbls⟩, ⟨_, hn', fun j y v' e1 e2 e3 => ?_⟩, fun y c e => ?_, I.free, I.freeC, fun p hp => ?_, tracked ⟨oL, hoL, I.free⟩ hs, by simpa using I.len⟩ ⟨_, hs, .inl rfl⟩
    · exact (hs.2 b (Nat.ne_of_lt (Nat.lt_of_lt_of_le (Heap.lt_size e) I.ok.above))).trans (I.base.keep b o e n hb hx)
    · obtain ⟨sl, e1⟩ := I.base.slot b o e n hb hx
      exact ⟨sl, (hs.2 b (Nat.ne_of_lt (Nat.lt_of_lt_of_le (Heap.lt_size e) I.ok.above))).trans e1⟩
    · obtain ⟨o', e1⟩ := I.base.there b o e hx
      exact ⟨o', (hs.2 b (Nat.ne_of_lt (Nat.lt_of_lt_of_le (Heap.lt_size e) I.ok.above))).trans e1⟩
    · by_cases hj : j = i
      · subst hj
        rw [hi] at e1; cases e1
        rw [List.getElem?_set_self hiσ] at e2
        cases e2
        exact ⟨u, r, .inl ⟨hk, by simp⟩⟩
      · rw [List.getElem?_set_ne (Ne.symm hj)] at e2
        obtain ⟨u', r', q⟩ := hl j y v' e1 e2 e3
        refine ⟨u', r', ?_⟩
        rcases q with ⟨k, e⟩ | ⟨k, c, e, z⟩
        · refine .inl ⟨k, ?_⟩
          have : y ≠ x := fun e => hj (bd1 hN e1 (e ▸ hi))
          simp [this, e]
        · exact .inr ⟨k, c, e, z.sameBut hs (cne y c e)⟩
    · obtain ⟨w', z⟩ := I.cell y c e
      exact ⟨w', z.sameBut hs (cne y c e)⟩
    · obtain ⟨e, n, ne, nf, d⟩ := I.pin p hp
      exact ⟨(hs.2 p.1 ne).trans e, n, ne, nf, d⟩
  · have hfn : X.fn x = true := by
      rcases hf with z | z
      · exact z
      · rw [z] at hk; cases hk
    obtain ⟨c, hc⟩ := I.ok.has x (.inl hk)
    obtain ⟨w', z⟩ := I.cell x c hc
    refine wpAny_storeName_cell I.ok.kind hk hc z (fun h' hc' hs => ?_)
    obtain ⟨oc, hoc, hocd⟩ := id z
    refine h { s with heap := h' } ⟨I.ok, I.os, I.bare, ⟨fun b o e n hb hx => ?_, fun b o e n hb hx => ?_, I.base.free, fun b o e hx => ?_, I.base.tups, I.base.frzs, I.base.tbls⟩, ⟨m, hn.sameBut hs (Ne.symm (cne x c hc)), fun j y v' e1 e2 e3 => ?_⟩, fun y c' e => ?_, I.free, I.freeC, fun p hp => ?_, tracked ⟨oc, hoc, I.freeC x c hc⟩ hs, by simpa using I.len⟩ ⟨c, hs, .inr hc⟩
    · exact (hs.2 b (Nat.ne_of_lt (Nat.lt_of_lt_of_le (Heap.lt_size e) (I.ok.cab x c hfn hc)))).trans (I.base.keep b o e n hb hx)
    · obtain ⟨sl, e1⟩ := I.base.slot b o e n hb hx
      exact ⟨sl, (hs.2 b (Nat.ne_of_lt (Nat.lt_of_lt_of_le (Heap.lt_size e) (I.ok.cab x c hfn hc)))).trans e1⟩
    · obtain ⟨o', e1⟩ := I.base.there b o e hx
      exact ⟨o', (hs.2 b (Nat.ne_of_lt (Nat.lt_of_lt_of_le (Heap.lt_size e) (I.ok.cab x c hfn hc)))).trans e1⟩
    · by_cases hj : j = i
      · subst hj
        rw [hi] at e1; cases e1
        rw [List.getElem?_set_self hiσ] at e2
        cases e2
        exact ⟨u, r, .inr ⟨.inl hk, c, hc, hc'⟩⟩
      · rw [List.getElem?_set_ne (Ne.symm hj)] at e2
        obtain ⟨u', r', q⟩ := hl j y v' e1 e2 e3
        refine ⟨u', r', ?_⟩
        rcases q with q | ⟨k, c', e, z'⟩
        · exact .inl q
        · refine .inr ⟨k, c', e, z'.sameBut hs ?_⟩
          rintro rfl
          exact hj (bd1 hN e1 (I.ok.inj _ _ _ e hc ▸ hi))
    · by_cases hcc : c' = c
      · subst hcc; exact ⟨_, hc'⟩
      · obtain ⟨w2, z2⟩ := I.cell y c' e
        exact ⟨w2, z2.sameBut hs hcc⟩
    · obtain ⟨e, n, ne, nf, d⟩ := I.pin p hp
      refine ⟨(hs.2 p.1 ?_).trans e, n, ne, nf, d⟩
      intro q
      rw [q, hoc] at e
      have q' : oc = p.2 := Option.some.inj e
      exact d w' (by rw [← q']; exact hocd)
theorem ak9 (I : Inv X pins σ H s) (hN : X.N.Nodup) (hi : X.N[i]? = some x) (hx : Loc X.env.scope x) (r : RelV v u)
 (h : ∀ s', Inv X pins (σ.set i (some v)) H s' → Q () s') (hf : X.fn x = true ∨ X.env.scope.names.lookup x = some .local := by first | exact .inl rfl | exact .inr rfl | assumption) : wpAny M A (storeName X.env x u) Q E s :=
 ar6 I hN hi hx r (fun s' I' _ => h s' I') hf
theorem Inv.call' (I : Inv X pins σ H s) (ho : s'.os = s.os) (u : Un (vX X.stack) ch H H' s.heap s'.heap) (hok : HOk X.prog X.w H' s'.heap) (hg : AllBare s'.gens)
 (hch : ∀ b ∈ ch, (b ∈ X.ex ∨ X.s₀.heap.objs.size ≤ b) ∧ b ≠ X.env.locals ∧ (∀ x c, X.env.cells.lookup x = some c → c ≠ b) ∧ ∀ p ∈ X.pn ++ pins, p.1 ≠ b) : Inv X pins σ H' s' := by
 obtain ⟨h', g', d', t', o'⟩ := s'
 have e : o' = s.os := ho
 subst e
 exact I.call (g' := g') (t' := t') (d' := d') u hok hg hch
end
abbrev XK := Value → Option Addr → Hp → Prop
abbrev St := List (Option V)
abbrev VK := V → Hp → Prop
abbrev TE := St → Hp → VK → Prop
abbrev TT := St → Hp → (Bool → Hp → Prop) → Prop
abbrev TA := St → Hp → (List V → Hp → Prop) → Prop
structure aa1 where
 nx : St → Hp → Prop
 rt : VK
 bk : St → Hp → Prop := fun _ _ => False
 ct : St → Hp → Prop := fun _ _ => False
abbrev TS := aa1 → St → Hp → Prop
def EP (X : Cx) (pins : List (Addr × Obj)) (σ : St) (Q : VK) (u : Value) (s' : Shared) : Prop := ∃ v H', Inv X pins σ H' s' ∧ RelV v u ∧ Q v H'
def TP (X : Cx) (pins : List (Addr × Obj)) (σ : St) (Q : Bool → Hp → Prop) (b : Bool) (s' : Shared) : Prop := ∃ H', Inv X pins σ H' s' ∧ Q b H'
def AP (X : Cx) (pins : List (Addr × Obj)) (σ : St) (Q : List V → Hp → Prop) (us : List Value) (s' : Shared) : Prop := ∃ vs H', Inv X pins σ H' s' ∧ Vals vs us ∧ Q vs H'
def SP (X : Cx) (pins : List (Addr × Obj)) (D : aa1) (f : Flow) (s' : Shared) : Prop :=
 match f with
 | .next => ∃ σ' H', Inv X pins σ' H' s' ∧ D.nx σ' H'
 | .brk => ∃ σ' H', Inv X pins σ' H' s' ∧ D.bk σ' H'
 | .cont => ∃ σ' H', Inv X pins σ' H' s' ∧ D.ct σ' H'
 | .ret u => ∃ v σ' H', Inv X pins σ' H' s' ∧ RelV v u ∧ D.rt v H'
def PE (X : Cx) (e : Expr) (t : TE) : Prop :=
 ∀ (pins : List (Addr × Obj)) (s : Shared) (σ : St) (H : Hp) (Q : VK), Inv X pins σ H s → t σ H Q → wpAny (model X.prog X.w) X.A (eval e X.env) (EP X pins σ Q) X.xe s
def PT (X : Cx) (e : Expr) (t : TT) : Prop :=
 ∀ (pins : List (Addr × Obj)) (s : Shared) (σ : St) (H : Hp) (Q : Bool → Hp → Prop), Inv X pins σ H s → t σ H Q → wpAny (model X.prog X.w) X.A (isTrue e X.env (eval e X.env)) (TP X pins σ Q) X.xe s
def PW (X : Cx) (e : Expr) (t : TT) : Prop :=
 ∀ (whole : Sem Value) (pins : List (Addr × Obj)) (s : Shared) (σ : St) (H : Hp) (Q : Bool → Hp → Prop), Inv X pins σ H s → t σ H Q → wpAny (model X.prog X.w) X.A (isTrue e X.env whole) (TP X pins σ Q) X.xe s
theorem PW.pt (h : PW X e t) : PT X e t := h _
def PA (X : Cx) (es : List Expr) (t : TA) : Prop :=
 ∀ (pos : Pos) (pins : List (Addr × Obj)) (s : Shared) (σ : St) (H : Hp) (Q : List V → Hp → Prop), Inv X pins σ H s → t σ H Q → wpAny (model X.prog X.w) X.A (spliced (backTo pos (starEach es X.env))) (AP X pins σ Q) X.xe s
def PS (X : Cx) (st : Stmt) (t : TS) : Prop :=
 ∀ (pins : List (Addr × Obj)) (s : Shared) (σ : St) (H : Hp) (D : aa1), Inv X pins σ H s → t D σ H → wpAny (model X.prog X.w) X.A (exec st X.env) (SP X pins D) X.xe s
def PSs (X : Cx) (st : List Stmt) (t : TS) : Prop :=
 ∀ (pins : List (Addr × Obj)) (s : Shared) (σ : St) (H : Hp) (D : aa1), Inv X pins σ H s → t D σ H → wpAny (model X.prog X.w) X.A (execs st X.env) (SP X pins D) X.xe s
theorem cR (h : wpAny M A t Q E s) (hQ : ∀ a s, Q a s → Q' a s) : wpAny M A t Q' E s := wpAny_mono h hQ fun _ _ x => x
end L2
namespace L2
open PySem PySem.Spec PyProof.Rows
section
variable {X : Cx}
theorem bin {a b : Expr} {ta tb : TE} (ha : PE X a ta) (hb : PE X b tb) {pins : List (Addr × Obj)} {s : Shared} {σ : St} {H : Hp} {R : V → V → Hp → Prop} (I : Inv X pins σ H s) (h : ta σ H fun x H1 => tb σ H1 fun y H2 => R x y H2)
 {α : Type} {Q : α → Shared → Prop} {f : Value → Value → Sem α}
 (hf : ∀ v u s2 x y H2, Inv X pins σ H2 s2 → RelV x v → RelV y u → R x y H2 → wpAny (model X.prog X.w) X.A (f v u) Q X.xe s2) :
 wpAny (model X.prog X.w) X.A (eval a X.env) (fun v s₁ => wpAny (model X.prog X.w) X.A (eval b X.env) (fun u s₂ => wpAny (model X.prog X.w) X.A (f v u) Q X.xe s₂) X.xe s₁) X.xe s := by
 refine cR (ha pins s σ H _ I h) fun v s1 ⟨x, H1, I1, r1, q1⟩ => ?_
 refine cR (hb pins s1 σ H1 _ I1 q1) fun u s2 ⟨y, H2, I2, r2, q2⟩ => ?_
 exact hf v u s2 x y H2 I2 r1 r2 q2
def ax9 (i : Nat) : TE := fun σ H Q => ∃ v, σ[i]? = some (some v) ∧ Q v H
def tC (v : V) : TE := fun _ H Q => Q v H
theorem cu9 (hN : X.N[i]? = some x) (hv : Vis X.env.scope x) (hd : (x == ("__debug__" : Str)) = false := by decide) (hcd : (x == ("__classdict__" : Str)) = false := by decide) : PE X (.Name x pos) (ax9 i) := by
 intro pins s σ H Q I h
 obtain ⟨v, e, h⟩ := h
 obtain ⟨m, hn, hl⟩ := I.loc
 obtain ⟨u, r, l⟩ := hl i x v hN e hv
 have cE : EP X pins σ Q u s := ⟨v, H, I, r, h⟩
 rcases l with ⟨hk, hm⟩ | ⟨hk, c, hc, hcell⟩
 · exact wpAny_Name (wpAny_loadName_local I.ok.kind hk hn hm cE) hd
 · rcases hk with hk | hk
   · exact wpAny_Name (wpAny_loadName_cell I.ok.kind hk hc hcell cE) hd
   · exact wpAny_Name (wpAny_loadName_free I.ok.kind hk hc hcell cE hcd) hd
theorem aF {i j pos} : PE X (.Constant (.int i) j pos) (tC (.int i)) := fun _ _ _ H _ I h => wpAny_Constant_int ⟨.int i, H, I.tok _, ⟨_, rfl⟩, h⟩
theorem mM {b j pos} : PE X (.Constant (.bool b) j pos) (tC (.bl b)) := fun _ _ _ H _ I h => Constant_bool ⟨.bl b, H, I, rfl, h⟩
theorem eH {j pos} : PE X (.Constant .none j pos) (tC .non) := fun _ _ _ H _ I h => Constant_none ⟨.non, H, I, rfl, h⟩
theorem cF {x j pos} : PE X (.Constant (.str x) j pos) (tC (.str x)) := fun _ _ _ H _ I h => Calls.Constant_str ⟨.str x, H, I.tok _, ⟨_, rfl⟩, h⟩
def Gl (X : Cx) (x : Str) : Prop := X.env.kindOf x = some .globalImplicit
theorem wF (I : Inv X pins σ H s) (hg : Gl X x) (hm : X.mg x = some u) (h : Q u s)
 (hd : (x == ("__debug__" : Str)) = false := by decide) : wpAny (model X.prog X.w) X.A (eval (.Name x pos) X.env) Q E s :=
 Calls.Name_function_global I.ok.kind hg (Calls.loadGlobal_global (by rw [I.ok.glob]; exact I.mod.glob.keeps I.bk) hm h) hd
theorem pS (I : Inv X pins σ H s) (hg : Gl X x) (hm : X.mg x = none) (hv : bootBuiltins x = some u) (h : Q u s)
 (hn : x ≠ "__name__" := by decide) (hd : (x == ("__debug__" : Str)) = false := by decide) : wpAny (model X.prog X.w) X.A (eval (.Name x pos) X.env) Q E s := by
 obtain ⟨mb, h1, h2⟩ := I.mod.blt
 exact Calls.Name_function_global I.ok.kind hg (Calls.loadGlobal_builtin (by rw [I.ok.glob]; exact I.mod.glob.keeps I.bk) hm (by rw [I.ok.blt]; exact h1.keeps I.bk) ((h2 x hn).trans hv) h) hd
theorem ci5 (hg : Gl X x) (hm : X.mg x = some u) (r : RelV v u) (hd : (x == ("__debug__" : Str)) = false := by decide) : PE X (.Name x pos) (tC v) :=
 fun _ _ _ H _ I h => wF I hg hm ⟨v, H, I, r, h⟩ hd
theorem ca6 (hg : Gl X x) (hm : X.mg x = none) (hv : bootBuiltins x = some u) (r : RelV v u) (hn : x ≠ "__name__" := by decide) (hd : (x == ("__debug__" : Str)) = false := by decide) : PE X (.Name x pos) (tC v) :=
 fun _ _ _ H _ I h => pS I hg hm hv ⟨v, H, I, r, h⟩ hn hd
variable {a b : Expr} {ta tb : TE} {pos : Pos}
def PC (X : Cx) (op : CmpOp) (a b : Expr) (t : TE) : Prop :=
 ∀ (pins : List (Addr × Obj)) (s : Shared) (σ : St) (H : Hp) (Q : VK), Inv X pins σ H s → t σ H Q →
  wpAny (model X.prog X.w) X.A (eval a X.env) (fun v s₁ => wpAny (model X.prog X.w) X.A (eval b X.env) (fun u s₂ => wpAny (model X.prog X.w) X.A (compareOp op v u) (EP X pins σ Q) X.xe s₂) X.xe s₁) X.xe s
def tB (t : TE) : TT := fun σ H Q => t σ H fun x H1 => ∃ c, x = .bl c ∧ Q c H1
theorem dl2 (h : PC X op a b t) (h1 : behindInMarks op b = false := by first | exact du6 _ (by decide) (by decide) | rfl) : PT X (.Compare a [op] [b] pos) (tB t) := by
 intro pins s σ H Q I hw
 refine wpAny_isTrue_Compare1 (cR (h pins s σ H _ I hw) fun v s1 h1 => cR h1 fun u s2 h2 => cR h2 fun c s3 ⟨x, H1, I1, r1, q1⟩ => ?_) h1
 obtain ⟨d, rfl, q⟩ := q1
 cases r1
 exact wpAny_truthy_bool ⟨H1, I1, q⟩
variable {tA tB' : TT} {rest : List Expr}
def dt0 (t u : TT) : TT := fun σ H Q => t σ H fun c H1 => if c = true then u σ H1 Q else Q false H1
def tOr (t u : TT) : TT := fun σ H Q => t σ H fun c H1 => if c = true then Q true H1 else u σ H1 Q
def cr8 (t : TT) : TT := fun σ H Q => t σ H fun c H1 => Q (!c) H1
theorem pX (ha : PT X a tA) : PW X (.BoolOp .And [a] pos) tA := by
 intro wh pins s σ H Q I h
 refine isTrue_and (cR (ha pins s σ H Q I h) fun c s1 e => ?_)
 cases c with
 | true => exact isTrue_and_nil e
 | false => exact e
theorem wA (ha : PT X a tA) : PW X (.BoolOp .Or [a] pos) tA := by
 intro wh pins s σ H Q I h
 refine isTrue_or (cR (ha pins s σ H Q I h) fun c s1 e => ?_)
 cases c with
 | false => exact isTrue_or_nil e
 | true => exact e
theorem tK (ha : PT X a tA) (hb : PW X (.BoolOp .And (b :: rest) pos) tB') : PW X (.BoolOp .And (a :: b :: rest) pos) (dt0 tA tB') := by
 intro wh pins s σ H Q I h
 refine isTrue_and (cR (ha pins s σ H _ I h) fun c s1 ⟨H1, I1, q1⟩ => ?_)
 cases c with
 | true => exact hb wh pins s1 σ H1 Q I1 q1
 | false => exact ⟨H1, I1, q1⟩
theorem wO (ha : PT X a tA) (hb : PW X (.BoolOp .Or (b :: rest) pos) tB') : PW X (.BoolOp .Or (a :: b :: rest) pos) (tOr tA tB') := by
 intro wh pins s σ H Q I h
 refine isTrue_or (cR (ha pins s σ H _ I h) fun c s1 ⟨H1, I1, q1⟩ => ?_)
 cases c with
 | true => exact ⟨H1, I1, q1⟩
 | false => exact hb wh pins s1 σ H1 Q I1 q1
theorem iN (ha : PT X a tA) : PT X (.UnaryOp .Not a pos) (cr8 tA) := by
 intro pins s σ H Q I h
 exact isTrue_not (ha pins s σ H (fun c H1 => Q (!c) H1) I h)
def cn4 (ta tb : TE) : TE := fun σ H Q => ta σ H fun x H1 => ∃ c, x = .bl c ∧ if c = true then tb σ H1 Q else Q (.bl false) H1
def cw4 (ta : TE) : TE := fun σ H Q => ta σ H fun x H1 => ∃ c, x = .bl c ∧ Q (.bl (!c)) H1
theorem tP {op} (h : PE X a t) : PE X (.BoolOp op [a] pos) t := fun pins s σ H Q I hw => BoolOp_one (h pins s σ H Q I hw)
theorem tJ (ha : PE X a ta) (hb : PE X (.BoolOp .And (b :: rest) pos) tb) : PE X (.BoolOp .And (a :: b :: rest) pos) (cn4 ta tb) := by
 intro pins s σ H Q I h
 refine BoolOp_and (cR (ha pins s σ H _ I h) fun v s1 ⟨x, H1, I1, r1, q1⟩ => ?_)
 obtain ⟨c, rfl, q1⟩ := q1
 cases r1
 refine wpAny_truthy_bool ?_
 cases c with
 | true => exact hb pins s1 σ H1 Q I1 q1
 | false => exact ⟨.bl false, H1, I1, rfl, q1⟩
theorem dk1 (ha : PE X a ta) : PE X (.UnaryOp .Not a pos) (cw4 ta) := by
 intro pins s σ H Q I h
 refine UnaryOp_ (cR (ha pins s σ H _ I h) fun v s1 ⟨x, H1, I1, r1, q1⟩ => ?_)
 obtain ⟨c, rfl, q1⟩ := q1
 cases r1
 exact not_of (wpAny_truthy_bool ⟨.bl (!c), H1, I1, rfl, q1⟩)
def tIf (t : TT) (ta tb : TE) : TE := fun σ H Q => t σ H fun c H1 => if c = true then ta σ H1 Q else tb σ H1 Q
theorem as1 (hc : PT X c tA) (ha : PE X a ta) (hb : PE X b tb) : PE X (.IfExp c a b pos) (tIf tA ta tb) := by
 intro pins s σ H Q I h
 refine wpAny_IfExp (cR (hc pins s σ H _ I h) fun d s1 ⟨H1, I1, q1⟩ => ?_)
 cases d with
 | true => exact ha pins s1 σ H1 Q I1 q1
 | false => exact hb pins s1 σ H1 Q I1 q1
end
end L2
namespace L2
open PySem PySem.Spec PyProof.Rows
def SqL (K : PySem.W.Frag) (H : Hp) (a : Addr) (xs : List V) : Prop :=
 Rd H a (.lst xs) ∨
  ∃ (o : Obj) (its : Array Value) (n : Nat), K.lookup a = some o ∧ o.cls = .type "list" ∧ o.dict = none ∧ o.data = .seq its n ∧ its.size ≤ sizeLine ∧ Vals xs its.toList
def SqT (K : PySem.W.Frag) (H : Hp) (a : Addr) (xs : List V) : Prop :=
 Rd H a (.tup xs) ∨
  ∃ (o : Obj) (its : Array Value) (n : Nat), K.lookup a = some o ∧ o.cls = .type "tuple" ∧ o.data = .seq its n ∧ its.size ≤ sizeLine ∧ Vals xs its.toList
def di7 : Value → Option V
 | .none => some .non
 | .bool b => some (.bl b)
 | .int i _ => some (.int i)
 | .str x _ => some (.str x)
 | .bytes b _ => some (.byt b)
 | .float b _ => some (.flt b)
 | .ref a => some (.ref a)
 | .type n => some (.ty n)
 | _ => none
theorem RelV.abs (r : RelV x u) : di7 u = some x := by
 cases x with
 | non => cases r; rfl
 | bl _ => cases r; rfl
 | int _ => obtain ⟨t, rfl⟩ := r; rfl
 | str _ => obtain ⟨t, rfl⟩ := r; rfl
 | byt _ => obtain ⟨t, rfl⟩ := r; rfl
 | flt _ => obtain ⟨t, rfl⟩ := r; rfl
 | ref _ => cases r; rfl
 | ty _ => cases r; rfl
theorem RelV.inj (r : RelV x u) (q : RelV y u) : x = y := Option.some.inj (r.abs.symm.trans q.abs)
theorem Vals.inj : ∀ {xs ys : List V} {us : List Value}, Vals xs us → Vals ys us → xs = ys
 | _, _, _, .nil, .nil => rfl
 | _, _, _, .cons r t, .cons r' t' => by rw [r.inj r', Vals.inj t t']
section
variable {X : Cx} {pins : List (Addr × Obj)} {σ : St} {H : Hp} {s : Shared} {a : Addr} {xs ys : List V}
theorem SqL.of {K : PySem.W.Frag} (h : H a = some (.lst xs)) : SqL K H a xs := .inl (.inl h)
theorem SqT.of {K : PySem.W.Frag} (h : H a = some (.tup xs)) : SqT K H a xs := .inl (.inl h)
theorem Inv.list (I : Inv X pins σ H s) (h : SqL X.K H a xs) : ∃ its : List Value, Vals xs its ∧ PlainL s.heap a its.toArray ∧ xs.length ≤ sizeLine := by
 rcases h with h | ⟨o, its, n, hk, hc, hd, hs, hz, r⟩
 · obtain ⟨z, its, n, r, e⟩ := h.ok I.hok
   exact ⟨its, r, ⟨_, n, e, rfl, rfl, rfl⟩, z⟩
 · refine ⟨its.toList, r, ⟨o, n, I.kIn a o hk, hc, hd, by simpa using hs⟩, ?_⟩
   have e := r.length
   simp only [Array.length_toList] at e
   omega
theorem Inv.tuple (I : Inv X pins σ H s) (h : SqT X.K H a xs) : ∃ its : List Value, Vals xs its ∧ IsTup s.heap a its.toArray ∧ xs.length ≤ sizeLine := by
 rcases h with h | ⟨o, its, n, hk, hc, hs, hz, r⟩
 · obtain ⟨z, its, r, p⟩ := h.ok I.hok
   exact ⟨its, r, p, z⟩
 · refine ⟨its.toList, r, ⟨o, I.kIn a o hk, hc, n, by simpa using hs⟩, ?_⟩
   have e := r.length
   simp only [Array.length_toList] at e
   omega
theorem Inv.list_inj (I : Inv X pins σ H s) (h : SqL X.K H a xs) (h' : SqL X.K H a ys) : xs = ys := by
 obtain ⟨its, r, ⟨o, n, e, _, _, d⟩, _⟩ := I.list h
 obtain ⟨its', r', ⟨o', n', e', _, _, d'⟩, _⟩ := I.list h'
 rw [e] at e'; cases e'
 rw [d] at d'
 injection d' with d1 _
 have : its = its' := by simpa using congrArg Array.toList d1
 subst this
 exact r.inj r'
theorem Inv.tuple_inj (I : Inv X pins σ H s) (h : SqT X.K H a xs) (h' : SqT X.K H a ys) : xs = ys := by
 obtain ⟨its, r, ⟨o, e, _, n, d⟩, _⟩ := I.tuple h
 obtain ⟨its', r', ⟨o', e', _, n', d'⟩, _⟩ := I.tuple h'
 rw [e] at e'; cases e'
 rw [d] at d'
 injection d' with d1 _
 have : its = its' := by simpa using congrArg Array.toList d1
 subst this
 exact r.inj r'
end
abbrev Cx.wish (X : Cx) (E : Value → Shared → Prop) : Cx := { X with xe := E }
abbrev Cx.nox (X : Cx) : Cx := X.wish fun _ _ => False
theorem Cx.Ok.wish {X : Cx} (ok : X.Ok) (E : Value → Shared → Prop) : (X.wish E).Ok :=
 ⟨ok.mod, ok.kind, ok.glob, ok.blt, ok.above, ok.inj, ok.has, ok.cab, ok.hd, ok.frames, ok.stk, ok.exf, ok.bs, ok.bsz, ok.noex, ok.exfs, ok.funs, ok.frf⟩
theorem Cx.Ok.unwish {X : Cx} {E : Value → Shared → Prop} (ok : (X.wish E).Ok) : X.Ok :=
 ⟨ok.mod, ok.kind, ok.glob, ok.blt, ok.above, ok.inj, ok.has, ok.cab, ok.hd, ok.frames, ok.stk, ok.exf, ok.bs, ok.bsz, ok.noex, ok.exfs, ok.funs, ok.frf⟩
section
variable {X : Cx} {pins : List (Addr × Obj)} {σ : St} {H : Hp} {s : Shared} {E : Value → Shared → Prop}
theorem Inv.wish (I : Inv X pins σ H s) (E : Value → Shared → Prop) : Inv (X.wish E) pins σ H s := ⟨I.ok.wish E, I.os, I.bare, I.base, I.loc, I.cell, I.free, I.freeC, I.pin, I.hok, I.len⟩
theorem Inv.unwish (I : Inv (X.wish E) pins σ H s) : Inv X pins σ H s := ⟨I.ok.unwish, I.os, I.bare, I.base, I.loc, I.cell, I.free, I.freeC, I.pin, I.hok, I.len⟩
theorem SP.unwish (h : SP (X.wish E) pins D f s') : SP X pins D f s' := by
 cases f with
 | next => obtain ⟨σ', H', I, q⟩ := h; exact ⟨σ', H', I.unwish, q⟩
 | brk => obtain ⟨σ', H', I, q⟩ := h; exact ⟨σ', H', I.unwish, q⟩
 | cont => obtain ⟨σ', H', I, q⟩ := h; exact ⟨σ', H', I.unwish, q⟩
 | ret u => obtain ⟨v, σ', H', I, r, q⟩ := h; exact ⟨v, σ', H', I.unwish, r, q⟩
theorem PSs.nox {st : List Stmt} {t : TS} (h : PSs X.nox st t) : PSs X st t := fun pins s σ H D I hw =>
 wpAny_mono (h pins s σ H D (I.wish _) hw) (fun _ _ q => q.unwish) fun _ _ z => False.elim z
end
section
variable {X : Cx} {st : Stmt} {rest : List Stmt} {t u : TS} {e : Expr} {te : TE} {pos : Pos}
def ct4 : TS := fun D σ H => D.nx σ H
def ct9 (t u : TS) : TS := fun D σ H => t { D with nx := u D } σ H
theorem bU : PSs X [] ct4 := fun _ _ σ H _ I h => wpAny_execs_nil ⟨σ, H, I, h⟩
theorem aI (h1 : PS X st t) (h2 : PSs X rest u) : PSs X (st :: rest) (ct9 t u) := by
 intro pins s σ H D I h
 refine wpAny_execs_cons (cR (h1 pins s σ H { D with nx := u D } I h) fun f s1 q => ?_)
 cases f with
 | next =>
  obtain ⟨σ', H', I', q⟩ := q
  exact h2 pins s1 σ' H' D I' q
 | ret v => exact q
 | brk => exact q
 | cont => exact q
theorem aM (h1 : PS X st t) : PSs X [st] t := by
 intro pins s σ H D I h
 refine wpAny_execs_cons (cR (h1 pins s σ H D I h) fun f s1 q => ?_)
 cases f with
 | next => exact wpAny_execs_nil q
 | ret v => exact q
 | brk => exact q
 | cont => exact q
theorem Inv.quiet (I : Inv X pins σ H s) : interactive X.env = false := by simp [interactive, I.ok.kind]
def bz5 (te : TE) : TS := fun D σ H => te σ H fun _ H1 => D.nx σ H1
theorem fM (he : PE X e te) (hs : swapsWith e none pos.line X.env = pure false := by rfl) : PS X (.Expr e pos) (bz5 te) := by
 intro pins s σ H D I h
 exact wpAny_Expr_any (cR (he pins s σ H _ I h) fun v s1 ⟨x, H1, I1, r1, q1⟩ => ⟨σ, H1, I1, q1⟩) I.quiet hs
def dy2 (te : TE) : TS := fun D σ H => te σ H D.rt
theorem bD (he : PE X e te) : PS X (.Return (some e) pos) (dy2 te) := by
 intro pins s σ H D I h
 exact wpAny_Return_some (cR (he pins s σ H _ I h) fun v s1 ⟨x, H1, I1, r1, q1⟩ => ⟨x, σ, H1, I1, r1, q1⟩)
def di0 (c : TT) (t u : TS) : TS := fun D σ H => c σ H fun b H1 => if b = true then t D σ H1 else u D σ H1
theorem cQ (hc : PT X c tc) (ha : PSs X a t) (hb : PSs X b u) : PS X (.If c a b pos) (di0 tc t u) := by
 intro pins s σ H D I h
 refine wpAny_If (cR (hc pins s σ H _ I h) fun d s1 ⟨H1, I1, q1⟩ => ?_)
 cases d with
 | true => exact ha pins s1 σ H1 D I1 q1
 | false => exact hb pins s1 σ H1 D I1 q1
end
abbrev TG := V → St → Hp → (St → Hp → Prop) → Prop
abbrev TGs := List V → St → Hp → (St → Hp → Prop) → Prop
def PG (X : Cx) (target : Expr) (t : TG) : Prop :=
 ∀ (pins : List (Addr × Obj)) (s : Shared) (σ : St) (H : Hp) (v : V) (u : Value) (Q : St → Hp → Prop), Inv X pins σ H s → RelV v u → t v σ H Q →
  wpAny (model X.prog X.w) X.A (assign target X.env u) (fun _ s' => ∃ σ' H', Inv X pins σ' H' s' ∧ Q σ' H') X.xe s
def PGs (X : Cx) (ts : List Expr) (t : TGs) : Prop :=
 ∀ (pins : List (Addr × Obj)) (s : Shared) (σ : St) (H : Hp) (vs : List V) (us : List Value) (Q : St → Hp → Prop), Inv X pins σ H s → Vals vs us → t vs σ H Q →
  wpAny (model X.prog X.w) X.A (assignInOrder ((assignEach ts X.env).map (·.2)) us) (fun _ s' => ∃ σ' H', Inv X pins σ' H' s' ∧ Q σ' H') X.xe s
abbrev dt2 := V → V → V → Hp → (Hp → Prop) → Prop
def dc2 (X : Cx) (t : dt2) : Prop :=
 ∀ (pins : List (Addr × Obj)) (s : Shared) (σ : St) (H : Hp) (o i v : V) (ov iv u : Value) (Q : Hp → Prop), Inv X pins σ H s → RelV o ov → RelV i iv → RelV v u → t o i v H Q →
  wpAny (model X.prog X.w) X.A (setItem ov iv u) (fun _ s' => ∃ H', Inv X pins σ H' s' ∧ Q H') X.xe s
section
variable {X : Cx} {pos : Pos}
def bp5 (i : Nat) : TG := fun v σ H Q => Q (σ.set i (some v)) H
theorem bC (hN : X.N.Nodup) (hi : X.N[i]? = some x) (hx : Loc X.env.scope x) (hf : X.fn x = true ∨ X.env.scope.names.lookup x = some .local := by first | exact .inl rfl | exact .inr rfl | assumption) : PG X (.Name x pos) (bp5 i) := by
 intro pins s σ H v u Q I r h
 exact wpAny_assign_Name (ak9 I hN hi hx r (fun s' I' => ⟨_, H, I', h⟩) hf)
def da0 : TGs := fun vs σ H Q => vs = [] ∧ Q σ H
def bo5 (t : TG) (u : TGs) : TGs := fun vs σ H Q => ∃ v r, vs = v :: r ∧ t v σ H fun σ' H' => u r σ' H' Q
theorem gL : PGs X [] da0 := by
 intro pins s σ H vs us Q I r h
 obtain ⟨e, h⟩ := h
 subst e
 cases r
 exact assignInOrder_nil ⟨σ, H, I, h⟩
theorem bV (h1 : PG X e t) (h2 : PGs X es u)
 (hs : (assignEach (e :: es) X.env).map (·.2) = assign e X.env :: (assignEach es X.env).map (·.2) := by rfl) : PGs X (e :: es) (bo5 t u) := by
 intro pins s σ H vs us Q I r h
 obtain ⟨v, vr, e1, h⟩ := h
 subst e1
 cases r with
 | cons r rr =>
  rw [hs]
  refine assignInOrder_cons (cR (h1 pins s σ H _ _ _ I r h) fun _ s1 ⟨σ1, H1, I1, q1⟩ => ?_)
  exact h2 pins s1 σ1 H1 _ _ Q I1 rr q1
def cl0 (K : PySem.W.Frag) (n : Nat) (t : TGs) : TG := fun v σ H Q => ∃ a xs, v = .ref a ∧ SqT K H a xs ∧ xs.length = n ∧ t xs σ H Q
theorem dm2 (hc : X.calm = true) (h : PGs X es t)
 (hn : (assignEach es X.env).length = n := by rfl) (hst : (assignEach es X.env).findIdx? (·.1) = none := by rfl) : PG X (.Tuple es k pos) (cl0 X.K n t) := by
 intro pins s σ H v u Q I r hw
 obtain ⟨a, xs, e1, hq, hl, hw⟩ := hw
 subst e1
 cases r
 obtain ⟨its, rv, ht, hz⟩ := I.tuple hq
 refine assign_Tuple_tuple (I.ok.hd hc) ht (by simp [hn, ← hl, rv.length]) hst fun h' hx => ?_
 have I1 : Inv X pins σ H { s with heap := h' } := I.kept (t' := s.toks) fun b o e => hx b o (Nat.ne_of_lt (Heap.lt_size e)) e
 exact h pins _ σ H xs _ Q I1 (by simpa using rv) hw
def da1 (to ti : TE) (t : dt2) : TG := fun v σ H Q => to σ H fun o H1 => ti σ H1 fun i H2 => t o i v H2 fun H3 => Q σ H3
theorem bj9 (ho : PE X o to) (hi : PE X i ti) (hs : dc2 X t)
 (ha : ∀ v, assign (.Subscript o i pos) X.env v = (do
  let ov ← holding [v] (eval o X.env)
  let iv ← holding [v, ov] (eval i X.env)
  standAt pos
  holding [v, ov, iv] (setItem ov iv v)
  release [v, ov, iv] []) := by intro _; rfl) : PG X (.Subscript o i pos) (da1 to ti t) := by
 intro pins s σ H v u Q I r h
 rw [ha]
 refine wpAny_bind (wpAny_holding (cR (ho pins s σ H _ I h) fun ov s1 ⟨x, H1, I1, r1, q1⟩ => ?_))
 refine wpAny_bind (wpAny_holding (cR (hi pins s1 σ H1 _ I1 q1) fun iv s2 ⟨y, H2, I2, r2, q2⟩ => ?_))
 refine wpAny_bind (wpAny_standAt (wpAny_bind (wpAny_holding (cR (hs pins s2 σ H2 x y v ov iv u _ I2 r1 r2 r q2) fun _ s3 ⟨H3, I3, q3⟩ => ?_))))
 exact wpAny_release ⟨σ, H3, I3, q3⟩
def by5 (te : TE) (g : TG) : TS := fun D σ H => te σ H fun x H1 => g x σ H1 D.nx
theorem yG (he : PE X e te) (hg : PG X tg g) (hs : swapsWithSole [tg] e pos.line X.env = pure false := by rfl) (hw : swappedStores [tg] e X.env = pure none := by rfl)
 (h1 : (assignEach [tg] X.env).map (·.2) = [assign tg X.env] := by rfl) : PS X (.Assign [tg] e pos) (by5 te g) := by
 intro pins s σ H D I h
 refine wpAny_Assign_stores (cR (he pins s σ H _ I h) fun v s1 ⟨x, H1, I1, r1, q1⟩ => ?_) hs hw
 rw [h1]
 exact cR (hg pins s1 σ H1 x v _ I1 r1 q1) fun _ s2 q => q
theorem aY (hN : X.N.Nodup) (hi : X.N[i]? = some x) (hx : Loc X.env.scope x) (he : PE X e te) (hs : swapsWith e (some (.Name x pos')) pos.line X.env = pure false := by rfl) (hf : X.fn x = true ∨ X.env.scope.names.lookup x = some .local := by first | exact .inl rfl | exact .inr rfl | assumption) :
 PS X (.Assign [.Name x pos'] e pos) (by5 te (bp5 i)) := by
 intro pins s σ H D I h
 refine wpAny_Assign_Name (cR (he pins s σ H _ I h) fun v s1 ⟨y, H1, I1, r1, q1⟩ => ?_) hs
 exact ak9 I1 hN hi hx r1 (fun s2 I2 => ⟨_, H1, I2, q1⟩) hf
end
section
variable {X : Cx} {pos : Pos}
end
structure It where
 go : Nat → Hp → Prop
 yld : Nat → Hp → V → Hp → Prop
 stop : Nat → Hp → Prop
def pW (X : Cx) (pins : List (Addr × Obj)) (H : Hp) (b : Addr) : Prop :=
 H b = none ∧ b ≠ X.env.locals ∧ b ∉ X.fs ∧ (b ∈ X.ex ∨ X.s₀.heap.objs.size ≤ b) ∧ (∀ x c, X.env.cells.lookup x = some c → c ≠ b) ∧ ∀ p ∈ X.pn ++ pins, p.1 ≠ b
theorem Inv.fpOk (I : Inv X pins σ H s) (hb : s.heap.objs.size ≤ b) (hn : H' b = none) : pW X pins H' b := by
 refine ⟨hn, Nat.ne_of_gt (Nat.lt_of_lt_of_le I.lt hb), I.nofs hb, .inr (Nat.le_trans I.sz hb), fun x c e z => ?_, fun p hp z => ?_⟩
 · obtain ⟨v, q⟩ := I.cell x c e
   exact absurd (Nat.lt_of_lt_of_le q.lt (by rw [z]; exact hb)) (Nat.lt_irrefl _)
 · exact absurd (Nat.lt_of_lt_of_le (Heap.lt_size (I.pin p hp).1) (by rw [z]; exact hb)) (Nat.lt_irrefl _)
structure yE (P : Program) (w : World) (K : PySem.W.Frag) (tg : Expr) (J : It) (fp : List Addr) (it : Addr) (tn : Nat → Heap → Prop) : Prop where
 mem : it ∈ fp
 obj : ∀ i h, tn i h → ∀ b ∈ fp, ∃ o, h.get? b = some o ∧ ∀ v, o.data ≠ .cell v
 keep : ∀ i h h', tn i h → (∀ b ∈ fp, ∀ o, h.get? b = some o → h'.get? b = some o) → tn i h'
 item : ∀ (X : Cx), X.prog = P → X.w = w → X.K = K → X.calm = true → ∀ (i : Nat) (pins : List (Addr × Obj)) (s : Shared) (σ : St) (H : Hp) (E : Value → Shared → Prop), Inv X pins σ H s → (∀ b ∈ fp, pW X pins H b) → tn i s.heap → J.go i H →
  wpAny (model P w) X.A (pyNext (.ref it)) (fun r s1 => ∃ u, r = some u ∧
   wpAny (model P w) X.A (letOwnedTupleGo tg (.ref it) u) (fun _ s2 => ∃ x H', Inv X pins σ H' s2 ∧ RelV x u ∧ J.yld i H x H' ∧ tn (i + 1) s2.heap ∧ ∀ b ∈ fp, H' b = none) E s1) E s
 done : ∀ (X : Cx), X.prog = P → X.w = w → X.K = K → X.calm = true → ∀ (i : Nat) (pins : List (Addr × Obj)) (s : Shared) (σ : St) (H : Hp) (E : Value → Shared → Prop), Inv X pins σ H s → (∀ b ∈ fp, pW X pins H b) → tn i s.heap → J.stop i H →
  wpAny (model P w) X.A (pyNext (.ref it)) (fun r s1 => r = none ∧ Inv X pins σ H s1) E s
 self : ∀ (A : Around) (i : Nat) (s : Shared) (Q : Value → Shared → Prop) (E : Value → Shared → Prop), tn i s.heap → Q (.ref it) s → wpAny (model P w) A (pyIter (.ref it)) Q E s
abbrev TI := St → Hp → (It → Hp → Prop) → Prop
def PIE (X : Cx) (pins : List (Addr × Obj)) (σ : St) (tg : Expr) (R : It → Hp → Prop) (itv : Value) (s2 : Shared) : Prop :=
 ∃ (it : Addr) (fp : List Addr) (tn : Nat → Heap → Prop) (J : It) (H' : Hp), itv = .ref it ∧ Inv X pins σ H' s2 ∧ yE X.prog X.w X.K tg J fp it tn ∧ tn 0 s2.heap ∧ (∀ b ∈ fp, pW X pins H' b) ∧ R J H'
def PI (X : Cx) (tg iter : Expr) (wi : TI) : Prop :=
 ∀ (pins : List (Addr × Obj)) (s : Shared) (σ : St) (H : Hp) (R : It → Hp → Prop), Inv X pins σ H s → wi σ H R →
  wpAny (model X.prog X.w) X.A (eval iter X.env) (fun v s1 => wpAny (model X.prog X.w) X.A (pyIter v) (PIE X pins σ tg R) X.xe s1) X.xe s
theorem be5 (ho : s.heap.get? it = some o) (hc : o.cls = .type n) (hd : o.data = .fields vs)
    (hn : ["enumerate", "zip", "dict_itemiterator", "dict_reverseitemiterator", "odict_iterator", "itertools.zip_longest", "itertools.pairwise"].contains n = false) (hQ : Q () s) : wpAny M A (letOwnedTupleGo tg (.ref it) u) Q E s := by
  unfold letOwnedTupleGo
  cases tg <;> first
    | exact wpAny_pure hQ
    | (cases u <;> first
        | exact wpAny_pure hQ
        | (refine wpAny_bind (wpAny_load ho ?_)
           rw [hc, hd]
           show wpAny M A (if (["enumerate", "zip", "dict_itemiterator", "dict_reverseitemiterator", "odict_iterator", "itertools.zip_longest", "itertools.pairwise"].contains n && vs[0]? == some (rawInt _)) = true then _ else _) Q E s
           rw [if_neg (by intro h; rw [hn, Bool.false_and] at h; cases h)]
           exact wpAny_pure hQ))
def Itl (K : PySem.W.Frag) (a : Addr) : It :=
 ⟨fun i H => ∃ xs x, SqL K H a xs ∧ xs[i]? = some x, fun i H x H' => H' = H ∧ ∀ xs, SqL K H a xs → xs[i]? = some x, fun i H => ∃ xs, SqL K H a xs ∧ xs.length ≤ i⟩
def Itt (K : PySem.W.Frag) (a : Addr) : It :=
 ⟨fun i H => ∃ xs x, SqT K H a xs ∧ xs[i]? = some x, fun i H x H' => H' = H ∧ ∀ xs, SqT K H a xs → xs[i]? = some x, fun i H => ∃ xs, SqT K H a xs ∧ xs.length ≤ i⟩
def Itr (lo : Int) (n : Nat) : It := ⟨fun i _ => i < n, fun i H x H' => H' = H ∧ x = .int (lo + i), fun i _ => n ≤ i⟩
theorem ba7 {P : Program} {w : World} {K : PySem.W.Frag} {tg : Expr} (a it : Addr) : yE P w K tg (Itl K a) [it] it (fun i h => h.IsListIter it a i) where
 mem := by simp
 obj := fun i h st b hb => by
  have e : b = it := by simpa using hb
  subst e
  obtain ⟨o, e, c, d⟩ := st
  exact ⟨o, e, fun v z => by rw [d] at z; cases z⟩
 keep := fun i h h' st k => st.at fun o e => k it (by simp) o e
 item := by
  intro X hP hw hK hc i pins s σ H E I hf st hg
  subst hP hw hK
  obtain ⟨xs, x, hq, hx⟩ := hg
  obtain ⟨its, rv, p, hz⟩ := I.list hq
  obtain ⟨u, hu, ru⟩ := rv.get hx
  obtain ⟨f0, f1, f2, f3, f4, f5⟩ := hf it (by simp)
  refine wpAny_pyNext_list_item st p.isList (x := u) (by simpa using hu) fun h' st' sb => ?_
  have I1 : Inv X pins σ H { s with heap := h' } := I.turned (t' := s.toks) (fun b o hb e => (sb.2 b hb).trans e) f0 f1 f3 f4 f5
  obtain ⟨o, e, c, d⟩ := id st'
  exact ⟨u, rfl, be5 (s := { s with heap := h' }) e c d (by decide) ⟨x, H, I1, ru, ⟨rfl, fun ys hy => by rw [I.list_inj hy hq]; exact hx⟩, st', fun b hb => (hf b hb).1⟩⟩
 done := by
  intro X hP hw hK hc i pins s σ H E I hf st hg
  subst hP hw hK
  obtain ⟨xs, hq, hx⟩ := hg
  obtain ⟨its, rv, p, hz⟩ := I.list hq
  obtain ⟨f0, f1, f2, f3, f4, f5⟩ := hf it (by simp)
  have hl := rv.length
  exact wpAny_pyNext_list_end (I.ok.hd hc) st p.isList (by simp; omega) fun h' eb => ⟨rfl, I.turned (t' := s.toks) (fun b o hb e => eb b o hb e) f0 f1 f3 f4 f5⟩
 self := fun _ _ _ _ _ st h => wpAny_pyIter_listiter st h
theorem bx5 {P : Program} {w : World} {K : PySem.W.Frag} {tg : Expr} (a it : Addr) : yE P w K tg (Itt K a) [it] it (fun i h => h.IsTupleIter it a i) where
 mem := by simp
 obj := fun i h st b hb => by
  have e : b = it := by simpa using hb
  subst e
  obtain ⟨o, e, c, d⟩ := st
  exact ⟨o, e, fun v z => by rw [d] at z; cases z⟩
 keep := fun i h h' st k => st.at fun o e => k it (by simp) o e
 item := by
  intro X hP hw hK hc i pins s σ H E I hf st hg
  subst hP hw hK
  obtain ⟨xs, x, hq, hx⟩ := hg
  obtain ⟨its, rv, p, hz⟩ := I.tuple hq
  obtain ⟨u, hu, ru⟩ := rv.get hx
  obtain ⟨f0, f1, f2, f3, f4, f5⟩ := hf it (by simp)
  refine wpAny_pyNext_tuple_item st (show s.heap.IsTuple a its.toArray from p) (x := u) (by simpa using hu) fun h' st' sb => ?_
  have I1 : Inv X pins σ H { s with heap := h' } := I.turned (t' := s.toks) (fun b o hb e => (sb.2 b hb).trans e) f0 f1 f3 f4 f5
  obtain ⟨o, e, c, d⟩ := id st'
  exact ⟨u, rfl, be5 (s := { s with heap := h' }) e c d (by decide) ⟨x, H, I1, ru, ⟨rfl, fun ys hy => by rw [I.tuple_inj hy hq]; exact hx⟩, st', fun b hb => (hf b hb).1⟩⟩
 done := by
  intro X hP hw hK hc i pins s σ H E I hf st hg
  subst hP hw hK
  obtain ⟨xs, hq, hx⟩ := hg
  obtain ⟨its, rv, p, hz⟩ := I.tuple hq
  obtain ⟨f0, f1, f2, f3, f4, f5⟩ := hf it (by simp)
  have hl := rv.length
  exact wpAny_pyNext_tuple_end (I.ok.hd hc) st (show s.heap.IsTuple a its.toArray from p) (by simp; omega) fun h' eb => ⟨rfl, I.turned (t' := s.toks) (fun b o hb e => eb b o hb e) f0 f1 f3 f4 f5⟩
 self := fun _ _ _ _ _ st h => wpAny_pyIter_tupleiter st h
theorem bz4 {P : Program} {w : World} {K : PySem.W.Frag} {tg : Expr} (it : Addr) (lo : Int) (n : Nat) : yE P w K tg (Itr lo n) [it] it (fun i h => IsRangeIter h it (lo + (i : Nat) * 1) ((n : Int) - (i : Nat)) 1) where
 mem := by simp
 obj := fun i h st b hb => by
  have e : b = it := by simpa using hb
  subst e
  exact ⟨_, st, fun v z => by
   have z' : Data.fields _ = Data.cell v := z
   cases z'⟩
 keep := fun i h h' st k => k it (by simp) _ st
 item := by
  intro X hP hw hK hc i pins s σ H E I hf st hg
  subst hP hw hK
  obtain ⟨f0, f1, f2, f3, f4, f5⟩ := hf it (by simp)
  have W := Walks.range (prog := X.prog) (w := X.w) (I.ok.hd hc) it lo 1 n
  refine W.item i s _ _ hg st fun v h' tk hv st' kk => ?_
  obtain ⟨t, rfl⟩ := hv
  have I1 : Inv X pins σ H { s with heap := h', toks := tk } := I.turned (fun b o hb e => kk b o (by simpa using hb) e) f0 f1 f3 f4 f5
  refine ⟨_, rfl, be5 (s := { s with heap := h', toks := tk }) (n := "range_iterator") st' rfl rfl (by decide) ⟨.int (lo + i), H, I1, ⟨t, ?_⟩, ⟨rfl, rfl⟩, st', fun b hb => (hf b hb).1⟩⟩
  rw [Int.mul_one]
 done := by
  intro X hP hw hK hc i pins s σ H E I hf st hg
  subst hP hw hK
  obtain ⟨f0, f1, f2, f3, f4, f5⟩ := hf it (by simp)
  exact wpAny_pyNext_range_end (I.ok.hd hc) st (by have : n ≤ i := hg; omega) fun h' eb => ⟨rfl, I.turned (t' := s.toks) (fun b o hb e => eb b o hb e) f0 f1 f3 f4 f5⟩
 self := fun _ _ _ _ _ st h => wpAny_pyIter_rangeiter st h
end L2
namespace L2
open PySem PySem.Spec PyProof.Rows
section
variable {X : Cx} {tg : Expr}
theorem bn1 {pins : List (Addr × Obj)} {σ : St} {H : Hp} {s : Shared} {R : It → Hp → Prop} {E : Value → Shared → Prop} {lo hi : Int} {t u v : Tok} {tk : Nat} (I : Inv X pins σ H s) (h1 : -(2 ^ 62) ≤ lo) (h2 : lo < 2 ^ 62) (h3 : -(2 ^ 62) ≤ hi) (h4 : hi < 2 ^ 62)
 (q : R (Itr lo (hi - lo).toNat) H) : wpAny (model X.prog X.w) X.A (pyIter (.ref s.heap.objs.size)) (PIE X pins σ tg R) E { s with heap := s.heap.push { cls := .type "range", data := .fields #[.int lo t, .int hi u, .int 1 v] }, toks := tk } := by
 refine wpAny_pyIter_range (IsRange.new ..) (small_one h1 h2 h3 h4) ?_
 have I1 : Inv X pins σ H { s with heap := s.heap.push { cls := .type "range", data := .fields #[.int lo t, .int hi u, .int 1 v] }, toks := tk } := I.kept fun b o e => Heap.get?_push_of_some _ e
 refine ⟨(s.heap.push { cls := .type "range", data := .fields #[.int lo t, .int hi u, .int 1 v] }).objs.size, [(s.heap.push { cls := .type "range", data := .fields #[.int lo t, .int hi u, .int 1 v] }).objs.size], _, _, H, rfl,
  I1.kept (t' := tk) fun b o e => Heap.get?_push_of_some _ e, bz4 _ lo (hi - lo).toNat, ?_, fun b hb => ?_, q⟩
 · have e1 : lo + ((0 : Nat) : Int) * 1 = lo := by simp
   have e2 : (((hi - lo).toNat : Nat) : Int) - ((0 : Nat) : Int) = Builtin.Range.rangeSize lo hi 1 := by rw [rangeSize_one]; split <;> omega
   show IsRangeIter _ _ (lo + ((0 : Nat) : Int) * 1) ((((hi - lo).toNat : Nat) : Int) - ((0 : Nat) : Int)) 1
   rw [e1, e2]
   exact Heap.get?_push_size _ rfl
 · have e : b = (s.heap.push { cls := .type "range", data := .fields #[.int lo t, .int hi u, .int 1 v] }).objs.size := by simpa using hb
   subst e
   exact I1.fpOk (Nat.le_refl _) (I1.hok.fresh (Nat.le_refl _))
def cp4 (ta : TA) : TI := fun σ H R => ta σ H fun vs H1 => ∃ j : Int, vs = [.int j] ∧ -(2 ^ 62) ≤ j ∧ j < 2 ^ 62 ∧ R (Itr 0 j.toNat) H1
def ca4 (ta : TA) : TI := fun σ H R => ta σ H fun vs H1 => ∃ i j : Int, vs = [.int i, .int j] ∧ (-(2 ^ 62) ≤ i ∧ i < 2 ^ 62 ∧ -(2 ^ 62) ≤ j ∧ j < 2 ^ 62) ∧ R (Itr i (j - i).toNat) H1
theorem iJ {a : Expr} {ta : TA} {p pos : Pos} (hg : Gl X "range") (hm : X.mg "range" = none) (ha : PA X [a] ta) (hs : starEach [a] X.env = [(false, eval a X.env)] := by rfl) : PI X tg (.Call (.Name "range" p) [a] [] pos) (cp4 ta) := by
 intro pins s σ H R I h
 refine Call_ (pS I hg hm boot_range (PyProof.Rows.callWith_type1 (cR (ha pos pins s σ H _ I h) fun us s1 ⟨vs, H1, I1, r1, q1⟩ => ?_) hs rfl))
 obtain ⟨j, e, q1, q2, q⟩ := q1
 subst e
 cases r1 with
 | cons r rr =>
  cases rr
  obtain ⟨t, rfl⟩ := r
  exact call_range_1 (bn1 I1 (by omega) (by omega) q1 q2 (by simpa using q))
theorem bs7 (hg : Gl X "range") (hm : X.mg "range" = none) (ha : PA X [a, b] ta) (hs : starEach [a, b] X.env = [(false, eval a X.env), (false, eval b X.env)] := by rfl) (hs2 : starEach [b] X.env = [(false, eval b X.env)] := by rfl) :
 PI X tg (.Call (.Name "range" p) [a, b] [] pos) (ca4 ta) := by
 intro pins s σ H R I h
 refine Call_ (pS I hg hm boot_range (PyProof.Rows.callWith_type1 (cR (ha pos pins s σ H _ I h) fun us s1 ⟨vs, H1, I1, r1, q1⟩ => ?_) (by rw [hs, hs2]) (by rw [hs2]; rfl)))
 obtain ⟨i, j, e, ⟨q1, q2, q3, q4⟩, q⟩ := q1
 subst e
 cases r1 with
 | cons r rr =>
  cases rr with
  | cons r' rr =>
   cases rr
   obtain ⟨t, rfl⟩ := r
   obtain ⟨t', rfl⟩ := r'
   exact call_range_2 (bn1 I1 q1 q2 q3 q4 q)
def dd1 (wi : TI) (g : TG) (tb : TS) : TS := fun D σ H => wi σ H fun J H1 => ∃ W : Nat → Nat → St → Hp → Prop, (∃ m, W 0 m σ H1) ∧ ∀ i m σ H, W i m σ H →
 (J.stop i H ∧ D.nx σ H) ∨ (J.go i H ∧ ∃ N : St → Hp → Prop, (∀ σ' H', N σ' H' → ∃ m', m' < m ∧ W (i + 1) m' σ' H') ∧ ∀ x H', J.yld i H x H' → g x σ H' fun σ2 H2 => tb { D with nx := N, ct := N, bk := D.nx } σ2 H2)
def vZ (fp : List Addr) (h : Heap) : List (Addr × Obj) := fp.filterMap fun b => (h.get? b).map fun o => (b, o)
theorem sP (hb : b ∈ fp) (e : h.get? b = some o) : (b, o) ∈ vZ fp h := List.mem_filterMap.mpr ⟨b, hb, by rw [e]; rfl⟩
theorem bz6 (hp : p ∈ vZ fp h) : p.1 ∈ fp ∧ h.get? p.1 = some p.2 := by
 obtain ⟨b, hb, e⟩ := List.mem_filterMap.mp hp
 cases q : h.get? b with
 | none => rw [q] at e; cases e
 | some o =>
  rw [q] at e
  have e' : (b, o) = p := Option.some.inj e
  subst e'
  exact ⟨hb, q⟩
theorem Inv.pinned (I : Inv X pins σ H s) (hf : ∀ b ∈ fp, pW X pins H b) (ho : ∀ b ∈ fp, ∃ o, s.heap.get? b = some o ∧ ∀ v, o.data ≠ .cell v) : Inv X (pins ++ vZ fp s.heap) σ H s :=
 I.pins_of fun p hp => (List.mem_append.mp hp).elim (fun z => I.pin p (List.mem_append_right _ z)) fun z => by
  obtain ⟨hb, e⟩ := bz6 z
  obtain ⟨f0, f1, f2, _⟩ := hf p.1 hb
  obtain ⟨o, e', d⟩ := ho p.1 hb
  rw [e] at e'; cases e'
  exact ⟨e, f0, f1, f2, d⟩
theorem Inv.unpinned (I : Inv X (pins ++ pl) σ H s) : Inv X pins σ H s := I.pins_of fun p hp => I.pin p (List.mem_append_right _ (List.mem_append_left _ hp))
theorem iM (hp : PassesOwn (model X.prog X.w) X.A X.env X.xe) (hc : X.calm = true) (hi : PI X tg iter wi) (hg : PG X tg g) (hb : PSs X body tb)
 (hs : ∀ x, foldedSetIterable iter X.env x = pure x := by intro _; rfl) : PS X (.For tg iter body [] pos) (dd1 wi g tb) := by
 intro pins s σ H D I h
 refine wpAny_For (cR (hi pins s σ H _ I h) fun v s1 h1 => cR h1 fun itv s2 h2 => ?_) hs
 obtain ⟨it, fp, tn, J, H2, e, I2, T, st2, f2, W, ⟨m0, w0⟩, turn⟩ := h2
 subst e
 have stat : ∀ {H' : Hp}, (∀ b ∈ fp, H' b = none) → ∀ b ∈ fp, pW X pins H' b := fun hn b hb => ⟨hn b hb, (f2 b hb).2⟩
 refine codeAny_forLoop_any (fun n s' => ∃ i σ' H', Inv X pins σ' H' s' ∧ tn i s'.heap ∧ (∀ b ∈ fp, H' b = none) ∧ W i n σ' H') ?_ m0 ⟨0, σ, H2, I2, st2, fun b hb => (f2 b hb).1, w0⟩
 rintro n s3 ⟨i, σ3, H3, I3, st3, fr3, w3⟩
 rcases turn i n σ3 H3 w3 with ⟨stop, qn⟩ | ⟨go, N, hN, step⟩
 · refine wpAny_passesOwn hp (cR (T.done X rfl rfl rfl hc i pins s3 σ3 H3 X.xe I3 (stat fr3) st3 stop) fun r s4 ⟨hr, I4⟩ => ?_)
   subst hr
   exact wpAny_execs_nil ⟨σ3, H3, I4, qn⟩
 · refine wpAny_passesOwn hp (cR (T.item X rfl rfl rfl hc i pins s3 σ3 H3 X.xe I3 (stat fr3) st3 go) fun r s4 ⟨u, hr, h4⟩ => ?_)
   subst hr
   refine wpAny_passesOwn hp (cR h4 fun _ s5 ⟨x, H5, I5, r5, y5, st5, fr5⟩ => ?_)
   have I5' := I5.pinned (stat fr5) (T.obj _ _ st5)
   refine wpAny_passesOwn hp (cR (hg _ s5 σ3 H5 x u _ I5' r5 (step x H5 y5)) fun _ s6 ⟨σ6, H6, I6, q6⟩ => ?_)
   refine wpAny_passesOwn hp (cR (hb _ s6 σ6 H6 _ I6 q6) fun f s7 q7 => ?_)
   have again : ∀ {σ7 : St} {H7 : Hp}, Inv X (pins ++ vZ fp s5.heap) σ7 H7 s7 → N σ7 H7 → ∃ m, m < n ∧ ∃ i σ' H', Inv X pins σ' H' s7 ∧ tn i s7.heap ∧ (∀ b ∈ fp, H' b = none) ∧ W i m σ' H' := fun {σ7 H7} I7 n7 => by
    obtain ⟨m', hm, w7⟩ := hN σ7 H7 n7
    refine ⟨m', hm, i + 1, σ7, H7, I7.unpinned, T.keep _ _ _ st5 fun b hb o e => (I7.pin (b, o) (List.mem_append_right _ (List.mem_append_right _ (sP hb e)))).1, fun b hb => ?_, w7⟩
    obtain ⟨o, e, d⟩ := T.obj _ _ st5 b hb
    exact (I7.pin (b, o) (List.mem_append_right _ (List.mem_append_right _ (sP hb e)))).2.1
   cases f with
   | next => obtain ⟨σ7, H7, I7, n7⟩ := q7; exact again I7 n7
   | cont => obtain ⟨σ7, H7, I7, n7⟩ := q7; exact again I7 n7
   | brk => obtain ⟨σ7, H7, I7, q7⟩ := q7; exact ⟨σ7, H7, I7.unpinned, q7⟩
   | ret v => obtain ⟨x7, σ7, H7, I7, r7, q7⟩ := q7; exact ⟨x7, σ7, H7, I7.unpinned, r7, q7⟩
end
end L2
namespace L2
open PySem PySem.Spec PyProof.Rows
abbrev R2 := V → V → Hp → VK → Prop
def OpR (X : Cx) (f : Value → Value → Sem Value) (r : R2) : Prop :=
 ∀ (pins : List (Addr × Obj)) (s : Shared) (σ : St) (H : Hp) (x y : V) (v u : Value) (Q : VK), Inv X pins σ H s → RelV x v → RelV y u → r x y H Q →
  wpAny (model X.prog X.w) X.A (f v u) (EP X pins σ Q) X.xe s
def UnR (X : Cx) (f : Value → Sem Value) (r : V → Hp → VK → Prop) : Prop :=
 ∀ (pins : List (Addr × Obj)) (s : Shared) (σ : St) (H : Hp) (x : V) (v : Value) (Q : VK), Inv X pins σ H s → RelV x v → r x H Q →
  wpAny (model X.prog X.w) X.A (f v) (EP X pins σ Q) X.xe s
def CallR (X : Cx) (f : Value) (r : List V → Hp → VK → Prop) : Prop :=
 ∀ (pins : List (Addr × Obj)) (s : Shared) (σ : St) (H : Hp) (xs : List V) (us : List Value) (Q : VK), Inv X pins σ H s → Vals xs us → r xs H Q →
  wpAny (model X.prog X.w) X.A (call f us) (EP X pins σ Q) X.xe s
def dg7 (X : Cx) (r : V → Hp → (Bool → Hp → Prop) → Prop) : Prop :=
 ∀ (pins : List (Addr × Obj)) (s : Shared) (σ : St) (H : Hp) (x : V) (v : Value) (Q : Bool → Hp → Prop), Inv X pins σ H s → RelV x v → r x H Q →
  wpAny (model X.prog X.w) X.A (truthy v) (TP X pins σ Q) X.xe s
def tOp (r : R2) (ta tb : TE) : TE := fun σ H Q => ta σ H fun x H1 => tb σ H1 fun y H2 => r x y H2 Q
def tUn (r : V → Hp → VK → Prop) (ta : TE) : TE := fun σ H Q => ta σ H fun x H1 => r x H1 Q
def rI (C : Int → Int → Prop) (g : Int → Int → V) : R2 := fun x y H Q => ∃ i j, x = .int i ∧ y = .int j ∧ C i j ∧ Q (g i j) H
def uI (g : Int → Int → V) : R2 := fun x y H Q => ∃ i j, x = .int i ∧ y = .int j ∧ Q (g i j) H
def rU (g : Int → V) : V → Hp → VK → Prop := fun x H Q => ∃ i, x = .int i ∧ Q (g i) H
section
variable {X : Cx} {a b c : Expr} {ta tb tc : TE} {pos : Pos}
theorem ce2 (ha : PE X a ta) (hb : PE X b tb) {pins : List (Addr × Obj)} {s : Shared} {σ : St} {H : Hp} {R : V → V → Hp → Prop} (I : Inv X pins σ H s)
 (h : ta σ H fun x H1 => tb σ H1 fun y H2 => R x y H2) {Q : Value → Shared → Prop} {f : Value → Value → Sem Value}
 (hf : ∀ v u s2 x y H2, Inv X pins σ H2 s2 → RelV x v → RelV y u → R x y H2 → wpAny (model X.prog X.w) X.A (f v u) Q X.xe s2) :
 wpAny (model X.prog X.w) X.A (eval a X.env) (fun v s₁ => wpAny (model X.prog X.w) X.A (eval b X.env) (fun u s₂ => wpAny (model X.prog X.w) X.A (f v u) Q X.xe s₂) X.xe s₁) X.xe s := by
 refine cR (ha pins s σ H _ I h) fun v s1 ⟨x, H1, I1, r1, q1⟩ => ?_
 refine cR (hb pins s1 σ H1 _ I1 q1) fun u s2 ⟨y, H2, I2, r2, q2⟩ => ?_
 exact hf v u s2 x y H2 I2 r1 r2 q2
theorem aL {op : Operator} {r : R2} (ho : OpR X (binaryOp op) r) (ha : PE X a ta) (hb : PE X b tb) : PE X (.BinOp a op b pos) (tOp r ta tb) := by
 intro pins s σ H Q I h
 exact wpAny_BinOp (ce2 ha hb I h fun v u s2 x y H2 I2 rx ry q => ho pins s2 σ H2 x y v u Q I2 rx ry q)
theorem uW (ho : UnR X (unaryOp op) r) (ha : PE X a ta) : PE X (.UnaryOp op a pos) (tUn r ta) := by
 intro pins s σ H Q I h
 exact UnaryOp_ (cR (ha pins s σ H _ I h) fun v s1 ⟨x, H1, I1, r1, q1⟩ => ho pins s1 σ H1 x v Q I1 r1 q1)
theorem opI {f : Value → Value → Sem Value} {C : Int → Int → Prop} {g : Int → Int → Int}
 (rule : ∀ (i j : Int) (t u : Tok) (s : Shared) (Q : Value → Shared → Prop) (E : Value → Shared → Prop), C i j → Q (.int (g i j) s.toks) { s with toks := s.toks + 1 } → wpAny (model X.prog X.w) X.A (f (.int i t) (.int j u)) Q E s) :
 OpR X f (rI C fun i j => .int (g i j)) := by
 intro pins s σ H x y v u Q I rx ry h
 obtain ⟨i, j, rfl, rfl, hc, q⟩ := h
 obtain ⟨t, rfl⟩ := rx
 obtain ⟨t', rfl⟩ := ry
 exact rule i j t t' s _ _ hc ⟨.int (g i j), H, I.tok _, ⟨_, rfl⟩, q⟩
theorem cp9 {f : Value → Value → Sem Value} {g : Int → Int → Int}
 (rule : ∀ (i j : Int) (t u : Tok) (s : Shared) (Q : Value → Shared → Prop) (E : Value → Shared → Prop), Q (.int (g i j) s.toks) { s with toks := s.toks + 1 } → wpAny (model X.prog X.w) X.A (f (.int i t) (.int j u)) Q E s) :
 OpR X f (uI fun i j => .int (g i j)) := by
 intro pins s σ H x y v u Q I rx ry h
 obtain ⟨i, j, rfl, rfl, q⟩ := h
 obtain ⟨t, rfl⟩ := rx
 obtain ⟨t', rfl⟩ := ry
 exact rule i j t t' s _ _ ⟨.int (g i j), H, I.tok _, ⟨_, rfl⟩, q⟩
theorem bt4 {f : Value → Value → Sem Value} {g : Int → Int → Bool}
 (rule : ∀ (i j : Int) (t u : Tok) (s : Shared) (Q : Value → Shared → Prop) (E : Value → Shared → Prop), Q (.bool (g i j)) s → wpAny (model X.prog X.w) X.A (f (.int i t) (.int j u)) Q E s) :
 OpR X f (uI fun i j => .bl (g i j)) := by
 intro pins s σ H x y v u Q I rx ry h
 obtain ⟨i, j, rfl, rfl, q⟩ := h
 obtain ⟨t, rfl⟩ := rx
 obtain ⟨t', rfl⟩ := ry
 exact rule i j t t' s _ _ ⟨.bl (g i j), H, I, rfl, q⟩
def uY (i j : Int) : Prop := 0 < j ∧ j < 1073741824
def yU (i j : Int) : Prop := 0 ≤ j ∧ j ≤ 1000000 ∧ i.natAbs < 2 ^ 64
theorem op_add : OpR X (binaryOp .Add) (uI fun i j => .int (i + j)) := cp9 fun _ _ _ _ _ _ _ q => add_int q
theorem cT : OpR X (binaryOp .Sub) (uI fun i j => .int (i - j)) := cp9 fun _ _ _ _ _ _ _ q => sub_int q
theorem eJ : OpR X (binaryOp .FloorDiv) (rI uY fun i j => .int (i / j)) := opI fun i j _ _ _ _ _ hc q => by
 have h1 : (0 : Int) < j := hc.1
 have h2 : j < 1073741824 := hc.2
 exact floordiv_int (by omega) (by rw [Int.fdiv_eq_ediv_of_nonneg i (by omega)]; exact q) (.inl (PyProof.noPylong_small (by omega)))
theorem bL : OpR X (binaryOp .Mod) (rI (fun _ j => 0 < j) fun i j => .int (i % j)) := opI fun i j _ _ _ _ _ hc q => by
 have h1 : (0 : Int) < j := hc
 exact mod_int' (by omega) (by rw [Int.fmod_eq_emod_of_nonneg i (by omega)]; exact q)
theorem av2 : OpR X (binaryOp .Pow) (rI yU fun i j => .int (i ^ j.toNat)) := opI fun _ _ _ _ _ _ _ hc q => pow_int_small hc.1 hc.2.1 hc.2.2 q
theorem unI {f : Value → Sem Value} {g : Int → Int}
 (rule : ∀ (i : Int) (t : Tok) (s : Shared) (Q : Value → Shared → Prop) (E : Value → Shared → Prop), Q (.int (g i) s.toks) { s with toks := s.toks + 1 } → wpAny (model X.prog X.w) X.A (f (.int i t)) Q E s) :
 UnR X f (rU fun i => .int (g i)) := by
 intro pins s σ H x v Q I rx h
 obtain ⟨i, rfl, q⟩ := h
 obtain ⟨t, rfl⟩ := rx
 exact rule i t s _ _ ⟨.int (g i), H, I.tok _, ⟨_, rfl⟩, q⟩
theorem rG : UnR X (unaryOp .USub) (rU fun i => .int (-i)) := unI fun _ _ _ _ _ q => neg_int q
end
def cs2 : V → V → Bool
 | .non, .non => true | .non, .int _ => true | .int _, .non => true | .non, .bl _ => true | .bl _, .non => true | .non, .str _ => true | .str _, .non => true
 | .int _, .int _ => true | .bl _, .bl _ => true | .str _, .str _ => true | .byt _, .byt _ => true
 | .int _, .str _ => true | .str _, .int _ => true | .bl _, .str _ => true | .str _, .bl _ => true
 | _, _ => false
def rEq : R2 := fun x y H Q => cs2 x y = true ∧ Q (.bl (decide (x = y))) H
def rNe : R2 := fun x y H Q => cs2 x y = true ∧ Q (.bl (!decide (x = y))) H
theorem as5 : decide (V.int i = V.int j) = (i == j) := by
 rw [Bool.eq_iff_iff]
 simp
theorem bk0 : decide (V.bl i = V.bl j) = (i == j) := by
 rw [Bool.eq_iff_iff]
 simp
theorem at4 : decide (V.str i = V.str j) = (i == j) := by
 rw [Bool.eq_iff_iff]
 simp
theorem be4 : decide (V.byt i = V.byt j) = (i.toList == j.toList) := by
 rw [Bool.eq_iff_iff]
 cases i
 cases j
 simp
section
variable {X : Cx} {a b c : Expr} {ta tb tc : TE} {pos : Pos}
theorem dF (I : Inv X pins σ H s) (q : Q (.bl k) H) (e : k = k') : EP X pins σ Q (.bool k') s := by
 subst e
 exact ⟨.bl k, H, I, rfl, q⟩
theorem dq3 : OpR X (compareOp .Eq) rEq := by
 intro pins s σ H x y v u Q I rx ry h
 obtain ⟨hs, q⟩ := h
 cases x with
 | non =>
  cases rx
  cases y with
  | non => cases ry; exact PySem.EqNone.eq_none_none (dF I q (by simp))
  | bl j => cases ry; exact PySem.EqNone.eq_none_bool (dF I q (by simp))
  | int j => obtain ⟨t', rfl⟩ := ry; exact PySem.EqNone.eq_none_int (dF I q (by simp))
  | str j => obtain ⟨t', rfl⟩ := ry; exact PySem.EqNone.eq_none_str (dF I q (by simp))
  | _ => exact absurd (show false = true from hs) Bool.false_ne_true
 | bl i =>
  cases rx
  cases y with
  | non => cases ry; exact PySem.EqNone.eq_bool_none (dF I q (by simp))
  | bl j => cases ry; exact eq_bool (dF I q bk0)
  | str j => obtain ⟨t', rfl⟩ := ry; exact PySem.EqMixed.eq_bool_str (dF I q (by simp))
  | _ => exact absurd (show false = true from hs) Bool.false_ne_true
 | int i =>
  obtain ⟨t, rfl⟩ := rx
  cases y with
  | non => cases ry; exact PySem.EqNone.eq_int_none (dF I q (by simp))
  | int j => obtain ⟨t', rfl⟩ := ry; exact eq_int (dF I q as5)
  | str j => obtain ⟨t', rfl⟩ := ry; exact PySem.EqMixed.eq_int_str (dF I q (by simp))
  | _ => exact absurd (show false = true from hs) Bool.false_ne_true
 | str i =>
  obtain ⟨t, rfl⟩ := rx
  cases y with
  | non => cases ry; exact PySem.EqNone.eq_str_none (dF I q (by simp))
  | bl j => cases ry; exact PySem.EqMixed.eq_str_bool (dF I q (by simp))
  | int j => obtain ⟨t', rfl⟩ := ry; exact PySem.EqMixed.eq_str_int (dF I q (by simp))
  | str j => obtain ⟨t', rfl⟩ := ry; exact eq_str (dF I q at4)
  | _ => exact absurd (show false = true from hs) Bool.false_ne_true
 | byt i =>
  obtain ⟨t, rfl⟩ := rx
  cases y with
  | byt j => obtain ⟨t', rfl⟩ := ry; exact PySem.W.eq_bytes (dF I q be4)
  | _ => exact absurd (show false = true from hs) Bool.false_ne_true
 | _ => cases y <;> exact absurd (show false = true from hs) Bool.false_ne_true
theorem db6 : OpR X (compareOp .NotEq) rNe := by
 intro pins s σ H x y v u Q I rx ry h
 obtain ⟨hs, q⟩ := h
 cases x with
 | non =>
  cases rx
  cases y with
  | non => cases ry; exact PySem.EqNone.ne_none_none (dF I q (by simp))
  | bl j => cases ry; exact PySem.EqNone.ne_none_bool (dF I q (by simp))
  | int j => obtain ⟨t', rfl⟩ := ry; exact PySem.EqNone.ne_none_int (dF I q (by simp))
  | str j => obtain ⟨t', rfl⟩ := ry; exact PySem.EqNone.ne_none_str (dF I q (by simp))
  | _ => exact absurd (show false = true from hs) Bool.false_ne_true
 | bl i =>
  cases rx
  cases y with
  | non => cases ry; exact PySem.EqNone.ne_bool_none (dF I q (by simp))
  | bl j => cases ry; exact ne_bool (dF I q (congrArg not bk0))
  | str j => obtain ⟨t', rfl⟩ := ry; exact PySem.EqMixed.ne_bool_str (dF I q (by simp))
  | _ => exact absurd (show false = true from hs) Bool.false_ne_true
 | int i =>
  obtain ⟨t, rfl⟩ := rx
  cases y with
  | non => cases ry; exact PySem.EqNone.ne_int_none (dF I q (by simp))
  | int j => obtain ⟨t', rfl⟩ := ry; exact ne_int (dF I q (congrArg not as5))
  | str j => obtain ⟨t', rfl⟩ := ry; exact PySem.EqMixed.ne_int_str (dF I q (by simp))
  | _ => exact absurd (show false = true from hs) Bool.false_ne_true
 | str i =>
  obtain ⟨t, rfl⟩ := rx
  cases y with
  | non => cases ry; exact PySem.EqNone.ne_str_none (dF I q (by simp))
  | bl j => cases ry; exact PySem.EqMixed.ne_str_bool (dF I q (by simp))
  | int j => obtain ⟨t', rfl⟩ := ry; exact PySem.EqMixed.ne_str_int (dF I q (by simp))
  | str j => obtain ⟨t', rfl⟩ := ry; exact ne_str (dF I q (congrArg not at4))
  | _ => exact absurd (show false = true from hs) Bool.false_ne_true
 | byt i =>
  obtain ⟨t, rfl⟩ := rx
  cases y with
  | byt j => obtain ⟨t', rfl⟩ := ry; exact PySem.W.ne_bytes (dF I q (congrArg not be4))
  | _ => exact absurd (show false = true from hs) Bool.false_ne_true
 | _ => cases y <;> exact absurd (show false = true from hs) Bool.false_ne_true
theorem zZ : OpR X (compareOp .Lt) (uI fun i j => .bl (decide (i < j))) := bt4 fun _ _ _ _ _ _ _ q => lt_int q
theorem kK : OpR X (compareOp .LtE) (uI fun i j => .bl (decide (i ≤ j))) := bt4 fun _ _ _ _ _ _ _ q => le_int q
theorem az8 : OpR X (compareOp .Gt) (uI fun i j => .bl (decide (j < i))) := bt4 fun _ _ _ _ _ _ _ q => gt_int q
theorem cg4 : OpR X (compareOp .GtE) (uI fun i j => .bl (decide (j ≤ i))) := bt4 fun _ _ _ _ _ _ _ q => ge_int q
theorem bi7 : OpR X (compareOp .In) (fun x y H Q => ∃ i j, x = .str i ∧ y = .str j ∧ Q (.bl (!(Builtin.Str.occurrences j i 0 j.length 1).isEmpty)) H) := by
 intro pins s σ H x y v u Q I rx ry h
 obtain ⟨i, j, rfl, rfl, q⟩ := h
 obtain ⟨t, rfl⟩ := rx
 obtain ⟨t', rfl⟩ := ry
 exact in_str (dF I q rfl)
theorem ce9 : OpR X (compareOp .Is) (fun x y H Q => y = .non ∧ Q (.bl (decide (x = .non))) H) := by
 intro pins s σ H x y v u Q I rx ry h
 obtain ⟨rfl, q⟩ := h
 cases ry
 refine is_none_gen (dF I q ?_)
 cases x <;> first
  | (cases rx; rfl)
  | (obtain ⟨t, rfl⟩ := rx; rfl)
theorem sZ : OpR X (compareOp .IsNot) (fun x y H Q => y = .non ∧ Q (.bl (!decide (x = .non))) H) := by
 intro pins s σ H x y v u Q I rx ry h
 obtain ⟨rfl, q⟩ := h
 cases ry
 refine isnot_none_gen (dF I q ?_)
 cases x <;> first
  | (cases rx; rfl)
  | (obtain ⟨t, rfl⟩ := rx; rfl)
theorem OpR.or (h : OpR X f r) (h' : OpR X f r') : OpR X f (fun x y H Q => r x y H Q ∨ r' x y H Q) := by
 intro pins s σ H x y v u Q I rx ry q
 rcases q with q | q
 · exact h pins s σ H x y v u Q I rx ry q
 · exact h' pins s σ H x y v u Q I rx ry q
theorem bP (b : Expr) (h : op ≠ .In := by decide) (h2 : op ≠ .NotIn := by decide) : behindInMarks op b = false := by
 have e1 : (op == CmpOp.In) = false := by cases op <;> first | rfl | exact absurd rfl h
 have e2 : (op == CmpOp.NotIn) = false := by cases op <;> first | rfl | exact absurd rfl h2
 cases b <;> simp [behindInMarks, e1, e2]
theorem jT {op : CmpOp} {r : R2} (ho : OpR X (compareOp op) r) (ha : PE X a ta) (hb : PE X b tb) (hm : behindInMarks op b = false) : PE X (.Compare a [op] [b] pos) (tOp r ta tb) := by
 intro pins s σ H Q I h
 exact wpAny_Compare1 (ce2 ha hb I h fun v u s2 x y H2 I2 rx ry q => ho pins s2 σ H2 x y v u Q I2 rx ry q) hm
def br5 (t : TE) : TT := fun σ H Q => t σ H fun x H' => ∃ k, x = .bl k ∧ Q k H'
theorem bM (ho : OpR X (compareOp op) r) (ha : PE X a ta) (hb : PE X b tb) (hm : behindInMarks op b = false) : PT X (.Compare a [op] [b] pos) (br5 (tOp r ta tb)) := by
 intro pins s σ H Q I h
 refine wpAny_isTrue_Compare1 (cR (ha pins s σ H _ I h) fun v s1 ⟨x, H1, I1, r1, q1⟩ => cR (hb pins s1 σ H1 _ I1 q1) fun u s2 ⟨y, H2, I2, r2, q2⟩ =>
  cR (ho pins s2 σ H2 x y v u _ I2 r1 r2 q2) fun c s3 ⟨z, H3, I3, r3, k, e, q3⟩ => ?_) hm
 subst e
 cases r3
 exact wpAny_truthy_bool ⟨H3, I3, q3⟩
def bf1 (r r' : R2) (ta tb tc : TE) : TE := fun σ H Q => ta σ H fun x H1 => tb σ H1 fun y H2 => r x y H2 fun z H3 => ∃ k, z = .bl k ∧
 (if k = true then tc σ H3 fun w' H4 => r' y w' H4 Q else Q (.bl false) H3)
theorem ah1 (ho : OpR X (compareOp op) r) (ho' : OpR X (compareOp op') r') (ha : PE X a ta) (hb : PE X b tb) (hc : PE X c tc)
 (hm : lastMarks [op, op'] [b, c] = false := by with_unfolding_all rfl) : PE X (.Compare a [op, op'] [b, c] pos) (bf1 r r' ta tb tc) := by
 intro pins s σ H Q I h
 refine Compare_chain (cR (ha pins s σ H _ I h) fun v s1 ⟨x, H1, I1, r1, q1⟩ => chain_link (cR (hb pins s1 σ H1 _ I1 q1) fun u s2 ⟨y, H2, I2, r2, q2⟩ =>
  cR (ho pins s2 σ H2 x y v u _ I2 r1 r2 q2) fun d s3 ⟨z, H3, I3, r3, k, e, q3⟩ => ?_)) hm
 subst e
 cases r3
 refine wpAny_truthy_bool ?_
 cases k with
 | false => exact ite_ff ⟨.bl false, H3, I3, rfl, q3⟩
 | true => exact ite_tt (chain_last (cR (hc pins s3 σ H3 _ I3 q3) fun w' s4 ⟨z', H4, I4, r4, q4⟩ => ho' pins s4 σ H4 y z' u w' Q I4 r2 r4 q4))
theorem am1 (ho : OpR X (compareOp op) r) (ho' : OpR X (compareOp op') r') (ha : PE X a ta) (hb : PE X b tb) (hc : PE X c tc)
 (hm : lastMarks [op, op'] [b, c] = false := by with_unfolding_all rfl) : PT X (.Compare a [op, op'] [b, c] pos) (br5 (bf1 r r' ta tb tc)) := by
 intro pins s σ H Q I h
 refine isTrue_chain (cR (ha pins s σ H _ I h) fun v s1 ⟨x, H1, I1, r1, q1⟩ => test_link (cR (hb pins s1 σ H1 _ I1 q1) fun u s2 ⟨y, H2, I2, r2, q2⟩ =>
  cR (ho pins s2 σ H2 x y v u _ I2 r1 r2 q2) fun d s3 ⟨z, H3, I3, r3, k, e, q3⟩ => ?_)) hm
 subst e
 cases r3
 refine wpAny_truthy_bool ?_
 cases k with
 | false =>
  obtain ⟨k', e', q'⟩ := q3
  cases e'
  exact ite_ff ⟨H3, I3, q'⟩
 | true =>
  refine ite_tt (test_last (cR (hc pins s3 σ H3 _ I3 q3) fun w' s4 ⟨z', H4, I4, r4, q4⟩ => cR (ho' pins s4 σ H4 y z' u w' _ I4 r2 r4 q4) fun d' s5 ⟨z2, H5, I5, r5, k2, e2, q5⟩ => ?_))
  subst e2
  cases r5
  exact wpAny_truthy_bool ⟨H5, I5, q5⟩
def av9 (K : PySem.W.Frag) (x : V) (H : Hp) (k : Bool) : Prop :=
 match x with
 | .non => k = false
 | .bl b => k = b
 | .int i => k = (i != 0)
 | .str y => y.length ≤ sizeLine ∧ k = ((y.length : Int) != 0)
 | .byt y => y.size ≤ sizeLine ∧ k = ((y.size : Int) != 0)
 | .ref p => (∃ xs, SqL K H p xs ∧ k = !xs.isEmpty) ∨ (∃ xs, SqT K H p xs ∧ k = !xs.isEmpty) ∨ ∃ kvs, H p = some (.dK kvs) ∧ k = !kvs.isEmpty
 | _ => False
theorem by4 (r : KV kvs vs) : (!vs.isEmpty) = !kvs.isEmpty := by
 cases r <;> rfl
theorem ao2 (r : Vals xs its) : (!its.toArray.isEmpty) = !xs.isEmpty := by
 cases r <;> simp
theorem wC : (sizeLine : Nat) < 2 ^ 63 := by rw [sizeLine_eq]; decide
theorem cv8 : dg7 X (fun x H Q => ∃ k, av9 X.K x H k ∧ Q k H) := by
 intro pins s σ H x v Q I rx h
 obtain ⟨k, e, q⟩ := h
 have hl := wC
 have hs : sizeLine = 16777216 := sizeLine_eq
 cases x with
 | non =>
  cases rx
  have e' : k = false := e
  subst e'
  exact truthy_none ⟨H, I, q⟩
 | bl b =>
  cases rx
  have e' : k = b := e
  subst e'
  exact wpAny_truthy_bool ⟨H, I, q⟩
 | int i =>
  obtain ⟨t, rfl⟩ := rx
  have e' : k = (i != 0) := e
  subst e'
  exact PySem.P.truthy_int ⟨H, I, q⟩
 | str y =>
  obtain ⟨t, rfl⟩ := rx
  obtain ⟨hy, e'⟩ : y.length ≤ sizeLine ∧ k = ((y.length : Int) != 0) := e
  subst e'
  exact PySem.P.truthy_str (by omega) ⟨H, I.tok _, q⟩
 | byt y =>
  obtain ⟨t, rfl⟩ := rx
  obtain ⟨hy, e'⟩ : y.size ≤ sizeLine ∧ k = ((y.size : Int) != 0) := e
  subst e'
  exact PySem.W.truthy_bytes (by omega) ⟨H, I.tok _, q⟩
 | ref p =>
  cases rx
  have e' : (∃ xs, SqL X.K H p xs ∧ k = !xs.isEmpty) ∨ (∃ xs, SqT X.K H p xs ∧ k = !xs.isEmpty) ∨ ∃ kvs, H p = some (.dK kvs) ∧ k = !kvs.isEmpty := e
  rcases e' with ⟨xs, hx, e'⟩ | ⟨xs, hx, e'⟩ | ⟨kvs, hx, e'⟩
  · subst e'
    obtain ⟨its, r, pl, hz⟩ := I.list hx
    have hlen := r.length
    exact wpAny_truthy_list pl.isList (by simp only [List.size_toArray]; omega) ⟨H, I.tok _, by rw [ao2 r]; exact q⟩
  · subst e'
    obtain ⟨its, r, pl, hz⟩ := I.tuple hx
    have hlen := r.length
    exact truthy_tuple pl (by simp only [List.size_toArray]; omega) ⟨H, I.tok _, by rw [ao2 r]; exact q⟩
  · subst e'
    obtain ⟨hz, hS, vs, r, m⟩ : kvs.length ≤ sizeLine ∧ (p == sysModules) = false ∧ ∃ vs, KV kvs vs ∧ s.heap.DictOf (an4 X.prog X.w) p vs := I.hok p _ hx
    have hlen : kvs.length = vs.length := Paired.length r
    exact wpAny_truthy_dict hS m (by omega) ⟨H, I.tok _, by rw [by4 r]; exact q⟩
 | _ => exact (show False from e).elim
theorem cm0 (ha : PE X a ta) (he : ∀ whole, isTrue a X.env whole = (do let v ← whole; standAt a.pos; holding [v] (truthy v))) :
 PT X a (fun σ H Q => ta σ H fun x H' => ∃ k, av9 X.K x H' k ∧ Q k H') := by
 intro pins s σ H Q I h
 exact isTrue_plain (cR (ha pins s σ H _ I h) fun v s1 ⟨x, H1, I1, r1, q1⟩ => cv8 pins s1 σ H1 x v Q I1 r1 q1) (he _)
theorem op_add_str : OpR X (binaryOp .Add) (fun x y H Q => ∃ i j, x = .str i ∧ y = .str j ∧ i.length + j.length ≤ sizeLine ∧ Q (.str (i ++ j)) H) := by
 intro pins s σ H x y v u Q I rx ry h
 obtain ⟨i, j, rfl, rfl, hz, q⟩ := h
 obtain ⟨t, rfl⟩ := rx
 obtain ⟨t', rfl⟩ := ry
 exact add_str (fun t' tk => ⟨.str (i ++ j), H, I.tok _, ⟨_, rfl⟩, q⟩) hz
theorem ac3 (r : Vals [x] us) : ∃ u, us = [u] ∧ RelV x u := by
 cases r with
 | cons r1 r2 => cases r2; exact ⟨_, rfl, r1⟩
theorem bb6 (r : Vals [x, y] us) : ∃ u w', us = [u, w'] ∧ RelV x u ∧ RelV y w' := by
 cases r with
 | cons r1 r2 =>
  cases r2 with
  | cons r3 r4 => cases r4; exact ⟨_, _, rfl, r1, r3⟩
theorem cf2 : CallR X (.builtin "abs") (fun xs H Q => ∃ i, xs = [.int i] ∧ Q (.int (if i < 0 then -i else i)) H) := by
 intro pins s σ H xs us Q I r h
 obtain ⟨i, rfl, q⟩ := h
 obtain ⟨u, rfl, t, rfl⟩ := ac3 r
 exact call_abs_int fun u tk => ⟨.int (if i < 0 then -i else i), H, I.tok _, ⟨_, rfl⟩, q⟩
theorem be7 (hc : X.calm = true) : CallR X (.builtin "max") (fun xs H Q => ∃ i j, xs = [.int i, .int j] ∧ Q (.int (if j > i then j else i)) H) := by
 intro pins s σ H xs us Q I r h
 obtain ⟨i, j, rfl, q⟩ := h
 obtain ⟨u, w', rfl, ⟨t, rfl⟩, ⟨t', rfl⟩⟩ := bb6 r
 refine max_two_ints (I.ok.hd hc) fun h' tk k => ⟨_, H, I.kept k, ?_, q⟩
 by_cases hj : j > i
 · rw [if_pos hj, if_pos hj]; exact ⟨_, rfl⟩
 · rw [if_neg hj, if_neg hj]; exact ⟨_, rfl⟩
theorem bq7 (hc : X.calm = true) : CallR X (.builtin "min") (fun xs H Q => ∃ i j, xs = [.int i, .int j] ∧ Q (.int (if j < i then j else i)) H) := by
 intro pins s σ H xs us Q I r h
 obtain ⟨i, j, rfl, q⟩ := h
 obtain ⟨u, w', rfl, ⟨t, rfl⟩, ⟨t', rfl⟩⟩ := bb6 r
 refine min_two_ints (I.ok.hd hc) fun h' tk k => ⟨_, H, I.kept k, ?_, q⟩
 by_cases hj : j < i
 · rw [if_pos hj, if_pos hj]; exact ⟨_, rfl⟩
 · rw [if_neg hj, if_neg hj]; exact ⟨_, rfl⟩
theorem bo0 : CallR X (.type "str") (fun xs H Q => ∃ i, xs = [.int i] ∧ i.natAbs.log2 < 1920 ∧ Q (.str (toString i)) H) := by
 intro pins s σ H xs us Q I r h
 obtain ⟨i, rfl, hz, q⟩ := h
 obtain ⟨u, rfl, t, rfl⟩ := ac3 r
 exact PySem.P.str_of_int hz ⟨.str _, H, I.tok _, ⟨_, rfl⟩, q⟩
def cc9 (K : PySem.W.Frag) (x : V) (H : Hp) (n : Nat) : Prop :=
 match x with
 | .str y => y.length ≤ sizeLine ∧ n = y.length
 | .byt y => y.size ≤ sizeLine ∧ n = y.size
 | .ref p => (∃ xs, SqL K H p xs ∧ n = xs.length) ∨ ∃ xs, SqT K H p xs ∧ n = xs.length
 | _ => False
theorem bw9 : CallR X (.builtin "len") (fun xs H Q => ∃ x n, xs = [x] ∧ cc9 X.K x H n ∧ Q (.int n) H) := by
 intro pins s σ H xs us Q I r h
 obtain ⟨x, n, rfl, e, q⟩ := h
 obtain ⟨u, rfl, rx⟩ := ac3 r
 have hl := wC
 have hs : sizeLine = 16777216 := sizeLine_eq
 cases x with
 | str y =>
  obtain ⟨t, rfl⟩ := rx
  obtain ⟨hy, e'⟩ : y.length ≤ sizeLine ∧ n = y.length := e
  subst e'
  exact len_str (by omega) ⟨.int _, H, I.tok _, ⟨_, rfl⟩, q⟩
 | byt y =>
  obtain ⟨t, rfl⟩ := rx
  obtain ⟨hy, e'⟩ : y.size ≤ sizeLine ∧ n = y.size := e
  subst e'
  exact PySem.W.len_bytes (by omega) ⟨.int _, H, I.tok _, ⟨_, rfl⟩, q⟩
 | ref p =>
  cases rx
  have e' : (∃ xs, SqL X.K H p xs ∧ n = xs.length) ∨ ∃ xs, SqT X.K H p xs ∧ n = xs.length := e
  rcases e' with ⟨xs, hx, e'⟩ | ⟨xs, hx, e'⟩
  · subst e'
    obtain ⟨its, r', pl, hz⟩ := I.list hx
    have hlen := r'.length
    exact Calls.call_len_list pl.isList (by simp only [List.size_toArray]; omega) ⟨.int xs.length, H, I.tok _, ⟨_, by simp only [List.size_toArray]; rw [hlen]⟩, q⟩
  · subst e'
    obtain ⟨its, r', pl, hz⟩ := I.tuple hx
    have hlen := r'.length
    exact len_tuple pl (by simp only [List.size_toArray]; omega) ⟨.int xs.length, H, I.tok _, ⟨_, by simp only [List.size_toArray]; rw [hlen]⟩, q⟩
 | _ => exact (show False from e).elim
theorem bl2 : CallR X (.builtin "divmod") (fun xs H Q => ∃ i j, xs = [.int i, .int j] ∧ uY i j ∧ ∀ p, H p = none → Q (.ref p) (upd H p (.tup [.int (i / j), .int (i % j)]))) := by
 intro pins s σ H xs us Q I r h
 obtain ⟨i, j, rfl, ⟨h1, h2⟩, q⟩ := h
 obtain ⟨u, w', rfl, ⟨t, rfl⟩, ⟨t', rfl⟩⟩ := bb6 r
 refine divmod_int (by omega) ?_ (.inl (PyProof.noPylong_small (by omega)))
 rw [Int.fdiv_eq_ediv_of_nonneg i (by omega), Int.fmod_eq_emod_of_nonneg i (by omega)]
 have hn : H s.heap.objs.size = none := I.hok.fresh (Nat.le_refl _)
 refine ⟨.ref s.heap.objs.size, _, ?_, rfl, q _ hn⟩
 refine I.laid (fun b o e => Heap.get?_push_of_some _ e) (Nat.le_refl _) ⟨by simp only [List.length_cons, List.length_nil]; rw [sizeLine_eq]; decide, [.int (i / j) s.toks, .int (i % j) (s.toks + 1)], .cons ⟨_, rfl⟩ (.cons ⟨_, rfl⟩ .nil), ?_⟩
 exact ⟨_, Heap.get?_push_size s.heap rfl, rfl, 0, rfl⟩
end
end L2
namespace L2
open PySem PySem.Spec PyProof.Rows
structure ObjM (h : Heap) (x dx C : Addr) (mA : Str → Option Value) : Prop where
 obj : h.get? x = some (PySem.W.instObj C dx)
 ns : h.Ns1 dx mA
 ne : dx ≠ x
theorem bx8 {h : Heap} {dx : Addr} {mA : Str → Option Value} (n : h.Ns1 dx mA) : ∃ od, h.get? dx = some od ∧ ∀ name, PySem.W.lookIn name od = some (mA name) := by
 obtain ⟨o, es, ep, ho, hd, hk, _, hm⟩ := n
 refine ⟨o, ho, fun name => ?_⟩
 have e := hm name
 unfold nsFind findBy at e
 rw [← Array.find?_toList] at e
 unfold PySem.W.lookIn
 rw [hd]
 dsimp only
 split
 · rename_i y q
   rw [q] at e
   exact congrArg some e
 · rename_i q
   rw [q] at e
   have a : es.toList.any (·.refKey) = false := by
    rw [List.any_eq_false]
    intro y hy
    obtain ⟨z, t, hkey⟩ := hk y (Array.mem_toList_iff.mp hy)
    simp [DictEntry.refKey, hkey]
   have a' : ¬ es.toList.any (·.refKey) = true := by rw [a]; exact Bool.false_ne_true
   rw [if_neg a']
   exact congrArg some e
theorem ObjM.look (I : ObjM h x dx C mA) : ∃ od, PySem.W.InstAt h x (PySem.W.instObj C dx) C (some od) ∧ ∀ name, PySem.W.lookIn name od = some (mA name) :=
 let ⟨od, ho, hl⟩ := bx8 I.ns
 ⟨od, ⟨I.obj, rfl, rfl, ho⟩, hl⟩
section
variable {prog : Program} {w : World} {A : Around} {E : Value → Shared → Prop} {s : Shared} {K : PySem.W.Frag} {x dx C f : Addr} {mA : Str → Option Value} {name : Str} {v : Value}
theorem cc6 (X : K.In s.heap) (I : ObjM s.heap x dx C mA) (hg : PySem.W.plainGet K C name = true) (hh : PySem.W.hasDictIn K C = true)
 (ha : PySem.W.findIn K (.ref C) name = some none) (hv : mA name = some v) (hv' : PySem.W.handedIn v = true) (h : Q v { s with toks := s.toks + 1 }) :
 wpAny (model prog w) A (getAttr (.ref x) name expr) Q E s := by
 obtain ⟨od, J, hl⟩ := I.look
 exact PySem.W.get_value X J (PySem.W.plainGet_of hg).1 (PySem.W.findObj_own hh ha rfl (by rw [hl, hv])) hv' h
theorem cl1 (X : K.In s.heap) (I : ObjM s.heap x dx C mA) (hg : PySem.W.plainGet K C name = true)
 (hf : PySem.W.findIn K (.ref C) name = some (some (.ref f))) (ht : PySem.W.isFn K (.ref f) = true) (hv : mA name = none) (h : Q (.ref f, [.ref x]) s) :
 wpAny (model prog w) A (getMethod (.ref x) name pl) Q E s := by
 obtain ⟨od, J, hl⟩ := I.look
 exact PySem.W.method_fn X J (PySem.W.plainGet_of hg).1 (PySem.W.plainGet_of hg).2 hf (beq_iff_eq.mp ht) (by show (PySem.W.lookIn name od).map (·.isSome) = some false; rw [hl, hv]; rfl) h
theorem cg6 (X : K.In s.heap) (I : ObjM s.heap x dx C mA)
 (hs : PySem.W.findIn K (.ref C) "__setattr__" = some (some (.builtin "object.__setattr__"))) (hp : PySem.W.plainOver K C = true) (ht : PySem.W.takerIn K C name = some none) (hh : PySem.W.hasDictIn K C = true)
 (hw : PySem.Within mA ns) (hsz : ns.length ≤ sizeLine)
 (h : ∀ h', ObjM h' x dx C (fun y => if y = name then some v else mA y) → Heap.SameBut dx s.heap h' → Q () { s with heap := h', toks := s.toks + 2 }) :
 wpAny (model prog w) A (setAttr (.ref x) name v) Q E s := by
 obtain ⟨od, J, hl⟩ := I.look
 refine PySem.W.set_plain X J hs (PySem.W.osa_open (s := { s with toks := s.toks + 1 }) (r := none) X J hp ht fun b => ?_)
 obtain ⟨cd, hc, hd'⟩ := PySem.W.any_some hh
 have hx : s.heap.get? x = some ⟨.ref C, some dx, .plain, #[]⟩ := I.obj
 refine wpAny_bind (wpAny_pure (wpAny_bind (wpAny_bind (wpAny_loadPart hx (wpAny_bind (PySem.W.Looks.here (s := { s with toks := s.toks + 1 }) (PySem.W.looks_clsIn X hc) ?_))))))
 rw [hd']
 refine wpAny_pure (a := some dx) (wpAny_bind (wpAny_pure (wpAny_bind ?_)))
 refine wpAny_nsSet1 (s := { s with toks := s.toks + 1 }) I.ns fun h' hn2 hs2 => ?_
 obtain ⟨oD, esD, epD, hoD, hdD, hcD⟩ := hn2.count (PySem.Within.cons name v hw)
 refine wpAny_bind (wpAny_lookBehind hoD (by rw [hdD]; exact pastItsLine_dict (Nat.le_trans hcD (by rw [List.length_cons]; omega))) ?_)
 exact wpAny_pure (h _ ⟨(hs2.2 _ (Ne.symm I.ne)).trans I.obj, hn2, I.ne⟩ hs2)
theorem cq0 (X : K.In s.heap) (hm : PySem.W.makesIn K C = true)
 (hi : PySem.W.findIn K (.ref C) "__init__" = some (some (.ref f))) (hf : PySem.W.typeIn K (.ref f) = some (.type "function"))
 (h : codeAny (model prog w) (A.under (.builtin "type.__call__" ⟨.ref C :: vs, kw⟩)) (.call (.ref f) ⟨.ref (s.heap.objs.size + 1) :: vs, kw⟩) (PySem.W.InitBack (s.heap.objs.size + 1) R)
  { s with heap := (s.heap.push PySem.W.emptyDict).push (PySem.W.instObj C s.heap.objs.size) }) :
 codeAny (model prog w) A (.call (.ref C) ⟨vs, kw⟩) R s := by
 obtain ⟨hh, g, d, t, os⟩ := s
 exact PySem.W.make_core (PySem.W.makes_of X hm) (PySem.W.looks_findIn X hi) (fun self => PySem.W.bind_fn X self hf) (.inl rfl) h
end
def jS (f : Str) (v : V) : List (Str × V) → List (Str × V)
  | [] => [(f, v)]
  | (g, x) :: r => if g = f then (g, v) :: r else (g, x) :: jS f v r
theorem aw0 (f g : Str) (v : V) : ∀ fs : List (Str × V), (jS f v fs).lookup g = if g = f then some v else fs.lookup g
  | [] => by
    show List.lookup g [(f, v)] = _
    by_cases h : g = f
    · have hb : (g == f) = true := beq_iff_eq.mpr h
      simp only [List.lookup, hb, if_pos h]
    · have hb : (g == f) = false := beq_eq_false_iff_ne.mpr h
      simp only [List.lookup, hb, if_neg h]
  | (k, x) :: r => by
    have ih := aw0 f g v r
    rw [show jS f v ((k, x) :: r) = (if k = f then (k, v) :: r else (k, x) :: jS f v r) from rfl]
    by_cases hk : k = f
    · rw [if_pos hk]
      by_cases h : g = k
      · have hb : (g == k) = true := beq_iff_eq.mpr h
        simp only [List.lookup, hb, if_pos (h.trans hk)]
      · have hb : (g == k) = false := beq_eq_false_iff_ne.mpr h
        simp only [List.lookup, hb, if_neg (fun e : g = f => h (e.trans hk.symm))]
    · rw [if_neg hk]
      by_cases h : g = k
      · have hb : (g == k) = true := beq_iff_eq.mpr h
        simp only [List.lookup, hb, if_neg (fun e : g = f => hk (h.symm.trans e))]
      · have hb : (g == k) = false := beq_eq_false_iff_ne.mpr h
        simp only [List.lookup, hb]
        exact ih
theorem zQ (f : Str) (v : V) : ∀ fs : List (Str × V), f ∈ (jS f v fs).map (·.1) ∧ ∀ g, g ∈ fs.map (·.1) → g ∈ (jS f v fs).map (·.1)
  | [] => ⟨by simp [jS], fun g h => by simp at h⟩
  | (k, x) :: r => by
    obtain ⟨i1, i2⟩ := zQ f v r
    rw [show jS f v ((k, x) :: r) = (if k = f then (k, v) :: r else (k, x) :: jS f v r) from rfl]
    by_cases hk : k = f
    · rw [if_pos hk]
      subst hk
      exact ⟨by simp, fun g h => by simpa using h⟩
    · rw [if_neg hk]
      refine ⟨?_, fun g h => ?_⟩
      · rw [List.map_cons]
        exact List.mem_cons_of_mem _ i1
      · rw [List.map_cons] at h ⊢
        rcases List.mem_cons.mp h with e | e
        · exact List.mem_cons.mpr (.inl e)
        · exact List.mem_cons_of_mem _ (i2 g e)
theorem av0 (f : Str) (v : V) : ∀ fs : List (Str × V), (jS f v fs).length ≤ fs.length + 1
  | [] => by simp [jS]
  | (k, x) :: r => by
    have ih := av0 f v r
    rw [show jS f v ((k, x) :: r) = (if k = f then (k, v) :: r else (k, x) :: jS f v r) from rfl]
    by_cases hk : k = f
    · rw [if_pos hk, List.length_cons, List.length_cons]; omega
    · rw [if_neg hk, List.length_cons, List.length_cons]; omega
theorem RelO.some_of (r : RelO (some v) o) : ∃ u, o = some u ∧ RelV v u := by
 cases o with
 | none => exact (show False from r).elim
 | some u => exact ⟨u, rfl, r⟩
theorem RelO.none_of (r : RelO none o) : o = none := by
 cases o with
 | none => rfl
 | some u => exact (show False from r).elim
theorem bt6 (r : RelV v u) : PySem.W.handedIn u = true := by
 cases v with
 | non => cases (show u = Value.none from r); rfl
 | bl b => cases (show u = Value.bool b from r); rfl
 | int i => obtain ⟨t, e⟩ := (show ∃ t, u = Value.int i t from r); cases e; rfl
 | str x => obtain ⟨t, e⟩ := (show ∃ t, u = Value.str x t from r); cases e; rfl
 | byt b => obtain ⟨t, e⟩ := (show ∃ t, u = Value.bytes b t from r); cases e; rfl
 | flt b => obtain ⟨t, e⟩ := (show ∃ t, u = Value.float b t from r); cases e; rfl
 | ref a => cases (show u = Value.ref a from r); rfl
 | ty n => cases (show u = Value.type n from r); rfl
section
variable {P : Program} {w : World} {H H' : Hp} {h h' : Heap} {a C dx : Addr} {fs fs' : List (Str × V)}
theorem ad5 (hok : HOk P w H h) (e : H a = some (.ins C dx fs)) : ∃ mA, ObjM h a dx C mA ∧ (∀ f, RelO (fs.lookup f) (mA f)) ∧ PySem.Within mA (fs.map (·.1)) ∧ fs.length ≤ 1000 ∧ H dx = some (.own a) := by
 obtain ⟨d, z, ne, ob, mA, n, r, q⟩ := (show ObjOk P w H h a (.ins C dx fs) from hok a _ e)
 exact ⟨mA, ⟨ob, n, ne⟩, r, q, z, d⟩
end
structure Cls (K : PySem.W.Frag) (C : Addr) : Prop where
 pg : PySem.W.plainGet K C Str.empty = true
 hd : PySem.W.hasDictIn K C = true
 po : PySem.W.plainOver K C = true
 sa : PySem.W.findIn K (.ref C) "__setattr__" = some (some (.builtin "object.__setattr__"))
theorem Cls.get {K : PySem.W.Frag} {C : Addr} (c : Cls K C) (f : Str) : PySem.W.plainGet K C f = true := c.pg
def NoAttr (K : PySem.W.Frag) (C : Addr) (f : Str) : Prop := PySem.W.findIn K (.ref C) f = some none
theorem NoAttr.taker {K : PySem.W.Frag} {C : Addr} {f : Str} (n : NoAttr K C f) : PySem.W.takerIn K C f = some none := by
 unfold PySem.W.takerIn
 rw [show PySem.W.findIn K (.ref C) f = some none from n]
 rfl
structure ch3 (K : PySem.W.Frag) (C : Addr) (m : Str) (f : Addr) : Prop where
 at_ : PySem.W.findIn K (.ref C) m = some (some (.ref f))
 fn : PySem.W.isFn K (.ref f) = true
 kp : PySem.W.keepIn K (.ref f) = true
section
variable {X : Cx} {pins : List (Addr × Obj)} {σ : St} {H : Hp} {s : Shared} {a C dx : Addr} {fs : List (Str × V)} {f : Str} {v : V} {A : Around} {E : Value → Shared → Prop}
theorem bb5 (I : Inv X pins σ H s) (e : H a = some (.ins C dx fs)) (c : Cls X.K C) (n : NoAttr X.K C f) (l : fs.lookup f = some v)
 (h : ∀ u s', Inv X pins σ H s' → RelV v u → Q u s') : wpAny (model X.prog X.w) A (getAttr (.ref a) f b) Q E s := by
 obtain ⟨mA, O, r, _, _, _⟩ := ad5 I.hok e
 obtain ⟨u, hu, ru⟩ := RelO.some_of (v := v) (o := mA f) (by rw [← l]; exact r f)
 exact cc6 I.kIn O (c.get f) c.hd n hu (bt6 ru) (h u _ (I.tok _) ru)
theorem ag2 (I : Inv X pins σ H s) (e : H a = some (.ins C dx fs)) (c : Cls X.K C) (k : ch3 X.K C m g) (l : fs.lookup m = none)
 (h : Q (.ref g, [.ref a]) s) : wpAny (model X.prog X.w) A (getMethod (.ref a) m pl) Q E s := by
 obtain ⟨mA, O, r, _, _, _⟩ := ad5 I.hok e
 have hn : mA m = none := RelO.none_of (by rw [← l]; exact r m)
 exact cl1 I.kIn O (c.get m) k.at_ k.fn hn h
theorem bt5 (I : Inv X pins σ H s) (e : H a = some (.ins C dx fs)) (c : Cls X.K C) (n : NoAttr X.K C f) (hl : fs.length < 1000) (ry : RelV y u)
 (h : ∀ s', Inv X pins σ (upd H a (.ins C dx (jS f y fs))) s' → Q () s') : wpAny (model X.prog X.w) A (setAttr (.ref a) f u) Q E s := by
 obtain ⟨mA, O, r, wi, _, ho⟩ := ad5 I.hok e
 have hz : (fs.map (·.1)).length ≤ sizeLine := by rw [List.length_map, sizeLine_eq]; omega
 refine cg6 I.kIn O c.sa c.po n.taker c.hd wi hz fun h' O' sb => h _ ?_
 have hd : ∃ o, h'.get? dx = some o := let ⟨o, _, _, e', _⟩ := O'.ns; ⟨o, e'⟩
 refine I.write (x := a) (e := dx) (by rw [e]; exact True.intro) (.inr ho) (fun b q hb z => (sb.2 b hb).trans z) hd ?_
 refine ⟨by rw [cV O.ne]; exact ho, ?_, O.ne, O'.obj, _, O'.ns, fun g => ?_, fun g hg => ?_⟩
 · have := av0 f y fs; omega
 · show RelO ((jS f y fs).lookup g) (if g = f then some u else mA g)
   rw [aw0]
   by_cases q : g = f
   · rw [if_pos q, if_pos q]; exact ry
   · rw [if_neg q, if_neg q]; exact r g
 · by_cases q : g = f
   · rw [q]; exact (zQ f y fs).1
   · refine (zQ f y fs).2 g (wi g fun z => hg ?_)
     show (if g = f then some u else mA g) = none
     rw [if_neg q]; exact z
theorem Inv.made (I : Inv X pins σ H s) : Inv X pins σ (upd (upd H s.heap.objs.size (.own (s.heap.objs.size + 1))) (s.heap.objs.size + 1) (.ins C s.heap.objs.size []))
 { s with heap := (s.heap.push PySem.W.emptyDict).push (PySem.W.instObj C s.heap.objs.size) } := by
 have e1 : (s.heap.push PySem.W.emptyDict).get? s.heap.objs.size = some PySem.W.emptyDict := Heap.get?_push_size s.heap rfl
 have e2 : ((s.heap.push PySem.W.emptyDict).push (PySem.W.instObj C s.heap.objs.size)).get? (s.heap.objs.size + 1) = some (PySem.W.instObj C s.heap.objs.size) := by
  have := Heap.get?_push_size (s.heap.push PySem.W.emptyDict) (o := PySem.W.instObj C s.heap.objs.size) rfl
  rwa [Heap.size_push] at this
 have e3 : (s.heap.push PySem.W.emptyDict).Ns s.heap.objs.size (fun _ => none) := ⟨PySem.W.emptyDict, #[], _, e1, rfl, (fun e he => absurd he (by simp)), fun _ => rfl⟩
 have I1 := I.laid (a := s.heap.objs.size) (o := .own (s.heap.objs.size + 1)) (h' := s.heap.push PySem.W.emptyDict) (t' := s.toks) (fun b u q => Heap.get?_push_of_some _ q) (Nat.le_refl _) ⟨_, e1⟩
 refine I1.laid (a := s.heap.objs.size + 1) (o := .ins C s.heap.objs.size []) (t' := s.toks) (fun b u q => Heap.get?_push_of_some _ q) (Nat.le_of_eq (Heap.size_push _ _)) ?_
 have ne : s.heap.objs.size ≠ s.heap.objs.size + 1 := Nat.ne_of_lt (Nat.lt_succ_self _)
 refine ⟨by rw [cV ne, eM], Nat.zero_le _, ne, e2, fun _ => none, (Heap.Ns1.of_empty e3).at fun o q => Heap.get?_push_of_some _ q, fun _ => True.intro, fun y hy => absurd rfl hy⟩
theorem cx7 (hb : attributeBase e f env (eval e env) = eval e env)
 (h : wpAny (model prog w) A (eval e env) (fun o s₁ => wpAny (model prog w) A (getAttr o f true) Q E s₁) E s) : wpAny (model prog w) A (eval (.Attribute e f pos) env) Q E s :=
 Attribute_any_ h (by rw [arm_eval_Attribute, hb])
end
def cu1 (K : PySem.W.Frag) (ta : TE) (f : Str) : TE := fun σ H Q => ta σ H fun x H1 => ∃ a C dx fs v, x = .ref a ∧ H1 a = some (.ins C dx fs) ∧ Cls K C ∧ NoAttr K C f ∧ fs.lookup f = some v ∧ Q v H1
def ca3 (K : PySem.W.Frag) (ta tv : TE) (f : Str) : TS := fun D σ H => tv σ H fun y H1 => ta σ H1 fun x H2 => ∃ a C dx fs, x = .ref a ∧ H2 a = some (.ins C dx fs) ∧ Cls K C ∧ NoAttr K C f ∧ fs.length < 1000 ∧
 D.nx σ (upd H2 a (.ins C dx (jS f y fs)))
section
variable {X : Cx} {o e value : Expr} {f : Str} {pos pos' tpos : Pos} {ta tv : TE}
theorem co8 (he : PE X e ta) (hb : attributeBase e f X.env (eval e X.env) = eval e X.env) : PE X (.Attribute e f pos) (cu1 X.K ta f) := by
 intro pins s σ H Q I h
 refine cx7 hb (cR (he pins s σ H _ I h) fun u s1 ⟨x, H1, I1, rx, a, C, dx, fs, v, ex, ea, c, n, l, q⟩ => ?_)
 subst ex
 obtain rfl : u = Value.ref a := rx
 exact bb5 I1 ea c n l fun u' s2 I2 ru => ⟨v, H1, I2, ru, q⟩
theorem cq8 (ha : PE X o ta) (hv : PE X value tv) (hs : swapsWith value (some (.Attribute o f pos')) pos.line X.env = pure false) : PS X (.Assign [.Attribute o f pos'] value pos) (ca3 X.K ta tv f) := by
 intro pins s σ H D I h
 refine plainObj_wpAny_Assign_Attribute (cR (hv pins s σ H _ I h) fun u s1 ⟨y, H1, I1, ry, q⟩ => cR (ha pins s1 σ H1 _ I1 q) fun ov s2 ⟨x, H2, I2, rx, a, C, dx, fs, ex, ea, c, n, l, q2⟩ => ?_) hs
 subst ex
 obtain rfl : ov = Value.ref a := rx
 exact bt5 I2 ea c n l ry fun s3 I3 => ⟨σ, _, I3, q2⟩
end
section
variable {X : Cx} {pins : List (Addr × Obj)} {σ : St} {H : Hp} {s : Shared} {A : Around} {E : Value → Shared → Prop} {Q : Value → Shared → Prop} {c : Value} {b : Bool}
end
end L2
namespace L2
open PySem PySem.Spec PyProof.Rows
structure Room (k : Nat) (A : Around) : Prop where
 hd : A.handled = none
 dp : A.depth + 3 * k + 5 < recursionLimit
 un : A.units + 16 * k + 200 < cLine
theorem Room.mono (r : Room k A) (h : j ≤ k) : Room j A := ⟨r.hd, by have := r.dp; omega, by have := r.un; omega⟩
theorem Room.deeper (r : Room (k + 1) A) (env : Env) : Room k (A.deeper env) :=
 ⟨r.hd, by have := r.dp; show A.depth + 1 + 3 * k + 5 < _; omega, by have := r.un; show A.units + 3 + 16 * k + 200 < _; omega⟩
theorem bo4 {A : Around} {C : Addr} {us : List Value} {kw : List (Str × Value)} : (A.under (.builtin "type.__call__" ⟨.ref C :: us, kw⟩)).depth = A.depth + 1 := by
 first | rfl | simp [Around.under, Code.weight, Code.isCreation, Code.isGuard, Code.isCaller, Code.frames, Code.isFrame, guardIds]
theorem bf5 {A : Around} {C : Addr} {us : List Value} {kw : List (Str × Value)} : (A.under (.builtin "type.__call__" ⟨.ref C :: us, kw⟩)).units = A.units + 1 := by
 first | rfl | simp [Around.under, Code.cUnits, Code.frames, Code.isFrame]
theorem Room.make (r : Room (k + 1) A) (C : Addr) (us : List Value) (kw : List (Str × Value)) : Room k (A.under (.builtin "type.__call__" ⟨.ref C :: us, kw⟩)) :=
 ⟨r.hd, by have := r.dp; rw [bo4]; omega, by have := r.un; rw [bf5]; omega⟩
theorem Room.depth (r : Room k A) : A.depth < recursionLimit := by have := r.dp; omega
theorem Room.units (r : Room k A) : A.units + 64 < cLine := by have := r.un; omega
def ba0 : TA := fun _ H Q => Q [] H
def an3 (ta : TE) (tr : TA) : TA := fun σ H Q => ta σ H fun x H1 => tr σ H1 fun xs H2 => Q (x :: xs) H2
section
variable {X : Cx} {e : Expr} {es : List Expr} {te : TE} {t : TA} {pos : Pos}
theorem aH : PA X [] ba0 := fun _ _ _ _ H Q I h => Calls.spliced_nil ⟨[], H, I, .nil, h⟩
theorem aB (ha : PE X e te) (hr : PA X es t) (hs : starEach (e :: es) X.env = (false, eval e X.env) :: starEach es X.env := by rfl) : PA X (e :: es) (an3 te t) := by
 intro pos pins s σ H Q I h
 rw [hs]
 show wpAny _ _ (spliced ((false, eval e X.env) :: backTo pos (starEach es X.env))) _ _ s
 refine Calls.spliced_cons (cR (ha pins s σ H _ I h) fun u s1 ⟨x, H1, I1, r1, q1⟩ => ?_)
 exact cR (hr pos pins s1 σ H1 _ I1 q1) fun us s2 ⟨xs, H2, I2, r2, q2⟩ => ⟨x :: xs, H2, I2, .cons r1 r2, q2⟩
def cv9 (t : TA) : TE := fun σ H Q => t σ H fun xs H1 => xs.length ≤ sizeLine ∧ ∀ p, H1 p = none → Q (.ref p) (upd H1 p (.tup xs))
def cd9 (t : TA) : TE := fun σ H Q => t σ H fun xs H1 => xs.length ≤ sizeLine ∧ ∀ p, H1 p = none → Q (.ref p) (upd H1 p (.lst xs))
theorem cJ {x1} (h : PA X es t) : PE X (.Tuple es x1 pos) (cv9 t) := by
 intro pins s σ H Q I hq
 refine wpAny_Tuple_spliced (cR (h pos pins s σ H _ I hq) fun us s1 ⟨xs, H1, I1, r, z, q⟩ => ⟨by rw [← r.length]; exact z, ?_⟩)
 have hf : H1 s1.heap.objs.size = none := I1.hok.fresh (Nat.le_refl _)
 refine ⟨.ref s1.heap.objs.size, upd H1 s1.heap.objs.size (.tup xs), I1.laid (t' := s1.toks) (fun b u e => Heap.get?_push_of_some _ e) (Nat.le_refl _) ?_, rfl, q _ hf⟩
 exact ⟨z, us, r, ⟨_, Heap.get?_push_size _ rfl, rfl, _, rfl⟩⟩
theorem dL (h : PA X es t) : PE X (.List es pos) (cd9 t) := by
 intro pins s σ H Q I hq
 refine wpAny_List_spliced (cR (h pos pins s σ H _ I hq) fun us s1 ⟨xs, H1, I1, r, z, q⟩ => ⟨by rw [← r.length]; exact z, ?_⟩)
 have hf : H1 s1.heap.objs.size = none := I1.hok.fresh (Nat.le_refl _)
 refine ⟨.ref s1.heap.objs.size, upd H1 s1.heap.objs.size (.lst xs), I1.laid (t' := s1.toks) (fun b u e => Heap.get?_push_of_some _ e) (Nat.le_refl _) ?_, rfl, q _ hf⟩
 exact ⟨z, us, 0, r, Heap.get?_push_size _ rfl⟩
end
abbrev Sp := List V → Hp → VK → XK → Prop
abbrev xY := List Env → Hp → Shared → XK → Value → Shared → Prop
structure Env0 (P : Program) (w : World) (K : PySem.W.Frag) (mg : Str → Option Value) (base : Heap) (A : Around) (outer : List Env) (s : Shared) (H : Hp) : Prop where
 frames : A.frames = some outer
 mod : Mod K mg base
 bs : ∀ b o, base.get? b = some o → s.heap.get? b = some o ∧ H b = none
 bsz : base.objs.size ≤ s.heap.objs.size
 funs : s.heap.FunFrames base outer
 frf : ∀ b ∈ vX outer, H b = none
 hok : HOk P w H s.heap
 bare : AllBare s.gens
def CE (outer : List Env) (P : Program) (w : World) (H : Hp) (s : Shared) (Q : VK) (u : Value) (s' : Shared) : Prop :=
 ∃ v H', s'.os = s.os ∧ AllBare s'.gens ∧ Un (vX outer) [] H H' s.heap s'.heap ∧ HOk P w H' s'.heap ∧ RelV v u ∧ Q v H'
def CR (CX : xY) (outer : List Env) (P : Program) (w : World) (H : Hp) (s : Shared) (Q : VK) (E : XK) (r : Result) (s' : Shared) : Prop :=
 match r with
 | .ok (.ret u) => CE outer P w H s Q u s'
 | .ok _ => False
 | .error e => CX outer H s E e s'
structure FnOk (P : Program) (w : World) (K : PySem.W.Frag) (mg : Str → Option Value) (base : Heap) (CX : xY) (k : Nat) (f : Addr) (fd : FuncData) (ps : List Str) (sp : Sp) : Prop where
 len : ∀ vs H Q E, sp vs H Q E → vs.length = ps.length
 run : ∀ (A : Around) (outer : List Env) (s : Shared) (H : Hp) (args : Args) (us : List Value) (vs : List V) (Q : VK) (E : XK), Room k A → Env0 P w K mg base A outer s H → BindsTo s fd args (ps.zip us) → Vals vs us → sp vs H Q E →
  codeAny (model P w) A (.call (.ref f) args) (CR CX outer P w H s Q E) s
theorem FnOk.mono {P : Program} {w : World} {K : PySem.W.Frag} {mg : Str → Option Value} {base : Heap} {CX : xY} {j k : Nat} {f : Addr} {fd : FuncData} {ps : List Str} {sp : Sp} (F : FnOk P w K mg base CX j f fd ps sp) (h : j ≤ k) :
 FnOk P w K mg base CX k f fd ps sp := ⟨F.len, fun A outer s H args us vs Q E hr => F.run A outer s H args us vs Q E (hr.mono h)⟩
theorem FnOk.imp {P : Program} {w : World} {K : PySem.W.Frag} {mg : Str → Option Value} {base : Heap} {CX : xY} {k : Nat} {f : Addr} {fd : FuncData} {ps : List Str} {sp sp' : Sp} (F : FnOk P w K mg base CX k f fd ps sp)
 (h : ∀ vs H Q E, sp' vs H Q E → sp vs H Q E) : FnOk P w K mg base CX k f fd ps sp' :=
 ⟨fun vs H Q E q => F.len vs H Q E (h _ _ _ _ q), fun A outer s H args us vs Q E hr he hb hv hs => F.run A outer s H args us vs Q E hr he hb hv (h _ _ _ _ hs)⟩
theorem Env0.make {P : Program} {w : World} {K : PySem.W.Frag} {mg : Str → Option Value} {base : Heap} {A : Around} {outer : List Env} {s : Shared} {H : Hp} (e : Env0 P w K mg base A outer s H) (C : Addr) (us : List Value) (kw : List (Str × Value)) :
    Env0 P w K mg base (A.under (.builtin "type.__call__" ⟨.ref C :: us, kw⟩)) outer s H := ⟨by first | exact e.frames | (simpa [Around.under, Code.envs, Code.isFrame, pushEnvs] using e.frames), e.mod, e.bs, e.bsz, e.funs, e.frf, e.hok, e.bare⟩
section
variable {X : Cx} {pins : List (Addr × Obj)} {σ : St} {H : Hp} {s s' : Shared}
theorem Inv.env0 (I : Inv X pins σ H s) : Env0 X.prog X.w X.K X.mg X.base X.A X.stack s H :=
 ⟨I.ok.frames, I.ok.mod, I.bs, Nat.le_trans I.ok.bsz I.sz, I.stack, I.stkFree, I.hok, I.bare⟩
theorem Inv.after (I : Inv X pins σ H s) (h : CE X.stack X.prog X.w H s Q u s') : EP X pins σ Q u s' := by
 obtain ⟨v, H', os, bare, un, hok, r, q⟩ := h
 obtain ⟨hh, g, d, t, os'⟩ := s'
 obtain rfl : os' = s.os := os
 exact ⟨v, H', I.call (h' := hh) (g' := g) (d' := d) (t' := t) (ch := []) un hok bare (fun b z => absurd z (by simp)), r, q⟩
end
def dy5 (sp : Sp) (dvs : List V) (E : XK) (t : TA) : TE := fun σ H Q => t σ H fun vs H1 => sp (vs ++ dvs) H1 Q E
def bl5 (C : Addr) (sp : Sp) (dvs : List V) (E : XK) (t : TA) : TE := fun σ H Q => t σ H fun vs H1 => ∀ x dx, H1 x = none → H1 dx = none → dx ≠ x →
 sp (.ref x :: (vs ++ dvs)) (upd (upd H1 dx (.own x)) x (.ins C dx [])) (fun v H2 => v = .non ∧ Q (.ref x) H2) E
def Binds (K : PySem.W.Frag) (fd : FuncData) (ps : List Str) (ds : List Value) : Prop :=
 ∀ (s : Shared) (us : List Value), K.In s.heap → (us ++ ds).length = ps.length → BindsTo s fd ⟨us, []⟩ (ps.zip (us ++ ds))
theorem Binds.all {K : PySem.W.Frag} {fd : FuncData} {ps : List Str} (h : ∀ us : List Value, us.length = ps.length → bindArgs fd ⟨us, []⟩ = pure (ps.zip us)) : Binds K fd ps [] := fun s us _ hl => by
 rw [List.append_nil] at hl ⊢
 exact .of_eq (h us hl)
def yS (CX : xY) (X : Cx) (E : XK) : Prop := ∀ (pins : List (Addr × Obj)) (σ : St) (H : Hp) (s : Shared) (e : Value) (s' : Shared), Inv X pins σ H s → CX X.stack H s E e s' → X.xe e s'
section
variable {X : Cx} {CX : xY} {k : Nat} {f C : Addr} {fd : FuncData} {ps : List Str} {sp : Sp} {dvs : List V} {ds : List Value} {E : XK} {x m : Str} {p pos apos : Pos} {e o : Expr} {es : List Expr} {ta : TE} {t : TA}
theorem ar2 (F : FnOk X.prog X.w X.K X.mg X.base CX k f fd ps sp) (hr : Room k X.A) (hb : Binds X.K fd ps ds) (hd : Vals dvs ds) (hx : yS CX X E)
 (I : Inv X pins σ H s) (r : Vals vs us) (h : sp (vs ++ dvs) H Q E) : wpAny (model X.prog X.w) X.A (call (.ref f) us) (EP X pins σ Q) X.xe s := by
 have r2 : Vals (vs ++ dvs) (us ++ ds) := r.append hd
 have hl : (us ++ ds).length = ps.length := by rw [← r2.length]; exact F.len _ _ _ _ h
 refine wpAny_call (codeAny_mono (F.run X.A X.stack s H ⟨us, []⟩ (us ++ ds) (vs ++ dvs) Q E hr I.env0 (hb s us I.kIn hl) r2 h) fun r s' hq => ?_)
 cases r with
 | error e => exact hx pins σ H s e s' I hq
 | ok fl =>
  cases fl with
  | ret u => exact I.after hq
  | next => exact False.elim hq
  | brk => exact False.elim hq
  | cont => exact False.elim hq
theorem cm7 (F : FnOk X.prog X.w X.K X.mg X.base CX k f fd ps sp) (hr : Room k X.A) (hg : Gl X x) (hm : X.mg x = some (.ref f)) (hk : PySem.W.keepIn X.K (.ref f) = true) (hb : Binds X.K fd ps ds) (hd : Vals dvs ds) (hx : yS CX X E)
 (ha : PA X (e :: es) t) (hdb : (x == ("__debug__" : Str)) = false := by decide) (he : starEach (e :: es) X.env = (false, eval e X.env) :: starEach es X.env := by rfl) (hpl : (backTo pos (starEach es X.env)).any (·.1) = false := by rfl) :
 PE X (.Call (.Name x p) (e :: es) [] pos) (dy5 sp dvs E t) := by
 intro pins s σ H Q I h
 refine wpAny_Call_Name_kw (wF I hg hm ?_ hdb)
 refine PySem.W.callWith_K (h₀ := X.base) I.ok.mod.kin hk (cR (ha pos pins s σ H _ I h) fun us s1 ⟨vs, H1, I1, r, q⟩ => ⟨I1.kIn, ?_⟩) he hpl
 exact ar2 F hr hb hd hx I1 r q
structure Mk (K : PySem.W.Frag) (C f : Addr) : Prop where
 makes : PySem.W.makesIn K C = true
 init : PySem.W.findIn K (.ref C) "__init__" = some (some (.ref f))
 fn : PySem.W.isFn K (.ref f) = true
 kp : PySem.W.keepIn K (.ref C) = true
theorem cb1 (M : Mk X.K C f) (F : FnOk X.prog X.w X.K X.mg X.base CX k f fd ps sp) (hr : Room (k + 1) X.A) (hb : Binds X.K fd ps ds) (hd : Vals dvs ds)
 (hx : yS CX X E) (I : Inv X pins σ H s) (r : Vals vs us)
 (h : ∀ x dx, H x = none → H dx = none → dx ≠ x → sp (.ref x :: (vs ++ dvs)) (upd (upd H dx (.own x)) x (.ins C dx [])) (fun v H2 => v = .non ∧ Q (.ref x) H2) E) :
 wpAny (model X.prog X.w) X.A (call (.ref C) us) (EP X pins σ Q) X.xe s := by
 have hq := h (s.heap.objs.size + 1) s.heap.objs.size (I.hok.fresh (Nat.le_succ _)) (I.hok.fresh (Nat.le_refl _)) (Nat.ne_of_lt (Nat.lt_succ_self _))
 have I2 := Inv.made (C := C) I
 have r2 : Vals (V.ref (s.heap.objs.size + 1) :: (vs ++ dvs)) (Value.ref (s.heap.objs.size + 1) :: (us ++ ds)) := .cons rfl (r.append hd)
 have hl : (Value.ref (s.heap.objs.size + 1) :: us ++ ds).length = ps.length := by
  have e := r2.length
  rw [F.len _ _ _ _ hq] at e
  exact e.symm
 refine wpAny_call (cq0 (f := f) I.kIn M.makes M.init (beq_iff_eq.mp M.fn) (codeAny_mono (F.run _ X.stack _ _ ⟨Value.ref (s.heap.objs.size + 1) :: us, []⟩ (Value.ref (s.heap.objs.size + 1) :: (us ++ ds)) _ _ E (hr.make C us [])
  (I2.env0.make C us []) (hb _ (Value.ref (s.heap.objs.size + 1) :: us) I2.kIn hl) r2 hq) fun r s' hq' => ?_))
 cases r with
 | error e => exact hx pins σ _ _ e s' I2 hq'
 | ok fl =>
  cases fl with
  | ret u =>
   obtain ⟨v, H', I3, rv, ev, q3⟩ := I2.after hq'
   subst ev
   exact ⟨rv, ⟨V.ref (s.heap.objs.size + 1), H', I3, rfl, q3⟩⟩
  | next => exact False.elim hq'
  | brk => exact False.elim hq'
  | cont => exact False.elim hq'
theorem ct7 (M : Mk X.K C f) (F : FnOk X.prog X.w X.K X.mg X.base CX k f fd ps sp) (hr : Room (k + 1) X.A) (hg : Gl X x) (hm : X.mg x = some (.ref C)) (hb : Binds X.K fd ps ds) (hd : Vals dvs ds) (hx : yS CX X E)
 (ha : PA X (e :: es) t) (hdb : (x == ("__debug__" : Str)) = false := by decide) (he : starEach (e :: es) X.env = (false, eval e X.env) :: starEach es X.env := by rfl) (hpl : (backTo pos (starEach es X.env)).any (·.1) = false := by rfl) :
 PE X (.Call (.Name x p) (e :: es) [] pos) (bl5 C sp dvs E t) := by
 intro pins s σ H Q I h
 refine wpAny_Call_Name_kw (wF I hg hm ?_ hdb)
 refine PySem.W.callWith_K (h₀ := X.base) I.ok.mod.kin M.kp (cR (ha pos pins s σ H _ I h) fun us s1 ⟨vs, H1, I1, r, q⟩ => ⟨I1.kIn, ?_⟩) he hpl
 exact cb1 M F hr hb hd hx I1 r q
end
section
variable {X : Cx} {CX : xY} {k : Nat} {f C : Addr} {fd : FuncData} {ps ks : List Str} {sp : Sp} {E : XK} {x m : Str} {p pos apos kpos : Pos} {e o : Expr} {es : List Expr} {kws : List Keyword} {te ta : TE} {t tk : TA} {nm : Option Str}
variable {g : List Value → List Value → List Value} {gV : List V → List V → List V}
end
structure bH (N P : List Str) (sc : Scope) : Prop where
 kind : sc.kind = .function
 co : sc.isCoroutine = false
 gen : sc.isGenerator = false
 nd : N.Nodup
 pre : N.take P.length = P
 par : ∀ x ∈ P, sc.names.lookup x = some .local ∨ sc.names.lookup x = some .cell
 nofree : ∀ y ∈ sc.names, y.2 ≠ .free
theorem aj7 {kindOf : Str → Option NameKind} {x : Str} : ∀ {binds : List (Str × Value)} {m : Str → Option Value}, (∀ v, (x, v) ∉ binds) → bindL kindOf binds m x = m x
  | [], _, _ => rfl
  | (n, v) :: r, m, h => by
    unfold bindL
    rw [aj7 fun w hw => h w (List.mem_cons_of_mem _ hw)]
    split
    · have : x ≠ n := by rintro rfl; exact h v List.mem_cons_self
      simp [this]
    · rfl
theorem ag7 {kindOf : Str → Option NameKind} {x : Str} : ∀ {binds : List (Str × Value)} {m : Str → Option Value}, (∀ v, (x, v) ∉ binds) → bindC kindOf binds m x = m x
  | [], _, _ => rfl
  | (n, v) :: r, m, h => by
    unfold bindC
    rw [ag7 fun w hw => h w (List.mem_cons_of_mem _ hw)]
    split
    · rfl
    · have : x ≠ n := by rintro rfl; exact h v List.mem_cons_self
      simp [this]
theorem ai7 {kindOf : Str → Option NameKind} {x : Str} {v : Value} : ∀ {P : List Str} {vs : List Value} {i : Nat} {m : Str → Option Value}, P.Nodup → P[i]? = some x → vs[i]? = some v → kindOf x = some .local →
 bindL kindOf (P.zip vs) m x = some v
 | [], _, _, _, _, h, _, _ => by simp at h
 | _ :: _, [], _, _, _, _, h, _ => by simp at h
 | p :: P, w :: vs, 0, m, nd, h1, h2, hk => by
  simp at h1 h2; subst h1; subst h2
  show bindL kindOf ((p, w) :: P.zip vs) m p = _
  unfold bindL
  rw [aj7 fun v hv => (List.nodup_cons.mp nd).1 (List.of_mem_zip hv).1, if_pos hk]
  simp
 | p :: P, w :: vs, i + 1, m, nd, h1, h2, hk => by
  show bindL kindOf ((p, w) :: P.zip vs) m x = _
  unfold bindL
  exact ai7 (i := i) (List.nodup_cons.mp nd).2 (by simpa using h1) (by simpa using h2) hk
theorem at6 {kindOf : Str → Option NameKind} {x : Str} {v : Value} : ∀ {P : List Str} {vs : List Value} {i : Nat} {m : Str → Option Value}, P.Nodup → P[i]? = some x → vs[i]? = some v → kindOf x ≠ some .local →
 bindC kindOf (P.zip vs) m x = some v
 | [], _, _, _, _, h, _, _ => by simp at h
 | _ :: _, [], _, _, _, _, h, _ => by simp at h
 | p :: P, w :: vs, 0, m, nd, h1, h2, hk => by
  simp at h1 h2; subst h1; subst h2
  show bindC kindOf ((p, w) :: P.zip vs) m p = _
  unfold bindC
  rw [ag7 fun v hv => (List.nodup_cons.mp nd).1 (List.of_mem_zip hv).1, if_neg hk]
  simp
 | p :: P, w :: vs, i + 1, m, nd, h1, h2, hk => by
  show bindC kindOf ((p, w) :: P.zip vs) m x = _
  unfold bindC
  exact at6 (i := i) (List.nodup_cons.mp nd).2 (by simpa using h1) (by simpa using h2) hk
def jD (N : List Str) (vs : List V) : St := vs.map some ++ List.replicate (N.length - vs.length) none
def lM (CX : xY) (P : Program) (w : World) (K : PySem.W.Frag) (mg : Str → Option Value) (base : Heap) (N : List Str) (qual : Str) (scope : Scope) (f : Addr) (cd : Value) (A : Around) (outer : List Env) (s : Shared) (H : Hp) (E : XK) : Cx where
 prog := P
 w := w
 K := K
 mg := mg
 base := base
 A := A.deeper (envOfC qual scope s.heap.objs.size f cd)
 N := N
 s₀ := s
 H₀ := H
 env := envOfC qual scope s.heap.objs.size f cd
 outer := outer
 stack := envOfC qual scope s.heap.objs.size f cd :: outer
 ex := []
 calm := true
 fn := fun _ => true
 pn := []
 xe := fun e s' => wpAny (model P w) (A.deeper (envOfC qual scope s.heap.objs.size f cd)) (leaving (envOfC qual scope s.heap.objs.size f cd) e) (fun _ s'' => CX outer H s E e s'') (fun e' s'' => CX outer H s E e' s'') s'
theorem bc0 {sc : Scope} {n : Nat} {x : Str} (h : sc.names.lookup x = some .cell) : ∃ c, (cellsFrom n sc.names []).lookup x = some c := by
 have q := PySem.W.cellsFrom_some sc.names n [] (.inl h)
 exact Option.isSome_iff_exists.mp q
theorem bv7 {CX : xY} {P : Program} {w : World} {K : PySem.W.Frag} {mg : Str → Option Value} {base : Heap} {N ps : List Str} {qual : Str} {scope : Scope} {f : Addr} {cd : Value} {A : Around} {outer : List Env} {s s1 : Shared} {H : Hp} {E : XK} {us : List Value} {vs : List V}
 (S : bH N ps scope) (hd : A.handled = none) (e0 : Env0 P w K mg base A outer s H) (hl : vs.length = ps.length) (r : Vals vs us)
 (x : InCallC s s.heap.objs.size (bindL (envOfC qual scope s.heap.objs.size f cd).kindOf (ps.zip us) fun _ => none) (cellsFrom (s.heap.objs.size + 1) scope.names []) (bindC (envOfC qual scope s.heap.objs.size f cd).kindOf (ps.zip us) fun _ => none) s1) :
 Inv (lM CX P w K mg base N qual scope f cd A outer s H E) [] (jD N vs) H s1 := by
 have hpl : ps.length ≤ N.length := by have := congrArg List.length S.pre; rw [List.length_take] at this; omega
 obtain ⟨h1, tk, rfl, hk⟩ := x.done
 have noA : ∀ b : Addr, b ∉ (lM CX P w K mg base N qual scope f cd A outer s H E).ex := fun b z => absurd (show b ∈ ([] : List Addr) from z) (by simp)
 refine ⟨⟨e0.mod, S.kind, rfl, rfl, Nat.le_refl _, fun y z c h1 h2 => ?_, fun y hy => ?_, fun y c _ h => ?_, fun _ => hd, Around.frames_deeper e0.frames, .inr ⟨rfl, rfl⟩, fun b z => absurd z (noA b), e0.bs, e0.bsz, fun b _ _ => noA b, fun b z => absurd z (noA b), e0.funs, e0.frf⟩,
  rfl, e0.bare, Un.kept hk, ⟨_, x.toInCall.ns, fun i y v h1 h2 h3 => ?_⟩, fun y c h => ⟨_, x.cell y c h⟩, e0.hok.fresh (Nat.le_refl _), fun y c h => ?_, fun p hp => absurd (show p ∈ ([] : List (Addr × Obj)) from hp) (by simp), e0.hok.kept hk, ?_⟩
 · exact name_of_addr x.apart (PySem.mem_of_lookup h1) (PySem.mem_of_lookup h2)
 · have hy : scope.names.lookup y = some .cell ∨ scope.names.lookup y = some .free := hy
   rcases hy with hy | hy
   · exact bc0 hy
   · exact absurd rfl (S.nofree _ (PySem.mem_of_lookup hy))
 · exact Nat.le_of_lt (x.above y c (PySem.mem_of_lookup h))
 · have hi : i < vs.length := by
    unfold jD at h2
    by_cases hi : i < vs.length
    · exact hi
    · rw [List.getElem?_append_right (by simpa using hi)] at h2
      rw [List.getElem?_replicate] at h2
      split at h2 <;> cases h2
   have ha : vs[i]? = some v := by
    unfold jD at h2
    rw [List.getElem?_append_left (by simpa using hi), List.getElem?_map] at h2
    cases e : vs[i]? with
    | none => rw [e] at h2; cases h2
    | some a => rw [e] at h2; cases h2; rfl
   obtain ⟨u, hu, rv⟩ := r.get ha
   have hp : ps[i]? = some y := by
    rw [← S.pre, List.getElem?_take_of_lt (by omega)]; exact h1
   have ndP : ps.Nodup := by rw [← S.pre]; exact S.nd.sublist (List.take_sublist _ _)
   refine ⟨u, rv, ?_⟩
   rcases S.par y (List.mem_of_getElem? hp) with k | k
   · exact .inl ⟨k, ai7 ndP hp hu k⟩
   · obtain ⟨c, e⟩ := bc0 (n := s.heap.objs.size + 1) k
     refine .inr ⟨.inl k, c, e, ?_⟩
     have q := x.cell y c e
     rw [at6 ndP hp hu (by show scope.names.lookup y ≠ _; rw [k]; decide)] at q
     exact q
 · exact e0.hok.fresh (Nat.le_of_lt (x.above y c (PySem.mem_of_lookup h)))
 · unfold jD
   show _ = N.length
   rw [List.length_append, List.length_map, List.length_replicate]
   omega
theorem df3 {CX : xY} {P : Program} {w : World} {K : PySem.W.Frag} {mg : Str → Option Value} {base : Heap} {k : Nat} {f : Addr} {name qual : Str} {params : Arguments} {body : List Stmt} {scope : Scope} {dV kV doc pm cdv ct oc : Value} {an od : Option Addr}
 {osl : Array (Option Value)} {N ps : List Str} {sp : Sp} (lk : K.lookup f = some ⟨oc, od, .func (PySem.W.fnOf name qual params body scope dV kV doc pm an cdv ct), osl⟩) (hcd : PySem.W.codeIn K cdv qual = true) (S : bH N ps scope)
 (len : ∀ vs H Q E, sp vs H Q E → vs.length = ps.length)
 (hbody : ∀ (A : Around) (outer : List Env) (s : Shared) (H : Hp) (vs : List V) (Q : VK) (E : XK), Room k (A.deeper (envOfC qual scope s.heap.objs.size f cdv)) → sp vs H Q E →
  ∃ t, PSs (lM CX P w K mg base N qual scope f cdv A outer s H E) body t ∧ t { nx := fun _ H' => Q .non H', rt := Q } (jD N vs) H) :
 FnOk P w K mg base CX (k + 1) f (PySem.W.fnOf name qual params body scope dV kV doc pm an cdv ct) ps sp := by
 refine ⟨len, fun A outer s H args us vs Q E hr e0 hb r hsp => ?_⟩
 have hl := len _ _ _ _ hsp
 have KX : K.In s.heap := e0.mod.kin.keeps fun b o e => (e0.bs b o e).1
 have lim : s.heap.NoLimit := e0.mod.nolimit.keeps fun b o e => (e0.bs b o e).1
 have hkind : ∀ y ∈ ps.zip us, scope.names.lookup y.1 = some .local ∨ (scope.names.lookup y.1 = some .cell ∧ ((cellsFrom (s.heap.objs.size + 1) scope.names []).lookup y.1).isSome = true) := fun ⟨n, v⟩ hy => by
  rcases S.par n (List.of_mem_zip hy).1 with q | q
  · exact .inl q
  · exact .inr ⟨q, PySem.W.cellsFrom_some _ _ _ (.inl q)⟩
 refine codeAny_call_function hr.depth (KX _ _ lk) rfl S.co S.gen rfl (PySem.W.codeRec_of KX hcd) (hb _ _ _ _ ?_)
 refine wpAny_newFunctionEnv_cells S.kind hkind fun env he s1 x => ?_
 subst he
 refine ⟨lim.keeps x.toInCall.keep, codeAny_func ?_⟩
 obtain ⟨t, ht, hq⟩ := hbody A outer s H vs Q E (hr.deeper _) hsp
 have I : Inv (lM CX P w K mg base N qual scope f cdv A outer s H E) [] (jD N vs) H s1 := bv7 S hr.hd e0 hl r x
 refine wpAny_mono (ht [] s1 (jD N vs) H _ I hq) (fun fl s' hs => ?_) fun e s' hs => hs
 have cE : ∀ {σ' : St} {H' : Hp} {v : V} {u : Value}, Inv (lM CX P w K mg base N qual scope f cdv A outer s H E) [] σ' H' s' → RelV v u → Q v H' → CE outer P w H s Q u s' :=
  fun {σ' H' v u} J rv q => ⟨v, H', J.os, J.bare, J.base, J.hok, rv, q⟩
 cases fl with
 | ret u =>
  obtain ⟨v, σ', H', J, rv, q⟩ := hs
  exact cE J rv q
 | next =>
  obtain ⟨σ', H', J, q⟩ := hs
  exact cE (v := V.non) (u := Value.none) J rfl q
 | brk =>
  obtain ⟨_, _, _, q⟩ := hs
  exact False.elim q
 | cont =>
  obtain ⟨_, _, _, q⟩ := hs
  exact False.elim q
end L2
namespace L2
open PySem PySem.Spec PyProof.Rows
section
variable {X : Cx} {x : Str} {p pos : Pos} {e : Expr} {es : List Expr} {t : TA} {id T : String} {r : List V → Hp → VK → Prop}
def tCB (r : List V → Hp → VK → Prop) (t : TA) : TE := fun σ H Q => t σ H fun vs H1 => r vs H1 Q
theorem bB (hc : CallR X (.builtin id) r) (hg : Gl X x) (hm : X.mg x = none) (hv : bootBuiltins x = some (.builtin id)) (ha : PA X (e :: es) t) (hn : x ≠ "__name__" := by decide) (hdb : (x == ("__debug__" : Str)) = false := by decide)
 (he : starEach (e :: es) X.env = (false, eval e X.env) :: starEach es X.env := by rfl) (hpl : (backTo pos (starEach es X.env)).any (·.1) = false := by rfl) : PE X (.Call (.Name x p) (e :: es) [] pos) (tCB r t) := by
 intro pins s σ H Q I h
 refine wpAny_Call_Name_kw (pS I hg hm hv ?_ hn hdb)
 exact PyProof.Rows.callWith_builtin1 (cR (ha pos pins s σ H _ I h) fun us s1 ⟨vs, H1, I1, r1, q1⟩ => hc pins s1 σ H1 vs us Q I1 r1 q1) he hpl
theorem fY (hc : CallR X (.type T) r) (hg : Gl X x) (hm : X.mg x = none) (hv : bootBuiltins x = some (.type T)) (ha : PA X (e :: es) t) (hn : x ≠ "__name__" := by decide) (hdb : (x == ("__debug__" : Str)) = false := by decide)
 (he : starEach (e :: es) X.env = (false, eval e X.env) :: starEach es X.env := by rfl) (hpl : (backTo pos (starEach es X.env)).any (·.1) = false := by rfl) : PE X (.Call (.Name x p) (e :: es) [] pos) (tCB r t) := by
 intro pins s σ H Q I h
 refine wpAny_Call_Name_kw (pS I hg hm hv ?_ hn hdb)
 exact PyProof.Rows.callWith_type1 (cR (ha pos pins s σ H _ I h) fun us s1 ⟨vs, H1, I1, r1, q1⟩ => hc pins s1 σ H1 vs us Q I1 r1 q1) he hpl
end
end L2
namespace HT
open PySem PyProof.Rows
section
open PySem.SeqAt
open PySem.AutoSeq1 (wpAny_loadPart')
open PySem.MeetsSeq PySem.MeetsSeq2 PySem.MeetsSeq3
end
section
variable {prog : Program} {w : World} {A : Around} {E : Value → Shared → Prop} {s : Shared}
theorem cat_tup (ht : IsTup s.heap t vs.toArray) (hb : IsTup s.heap b ws.toArray) (hv : vs ≠ [])
 (h1 : ws = [] → Q (.ref t) s) (h2 : ws ≠ [] → Q (.ref s.heap.objs.size) { s with heap := s.heap.push { cls := .type "tuple", data := .seq (vs ++ ws).toArray } })
 (hsz : vs.length + ws.length ≤ sizeLine) : wpAny (model prog w) A (binaryOp .Add (.ref t) (.ref b)) Q E s := by
 obtain ⟨⟨cls, dd, data, sl⟩, ho, hc, n, hd⟩ := id ht
 obtain ⟨⟨cls2, dd2, data2, sl2⟩, ho2, hc2, n2, hd2⟩ := id hb
 simp only at hc hd hc2 hd2
 subst hc hd hc2 hd2
 have e : vs.toArray ++ ws.toArray = (vs ++ ws).toArray := by simp
 by_cases hw : ws = []
 · exact concat_meets ⟨_, ho, rfl⟩ ⟨_, ho2, rfl⟩ noFill_tuple_add seq_tuple_add PySem.F.slot_tuple_add PySem.F.entry_tuple_add (PySem.F.args_tuple_add_2 _ _)
    (tuple_addW1 t b vs.toArray ws.toArray n n2 dd dd2 sl sl2 (by simpa using hv) (by simp [hw])) ⟨ho, ho2, h1 hw⟩
 · refine concat_meets ⟨_, ho, rfl⟩ ⟨_, ho2, rfl⟩ noFill_tuple_add seq_tuple_add PySem.F.slot_tuple_add PySem.F.entry_tuple_add (PySem.F.args_tuple_add_2 _ _)
    (tuple_addW2 t b vs.toArray ws.toArray n n2 dd dd2 sl sl2 (by simpa using hv) (by simpa using hw) (by rw [List.size_toArray, List.size_toArray]; exact hsz)) ⟨ho, ho2, ?_⟩
   rw [e]
   exact h2 hw
def sIx (n d : Nat) : Option Int → Nat
 | none => d
 | some v => if v < 0 then (v + (n : Int)).toNat else min v.toNat n
theorem sIx_le (n d : Nat) (hd : d ≤ n) (o : Option Int) : sIx n d o ≤ n := by
 cases o with
 | none => exact hd
 | some v =>
  show (if v < 0 then (v + (n : Int)).toNat else min v.toNat n) ≤ n
  by_cases hv : v < 0
  · rw [if_pos hv]; omega
  · rw [if_neg hv]; exact Nat.min_le_right _ _
theorem clip_eq (v : Int) (n d : Nat) : (if v < 0 then max (v + (n : Int)) 0 else min v (n : Int)) = ((sIx n d (some v) : Nat) : Int) := by
 show (if v < 0 then max (v + (n : Int)) 0 else min v (n : Int)) = (((if v < 0 then (v + (n : Int)).toNat else min v.toNat n) : Nat) : Int)
 by_cases hv : v < 0
 · simp only [if_pos hv]; omega
 · simp only [if_neg hv]; omega
theorem adjust_gen (lo hi : Option Int) (n : Nat) : Builtin.Slice.sliceAdjust lo hi 1 (n : Int) = (((sIx n 0 lo : Nat) : Int), ((sIx n n hi : Nat) : Int)) := by
 have h1 : ¬ ((1 : Int) < 0) := by omega
 unfold Builtin.Slice.sliceAdjust
 simp only [h1, if_false]
 refine Prod.ext ?_ ?_
 · cases lo with
   | none => rfl
   | some v => exact clip_eq v n 0
 · cases hi with
   | none => rfl
   | some v => exact clip_eq v n n
theorem places_gen (i j : Nat) : Builtin.Slice.slicePlaces (i : Int) (j : Int) 1 = j - i := by
 unfold Builtin.Slice.slicePlaces
 have h1 : (1 : Int) > 0 := by omega
 simp only [h1, if_true, Int.ediv_one]
 split <;> omega
theorem slicePart_ (p : IsPart v o) (h : Q o s) : wpAny (model prog w) A (Builtin.Slice.slicePartIndex v) Q E s := by
 cases p with
 | none => exact slicePart_none h
 | int i t => exact slicePart_int h
theorem sliceApplied_gen {sl : Addr} {vl vu : Value} {lo hi : Option Int} {n : Nat} {Q : Int × Int × Nat → Shared → Prop} (hs : s.heap.IsSliceOf sl vl vu .none) (pl : IsPart vl lo) (pu : IsPart vu hi)
    (h : Q (((sIx n 0 lo : Nat) : Int), 1, sIx n n hi - sIx n 0 lo) s) : wpAny (model prog w) A (Builtin.Slice.sliceApplied (.ref sl) (pure (n : Int))) Q E s := by
  obtain ⟨os, hos, hcs, hds⟩ := id hs
  unfold Builtin.Slice.sliceApplied Builtin.Slice.sliceFields
  refine wpAny_bind (wpAny_bind (wpAny_field hos hds (x := vl) rfl (wpAny_bind (wpAny_field hos hds (x := vu) rfl (wpAny_bind (wpAny_field hos hds (x := .none) rfl (wpAny_pure ?_)))))))
  refine wpAny_bind (slicePart_none ?_)
  show wpAny _ _ (if ((1 : Int) == 0) = true then _ else _) _ _ s
  rw [if_neg (by decide)]
  refine wpAny_bind (slicePart_ pl (wpAny_bind (slicePart_ pu (wpAny_bind (wpAny_pure ?_)))))
  show wpAny _ _ (match Builtin.Slice.sliceAdjust lo hi 1 (n : Int) with | (lo, hi) => pure (lo, (1 : Int), Builtin.Slice.slicePlaces lo hi 1)) _ _ s
  rw [adjust_gen lo hi n]
  show wpAny _ _ (pure (((sIx n 0 lo : Nat) : Int), (1 : Int), Builtin.Slice.slicePlaces ((sIx n 0 lo : Nat) : Int) ((sIx n n hi : Nat) : Int) 1)) _ _ s
  rw [places_gen]
  exact wpAny_pure h
theorem pick_gen (xs : Array Value) (i k : Nat) : ((List.range k).filterMap fun (m : Nat) => xs[((i : Int) + (m : Int) * 1).toNat]?).toArray = ((xs.toList.drop i).take k).toArray := by
 have e : (fun (m : Nat) => xs[((i : Int) + (m : Int) * 1).toNat]?) = fun m => xs[i + m]? := by
  funext m
  have : ((i : Int) + (m : Int) * 1).toNat = i + m := by omega
  rw [this]
 rw [e]
 have := pick_run xs i k
 rw [List.filterMap_map] at this
 have e2 : ((fun x => xs[x]?) ∘ fun x => i + x) = fun m => xs[i + m]? := rfl
 rw [e2] at this
 rw [this]
theorem getItem_tuple_cut {t sl : Addr} {items : Array Value} {vl vu : Value} {lo hi : Option Int} {Q : Value → Shared → Prop} (ht : IsTup s.heap t items) (hs : s.heap.IsSliceOf sl vl vu .none) (pl : IsPart vl lo) (pu : IsPart vu hi)
 (hw : ¬ (sIx items.size 0 lo = 0 ∧ sIx items.size items.size hi = items.size))
 (h : Q (.ref s.heap.objs.size) { s with heap := s.heap.push { cls := .type "tuple", data := .seq ((items.toList.drop (sIx items.size 0 lo)).take (sIx items.size items.size hi - sIx items.size 0 lo)).toArray } })
 (hsz : items.size ≤ sizeLine) : wpAny (model prog w) A (getItem (.ref t) (.ref sl)) Q E s := by
 have htake : sizeOk (.seq ((items.toList.drop (sIx items.size 0 lo)).take (sIx items.size items.size hi - sIx items.size 0 lo)).toArray) := by
  show ((items.toList.drop (sIx items.size 0 lo)).take (sIx items.size items.size hi - sIx items.size 0 lo)).toArray.size ≤ sizeLine
  rw [List.size_toArray, List.length_take, List.length_drop, Array.length_toList]
  omega
 have hj : sIx items.size items.size hi ≤ items.size := sIx_le _ _ (Nat.le_refl _) hi
 obtain ⟨os, hos, hcs, hds⟩ := id hs
 have hTs : s.TypeIs (.ref sl) "slice" := ⟨os, hos, hcs⟩
 unfold getItem
 try with_reducible refine wpAny_holding ?_
 first | refine wpAny_bind (wpAny_pure ?_) | skip
 refine wpAny_bind (wpAny_sequenceKey ht.typeIs (by decide) ?_)
 refine wpAny_bind (wpAny_callSpecial?_slot (name := Str.ofString "__getitem__") ht.typeIs PyProof.Rows.slot_tuple_getitem
  (wpAny_call_entry PyProof.Rows.slot_tuple_getitem ht.typeIs entry_tuple_getitem ?_ (args_tuple_getitem _ _)))
 show wpAny _ _ (Builtin.Tuple.tupleItemsOf (.ref t) >>= _) _ _ s
 refine wpAny_bind (tupleItemsOf_ ht ?_)
 refine wpAny_bind (wpAny_typeOf hTs ?_)
 rw [if_pos (by decide)]
 refine wpAny_bind (sliceApplied_gen hs pl pu ?_)
 have hno : ¬ ((((sIx items.size 0 lo : Nat) : Int) == 0 && (1 : Int) == 1 && (sIx items.size items.size hi - sIx items.size 0 lo) == items.size) = true) := by
  intro q
  rw [Bool.and_eq_true, Bool.and_eq_true] at q
  have q1 : ((sIx items.size 0 lo : Nat) : Int) = 0 := eq_of_beq q.1.1
  have q2 : sIx items.size items.size hi - sIx items.size 0 lo = items.size := eq_of_beq q.2
  exact hw ⟨by omega, by omega⟩
 show wpAny _ _ (if (((sIx items.size 0 lo : Nat) : Int) == 0 && (1 : Int) == 1 && (sIx items.size items.size hi - sIx items.size 0 lo) == items.size) = true then _ else _) _ _ s
 rw [if_neg hno, pick_gen]
 first
  | exact wpAny_bind (m := Builtin.Tuple.tupleExact _) (wpAny_newObj_type (wpAny_pure ⟨_, rfl, wpAny_pure h⟩) htake)
  | exact wpAny_bind (m := Builtin.Tuple.tupleExact _) (wpAny_newObj_type (wpAny_bind (wpAny_pure (wpAny_pure ⟨_, rfl, wpAny_pure h⟩))) htake)
  | exact wpAny_bind (wpAny_bind (m := Builtin.Tuple.tupleExact _) (wpAny_newObj_type (wpAny_pure (wpAny_pure ⟨_, rfl, wpAny_pure h⟩)) htake))
  | exact wpAny_bind (wpAny_bind (m := Builtin.Tuple.tupleExact _) (wpAny_newObj_type (wpAny_pure ⟨_, rfl, wpAny_pure h⟩) htake))
end
end HT
namespace L2
open PySem PySem.Spec PyProof.Rows
abbrev TO := St → Hp → (Option Int → Hp → Prop) → Prop
def PO (X : Cx) (e : Option Expr) (t : TO) : Prop :=
 ∀ (pins : List (Addr × Obj)) (s : Shared) (σ : St) (H : Hp) (Q : Option Int → Hp → Prop), Inv X pins σ H s → t σ H Q →
  wpAny (model X.prog X.w) X.A (evalPart e X.env) (fun u s' => ∃ o H', Inv X pins σ H' s' ∧ IsPart u o ∧ Q o H') X.xe s
def bn3 : TO := fun _ H Q => Q none H
def cl4 (t : TE) : TO := fun σ H Q => t σ H fun x H1 => ∃ i, x = .int i ∧ Q (some i) H1
theorem al2 : ∀ {us : List Value}, Vals (ns.map V.int) us → IntsAre us ns := by
 induction ns with
 | nil => intro us r; rw [List.map_nil] at r; cases r; exact .nil
 | cons n ns ih =>
  intro us r
  rw [List.map_cons] at r
  cases r with
  | cons r1 r2 =>
   obtain ⟨t, e⟩ := r1
   subst e
   exact .cons n t (ih r2)
section
variable {X : Cx} {e : Expr} {te : TE} {lo hi : Option Expr} {tl th : TO} {pos p2 : Pos}
theorem kY : PO X none bn3 := by
 intro pins s σ H Q I h
 rw [evalPart_none]
 exact wpAny_pure ⟨none, H, I, .none, h⟩
theorem hU (h : PE X e te) : PO X (some e) (cl4 te) := by
 intro pins s σ H Q I hw
 rw [evalPart_some]
 refine cR (h pins s σ H _ I hw) fun u s1 ⟨x, H1, I1, r1, q1⟩ => ?_
 obtain ⟨i, rfl, q⟩ := q1
 obtain ⟨t, rfl⟩ := r1
 exact ⟨some i, H1, I1, .int i t, q⟩
def SlR (X : Cx) (r : V → Option Int → Option Int → Hp → VK → Prop) : Prop :=
 ∀ (pins : List (Addr × Obj)) (s : Shared) (σ : St) (H : Hp) (x : V) (v vl vu : Value) (lo hi : Option Int) (sl : Addr) (Q : VK), Inv X pins σ H s → RelV x v → s.heap.IsSliceOf sl vl vu .none → IsPart vl lo → IsPart vu hi → r x lo hi H Q →
  ∃ T id, typeLookup (.type T) "__getitem__" = pure (some (.builtin id)) ∧ s.TypeIs v T ∧ wpAny (model X.prog X.w) X.A (getItem v (.ref sl)) (EP X pins σ Q) X.xe s
theorem SlR.or (h : SlR X r) (h' : SlR X r') : SlR X (fun x lo hi H Q => r x lo hi H Q ∨ r' x lo hi H Q) := by
 intro pins s σ H x v vl vu lo hi sl Q I rx hs pl pu q
 rcases q with q | q
 · exact h pins s σ H x v vl vu lo hi sl Q I rx hs pl pu q
 · exact h' pins s σ H x v vl vu lo hi sl Q I rx hs pl pu q
def tSl (r : V → Option Int → Option Int → Hp → VK → Prop) (te : TE) (tl th : TO) : TE := fun σ H Q => te σ H fun x H1 => tl σ H1 fun l H2 => th σ H2 fun u H3 => r x l u H3 Q
theorem iC (hr : SlR X r) (he : PE X e te) (hl : PO X lo tl) (hu : PO X hi th) : PE X (.Subscript e (.Slice lo hi none p2) pos) (tSl r te tl th) := by
 intro pins s σ H Q I h
 refine Subscript_ (cR (he pins s σ H _ I h) fun v s1 ⟨x, H1, I1, r1, q1⟩ => ?_)
 refine wpAny_Slice (cR (hl pins s1 σ H1 _ I1 q1) fun vl s2 ⟨l, H2, I2, pl, q2⟩ => cR (hu pins s2 σ H2 _ I2 q2) fun vu s3 ⟨u, H3, I3, pu, q3⟩ => ?_)
 rw [evalPart_none]
 refine wpAny_pure ?_
 have I4 : Inv X pins σ H3 { s3 with heap := s3.heap.push { cls := .type "slice", data := .fields #[vl, vu, .none] } } := I3.kept (t' := s3.toks) fun b ob q => Heap.get?_push_of_some _ q
 obtain ⟨T, id, hT, ht, hg⟩ := hr pins { s3 with heap := s3.heap.push { cls := .type "slice", data := .fields #[vl, vu, .none] } } σ H3 x v vl vu l u s3.heap.objs.size Q I4 r1 (Heap.IsSliceOf.new ..) pl pu q3
 show wpAny (model X.prog X.w) X.A (subscriptTail e (.Slice lo hi none p2) v (.ref s3.heap.objs.size)) (EP X pins σ Q) X.xe { s3 with heap := s3.heap.push { cls := .type "slice", data := .fields #[vl, vu, .none] } }
 exact tail_any (ops := [.ref s3.heap.objs.size, v]) ht hT hg (by with_unfolding_all rfl)
def yL (xs : List V) (lo hi : Option Int) : List V := (xs.drop (HT.sIx xs.length 0 lo)).take (HT.sIx xs.length xs.length hi - HT.sIx xs.length 0 lo)
theorem as0 (xs : List V) (lo hi : Option Int) : (yL xs lo hi).length ≤ xs.length := by
 unfold yL
 rw [List.length_take, List.length_drop]
 omega
def dr0 (K : PySem.W.Frag) : V → Option Int → Option Int → Hp → VK → Prop := fun x lo hi H Q => ∃ a xs, x = .ref a ∧ SqT K H a xs ∧
 ¬ (HT.sIx xs.length 0 lo = 0 ∧ HT.sIx xs.length xs.length hi = xs.length) ∧ ∀ p, H p = none → Q (.ref p) (upd H p (.tup (yL xs lo hi)))
theorem do0 : SlR X (dr0 X.K) := by
 intro pins s σ H x v vl vu lo hi sl Q I rx hs pl pu h
 obtain ⟨a, xs, rfl, hx, hw, q⟩ := h
 cases rx
 obtain ⟨its, r, ht, hz⟩ := I.tuple hx
 have hlen : its.toArray.size = xs.length := by rw [List.size_toArray]; exact r.length.symm
 refine ⟨"tuple", _, PyProof.Rows.slot_tuple_getitem.lookup, ht.typeIs, ?_⟩
 refine HT.getItem_tuple_cut ht hs pl pu (by rw [hlen]; exact hw) ?_ (by rw [hlen]; exact hz)
 rw [hlen]
 refine ⟨.ref s.heap.objs.size, _, I.laid (t' := s.toks) (o := .tup (yL xs lo hi)) (fun b ob q => Heap.get?_push_of_some _ q) (Nat.le_refl _) ?_, rfl, q _ (I.hok.fresh (Nat.le_refl _))⟩
 exact ⟨Nat.le_trans (as0 xs lo hi) hz, _, (r.drop (HT.sIx xs.length 0 lo)).take (HT.sIx xs.length xs.length hi - HT.sIx xs.length 0 lo), IsTup.new _ _⟩
def cf4 (K : PySem.W.Frag) : R2 := fun x y H Q => ∃ a b xs ys, x = .ref a ∧ y = .ref b ∧ SqT K H a xs ∧ SqT K H b ys ∧ xs ≠ [] ∧ xs.length + ys.length ≤ sizeLine ∧
 (ys = [] → Q (.ref a) H) ∧ (ys ≠ [] → ∀ p, H p = none → Q (.ref p) (upd H p (.tup (xs ++ ys))))
theorem Vals.nil_iff (r : Vals xs us) : us = [] ↔ xs = [] := by
 cases r with
 | nil => simp
 | cons _ _ => simp
theorem co7 : OpR X (binaryOp .Add) (cf4 X.K) := by
 intro pins s σ H x y v u Q I rx ry h
 obtain ⟨a, b, xs, ys, rfl, rfl, ha, hb, hx, hz, q1, q2⟩ := h
 cases rx
 cases ry
 obtain ⟨its, r1, p1, _⟩ := I.tuple ha
 obtain ⟨its2, r2, p2, _⟩ := I.tuple hb
 refine HT.cat_tup p1 p2 (fun z => hx (r1.nil_iff.mp z)) (fun z => ⟨.ref a, H, I, rfl, q1 (r2.nil_iff.mp z)⟩) (fun z => ?_) (by rw [← r1.length, ← r2.length]; exact hz)
 refine ⟨.ref s.heap.objs.size, _, I.laid (t' := s.toks) (o := .tup (xs ++ ys)) (fun b ob q => Heap.get?_push_of_some _ q) (Nat.le_refl _) ?_, rfl, q2 (fun w => z (r2.nil_iff.mpr w)) _ (I.hok.fresh (Nat.le_refl _))⟩
 exact ⟨by rw [List.length_append]; exact hz, _, r1.append r2, IsTup.new _ _⟩
end
end L2
namespace L2
open PySem PySem.Spec PyProof.Rows
def tH (n : Nat) (i : Int) : Option Nat := if 0 ≤ i then (if i < n then some i.toNat else none) else if -(n : Int) ≤ i then some (i + n).toNat else none
def atI {α : Type} (xs : List α) (i : Int) : Option α := (tH xs.length i).bind fun j => xs[j]?
theorem aj5 (h : tH n i = some j) : seqIndex? i n = some j ∧ j < n ∧ -(n : Int) ≤ i ∧ i < n := by
 unfold tH at h
 by_cases h0 : 0 ≤ i
 · rw [if_pos h0] at h
   by_cases h1 : i < n
   · rw [if_pos h1] at h
     have e : i.toNat = j := Option.some.inj h
     exact ⟨by rw [seqIndex_of h0 h1, e], by omega, by omega, h1⟩
   · rw [if_neg h1] at h; cases h
 · rw [if_neg h0] at h
   by_cases h1 : -(n : Int) ≤ i
   · rw [if_pos h1] at h
     have e : (i + n).toNat = j := Option.some.inj h
     exact ⟨by rw [seqIndex_neg (by omega) h1, e], by omega, h1, by omega⟩
   · rw [if_neg h1] at h; cases h
theorem ak4 (h : atI xs i = some v) : ∃ j, seqIndex? i xs.length = some j ∧ xs[j]? = some v ∧ j < xs.length ∧ -(xs.length : Int) ≤ i ∧ i < xs.length := by
 unfold atI at h
 cases e : tH xs.length i with
 | none => rw [e] at h; cases h
 | some j =>
  rw [e] at h
  obtain ⟨h1, h2, h3, h4⟩ := aj5 e
  exact ⟨j, h1, h, h2, h3, h4⟩
theorem eX {α : Type} {xs : List α} {j : Nat} {v : α} (h : xs[j]? = some v) : atI xs (j : Int) = some v := by
 have hj : j < xs.length := (List.getElem?_eq_some_iff.mp h).1
 have e : tH xs.length (j : Int) = some j := by
  unfold tH
  rw [if_pos (by omega), if_pos (by omega)]; simp
 unfold atI; rw [e]; exact h
def cj5 (b : Expr) : Prop := ∀ o i, subscripted b false o i = operate [o, i] (getItem o i)
def IxR (X : Cx) (r : R2) : Prop :=
 ∀ (value slice : Expr) (pins : List (Addr × Obj)) (s : Shared) (σ : St) (H : Hp) (x y : V) (v u : Value) (Q : VK), Inv X pins σ H s → RelV x v → RelV y u → r x y H Q →
  subscripted slice false v u = operate [v, u] (getItem v u) → wpAny (model X.prog X.w) X.A (subscriptTail value slice v u) (EP X pins σ Q) X.xe s
def MtR (X : Cx) (id : String) (r : V → List V → Hp → VK → Prop) : Prop :=
 ∀ (pins : List (Addr × Obj)) (s : Shared) (σ : St) (H : Hp) (x : V) (xs : List V) (v : Value) (us : List Value) (Q : VK), Inv X pins σ H s → RelV x v → Vals xs us → r x xs H Q →
  wpAny (model X.prog X.w) X.A (call (.builtin id) (v :: us)) (EP X pins σ Q) X.xe s
section
variable {X : Cx} {a b : Expr} {ta tb : TE} {pos : Pos}
theorem IxR.or (h : IxR X r) (h' : IxR X r') : IxR X (fun x y H Q => r x y H Q ∨ r' x y H Q) := by
 intro value slice pins s σ H x y v u Q I rx ry q hs
 rcases q with q | q
 · exact h value slice pins s σ H x y v u Q I rx ry q hs
 · exact h' value slice pins s σ H x y v u Q I rx ry q hs
theorem aP (hr : IxR X r) (ha : PE X a ta) (hb : PE X b tb) (hs : cj5 b) : PE X (.Subscript a b pos) (tOp r ta tb) := by
 intro pins s σ H Q I h
 exact Subscript_ (ce2 ha hb I h fun v u s2 x y H2 I2 rx ry q => hr a b pins s2 σ H2 x y v u Q I2 rx ry q (hs _ _))
def cn8 (K : PySem.W.Frag) : R2 := fun x y H Q => ∃ p xs i v, x = .ref p ∧ y = .int i ∧ SqL K H p xs ∧ atI xs i = some v ∧ Q v H
def cy8 (K : PySem.W.Frag) : R2 := fun x y H Q => ∃ p xs i v, x = .ref p ∧ y = .int i ∧ SqT K H p xs ∧ atI xs i = some v ∧ Q v H
def df0 : R2 := fun x y H Q => ∃ z i c, x = .str z ∧ y = .int i ∧ z.length ≤ sizeLine ∧ atI z.cps.toList i = some c ∧ Q (.str ⟨#[c]⟩) H
theorem ix_list : IxR X (cn8 X.K) := by
 intro value slice pins s σ H x y v u Q I rx ry h hs
 obtain ⟨p, xs, i, z, rfl, rfl, hq, he, q⟩ := h
 cases rx
 obtain ⟨t, rfl⟩ := ry
 obtain ⟨its, r, pl, hz⟩ := I.list hq
 obtain ⟨j, h1, h2, h3, h4, h5⟩ := ak4 he
 obtain ⟨w, ew, rw'⟩ := r.get h2
 have hl := r.length
 have hn := wC
 have cE : EP X pins σ Q w s := ⟨z, H, I, rw', q⟩
 by_cases h0 : 0 ≤ i
 · have hj : i.toNat = j := by
    rw [seqIndex_of h0 h5] at h1
    exact Option.some.inj h1
   exact item_listR pl.isList h0 (by omega) (by rw [hj]; simpa using ew) cE hs
 · have hj : (i + (its.toArray.size : Int)).toNat = j := by
    rw [seqIndex_neg (by omega) h4] at h1
    rw [List.size_toArray, ← hl]
    exact Option.some.inj h1
   exact subscriptTail_builtinR (x := w) pl.isList.typeIs slot_list_getitem.lookup
    (wpAny_getItem_list_neg (Q := fun r s' => r = w ∧ EP X pins σ Q r s') pl.isList (by omega) (by rw [List.size_toArray] <;> omega) (by omega) (by rw [hj]; simpa using ew) ⟨rfl, cE⟩) hs
theorem ix_tup : IxR X (cy8 X.K) := by
 intro value slice pins s σ H x y v u Q I rx ry h hs
 obtain ⟨p, xs, i, z, rfl, rfl, hq, he, q⟩ := h
 cases rx
 obtain ⟨t, rfl⟩ := ry
 obtain ⟨its, r, pl, hz⟩ := I.tuple hq
 obtain ⟨j, h1, h2, h3, h4, h5⟩ := ak4 he
 obtain ⟨w, ew, rw'⟩ := r.get h2
 have hl := r.length
 have hn := wC
 have cE : EP X pins σ Q w s := ⟨z, H, I, rw', q⟩
 exact subscriptTail_builtinR (x := w) pl.typeIs slot_tuple_getitem.lookup
  (getItem_tuple (j := j) (Q := fun r s' => r = w ∧ EP X pins σ Q r s') pl (by omega) (by omega) (by rw [List.size_toArray, ← hl]; exact h1) (by simpa using ew) ⟨rfl, cE⟩) hs
theorem dl0 : IxR X df0 := by
 intro value slice pins s σ H x y v u Q I rx ry h hs
 obtain ⟨z, i, c, rfl, rfl, hz, he, q⟩ := h
 obtain ⟨t, rfl⟩ := rx
 obtain ⟨t', rfl⟩ := ry
 obtain ⟨j, h1, h2, h3, h4, h5⟩ := ak4 he
 have hl : z.cps.toList.length = z.length := by simp [Str.length]
 rw [hl] at h1 h4 h5
 have hn := wC
 exact tail_any (typeIs_str s z t) slot_str_getitem.lookup (getItem_str (c := c) (by
  have e1 : decide (i < -(2 ^ 63 : Int)) = false := decide_eq_false (by omega)
  have e2 : decide (i ≥ 2 ^ 63) = false := decide_eq_false (by omega)
  rw [e1, e2, Bool.or_false]) (by rw [h1]; simpa using h2) ⟨.str ⟨#[c]⟩, H, I.tok _, ⟨_, rfl⟩, q⟩) hs
def rIx (K : PySem.W.Frag) : R2 := fun x y H Q => cn8 K x y H Q ∨ cy8 K x y H Q ∨ df0 x y H Q
theorem ds0 : IxR X (rIx X.K) := ix_list.or (ix_tup.or dl0)
theorem bd6 (its : List Value) (n j : Nat) (u : Value) : Obj.mapSeq (·.setIfInBounds j u) { cls := .type "list", data := .seq its.toArray n } = { cls := .type "list", data := .seq (its.set j u).toArray n } := by
 simp [Obj.mapSeq]
theorem Inv.lst (I : Inv X pins σ H s) (h : H p = some (.lst xs)) :
 ∃ (its : List Value) (n : Nat), Vals xs its ∧ s.heap.get? p = some { cls := .type "list", data := .seq its.toArray n } ∧ xs.length ≤ sizeLine := by
 obtain ⟨z, its, n, r, e⟩ := I.hok p _ h
 exact ⟨its, n, r, e, z⟩
theorem Inv.lstUpd {pins : List (Addr × Obj)} {σ : St} {H : Hp} {s : Shared} {p : Addr} {xs ys : List V} {its its' : List Value} {n n' : Nat} {f : Obj → Obj} (I : Inv X pins σ H s) (h : H p = some (.lst xs))
 (ho : s.heap.get? p = some { cls := .type "list", data := .seq its.toArray n }) (hf : f { cls := .type "list", data := .seq its.toArray n } = { cls := .type "list", data := .seq its'.toArray n' }) (r : Vals ys its') (hz : ys.length ≤ sizeLine) (t : Nat) :
 Inv X pins σ (upd H p (.lst ys)) { s with heap := s.heap.update p f, toks := t } := by
 have e : (s.heap.update p f).get? p = some { cls := .type "list", data := .seq its'.toArray n' } := by
  rw [Heap.get?_update_self f ho (by rw [hf] <;> rfl), hf]
 refine I.write (x := p) (e := p) (by rw [h]; trivial) (.inl rfl) (fun b u hb q => (Heap.get?_update_other _ _ (Ne.symm hb)).trans q) ⟨_, e⟩ ?_
 exact ⟨hz, its', n', r, e⟩
def ce4 : V → V → V → Hp → (Hp → Prop) → Prop := fun o i v H Q => ∃ p xs k j, o = .ref p ∧ i = .int k ∧ H p = some (.lst xs) ∧ tH xs.length k = some j ∧ Q (upd H p (.lst (xs.set j v)))
theorem bz0 : dc2 X ce4 := by
 intro pins s σ H o i v ov iv u Q I ro ri rv h
 obtain ⟨p, xs, k, j, rfl, rfl, hp, hj, q⟩ := h
 cases ro
 obtain ⟨t, rfl⟩ := ri
 obtain ⟨its, n, r, ho, hz⟩ := I.lst hp
 obtain ⟨h1, h2, h3, h4⟩ := aj5 hj
 have hl := r.length
 have hn := wC
 have I' : Inv X pins σ (upd H p (.lst (xs.set j v))) { s with heap := s.heap.update p (Obj.mapSeq (·.setIfInBounds j u)) } :=
  I.lstUpd hp ho (bd6 its n j u) (r.set rv j) (by rw [List.length_set]; exact hz) s.toks
 by_cases h0 : 0 ≤ k
 · have hk : k.toNat = j := by
    rw [seqIndex_of h0 h4] at h1
    exact Option.some.inj h1
   exact PySem.W.ki_setAt ho h0 (by omega) (by rw [List.size_toArray, ← hl]; exact h4) (by rw [hk]; exact ⟨_, I', q⟩)
 · have hk : (k + (its.toArray.size : Int)).toNat = j := by
    rw [seqIndex_neg (by omega) h3] at h1
    rw [List.size_toArray, ← hl]
    exact Option.some.inj h1
   exact PySem.W.ki_setBack ho (by omega) (by rw [List.size_toArray, ← hl]; exact h3) (by omega) (by rw [hk]; exact ⟨_, I', q⟩)
theorem bx0 (lo hi : Option Int) (n : Nat) : (sliceBounds lo hi none n).1 = ((HT.sIx n 0 lo : Nat) : Int) ∧ (sliceBounds lo hi none n).2.1 = ((HT.sIx n n hi : Nat) : Int) ∧ (sliceBounds lo hi none n).2.2 = 1 := by
 refine ⟨?_, ?_, rfl⟩
 · cases lo with
   | none => simp [sliceBounds, HT.sIx]
   | some i =>
    simp only [sliceBounds, HT.sIx, Option.getD_none, show (1 : Int) > 0 by decide, if_true]
    by_cases h : i < 0
    · simp only [h, if_true] <;> omega
    · simp only [h, if_false] <;> omega
 · cases hi with
   | none => simp [sliceBounds, HT.sIx]
   | some i =>
    simp only [sliceBounds, HT.sIx, Option.getD_none, show (1 : Int) > 0 by decide, if_true]
    by_cases h : i < 0
    · simp only [h, if_true] <;> omega
    · simp only [h, if_false] <;> omega
theorem au7 (its : List Value) (lo hi : Option Int) : slicePick its.toArray lo hi none = ((its.drop (HT.sIx its.length 0 lo)).take (HT.sIx its.length its.length hi - HT.sIx its.length 0 lo)).toArray := by
 obtain ⟨h1, h2, h3⟩ := bx0 lo hi its.toArray.size
 unfold slicePick
 rw [h1, h2, h3]
 simp only [sliceRange_one, pick_run, List.size_toArray] <;> rfl
def ca9 (K : PySem.W.Frag) : V → Option Int → Option Int → Hp → VK → Prop := fun x lo hi H Q => ∃ a xs, x = .ref a ∧ SqL K H a xs ∧ ∀ p, H p = none → Q (.ref p) (upd H p (.lst (yL xs lo hi)))
theorem cu5 : SlR X (ca9 X.K) := by
 intro pins s σ H x v vl vu lo hi sl Q I rx hs pl pu h
 obtain ⟨a, xs, rfl, hx, q⟩ := h
 cases rx
 obtain ⟨its, r, ht, hz⟩ := I.list hx
 have hlen := r.length
 refine ⟨"list", _, slot_list_getitem.lookup, ht.isList.typeIs, ?_⟩
 refine wpAny_getItem_list_slice ht.isList hs pl pu .none (by simp) ?_ (by rw [List.size_toArray] <;> omega)
 rw [au7, ← hlen]
 refine ⟨.ref s.heap.objs.size, _, I.laid (t' := s.toks) (o := .lst (yL xs lo hi)) (fun b ob q => Heap.get?_push_of_some _ q) (Nat.le_refl _) ?_, rfl, q _ (I.hok.fresh (Nat.le_refl _))⟩
 exact ⟨Nat.le_trans (as0 xs lo hi) hz, _, 0, (r.drop (HT.sIx xs.length 0 lo)).take (HT.sIx xs.length xs.length hi - HT.sIx xs.length 0 lo), Heap.get?_push_size _ rfl⟩
def qU : V → Bool
 | .non => true
 | .bl _ => true
 | .int _ => true
 | .str _ => true
 | _ => false
def eqV : V → V → Bool
 | .non, .non => true
 | .bl a, .bl b => a == b
 | .bl a, .int b => (if a then 1 else 0) == b
 | .int a, .bl b => a == (if b then 1 else 0)
 | .int a, .int b => a == b
 | .str a, .str b => a == b
 | _, _ => false
theorem bt8 (ry : RelV y u) (rx : RelV x v) (fy : qU y = true) (fx : qU x = true) : SeqAt.EqAt A s u v (eqV y x) := by
 cases y with
 | non =>
  cases ry
  cases x with
  | non => cases rx; exact SeqAt.EqAt.same _
  | bl b => cases rx; exact SeqAt.EqAt.none_bool b
  | int b => obtain ⟨t, rfl⟩ := rx; exact SeqAt.EqAt.none_int b t
  | str b => obtain ⟨t, rfl⟩ := rx; exact SeqAt.EqAt.none_str b t
  | _ => exact absurd (show false = true from fx) Bool.false_ne_true
 | bl a =>
  cases ry
  cases x with
  | non => cases rx; exact SeqAt.EqAt.bool_none a
  | bl b => cases rx; exact SeqAt.EqAt.bool_bool a b
  | int b => obtain ⟨t, rfl⟩ := rx; exact SeqAt.EqAt.bool_int a b t
  | str b => obtain ⟨t, rfl⟩ := rx; exact SeqAt.EqAt.bool_str a b t
  | _ => exact absurd (show false = true from fx) Bool.false_ne_true
 | int a =>
  obtain ⟨t', rfl⟩ := ry
  cases x with
  | non => cases rx; exact SeqAt.EqAt.int_none a t'
  | bl b => cases rx; exact SeqAt.EqAt.int_bool a t' b
  | int b => obtain ⟨t, rfl⟩ := rx; exact SeqAt.EqAt.int_int a t' b t
  | str b => obtain ⟨t, rfl⟩ := rx; exact SeqAt.EqAt.int_str a t' b t
  | _ => exact absurd (show false = true from fx) Bool.false_ne_true
 | str a =>
  obtain ⟨t', rfl⟩ := ry
  cases x with
  | non => cases rx; exact SeqAt.EqAt.str_none a t'
  | bl b => cases rx; exact SeqAt.EqAt.str_bool a t' b
  | int b => obtain ⟨t, rfl⟩ := rx; exact SeqAt.EqAt.str_int a t' b t
  | str b => obtain ⟨t, rfl⟩ := rx; exact SeqAt.EqAt.str_str a t' b t
  | _ => exact absurd (show false = true from fx) Bool.false_ne_true
 | _ => exact absurd (show false = true from fy) Bool.false_ne_true
theorem CallR.or (h : CallR X f r) (h' : CallR X f r') : CallR X f (fun xs H Q => r xs H Q ∨ r' xs H Q) := by
 intro pins s σ H xs us Q I rs q
 rcases q with q | q
 · exact h pins s σ H xs us Q I rs q
 · exact h' pins s σ H xs us Q I rs q
theorem bv0 : CallR X (.type "list") (fun xs H Q => ∃ p ys, xs = [.ref p] ∧ (SqL X.K H p ys ∨ SqT X.K H p ys) ∧ ∀ l, H l = none → Q (.ref l) (upd H l (.lst ys))) := by
 intro pins s σ H xs us Q I r h
 obtain ⟨p, ys, rfl, hq, q⟩ := h
 obtain ⟨u, rfl, rx⟩ := ac3 r
 cases rx
 have cE : ∀ (its : List Value), Vals ys its → ys.length ≤ sizeLine → ∀ (h' : Heap) (c' : Nat), (∀ b o', s.heap.get? b = some o' → h'.get? b = some o') →
  h'.get? s.heap.objs.size = some { cls := .type "list", dict := none, data := .seq its.toArray c', slots := #[] } → EP X pins σ Q (.ref s.heap.objs.size) { s with heap := h' } := fun its r' hz h' c' kp e =>
  ⟨.ref s.heap.objs.size, _, I.laid (t' := s.toks) kp (Nat.le_refl _) (show ObjOk X.prog X.w _ h' _ (.lst ys) from ⟨hz, its, c', r', e⟩), rfl, q _ (I.hok.fresh (Nat.le_refl _))⟩
 rcases hq with hq | hq
 · obtain ⟨its, r', pl, hz⟩ := I.list hq
   have hlen := r'.length
   obtain ⟨o, ho, hc, n, hd⟩ := pl.isList
   exact call_list_seq p (.inl rfl) ho hc hd (fun h' c' kp e => cE its r' hz h' c' kp e) (by simp only [List.size_toArray] <;> omega)
 · obtain ⟨its, r', pl, hz⟩ := I.tuple hq
   have hlen := r'.length
   obtain ⟨o, ho, hc, n, hd⟩ := pl
   exact call_list_seq p (.inr rfl) ho hc hd (fun h' c' kp e => cE its r' hz h' c' kp e) (by simp only [List.size_toArray] <;> omega)
def tyV (K : PySem.W.Frag) (T : String) (x : V) (H : Hp) : Prop := match x with
 | .str _ => T = "str"
 | .int _ => T = "int"
 | .ref p => (T = "list" ∧ ∃ xs, SqL K H p xs) ∨ (T = "tuple" ∧ ∃ o, K.lookup p = some o ∧ o.cls = .type "tuple" ∧ o.dict = none) ∨
  (T = "dict" ∧ ((∃ kvs, H p = some (.dK kvs)) ∨ ∃ kvs, H p = some (.dT kvs))) ∨ (T = "set" ∧ ∃ S n, H p = some (.set S n))
 | _ => False
theorem cz8 (I : Inv X pins σ H s) (r : RelV x v) (ty : tyV X.K T x H) :
 s.TypeIs v T ∧ ∀ a, v = .ref a → ∃ ob, s.heap.get? a = some ob ∧ ob.dict = none := by
 cases x with
 | str z =>
  obtain ⟨t, rfl⟩ := r
  cases (show T = "str" from ty)
  exact ⟨typeIs_str s z t, fun _ e => nomatch e⟩
 | int i =>
  obtain ⟨t, rfl⟩ := r
  cases (show T = "int" from ty)
  exact ⟨typeIs_int s i t, fun _ e => nomatch e⟩
 | ref p =>
  cases r
  rcases ty with ⟨rfl, xs, hq⟩ | ⟨rfl, o, hk, hc, hd⟩ | ⟨rfl, hk⟩ | ⟨rfl, S, n, hk⟩
  · obtain ⟨its, _, pl, _⟩ := I.list hq
    refine ⟨pl.isList.typeIs, fun a e => ?_⟩
    cases e
    obtain ⟨o, n, e, c, hd, _⟩ := pl
    exact ⟨o, e, hd⟩
  · refine ⟨⟨o, I.kIn p o hk, hc⟩, fun a e => ?_⟩
    cases e
    exact ⟨o, I.kIn _ o hk, hd⟩
  · have z : ∃ o, s.heap.get? p = some o ∧ o.ExactDict := by
     rcases hk with ⟨kvs, hk⟩ | ⟨kvs, hk⟩
     · obtain ⟨_, _, _, _, o, _, _, e, ex, _⟩ := I.hok p _ hk
       exact ⟨o, e, ex⟩
     · obtain ⟨_, _, _, _, o, _, _, e, ex, _⟩ := I.hok p _ hk
       exact ⟨o, e, ex⟩
    obtain ⟨o, e, ex⟩ := z
    refine ⟨⟨o, e, ex.1⟩, fun a e2 => ?_⟩
    cases e2
    exact ⟨o, e, ex.2.1⟩
  · obtain ⟨o, _, _, _, e, ex, _⟩ := I.hok p _ hk
    refine ⟨⟨o, e, ex.1⟩, fun a e2 => ?_⟩
    cases e2
    exact ⟨o, e, ex.2.1⟩
 | _ => exact False.elim ty
def tBM (K : PySem.W.Frag) (T : String) (r : V → List V → Hp → VK → Prop) (to : TE) (t : TA) : TE := fun σ H Q => to σ H fun x H1 => tyV K T x H1 ∧ t σ H1 fun xs H2 => r x xs H2 Q
variable {o e : Expr} {es : List Expr} {to : TE} {t : TA} {name : Str} {apos cpos : Pos} {T id : String} {r : V → List V → Hp → VK → Prop}
theorem de6 (pa : PlainAttrs T) (slot : Slot T name id) (hty : typeOf (.builtin id) = pure (.type "method_descriptor")) (hm : MtR X id r) (ho : PE X o to) (ha : PA X (e :: es) t)
 (hbase : attributeBase o name X.env (eval o X.env) = eval o X.env := by rfl)
 (hfew : ((backTo cpos (starEach (e :: es) X.env)).all (fun x => !x.1) && (backToKw cpos (keywordEach [] X.env)).all (fun x => x.1.isSome)
  && decide ((e :: es).length + ([] : List Keyword).length + (if ([] : List Keyword).isEmpty then 0 else 1) < 30)) = true := by rfl)
 (hline : (apos.endLine == cpos.line) = true := by rfl) (hs : starEach (e :: es) X.env = (false, eval e X.env) :: starEach es X.env := by rfl) (hplain : (backTo cpos (starEach es X.env)).any (·.1) = false := by rfl) :
 PE X (.Call (.Attribute o name apos) (e :: es) [] cpos) (tBM X.K T r to t) := by
 intro pins s σ H Q I h
 refine wpAny_Call_method_late hbase hfew hline rfl (cR (ho pins s σ H _ I h) fun v s1 ⟨x, H1, I1, r1, ty, q1⟩ => ?_)
 obtain ⟨h1, h2⟩ := cz8 I1 r1 ty
 refine ⟨T, id, pa, slot, hty, h1, h2, ?_⟩
 have hA := ha cpos pins s1 σ H1 _ I1 q1
 rw [hs] at hA ⊢
 refine Calls.callWith_builtin (by show (false || (backTo cpos (starEach es X.env)).any (·.1)) = false; rw [hplain] <;> rfl) (Calls.evalArgs_plain ?_)
 exact cR hA fun us s2 ⟨vs, H2, I2, r2, q2⟩ => hm pins s2 σ H2 x vs v us Q I2 r1 r2 q2
/- xs.append(e), list.index on a module's tuple .. are MtR facts of 06m -/
end
end L2
namespace L2
open PySem PySem.Spec PyProof.Rows
def MtM (X : Cx) (id : String) (r : V → List V → Hp → VK → Prop) : Prop :=
 ∀ (pins : List (Addr × Obj)) (s : Shared) (σ : St) (H : Hp) (x : V) (xs : List V) (v : Value) (us : List Value) (Q : VK), Inv X pins σ H s → RelV x v → Vals xs us → r x xs H Q →
  wpAny (model X.prog X.w) X.A (call (.builtin id) (v :: us)) (EP X pins σ Q) X.xe s
theorem Vals.one : ∀ {x : V} {us : List Value}, Vals [x] us → ∃ u, us = [u] ∧ RelV x u
 | _, _, .cons r .nil => ⟨_, rfl, r⟩
theorem Vals.two : ∀ {x y : V} {us : List Value}, Vals [x, y] us → ∃ u v, us = [u, v] ∧ RelV x u ∧ RelV y v
 | _, _, _, .cons r (.cons q .nil) => ⟨_, _, rfl, r, q⟩
theorem Vals.eraseIdx : ∀ {xs : List V} {us : List Value} (i : Nat), Vals xs us → Vals (xs.eraseIdx i) (us.eraseIdx i)
 | _, _, _, .nil => .nil
 | _, _, 0, .cons _ t => t
 | _, _, i + 1, .cons r t => .cons r (Vals.eraseIdx i t)
theorem ay6 : ∀ (l : List α) (i : Nat), (l.eraseIdx i).length ≤ l.length
 | [], _ => Nat.le_refl _
 | _ :: _, 0 => Nat.le_succ _
 | _ :: r, i + 1 => Nat.succ_le_succ (ay6 r i)
section
variable {X : Cx} {pins : List (Addr × Obj)} {σ : St} {H : Hp} {s : Shared} {l b : Addr} {xs ys zs : List V}
theorem Inv.lset {its its' : List Value} {n : Nat} {f : Array Value → Array Value} {t' : Nat} (I : Inv X pins σ H s) (hH : H l = some (.lst xs))
 (e : s.heap.get? l = some { cls := .type "list", data := .seq its.toArray n }) (hf : f its.toArray = its'.toArray) (hv : Vals ys its') (hz : ys.length ≤ sizeLine) :
 Inv X pins σ (upd H l (.lst ys)) { s with heap := s.heap.update l (Obj.mapSeq f), toks := t' } := by
 have q := PySem.IsL.update e f
 rw [hf] at q
 refine I.write (x := l) (e := l) (by rw [hH]; exact trivial) (.inl rfl) (fun b' u hb hu => (Heap.get?_update_other s.heap (Obj.mapSeq f) (Ne.symm hb)).trans hu) ⟨_, q⟩ ?_
 exact ⟨hz, its', _, hv, q⟩
theorem Inv.lnew (I : Inv X pins σ H s) (hv : Vals ys its) (hz : ys.length ≤ sizeLine) :
 Inv X pins σ (upd H s.heap.objs.size (.lst ys)) { s with heap := s.heap.push { cls := .type "list", data := .seq its.toArray }, toks := t' } :=
 I.laid (fun _ _ q => Heap.get?_push_of_some _ q) (Nat.le_refl _) ⟨hz, its, 0, hv, Heap.get?_push_size _ rfl⟩
theorem Inv.fresh (I : Inv X pins σ H s) : H s.heap.objs.size = none := I.hok.fresh (Nat.le_refl _)
theorem Inv.lstM (I : Inv X pins σ H s) (hH : H l = some (.lst xs)) : xs.length ≤ sizeLine ∧ ∃ (its : List Value) (n : Nat), Vals xs its ∧ xs.length = its.length ∧ s.heap.get? l = some { cls := .type "list", data := .seq its.toArray n } := by
 obtain ⟨z, its, n, r, e⟩ := I.hok l _ hH
 exact ⟨z, its, n, r, r.length, e⟩
theorem ci3 (h : n ≤ sizeLine) : Builtin.List.listTooLong n = false := by
 unfold Builtin.List.listTooLong
 exact decide_eq_false (by omega)
end
section
variable {X : Cx}
def bu3 : V → List V → Hp → VK → Prop := fun x vs H Q => ∃ l xs y, x = .ref l ∧ vs = [y] ∧ H l = some (.lst xs) ∧ xs.length < sizeLine ∧ Q .non (upd H l (.lst (xs ++ [y])))
theorem fK : MtM X "list.append" bu3 := by
 intro pins s σ H x vs v us Q I rx rv h
 obtain ⟨l, xs, y, rfl, rfl, hH, hz, q⟩ := h
 cases rx
 obtain ⟨u, rfl, ru⟩ := rv.one
 obtain ⟨z, its, n, r, hl, e⟩ := I.lstM hH
 refine call_meets F.slot_list_append ⟨_, e, rfl⟩ F.entry_list_append (F.args_list_append_2 _ _) (PySem.list_append l its.toArray n u (by rw [List.size_toArray]; omega)) ⟨e, ?_⟩
 refine ⟨.non, _, I.lset (its' := its ++ [u]) hH e (by simp) (r.append (.cons ru .nil)) ?_, rfl, q⟩
 rw [List.length_append, List.length_singleton]
 omega
def bs3 : V → List V → Hp → VK → Prop := fun x vs H Q => ∃ l b xs zs, x = .ref l ∧ vs = [.ref b] ∧ H l = some (.lst xs) ∧ H b = some (.lst zs) ∧ xs.length + zs.length ≤ sizeLine ∧ Q .non (upd H l (.lst (xs ++ zs)))
theorem ad7 : MtM X "list.extend" bs3 := by
 intro pins s σ H x vs v us Q I rx rv h
 obtain ⟨l, b, xs, zs, rfl, rfl, hH, hB, hz, q⟩ := h
 cases rx
 obtain ⟨u, rfl, ru⟩ := rv.one
 cases ru
 obtain ⟨z, its, n, r, hl, e⟩ := I.lstM hH
 obtain ⟨z2, its2, n2, r2, hl2, e2⟩ := I.lstM hB
 have hsz : its.toArray.size + its2.toArray.size ≤ sizeLine := by rw [List.size_toArray, List.size_toArray]; omega
 have hlong : ¬ (!its.toArray.isEmpty && Builtin.List.listTooLong (its.toArray.size + its2.toArray.size)) = true := by
  rw [ci3 hsz, Bool.and_false]
  exact Bool.false_ne_true
 refine call_meets F.slot_list_extend ⟨_, e, rfl⟩ F.entry_list_extend (F.args_list_extend_2 _ _)
  (AutoSeq1.list_extend_list_list_0 l its.toArray n b its2.toArray n2 hlong (by rw [List.size_toArray]; omega) (by omega)) ⟨e, e2, ?_⟩
 refine ⟨.non, _, I.lset (its' := its ++ its2) hH e (by simp) (r.append r2) ?_, rfl, q⟩
 rw [List.length_append]
 omega
def bm8 : V → List V → Hp → VK → Prop := fun x vs H Q => ∃ l xs i k y, x = .ref l ∧ vs = [.int i] ∧ H l = some (.lst xs) ∧ -(2 ^ 63) ≤ i ∧ i < 2 ^ 63 ∧ seqIndex? i xs.length = some k ∧ xs[k]? = some y ∧ Q y (upd H l (.lst (xs.eraseIdx k)))
theorem cf3 : MtM X "list.pop" bm8 := by
 intro pins s σ H x vs v us Q I rx rv h
 obtain ⟨l, xs, i, k, y, rfl, rfl, hH, h1, h2, hk, hy, q⟩ := h
 cases rx
 obtain ⟨u, rfl, ru⟩ := rv.one
 obtain ⟨t, rfl⟩ := ru
 obtain ⟨z, its, n, r, hl, e⟩ := I.lstM hH
 obtain ⟨w, hw, rw'⟩ := r.get hy
 refine call_meets F.slot_list_pop ⟨_, e, rfl⟩ F.entry_list_pop (F.args_list_pop_2 _ _)
  (MeetsSeq.list_pop_at l its.toArray n i t k w (fitsIndex_both h1 h2) (by rw [List.size_toArray, ← hl]; exact hk) (by rw [← Array.getElem?_toList]; exact hw) (by rw [List.size_toArray]; omega)) ⟨e, ?_⟩
 refine ⟨y, _, I.lset (its' := its.eraseIdx k) hH e ?_ (r.eraseIdx k) ?_, rw', q⟩
 · show its.toArray.eraseIdxIfInBounds k = (its.eraseIdx k).toArray
   rw [List.eraseIdxIfInBounds_toArray]
 · have := ay6 xs k
   omega
theorem cv7 (xs : List α) (k : Nat) : (List.replicate k xs).flatten.length = k * xs.length := by
 induction k with
 | zero => simp
 | succ k ih => rw [List.replicate_succ, List.flatten_cons, List.length_append, ih, Nat.succ_mul, Nat.add_comm]
end
section
variable {prog : Program} {w : World} {A : Around} {E : Value → Shared → Prop} {s : Shared}
set_option maxRecDepth 100000 in
end
section
variable {X : Cx}
end
end L2
namespace Att
open PySem PySem.W PySem.Calls PyProof.Rows
theorem ints_of_wellAll : ∀ (ns : List Int) (vs : List Value), WellAll P h vs (ns.map WData.int) → IntsAre vs ns := by
 intro ns
 induction ns with
 | nil =>
  intro vs w
  rw [List.map_nil] at w
  cases w
  exact .nil
 | cons n ns ih =>
  intro vs w
  rw [List.map_cons] at w
  cases w with
  | cons a b =>
   cases a
   exact .cons _ _ (ih _ b)
theorem script_of {l : OpenLaw} {n : Nat} (hn : l.most = some n) {P : Params} {h : Heap} {args : List WData} {vals : List Value}
 (hpre : l.row.toRowW.claim.pre args = true) (hwl : WellAll P h vals args) :
 ∃ a vs ns, vals = [Value.ref a] ∧ args = [WData.list (ns.map WData.int)] ∧ h.get? a = some { cls := .type "list", data := .seq vs.toArray } ∧ IntsAre vs ns ∧ ns.length ≤ n := by
 have hsh : WShape.hasAll [] args [.list .int] = true := (pre_splitW hpre).1
 have hc : l.pre.holds [] { args := args } = true := (pre_splitW hpre).2
 obtain ⟨d, r, rfl, h1, h2⟩ := hasAllW_cons hsh
 obtain rfl := hasAllW_nil h2
 obtain ⟨xs, rfl, h3⟩ := hasW_list h1
 obtain ⟨ns, rfl⟩ := items_int h3
 have hlen : ns.length ≤ n := by
  unfold OpenLaw.pre at hc
  have h4 : (WTm.not (.lt (.lit (.int (n : Int))) (.len (.arg 0)))).holds [] { args := [.list (ns.map .int)] } = true := by
   have h4 := (holds_andW hc).1
   rw [hn] at h4
   exact h4
  have h5 := condW_of h4 (w_not (w_lt w_lit (w_len_list (w_arg rfl))))
  rw [List.length_map] at h5
  refine Nat.le_of_not_lt fun q => ?_
  have q' : (n : Int) < ((ns.length : Nat) : Int) := by omega
  first
   | (rw [decide_eq_true q'] at h5; exact absurd h5 (by decide))
   | (simp at h5; omega)
 cases hwl with
 | cons w1 w2 =>
  cases w2
  cases w1 with
  | list ho hall => exact ⟨_, _, ns, rfl, rfl, ho, ints_of_wellAll ns _ hall, hlen⟩
theorem post_true (l : OpenLaw) (args : List WData) : l.row.toRowW.claim.post args (.bool true) args = true :=
 postW_of (r := l.row.toRowW) (X := (true == true))
  (show WShape.has [] (.bool true) .bool = true by first | rfl | decide | simp [WShape.has, WShape.arms, WShape.armsAll])
  (show (WTm.eq .res (.lit (.bool true))).value [] { args := args, res := some (.bool true), after := args } = some (.bool (true == true)) from w_eq_bool (w_res rfl) w_lit) rfl
section
variable {prog : Program} {w : World} {A : Around} {E : Value → Shared → Prop} {s : Shared} {K : Frag}
end
end Att
namespace L2
open PySem PySem.Spec PyProof.Rows
theorem aw6 : ∀ {vs : List Value} {ns : List Int}, IntsAre vs ns → Vals (ns.map V.int) vs
 | _, _, .nil => .nil
 | _, _, .cons n t h => .cons ⟨t, rfl⟩ (aw6 h)
def dn0 (H : Hp) : Prop := ∀ b, H b = none ∨ ∃ o xs, H b = some (.frz o (.lst xs))
theorem ci2 {P : Program} {w : World} {K : PySem.W.Frag} {mg mb : Str → Option Value} {CX : xY} {k : Nat} {fa a : Addr} {fd : FuncData} {x : Str} {sp : Sp} {s₁ : Shared} {vs : List Value} {ns : List Int}
 (KX : K.In s₁.heap) (hns : s₁.heap.Ns mainGlobals mg) (hb : s₁.heap.Ns builtinsNs mb) (hbb : ∀ x : Str, x ≠ "__name__" → mb x = bootBuiltins x) (hlim : s₁.heap.NoLimit) (hg : s₁.gens = #[])
 (ha : s₁.heap.get? a = some { cls := .type "list", data := .seq vs.toArray }) (hi : IntsAre vs ns) (hl : ns.length ≤ sizeLine) (hr : Room k callerA)
 (F : ∀ base : Heap, K.In base → base.Ns mainGlobals mg → FnOk P w K mg base CX k fa fd [x] sp) (hbind : ∀ (s : Shared) (u : Value), BindsTo s fd ⟨[u], []⟩ [(x, u)])
 (hsp : ∀ H : Hp, dn0 H → SqL K H a (ns.map V.int) → sp [.ref a] H (fun v _ => v = .bl true) fun _ _ _ => False)
 (hCX : ∀ H e s', CX [] H s₁ (fun _ _ _ => False) e s' → False) :
 codeAny (model P w) callerA (.call (.ref fa) ⟨[.ref a], []⟩) (fun r s' => r = .ok (.ret (.bool true)) ∧ OldK s₁.heap s'.heap ∧ s'.os = s₁.os ∧ AllBare s'.gens) s₁ := by
 have rv := aw6 hi
 have lenV := hi.length
 have core : ∀ H : Hp, dn0 H → SqL K H a (ns.map V.int) → HOk P w H s₁.heap → (∀ b, H b ≠ none → b = a) → (H a ≠ none → K.lookup a = none) →
  codeAny (model P w) callerA (.call (.ref fa) ⟨[.ref a], []⟩) (fun r s' => r = .ok (.ret (.bool true)) ∧ OldK s₁.heap s'.heap ∧ s'.os = s₁.os ∧ AllBare s'.gens) s₁ := by
  intro H hO hS hok hA hK
  have base_of : ∀ {b : Addr} {o : Obj}, s₁.heap.get? b = some o → H b = none → (wS s₁.heap H).get? b = some o := fun e n => cj1 e n
  have noA : ∀ {b : Addr} {o : Obj} {es : Array DictEntry} {ep : Nat}, s₁.heap.get? b = some o → o.data = .dict es ep → H b = none := fun {b o es ep} e d => by
   cases q : H b with
   | none => rfl
   | some u =>
    have e' : b = a := hA b (by rw [q]; simp)
    subst e'
    rw [ha] at e; cases e
    have d' : Data.seq vs.toArray _ = Data.dict es ep := d
    cases d'
  have nsK : ∀ {b : Addr} {m : Str → Option Value}, s₁.heap.Ns b m → (wS s₁.heap H).Ns b m := fun {b m} ⟨o, es, ep, e, d, r⟩ => ⟨o, es, ep, base_of e (noA e d), d, r⟩
  have hKb : K.In (wS s₁.heap H) := fun b o e => base_of (KX b o e) (by
   cases q : H b with
   | none => rfl
   | some u =>
    have e' : b = a := hA b (by rw [q]; simp)
    subst e'
    rw [hK (by rw [q]; simp)] at e; cases e)
  have hM : Mod K mg (wS s₁.heap H) := ⟨hKb, nsK hns, ⟨mb, nsK hb, hbb⟩, let ⟨mc, h1, h2⟩ := hlim; ⟨mc, nsK h1, h2⟩⟩
  have e0 : Env0 P w K mg (wS s₁.heap H) callerA [] s₁ H := ⟨rfl, hM, fun b o e => cd6 e, Nat.le_of_eq (bj8 _ _), trivial, fun b hb => absurd (show b ∈ ([] : List Addr) from hb) (by simp), hok, .of_eq hg⟩
  refine codeAny_mono ((F _ hKb (nsK hns)).run callerA [] s₁ H ⟨[.ref a], []⟩ [.ref a] [.ref a] _ _ hr e0 (hbind s₁ (.ref a)) (.cons rfl .nil) (hsp H hO hS)) fun r s' h => ?_
  cases r with
  | error e => exact (hCX H e s' h).elim
  | ok fl =>
   cases fl with
   | next => exact False.elim h
   | brk => exact False.elim h
   | cont => exact False.elim h
   | ret u =>
    obtain ⟨v, H', os, bare, un, hok', r', q⟩ := h
    have q' : v = .bl true := q
    subst q'
    obtain rfl : u = Value.bool true := r'
    refine ⟨rfl, OldK.of_keep fun b o e => ?_, os, bare⟩
    cases q : H b with
    | none => exact un.keep b o e q (by intro z; exact absurd (show b ∈ ([] : List Addr) from z) (by simp)) (by simp)
    | some u =>
     rcases hO b with z | ⟨ob, xs, z⟩
     · rw [q] at z; cases z
     · have z2 := un.frzs b ob _ z
       obtain ⟨e1, _⟩ := hok b _ z
       obtain ⟨e2, _⟩ := hok' b _ z2
       rw [e] at e1; cases e1
       exact e2
 cases hk : K.lookup a with
 | some o =>
  have e := KX a o hk
  rw [ha] at e
  cases e
  refine core (fun _ => none) (fun _ => .inl rfl) (.inr ⟨_, vs.toArray, _, hk, rfl, rfl, rfl, by rw [List.size_toArray, lenV]; exact hl, by simpa using rv⟩) (fun b u z => by have z' : (none : Option HO) = some u := z; cases z') (fun b z => absurd rfl z) fun z => absurd rfl z
 | none =>
  refine core (fun b => if b = a then some (.frz { cls := .type "list", data := .seq vs.toArray } (.lst (ns.map V.int))) else none) (fun b => ?_) (.inl (.inr ⟨{ cls := .type "list", data := .seq vs.toArray }, if_pos rfl⟩)) (fun b u z => ?_) (fun b z => ?_) fun _ => hk
  · by_cases hb : b = a
    · exact .inr ⟨_, _, if_pos hb⟩
    · exact .inl (if_neg hb)
  · by_cases hb : b = a
    · have z' := (if_pos hb).symm.trans z
      cases z'
      subst hb
      exact ⟨ha, by rw [List.length_map]; exact hl, vs, _, rv, ha⟩
    · have z' := (if_neg hb).symm.trans z
      cases z'
  · by_cases hb : b = a
    · exact hb
    · exact absurd (if_neg hb) z
end L2
namespace L2
open PySem PySem.Spec PyProof.Rows
end L2
/- THE LAST THEOREM (shape; LID, My.* are yours):
 My.Adr: a structure of the addresses that your layer names (classes, functions); My.Txt K t: a structure (Prop) of the equations over K;
 My.txt_mk : {K} {implicit addresses ..} (e1 : nsIn K mainGlobals "law" = some (some (.ref f))) (e2 : K.lookup f = some ⟨oc, od, .func (fnOf "law" "law" params body scope dV kV doc pm an cdv ct), sl⟩) (e3 : codeIn K cdv "law" = true) .. : ∃ t, My.Txt K t
set_option maxRecDepth 100000 in
set_option maxHeartbeats 0 in
theorem PySem.Challenge.cw_LID_holds : PySem.Challenge.rw_LID.Holds := by
 w_on; o_law; k_head; (case hw => w_witness2)
 k_fill
 refine L2.dw7 (l := PySem.Challenge.rw_LID) (n := 63) (k := 40) (x := "script") (CX := fun w => ..) (sp := fun _ => My.sp_law) rfl (by decide) rfl ⟨rfl, by decide, by decide⟩ (fun w h Y => PySem.W.kIn_of Y) ?F ?S ?C
 case F =>
  intro w mg fa h KX G hmg
  have T : ∃ t, My.Txt (L2.KOf KX) t := by
   dsimp only [L2.KOf]                          -- K must stand as «<heap const> w.params» for k_is
   refine' My.txt_mk ?e1 ?e2 ?e3 ..
   (case e1 => PySem.W.k_is)                    -- in the order: a name -> its address -> its object -> its parts
   (case e2 => PySem.W.k_is)
   ..
  obtain ⟨t, T⟩ := T
  have e0 := hmg.symm.trans (PySem.W.mg_of KX G T.law)
  cases e0                                       -- fa is the law's own address
  exact ⟨_, fun s u => .of_eq rfl, fun base kb nb => My.law_fn T kb nb⟩     -- if «.of_eq rfl» comes too early: refine' ⟨_, ?b, fun base kb nb => My.law_fn T kb nb⟩; exact fun s u => .of_eq rfl
 case S => exact fun w H a ns hl hO hS => ..
 case C => exact ..
(the tactic k_is has no namespace: write k_is) -/
namespace L2
open PySem PySem.Spec PyProof.Rows
def sV (s : Stmt) (j : Nat) : Stmt := match s with
 | .ClassDef _ _ _ body _ _ _ _ _ _ _ => body.getD j (.Pass ⟨0, 0, 0, 0⟩)
 | _ => .Pass ⟨0, 0, 0, 0⟩
def iW (s : Stmt) : Arguments := match s with
 | .FunctionDef _ a _ _ _ _ _ _ _ _ => a
 | _ => { posonlyargs := [], args := [], vararg := none, kwonlyargs := [], kw_defaults := [], kwarg := none, defaults := [] }
def dU (s : Stmt) : List Stmt := match s with
 | .FunctionDef _ _ b _ _ _ _ _ _ _ => b
 | _ => []
def aO (s : Stmt) : Scope := match s with
 | .FunctionDef _ _ _ _ _ _ sc _ _ _ => sc
 | _ => { kind := .function, names := [], isGenerator := false, isCoroutine := false }
abbrev jP : xY := fun _ _ _ _ _ _ => False
abbrev E0 : XK := fun _ _ _ => False
theorem ay2 : yS jP X E0 := fun _ _ _ _ _ _ _ h => h.elim
structure Fun (K : PySem.W.Frag) (x qual : Str) (st : Stmt) (f : Addr) (fd : FuncData) : Prop where
 ex : ∃ (oc : Value) (od : Option Addr) (kV doc pm : Value) (an : Option Addr) (cdv ct : Value) (osl : Array (Option Value)),
  fd = PySem.W.fnOf x qual (iW st) (dU st) (aO st) .none kV doc pm an cdv ct ∧ K.lookup f = some ⟨oc, od, .func fd, osl⟩ ∧ PySem.W.codeIn K cdv qual = true
 kp : PySem.W.keepIn K (.ref f) = true
section
variable {P : Program} {w : World} {K : PySem.W.Frag} {mg : Str → Option Value} {base : Heap}
theorem Fun.ok {x qual : Str} {st : Stmt} {f : Addr} {fd : FuncData} {N ps : List Str} {k : Nat} {sp : Sp} (F : Fun K x qual st f fd) (S : bH N ps (aO st)) (len : ∀ vs H Q E, sp vs H Q E → vs.length = ps.length)
 (hbody : ∀ (cdv : Value) (A : Around) (outer : List Env) (s : Shared) (H : Hp) (vs : List V) (Q : VK) (E : XK), Room k (A.deeper (envOfC qual (aO st) s.heap.objs.size f cdv)) → sp vs H Q E →
  ∃ t, PSs (lM jP P w K mg base N qual (aO st) f cdv A outer s H E).nox (dU st) t ∧ t { nx := fun _ H' => Q .non H', rt := Q } (jD N vs) H) : FnOk P w K mg base jP (k + 1) f fd ps sp := by
 obtain ⟨oc, od, kV, doc, pm, an, cdv, ct, osl, rfl, lk, hcd⟩ := F.ex
 refine df3 lk hcd S len fun A outer s H vs Q E hr hsp => ?_
 obtain ⟨t, h, q⟩ := hbody cdv A outer s H vs Q E hr hsp
 exact ⟨t, h.nox, q⟩
theorem Fun.binds {x qual : Str} {st : Stmt} {f : Addr} {fd : FuncData} {ps : List Str} (F : Fun K x qual st f fd)
 (h : ∀ (kV doc pm : Value) (an : Option Addr) (cdv ct : Value) (us : List Value), us.length = ps.length → bindArgs (PySem.W.fnOf x qual (iW st) (dU st) (aO st) .none kV doc pm an cdv ct) ⟨us, []⟩ = pure (ps.zip us)) : Binds K fd ps [] := by
 obtain ⟨oc, od, kV, doc, pm, an, cdv, ct, osl, rfl, lk, hcd⟩ := F.ex
 exact .all (h kV doc pm an cdv ct)
theorem ad3 {x qual : Str} {st : Stmt} {f : Addr} {oc : Value} {od an : Option Addr} {osl : Array (Option Value)} {kV doc pm cdv ct : Value} (l : K.lookup f = some ⟨oc, od, .func (PySem.W.fnOf x qual (iW st) (dU st) (aO st) .none kV doc pm an cdv ct), osl⟩)
 (c : PySem.W.codeIn K cdv qual = true) (k : PySem.W.keepIn K (.ref f) = true) : Fun K x qual st f (PySem.W.fnOf x qual (iW st) (dU st) (aO st) .none kV doc pm an cdv ct) := ⟨⟨oc, od, kV, doc, pm, an, cdv, ct, osl, rfl, l, c⟩, k⟩
end
section
variable {X : Cx}
theorem pv (i : Nat) (hN : X.N[i]? = some x := by rfl) (hv : Vis X.env.scope x := by first | exact Or.inl rfl | exact Or.inr (Or.inl rfl) | exact Or.inr (Or.inr rfl)) (hd : (x == ("__debug__" : Str)) = false := by decide)
 (hcd : (x == ("__classdict__" : Str)) = false := by decide) : PE X (.Name x pos) (ax9 i) := cu9 hN hv hd hcd
end
def Same (H H' : Hp) : Prop := ∀ b o, H b = some o → H' b = some o
theorem Same.refl (H : Hp) : Same H H := fun _ _ h => h
theorem Same.trans (a : Same H H1) (b : Same H1 H2) : Same H H2 := fun c o h => b c o (a c o h)
theorem Same.free (e : Same H H') (h : H' l = Option.none) : H l = Option.none := by
 cases q : H l with
 | none => rfl
 | some o =>
  rw [e l o q] at h
  cases h
theorem Same.seq {K : PySem.W.Frag} {H H' : Hp} {a : Addr} {xs : List V} (e : Same H H') (h : SqL K H a xs) : SqL K H' a xs := by
 rcases h with (h | ⟨o, h⟩) | h
 · exact .inl (.inl (e _ _ h))
 · exact .inl (.inr ⟨o, e _ _ h⟩)
 · exact .inr h
end L2
namespace L2
open PySem PySem.Spec PyProof.Rows
def df2 : R2 := fun x y H Q => ∃ i j, x = .int i ∧ y = .int j ∧ IntMulOk i j ∧ Q (.int (i * j)) H
section
variable {X : Cx}
theorem op_mulB : OpR X (binaryOp .Mult) df2 := by
 intro pins s σ H x y v u Q I rx ry h
 obtain ⟨i, j, rfl, rfl, hc, q⟩ := h
 obtain ⟨t, rfl⟩ := rx
 obtain ⟨t', rfl⟩ := ry
 exact mul_int ⟨.int (i * j), H, I.tok _, ⟨_, rfl⟩, q⟩ hc
def TyN (K : PySem.W.Frag) (H : Hp) (x : V) (tx : String) : Prop := match x with
 | .int _ => tx = "int"
 | .bl _ => tx = "bool"
 | .str _ => tx = "str"
 | .ref p => (tx = "list" ∧ ∃ xs, SqL K H p xs) ∨ (tx = "tuple" ∧ ∃ xs, SqT K H p xs)
 | _ => False
inductive gI : String → String → Bool → Prop where
 | int_int : gI "int" "int" true
 | int_bool : gI "int" "bool" false
 | int_str : gI "int" "str" false
 | int_list : gI "int" "list" false
 | int_tuple : gI "int" "tuple" false
 | bool_int : gI "bool" "int" true
 | bool_bool : gI "bool" "bool" true
 | bool_str : gI "bool" "str" false
 | bool_list : gI "bool" "list" false
 | bool_tuple : gI "bool" "tuple" false
 | str_int : gI "str" "int" false
 | str_bool : gI "str" "bool" false
 | str_str : gI "str" "str" true
 | str_list : gI "str" "list" false
 | str_tuple : gI "str" "tuple" false
 | list_int : gI "list" "int" false
 | list_bool : gI "list" "bool" false
 | list_str : gI "list" "str" false
 | list_list : gI "list" "list" true
 | list_tuple : gI "list" "tuple" false
 | tuple_int : gI "tuple" "int" false
 | tuple_bool : gI "tuple" "bool" false
 | tuple_str : gI "tuple" "str" false
 | tuple_list : gI "tuple" "list" false
 | tuple_tuple : gI "tuple" "tuple" true
theorem bt9 : CallR X (.builtin "isinstance") (fun xs H Q => ∃ x T tx b, xs = [x, .ty T] ∧ TyN X.K H x tx ∧ gI tx T b ∧ Q (.bl b) H) := by
 intro pins s σ H xs us Q I r h
 obtain ⟨x, T, tx, b, rfl, ht, ho, q⟩ := h
 obtain ⟨u, v, rfl, rx, rT⟩ := r.two
 obtain rfl : v = Value.type T := rT
 have fin1 : EP X pins σ Q (.bool b) s := ⟨.bl b, H, I, rfl, q⟩
 have fin2 : EP X pins σ Q (.bool b) { s with toks := s.toks + 1 } := ⟨.bl b, H, I.tok _, rfl, q⟩
 cases x with
 | int i =>
  obtain ⟨t, rfl⟩ := rx
  have ht : tx = "int" := ht
  cases ho with
  | int_int => exact IsiPair.int_int fin1
  | int_bool => exact IsiPair.int_bool fin2
  | int_str => exact IsiPair.int_str fin2
  | int_list => exact IsiPair.int_list fin2
  | int_tuple => exact IsiPair.int_tuple fin2
  | bool_int => exact absurd ht (by decide +kernel)
  | bool_bool => exact absurd ht (by decide +kernel)
  | bool_str => exact absurd ht (by decide +kernel)
  | bool_list => exact absurd ht (by decide +kernel)
  | bool_tuple => exact absurd ht (by decide +kernel)
  | str_int => exact absurd ht (by decide +kernel)
  | str_bool => exact absurd ht (by decide +kernel)
  | str_str => exact absurd ht (by decide +kernel)
  | str_list => exact absurd ht (by decide +kernel)
  | str_tuple => exact absurd ht (by decide +kernel)
  | list_int => exact absurd ht (by decide +kernel)
  | list_bool => exact absurd ht (by decide +kernel)
  | list_str => exact absurd ht (by decide +kernel)
  | list_list => exact absurd ht (by decide +kernel)
  | list_tuple => exact absurd ht (by decide +kernel)
  | tuple_int => exact absurd ht (by decide +kernel)
  | tuple_bool => exact absurd ht (by decide +kernel)
  | tuple_str => exact absurd ht (by decide +kernel)
  | tuple_list => exact absurd ht (by decide +kernel)
  | tuple_tuple => exact absurd ht (by decide +kernel)
 | bl i =>
  cases rx
  have ht : tx = "bool" := ht
  cases ho with
  | int_int => exact absurd ht (by decide +kernel)
  | int_bool => exact absurd ht (by decide +kernel)
  | int_str => exact absurd ht (by decide +kernel)
  | int_list => exact absurd ht (by decide +kernel)
  | int_tuple => exact absurd ht (by decide +kernel)
  | bool_int => exact IsiPair.bool_int fin1
  | bool_bool => exact IsiPair.bool_bool fin1
  | bool_str => exact IsiPair.bool_str fin2
  | bool_list => exact IsiPair.bool_list fin2
  | bool_tuple => exact IsiPair.bool_tuple fin2
  | str_int => exact absurd ht (by decide +kernel)
  | str_bool => exact absurd ht (by decide +kernel)
  | str_str => exact absurd ht (by decide +kernel)
  | str_list => exact absurd ht (by decide +kernel)
  | str_tuple => exact absurd ht (by decide +kernel)
  | list_int => exact absurd ht (by decide +kernel)
  | list_bool => exact absurd ht (by decide +kernel)
  | list_str => exact absurd ht (by decide +kernel)
  | list_list => exact absurd ht (by decide +kernel)
  | list_tuple => exact absurd ht (by decide +kernel)
  | tuple_int => exact absurd ht (by decide +kernel)
  | tuple_bool => exact absurd ht (by decide +kernel)
  | tuple_str => exact absurd ht (by decide +kernel)
  | tuple_list => exact absurd ht (by decide +kernel)
  | tuple_tuple => exact absurd ht (by decide +kernel)
 | str i =>
  obtain ⟨t, rfl⟩ := rx
  have ht : tx = "str" := ht
  cases ho with
  | int_int => exact absurd ht (by decide +kernel)
  | int_bool => exact absurd ht (by decide +kernel)
  | int_str => exact absurd ht (by decide +kernel)
  | int_list => exact absurd ht (by decide +kernel)
  | int_tuple => exact absurd ht (by decide +kernel)
  | bool_int => exact absurd ht (by decide +kernel)
  | bool_bool => exact absurd ht (by decide +kernel)
  | bool_str => exact absurd ht (by decide +kernel)
  | bool_list => exact absurd ht (by decide +kernel)
  | bool_tuple => exact absurd ht (by decide +kernel)
  | str_int => exact IsiPair.str_int fin2
  | str_bool => exact IsiPair.str_bool fin2
  | str_str => exact IsiPair.str_str fin1
  | str_list => exact IsiPair.str_list fin2
  | str_tuple => exact IsiPair.str_tuple fin2
  | list_int => exact absurd ht (by decide +kernel)
  | list_bool => exact absurd ht (by decide +kernel)
  | list_str => exact absurd ht (by decide +kernel)
  | list_list => exact absurd ht (by decide +kernel)
  | list_tuple => exact absurd ht (by decide +kernel)
  | tuple_int => exact absurd ht (by decide +kernel)
  | tuple_bool => exact absurd ht (by decide +kernel)
  | tuple_str => exact absurd ht (by decide +kernel)
  | tuple_list => exact absurd ht (by decide +kernel)
  | tuple_tuple => exact absurd ht (by decide +kernel)
 | ref p =>
  cases rx
  have ht : (tx = "list" ∧ ∃ xs, SqL X.K H p xs) ∨ (tx = "tuple" ∧ ∃ xs, SqT X.K H p xs) := ht
  rcases ht with ⟨ht, ys, hq⟩ | ⟨ht, ys, hq⟩
  · obtain ⟨its, rv, ⟨o, n, e, c, d, dt⟩, hz⟩ := I.list hq
    cases ho with
    | int_int => exact absurd ht (by decide +kernel)
    | int_bool => exact absurd ht (by decide +kernel)
    | int_str => exact absurd ht (by decide +kernel)
    | int_list => exact absurd ht (by decide +kernel)
    | int_tuple => exact absurd ht (by decide +kernel)
    | bool_int => exact absurd ht (by decide +kernel)
    | bool_bool => exact absurd ht (by decide +kernel)
    | bool_str => exact absurd ht (by decide +kernel)
    | bool_list => exact absurd ht (by decide +kernel)
    | bool_tuple => exact absurd ht (by decide +kernel)
    | str_int => exact absurd ht (by decide +kernel)
    | str_bool => exact absurd ht (by decide +kernel)
    | str_str => exact absurd ht (by decide +kernel)
    | str_list => exact absurd ht (by decide +kernel)
    | str_tuple => exact absurd ht (by decide +kernel)
    | list_int => exact IsiPair.list_int e c fin2
    | list_bool => exact IsiPair.list_bool e c fin2
    | list_str => exact IsiPair.list_str e c fin2
    | list_list => exact IsiPair.list_list e c fin1
    | list_tuple => exact IsiPair.list_tuple e c fin2
    | tuple_int => exact absurd ht (by decide +kernel)
    | tuple_bool => exact absurd ht (by decide +kernel)
    | tuple_str => exact absurd ht (by decide +kernel)
    | tuple_list => exact absurd ht (by decide +kernel)
    | tuple_tuple => exact absurd ht (by decide +kernel)
  · obtain ⟨its, rv, ⟨o, e, c, n, d⟩, hz⟩ := I.tuple hq
    cases ho with
    | int_int => exact absurd ht (by decide +kernel)
    | int_bool => exact absurd ht (by decide +kernel)
    | int_str => exact absurd ht (by decide +kernel)
    | int_list => exact absurd ht (by decide +kernel)
    | int_tuple => exact absurd ht (by decide +kernel)
    | bool_int => exact absurd ht (by decide +kernel)
    | bool_bool => exact absurd ht (by decide +kernel)
    | bool_str => exact absurd ht (by decide +kernel)
    | bool_list => exact absurd ht (by decide +kernel)
    | bool_tuple => exact absurd ht (by decide +kernel)
    | str_int => exact absurd ht (by decide +kernel)
    | str_bool => exact absurd ht (by decide +kernel)
    | str_str => exact absurd ht (by decide +kernel)
    | str_list => exact absurd ht (by decide +kernel)
    | str_tuple => exact absurd ht (by decide +kernel)
    | list_int => exact absurd ht (by decide +kernel)
    | list_bool => exact absurd ht (by decide +kernel)
    | list_str => exact absurd ht (by decide +kernel)
    | list_list => exact absurd ht (by decide +kernel)
    | list_tuple => exact absurd ht (by decide +kernel)
    | tuple_int => exact IsiPair.tuple_int e c fin2
    | tuple_bool => exact IsiPair.tuple_bool e c fin2
    | tuple_str => exact IsiPair.tuple_str e c fin2
    | tuple_list => exact IsiPair.tuple_list e c fin2
    | tuple_tuple => exact IsiPair.tuple_tuple e c fin1
 | _ => exact (show False from ht).elim
theorem au0 : ∀ {bs : List Bool} {us : List Value} {i : Nat} {u : Value}, Vals (bs.map V.bl) us → us[i]? = some u → ∃ b, bs[i]? = some b ∧ u = .bool b
 | [], _, _, _, .nil, e => by simp at e
 | b :: bs, _, 0, _, .cons r _, e => by
  simp at e
  subst e
  exact ⟨b, rfl, r⟩
 | b :: bs, _, i + 1, _, .cons _ t, e => by
  obtain ⟨c, h1, h2⟩ := au0 (i := i) t (by simpa using e)
  exact ⟨c, by simpa using h1, h2⟩
theorem bf9 (bs : List Bool) : ((List.range bs.length).all fun i => (bs[i]?).getD true) = bs.all id := by
 rw [Bool.eq_iff_iff, List.all_eq_true, List.all_eq_true]
 constructor
 · intro h b hb
   obtain ⟨i, hi, e⟩ := List.mem_iff_getElem.mp hb
   have q := h i (List.mem_range.mpr hi)
   rw [List.getElem?_eq_getElem hi, e] at q
   exact q
 · intro h i hi
   have hi' := List.mem_range.mp hi
   rw [List.getElem?_eq_getElem hi']
   exact h _ (List.getElem_mem hi')
theorem bl0 {s : Shared} {h' : Heap} {o : Obj} (hk : ∀ b x, b ∉ [s.heap.objs.size] → (s.heap.push o).get? b = some x → h'.get? b = some x) : ∀ b x, s.heap.get? b = some x → h'.get? b = some x :=
 fun b x e => hk b x (fun hm => by rw [List.mem_singleton.mp hm] at e; exact Nat.lt_irrefl _ (Heap.lt_size e)) (Heap.get?_push_of_some _ e)
theorem cv2 (hc : X.calm = true) : CallR X (.builtin "all") (fun xs H Q => ∃ (p : Addr) (bs : List Bool), xs = [.ref p] ∧ SqL X.K H p (bs.map V.bl) ∧ Q (.bl (bs.all id)) H) := by
 intro pins s σ H xs us Q I r h
 obtain ⟨p, bs, rfl, hq, q⟩ := h
 obtain ⟨u, rfl, r1⟩ := r.one
 obtain rfl : u = Value.ref p := r1
 obtain ⟨its, rv, pl, hz⟩ := I.list hq
 have hl := pl.isList
 have hlen : bs.length = its.length := by have := rv.length; rwa [List.length_map] at this
 have hlt : p < s.heap.objs.size := by obtain ⟨_, _, e, _⟩ := pl; exact Heap.lt_size e
 refine call_all_walk (wpAny_pyIter_list hl ?_)
 refine ⟨s.heap.objs.size, [s.heap.objs.size, p], [s.heap.objs.size], its.toArray.size, _, _, fun i => (bs[i]?).getD true, rfl, Walks.list (A := X.A.in1) (I.ok.hd hc) _ p (Nat.ne_of_lt hlt) its.toArray,
  ⟨⟨_, Heap.get?_push_size _ rfl, rfl, rfl⟩, hl.push _⟩, fun i v s' Q' E' hP hQ => ?_, fun h' tk hk => ?_⟩
 · obtain ⟨b, e, rfl⟩ := au0 rv (i := i) (u := v) (by simpa using hP)
   simp only [e, Option.getD_some] at hQ
   exact wpAny_truthy_bool hQ
 · have e : ((List.range its.toArray.size).all fun i => (bs[i]?).getD true) = bs.all id := by
    rw [List.size_toArray, ← hlen]
    exact bf9 bs
   rw [e]
   exact ⟨.bl _, H, I.kept (bl0 hk), rfl, q⟩
end
structure bY (P : Program) (w : World) (K : PySem.W.Frag) (mg : Str → Option Value) (base : Heap) (k : Nat) (x : Str) (ps : List Str) (sp : Sp) : Prop where
 ex : ∃ f fd, FnOk P w K mg base jP k f fd ps sp ∧ mg x = some (.ref f) ∧ PySem.W.keepIn K (.ref f) = true ∧ Binds K fd ps []
def ds2 (sp : Sp) (t : TA) : TE := fun σ H Q => t σ H fun vs H1 => sp vs H1 Q E0
section
variable {X : Cx}
theorem bK (d : bY X.prog X.w X.K X.mg X.base k x ps sp) (hr : Room k X.A) (ha : PA X (e :: es) t) (hg : Gl X x := by rfl)
 (hdb : (x == ("__debug__" : Str)) = false := by decide) (he : starEach (e :: es) X.env = (false, eval e X.env) :: starEach es X.env := by rfl) (hpl : (backTo pos (starEach es X.env)).any (·.1) = false := by rfl) :
 PE X (.Call (.Name x p) (e :: es) [] pos) (ds2 sp t) := by
 obtain ⟨f, fd, F, hm, hk, hb⟩ := d.ex
 intro pins s σ H Q I h
 have e1 : (fun vs H1 => sp (vs ++ []) H1 Q E0) = fun vs H1 => sp vs H1 Q E0 := by
  funext vs H1
  rw [List.append_nil]
 refine cm7 F hr hg hm hk hb .nil ay2 ha hdb he hpl pins s σ H Q I ?_
 show t σ H fun vs H1 => sp (vs ++ []) H1 Q E0
 rw [e1]
 exact h
end
end L2
namespace Att
open PySem PySem.W PySem.Calls PyProof.Rows
theorem weight_mem : ∀ (ns : List Int) (n : Int), n ∈ ns → WData.weight (.int n) ≤ WData.weightAll (ns.map WData.int)
 | m :: ns, n, h => by
  rw [List.map_cons]
  simp only [WData.weightAll]
  rcases List.mem_cons.mp h with rfl | h
  · omega
  · have := weight_mem ns n h
    omega
theorem bits_of {ns : List Int} (h : WData.layableAll [.list (ns.map WData.int)] = true) : ∀ n ∈ ns, Builtin.Int.intBits n ≤ 1048576 := by
 intro n hn
 have h1 : WData.layable (.list (ns.map WData.int)) = true := by
  have h2 : ([WData.list (ns.map WData.int)].all WData.layable) = true := h
  rw [List.all_cons, Bool.and_eq_true] at h2
  exact h2.1
 unfold WData.layable at h1
 rw [Bool.and_eq_true] at h1
 have h3 := of_decide_eq_true h1.2
 have h4 := weight_mem ns n hn
 have h5 : WData.weight (.int n) = Builtin.Int.intBits n := by
  unfold WData.weight Builtin.Int.intBits
  rfl
 have h6 : WData.weight (.list (ns.map WData.int)) = WData.weightAll (ns.map WData.int) := by
  conv => lhs; unfold WData.weight
 rw [h6] at h3
 rw [h5] at h4
 have h7 : (2 : Nat) ^ 20 = 1048576 := by decide
 omega
theorem attach_callB {l : OpenLaw} {n : Nat} {q : Program} {loose : List Str} {XP : (Str → Option Value) → Heap → Prop} {YP : World → Heap → Prop} {d : DefRec}
 (hn : l.most = some n) (hdf : d.params.defaults = [])
 (call : ∀ (w : World) (s₀ s₁ : Shared) (mg mb : Str → Option Value) (fa : Addr) (o : Obj) (pm cd doc : Value) (a : Addr) (vs : List Value) (ns : List Int),
  Ground q loose [] XP w s₀ mg mb s₁.heap → YP w s₁.heap →
  s₁.heap.get? fa = some o → o.data = .func (docDef d.name d.params d.body d.scope pm cd doc) → s₁.heap.CodeRec cd d.name → mg d.name = some (.ref fa) →
  s₁.heap.get? a = some { cls := .type "list", data := .seq vs.toArray } → IntsAre vs ns → ns.length ≤ n → s₁.gens = #[] → (∀ n ∈ ns, Builtin.Int.intBits n ≤ 1048576) →
  codeAny (model l.prog w) callerA (.call (.ref fa) ⟨[.ref a], []⟩) (fun r s' => r = .ok (.ret (.bool true)) ∧ OldK s₁.heap s'.heap ∧ s'.os = s₁.os ∧ AllBare s'.gens) s₁) :
 WalkO q loose XP YP l.row.toRowW d [] (fun f vs => PySem.call f vs) := by
 intro w s₀ s₁ mg mb G Y fa o pm cd doc dV kV ho hd hcd hD hmg hg args vals as hpre hlay hrd hwl hlo
 obtain rfl : dV = .none := Dflts.none hD hdf
 obtain rfl : kV = .none := Dflts.noKw hD
 obtain ⟨a, vs, ns, rfl, rfl, hobj, hints, hlen⟩ := script_of hn hpre hwl
 refine enter_call (codeAny_mono (call w s₀ s₁ mg mb fa o pm cd doc a vs ns G Y ho (fd_plain hd) hcd hmg hobj hints hlen hg (bits_of hlay)) fun r s' hq => ?_)
 obtain ⟨rfl, h2, h3, h4⟩ := hq
 exact ⟨.inl ⟨.bool true, .bool true, [], rfl, fun _ => rfl, .bool true, post_true l _, fun _ => ⟨List.Pairwise.nil, fun _ hm => (nomatch hm)⟩⟩, h2, h3, h4⟩
end Att
namespace L2
open PySem PySem.Spec PyProof.Rows
def SqS (K : PySem.W.Frag) (H : Hp) (a : Addr) (xs : List V) : Prop :=
 Rd H a (.lst xs) ∨
  ∃ (o : Obj) (its : Array Value) (n : Nat), K.lookup a = some o ∧ o.cls = .type "list" ∧ o.dict = none ∧ o.slots = #[] ∧ o.data = .seq its n ∧ its.size ≤ sizeLine ∧ Vals xs its.toList
theorem SqS.sq {K : PySem.W.Frag} {H : Hp} {a : Addr} {xs : List V} (h : SqS K H a xs) : SqL K H a xs := by
 rcases h with h | ⟨o, its, n, h1, h2, h3, _, h5, h6, h7⟩
 · exact .inl h
 · exact .inr ⟨o, its, n, h1, h2, h3, h5, h6, h7⟩
theorem Inv.listS (I : Inv X pins σ H s) (h : SqS X.K H a xs) : ∃ (its : List Value) (n : Nat), Vals xs its ∧ s.heap.get? a = some { cls := .type "list", data := .seq its.toArray n } ∧ xs.length ≤ sizeLine := by
 rcases h with h | ⟨o, its, n, hk, hc, hd, hsl, hs, hz, r⟩
 · obtain ⟨z, its, n, r, e⟩ := h.ok I.hok
   exact ⟨its, n, r, e, z⟩
 · have e := I.kIn a o hk
   obtain ⟨cls, dict, data, slots⟩ := o
   simp only at hc hd hsl hs
   subst hc hd hsl hs
   refine ⟨its.toList, n, r, by simpa using e, ?_⟩
   have := r.length
   simp only [Array.length_toList] at this
   omega
def ab9 (K : PySem.W.Frag) : Sp := fun vs H Q _ => ∃ (a : Addr) (ns : List Int), vs = [.ref a] ∧ SqS K H a (ns.map V.int) ∧ ns.length ≤ 63 ∧ (∀ n ∈ ns, Builtin.Int.intBits n ≤ 1048576) ∧ ∀ H', Q (.bl true) H'
theorem cj2 {l : PySem.W.OpenLaw} {k : Nat} {q : Program} {loose : List Str} {XP : (Str → Option Value) → Heap → Prop} {YP : World → Heap → Prop} {d : DefRec} {K : Params → PySem.W.Frag} {x : Str}
 (hn : l.most = some 63) (hdf : d.params.defaults = []) (hr : Room k callerA)
 (hY : ∀ (w : World) (h : Heap), YP w h → (K w.params).In h)
 (F : ∀ (w : World) (mg : Str → Option Value) (fa : Addr) (h : Heap), (K w.params).In h → h.Ns mainGlobals mg → mg d.name = some (.ref fa) →
  ∃ fd : FuncData, (∀ (s : Shared) (u : Value), BindsTo s fd ⟨[u], []⟩ [(x, u)]) ∧
   ∀ base : Heap, (K w.params).In base → base.Ns mainGlobals mg → FnOk l.prog w (K w.params) mg base jP k fa fd [x] (ab9 (K w.params))) :
 PySem.W.WalkO q loose XP YP l.row.toRowW d [] (fun f vs => PySem.call f vs) := by
 refine Att.attach_callB hn hdf fun w s₀ s₁ mg mb fa o pm cd doc a vs ns G Y ho hd hcd hmg hobj hints hlen hg hbits => ?_
 have KX := hY w _ Y
 obtain ⟨fd, hb, hF⟩ := F w mg fa _ KX G.T.g hmg
 have hS' : ∀ {H : Hp}, SqL (K w.params) H a (ns.map V.int) → SqS (K w.params) H a (ns.map V.int) := fun {H} h => by
  rcases h with h | ⟨o, its, n, h1, h2, h3, h5, h6, h7⟩
  · exact .inl h
  · have e := KX a o h1
    rw [hobj] at e
    cases e
    exact .inr ⟨_, its, n, h1, h2, h3, rfl, h5, h6, h7⟩
 exact ci2 KX G.T.g G.T.b G.T.builtins G.T.nolimit hg hobj hints (Nat.le_trans hlen (by decide)) hr hF hb (fun H hO hS => ⟨a, ns, rfl, hS' hS, hlen, hbits, fun _ => rfl⟩) fun H e s' h => h
end L2
namespace L2
open PySem PySem.Spec PyProof.Rows
abbrev rE (X : Cx) (scope : Scope) (cl : List (Str × Addr)) (C : Addr) (s₀ : Shared) (H₀ : Hp) (ex : List Addr) : Cx :=
 { X with s₀ := s₀, H₀ := H₀, env := compEnvC scope cl C X.env, outer := X.stack, ex := ex, fn := fun _ => false, pn := [], xe := fun _ _ => False }
def fX (cells : List (Str × Addr)) : List (Str × NameKind) → List (Str × Addr) → List (Str × Addr)
  | [], acc => acc
  | (n, k) :: r, acc => if (k == .free) = true then fX cells r ((n, (cells.lookup n).getD 0) :: acc) else fX cells r acc
theorem wI : ∀ (names : List (Str × NameKind)) (acc : List (Str × Addr)), (∀ x ∈ names, x.2 = .free → ∃ c, env.cells.lookup x.1 = some c) →
    (forIn names acc fun (x : Str × NameKind) (cs : List (Str × Addr)) => (if (x.2 == .free) = true then (do let c ← cellOf env x.1; pure (ForInStep.yield ((x.1, c) :: cs))) else pure (ForInStep.yield cs) : Sem (ForInStep (List (Str × Addr))))) = (pure (fX env.cells names acc) : Sem (List (Str × Addr)))
  | [], acc, _ => rfl
  | (n, k) :: r, acc, h => by
    rw [List.forIn_cons]
    have hr : ∀ x ∈ r, x.2 = .free → ∃ c, env.cells.lookup x.1 = some c := fun x hx => h x (List.mem_cons_of_mem _ hx)
    by_cases hk : (k == NameKind.free) = true
    · obtain ⟨c, hc⟩ := h (n, k) List.mem_cons_self (by simpa using hk)
      have e1 : cellOf env n = pure c := by unfold cellOf; rw [hc]
      simp only [hk, if_true, e1, pure_bind]
      have e2 : fX env.cells ((n, k) :: r) acc = fX env.cells r ((n, c) :: acc) := by
        conv => lhs; unfold fX
        rw [if_pos hk, hc]
        all_goals rfl
      rw [e2]
      exact wI r _ hr
    · simp only [hk, if_false, pure_bind]
      have e2 : fX env.cells ((n, k) :: r) acc = fX env.cells r acc := by
        conv => lhs; unfold fX
        rw [if_neg hk]
      rw [e2]
      exact wI r _ hr
theorem xA (h : ∀ x ∈ scope.names, x.2 = .free → ∃ c, env.cells.lookup x.1 = some c) : closureFor scope env = pure (fX env.cells scope.names []) := by
  have q := wI (env := env) scope.names [] h
  unfold closureFor
  have e : (forIn scope.names ([] : List (Str × Addr)) fun (x : Str × NameKind) (r : List (Str × Addr)) =>
      (match x with
      | (name, kind) => if (kind == NameKind.free) = true then (do let c ← cellOf env name; pure (ForInStep.yield ((name, c) :: r))) else pure (ForInStep.yield r) : Sem (ForInStep (List (Str × Addr))))) = pure (fX env.cells scope.names []) := q
  first
    | (show (do let r ← (forIn scope.names ([] : List (Str × Addr)) _); pure r) = _; erw [e]; rfl)
    | (simp only [bind_pure]; exact e)
    | exact e
theorem tS : ∀ (names : List (Str × NameKind)) (acc : List (Str × Addr)), (∀ x ∈ names, x.2 = .free → ∃ c, cells.lookup x.1 = some c) → (∀ y c, acc.lookup y = some c → cells.lookup y = some c) →
    ∀ y c, (fX cells names acc).lookup y = some c → cells.lookup y = some c
  | [], _, _, ha => ha
  | (n, k) :: r, acc, h, ha => by
    have hr : ∀ x ∈ r, x.2 = .free → ∃ c, cells.lookup x.1 = some c := fun x hx => h x (List.mem_cons_of_mem _ hx)
    unfold fX
    by_cases hk : (k == NameKind.free) = true
    · rw [if_pos hk]
      obtain ⟨c, hc⟩ := h (n, k) List.mem_cons_self (by simpa using hk)
      refine tS r _ hr fun y d e => ?_
      rw [List.lookup_cons] at e
      cases q : y == n with
      | true =>
        rw [q] at e
        have e' : (cells.lookup n).getD 0 = d := Option.some.inj e
        have yn : y = n := by simpa using q
        subst yn
        have hc' : cells.lookup y = some c := hc
        rw [hc'] at e' ⊢
        exact congrArg some e'
      | false =>
        rw [q] at e
        exact ha y d e
    · rw [if_neg hk]
      exact tS r acc hr ha
theorem uE : ∀ (names : List (Str × NameKind)) (acc : List (Str × Addr)) (y : Str), (∃ c, acc.lookup y = some c) → ∃ c, (fX cells names acc).lookup y = some c
  | [], _, _, h => h
  | (n, k) :: r, acc, y, h => by
    unfold fX
    split
    · refine uE r _ y ?_
      rw [List.lookup_cons]
      cases q : y == n with
      | true => exact ⟨_, rfl⟩
      | false => exact h
    · exact uE r acc y h
theorem sO : ∀ (names : List (Str × NameKind)) (acc : List (Str × Addr)) (y : Str), (y, NameKind.free) ∈ names → ∃ c, (fX cells names acc).lookup y = some c
  | (n, k) :: r, acc, y, h => by
    unfold fX
    rcases List.mem_cons.mp h with e | h
    · have e1 : y = n := congrArg Prod.fst e
      have e2 : NameKind.free = k := congrArg Prod.snd e
      subst e1
      subst e2
      rw [if_pos (by rfl)]
      refine uE r _ y ?_
      rw [List.lookup_cons, beq_self_eq_true]
      exact ⟨_, rfl⟩
    · split
      · exact sO r _ y h
      · exact sO r _ y h
theorem wG {env : Env} {x : Str} : ∀ (names : List (Str × NameKind)),
    (names.map fun (n, k) => if (k == NameKind.free && env.scope.kind == .function && env.kindOf n == some .cell) then (n, NameKind.cell) else (n, k)).lookup x
      = (names.lookup x).map fun k => if (k == NameKind.free && env.scope.kind == .function && env.kindOf x == some .cell) = true then NameKind.cell else k
  | [] => rfl
  | (n, k) :: r => by
    have ih := wG (env := env) (x := x) r
    show List.lookup x ((if (k == NameKind.free && env.scope.kind == .function && env.kindOf n == some .cell) = true then (n, NameKind.cell) else (n, k)) :: _) = _
    rw [List.lookup_cons (a := x) (as := r)]
    cases hx : x == n with
    | true =>
      have e : x = n := by simpa using hx
      subst e
      by_cases hc : (k == NameKind.free && env.scope.kind == .function && env.kindOf x == some .cell) = true
      · rw [if_pos hc, List.lookup_cons, beq_self_eq_true]
        show some NameKind.cell = some (if _ then _ else _)
        rw [if_pos hc]
      · rw [if_neg hc, List.lookup_cons, beq_self_eq_true]
        show some k = some (if _ then _ else _)
        rw [if_neg hc]
    | false =>
      by_cases hc : (k == NameKind.free && env.scope.kind == .function && env.kindOf n == some .cell) = true
      · rw [if_pos hc, List.lookup_cons, hx]; exact ih
      · rw [if_neg hc, List.lookup_cons, hx]; exact ih
theorem at0 : ∀ {names : List (Str × NameKind)}, names.lookup x = some k → (x, k) ∈ names
  | (n, k') :: r, h => by
    rw [List.lookup_cons] at h
    cases hx : x == n with
    | true =>
      rw [hx] at h
      have e : x = n := by simpa using hx
      subst e
      cases h
      exact List.mem_cons_self
    | false =>
      rw [hx] at h
      exact List.mem_cons_of_mem _ (at0 h)
structure CScope (X : Cx) (ks : List Nat) (scope : Scope) : Prop where
  kind : scope.kind = .function
  cell : ∀ y ∈ scope.names, y.2 ≠ .cell
  names : ∀ y ∈ scope.names, y.2 = .local → scope.names.lookup y.1 = some .local
  freeB : (scope.names.all fun y => !(y.2 == NameKind.free) || (X.env.kindOf y.1 == some NameKind.cell || X.env.kindOf y.1 == some NameKind.free)) = true
  slotsB : (X.N.zipIdx.all fun p => !(scope.names.lookup p.1 == some NameKind.local) || ks.contains p.2) = true
theorem CScope.free (S : CScope X ks scope) : ∀ y ∈ scope.names, y.2 = .free → X.env.kindOf y.1 = some .cell ∨ X.env.kindOf y.1 = some .free := fun y hy hk => by
 have h := List.all_eq_true.mp S.freeB y hy
 rw [hk] at h
 simpa using h
theorem CScope.slots (S : CScope X ks scope) : ∀ p ∈ X.N.zipIdx, scope.names.lookup p.1 = some .local → p.2 ∈ ks := fun p hp hk => by
 have h := List.all_eq_true.mp S.slotsB p hp
 rw [hk] at h
 simpa using h
def clr : List Nat → St → St
 | [], σ => σ
 | k :: ks, σ => clr ks (σ.set k none)
theorem oX : ∀ (ks : List Nat) (σ : St), (clr ks σ).length = σ.length
 | [], _ => rfl
 | k :: ks, σ => by
  show (clr ks (σ.set k none)).length = _
  rw [oX ks, List.length_set]
theorem as4 : ∀ (ks : List Nat) (σ : St) {i : Nat} {v : V}, (clr ks σ)[i]? = some (some v) → σ[i]? = some (some v) ∧ i ∉ ks
 | [], _, _, _, h => ⟨h, List.not_mem_nil⟩
 | k :: ks, σ, i, v, h => by
  obtain ⟨h1, h2⟩ := as4 ks (σ.set k none) h
  by_cases e : i = k
  · subst e
    rw [List.getElem?_set_self'] at h1
    cases q : σ[i]? with
    | none => rw [q] at h1; cases h1
    | some o => rw [q] at h1; cases h1
  · rw [List.getElem?_set_ne (Ne.symm e)] at h1
    exact ⟨h1, fun z => (List.mem_cons.mp z).elim e h2⟩
def PIf (Y : Cx) (ifs : List Expr) (t : TT) : Prop :=
 ∀ (pins : List (Addr × Obj)) (s : Shared) (σ : St) (H : Hp) (Q : Bool → Hp → Prop), Inv Y pins σ H s → t σ H Q →
  wpAny (model Y.prog Y.w) Y.A (forIn ifs true fun c r => if r = true then do let ok ← isTrue c Y.env (eval c Y.env); pure (ForInStep.yield ok) else pure (ForInStep.yield r)) (TP Y pins σ Q) Y.xe s
def cj8 : TT := fun _ H Q => Q true H
theorem dW : PIf Y [] cj8 := fun _ _ _ H _ I h => wpAny_tests_nil ⟨H, I, h⟩
theorem bb4 (h : PT Y c t) : PIf Y [c] t := fun pins s σ H Q I q => wpAny_tests_one (h pins s σ H Q I q)
theorem bz8 (I : Nat → Shared → Prop)
 (turn : ∀ n s, I n s → wpAny (model prog w) A (pyNext it) (fun r s₁ => match r with
  | none => R (.ok .next) s₁
  | some v => wpAny (model prog w) A (letOwnedTupleGo target it v) (fun _ s₁' => wpAny (model prog w) A (assign target env v) (fun _ s₂ =>
   wpAny (model prog w) A (forIn ifs true fun c r => if r = true then do let ok ← isTrue c env (eval c env); pure (ForInStep.yield ok) else pure (ForInStep.yield r)) (fun ok s₃ =>
    if ok = true then wpAny (model prog w) A (eval elt env) (fun x s₄ =>
     wpAny (model prog w) A (call (.builtin "list.append") [acc, x]) (fun _ s₅ => ∃ m, m < n ∧ I m s₅) (fun _ _ => False) s₄) (fun _ _ => False) s₃
    else ∃ m, m < n ∧ I m s₃) (fun _ _ => False) s₂) (fun _ _ => False) s₁') (fun _ _ => False) s₁) (fun _ _ => False) s)
 (n : Nat) (h : I n s) :
 codeAny (model prog w) A (.compLoop (.ListComp elt [⟨target, iter, ifs, 0⟩] scope pos) 0 it acc env) R s := by
 refine codeAny_loop rfl I (fun n s hI => ?_) n h
 show wpAny _ A ((compTurn (.ListComp elt [⟨target, iter, ifs, 0⟩] scope pos) 0 it acc env).onRaise (fun x => do noteFrame x env; theTreesLotGoes x)) _ _ s
 refine wpAny_noted ?_
 rw [compTurn_list]
 refine wpAny_bind (wpAny_standAt (wpAny_bind (wpAny_mono (turn n s hI) (fun r s₁ h₁ => ?_) fun _ _ h' => h'.elim)))
 cases r with
 | none => exact wpAny_pure h₁
 | some v =>
  refine wpAny_bind (wpAny_mono h₁ (fun _ s₁' h₁' => ?_) fun _ _ h' => h'.elim)
  refine wpAny_bind (wpAny_mono h₁' (fun _ s₂ h₂ => wpAny_bind (wpAny_mono h₂ (fun ok s₃ h₃ => ?_) fun _ _ h' => h'.elim)) fun _ _ h' => h'.elim)
  cases ok with
  | false => exact wpAny_pure ⟨rfl, h₃⟩
  | true =>
   exact wpAny_bind (wpAny_bind (wpAny_mono h₃ (fun x s₄ h₄ => wpAny_bind (wpAny_mono h₄ (fun _ s₅ h₅ => wpAny_pure (wpAny_pure ⟨rfl, h₅⟩)) fun _ _ h' => h'.elim)) fun _ _ h' => h'.elim))
theorem Inv.track (I : Inv X pins σ H s) (hn : H D = none) (hl : X.s₀.heap.objs.size ≤ D) (hL : D ≠ X.env.locals)
 (hc : ∀ x c, X.env.cells.lookup x = some c → c ≠ D) (hp : ∀ p ∈ X.pn ++ pins, p.1 ≠ D) (e : s.heap.get? D = some { cls := .type "list", data := .seq its.toArray n }) (rv : Vals ys its) (hz : ys.length ≤ sizeLine) :
 Inv X pins σ (upd H D (.lst ys)) s := by
 have old : ∀ b o, X.s₀.heap.get? b = some o → b ≠ D := fun b o q z => by
  subst z
  exact absurd (Nat.lt_of_lt_of_le (Heap.lt_size q) hl) (Nat.lt_irrefl _)
 have ne : ∀ b o, H b = some o → b ≠ D := fun b o q => gT q hn
 refine ⟨I.ok, I.os, I.bare, ⟨I.base.keep, I.base.slot, fun b o q n' hx => ?_, I.base.there, fun b xs q => ?_, fun b o u q => ?_, fun b ps q => ?_⟩, I.loc, I.cell, ?_, fun x c q => ?_, fun p q => ?_, fun b u q => ?_, I.len⟩
 · rw [cV (old b o q)]
   exact I.base.free b o q n' hx
 · have z := I.base.tups b xs q
   rw [cV (ne _ _ z)]
   exact z
 · have z := I.base.frzs b o u q
   rw [cV (ne _ _ z)]
   exact z
 · obtain ⟨more, z⟩ := I.base.tbls b ps q
   exact ⟨more, by rw [cV (ne _ _ z)]; exact z⟩
 · rw [cV (Ne.symm hL)]
   exact I.free
 · rw [cV (hc x c q)]
   exact I.freeC x c q
 · obtain ⟨h1, h2, h3⟩ := I.pin p q
   exact ⟨h1, by rw [cV (hp p q)]; exact h2, h3⟩
 · by_cases hb : b = D
   · subst hb
     rw [eM] at q
     cases q
     exact ⟨hz, its, n, rv, e⟩
   · rw [cV hb] at q
     exact (I.hok b u q).stay (fun c v _ z => z) (fun c z => by rw [cV (ne _ _ z)]; exact z) fun c xs z => by rw [cV (ne _ _ z)]; exact z
def Ext (ks : List Nat) (σ σ2 : St) : Prop := σ2.length = σ.length ∧ ∀ (i : Nat) (v : V), (clr ks σ)[i]? = some (some v) → σ2[i]? = some (some v)
def CGo (ks : List Nat) (g : TG) (tc : TT) (te : TE) (σ : St) (F : Addr → Hp → Prop) (J : It) (H1 : Hp) : Prop :=
 ∃ W : Nat → Nat → List V → Hp → Prop, (∃ m, W 0 m [] H1) ∧ ∀ i m ys H, W i m ys H →
  (J.stop i H ∧ ∀ D, H D = none → F D (upd H D (.lst ys))) ∨
  (J.go i H ∧ ys.length < sizeLine ∧ ∃ N : List V → Hp → Prop, (∀ ys' H', N ys' H' → ∃ m', m' < m ∧ W (i + 1) m' ys' H') ∧ ∀ x H', J.yld i H x H' → g x (clr ks σ) H' fun σ2 H2 => Ext ks σ σ2 ∧ tc σ2 H2 fun b H3 =>
   if b = true then te σ2 H3 fun v H4 => N (ys ++ [v]) H4 else N ys H3)
def ck4 (ks : List Nat) (wi : TI) (g : TG) (tc : TT) (te : TE) : TE := fun σ H Q => wi σ H (CGo ks g tc te σ fun D H' => Q (.ref D) H')
def bp1 (k : Nat) (ks : List Nat) (wi : TI) (g : TG) (tc : TT) (te : TE) : TS := fun D σ H => wi σ H (CGo ks g tc te σ fun a H' => D.nx (σ.set k (some (.ref a))) H')
section
variable {X : Cx}
theorem bh3 {tg iter elt : Expr} {ifs : List Expr} {scope : Scope} {pos : Pos} {ks : List Nat} {g : TG} {tc : TT} {te : TE} {F : Addr → Hp → Prop} {RR : Value → Addr → Result → Shared → Prop} {E : Value → Shared → Prop}
    {pins : List (Addr × Obj)} {σ : St} {s2 : Shared} {itv : Value} (S : CScope X ks scope) (hc : X.calm = true)
    (hg : ∀ cl C s₀ H₀ ex, PG (rE X scope cl C s₀ H₀ ex) tg g) (hi : ∀ cl C s₀ H₀ ex, PIf (rE X scope cl C s₀ H₀ ex) ifs tc) (he : ∀ cl C s₀ H₀ ex, PE (rE X scope cl C s₀ H₀ ex) elt te)
    (h : PIE X pins σ tg (CGo ks g tc te σ F) itv s2)
    (hRR : ∀ D C s' H', Inv X pins σ H' s' → (∃ m, s'.heap.Ns C m) → pW X pins H' C → F D H' → RR (.ref D) C (.ok .next) s') :
    wpAny (model X.prog X.w) X.A (newList []) (fun acc s₃ => wpAny (model X.prog X.w) X.A (newFunctionEnv scope X.env.globals (fX X.env.cells scope.names []) [] X.env.qual none .none (some X.env)) (fun cenv s₄ =>
      codeAny (model X.prog X.w) X.A (.compStart (.ListComp elt [⟨tg, iter, ifs, 0⟩] scope pos) 0 itv acc { cenv with scope := relabel scope X.env }) (RR acc cenv.locals) s₄) E s₃) E s2 := by
  obtain ⟨it, fp, tn, J, H2, rfl, I2, T, st2, f2, W, ⟨m0, w0⟩, turn⟩ := h
  refine wpAny_newObj_type (wpAny_newFunctionEnv S.cell (by intro y hy; simp at hy) (fun h₁ hns₁ hsb₁ => ?_) S.kind)
  dsimp only at hns₁ hsb₁ ⊢
  have hD2 : s2.heap.get? s2.heap.objs.size = none := Heap.get?_none_of_le (Nat.le_refl _)
  have nD : H2 s2.heap.objs.size = none := I2.hok.fresh (Nat.le_refl _)
  have I3 : Inv X pins σ H2 { s2 with heap := s2.heap.push { cls := .type "list", dict := none, data := .seq ([] : List Value).toArray } } := I2.kept (t' := s2.toks) fun b o e => Heap.get?_push_of_some _ e
  have eD3 : (s2.heap.push { cls := .type "list", dict := none, data := .seq ([] : List Value).toArray }).get? s2.heap.objs.size = some { cls := .type "list", dict := none, data := .seq ([] : List Value).toArray } := Heap.get?_push_size _ rfl
  have hsz3 : (s2.heap.push { cls := .type "list", dict := none, data := .seq ([] : List Value).toArray }).objs.size = s2.heap.objs.size + 1 := Heap.size_push _ _
  have fD := I2.fpOk (b := s2.heap.objs.size) (Nat.le_refl _) nD
  have fplt : ∀ b ∈ fp, b < s2.heap.objs.size := fun b hb => by
    obtain ⟨o, e, _⟩ := T.obj _ _ st2 b hb
    exact Heap.lt_size e
  have hDfp : s2.heap.objs.size ∉ fp := fun z => Nat.lt_irrefl _ (fplt _ z)
  generalize hs3 : ({ s2 with heap := s2.heap.push { cls := .type "list", dict := none, data := .seq ([] : List Value).toArray } } : Shared) = s3 at I3
  generalize hDD : s2.heap.objs.size = D at *
  have s3h : s3.heap = s2.heap.push { cls := .type "list", dict := none, data := .seq ([] : List Value).toArray } := by rw [← hs3]
  rw [← s3h] at hns₁ hsb₁ eD3 hsz3
  have fC := I3.fpOk (H' := H2) (b := s3.heap.objs.size) (Nat.le_refl _) (I3.hok.fresh (Nat.le_refl _))
  have old : ∀ b o, s3.heap.get? b = some o → h₁.get? b = some o := fun b o e => hsb₁.extBut b o (Nat.ne_of_lt (Heap.lt_size e)) (Heap.get?_push_of_some _ e)
  generalize hCC : s3.heap.objs.size = C at *
  have hDltC : D < C := by rw [hsz3]; exact Nat.lt_succ_self _
  have hDC : D ≠ C := Nat.ne_of_lt hDltC
  have hclos := xA (env := X.env) (scope := scope) fun x hx hk => I2.ok.has x.1 (S.free x hx hk)
  have csound : ∀ y c, (fX X.env.cells scope.names []).lookup y = some c → X.env.cells.lookup y = some c :=
    tS scope.names [] (fun x hx hk => I2.ok.has x.1 (S.free x hx hk)) fun y c e => by cases e
  generalize hcl : fX X.env.cells scope.names [] = cl at *
  have kin : ∀ y, (compEnvC scope cl C X.env).kindOf y = (scope.names.lookup y).map fun k => if (k == NameKind.free && X.env.scope.kind == .function && X.env.kindOf y == some .cell) = true then NameKind.cell else k := fun y => wG scope.names
  have isFree : ∀ y, ((compEnvC scope cl C X.env).kindOf y = some .cell ∨ (compEnvC scope cl C X.env).kindOf y = some .free) → (y, NameKind.free) ∈ scope.names := fun y hy => by
    rw [kin y] at hy
    cases q : scope.names.lookup y with
    | none =>
      rw [q] at hy
      rcases hy with z | z <;> cases z
    | some k =>
      rw [q] at hy
      have hm := at0 q
      cases k with
      | free => exact hm
      | cell => exact absurd rfl (S.cell _ hm)
      | _ =>
        rcases hy with z | z
        · exact absurd (Option.some.inj z) (by simp)
        · exact absurd (Option.some.inj z) (by simp)
  have neFs : ∀ b, pW X pins H2 b → b ∉ vX X.stack := fun b f z => by
    rcases List.mem_cons.mp (I2.stkSub b z) with e | e
    · exact f.2.1 e
    · exact f.2.2.1 e
  have exs : ∀ b ∈ D :: fp, pW X pins H2 b := fun b hb => by
    rcases List.mem_cons.mp hb with e | e
    · rw [e]; exact fD
    · exact f2 b e
  have exlt : ∀ b ∈ D :: fp, b < C := fun b hb => by
    rcases List.mem_cons.mp hb with e | e
    · rw [e]; exact hDltC
    · exact Nat.lt_trans (fplt b e) hDltC
  have okY : (rE X scope cl C s3 H2 (D :: fp)).Ok :=
    { mod := I2.ok.mod, kind := S.kind, glob := I2.ok.glob, blt := I2.ok.blt, above := Nat.le_of_eq hCC
      inj := fun x y c h1 h2 => I2.ok.inj x y c (csound _ _ h1) (csound _ _ h2)
      has := fun y hy => by
        have z := sO (cells := X.env.cells) scope.names [] y (isFree y hy)
        rw [hcl] at z
        exact z
      cab := fun _ _ z => by cases z
      hd := I2.ok.hd, frames := I2.ok.frames, stk := .inl rfl
      exf := fun b hb => ⟨Nat.ne_of_lt (exlt b hb), fun x c e z => (exs b hb).2.2.2.2.1 x c (csound _ _ e) z⟩
      bs := I3.bs
      bsz := Nat.le_trans I2.ok.bsz I3.sz
      noex := fun b o e hb => by
        rcases (exs b hb).2.2.2.1 with z | z
        · exact I2.ok.noex b o e z
        · exact absurd (Nat.lt_of_lt_of_le (Heap.lt_size e) (Nat.le_trans I2.ok.bsz z)) (Nat.lt_irrefl _)
      exfs := fun b hb => neFs b (exs b hb)
      funs := I3.stack
      frf := I3.stkFree }
  have outP : ∀ p ∈ X.pn ++ pins, p.1 ≠ C ∧ p.1 ∉ vX X.stack ∧ p.1 ≠ D := fun p hp => by
    obtain ⟨e, n, ne, nf, d⟩ := I2.pin p hp
    have lt : p.1 < D := by rw [← hDD]; exact Heap.lt_size e
    refine ⟨Nat.ne_of_lt (Nat.lt_trans lt hDltC), fun z => ?_, Nat.ne_of_lt lt⟩
    rcases List.mem_cons.mp (I2.stkSub p.1 z) with q | q
    · exact ne q
    · exact nf q
  have I4 : Inv (rE X scope cl C s3 H2 (D :: fp)) (X.pn ++ pins) (clr ks σ) H2 { s3 with heap := h₁, toks := s3.toks + ([] : List (Str × Value)).length } := by
    refine ⟨okY, rfl, I3.bare, Un.kept old, ⟨_, hns₁, fun i x v e1 e2 e3 => ?_⟩, fun x c e => ?_, ?_, fun x c e => ?_, fun p hp => ?_, I3.hok.kept old, ?_⟩
    · obtain ⟨e2, nk⟩ := as4 ks σ e2
      have hv : (compEnvC scope cl C X.env).kindOf x = some .cell ∨ (compEnvC scope cl C X.env).kindOf x = some .free := by
        rcases e3 with z | z | z
        · exfalso
          have z' : (compEnvC scope cl C X.env).kindOf x = some .local := z
          rw [kin x] at z'
          have hm : (x, i) ∈ X.N.zipIdx := by
            rw [List.mem_zipIdx_iff_getElem?]
            exact e1
          refine nk (S.slots (x, i) hm ?_)
          show scope.names.lookup x = some .local
          cases q : scope.names.lookup x with
          | none => rw [q] at z'; cases z'
          | some k =>
            rw [q] at z'
            have z2 := Option.some.inj z'
            cases k with
            | «local» => rfl
            | free =>
              exfalso
              dsimp only at z2
              split at z2 <;> cases z2
            | _ => exact absurd z2 (by simp)
        · exact .inl z
        · exact .inr z
      have hf := isFree x hv
      have hX := S.free (x, .free) hf rfl
      obtain ⟨m, hn, hl⟩ := I3.loc
      obtain ⟨u, r, lk⟩ := hl i x v e1 e2 (by rcases hX with z | z; exact .inr (.inl z); exact .inr (.inr z))
      refine ⟨u, r, .inr ⟨hv, ?_⟩⟩
      have z := sO (cells := X.env.cells) scope.names [] x hf
      rw [hcl] at z
      obtain ⟨c, hcx⟩ := z
      rcases lk with ⟨kl, _⟩ | ⟨_, c', e', z'⟩
      · have hX' : X.env.kindOf x = some .cell ∨ X.env.kindOf x = some .free := hX
        rw [kl] at hX'
        rcases hX' with z | z <;> cases z
      · have q := csound x c hcx
        rw [e'] at q
        cases q
        obtain ⟨o, ho, hd⟩ := z'
        exact ⟨c, hcx, o, old _ _ ho, hd⟩
    · obtain ⟨v, o, ho, hd⟩ := I3.cell x c (csound x c e)
      exact ⟨v, o, old _ _ ho, hd⟩
    · exact I3.hok.fresh (Nat.le_of_eq hCC)
    · exact I3.freeC x c (csound x c e)
    · have hp' : p ∈ X.pn ++ pins := hp
      obtain ⟨e, n, ne, nf, d⟩ := I3.pin p hp'
      exact ⟨old _ _ e, n, (outP p hp').1, (outP p hp').2.1, d⟩
    · rw [oX]
      exact I3.len
  have fpY : ∀ {pl : List (Addr × Obj)} {H' : Hp}, (∀ p ∈ pl, p.1 ∉ fp) → (∀ b ∈ fp, H' b = none) → ∀ b ∈ fp, pW (rE X scope cl C s3 H2 (D :: fp)) ((X.pn ++ pins) ++ pl) H' b := fun {pl H'} hpl hn b hb => by
    have f := f2 b hb
    refine ⟨hn b hb, Nat.ne_of_lt (exlt b (List.mem_cons_of_mem _ hb)), neFs b f, .inl (List.mem_cons_of_mem _ hb), fun x c e z => f.2.2.2.2.1 x c (csound x c e) z, fun p hp => ?_⟩
    have hp' : p ∈ (X.pn ++ pins) ++ pl := hp
    rcases List.mem_append.mp hp' with q | q
    · exact f.2.2.2.2.2 p q
    · exact fun z => hpl p q (by rw [z]; exact hb)
  have jD : ∀ s₅ : Shared, s₅ = { s3 with heap := h₁, toks := s3.toks + ([] : List (Str × Value)).length } →
      codeAny (model X.prog X.w) X.A (.compLoop (.ListComp elt [⟨tg, iter, ifs, 0⟩] scope pos) 0 (.ref it) (.ref D) (compEnvC scope cl C X.env)) (RR (.ref D) C) s₅ := by
    rintro s₅ rfl
    refine bz8 (fun n s' => ∃ i H' ys its nn, Inv (rE X scope cl C s3 H2 (D :: fp)) (X.pn ++ pins) (clr ks σ) H' s' ∧ tn i s'.heap ∧ (∀ b ∈ fp, H' b = none) ∧ H' D = none ∧ s'.heap.get? D = some { cls := .type "list", data := .seq its nn } ∧ Vals ys its.toList ∧ ys.length ≤ sizeLine ∧ W i n ys H') ?_ m0
      ⟨0, H2, [], #[], 0, I4, T.keep _ _ _ st2 (fun b hb o e => old _ _ (by rw [s3h]; exact Heap.get?_push_of_some _ e)), fun b hb => (f2 b hb).1, nD, old _ _ eD3, .nil, Nat.zero_le _, w0⟩
    rintro n s6 ⟨i, H6, ys, its, nn, I6, st6, fr6, nD6, eD6, rv6, hz6, w6⟩
    have I6' : Inv (rE X scope cl C s3 H2 (D :: fp)) ((X.pn ++ pins) ++ [(D, { cls := .type "list", data := .seq its nn })]) (clr ks σ) H6 s6 := I6.pins_of fun p hp => (List.mem_append.mp hp).elim (fun z => I6.pin p (List.mem_append_right _ z)) fun z => by
      obtain rfl := List.mem_singleton.mp z
      exact ⟨eD6, nD6, hDC, neFs D fD, fun v q => by cases q⟩
    have plD : ∀ p ∈ [((D, { cls := .type "list", data := .seq its nn }) : Addr × Obj)], p.1 ∉ fp := fun p hp => by
      obtain rfl := List.mem_singleton.mp hp
      exact hDfp
    rcases turn i n ys H6 w6 with ⟨stop, cE⟩ | ⟨go, hz, N, hN, step⟩
    · refine cR (T.done (rE X scope cl C s3 H2 (D :: fp)) rfl rfl rfl hc i _ s6 (clr ks σ) H6 _ I6' (fpY plD fr6) st6 stop) fun r s7 ⟨hr, I7⟩ => ?_
      subst hr
      have IX : Inv X pins σ H6 s7 := I3.call' (ch := D :: fp) I7.os I7.base I7.hok I7.bare fun b hb => ⟨(exs b hb).2.2.2.1, (exs b hb).2.1, (exs b hb).2.2.2.2.1, (exs b hb).2.2.2.2.2⟩
      have eD7 := (I7.pin (D, { cls := .type "list", data := .seq its nn }) (List.mem_append_right _ (List.mem_append_right _ (List.mem_singleton.mpr rfl)))).1
      have rv7 : Vals ys its.toList := rv6
      have IT : Inv X pins σ (upd H6 D (.lst ys)) s7 := IX.track (its := its.toList) (n := nn) nD6 (by
        have := I2.sz
        omega) fD.2.1 fD.2.2.2.2.1 fD.2.2.2.2.2 (by simpa using eD7) rv7 hz6
      obtain ⟨m7, hn7, _⟩ := I7.loc
      refine hRR D C s7 _ IT ⟨m7, hn7⟩ ⟨?_, fC.2⟩ (cE D nD6)
      rw [cV (Ne.symm hDC)]
      exact I7.free
    · refine cR (T.item (rE X scope cl C s3 H2 (D :: fp)) rfl rfl rfl hc i _ s6 (clr ks σ) H6 _ I6' (fpY plD fr6) st6 go) fun r s7 ⟨u, hr, h7⟩ => ?_
      subst hr
      refine cR h7 fun _ s8 ⟨x, H8, I8, r8, y8, st8, fr8⟩ => ?_
      have I8' := I8.pinned (fpY plD fr8) (T.obj _ _ st8)
      refine cR (hg cl C s3 H2 (D :: fp) _ s8 (clr ks σ) H8 x u _ I8' r8 (step x H8 y8)) fun _ s9 ⟨σ9, H9, I9, hE, q9⟩ => ?_
      refine cR (hi cl C s3 H2 (D :: fp) _ s9 σ9 H9 _ I9 q9) fun ok s10 ⟨H10, I10, q10⟩ => ?_
      have memD : (D, ({ cls := .type "list", data := .seq its nn } : Obj)) ∈ ([] : List (Addr × Obj)) ++ (((X.pn ++ pins) ++ [(D, { cls := .type "list", data := .seq its nn })]) ++ vZ fp s8.heap) := List.mem_append_right _ (List.mem_append_left _ (List.mem_append_right _ (List.mem_singleton.mpr rfl)))
      have keepT : ∀ {σ' : St} {H' : Hp} {s' : Shared}, Inv (rE X scope cl C s3 H2 (D :: fp)) (((X.pn ++ pins) ++ [(D, { cls := .type "list", data := .seq its nn })]) ++ vZ fp s8.heap) σ' H' s' → tn (i + 1) s'.heap ∧ (∀ b ∈ fp, H' b = none) := fun {σ' H' s'} I' =>
        ⟨T.keep _ _ _ st8 fun b hb o e => (I'.pin (b, o) (List.mem_append_right _ (List.mem_append_right _ (sP hb e)))).1, fun b hb => by
          obtain ⟨o, e, d⟩ := T.obj _ _ st8 b hb
          exact (I'.pin (b, o) (List.mem_append_right _ (List.mem_append_right _ (sP hb e)))).2.1⟩
      cases ok with
      | false =>
        obtain ⟨m', hm, w10⟩ := hN ys H10 q10
        obtain ⟨k1, k2⟩ := keepT I10
        obtain ⟨p1, p2, _⟩ := I10.pin _ memD
        exact ⟨m', hm, i + 1, H10, ys, its, nn, I10.unpinned.unpinned.weak (by rw [oX]; exact hE.1.symm) hE.2, k1, k2, p2, p1, rv6, hz6, w10⟩
      | true =>
        refine cR (he cl C s3 H2 (D :: fp) _ s10 σ9 H10 _ I10 q10) fun vv s11 ⟨v, H11, I11, r11, n11⟩ => ?_
        obtain ⟨m', hm, w11⟩ := hN _ _ n11
        obtain ⟨k1, k2⟩ := keepT I11
        obtain ⟨p1, p2, _⟩ := I11.pin _ memD
        have hlen : ys.length = its.size := by have := rv6.length; simpa using this
        refine call_meets PySem.F.slot_list_append ⟨_, p1, rfl⟩ PySem.F.entry_list_append (PySem.F.args_list_append_2 _ _) (PySem.list_append D its nn vv (by omega)) ⟨p1, ?_⟩
        have q := PySem.IsL.update p1 fun xs => xs.push vv
        refine ⟨m', hm, i + 1, H11, ys ++ [v], its.push vv, _, (I11.unpinned.unpinned.weak (by rw [oX]; exact hE.1.symm) hE.2).turned (fun b o hb e => (Heap.get?_update_other _ _ (Ne.symm hb)).trans e) p2 hDC (.inl List.mem_cons_self) (fun x c e z => fD.2.2.2.2.1 x c (csound x c e) z) (fun p hp => (outP p hp).2.2), ?_, k2, p2, q, ?_, ?_, w11⟩
        · refine T.keep _ _ _ k1 fun b hb o e => (Heap.get?_update_other _ _ ?_).trans e
          intro z
          exact hDfp (by rw [z]; exact hb)
        · have : (its.push vv).toList = its.toList ++ [vv] := by simp
          rw [this]
          exact rv6.append (.cons r11 .nil)
        · rw [List.length_append, List.length_singleton]
          omega
  have hCC' : (s2.heap.push { cls := .type "list", dict := none, data := .seq ([] : List Value).toArray }).objs.size = C := by rw [← s3h]; exact hCC
  rw [hCC']
  exact codeAny_compStart_list (jD _ (by rw [← hs3])) (T.self _ 0 _ _ _ (T.keep _ _ _ st2 (fun b hb o e => old _ _ (by rw [s3h]; exact Heap.get?_push_of_some _ e))) (jD _ (by rw [← hs3])))
theorem eV (S : CScope X ks scope) (hc : X.calm = true) (hit : PI X tg iter wi)
 (hg : ∀ cl C s₀ H₀ ex, PG (rE X scope cl C s₀ H₀ ex) tg g) (hi : ∀ cl C s₀ H₀ ex, PIf (rE X scope cl C s₀ H₀ ex) ifs tc) (he : ∀ cl C s₀ H₀ ex, PE (rE X scope cl C s₀ H₀ ex) elt te)
 (hs : ∀ x, foldedSetIterable iter X.env x = pure x := by intro _; rfl) : PE X (.ListComp elt [⟨tg, iter, ifs, 0⟩] scope pos) (ck4 ks wi g tc te) := by
 intro pins s σ H Q I h
 rw [eval_ListComp]
 refine wpAny_comprehension_free (use := none) rfl hs (xA fun x hx hk => I.ok.has x.1 (S.free x hx hk)) S.kind S.names (cR (hit pins s σ H _ I h) fun v s1 h1 => cR h1 fun itv s2 h2 => ?_)
 refine bh3 (RR := fun acc C => compPost (model X.prog X.w) X.A X.xe none (EP X pins σ Q) acc C) S hc hg hi he h2 ?_
 rintro D C s' H' I' ⟨m, hn⟩ f q
 exact ⟨m, hn, fun h'' sb => ⟨.ref D, H', I'.turned (t' := s'.toks) (fun b o hb e => (sb.2 b hb).trans e) f.1 f.2.1 f.2.2.2.1 f.2.2.2.2.1 f.2.2.2.2.2, rfl, q⟩⟩
theorem mT (hN : X.N.Nodup) (hi' : X.N[i]? = some y) (hy : Loc X.env.scope y)
 (S : CScope X ks scope) (hc : X.calm = true) (hit : PI X tg iter wi)
 (hg : ∀ cl C s₀ H₀ ex, PG (rE X scope cl C s₀ H₀ ex) tg g) (hi : ∀ cl C s₀ H₀ ex, PIf (rE X scope cl C s₀ H₀ ex) ifs tc) (he : ∀ cl C s₀ H₀ ex, PE (rE X scope cl C s₀ H₀ ex) elt te)
 (hsw : swapsWith (.ListComp elt [⟨tg, iter, ifs, 0⟩] scope pos) (some (.Name y py)) spos.line X.env = pure true := by rfl)
 (hs : ∀ x, foldedSetIterable iter X.env x = pure x := by intro _; rfl) (hf : X.fn y = true ∨ X.env.scope.names.lookup y = some .local := by first | exact .inl rfl | exact .inr rfl | assumption) :
 PS X (.Assign [.Name y py] (.ListComp elt [⟨tg, iter, ifs, 0⟩] scope pos) spos) (bp1 i ks wi g tc te) := by
 intro pins s σ H D I h
 rw [exec_Assign_Name_used _ _ _ _ hsw]
 refine wpAny_bind (wpAny_standAt (wpAny_bind ?_))
 show wpAny _ X.A (do let _ ← comprehension (.ListComp elt [⟨tg, iter, ifs, 0⟩] scope pos) scope X.env _ (newList []) false (eval iter X.env) (some (assign (.Name y py) X.env))) _ _ s
 refine wpAny_bind (wpAny_mono (wpAny_comprehension_free (use := some (assign (.Name y py) X.env)) (Q := fun _ s' => SP X pins D .next s') rfl hs (xA fun x hx hk => I.ok.has x.1 (S.free x hx hk)) S.kind S.names
  (cR (hit pins s σ H _ I h) fun v s1 h1 => cR h1 fun itv s2 h2 => ?_)) (fun _ s' hq => wpAny_pure (wpAny_pure hq)) fun _ _ e => e)
 refine bh3 (RR := fun acc C => compPost (model X.prog X.w) X.A X.xe (some (assign (.Name y py) X.env)) (fun _ s' => SP X pins D .next s') acc C) S hc hg hi he h2 ?_
 rintro L C s' H' I' ⟨m, hn⟩ f q
 show wpAny _ _ (assign (.Name y py) X.env (.ref L)) _ _ s'
 refine wpAny_assign_Name (ar6 (v := .ref L) I' hN hi' hy rfl (fun s'' I'' hh => ?_) hf)
 obtain ⟨a, sb, ha⟩ := hh
 have hCa : C ≠ a := by
  rcases ha with e | e
  · rw [e]; exact f.2.1
  · exact fun z => f.2.2.2.2.1 y a e z.symm
 exact ⟨m, hn.sameBut sb hCa, fun h'' sb' => ⟨_, H', I''.turned (t' := s''.toks) (fun b o hb e => (sb'.2 b hb).trans e) f.1 f.2.1 f.2.2.2.1 f.2.2.2.2.1 f.2.2.2.2.2, q⟩⟩
end
end L2
namespace L2
open PySem PySem.Spec PyProof.Rows
section
variable {X : Cx}
theorem bw6 (hc : X.calm = true) : CallR X (.builtin "max") (fun xs H Q => ∃ (p : Addr) (ns : List Int), xs = [.ref p] ∧ SqL X.K H p (ns.map V.int) ∧ ns ≠ [] ∧ ∀ M, M ∈ ns → (∀ a ∈ ns, a ≤ M) → Q (.int M) H) := by
 intro pins s σ H xs us Q I r h
 obtain ⟨p, ns, rfl, hp, hne, q⟩ := h
 obtain ⟨u, rfl, ru⟩ := r.one
 obtain rfl : u = Value.ref p := ru
 obtain ⟨its, rv, pl, _⟩ := I.list hp
 have hi : IntsAre its ns := al2 rv
 have hl := pl.isList
 obtain ⟨xs, e⟩ := hi.allInts.items
 have hns : ns = xs.toList.map (·.1) := by
  rw [← hi.numsOf, ← nums_intItems, ← e]
 have hsz : 0 < xs.size := by
  have h3 := List.length_pos_iff.mpr hne
  rw [hns, List.length_map, Array.length_toList] at h3
  exact h3
 rw [e] at hl
 refine max_intList (I.ok.hd hc) hl hsz fun v h' tk hv hk => ?_
 obtain ⟨t, rfl⟩ := intItems_at hv
 obtain ⟨h1, h2⟩ := argBest_gt (numAt xs) (xs.size - 1)
 refine ⟨.int _, H, I.kept hk, ⟨t, rfl⟩, q _ ?_ fun a ha => ?_⟩
 · rw [hns, numAt_eq]; exact getD_mem (by rw [List.length_map, Array.length_toList]; omega)
 · rw [hns] at ha
   obtain ⟨j, hj, rfl⟩ := mem_getD ha
   rw [List.length_map, Array.length_toList] at hj
   rw [← numAt_eq]; exact h2 j (by omega)
theorem bh9 (hc : X.calm = true) : CallR X (.builtin "min") (fun xs H Q => ∃ (p : Addr) (ns : List Int), xs = [.ref p] ∧ SqL X.K H p (ns.map V.int) ∧ ns ≠ [] ∧ ∀ M, M ∈ ns → (∀ a ∈ ns, M ≤ a) → Q (.int M) H) := by
 intro pins s σ H xs us Q I r h
 obtain ⟨p, ns, rfl, hp, hne, q⟩ := h
 obtain ⟨u, rfl, ru⟩ := r.one
 obtain rfl : u = Value.ref p := ru
 obtain ⟨its, rv, pl, _⟩ := I.list hp
 have hi : IntsAre its ns := al2 rv
 have hl := pl.isList
 obtain ⟨xs, e⟩ := hi.allInts.items
 have hns : ns = xs.toList.map (·.1) := by
  rw [← hi.numsOf, ← nums_intItems, ← e]
 have hsz : 0 < xs.size := by
  have h3 := List.length_pos_iff.mpr hne
  rw [hns, List.length_map, Array.length_toList] at h3
  exact h3
 rw [e] at hl
 refine min_intList (I.ok.hd hc) hl hsz fun v h' tk hv hk => ?_
 obtain ⟨t, rfl⟩ := intItems_at hv
 obtain ⟨h1, h2⟩ := argBest_lt (numAt xs) (xs.size - 1)
 refine ⟨.int _, H, I.kept hk, ⟨t, rfl⟩, q _ ?_ fun a ha => ?_⟩
 · rw [hns, numAt_eq]; exact getD_mem (by rw [List.length_map, Array.length_toList]; omega)
 · rw [hns] at ha
   obtain ⟨j, hj, rfl⟩ := mem_getD ha
   rw [List.length_map, Array.length_toList] at hj
   rw [← numAt_eq]; exact h2 j (by omega)
end
section
variable {X : Cx}
end
end L2
namespace L2
open PySem PySem.Spec PyProof.Rows
def Its (z : Str) : It := ⟨fun i _ => i < z.cps.size, fun i H x H' => H' = H ∧ ∃ c, z.cps[i]? = some c ∧ x = .str ⟨#[c]⟩, fun i _ => z.cps.size ≤ i⟩
theorem bb7 (hQ : Q () s) : wpAny M A (letOwnedTupleGo tg (.ref it) (.str x t)) Q E s := by
 unfold letOwnedTupleGo
 cases tg <;> exact wpAny_pure hQ
theorem bu5 {P : Program} {w : World} {K : PySem.W.Frag} {tg : Expr} (it : Addr) (z : Str) (t : Tok) : yE P w K tg (Its z) [it] it (fun i h => h.IsStrIter it "str_ascii_iterator" z t i) where
 mem := by simp
 obj := fun i h st b hb => by
  have e : b = it := by simpa using hb
  subst e
  obtain ⟨o, e, c, d⟩ := st
  exact ⟨o, e, fun v q => by rw [d] at q; cases q⟩
 keep := fun i h h' st k => let ⟨o, e, r⟩ := st; ⟨o, k it (by simp) o e, r⟩
 item := by
  intro X hP hw hK hc i pins s σ H E I hf st hg
  subst hP hw hK
  obtain ⟨f0, f1, f2, f3, f4, f5⟩ := hf it (by simp)
  have hg' : i < z.cps.size := hg
  refine wpAny_pyNext_ascii_item st (c := z.cps[i]) (by simp [hg']) fun h' hit' hs' => ?_
  have I1 : Inv X pins σ H { s with heap := h', toks := s.toks + 1 } := I.turned (fun b o hb e => hs'.extBut b o hb e) f0 f1 f3 f4 f5
  exact ⟨_, rfl, bb7 ⟨.str ⟨#[z.cps[i]]⟩, H, I1, ⟨_, rfl⟩, ⟨rfl, _, by simp [hg'], rfl⟩, hit', fun b hb => (hf b hb).1⟩⟩
 done := by
  intro X hP hw hK hc i pins s σ H E I hf st hg
  subst hP hw hK
  obtain ⟨f0, f1, f2, f3, f4, f5⟩ := hf it (by simp)
  have hg' : z.cps.size ≤ i := hg
  exact wpAny_pyNext_ascii_end (I.ok.hd hc) st (by simp [hg']) fun h' he' => ⟨rfl, I.turned (t' := s.toks) (fun b o hb e => he' b o hb e) f0 f1 f3 f4 f5⟩
 self := fun _ _ _ _ _ st h => wpAny_pyIter_striter_ascii st h
theorem bj7 {P : Program} {w : World} {K : PySem.W.Frag} {tg : Expr} (it : Addr) (z : Str) (t : Tok) : yE P w K tg (Its z) [it] it (fun i h => h.IsStrIter it "str_iterator" z t i) where
 mem := by simp
 obj := fun i h st b hb => by
  have e : b = it := by simpa using hb
  subst e
  obtain ⟨o, e, c, d⟩ := st
  exact ⟨o, e, fun v q => by rw [d] at q; cases q⟩
 keep := fun i h h' st k => let ⟨o, e, r⟩ := st; ⟨o, k it (by simp) o e, r⟩
 item := by
  intro X hP hw hK hc i pins s σ H E I hf st hg
  subst hP hw hK
  obtain ⟨f0, f1, f2, f3, f4, f5⟩ := hf it (by simp)
  have hg' : i < z.cps.size := hg
  refine wpAny_pyNext_wide_item st (c := z.cps[i]) (by simp [hg']) fun h' hit' hs' => ?_
  have I1 : Inv X pins σ H { s with heap := h', toks := s.toks + 1 } := I.turned (fun b o hb e => hs'.extBut b o hb e) f0 f1 f3 f4 f5
  exact ⟨_, rfl, bb7 ⟨.str ⟨#[z.cps[i]]⟩, H, I1, ⟨_, rfl⟩, ⟨rfl, _, by simp [hg'], rfl⟩, hit', fun b hb => (hf b hb).1⟩⟩
 done := by
  intro X hP hw hK hc i pins s σ H E I hf st hg
  subst hP hw hK
  obtain ⟨f0, f1, f2, f3, f4, f5⟩ := hf it (by simp)
  have hg' : z.cps.size ≤ i := hg
  exact wpAny_pyNext_wide_end (I.ok.hd hc) st (by simp [hg']) fun h' he' => ⟨rfl, I.turned (t' := s.toks) (fun b o hb e => he' b o hb e) f0 f1 f3 f4 f5⟩
 self := fun _ _ _ _ _ st h => wpAny_pyIter_striter_wide st h
section
variable {X : Cx}
def dz0 : V → Option Int → Option Int → Hp → VK → Prop := fun x lo hi H Q => ∃ z, x = .str z ∧ z.length ≤ sizeLine ∧ Q (.str (Txt.slice z lo hi)) H
theorem dx0 : SlR X dz0 := by
 intro pins s σ H x v vl vu lo hi sl Q I rx hs pl pu h
 obtain ⟨z, rfl, hz, q⟩ := h
 obtain ⟨t, rfl⟩ := rx
 refine ⟨"str", _, F.slot_str_getitem.lookup, typeIs_str s z t, ?_⟩
 obtain ⟨o, e, c, d⟩ := hs
 have go : ∀ (l u : Option (Int × Tok)), vl = partValue l → vu = partValue u → lo = l.map (·.1) → hi = u.map (·.1) → wpAny (model X.prog X.w) X.A (getItem (.str z t) (.ref sl)) (EP X pins σ Q) X.xe s := by
  rintro l u rfl rfl rfl rfl
  refine wpAny_getItem_str_slice (l := l) (u := u) (st := none) ⟨o, e, c, d⟩ rfl ?_
  unfold sliceMade
  unfold Txt.slice at q
  have e1 : ((((none : Option (Int × Tok)).map (·.1)).getD 1 == 1 && (slicePicked z l u none).length == z.length) = true) = (((1 : Int) == 1 && (Builtin.Str.strSliceIndices (l.map (·.1)) (u.map (·.1)) 1 z.length).length == z.length) = true) := rfl
  split
  · rename_i hh
    rw [if_pos (e1 ▸ hh)] at q
    exact ⟨.str z, H, I, ⟨t, rfl⟩, q⟩
  · rename_i hh
    rw [if_neg (e1 ▸ hh)] at q
    refine ⟨Nat.le_trans (Nat.le_trans (List.length_filterMap_le _ _) (sliceIndices_le _ _ _)) hz, .str _, H, I.tok _, ⟨_, rfl⟩, q⟩
 cases pl with
 | none =>
  cases pu with
  | none => exact go none none rfl rfl rfl rfl
  | int j u => exact go none (some (j, u)) rfl rfl rfl rfl
 | int i t' =>
  cases pu with
  | none => exact go (some (i, t')) none rfl rfl rfl rfl
  | int j u => exact go (some (i, t')) (some (j, u)) rfl rfl rfl rfl
theorem af7 : ∀ {ys : List Str} {us : List Value}, Vals (ys.map V.str) us → StrsAre us ys
 | [], _, .nil => .nil
 | y :: ys, _, .cons r t => by
  obtain ⟨k, rfl⟩ := r
  exact .cons _ _ (af7 t)
def bm4 (K : PySem.W.Frag) : V → List V → Hp → VK → Prop := fun x vs H Q => ∃ (z : Str) (p : Addr) (ys : List Str), x = .str z ∧ vs = [.ref p] ∧ SqL K H p (ys.map V.str) ∧ (ys.map (·.length)).sum + ys.length * z.length ≤ 16777216 ∧ Q (.str (Txt.join z ys)) H
theorem cy7 : MtR X "str.join" (bm4 X.K) := by
 intro pins s σ H x xs v us Q I rx rv h
 obtain ⟨z, p, ys, rfl, rfl, hp, hz, q⟩ := h
 obtain ⟨t, rfl⟩ := rx
 obtain ⟨u, rfl, ru⟩ := rv.one
 obtain rfl : u = Value.ref p := ru
 obtain ⟨its, r, pl, _⟩ := I.list hp
 exact join_list pl.isList (by simpa using af7 r) hz fun t' k => ⟨.str _, H, I.tok _, ⟨_, rfl⟩, q⟩
end
end L2
namespace L2
open PySem PySem.Spec PyProof.Rows
section
variable {X : Cx}
def db3 : R2 := fun x y H Q => ∃ i j, x = .str i ∧ y = .str j ∧ i.length + j.length ≤ sizeLine ∧ Q (.str (i ++ j)) H
def cf8 (K : PySem.W.Frag) : List V → Hp → VK → Prop := fun xs H Q => ∃ x n, xs = [x] ∧ cc9 K x H n ∧ Q (.int n) H
def cb9 : List V → Hp → VK → Prop := fun xs H Q => ∃ i, xs = [.int i] ∧ Q (.int (if i < 0 then -i else i)) H
def bd4 : List V → Hp → VK → Prop := fun xs H Q => ∃ i j, xs = [.int i, .int j] ∧ uY i j ∧ ∀ p, H p = none → Q (.ref p) (upd H p (.tup [.int (i / j), .int (i % j)]))
def dv7 (K : PySem.W.Frag) : List V → Hp → VK → Prop := fun xs H Q => ∃ x T tx b, xs = [x, .ty T] ∧ TyN K H x tx ∧ gI tx T b ∧ Q (.bl b) H
def dj2 (K : PySem.W.Frag) : List V → Hp → VK → Prop := fun xs H Q => ∃ (p : Addr) (bs : List Bool), xs = [.ref p] ∧ SqL K H p (bs.map V.bl) ∧ Q (.bl (bs.all id)) H
def du3 : List V → Hp → VK → Prop := fun xs H Q => ∃ i j, xs = [.int i, .int j] ∧ Q (.int (if j > i then j else i)) H
def dt4 : List V → Hp → VK → Prop := fun xs H Q => ∃ i j, xs = [.int i, .int j] ∧ Q (.int (if j < i then j else i)) H
def du5 (K : PySem.W.Frag) : List V → Hp → VK → Prop := fun xs H Q => ∃ (p : Addr) (ns : List Int), xs = [.ref p] ∧ SqL K H p (ns.map V.int) ∧ ns ≠ [] ∧ ∀ M, M ∈ ns → (∀ a ∈ ns, a ≤ M) → Q (.int M) H
def dh3 (K : PySem.W.Frag) : List V → Hp → VK → Prop := fun xs H Q => ∃ (p : Addr) (ns : List Int), xs = [.ref p] ∧ SqL K H p (ns.map V.int) ∧ ns ≠ [] ∧ ∀ M, M ∈ ns → (∀ a ∈ ns, M ≤ a) → Q (.int M) H
def cg2 (K : PySem.W.Frag) : List V → Hp → VK → Prop := fun xs H Q => du3 xs H Q ∨ du5 K xs H Q
def cc2 (K : PySem.W.Frag) : List V → Hp → VK → Prop := fun xs H Q => dt4 xs H Q ∨ dh3 K xs H Q
theorem bt7 (hc : X.calm = true := by rfl) : CallR X (.builtin "max") (cg2 X.K) := (be7 hc).or (bw6 hc)
theorem bo8 (hc : X.calm = true := by rfl) : CallR X (.builtin "min") (cc2 X.K) := (bq7 hc).or (bh9 hc)
theorem bg5 (hm : X.mg x = none) (hv : bootBuiltins x = some (.type ty)) (hg : Gl X x := by rfl) (hn : x ≠ "__name__" := by decide) (hd : (x == ("__debug__" : Str)) = false := by decide) : PE X (.Name x pos) (tC (.ty ty)) :=
 ca6 (v := .ty ty) hg hm hv rfl hn hd
def wD (mg : Str → Option Value) (x : Str) (v : V) : Prop := ∃ u, mg x = some u ∧ RelV v u
theorem iQ (h : wD X.mg x v) (hg : Gl X x := by rfl) (hd : (x == ("__debug__" : Str)) = false := by decide) : PE X (.Name x pos) (tC v) := by
 obtain ⟨u, hm, r⟩ := h
 exact ci5 hg hm r hd
end
theorem dO : bootBuiltins "len" = some (.builtin "len") := PySem.boot_len
theorem aj9 : bootBuiltins "abs" = some (.builtin "abs") := by decide +kernel
theorem by8 : bootBuiltins "divmod" = some (.builtin "divmod") := by decide +kernel
theorem rP : bootBuiltins "isinstance" = some (.builtin "isinstance") := by decide +kernel
theorem oQ : bootBuiltins "all" = some (.builtin "all") := by decide +kernel
theorem yA : bootBuiltins "max" = some (.builtin "max") := by decide +kernel
theorem tL : bootBuiltins "min" = some (.builtin "min") := by decide +kernel
theorem dw0 : bootBuiltins "int" = some (.type "int") := by decide +kernel
theorem bf3 : bootBuiltins "bool" = some (.type "bool") := by decide +kernel
theorem db0 : bootBuiltins "str" = some (.type "str") := by decide +kernel
theorem iX : bootBuiltins "list" = some (.type "list") := by decide +kernel
section
variable {t u : TS} {D : aa1} {σ : St} {H : Hp} {te ta tb tc : TE} {g : TG} {i : Nat} {v : V} {Q : VK} {c : TT} {K : PySem.W.Frag} {r r' : R2}
end
end L2
namespace L2
open PySem PySem.Spec PyProof.Rows
structure cI (K : PySem.W.Frag) (mg : Str → Option Value) (x : Str) (st : Stmt) : Prop where
 ex : ∃ f fd, Fun K x x st f fd ∧ mg x = some (.ref f)
theorem cm8 {K : PySem.W.Frag} {h : Heap} {mg : Str → Option Value} (X : K.In h) (G : h.Ns mainGlobals mg) {x : Str} {st : Stmt} {f : Addr} {oc : Value} {od an : Option Addr} {osl : Array (Option Value)} {kV doc pm cdv ct : Value}
 (a : PySem.W.nsIn K mainGlobals x = some (some (.ref f))) (l : K.lookup f = some ⟨oc, od, .func (PySem.W.fnOf x x (iW st) (dU st) (aO st) .none kV doc pm an cdv ct), osl⟩)
 (c : PySem.W.codeIn K cdv x = true) (k : PySem.W.keepIn K (.ref f) = true) : cI K mg x st := ⟨f, _, ad3 l c k, PySem.W.mg_of X G a⟩
theorem cj9 {K : PySem.W.Frag} {h : Heap} {mg : Str → Option Value} (X : K.In h) (G : h.Ns mainGlobals mg) {x : Str} {v : V} {u : Value} (a : PySem.W.nsIn K mainGlobals x = some (some u)) (r : RelV v u) : wD mg x v := ⟨u, PySem.W.mg_of X G a, r⟩
section
variable {P : Program} {w : World} {K : PySem.W.Frag} {mg : Str → Option Value} {base : Heap}
end
theorem bn4 (h : Builtin.Int.intBits a + Builtin.Int.intBits b ≤ 134217728) : IntMulOk a b := by
 have e : (2 : Nat) ^ 27 = 134217728 := by decide
 have h : Builtin.Int.intTooBig (Builtin.Int.intBits a + Builtin.Int.intBits b) = false := by
  unfold Builtin.Int.intTooBig bitsLine
  exact decide_eq_false (by omega)
 unfold IntMulOk
 rw [h]
 simp
theorem cu7 (h1 : -(2 ^ 64) < b) (h2 : b < 2 ^ 64) : IntMulOk a b := IntMulOk.of_right (intBits_le_64 h1 h2)
theorem cz7 (h1 : -(2 ^ 64) < a) (h2 : a < 2 ^ 64) : IntMulOk a b := IntMulOk.of_left (intBits_le_64 h1 h2)
end L2
namespace L2
open PySem PySem.Spec PyProof.Rows
def SI (k : Bool) (h : Heap) (it l : Addr) (i : Nat) : Prop := ∃ o, h.get? it = some o ∧ o.cls = .type (cond k "tuple_iterator" "list_iterator") ∧ o.data = .fields #[.ref l, .int i 0]
def SQ (k : Bool) (h : Heap) (l : Addr) (us : Array Value) : Prop := ∃ o, h.get? l = some o ∧ o.cls = .type (cond k "tuple" "list") ∧ ∃ n, o.data = .seq us n
theorem SI.at (x : SI k h it l i) (e : ∀ o, h.get? it = some o → h'.get? it = some o) : SI k h' it l i := by
 obtain ⟨o, ho, r⟩ := x
 exact ⟨o, e o ho, r⟩
theorem SQ.at (x : SQ k h l us) (e : ∀ o, h.get? l = some o → h'.get? l = some o) : SQ k h' l us := by
 obtain ⟨o, ho, r⟩ := x
 exact ⟨o, e o ho, r⟩
section
variable {prog : Program} {w : World} {A : Around} {E : Value → Shared → Prop} {s : Shared}
theorem zM (hit : SI k s.heap it l i) (hl : SQ k s.heap l us) (hx : us[i]? = some x)
 (hQ : ∀ h', SI k h' it l (i + 1) → Heap.SameBut it s.heap h' → Q x { s with heap := h' }) : wpAny (model prog w) A (Builtin.SmallTypes.nextOf (.ref it)) Q E s := by
 cases k with
 | false => exact wpAny_nextOf_list_item hit hl hx hQ
 | true =>
  obtain ⟨o, ho, hc, hd⟩ := hit
  obtain ⟨ol, hol, _, nl, hdl⟩ := hl
  have hT : s.TypeIs (.ref it) "tuple_iterator" := ⟨o, ho, hc⟩
  unfold Builtin.SmallTypes.nextOf
  refine wpAny_bind (wpAny_callSpecial?_slot (name := Str.ofString "__next__") hT F.slot_tuple_iterator_next (wpAny_call_entry F.slot_tuple_iterator_next hT F.entry_tuple_iterator_next ?_ (F.args_tuple_iterator_next_1 _)))
  (show wpAny _ _ (field (.ref it) 0 >>= _) _ _ s); refine wpAny_bind (wpAny_field ho hd (x := .ref l) rfl ?_)
  (show wpAny _ _ (if (Value.ref l == Value.none) = true then _ else _) _ _ s); rw [if_neg (show ¬ ((Value.ref l == Value.none) = true) from Bool.false_ne_true)]
  (show wpAny _ _ (field (.ref it) 1 >>= _) _ _ s); refine wpAny_bind (wpAny_field ho hd (x := .int i 0) rfl ?_)
  (show wpAny _ _ (seqItems? (.ref l) >>= _) _ _ s); refine wpAny_bind (wpAny_seqItems hol hdl ?_)
  simp only [Int.toNat_natCast, hx]; refine wpAny_bind (wpAny_setField ho hd (by simp) (wpAny_pure ⟨x, rfl, wpAny_pure (hQ _ ?_ (Heap.SameBut.update ..))⟩))
  refine ⟨_, Heap.get?_update_self _ ho (Obj.isFreed_of_fields (Obj.data_mapFields hd _)), (Obj.cls_mapFields ..).trans hc, ?_⟩
  rw [Obj.data_mapFields hd]; simp [rawInt]
theorem al9 (hh : A.handled = none) (hit : SI k s.heap it l i) (hl : SQ k s.heap l us) (hx : us[i]? = none)
 (hE : ∀ h' e, Heap.ExtBut it s.heap h' → (∃ o, h'.get? e = some o ∧ o.cls = .type "StopIteration") → E (.ref e) { s with heap := h' }) : wpAny (model prog w) A (Builtin.SmallTypes.nextOf (.ref it)) Q E s := by
 cases k with
 | false => exact wpAny_nextOf_list_end hh hit hl hx hE
 | true =>
  obtain ⟨o, ho, hc, hd⟩ := hit
  obtain ⟨ol, hol, _, nl, hdl⟩ := hl
  have hT : s.TypeIs (.ref it) "tuple_iterator" := ⟨o, ho, hc⟩
  unfold Builtin.SmallTypes.nextOf
  refine wpAny_bind (wpAny_callSpecial?_slot (name := Str.ofString "__next__") hT F.slot_tuple_iterator_next (wpAny_call_entry F.slot_tuple_iterator_next hT F.entry_tuple_iterator_next ?_ (F.args_tuple_iterator_next_1 _)))
  (show wpAny _ _ (field (.ref it) 0 >>= _) _ _ s); refine wpAny_bind (wpAny_field ho hd (x := .ref l) rfl ?_)
  (show wpAny _ _ (if (Value.ref l == Value.none) = true then _ else _) _ _ s); rw [if_neg (show ¬ ((Value.ref l == Value.none) = true) from Bool.false_ne_true)]
  (show wpAny _ _ (field (.ref it) 1 >>= _) _ _ s); refine wpAny_bind (wpAny_field ho hd (x := .int i 0) rfl ?_)
  (show wpAny _ _ (seqItems? (.ref l) >>= _) _ _ s); refine wpAny_bind (wpAny_seqItems hol hdl ?_)
  simp only [Int.toNat_natCast, hx]; refine wpAny_bind (wpAny_rule (wpAny_bind (wpAny_setField ho hd (by simp) ?_)))
  (show wpAny _ _ (newExc (.type "StopIteration") [] >>= _) _ _ _); refine wpAny_bind ?_; simp only [newExc, newTuple]
  refine wpAny_bind (wpAny_newObj_type ?_ (by size_fits)); refine wpAny_bind (m := firstArgMember _ _) (wpAny_of_eq (a := Value.none) (by first | rfl | (simp only [firstArgMember]; rfl)) ?_)
  refine wpAny_newObj_type ?_ (by size_fits); simp only [raiseNew]; refine wpAny_bind (wpAny_handled ?_)
  first | rw [show A.in1.handled = none from hh] | rw [hh]
  refine wpAny_bind (wpAny_pure (wpAny_throw ?_)); exact hE _ _ (((Heap.SameBut.update ..).extBut.push _).push _) ⟨_, Heap.get?_push_size _ rfl, rfl⟩
theorem aw9 (hl : SQ k s.heap l us)
 (hQ : Q (.ref s.heap.objs.size) { s with heap := s.heap.push { cls := .type (cond k "tuple_iterator" "list_iterator"), data := .fields #[.ref l, .int 0 0] } }) : wpAny (model prog w) A (pyIter (.ref l)) Q E s := by
 cases k with
 | false => exact wpAny_pyIter_list hl hQ
 | true => exact wpAny_pyIter_tuple hl hQ
theorem cd3 {k1 k2 : Bool} {z TI TO i1 i2 l1 l2 : Addr} {i : Nat} {us vs : Array Value} {x y a b : Value} {Q : Option Value → Shared → Prop} (D : ZipApart z TI TO i1 i2 l1 l2)
 (hz : IsZip s.heap z TI TO .none) (hTI : IsPair s.heap TI (.ref i1) (.ref i2)) (hTO : IsPair s.heap TO a b) (n1 : SI k1 s.heap i1 l1 i) (n2 : SI k2 s.heap i2 l2 i) (q1 : SQ k1 s.heap l1 us) (q2 : SQ k2 s.heap l2 vs) (hx : us[i]? = some x) (hy : vs[i]? = some y)
 (hQ : ∀ h', IsZip h' z TI TO (rawInt s.heap.objs.size) → IsPair h' TO x y → SI k1 h' i1 l1 (i + 1) → SI k2 h' i2 l2 (i + 1) → IsPair h' s.heap.objs.size x y →
  (∀ c o, c ≠ z → c ≠ TO → c ≠ i1 → c ≠ i2 → s.heap.get? c = some o → h'.get? c = some o) → Q (some (.ref s.heap.objs.size)) { s with heap := h' }) :
 wpAny (model prog w) A (pyNext (.ref z)) Q E s := by
 have hT : s.TypeIs (.ref z) "zip" := ⟨_, hz, rfl⟩
 unfold pyNext
 refine wpAny_bind (wpAny_attempt (wpAny_callSpecial?_slot (name := Str.ofString "__next__") hT F.slot_zip_next (wpAny_call_entry F.slot_zip_next hT F.entry_zip_next ?_ (F.args_zip_next_1 _))))
 (show wpAny _ _ (field (.ref z) 2 >>= _) _ _ _); refine wpAny_bind (wpAny_field hz rfl (x := .bool false) rfl ?_)
 (show wpAny _ _ (field (.ref z) 3 >>= _) _ _ _); refine wpAny_bind (wpAny_field hz rfl (x := .ref TI) rfl ?_)
 refine wpAny_bind (wpAny_seqItems hTI rfl ?_); (show wpAny _ _ (Builtin.SmallTypes.ownedTupleIsFree (.ref z) >>= _) _ _ _)
 refine wpAny_bind ?_; unfold Builtin.SmallTypes.ownedTupleIsFree
 refine wpAny_bind (wpAny_field hz rfl (x := .none) rfl (wpAny_pure ?_)); simp only [if_true]
 refine wpAny_bind (wpAny_rule ?_); refine wpAny_bind (wpAny_field hz rfl (x := .ref TO) rfl ?_)
 refine wpAny_bind (wpAny_setField_rec hz (by simp) fun h₁ hz₁ g1 => ?_)
 replace hz₁ : IsZip h₁ z TI TO .ellipsis := hz₁
 refine wpAny_bind ?_; simp only [List.zipIdx_cons, List.zipIdx_nil, List.forIn_cons, List.forIn_nil]
 refine wpAny_bind (wpAny_bind (wpAny_onRaise ?_)); (show wpAny _ _ (Builtin.SmallTypes.nextOf (.ref i1) >>= _) _ _ _)
 refine wpAny_bind (zM (n1.at fun o e => g1.extBut _ _ D.i1z e) (q1.at fun o e => g1.extBut _ _ D.l1z e) hx fun h₂ n1' g2 => wpAny_pure ?_)
 have t2 : IsPair h₂ TO a b := g2.extBut _ _ D.TOi1 (g1.extBut _ _ D.TOz hTO)
 refine wpAny_bind (wpAny_seqItems t2 rfl ?_); refine wpAny_bind (wpAny_updateSeq_pair t2 fun h₃ t3 g3 => ?_)
 replace t3 : IsPair h₃ TO x b := t3
 refine wpAny_bind (wpAny_letGo (wpAny_pure ?_)); refine wpAny_bind (wpAny_bind (wpAny_onRaise ?_)); (show wpAny _ _ (Builtin.SmallTypes.nextOf (.ref i2) >>= _) _ _ _)
 refine wpAny_bind (zM (n2.at fun o e => g3.extBut _ _ D.TOi2.symm (g2.extBut _ _ D.i12.symm (g1.extBut _ _ D.i2z e))) (q2.at fun o e => g3.extBut _ _ D.l2TO (g2.extBut _ _ D.l2i1 (g1.extBut _ _ D.l2z e))) hy fun h₄ n2' g4 => wpAny_pure ?_)
 have t4 : IsPair h₄ TO x b := g4.extBut _ _ D.TOi2 t3
 refine wpAny_bind (wpAny_seqItems t4 rfl ?_); refine wpAny_bind (wpAny_updateSeq_pair t4 fun h₅ t5 g5 => ?_)
 replace t5 : IsPair h₅ TO x y := t5
 refine wpAny_bind (wpAny_letGo (wpAny_pure (wpAny_pure ?_))); refine wpAny_bind (wpAny_seqItems t5 rfl ?_); refine wpAny_bind (wpAny_newTuple ?_)
 have hsz : h₅.objs.size = s.heap.objs.size := by rw [g5.1, g4.1, g3.1, g2.1, g1.1]
 have z5 : IsZip h₅ z TI TO .ellipsis := g5.extBut _ _ D.TOz.symm (g4.extBut _ _ D.i2z.symm (g3.extBut _ _ D.TOz.symm (g2.extBut _ _ D.i1z.symm hz₁)))
 have m1 : SI k1 h₅ i1 l1 (i + 1) := n1'.at fun o e => g5.extBut _ _ D.TOi1.symm (g4.extBut _ _ D.i12 (g3.extBut _ _ D.TOi1.symm e))
 have m2 : SI k2 h₅ i2 l2 (i + 1) := n2'.at fun o e => g5.extBut _ _ D.TOi2.symm e
 have zlt : z < h₅.objs.size := Heap.lt_size z5
 (show wpAny _ _ (Builtin.SmallTypes.ownedTupleHandOut (.ref z) (.ref h₅.objs.size) >>= _) _ _ _); refine wpAny_bind ?_; unfold Builtin.SmallTypes.ownedTupleHandOut
 have z6 : IsZip (h₅.push { cls := .type "tuple", data := .seq #[x, y] }) z TI TO .ellipsis := Heap.get?_push_of_some _ z5
 refine wpAny_bind (wpAny_setField_rec z6 (by simp) fun h₇ z7 g7 => ?_)
 replace z7 : IsZip h₇ z TI TO (rawInt h₅.objs.size) := z7
 refine wpAny_setField_rec z7 (by simp) fun h₈ z8 g8 => ?_
 replace z8 : IsZip h₈ z TI TO (rawInt h₅.objs.size) := z8
 have up : ∀ c o, c ≠ z → h₅.get? c = some o → h₈.get? c = some o := fun c o c1 e => g8.extBut _ _ c1 (g7.extBut _ _ c1 (Heap.get?_push_of_some _ e))
 have t8 : IsPair h₈ h₅.objs.size x y := g8.extBut _ _ (Nat.ne_of_gt zlt) (g7.extBut _ _ (Nat.ne_of_gt zlt) (Heap.get?_push_size _ rfl))
 rw [hsz] at z8 t8
 refine wpAny_pure ⟨_, rfl, ?_⟩
 (show wpAny _ _ _ _ _ _); refine wpAny_pure ?_
 show Q (some (.ref h₅.objs.size)) _
 rw [hsz]
 refine hQ h₈ z8 (up _ _ D.TOz t5) (m1.at fun o e => up _ o D.i1z e) (m2.at fun o e => up _ o D.i2z e) t8 fun c o c1 c2 c3 c4 e => up c o c1 ?_
 exact g5.extBut _ _ c2 (g4.extBut _ _ c4 (g3.extBut _ _ c2 (g2.extBut _ _ c3 (g1.extBut _ _ c1 e))))
theorem cr1 {k1 k2 : Bool} {z TI TO i1 i2 l1 l2 : Addr} {i : Nat} {us vs : Array Value} {a b : Value} {Q : Option Value → Shared → Prop} (hh : A.handled = none) (D : ZipApart z TI TO i1 i2 l1 l2)
 (hz : IsZip s.heap z TI TO .none) (hTI : IsPair s.heap TI (.ref i1) (.ref i2)) (hTO : IsPair s.heap TO a b) (n1 : SI k1 s.heap i1 l1 i) (n2 : SI k2 s.heap i2 l2 i) (q1 : SQ k1 s.heap l1 us) (q2 : SQ k2 s.heap l2 vs) (hend : us[i]? = none ∨ vs[i]? = none)
 (hQ : ∀ h', (∀ c o, c ≠ z → c ≠ TO → c ≠ i1 → c ≠ i2 → s.heap.get? c = some o → h'.get? c = some o) → Q none { s with heap := h' }) :
 wpAny (model prog w) A (pyNext (.ref z)) Q E s := by
 have hT : s.TypeIs (.ref z) "zip" := ⟨_, hz, rfl⟩
 unfold pyNext
 have cE : ∀ h' e, (∀ c o, c ≠ z → c ≠ TO → c ≠ i1 → c ≠ i2 → s.heap.get? c = some o → h'.get? c = some o) → (∃ o, h'.get? e = some o ∧ o.cls = .type "StopIteration") →
  wpAny (model prog w) A (do if (← isInstance (.ref e) (.type "StopIteration")) = true then pure none else throw (.ref e)) Q E { s with heap := h' } := fun h' e hk ⟨o, ho, hc⟩ =>
  wpAny_bind (wpAny_isInstance (T := "StopIteration") (b := true) ⟨o, ho, hc⟩ isSubtype_stop (wpAny_pure (hQ _ hk)))
 refine wpAny_bind (wpAny_attempt (wpAny_callSpecial?_slot (name := Str.ofString "__next__") hT F.slot_zip_next (wpAny_call_entry F.slot_zip_next hT F.entry_zip_next ?_ (F.args_zip_next_1 _))))
 (show wpAny _ _ (field (.ref z) 2 >>= _) _ _ _); refine wpAny_bind (wpAny_field hz rfl (x := .bool false) rfl ?_)
 (show wpAny _ _ (field (.ref z) 3 >>= _) _ _ _); refine wpAny_bind (wpAny_field hz rfl (x := .ref TI) rfl ?_)
 refine wpAny_bind (wpAny_seqItems hTI rfl ?_); (show wpAny _ _ (Builtin.SmallTypes.ownedTupleIsFree (.ref z) >>= _) _ _ _)
 refine wpAny_bind ?_; unfold Builtin.SmallTypes.ownedTupleIsFree
 refine wpAny_bind (wpAny_field hz rfl (x := .none) rfl (wpAny_pure ?_)); simp only [if_true]
 refine wpAny_bind (wpAny_rule ?_); refine wpAny_bind (wpAny_field hz rfl (x := .ref TO) rfl ?_)
 refine wpAny_bind (wpAny_setField_rec hz (by simp) fun h₁ hz₁ g1 => ?_)
 replace hz₁ : IsZip h₁ z TI TO .ellipsis := hz₁
 refine wpAny_bind ?_; simp only [List.zipIdx_cons, List.zipIdx_nil, List.forIn_cons, List.forIn_nil]
 refine wpAny_bind (wpAny_bind (wpAny_onRaise ?_)); (show wpAny _ _ (Builtin.SmallTypes.nextOf (.ref i1) >>= _) _ _ _)
 have p1 : SI k1 h₁ i1 l1 i := n1.at fun o e => g1.extBut _ _ D.i1z e
 have p2 : SQ k1 h₁ l1 us := q1.at fun o e => g1.extBut _ _ D.l1z e
 cases hx : us[i]? with
 | none =>
  refine wpAny_bind (al9 hh p1 p2 hx fun h₂ e g2 he => ?_)
  obtain ⟨oe, hoe, hce⟩ := he
  have z2 : IsZip h₂ z TI TO .ellipsis := g2 _ _ D.i1z.symm hz₁
  have hez : e ≠ z := fun q => by subst q; rw [z2] at hoe; cases hoe; simp at hce
  refine wpAny_setField_rec z2 (by simp) fun h₃ _ g3 => ?_
  exact cE h₃ e (fun c o c1 _ c3 _ q => g3.extBut _ _ c1 (g2 _ _ c3 (g1.extBut _ _ c1 q))) ⟨oe, g3.extBut _ _ hez hoe, hce⟩
 | some x =>
  have hy : vs[i]? = none := by
   rcases hend with h | h
   · rw [hx] at h; cases h
   · exact h
  refine wpAny_bind (zM p1 p2 hx fun h₂ n1' g2 => wpAny_pure ?_)
  have t2 : IsPair h₂ TO a b := g2.extBut _ _ D.TOi1 (g1.extBut _ _ D.TOz hTO)
  refine wpAny_bind (wpAny_seqItems t2 rfl ?_); refine wpAny_bind (wpAny_updateSeq_pair t2 fun h₃ t3 g3 => ?_)
  refine wpAny_bind (wpAny_letGo (wpAny_pure ?_)); refine wpAny_bind (wpAny_bind (wpAny_onRaise ?_)); (show wpAny _ _ (Builtin.SmallTypes.nextOf (.ref i2) >>= _) _ _ _)
  refine wpAny_bind (al9 hh (n2.at fun o e => g3.extBut _ _ D.TOi2.symm (g2.extBut _ _ D.i12.symm (g1.extBut _ _ D.i2z e))) (q2.at fun o e => g3.extBut _ _ D.l2TO (g2.extBut _ _ D.l2i1 (g1.extBut _ _ D.l2z e))) hy fun h₄ e g4 he => ?_)
  obtain ⟨oe, hoe, hce⟩ := he
  have z4 : IsZip h₄ z TI TO .ellipsis := g4 _ _ D.i2z.symm (g3.extBut _ _ D.TOz.symm (g2.extBut _ _ D.i1z.symm hz₁))
  have hez : e ≠ z := fun q => by subst q; rw [z4] at hoe; cases hoe; simp at hce
  refine wpAny_setField_rec z4 (by simp) fun h₅ _ g5 => ?_
  exact cE h₅ e (fun c o c1 c2 c3 c4 q => g5.extBut _ _ c1 (g4 _ _ c4 (g3.extBut _ _ c2 (g2.extBut _ _ c3 (g1.extBut _ _ c1 q))))) ⟨oe, g5.extBut _ _ hez hoe, hce⟩
end
abbrev itO (k : Bool) (l : Addr) : Obj := { cls := .type (cond k "tuple_iterator" "list_iterator"), data := .fields #[.ref l, .int 0 0] }
abbrev zA (k1 : Bool) (h : Heap) (l1 : Addr) : Heap := h.push (itO k1 l1)
abbrev zB (k1 k2 : Bool) (h : Heap) (l1 l2 : Addr) : Heap := (zA k1 h l1).push (itO k2 l2)
abbrev zC (k1 k2 : Bool) (h : Heap) (l1 l2 : Addr) : Heap := (zB k1 k2 h l1 l2).push { cls := .type "tuple", data := .seq #[.ref h.objs.size, .ref (zA k1 h l1).objs.size] }
abbrev zD (k1 k2 : Bool) (h : Heap) (l1 l2 : Addr) : Heap := (zC k1 k2 h l1 l2).push { cls := .type "tuple", data := .seq #[.none, .none] }
abbrev zE (k1 k2 : Bool) (h : Heap) (l1 l2 : Addr) : Heap := (zD k1 k2 h l1 l2).push { cls := .type "zip", data := .fields #[.none, .bool false, .bool false, .ref (zB k1 k2 h l1 l2).objs.size, .ref (zC k1 k2 h l1 l2).objs.size] }
theorem ci7 (k1 k2 : Bool) (l1 l2 : Addr) (us vs : Array Value) :
 Meets (Builtin.«zip.__new__» ⟨[.type "zip", .ref l1, .ref l2], []⟩) (fun _ R s => SQ k1 s.heap l1 us ∧ SQ k2 s.heap l2 vs ∧ R (.ok (.ret (.ref (zD k1 k2 s.heap l1 l2).objs.size))) { s with heap := zE k1 k2 s.heap l1 l2 }) :=
 .of_wp fun prog w A R s h => by
  obtain ⟨hp, g, d, tk, os⟩ := s
  obtain ⟨hl1, hl2, h⟩ := h
  have hsub := sub_zip
  have a1 : SQ k1 (Shared.heap ⟨hp, g, d, tk, os⟩) l1 us := hl1
  have a2 : SQ k2 (Shared.heap ⟨hp.push (itO k1 l1), g, d, tk, os⟩) l2 vs := SQ.at hl2 fun o e => Heap.get?_push_of_some _ e
  wp_walk using aw9 a1, aw9 a2
  exact ⟨_, rfl, h⟩
section
variable {prog : Program} {w : World} {A : Around} {E : Value → Shared → Prop} {s : Shared}
theorem ca1 (hl1 : SQ k1 s.heap l1 us) (hl2 : SQ k2 s.heap l2 vs)
 (h : ∀ h', IsZip h' (s.heap.objs.size + 4) (s.heap.objs.size + 2) (s.heap.objs.size + 3) .none → IsPair h' (s.heap.objs.size + 2) (.ref s.heap.objs.size) (.ref (s.heap.objs.size + 1)) → IsPair h' (s.heap.objs.size + 3) .none .none →
  SI k1 h' s.heap.objs.size l1 0 → SI k2 h' (s.heap.objs.size + 1) l2 0 → (∀ c o, s.heap.get? c = some o → h'.get? c = some o) → Q (.ref (s.heap.objs.size + 4)) { s with heap := h' }) :
 wpAny (model prog w) A (call (.type "zip") [.ref l1, .ref l2]) Q E s := by
 refine callType_new F.called_zip (by decide) (F.typeCall_zip_2 _ _) (F.newCall_zip_2 _ _) (fun obj => F.args_object_init_3 obj _ _) F.entry_zip_new (ci7 k1 k2 l1 l2 us vs) ⟨hl1, hl2, ?_⟩
 have z1 : (zA k1 s.heap l1).objs.size = s.heap.objs.size + 1 := Heap.size_push ..
 have z2 : (zB k1 k2 s.heap l1 l2).objs.size = s.heap.objs.size + 2 := (Heap.size_push ..).trans (by rw [z1])
 have z3 : (zC k1 k2 s.heap l1 l2).objs.size = s.heap.objs.size + 3 := (Heap.size_push ..).trans (by rw [z2])
 have z4 : (zD k1 k2 s.heap l1 l2).objs.size = s.heap.objs.size + 4 := (Heap.size_push ..).trans (by rw [z3])
 have u1 : ∀ c o, (zA k1 s.heap l1).get? c = some o → (zE k1 k2 s.heap l1 l2).get? c = some o := fun c o e => Heap.get?_push_of_some _ (Heap.get?_push_of_some _ (Heap.get?_push_of_some _ (Heap.get?_push_of_some _ e)))
 have u2 : ∀ c o, (zB k1 k2 s.heap l1 l2).get? c = some o → (zE k1 k2 s.heap l1 l2).get? c = some o := fun c o e => Heap.get?_push_of_some _ (Heap.get?_push_of_some _ (Heap.get?_push_of_some _ e))
 have g5 : (zE k1 k2 s.heap l1 l2).get? (zD k1 k2 s.heap l1 l2).objs.size = some _ := Heap.get?_push_size _ rfl
 have g4 : (zE k1 k2 s.heap l1 l2).get? (zC k1 k2 s.heap l1 l2).objs.size = some _ := Heap.get?_push_of_some _ (Heap.get?_push_size _ rfl)
 have g3 : (zE k1 k2 s.heap l1 l2).get? (zB k1 k2 s.heap l1 l2).objs.size = some _ := Heap.get?_push_of_some _ (Heap.get?_push_of_some _ (Heap.get?_push_size _ rfl))
 have g2 : (zE k1 k2 s.heap l1 l2).get? (zA k1 s.heap l1).objs.size = some _ := u2 _ _ (Heap.get?_push_size _ rfl)
 have g1 : (zE k1 k2 s.heap l1 l2).get? s.heap.objs.size = some _ := u1 _ _ (Heap.get?_push_size _ rfl)
 show _ ∧ _
 rw [z2, z3, z4] at g5
 rw [z1, z2] at g3
 rw [z3] at g4
 rw [z1] at g2
 rw [z4]
 exact ⟨⟨_, g5, rfl⟩, h _ g5 g3 g4 ⟨_, g1, rfl, rfl⟩ ⟨_, g2, rfl, rfl⟩ fun c o x => u1 c o (Heap.get?_push_of_some _ x)⟩
end
end L2
namespace L2
open PySem PySem.Spec PyProof.Rows
def xX (k : Bool) (K : PySem.W.Frag) (H : Hp) (l : Addr) (xs : List V) : Prop := cond k (SqT K H l xs) (SqL K H l xs)
section
variable {X : Cx} {pins : List (Addr × Obj)} {σ : St} {H : Hp} {s : Shared} {l : Addr} {xs ys : List V}
theorem Inv.row (I : Inv X pins σ H s) (h : xX k X.K H l xs) : ∃ its : List Value, Vals xs its ∧ SQ k s.heap l its.toArray ∧ xs.length ≤ sizeLine := by
 cases k with
 | false => obtain ⟨its, r, p, z⟩ := I.list h; exact ⟨its, r, p.isList, z⟩
 | true => obtain ⟨its, r, p, z⟩ := I.tuple h; exact ⟨its, r, p, z⟩
theorem Inv.row_inj (I : Inv X pins σ H s) (h : xX k X.K H l xs) (h' : xX k X.K H l ys) : xs = ys := by
 cases k with
 | false => exact I.list_inj h h'
 | true => exact I.tuple_inj h h'
theorem Inv.turnedL {t' : Nat} {fp : List Addr} {h' : Heap} (I : Inv X pins σ H s) (k : ∀ b o, b ∉ fp → s.heap.get? b = some o → h'.get? b = some o) (hf : ∀ b ∈ fp, pW X pins H b) : Inv X pins σ H { s with heap := h', toks := t' } := by
 have nit : ∀ b u, H b = some u → b ∉ fp := fun b u e z => by rw [(hf b z).1] at e; cases e
 refine I.step (g' := s.gens) (d' := s.drawn) (ch := fp) (fun b hb => ?_) (fun b o _ _ hc e _ => k b o hc e) (fun b o _ _ hc e _ => ⟨o.slots, k b o hc e⟩) (fun _ _ _ _ n => n)
  (fun b o hc e => ⟨o, k b o hc e⟩) (fun _ _ e => e) (fun _ _ _ e => e) (fun b ps e => ⟨#[], by rw [e]; simp⟩) (fun m hm => ?_) (fun b u e => ?_) I.bare
 · obtain ⟨_, f1, _, f3, f4, f5⟩ := hf b hb
   exact ⟨f3, f1, f4, f5⟩
 · obtain ⟨o, es, ep, ho, r⟩ := hm
   exact ⟨o, es, ep, k _ o (fun z => (hf _ z).2.1 rfl) ho, r⟩
 · refine (I.hok b u e).stay (fun c v hc q => k c v ?_ q) (fun _ q => q) fun _ _ q => q
   rcases hc with z | z
   · rw [z]; exact nit b u e
   · exact nit c _ z
theorem Inv.paired {h' : Heap} {t' : Nat} {fp : List Addr} {x y : V} {u v : Value} (I : Inv X pins σ H s) (rx : RelV x u) (ry : RelV y v) (hf : ∀ b ∈ fp, pW X pins H b) (hl : ∀ b ∈ fp, b < s.heap.objs.size)
 (hp : h'.get? s.heap.objs.size = some { cls := .type "tuple", data := .seq #[u, v] }) (k : ∀ b o, b ∉ fp → s.heap.get? b = some o → h'.get? b = some o) :
 Inv X pins σ (upd H s.heap.objs.size (.tup [x, y])) { s with heap := h', toks := t' } ∧ ∀ b ∈ fp, upd H s.heap.objs.size (.tup [x, y]) b = none := by
 have I0 : Inv X pins σ (upd H s.heap.objs.size (.tup [x, y])) { s with heap := s.heap.push { cls := .type "tuple", data := .seq #[u, v] }, toks := t' } :=
  I.laid (fun _ _ q => Heap.get?_push_of_some _ q) (Nat.le_refl _) ⟨(show (2 : Nat) ≤ sizeLine by decide), [u, v], .cons rx (.cons ry .nil), ⟨_, Heap.get?_push_size _ rfl, rfl, _, rfl⟩⟩
 have hn : ∀ b ∈ fp, upd H s.heap.objs.size (.tup [x, y]) b = none := fun b hb => by rw [cV (Nat.ne_of_lt (hl b hb))]; exact (hf b hb).1
 refine ⟨I0.turnedL (fp := fp) (h' := h') (t' := t') (fun b o hb e => ?_) fun b hb => ⟨hn b hb, (hf b hb).2⟩, hn⟩
 rcases Heap.get?_push_cases e with ⟨rfl, rfl⟩ | e
 · exact hp
 · exact k b o hb e
end
def Itz (K : PySem.W.Frag) (k1 k2 : Bool) (l1 l2 : Addr) : It :=
 ⟨fun i H => ∃ xs ys x y, xX k1 K H l1 xs ∧ xX k2 K H l2 ys ∧ xs[i]? = some x ∧ ys[i]? = some y,
  fun i H v H' => ∃ p, H p = none ∧ v = .ref p ∧ ∀ xs ys, xX k1 K H l1 xs → xX k2 K H l2 ys → ∃ x y, xs[i]? = some x ∧ ys[i]? = some y ∧ H' = upd H p (.tup [x, y]),
  fun i H => ∃ xs ys, xX k1 K H l1 xs ∧ xX k2 K H l2 ys ∧ (xs.length ≤ i ∨ ys.length ≤ i)⟩
def Ite (K : PySem.W.Frag) (l : Addr) : It :=
 ⟨fun i H => ∃ xs x, SqL K H l xs ∧ xs[i]? = some x, fun i H v H' => ∃ p, H p = none ∧ v = .ref p ∧ ∀ xs, SqL K H l xs → ∃ x, xs[i]? = some x ∧ H' = upd H p (.tup [.int i, x]), fun i H => ∃ xs, SqL K H l xs ∧ xs.length ≤ i⟩
theorem bs9 {P : Program} {w : World} {K : PySem.W.Frag} {es : List Expr} {n : Nat} {pos : Pos} {k1 k2 : Bool} {z TI TO i1 i2 l1 l2 : Addr} (D : ZipApart z TI TO i1 i2 l1 l2) :
 yE P w K (.Tuple es n pos) (Itz K k1 k2 l1 l2) [z, TI, TO, i1, i2] z (fun i h => IsZip h z TI TO .none ∧ IsPair h TI (.ref i1) (.ref i2) ∧ (∃ a b, IsPair h TO a b) ∧ SI k1 h i1 l1 i ∧ SI k2 h i2 l2 i) where
 mem := by simp
 obj := fun i h st b hb => by
  obtain ⟨hz, hTI, ⟨a, c, hTO⟩, n1, n2⟩ := st
  simp only [List.mem_cons, List.not_mem_nil, or_false] at hb
  rcases hb with rfl | rfl | rfl | rfl | rfl
  · exact ⟨_, hz, fun v e => nomatch e⟩
  · exact ⟨_, hTI, fun v e => nomatch e⟩
  · exact ⟨_, hTO, fun v e => nomatch e⟩
  · obtain ⟨o, e, _, d⟩ := n1; exact ⟨o, e, fun v q => by rw [d] at q; cases q⟩
  · obtain ⟨o, e, _, d⟩ := n2; exact ⟨o, e, fun v q => by rw [d] at q; cases q⟩
 keep := fun i h h' st k => by
  obtain ⟨hz, hTI, ⟨a, c, hTO⟩, n1, n2⟩ := st
  exact ⟨k z (by simp) _ hz, k TI (by simp) _ hTI, ⟨a, c, k TO (by simp) _ hTO⟩, n1.at fun o e => k i1 (by simp) o e, n2.at fun o e => k i2 (by simp) o e⟩
 item := by
  intro X hP hw hK hc i pins s σ H E I hf st hg
  subst hP hw hK
  obtain ⟨hz, hTI, ⟨a, b, hTO⟩, n1, n2⟩ := st
  obtain ⟨xs, ys, x, y, hq1, hq2, hx, hy⟩ := hg
  obtain ⟨its, r1, p1, _⟩ := I.row hq1
  obtain ⟨jts, r2, p2, _⟩ := I.row hq2
  obtain ⟨u, hu, ru⟩ := r1.get hx
  obtain ⟨v, hv, rv⟩ := r2.get hy
  refine cd3 D hz hTI hTO n1 n2 p1 p2 (x := u) (y := v) (by simpa using hu) (by simpa using hv) fun h' a1 a2 a3 a4 a5 kk => ⟨_, rfl, wpAny_letOwnedTupleGo_zip a1 fun h2 b1 gg => ?_⟩
  have lts : ∀ b ∈ [z, TI, TO, i1, i2], b < s.heap.objs.size := fun b hb => by
   simp only [List.mem_cons, List.not_mem_nil, or_false] at hb
   rcases hb with rfl | rfl | rfl | rfl | rfl
   · exact Heap.lt_size hz
   · exact Heap.lt_size hTI
   · exact Heap.lt_size hTO
   · obtain ⟨o, e, _⟩ := n1; exact Heap.lt_size e
   · obtain ⟨o, e, _⟩ := n2; exact Heap.lt_size e
  have zne : s.heap.objs.size ≠ z := Nat.ne_of_gt (lts z (by simp))
  obtain ⟨I1, hn⟩ := I.paired (t' := s.toks) ru rv hf lts (gg.extBut _ _ zne a5) (fun c o hc e => gg.extBut _ _ (fun q => hc (by simp [q])) (kk c o (fun q => hc (by simp [q])) (fun q => hc (by simp [q])) (fun q => hc (by simp [q])) (fun q => hc (by simp [q])) e))
  refine ⟨.ref s.heap.objs.size, _, I1, rfl, ⟨_, I.fresh, rfl, fun xs' ys' q1 q2 => ⟨x, y, by rw [I.row_inj q1 hq1]; exact hx, by rw [I.row_inj q2 hq2]; exact hy, rfl⟩⟩, ⟨b1, ?_, ⟨u, v, ?_⟩, ?_, ?_⟩, hn⟩
  · exact gg.extBut _ _ D.TIz (kk _ _ D.TIz D.TITO D.TIi1 D.TIi2 hTI)
  · exact gg.extBut _ _ D.TOz a2
  · exact a3.at fun o e => gg.extBut _ _ D.i1z e
  · exact a4.at fun o e => gg.extBut _ _ D.i2z e
 done := by
  intro X hP hw hK hc i pins s σ H E I hf st hg
  subst hP hw hK
  obtain ⟨hz, hTI, ⟨a, b, hTO⟩, n1, n2⟩ := st
  obtain ⟨xs, ys, hq1, hq2, hx⟩ := hg
  obtain ⟨its, r1, p1, _⟩ := I.row hq1
  obtain ⟨jts, r2, p2, _⟩ := I.row hq2
  have e1 := r1.length
  have e2 := r2.length
  exact cr1 (I.ok.hd hc) D hz hTI hTO n1 n2 p1 p2 (hx.imp (fun q => by simp; omega) (fun q => by simp; omega)) fun h' kk => ⟨rfl, I.turnedL (t' := s.toks) (fun c o hc e => kk c o (fun q => hc (by simp [q])) (fun q => hc (by simp [q])) (fun q => hc (by simp [q])) (fun q => hc (by simp [q])) e) hf⟩
 self := fun _ _ _ _ _ st h => wpAny_pyIter_zip st.1 h
theorem by6 {P : Program} {w : World} {K : PySem.W.Frag} {es : List Expr} {n : Nat} {pos : Pos} {e it l : Addr} (ne : e ≠ it) :
 yE P w K (.Tuple es n pos) (Ite K l) [e, it] e (fun i h => (∃ old, IsEnum h e it (i : Nat) old) ∧ h.IsListIter it l i) where
 mem := by simp
 obj := fun i h st b hb => by
  obtain ⟨⟨old, he⟩, n1⟩ := st
  simp only [List.mem_cons, List.not_mem_nil, or_false] at hb
  rcases hb with rfl | rfl
  · exact ⟨_, he, fun v q => nomatch q⟩
  · obtain ⟨o, e, _, d⟩ := n1; exact ⟨o, e, fun v q => by rw [d] at q; cases q⟩
 keep := fun i h h' st k => by
  obtain ⟨⟨old, he⟩, n1⟩ := st
  exact ⟨⟨old, k e (by simp) _ he⟩, n1.at fun o q => k it (by simp) o q⟩
 item := by
  intro X hP hw hK hc i pins s σ H E I hf st hg
  subst hP hw hK
  obtain ⟨⟨old, he⟩, n1⟩ := st
  obtain ⟨xs, x, hq, hx⟩ := hg
  obtain ⟨its, r1, p1, _⟩ := I.list hq
  obtain ⟨u, hu, ru⟩ := r1.get hx
  refine wpAny_pyNext_enum_item he n1 p1.isList (x := u) (by simpa using hu) ne fun h' a1 a2 a3 a4 kk => ⟨_, rfl, wpAny_letOwnedTupleGo_enum a1 fun h2 b1 gg => ?_⟩
  have lts : ∀ b ∈ [e, it], b < s.heap.objs.size := fun b hb => by
   simp only [List.mem_cons, List.not_mem_nil, or_false] at hb
   rcases hb with rfl | rfl
   · exact Heap.lt_size he
   · obtain ⟨o, e, _⟩ := n1; exact Heap.lt_size e
  have zne : s.heap.objs.size ≠ e := Nat.ne_of_gt (lts e (by simp))
  obtain ⟨I1, hn⟩ := I.paired (t' := s.toks + 1) (x := .int (i : Nat)) (u := .int (i : Nat) s.toks) ⟨_, rfl⟩ ru hf lts (gg.extBut _ _ zne a3) (fun c o hc q => gg.extBut _ _ (fun z => hc (by simp [z])) (kk c o (fun z => hc (by simp [z])) (fun z => hc (by simp [z])) q))
  exact ⟨.ref s.heap.objs.size, _, I1, rfl, ⟨_, I.fresh, rfl, fun xs' q1 => ⟨x, by rw [I.list_inj q1 hq]; exact hx, rfl⟩⟩, ⟨⟨u, b1⟩, a2.at fun o q => gg.extBut _ _ (Ne.symm ne) q⟩, hn⟩
 done := by
  intro X hP hw hK hc i pins s σ H E I hf st hg
  subst hP hw hK
  obtain ⟨⟨old, he⟩, n1⟩ := st
  obtain ⟨xs, hq, hx⟩ := hg
  obtain ⟨its, r1, p1, _⟩ := I.list hq
  have e1 := r1.length
  obtain ⟨f0, f1, f2, f3, f4, f5⟩ := hf it (by simp)
  exact wpAny_pyNext_enum_end (I.ok.hd hc) he n1 p1.isList (by simp; omega) fun h' eb => ⟨rfl, I.turned (t' := s.toks) (fun b o hb q => eb b o hb q) f0 f1 f3 f4 f5⟩
 self := fun _ _ _ _ _ st h => by
  obtain ⟨⟨old, he⟩, _⟩ := st
  exact wpAny_pyIter_enum he h
theorem cg0 : bootBuiltins "zip" = some (.type "zip") := by decide +kernel
theorem be9 : bootBuiltins "enumerate" = some (.type "enumerate") := by decide +kernel
section
variable {X : Cx}
def cw0 (K : PySem.W.Frag) (ta : TA) : TI := fun σ H R => ta σ H fun vs H1 => ∃ k1 k2 l1 l2, vs = [.ref l1, .ref l2] ∧ (∃ xs, xX k1 K H1 l1 xs) ∧ (∃ ys, xX k2 K H1 l2 ys) ∧ R (Itz K k1 k2 l1 l2) H1
def bw5 (K : PySem.W.Frag) (ta : TA) : TI := fun σ H R => ta σ H fun vs H1 => ∃ l, vs = [.ref l] ∧ (∃ xs, SqL K H1 l xs) ∧ R (Ite K l) H1
theorem dg1 {es : List Expr} {n : Nat} {tpos : Pos} {a b : Expr} {ta : TA} {p pos : Pos} (hg : Gl X "zip") (hm : X.mg "zip" = none) (ha : PA X [a, b] ta) (hs : starEach [a, b] X.env = [(false, eval a X.env), (false, eval b X.env)] := by rfl) (hs2 : starEach [b] X.env = [(false, eval b X.env)] := by rfl) :
 PI X (.Tuple es n tpos) (.Call (.Name "zip" p) [a, b] [] pos) (cw0 X.K ta) := by
 intro pins s σ H R I h
 refine Call_ (pS I hg hm cg0 (PyProof.Rows.callWith_type1 (cR (ha pos pins s σ H _ I h) fun us s1 ⟨vs, H1, I1, r1, q1⟩ => ?_) (by rw [hs, hs2]) (by rw [hs2]; rfl)))
 obtain ⟨k1, k2, l1, l2, e, ⟨xs, hq1⟩, ⟨ys, hq2⟩, q⟩ := q1
 subst e
 cases r1 with
 | cons r rr =>
  cases rr with
  | cons r' rr =>
   cases rr
   cases r
   cases r'
   obtain ⟨its, r1, p1, _⟩ := I1.row hq1
   obtain ⟨jts, r2, p2, _⟩ := I1.row hq2
   refine ca1 p1 p2 fun h' a1 a2 a3 a4 a5 kk => wpAny_pyIter_zip a1 ?_
   have c1 : l1 < s1.heap.objs.size := by obtain ⟨_, z, _⟩ := p1; exact Heap.lt_size z
   have c2 : l2 < s1.heap.objs.size := by obtain ⟨_, z, _⟩ := p2; exact Heap.lt_size z
   refine ⟨_, _, _, _, H1, rfl, I1.kept (t' := s1.toks) kk, bs9 (zipApart_new c1 c2), ⟨a1, a2, ⟨_, _, a3⟩, a4, a5⟩, fun c hc => ?_, q⟩
   have le : s1.heap.objs.size ≤ c := by
    simp only [List.mem_cons, List.not_mem_nil, or_false] at hc
    rcases hc with rfl | rfl | rfl | rfl | rfl <;> omega
   exact I1.fpOk le (I1.hok.fresh le)
theorem ca7 {es : List Expr} {n : Nat} {tpos : Pos} {a : Expr} {ta : TA} {p pos : Pos} (hg : Gl X "enumerate") (hm : X.mg "enumerate" = none) (ha : PA X [a] ta) (hs : starEach [a] X.env = [(false, eval a X.env)] := by rfl) :
 PI X (.Tuple es n tpos) (.Call (.Name "enumerate" p) [a] [] pos) (bw5 X.K ta) := by
 intro pins s σ H R I h
 refine Call_ (pS I hg hm be9 (PyProof.Rows.callWith_type1 (cR (ha pos pins s σ H _ I h) fun us s1 ⟨vs, H1, I1, r1, q1⟩ => ?_) hs rfl))
 obtain ⟨l, e, ⟨xs, hq1⟩, q⟩ := q1
 subst e
 cases r1 with
 | cons r rr =>
  cases rr
  cases r
  obtain ⟨its, r1, p1, _⟩ := I1.list hq1
  refine call_enumerate_list p1.isList fun h' a1 a2 a3 kk => wpAny_pyIter_enum a1 ?_
  refine ⟨_, _, _, _, H1, rfl, I1.kept (t' := s1.toks) kk, by6 (e := s1.heap.objs.size + 1) (it := s1.heap.objs.size) (Nat.succ_ne_self _), ⟨⟨_, a1⟩, a2⟩, fun c hc => ?_, q⟩
  have le : s1.heap.objs.size ≤ c := by
   simp only [List.mem_cons, List.not_mem_nil, or_false] at hc
   rcases hc with rfl | rfl <;> omega
  exact I1.fpOk le (I1.hok.fresh le)
end
end L2
namespace L2
open PySem PySem.Spec PyProof.Rows
def qX (σ : List Str) (x : Str) : List Str := if σ.any (· == x) = true then σ else σ ++ [x]
def kJ (val : Nat → Str) (i : Nat) : List Str := ((List.range i).map val).foldl qX []
theorem yO (val : Nat → Str) (i : Nat) : kJ val (i + 1) = qX (kJ val i) (val i) := by
 unfold kJ
 rw [List.range_succ, List.map_append, List.foldl_append]
 rfl
theorem br0 (val : Nat → Str) : ∀ i, (kJ val i).length ≤ i
 | 0 => Nat.le_refl _
 | i + 1 => by
  rw [yO]
  unfold qX
  have ih := br0 val i
  split
  · omega
  · simp; omega
theorem bg7 (σ : List Str) (v k : Str) : (qX σ v).any (· == k) = (σ.any (· == k) || decide (k = v)) := by
 unfold qX
 by_cases h : σ.any (· == v) = true
 · rw [if_pos h]
   by_cases e : k = v
   · subst e
     rw [h]
     simp
   · simp [e]
 · rw [if_neg h, List.any_append]
   by_cases e : k = v
   · subst e
     simp
   · have hb : (v == k) = false := by simpa using (fun h' : v = k => e h'.symm)
     simp [hb, e]
theorem bp7 (σ : List Str) (v : Str) : (qX σ v).length = if σ.any (· == v) then σ.length else σ.length + 1 := by
 unfold qX
 split <;> simp
section
variable {prog : Program} {w : World} {A : Around} {R : Result → Shared → Prop} {I : Addr} {fp wr : List Addr} {G : Array GenState → Array GenState → Prop} {n : Nat} {P : Nat → Value → Prop} {St : Nat → Shared → Prop}
theorem cv0 (W : WalksS prog w A.in1 I fp wr G n P St) (S : Addr) (hS : S ∉ fp) (val : Nat → Str) (hval : ∀ i v, P i v → ∃ t, v = .str (val i) t) (hb : n + 1 < scanBound) :
 ∀ (k i : Nat) (s : Shared), n - i = k → i ≤ n → St i s → s.heap.SetOf (strKind prog w) S (fun x => (kJ val i).any (· == x)) (kJ val i).length →
  (∀ s', Moved (S :: wr) G s s' → s'.heap.SetOf (strKind prog w) S (fun x => (kJ val n).any (· == x)) (kJ val n).length → R (.ok (.ret .none)) s') →
  codeAny (model prog w) A (.builtin "set.update.loop" ⟨[.ref S, .ref I], []⟩) R s := by
 have hw : S ∉ wr := fun h => hS (W.sub _ h)
 have sub : ∀ b ∈ wr, b ∈ S :: wr := fun b hb => List.mem_cons_of_mem _ hb
 intro k
 induction k with
 | zero =>
  intro i s hk hi st hs hR
  obtain rfl : i = n := by omega
  refine codeAny_builtin PyProof.Rows.F.entry_set_update_loop ?_; rw [Around.under_plainId PyProof.Rows.F.plain_set_update_loop _]
  (show wpAny _ A.in1 (pyNext (.ref I) >>= _) _ _ s); refine wpAny_bind (W.done s _ _ st fun s' hm => ?_)
  (show wpAny _ A.in1 (ret Value.none) _ _ s'); refine wpAny_pure (hR s' (hm.mono sub) ?_)
  obtain ⟨o, es, ep, t, ho, r⟩ := hs
  exact ⟨o, es, ep, t, hm.heap S _ hw ho, r⟩
 | succ k ih =>
  intro i s hk hi st hs hR
  have lt : i < n := by omega
  refine codeAny_builtin PyProof.Rows.F.entry_set_update_loop ?_; rw [Around.under_plainId PyProof.Rows.F.plain_set_update_loop _]
  (show wpAny _ A.in1 (pyNext (.ref I) >>= _) _ _ s); refine wpAny_bind (W.item i s _ _ lt st fun v s' hP st' hm => ?_)
  obtain ⟨t, rfl⟩ := hval i v hP
  have hs' : s'.heap.SetOf (strKind prog w) S (fun x => (kJ val i).any (· == x)) (kJ val i).length := by
   obtain ⟨o, es, ep, tb, ho, r⟩ := hs
   exact ⟨o, es, ep, tb, hm.heap S _ hw ho, r⟩
  (show wpAny _ A.in1 (holding [Value.str (val i) t] (setAdd S (.str (val i) t)) >>= _) _ _ s'); refine wpAny_bind (wpAny_holding ?_); unfold setAdd
  refine wpAny_holding ?_; refine wpAny_bind ((strKind prog w).pyHash (k := val i) (strKind_is _ _ _ _) ?_)
  have room : (kJ val i).length + 1 < scanBound := by have := br0 val i; omega
  refine wpAny_setAddHashed_of (knd := strKind prog w) (s := { s' with toks := s'.toks + 1 }) (strKind_is _ _ _ _) rfl hs' room fun h' hsb hS2 => ?_
  have hi' : h'.SetOf (strKind prog w) S (fun x => (kJ val (i + 1)).any (· == x)) (kJ val (i + 1)).length := SetOf_congr hS2 (fun x => by rw [yO, bg7]) (by rw [yO, bp7])
  refine wpAny_pure ⟨plainId_quiet PyProof.Rows.F.plain_set_update_loop _, ih (i + 1) _ (by omega) lt (W.frame _ s' _ _ st' (Nat.le_succ _) fun b hb o e => ?_) hi' fun s'' hm'' hS'' => ?_⟩
  · exact (hsb.2 b (fun h : b = S => hS (by rw [← h]; exact hb))).trans e
  · refine hR s'' (Moved.trans W.gtrans ((hm.mono sub).then_heap (Nat.le_succ _) fun b o hb e => ?_) hm'') hS''
    exact (hsb.2 b (fun h : b = S => hb (by rw [h]; exact List.mem_cons_self))).trans e
end
section
variable {prog : Program} {w : World} {A : Around} {E : Value → Shared → Prop} {s : Shared}
abbrev kE (led : Bool) : Obj := { cls := .type "set", dict := none, data := .set #[] 0 (.fresh 0 0 led) }
set_option maxHeartbeats 3200000 in
theorem ar7 (hh : A.handled = none) (hl : s.heap.IsList l us) (hv : ∀ (i : Nat) v, us[i]? = some v → ∃ t, v = .str (val i) t) (hb : us.size + 1 < scanBound)
 (h : ∀ (h' : Heap) (tk : Nat), h'.SetOf (strKind prog w) s.heap.objs.size (fun x => (kJ val us.size).any (· == x)) (kJ val us.size).length → (∀ b o, b < s.heap.objs.size → s.heap.get? b = some o → h'.get? b = some o) → Q (.ref s.heap.objs.size) { s with heap := h', toks := tk }) :
 wpAny (model prog w) A (call (.type "set") [.ref l]) Q E s := by
 obtain ⟨c, tl, hmro⟩ := PySem.F.called_set.mro
 have hmade := PySem.F.called_set.made
 have hsub := PySem.F.called_set.sub
 refine wpAny_call (codeAny_of_tree ?_); (show wpAny _ _ (callAny (.type "set") _) _ _ _)
 refine wpAny_pure ⟨Code.quiet_builtin _ (by decide +kernel), codeAny_builtin PySem.F.entry_type_call ?_⟩; rw [Around.under_plain (weight_type_call_type "set" [.ref l] []) rfl]
 have h1 := PySem.F.called_set.notType
 have h2 := PySem.F.called_set.canCreate
 have hct := PySem.F.typeCall_set_1 (.ref l)
 (repeat (any_goals (first | assumption | wp_step)))
 refine codeAny_mono (code_set_new_1 (.ref l) (E := E) (Q₁ := fun obj s₁ => ∃ led : Bool, obj = .ref s.heap.objs.size ∧ s₁ = { s with heap := s.heap.push (kE led) }) fun led => ⟨led, rfl, rfl⟩) fun r s₁ hr => ?_
 cases r with
 | error e => exact hr
 | ok fl =>
  cases fl with
  | ret obj =>
   obtain ⟨led, rfl, rfl⟩ := hr
   have hS : (s.heap.push (kE led)).get? s.heap.objs.size = some (kE led) := Heap.get?_push_size _ rfl
   have hT : Shared.TypeIs { s with heap := s.heap.push (kE led) } (.ref s.heap.objs.size) "set" := ⟨_, hS, rfl⟩
   have hli := PySem.F.called_set.init.lookup
   have hbi := PySem.F.called_set.init.bind (.ref s.heap.objs.size)
   (repeat (any_goals (first | assumption | wp_step)))
   refine codeAny_mono (codeAny_call_builtin (R := wants (fun r s₂ => r = .none ∧ ∃ h' tk, s₂ = { s with heap := h', toks := tk } ∧ h'.SetOf (strKind prog w) s.heap.objs.size (fun x => (kJ val us.size).any (· == x)) (kJ val us.size).length ∧
    (∀ b o, b < s.heap.objs.size → s.heap.get? b = some o → h'.get? b = some o)) E) PySem.F.called_set.init.plain PySem.F.entry_set_init (check_set_init_1 hT ?_)) fun r₂ s₂ hr₂ => ?_
   · obtain ⟨ol, hol, hcl, nl, hdl⟩ := hl
     obtain ⟨ocls, odict, odata, oslots⟩ := ol
     simp only at hcl hdl; subst hcl; subst hdl
     have hol' : (s.heap.push (kE led)).get? l = some { cls := .type "list", dict := odict, data := .seq us nl, slots := oslots } := Heap.get?_push_of_some _ hol
     have hsls := PySem.F.sub_list_set
     have hslf := PySem.F.sub_list_frozenset
     have hne : (Value.type "list" == Value.type "dict") = false := by decide
     have hl1 : (s.heap.push (kE led)).IsList l us := ⟨_, hol', rfl, nl, rfl⟩
     unfold Builtin.«set.__init__» noKeywords Builtin.Frozenset.updateFrom; generalize hPI : pyIter = PI; wp_walk; subst hPI
     refine wpAny_pyIter_list hl1 ?_; refine wpAny_bind (wpAny_runValue ?_)
     have hlS : l < s.heap.objs.size := Heap.lt_size hol
     have hh3 : A.in1.in1.in1.handled = none := by simp [hh]
     have hneI : l ≠ (s.heap.push (kE led)).objs.size := by rw [Heap.size_push]; exact Nat.ne_of_lt (Nat.lt_succ_of_lt hlS)
     have hSf : s.heap.objs.size ∉ [(s.heap.push (kE led)).objs.size, l] := by
      rw [Heap.size_push]; simp only [List.mem_cons, List.not_mem_nil, or_false, not_or]; exact ⟨Nat.ne_of_lt (Nat.lt_succ_self _), Nat.ne_of_gt hlS⟩
     refine cv0 ((Walks.list hh3 _ l hneI us).toS) s.heap.objs.size hSf val hv hb (us.size - 0) 0 _ (by omega) (Nat.zero_le _) ⟨⟨_, Heap.get?_push_size _ rfl, rfl, rfl⟩, (hl1.push _)⟩ ?hS0 ?hR
     case hS0 => exact SetOf_congr ((setObjOf_fresh (knd := strKind prog w) led).setOf (Heap.get?_push_of_some _ hS) (by unfold scanBound; omega)) (fun _ => rfl) rfl
     case hR =>
      intro s' hm hS'
      obtain ⟨h', g', d', tk', os'⟩ := s'
      obtain rfl : g' = s.gens := hm.gens
      obtain rfl : d' = s.drawn := hm.drawn
      obtain rfl : os' = s.os := hm.os
      (show wpAny _ _ _ _ _ _); refine wpAny_pure ?_; (show wpAny _ _ (ret Value.none) _ _ _)
      refine wpAny_pure ⟨rfl, h', tk', rfl, hS', fun b o hb e => ?_⟩
      have hb2 : b ≠ (s.heap.push (kE led)).objs.size := by rw [Heap.size_push]; exact Nat.ne_of_lt (Nat.lt_succ_of_lt hb)
      exact hm.heap b o (by simp only [List.mem_cons, List.not_mem_nil, or_false, not_or]; exact ⟨Nat.ne_of_lt hb, hb2⟩) (Heap.get?_push_of_some _ (Heap.get?_push_of_some _ e))
   · cases r₂ with
     | error e => exact hr₂
     | ok fl₂ =>
      cases fl₂ with
      | ret r =>
       obtain ⟨rfl, h', tk, rfl, hS', hk'⟩ := hr₂
       (repeat (any_goals (first | assumption | wp_step)))
       exact h _ _ hS' hk'
      | _ => exact hr₂
  | _ => exact hr
end
end L2
namespace TL
open PySem PySem.Spec PyProof.Rows L2
inductive T where
 | non | bl (b : Bool) | int (i : Int) | str (x : Str) | ty (n : String)
 | lst (o : Bool) (xs : List T)
 | tup (xs : List T)
 | ins (o : Bool) (c : Str) (ns : List Str) (xs : List T)
mutual
def frz : T → T
 | .lst _ xs => .lst false (frzs xs)
 | .tup xs => .tup (frzs xs)
 | .ins _ c ns xs => .ins false c ns (frzs xs)
 | .non => .non
 | .bl b => .bl b
 | .int i => .int i
 | .str x => .str x
 | .ty n => .ty n
def frzs : List T → List T
 | [] => []
 | t :: ts => frz t :: frzs ts
end
mutual
def eI : T → Bool
 | .lst o xs => !o && bG xs
 | .tup xs => bG xs
 | .ins o _ _ xs => !o && bG xs
 | .non => true
 | .bl _ => true
 | .int _ => true
 | .str _ => true
 | .ty _ => true
def bG : List T → Bool
 | [] => true
 | t :: ts => eI t && bG ts
end
mutual
def eN : T → Bool
 | .lst o xs => o && dX xs
 | .tup xs => dX xs
 | .ins o _ _ xs => o && dX xs
 | .non => true
 | .bl _ => true
 | .int _ => true
 | .str _ => true
 | .ty _ => true
def dX : List T → Bool
 | [] => true
 | t :: ts => eN t && dX ts
end
theorem oH : ∀ ts, bG ts = ts.all eI
 | [] => rfl
 | t :: ts => by simp [bG, oH ts]
theorem al7 : ∀ ts, dX ts = ts.all eN
 | [] => rfl
 | t :: ts => by simp [dX, al7 ts]
mutual
theorem ah7 : ∀ t, eI t = true → frz t = t
 | .lst o xs, h => by
  simp only [eI, Bool.and_eq_true, Bool.not_eq_true'] at h
  rw [frz, gC xs h.2, h.1]
 | .tup xs, h => by
  simp only [eI] at h
  rw [frz, gC xs h]
 | .ins o _ _ xs, h => by
  simp only [eI, Bool.and_eq_true, Bool.not_eq_true'] at h
  rw [frz, gC xs h.2, h.1]
 | .non, _ => rfl
 | .bl _, _ => rfl
 | .int _, _ => rfl
 | .str _, _ => rfl
 | .ty _, _ => rfl
theorem gC : ∀ ts, bG ts = true → frzs ts = ts
 | [], _ => rfl
 | t :: ts, h => by
  simp only [bG, Bool.and_eq_true] at h
  rw [frzs, ah7 t h.1, gC ts h.2]
end
structure Exc where
 c : Str
 ns : List Str
 xs : List T
inductive Res (α : Type) where
 | ok (a : α) | ex (x : Exc) | no
def Res.bind {α β : Type} : Res α → (α → Res β) → Res β
 | .ok a, f => f a
 | .ex x, _ => .ex x
 | .no, _ => .no
abbrev Fr := List (Option T)
inductive cO where
 | nx (ρ : Fr) | rt (t : T) | bk (ρ : Fr) | ct (ρ : Fr) | ex (x : Exc) | no
def uJ : HO → Bool
 | .tup _ => true
 | .frz _ _ => true
 | _ => false
def FzL (K : PySem.W.Frag) (H : Hp) (Z : Addr → Prop) (a : Addr) (xs : List V) : Prop :=
 (H a = some (.lst xs) ∧ Z a) ∨ (∃ o, H a = some (.frz o (.lst xs))) ∨
  ∃ (o : Obj) (its : Array Value) (n : Nat), K.lookup a = some o ∧ o.cls = .type "list" ∧ o.dict = none ∧ o.slots = #[] ∧ o.data = .seq its n ∧ its.size ≤ sizeLine ∧ Vals xs its.toList
theorem FzL.sqS {K : PySem.W.Frag} {H : Hp} {Z : Addr → Prop} {a : Addr} {xs : List V} (h : FzL K H Z a xs) : SqS K H a xs := by
 rcases h with ⟨h, _⟩ | ⟨o, h⟩ | h
 · exact .inl (.inl h)
 · exact .inl (.inr ⟨o, h⟩)
 · exact .inr h
theorem FzL.sq {K : PySem.W.Frag} {H : Hp} {Z : Addr → Prop} {a : Addr} {xs : List V} (h : FzL K H Z a xs) : SqL K H a xs := h.sqS.sq
section
variable (K : PySem.W.Frag) (cn : Str → Option Addr)
mutual
def Rep (H : Hp) (Z : Addr → Prop) : T → V → List Addr → Prop
 | .non, v, A => v = .non ∧ A = []
 | .bl b, v, A => v = .bl b ∧ A = []
 | .int i, v, A => v = .int i ∧ A = []
 | .str x, v, A => v = .str x ∧ A = []
 | .ty n, v, A => v = .ty n ∧ A = []
 | .lst true ts, v, A => ∃ a vs B, v = .ref a ∧ A = a :: B ∧ H a = some (.lst vs) ∧ Reps H Z ts vs B
 | .lst false ts, v, A => ∃ a vs, v = .ref a ∧ A = [] ∧ FzL K H Z a vs ∧ Reps H Z ts vs []
 | .tup ts, v, A => ∃ a vs, v = .ref a ∧ SqT K H a vs ∧ Reps H Z ts vs A
 | .ins true c ns ts, v, A => ∃ a C dx vs B, v = .ref a ∧ A = a :: B ∧ cn c = some C ∧ H a = some (.ins C dx (ns.zip vs)) ∧ ns.length = vs.length ∧ Reps H Z ts vs B
 | .ins false c ns ts, v, A => ∃ a C dx vs, v = .ref a ∧ A = [] ∧ cn c = some C ∧ H a = some (.ins C dx (ns.zip vs)) ∧ Z a ∧ ns.length = vs.length ∧ Reps H Z ts vs []
def Reps (H : Hp) (Z : Addr → Prop) : List T → List V → List Addr → Prop
 | [], vs, A => vs = [] ∧ A = []
 | t :: ts, vs, A => ∃ v r B C, vs = v :: r ∧ A = B ++ C ∧ Rep H Z t v B ∧ Reps H Z ts r C
end
end
section
variable {K : PySem.W.Frag} {cn : Str → Option Addr} {H H' : Hp} {Z Z' : Addr → Prop}
theorem FzL.keep (h : FzL K H Z a xs) (hk : ∀ a o, H a = some o → (Z a ∨ uJ o = true) → H' a = some o) (hz : ∀ a, Z a → Z' a) : FzL K H' Z' a xs := by
 rcases h with ⟨h, z⟩ | ⟨o, h⟩ | h
 · exact .inl ⟨hk _ _ h (.inl z), hz _ z⟩
 · exact .inr (.inl ⟨o, hk _ _ h (.inr rfl)⟩)
 · exact .inr (.inr h)
theorem SqT.keep (h : SqT K H a xs) (hk : ∀ a o, H a = some o → uJ o = true → H' a = some o) : SqT K H' a xs := by
 rcases h with (h | ⟨o, h⟩) | h
 · exact .inl (.inl (hk _ _ h rfl))
 · exact .inl (.inr ⟨o, hk _ _ h rfl⟩)
 · exact .inr h
mutual
theorem Rep.keep : ∀ (t : T) {v : V} {A : List Addr}, Rep K cn H Z t v A → (∀ a o, H a = some o → (a ∈ A ∨ Z a ∨ uJ o = true) → H' a = some o) → (∀ a, Z a → Z' a) → Rep K cn H' Z' t v A
 | .non, _, _, h, _, _ => by simpa only [Rep] using h
 | .bl _, _, _, h, _, _ => by simpa only [Rep] using h
 | .int _, _, _, h, _, _ => by simpa only [Rep] using h
 | .str _, _, _, h, _, _ => by simpa only [Rep] using h
 | .ty _, _, _, h, _, _ => by simpa only [Rep] using h
 | .lst true ts, v, A, h, hk, hz => by
  simp only [Rep] at h ⊢
  obtain ⟨a, vs, B, rfl, rfl, e, r⟩ := h
  exact ⟨a, vs, B, rfl, rfl, hk a _ e (.inl List.mem_cons_self), Reps.keep ts r (fun b o q c => hk b o q (c.imp_left (List.mem_cons_of_mem _))) hz⟩
 | .lst false ts, v, A, h, hk, hz => by
  simp only [Rep] at h ⊢
  obtain ⟨a, vs, rfl, rfl, e, r⟩ := h
  exact ⟨a, vs, rfl, rfl, e.keep (fun b o q c => hk b o q (.inr c)) hz, Reps.keep ts r hk hz⟩
 | .tup ts, v, A, h, hk, hz => by
  simp only [Rep] at h ⊢
  obtain ⟨a, vs, rfl, e, r⟩ := h
  exact ⟨a, vs, rfl, SqT.keep e (fun b o q c => hk b o q (.inr (.inr c))), Reps.keep ts r hk hz⟩
 | .ins true c ns ts, v, A, h, hk, hz => by
  simp only [Rep] at h ⊢
  obtain ⟨a, C, dx, vs, B, rfl, rfl, hc, e, l, r⟩ := h
  exact ⟨a, C, dx, vs, B, rfl, rfl, hc, hk a _ e (.inl List.mem_cons_self), l, Reps.keep ts r (fun b o q c => hk b o q (c.imp_left (List.mem_cons_of_mem _))) hz⟩
 | .ins false c ns ts, v, A, h, hk, hz => by
  simp only [Rep] at h ⊢
  obtain ⟨a, C, dx, vs, rfl, rfl, hc, e, z, l, r⟩ := h
  exact ⟨a, C, dx, vs, rfl, rfl, hc, hk a _ e (.inr (.inl z)), hz a z, l, Reps.keep ts r hk hz⟩
theorem Reps.keep : ∀ (ts : List T) {vs : List V} {A : List Addr}, Reps K cn H Z ts vs A → (∀ a o, H a = some o → (a ∈ A ∨ Z a ∨ uJ o = true) → H' a = some o) → (∀ a, Z a → Z' a) → Reps K cn H' Z' ts vs A
 | [], _, _, h, _, _ => by simpa only [Reps] using h
 | t :: ts, vs, A, h, hk, hz => by
  simp only [Reps] at h ⊢
  obtain ⟨v, r, B, C, rfl, rfl, h1, h2⟩ := h
  exact ⟨v, r, B, C, rfl, rfl, Rep.keep t h1 (fun b o q c => hk b o q (c.imp_left (List.mem_append_left _))) hz, Reps.keep ts h2 (fun b o q c => hk b o q (c.imp_left (List.mem_append_right _))) hz⟩
end
theorem Rep.same (h : Rep K cn H Z t v A) (s : Same H H') (hz : ∀ a, Z a → Z' a) : Rep K cn H' Z' t v A := Rep.keep t h (fun a o q _ => s a o q) hz
theorem Reps.same (h : Reps K cn H Z t v A) (s : Same H H') (hz : ∀ a, Z a → Z' a) : Reps K cn H' Z' t v A := Reps.keep t h (fun a o q _ => s a o q) hz
theorem bh7 (h : H a = some o) (h' : H b = some o') (i : uJ o = true) (i' : uJ o' = false) : a ≠ b := by
 rintro rfl
 rw [h] at h'
 cases h'
 rw [i] at i'
 cases i'
theorem Rep.upd (h : Rep K cn H Z t v A) (ha : H a = some o) (hi : uJ o = false) (hA : a ∉ A) (hZ : ¬ Z a) : Rep K cn (L2.upd H a o') Z t v A :=
 Rep.keep t h (fun b u q c => by
  rw [cV]
  · exact q
  · rcases c with c | c | c
    · rintro rfl; exact hA c
    · rintro rfl; exact hZ c
    · exact bh7 q ha c hi) (fun _ z => z)
theorem Reps.upd (h : Reps K cn H Z t v A) (ha : H a = some o) (hi : uJ o = false) (hA : a ∉ A) (hZ : ¬ Z a) : Reps K cn (L2.upd H a o') Z t v A :=
 Reps.keep t h (fun b u q c => by
  rw [cV]
  · exact q
  · rcases c with c | c | c
    · rintro rfl; exact hA c
    · rintro rfl; exact hZ c
    · exact bh7 q ha c hi) (fun _ z => z)
mutual
theorem Rep.frz : ∀ (t : T) {v : V} {A : List Addr}, Rep K cn H Z t v A → (∀ a, Z a → Z' a) → (∀ a ∈ A, Z' a) → Rep K cn H Z' (frz t) v []
 | .non, _, _, h, _, _ => by simp only [Rep, TL.frz] at h ⊢; exact ⟨h.1, trivial⟩
 | .bl _, _, _, h, _, _ => by simp only [Rep, TL.frz] at h ⊢; exact ⟨h.1, trivial⟩
 | .int _, _, _, h, _, _ => by simp only [Rep, TL.frz] at h ⊢; exact ⟨h.1, trivial⟩
 | .str _, _, _, h, _, _ => by simp only [Rep, TL.frz] at h ⊢; exact ⟨h.1, trivial⟩
 | .ty _, _, _, h, _, _ => by simp only [Rep, TL.frz] at h ⊢; exact ⟨h.1, trivial⟩
 | .lst true ts, v, A, h, hz, hA => by
  simp only [Rep, TL.frz] at h ⊢
  obtain ⟨a, vs, B, rfl, rfl, e, r⟩ := h
  exact ⟨a, vs, rfl, trivial, .inl ⟨e, hA a List.mem_cons_self⟩, Reps.frz ts r hz fun b hb => hA b (List.mem_cons_of_mem _ hb)⟩
 | .lst false ts, v, A, h, hz, hA => by
  simp only [Rep, TL.frz] at h ⊢
  obtain ⟨a, vs, rfl, rfl, e, r⟩ := h
  exact ⟨a, vs, rfl, trivial, e.keep (fun _ _ q _ => q) hz, Reps.frz ts r hz hA⟩
 | .tup ts, v, A, h, hz, hA => by
  simp only [Rep, TL.frz] at h ⊢
  obtain ⟨a, vs, rfl, e, r⟩ := h
  exact ⟨a, vs, rfl, e, Reps.frz ts r hz hA⟩
 | .ins true c ns ts, v, A, h, hz, hA => by
  simp only [Rep, TL.frz] at h ⊢
  obtain ⟨a, C, dx, vs, B, rfl, rfl, hc, e, l, r⟩ := h
  exact ⟨a, C, dx, vs, rfl, trivial, hc, e, hA a List.mem_cons_self, l, Reps.frz ts r hz fun b hb => hA b (List.mem_cons_of_mem _ hb)⟩
 | .ins false c ns ts, v, A, h, hz, hA => by
  simp only [Rep, TL.frz] at h ⊢
  obtain ⟨a, C, dx, vs, rfl, rfl, hc, e, z, l, r⟩ := h
  exact ⟨a, C, dx, vs, rfl, trivial, hc, e, hz a z, l, Reps.frz ts r hz hA⟩
theorem Reps.frz : ∀ (ts : List T) {vs : List V} {A : List Addr}, Reps K cn H Z ts vs A → (∀ a, Z a → Z' a) → (∀ a ∈ A, Z' a) → Reps K cn H Z' (frzs ts) vs []
 | [], _, _, h, _, _ => by simp only [Reps, TL.frzs] at h ⊢; exact ⟨h.1, trivial⟩
 | t :: ts, vs, A, h, hz, hA => by
  simp only [Reps, TL.frzs] at h ⊢
  obtain ⟨v, r, B, C, rfl, rfl, h1, h2⟩ := h
  exact ⟨v, r, [], [], rfl, rfl, Rep.frz t h1 hz fun b hb => hA b (List.mem_append_left _ hb), Reps.frz ts h2 hz fun b hb => hA b (List.mem_append_right _ hb)⟩
end
mutual
theorem Rep.any : ∀ (t : T) {v : V} {A : List Addr}, eN t = true → Rep K cn H Z t v A → Rep K cn H Z' t v A
 | .non, _, _, _, h => by simpa only [Rep] using h
 | .bl _, _, _, _, h => by simpa only [Rep] using h
 | .int _, _, _, _, h => by simpa only [Rep] using h
 | .str _, _, _, _, h => by simpa only [Rep] using h
 | .ty _, _, _, _, h => by simpa only [Rep] using h
 | .lst true ts, v, A, c, h => by
  simp only [Rep, eN, Bool.true_and] at h c ⊢
  obtain ⟨a, vs, B, rfl, rfl, e, r⟩ := h
  exact ⟨a, vs, B, rfl, rfl, e, Reps.any ts c r⟩
 | .lst false ts, v, A, c, h => by simp [eN] at c
 | .tup ts, v, A, c, h => by
  simp only [Rep, eN] at h c ⊢
  obtain ⟨a, vs, rfl, e, r⟩ := h
  exact ⟨a, vs, rfl, e, Reps.any ts c r⟩
 | .ins true cc ns ts, v, A, c, h => by
  simp only [Rep, eN, Bool.true_and] at h c ⊢
  obtain ⟨a, C, dx, vs, B, rfl, rfl, hc, e, l, r⟩ := h
  exact ⟨a, C, dx, vs, B, rfl, rfl, hc, e, l, Reps.any ts c r⟩
 | .ins false cc ns ts, v, A, c, h => by simp [eN] at c
theorem Reps.any : ∀ (ts : List T) {vs : List V} {A : List Addr}, dX ts = true → Reps K cn H Z ts vs A → Reps K cn H Z' ts vs A
 | [], _, _, _, h => by simpa only [Reps] using h
 | t :: ts, vs, A, c, h => by
  simp only [Reps, dX, Bool.and_eq_true] at h c ⊢
  obtain ⟨v, r, B, C, rfl, rfl, h1, h2⟩ := h
  exact ⟨v, r, B, C, rfl, rfl, Rep.any t c.1 h1, Reps.any ts c.2 h2⟩
end
mutual
theorem Rep.bare : ∀ (t : T) {v : V} {A : List Addr}, eI t = true → Rep K cn H Z t v A → A = []
 | .non, _, _, _, h => by simp only [Rep] at h; exact h.2
 | .bl _, _, _, _, h => by simp only [Rep] at h; exact h.2
 | .int _, _, _, _, h => by simp only [Rep] at h; exact h.2
 | .str _, _, _, _, h => by simp only [Rep] at h; exact h.2
 | .ty _, _, _, _, h => by simp only [Rep] at h; exact h.2
 | .lst true ts, v, A, c, h => by simp [eI] at c
 | .lst false ts, v, A, c, h => by
  simp only [Rep] at h
  obtain ⟨a, vs, rfl, rfl, e, r⟩ := h
  rfl
 | .tup ts, v, A, c, h => by
  simp only [Rep, eI] at h c
  obtain ⟨a, vs, rfl, e, r⟩ := h
  exact Reps.bare ts c r
 | .ins true cc ns ts, v, A, c, h => by simp [eI] at c
 | .ins false cc ns ts, v, A, c, h => by
  simp only [Rep] at h
  obtain ⟨a, C, dx, vs, rfl, rfl, _⟩ := h
  rfl
theorem Reps.bare : ∀ (ts : List T) {vs : List V} {A : List Addr}, bG ts = true → Reps K cn H Z ts vs A → A = []
 | [], _, _, _, h => by simp only [Reps] at h; exact h.2
 | t :: ts, vs, A, c, h => by
  simp only [Reps, bG, Bool.and_eq_true] at h c
  obtain ⟨v, r, B, C, rfl, rfl, h1, h2⟩ := h
  rw [Rep.bare t c.1 h1, Reps.bare ts c.2 h2]
  rfl
end
mutual
theorem Rep.dom : ∀ (t : T) {v : V} {A : List Addr}, Rep K cn H Z t v A → ∀ a ∈ A, ∃ o, H a = some o ∧ uJ o = false
 | .non, _, _, h => by simp only [Rep] at h; rw [h.2]; intro a ha; cases ha
 | .bl _, _, _, h => by simp only [Rep] at h; rw [h.2]; intro a ha; cases ha
 | .int _, _, _, h => by simp only [Rep] at h; rw [h.2]; intro a ha; cases ha
 | .str _, _, _, h => by simp only [Rep] at h; rw [h.2]; intro a ha; cases ha
 | .ty _, _, _, h => by simp only [Rep] at h; rw [h.2]; intro a ha; cases ha
 | .lst true ts, v, A, h => by
  simp only [Rep] at h
  obtain ⟨a, vs, B, rfl, rfl, e, r⟩ := h
  intro b hb
  rcases List.mem_cons.mp hb with rfl | hb
  · exact ⟨_, e, rfl⟩
  · exact Reps.dom ts r b hb
 | .lst false ts, v, A, h => by
  simp only [Rep] at h
  obtain ⟨a, vs, rfl, rfl, e, r⟩ := h
  intro a ha; cases ha
 | .tup ts, v, A, h => by
  simp only [Rep] at h
  obtain ⟨a, vs, rfl, e, r⟩ := h
  exact Reps.dom ts r
 | .ins true cc ns ts, v, A, h => by
  simp only [Rep] at h
  obtain ⟨a, C, dx, vs, B, rfl, rfl, hc, e, l, r⟩ := h
  intro b hb
  rcases List.mem_cons.mp hb with rfl | hb
  · exact ⟨_, e, rfl⟩
  · exact Reps.dom ts r b hb
 | .ins false cc ns ts, v, A, h => by
  simp only [Rep] at h
  obtain ⟨a, C, dx, vs, rfl, rfl, _⟩ := h
  intro a ha; cases ha
theorem Reps.dom : ∀ (ts : List T) {vs : List V} {A : List Addr}, Reps K cn H Z ts vs A → ∀ a ∈ A, ∃ o, H a = some o ∧ uJ o = false
 | [], _, _, h => by simp only [Reps] at h; rw [h.2]; intro a ha; cases ha
 | t :: ts, vs, A, h => by
  simp only [Reps] at h
  obtain ⟨v, r, B, C, rfl, rfl, h1, h2⟩ := h
  intro a ha
  rcases List.mem_append.mp ha with ha | ha
  · exact Rep.dom t h1 a ha
  · exact Reps.dom ts h2 a ha
end
theorem Reps.length : ∀ (ts : List T) {vs : List V} {A : List Addr}, Reps K cn H Z ts vs A → vs.length = ts.length
 | [], _, _, h => by simp only [Reps] at h; rw [h.1]; rfl
 | t :: ts, vs, A, h => by
  simp only [Reps] at h
  obtain ⟨v, r, B, C, rfl, rfl, h1, h2⟩ := h
  simp [Reps.length ts h2]
theorem Reps.get : ∀ (ts : List T) {vs : List V} {A : List Addr} {i : Nat} {t : T}, Reps K cn H Z ts vs A → ts[i]? = some t → ∃ v B, vs[i]? = some v ∧ Rep K cn H Z t v B ∧ (∀ b ∈ B, b ∈ A) ∧ B.Sublist A
 | [], _, _, _, _, h, e => by simp at e
 | t :: ts, vs, A, 0, t', h, e => by
  simp only [Reps] at h
  obtain ⟨v, r, B, C, rfl, rfl, h1, h2⟩ := h
  simp at e
  subst e
  exact ⟨v, B, rfl, h1, fun b hb => List.mem_append_left _ hb, List.sublist_append_left _ _⟩
 | t :: ts, vs, A, i + 1, t', h, e => by
  simp only [Reps] at h
  obtain ⟨v, r, B, C, rfl, rfl, h1, h2⟩ := h
  obtain ⟨v', B', e1, e2, e3, e4⟩ := Reps.get ts (i := i) h2 (by simpa using e)
  exact ⟨v', B', by simpa using e1, e2, fun b hb => List.mem_append_right _ (e3 b hb), e4.trans (List.sublist_append_right _ _)⟩
theorem Reps.append : ∀ (ts : List T) {us : List T} {vs ws : List V} {A B : List Addr}, Reps K cn H Z ts vs A → Reps K cn H Z us ws B → Reps K cn H Z (ts ++ us) (vs ++ ws) (A ++ B)
 | [], us, vs, ws, A, B, h, h' => by
  simp only [Reps] at h
  obtain ⟨rfl, rfl⟩ := h
  exact h'
 | t :: ts, us, vs, ws, A, B, h, h' => by
  simp only [Reps, List.cons_append] at h ⊢
  obtain ⟨v, r, C, D, rfl, rfl, h1, h2⟩ := h
  exact ⟨v, r ++ ws, C, D ++ B, rfl, by simp, h1, Reps.append ts h2 h'⟩
theorem Reps.one (h : Rep K cn H Z t v B) : Reps K cn H Z [t] [v] B := by
 simp only [Reps]
 exact ⟨v, [], B, [], rfl, by simp, h, rfl, rfl⟩
theorem Reps.nil : Reps K cn H Z [] [] [] := by simp [Reps]
theorem Reps.take : ∀ (n : Nat) (ts : List T) {vs : List V}, Reps K cn H Z ts vs [] → Reps K cn H Z (ts.take n) (vs.take n) []
 | 0, ts, vs, h => by simp [Reps]
 | n + 1, [], vs, h => by
  simp only [Reps] at h
  obtain ⟨rfl, _⟩ := h
  simp [Reps]
 | n + 1, t :: ts, vs, h => by
  simp only [Reps] at h
  obtain ⟨v, r, B, C, rfl, e, h1, h2⟩ := h
  have eb : B = [] ∧ C = [] := by simpa using e.symm
  obtain ⟨rfl, rfl⟩ := eb
  simp only [List.take_succ_cons, Reps]
  exact ⟨v, r.take n, [], [], rfl, rfl, h1, Reps.take n ts h2⟩
theorem Reps.drop : ∀ (n : Nat) (ts : List T) {vs : List V}, Reps K cn H Z ts vs [] → Reps K cn H Z (ts.drop n) (vs.drop n) []
 | 0, ts, vs, h => h
 | n + 1, [], vs, h => by
  simp only [Reps] at h
  obtain ⟨rfl, _⟩ := h
  simp [Reps]
 | n + 1, t :: ts, vs, h => by
  simp only [Reps] at h
  obtain ⟨v, r, B, C, rfl, e, h1, h2⟩ := h
  have eb : B = [] ∧ C = [] := by simpa using e.symm
  obtain ⟨rfl, rfl⟩ := eb
  simpa using Reps.drop n ts h2
end
end TL
namespace TL
open PySem PySem.Spec PyProof.Rows L2
abbrev St := L2.St
theorem bm0 (h : H p = none) (o : HO) : Same H (L2.upd H p o) := fun b u q => by rw [cV (gT q h)]; exact q
theorem eC {α : Type} {P : α → Prop} : ∀ b ∈ ([] : List α), P b := fun _ h => nomatch h
def Slot (K : PySem.W.Frag) (cn : Str → Option Addr) (H : Hp) (Z : Addr → Prop) (o : Option T) (w : Option V) (A : List Addr) : Prop :=
 match o with
 | none => A = []
 | some t => ∃ v, w = some v ∧ Rep K cn H Z t v A
def Slots (K : PySem.W.Frag) (cn : Str → Option Addr) (H : Hp) (Z : Addr → Prop) : Fr → St → List (List Addr) → Prop
 | [], σ, As => σ = [] ∧ As = []
 | o :: ρ, σ, As => ∃ w σ' A As', σ = w :: σ' ∧ As = A :: As' ∧ Slot K cn H Z o w A ∧ Slots K cn H Z ρ σ' As'
abbrev iD := List (Nat × V)
structure Frm (Jn : iD) (K : PySem.W.Frag) (cn : Str → Option Addr) (H : Hp) (Z : Addr → Prop) (ρ : Fr) (σ : St) (As : List (List Addr)) : Prop where
 sl : Slots K cn H Z ρ σ As
 nd : As.flatten.Nodup
 nz : ∀ a ∈ As.flatten, ¬ Z a
 zi : ∀ a, Z a → H a ≠ none
 pn : ∀ p ∈ Jn, σ[p.1]? = some (some p.2)
structure Ev (As : List (List Addr)) (H : Hp) (Z : Addr → Prop) (As' : List (List Addr)) (H' : Hp) (Z' : Addr → Prop) : Prop where
 keep : ∀ a o, H a = some o → a ∉ As.flatten → H' a = some o
 own : ∀ a ∈ As'.flatten, a ∈ As.flatten ∨ H a = none
 zz : ∀ a, Z a → Z' a
 zn : ∀ a, Z' a → Z a ∨ a ∈ As.flatten ∨ H a = none
 dom : ∀ a, H' a = none → H a = none
theorem Ev.refl : Ev As H Z As H Z :=
 ⟨fun _ _ h _ => h, fun _ h => .inl h, fun _ h => h, fun _ h => .inl h, fun _ h => h⟩
theorem Ev.trans (a : Ev As H Z As1 H1 Z1) (b : Ev As1 H1 Z1 As2 H2 Z2) : Ev As H Z As2 H2 Z2 where
 keep := fun x o h n => b.keep x o (a.keep x o h n) fun q => by
  rcases a.own x q with q | q
  · exact n q
  · rw [h] at q; cases q
 own := fun x h => by
  rcases b.own x h with q | q
  · exact a.own x q
  · exact .inr (a.dom x q)
 zz := fun x h => b.zz x (a.zz x h)
 zn := fun x h => by
  rcases b.zn x h with q | q | q
  · exact a.zn x q
  · exact .inr (a.own x q)
  · exact .inr (.inr (a.dom x q))
 dom := fun x h => a.dom x (b.dom x h)
structure Post (K : PySem.W.Frag) (cn : Str → Option Addr) (As : List (List Addr)) (H : Hp) (Z : Addr → Prop) (mv : List Nat) (H' : Hp) (Z' : Addr → Prop) (t : T) (v : V) (B : List Addr) : Prop where
 same : Same H H'
 zz : ∀ a, Z a → Z' a
 zn : ∀ a, Z' a → Z a ∨ H a = none
 zi : ∀ a, Z' a → H' a ≠ none
 rep : Rep K cn H' Z' t v B
 nd : B.Nodup
 bz : ∀ b ∈ B, ¬ Z' b
 bn : ∀ b ∈ B, H b = none ∨ ∃ i ∈ mv, b ∈ As.getD i []
structure PostB (K : PySem.W.Frag) (cn : Str → Option Addr) (H : Hp) (Z : Addr → Prop) (H' : Hp) (Z' : Addr → Prop) (t : T) (v : V) (B : List Addr) : Prop where
 same : Same H H'
 zz : ∀ a, Z a → Z' a
 zn : ∀ a, Z' a → Z a ∨ H a = none
 zi : ∀ a, Z' a → H' a ≠ none
 rep : Rep K cn H' Z' t v B
structure dc6 (K : PySem.W.Frag) (cn : Str → Option Addr) (As : List (List Addr)) (H : Hp) (Z : Addr → Prop) (x : Exc) (C : Addr) (a : Option Addr) (H' : Hp) (Z' : Addr → Prop) : Prop where
 ev : Ev As H Z [] H' Z'
 cls : cn x.c = some C
 zi : ∀ a, Z' a → H' a ≠ none
 flds : ∃ dx vs, a = some dx ∧ H' dx = some (.xd (x.ns.zip vs)) ∧ x.ns.length = vs.length ∧ Reps K cn H' Z' x.xs vs []
section
variable (Jn : iD) (K : PySem.W.Frag) (cn : Str → Option Addr) (E : XK)
def WpX (As : List (List Addr)) (H : Hp) (Z : Addr → Prop) (x : Exc) : Prop := ∀ C a H' Z', dc6 K cn As H Z x C a H' Z' → E (.ref C) a H'
def WpE (As : List (List Addr)) (H : Hp) (Z : Addr → Prop) (mv : List Nat) (Q : VK) : Res T → Prop
 | .ok t => ∀ v H' Z' B, Post K cn As H Z mv H' Z' t v B → Q v H'
 | .ex x => WpX K cn E As H Z x
 | .no => False
def WpB (As : List (List Addr)) (H : Hp) (Z : Addr → Prop) (Q : VK) : Res T → Prop
 | .ok t => ∀ v H' Z' B, PostB K cn H Z H' Z' t v B → Q v H'
 | .ex x => WpX K cn E As H Z x
 | .no => False
structure PostT (H : Hp) (Z : Addr → Prop) (H' : Hp) (Z' : Addr → Prop) : Prop where
 same : Same H H'
 zz : ∀ a, Z a → Z' a
 zn : ∀ a, Z' a → Z a ∨ H a = none
 zi : ∀ a, Z' a → H' a ≠ none
def WpT (As : List (List Addr)) (H : Hp) (Z : Addr → Prop) (Q : Bool → Hp → Prop) : Res Bool → Prop
 | .ok b => ∀ H' Z', PostT H Z H' Z' → Q b H'
 | .ex x => WpX K cn E As H Z x
 | .no => False
structure dt5 (As : List (List Addr)) (H : Hp) (Z : Addr → Prop) (t : T) (v : V) (H' : Hp) (Z' : Addr → Prop) (B : List Addr) : Prop where
 ev : Ev As H Z [B] H' Z'
 rep : Rep K cn H' Z' t v B
 nd : B.Nodup
 bz : ∀ b ∈ B, ¬ Z' b
 zi : ∀ a, Z' a → H' a ≠ none
def Wp (As : List (List Addr)) (H : Hp) (Z : Addr → Prop) (D : aa1) : cO → Prop
 | .nx ρ => ∀ σ' As' H' Z', Frm Jn K cn H' Z' ρ σ' As' → Ev As H Z As' H' Z' → D.nx σ' H'
 | .bk ρ => ∀ σ' As' H' Z', Frm Jn K cn H' Z' ρ σ' As' → Ev As H Z As' H' Z' → D.bk σ' H'
 | .ct ρ => ∀ σ' As' H' Z', Frm Jn K cn H' Z' ρ σ' As' → Ev As H Z As' H' Z' → D.ct σ' H'
 | .rt t => ∀ v H' Z' B, dt5 K cn As H Z t v H' Z' B → D.rt v H'
 | .ex x => WpX K cn E As H Z x
 | .no => False
def RE (mv : List Nat) (te : TE) (d : Fr → Res T) : Prop := ∀ As H Z ρ σ, Frm Jn K cn H Z ρ σ As → ∀ Q, WpE K cn E As H Z mv Q (d ρ) → te σ H Q
def RB (te : TE) (d : Fr → Res T) : Prop := ∀ As H Z ρ σ, Frm Jn K cn H Z ρ σ As → ∀ Q, WpB K cn E As H Z Q (d ρ) → te σ H Q
def RT (tt : TT) (d : Fr → Res Bool) : Prop := ∀ As H Z ρ σ, Frm Jn K cn H Z ρ σ As → ∀ Q, WpT K cn E As H Z Q (d ρ) → tt σ H Q
def RS (ts : TS) (d : Fr → cO) : Prop := ∀ As H Z ρ σ, Frm Jn K cn H Z ρ σ As → ∀ D, Wp Jn K cn E As H Z D (d ρ) → ts D σ H
end
section
variable {Jn : iD} {K : PySem.W.Frag} {cn : Str → Option Addr} {E : XK} {As As1 : List (List Addr)} {H H1 : Hp} {Z Z1 : Addr → Prop} {ρ : Fr} {σ : St}
theorem WpX.ev (h : WpX K cn E As H Z x) (e : Ev As H Z As1 H1 Z1) : WpX K cn E As1 H1 Z1 x := fun C a H' Z' p => h C a H' Z' ⟨e.trans p.ev, p.cls, p.zi, p.flds⟩
theorem Wp.ev (h : Wp Jn K cn E As H Z D o) (e : Ev As H Z As1 H1 Z1) : Wp Jn K cn E As1 H1 Z1 D o := by
 cases o with
 | nx ρ => exact fun σ' As' H' Z' f q => h σ' As' H' Z' f (e.trans q)
 | bk ρ => exact fun σ' As' H' Z' f q => h σ' As' H' Z' f (e.trans q)
 | ct ρ => exact fun σ' As' H' Z' f q => h σ' As' H' Z' f (e.trans q)
 | rt t => exact fun v H' Z' B p => h v H' Z' B ⟨e.trans p.ev, p.rep, p.nd, p.bz, p.zi⟩
 | ex x => exact WpX.ev h e
 | no => exact h
structure Mo (H : Hp) (Z : Addr → Prop) (H' : Hp) (Z' : Addr → Prop) : Prop where
 same : Same H H'
 zz : ∀ a, Z a → Z' a
 zn : ∀ a, Z' a → Z a ∨ H a = none
 zi : ∀ a, Z' a → H' a ≠ none
theorem Mo.ev (m : Mo H Z H' Z') : Ev As H Z As H' Z' :=
 ⟨fun a o h _ => m.same a o h, fun _ h => .inl h, m.zz, fun a h => (m.zn a h).imp_right .inr, fun a h => m.same.free h⟩
theorem Mo.trans (a : Mo H Z H1 Z1) (b : Mo H1 Z1 H2 Z2) : Mo H Z H2 Z2 :=
 ⟨a.same.trans b.same, fun x h => b.zz x (a.zz x h), fun x h => by
  rcases b.zn x h with q | q
  · exact a.zn x q
  · exact .inr (a.same.free q), b.zi⟩
theorem Frm.mo0 (F : Frm Jn K cn H Z ρ σ As) : Mo H Z H Z := ⟨Same.refl _, fun _ h => h, fun _ h => .inl h, F.zi⟩
theorem Post.mo (p : Post K cn As H Z mv H' Z' t v B) : Mo H Z H' Z' := ⟨p.same, p.zz, p.zn, p.zi⟩
theorem PostB.mo (p : PostB K cn H Z H' Z' t v B) : Mo H Z H' Z' := ⟨p.same, p.zz, p.zn, p.zi⟩
theorem PostT.mo (p : PostT H Z H' Z') : Mo H Z H' Z' := ⟨p.same, p.zz, p.zn, p.zi⟩
theorem Mo.postT (p : Mo H Z H' Z') : PostT H Z H' Z' := ⟨p.same, p.zz, p.zn, p.zi⟩
theorem Slot.mo (h : Slot K cn H Z o w A) (s : Same H H') (hz : ∀ a, Z a → Z' a) : Slot K cn H' Z' o w A := by
 cases o with
 | none => exact h
 | some t => obtain ⟨v, e, r⟩ := h; exact ⟨v, e, r.same s hz⟩
theorem Slots.mo (s : Same H H') (hz : ∀ a, Z a → Z' a) : ∀ {ρ : Fr} {σ : St} {As : List (List Addr)}, Slots K cn H Z ρ σ As → Slots K cn H' Z' ρ σ As
 | [], _, _, h => h
 | o :: ρ, _, _, h => by
  obtain ⟨w, σ', A, As', rfl, rfl, h1, h2⟩ := h
  exact ⟨w, σ', A, As', rfl, rfl, h1.mo s hz, Slots.mo s hz h2⟩
theorem Slots.dom : ∀ {ρ : Fr} {σ : St} {As : List (List Addr)}, Slots K cn H Z ρ σ As → ∀ a ∈ As.flatten, ∃ o, H a = some o ∧ uJ o = false
 | [], _, _, h, a, ha => by obtain ⟨rfl, rfl⟩ := h; simp at ha
 | o :: ρ, _, _, h, a, ha => by
  obtain ⟨w, σ', A, As', rfl, rfl, h1, h2⟩ := h
  rw [List.flatten_cons, List.mem_append] at ha
  rcases ha with ha | ha
  · cases o with
    | none => have : A = [] := h1; subst this; cases ha
    | some t => obtain ⟨v, e, r⟩ := h1; exact r.dom t a ha
  · exact Slots.dom h2 a ha
theorem Frm.mo (F : Frm Jn K cn H Z ρ σ As) (m : Mo H Z H' Z') : Frm Jn K cn H' Z' ρ σ As := by
 refine ⟨F.sl.mo m.same m.zz, F.nd, fun a ha z => ?_, m.zi, F.pn⟩
 rcases m.zn a z with q | q
 · exact F.nz a ha q
 · obtain ⟨o, e, _⟩ := F.sl.dom a ha
   rw [e] at q
   cases q
theorem WpE.mo (F : Frm Jn K cn H Z ρ σ As) (h : WpE K cn E As H Z mv Q r) (m : Mo H Z H' Z') : WpE K cn E As H' Z' mv Q r := by
 cases r with
 | ok t => exact fun v H2 Z2 B p => h v H2 Z2 B ⟨m.same.trans p.same, fun a q => p.zz a (m.zz a q), (m.trans p.mo).zn, p.zi, p.rep, p.nd, p.bz, fun b hb => (p.bn b hb).imp_left m.same.free⟩
 | ex x => exact WpX.ev h m.ev
 | no => exact h
theorem WpT.mo (h : WpT K cn E As H Z Q r) (m : Mo H Z H' Z') : WpT K cn E As H' Z' Q r := by
 cases r with
 | ok b => exact fun H2 Z2 p => h H2 Z2 (m.trans p.mo).postT
 | ex x => exact WpX.ev h m.ev
 | no => exact h
theorem Slots.get : ∀ {ρ : Fr} {σ : St} {As : List (List Addr)} {i : Nat} {t : T}, Slots K cn H Z ρ σ As → ρ[i]? = some (some t) → ∃ v, σ[i]? = some (some v) ∧ Rep K cn H Z t v (As.getD i [])
 | [], _, _, _, _, h, e => by simp at e
 | o :: ρ, _, _, 0, t, h, e => by
  obtain ⟨w, σ', A, As', rfl, rfl, h1, h2⟩ := h
  simp at e
  subst e
  obtain ⟨v, rfl, r⟩ := h1
  exact ⟨v, rfl, r⟩
 | o :: ρ, _, _, i + 1, t, h, e => by
  obtain ⟨w, σ', A, As', rfl, rfl, h1, h2⟩ := h
  obtain ⟨v, e1, e2⟩ := Slots.get (i := i) h2 (by simpa using e)
  exact ⟨v, by simpa using e1, by simpa using e2⟩
theorem Slots.set (r : Rep K cn H Z t v B) : ∀ {ρ : Fr} {σ : St} {As : List (List Addr)} (i : Nat), Slots K cn H Z ρ σ As → Slots K cn H Z (ρ.set i (some t)) (σ.set i (some v)) (As.set i B)
 | [], _, _, _, h => by obtain ⟨rfl, rfl⟩ := h; exact ⟨rfl, rfl⟩
 | o :: ρ, _, _, 0, h => by
  obtain ⟨w, σ', A, As', rfl, rfl, h1, h2⟩ := h
  exact ⟨some v, σ', B, As', rfl, rfl, ⟨v, rfl, r⟩, h2⟩
 | o :: ρ, _, _, i + 1, h => by
  obtain ⟨w, σ', A, As', rfl, rfl, h1, h2⟩ := h
  exact ⟨w, σ'.set i (some v), A, As'.set i B, rfl, rfl, h1, Slots.set r i h2⟩
theorem Slots.kill : ∀ {ρ : Fr} {σ : St} {As : List (List Addr)} (i : Nat), Slots K cn H Z ρ σ As → Slots K cn H Z (ρ.set i none) σ (As.set i [])
 | [], _, _, _, h => by obtain ⟨rfl, rfl⟩ := h; exact ⟨rfl, rfl⟩
 | o :: ρ, _, _, 0, h => by
  obtain ⟨w, σ', A, As', rfl, rfl, h1, h2⟩ := h
  exact ⟨w, σ', [], As', rfl, rfl, rfl, h2⟩
 | o :: ρ, _, _, i + 1, h => by
  obtain ⟨w, σ', A, As', rfl, rfl, h1, h2⟩ := h
  exact ⟨w, σ', A, As'.set i [], rfl, rfl, h1, Slots.kill i h2⟩
theorem Slots.kill2 (o : Option V) : ∀ {ρ : Fr} {σ : St} {As : List (List Addr)} (i : Nat), Slots K cn H Z ρ σ As → Slots K cn H Z (ρ.set i none) (σ.set i o) (As.set i [])
 | [], _, _, _, h => by obtain ⟨rfl, rfl⟩ := h; exact ⟨rfl, rfl⟩
 | o :: ρ, _, _, 0, h => by
  obtain ⟨w, σ', A, As', rfl, rfl, h1, h2⟩ := h
  exact ⟨_, σ', [], As', rfl, rfl, rfl, h2⟩
 | o :: ρ, _, _, i + 1, h => by
  obtain ⟨w, σ', A, As', rfl, rfl, h1, h2⟩ := h
  exact ⟨w, _, A, As'.set i [], rfl, rfl, h1, Slots.kill2 _ i h2⟩
theorem gY : ∀ {As : List (List Addr)} {i : Nat}, a ∈ (As.set i B).flatten → a ∈ B ∨ a ∈ As.flatten
 | [], _, h => by simp at h
 | A :: As, 0, h => by
  rw [List.set_cons_zero, List.flatten_cons, List.mem_append] at h
  rw [List.flatten_cons, List.mem_append]
  exact h.imp_right .inr
 | A :: As, i + 1, h => by
  rw [List.set_cons_succ, List.flatten_cons, List.mem_append] at h
  rw [List.flatten_cons, List.mem_append]
  rcases h with h | h
  · exact .inr (.inl h)
  · exact (gY h).imp_right .inr
theorem nI (hB : B.Nodup) : ∀ {As : List (List Addr)} {i : Nat}, As.flatten.Nodup → (∀ b ∈ B, b ∈ As.flatten → b ∈ As.getD i []) → (As.set i B).flatten.Nodup
 | [], _, h, _ => h
 | A :: As, 0, h, d => by
  rw [List.flatten_cons, List.nodup_append] at h
  rw [List.set_cons_zero, List.flatten_cons, List.nodup_append]
  refine ⟨hB, h.2.1, fun b hb c hc e => ?_⟩
  subst e
  have q := d b hb (by rw [List.flatten_cons, List.mem_append]; exact .inr hc)
  exact h.2.2 b (by simpa using q) b hc rfl
 | A :: As, i + 1, h, d => by
  rw [List.flatten_cons, List.nodup_append] at h
  rw [List.set_cons_succ, List.flatten_cons, List.nodup_append]
  have d' : ∀ b ∈ B, b ∈ As.flatten → b ∈ As.getD i [] := fun b hb hc => by
   have q := d b hb (by rw [List.flatten_cons, List.mem_append]; exact .inr hc)
   simpa using q
  refine ⟨h.1, nI hB h.2.1 d', fun a ha c hc e => ?_⟩
  subst e
  rcases gY hc with q | q
  · have z := d a q (by rw [List.flatten_cons, List.mem_append]; exact .inl ha)
    have z' : a ∈ As.getD i [] := by simpa using z
    have z2 : a ∈ As.flatten := by
     rw [List.getD_eq_getElem?_getD] at z'
     cases e : As[i]? with
     | none => rw [e] at z'; cases z'
     | some C => rw [e] at z'; exact List.mem_flatten.mpr ⟨C, List.mem_of_getElem? e, z'⟩
    exact h.2.2 a ha a z2 rfl
  · exact h.2.2 a ha a q rfl
theorem bA (h : a ∈ As.getD i []) : a ∈ As.flatten := by
 rw [List.getD_eq_getElem?_getD] at h
 cases e : As[i]? with
 | none => rw [e] at h; cases h
 | some C => rw [e] at h; exact List.mem_flatten.mpr ⟨C, List.mem_of_getElem? e, h⟩
def zX (Jn : iD) (i : Nat) : Bool := Jn.all fun p => !(p.1 == i)
theorem av6 (h : zX Jn i = true) (o : Option V) (q : ∀ p ∈ Jn, σ[p.1]? = some (some p.2)) : ∀ p ∈ Jn, (σ.set i o)[p.1]? = some (some p.2) := fun p hp => by
 unfold zX at h
 rw [List.all_eq_true] at h
 have := h p hp
 rw [List.getElem?_set_ne (by intro z; simp [z] at this)]
 exact q p hp
theorem Frm.set (F : Frm Jn K cn H Z ρ σ As) (r : Rep K cn H Z t v B) (nd : B.Nodup) (bz : ∀ b ∈ B, ¬ Z b) (i : Nat) (fr : ∀ b ∈ B, b ∈ As.flatten → b ∈ As.getD i []) (hJ : zX Jn i = true) : Frm Jn K cn H Z (ρ.set i (some t)) (σ.set i (some v)) (As.set i B) :=
 ⟨F.sl.set r i, nI nd F.nd fr, fun a ha => (gY ha).elim (bz a) (F.nz a), F.zi, av6 hJ _ F.pn⟩
theorem Frm.kill (F : Frm Jn K cn H Z ρ σ As) (i : Nat) : Frm Jn K cn H Z (ρ.set i none) σ (As.set i []) :=
 ⟨F.sl.kill i, nI List.nodup_nil F.nd (fun b hb => by cases hb), fun a ha => (gY ha).elim (fun q => by cases q) (F.nz a), F.zi, F.pn⟩
def kills : List Nat → Fr → Fr
 | [], ρ => ρ
 | i :: is, ρ => kills is (ρ.set i none)
def fH : List Nat → List (List Addr) → List (List Addr)
 | [], As => As
 | i :: is, As => fH is (As.set i [])
theorem Frm.kills (mv : List Nat) : ∀ {ρ : Fr} {As : List (List Addr)}, Frm Jn K cn H Z ρ σ As → Frm Jn K cn H Z (TL.kills mv ρ) σ (fH mv As) := by
 induction mv with
 | nil => exact fun F => F
 | cons i is ih => exact fun F => ih (F.kill i)
theorem eU : ∀ {As : List (List Addr)}, a ∈ (fH mv As).flatten → a ∈ As.flatten := by
 induction mv with
 | nil => exact fun h => h
 | cons i is ih => exact fun h => (gY (ih h)).elim (fun q => by cases q) id
theorem zL : ∀ {As : List (List Addr)}, As.flatten.Nodup → i ∈ mv → a ∈ As.getD i [] → a ∉ (fH mv As).flatten := by
 induction mv with
 | nil => exact fun _ h => by cases h
 | cons j js ih =>
  intro As nd hi ha hm
  by_cases e : i = j
  · subst e
    have h1 := eU (mv := js) (As := As.set i []) hm
    have : ∀ {As : List (List Addr)} {i : Nat}, As.flatten.Nodup → a ∈ As.getD i [] → a ∉ (As.set i []).flatten := by
     intro As
     induction As with
     | nil => intro i _ h; simp at h
     | cons A As ih2 =>
      intro i nd h hm
      rw [List.flatten_cons, List.nodup_append] at nd
      cases i with
      | zero =>
       rw [List.set_cons_zero, List.flatten_cons, List.nil_append] at hm
       exact nd.2.2 a (by simpa using h) a hm rfl
      | succ i =>
       rw [List.set_cons_succ, List.flatten_cons, List.mem_append] at hm
       have h' : a ∈ As.getD i [] := by simpa using h
       rcases hm with hm | hm
       · exact nd.2.2 a hm a (bA h') rfl
       · exact ih2 nd.2.1 h' hm
    exact this nd ha h1
  · have hi' : i ∈ js := (List.mem_cons.mp hi).resolve_left e
    refine ih (As := As.set j []) (nI List.nodup_nil nd (fun b hb => by cases hb)) hi' ?_ hm
    rw [List.getD_eq_getElem?_getD, List.getElem?_set_ne (Ne.symm e), ← List.getD_eq_getElem?_getD]
    exact ha
def dh6 (i : Nat) (ρ : Fr) : Fr := match ρ[i]? with
 | some (some t) => ρ.set i (some (frz t))
 | _ => ρ
end
end TL
namespace TL
open PySem PySem.Spec PyProof.Rows L2
section
variable {Jn : iD} {K : PySem.W.Frag} {cn : Str → Option Addr} {E : XK}
theorem WpB.wpE (w : WpB K cn E As H Z Q r) : WpE K cn E As H Z mv Q r := by
 cases r with
 | ok t => exact fun v H' Z' B p => w v H' Z' B ⟨p.same, p.zz, p.zn, p.zi, p.rep⟩
 | ex x => exact w
 | no => exact w
theorem RE.rb (h : RE Jn K cn E mv te d) : RB Jn K cn E te d := fun As H Z ρ σ F Q w => h As H Z ρ σ F Q w.wpE
def aD (i : Nat) : Fr → Res T := fun ρ => match ρ[i]? with
 | some (some t) => .ok t
 | _ => .no
theorem dk2 (i : Nat) : RB Jn K cn E (ax9 i) (aD i) := fun As H Z ρ σ F Q w => by
 unfold aD at w
 cases e : ρ[i]? with
 | none => rw [e] at w; exact False.elim w
 | some o =>
  rw [e] at w
  cases o with
  | none => exact False.elim w
  | some t =>
   obtain ⟨v, es, r⟩ := F.sl.get e
   exact ⟨v, es, w v H Z _ ⟨Same.refl _, fun _ h => h, fun _ h => .inl h, F.zi, r⟩⟩
theorem do4 (i : Nat) : RE Jn K cn E [i] (ax9 i) (aD i) := fun As H Z ρ σ F Q w => by
 unfold aD at w
 cases e : ρ[i]? with
 | none => rw [e] at w; exact False.elim w
 | some o =>
  rw [e] at w
  cases o with
  | none => exact False.elim w
  | some t =>
   obtain ⟨v, es, r⟩ := F.sl.get e
   refine ⟨v, es, w v H Z _ ⟨Same.refl _, fun _ h => h, fun _ h => .inl h, F.zi, r, ?_, fun b hb => F.nz b (bA hb), fun b hb => .inr ⟨i, List.mem_cons_self, hb⟩⟩⟩
   have nd := F.nd
   rw [List.getD_eq_getElem?_getD]
   cases q : As[i]? with
   | none => exact List.nodup_nil
   | some C => exact List.Nodup.sublist (List.sublist_flatten_of_mem (List.mem_of_getElem? q)) nd
def aV (d : Fr → Res T) : Fr → Res T := fun ρ => (d ρ).bind fun t => if eI t = true then .ok t else .no
theorem RB.chk (h : RB Jn K cn E te d) : RE Jn K cn E [] te (aV d) := fun As H Z ρ σ F Q w => h As H Z ρ σ F Q (by
 unfold aV at w
 cases e : d ρ with
 | ok t =>
  rw [e] at w
  intro v H' Z' B p
  by_cases c : eI t = true
  · simp only [Res.bind, if_pos c] at w
    have := p.rep.bare t c
    subst this
    exact w v H' Z' [] ⟨p.same, p.zz, p.zn, p.zi, p.rep, List.nodup_nil, eC, eC⟩
  · simp only [Res.bind, if_neg c] at w
    exact False.elim w
 | ex x => rw [e] at w; exact w
 | no => rw [e] at w; exact w)
def ac9 (d : Fr → Res T) : Fr → Res T := fun ρ => (d ρ).bind fun t => .ok (frz t)
theorem RE.frz (h : RE Jn K cn E [] te d) : RE Jn K cn E [] te (ac9 d) := fun As H Z ρ σ F Q w => h As H Z ρ σ F Q (by
 unfold ac9 at w
 cases e : d ρ with
 | ok t =>
  rw [e] at w
  intro v H' Z' B p
  refine w v H' (fun a => Z' a ∨ a ∈ B) [] ⟨p.same, fun a h => .inl (p.zz a h), fun a h => ?_, fun a h => ?_, Rep.frz t p.rep (fun a h => .inl h) (fun a h => .inr h), List.nodup_nil, eC, eC⟩
  · rcases h with h | h
    · exact p.zn a h
    · rcases p.bn a h with q | ⟨i, q, _⟩
      · exact .inr q
      · cases q
  · rcases h with h | h
    · exact p.zi a h
    · obtain ⟨o, q, _⟩ := p.rep.dom t a h
      rw [q]
      exact (fun z => nomatch z)
 | ex x => rw [e] at w; exact w
 | no => rw [e] at w; exact w)
def dC (t : T) : Fr → Res T := fun _ => .ok t
theorem bh0 (h : ∀ H Z, Rep K cn H Z t v []) : RE Jn K cn E [] (tC v) (dC t) := fun As H Z ρ σ F Q w =>
 w v H Z [] ⟨Same.refl _, fun _ h => h, fun _ h => .inl h, F.zi, h H Z, List.nodup_nil, eC, eC⟩
theorem dv1 : RE Jn K cn E [] (tC (.int i)) (dC (.int i)) := bh0 fun H Z => by simp [Rep]
theorem cd8 : RE Jn K cn E [] (tC (.str i)) (dC (.str i)) := bh0 fun H Z => by simp [Rep]
theorem da5 : RE Jn K cn E [] (tC (.bl i)) (dC (.bl i)) := bh0 fun H Z => by simp [Rep]
theorem dv2 : RE Jn K cn E [] (tC .non) (dC .non) := bh0 fun H Z => by simp [Rep]
theorem dn3 : RE Jn K cn E [] (tC (.ty n)) (dC (.ty n)) := bh0 fun H Z => by simp [Rep]
def mZ (K : PySem.W.Frag) (cn : Str → Option Addr) (r : R2) (f : T → T → Res T) : Prop :=
 ∀ (E : XK) (As : List (List Addr)) (H : Hp) (Z : Addr → Prop) (t u : T) (x y : V) (A B : List Addr) (Q : VK), (∀ a, Z a → H a ≠ none) → Rep K cn H Z t x A → Rep K cn H Z u y B → WpE K cn E As H Z [] Q (f t u) → r x y H Q
def aG (f : T → T → Res T) (a b : Fr → Res T) : Fr → Res T := fun ρ => (a ρ).bind fun x => (b ρ).bind fun y => f x y
theorem do5 (hr : mZ K cn r f) (ha : RB Jn K cn E ta a) (hb : RB Jn K cn E tb b) : RE Jn K cn E [] (tOp r ta tb) (aG f a b) := fun As H Z ρ σ F Q w => by
 unfold aG at w
 refine ha As H Z ρ σ F _ ?_
 cases e : a ρ with
 | ok t =>
  rw [e] at w
  intro v H1 Z1 B p
  refine hb As H1 Z1 ρ σ (F.mo p.mo) _ ?_
  simp only [Res.bind] at w
  cases e2 : b ρ with
  | ok u =>
   rw [e2] at w
   intro v2 H2 Z2 B2 p2
   exact hr E As H2 Z2 t u v v2 B B2 Q p2.zi (p.rep.same p2.same p2.zz) p2.rep (w.mo F (p.mo.trans p2.mo))
  | ex x => rw [e2] at w; exact WpX.ev w p.mo.ev
  | no => rw [e2] at w; exact w
 | ex x => rw [e] at w; exact w
 | no => rw [e] at w; exact w
def fF (f : T → Res T) (a : Fr → Res T) : Fr → Res T := fun ρ => (a ρ).bind f
def R1R (K : PySem.W.Frag) (cn : Str → Option Addr) (r : V → Hp → VK → Prop) (f : T → Res T) : Prop :=
 ∀ (E : XK) (As : List (List Addr)) (H : Hp) (Z : Addr → Prop) (t : T) (x : V) (A : List Addr) (Q : VK), (∀ a, Z a → H a ≠ none) → Rep K cn H Z t x A → WpE K cn E As H Z [] Q (f t) → r x H Q
theorem ds4 (hr : R1R K cn r f) (ha : RB Jn K cn E ta a) : RE Jn K cn E [] (tUn r ta) (fF f a) := fun As H Z ρ σ F Q w => by
 unfold fF at w
 refine ha As H Z ρ σ F _ ?_
 cases e : a ρ with
 | ok t =>
  rw [e] at w
  exact fun v H1 Z1 B p => hr E As H1 Z1 t v B Q p.zi p.rep (WpE.mo F w p.mo)
 | ex x => rw [e] at w; exact w
 | no => rw [e] at w; exact w
def pM (f g : T → T → Res T) (a b c : Fr → Res T) : Fr → Res T := fun ρ => (a ρ).bind fun x => (b ρ).bind fun y => (f x y).bind fun k => match k with
 | .bl true => (c ρ).bind fun z => g y z
 | .bl false => .ok (.bl false)
 | _ => .no
theorem WpE.bl (w : WpE K cn E As H Z [] Q (.ok (.bl b))) (zi : ∀ a, Z a → H a ≠ none) : Q (.bl b) H :=
 w (.bl b) H Z [] ⟨Same.refl _, fun _ h => h, fun _ h => .inl h, zi, by simp [Rep], List.nodup_nil, eC, eC⟩
theorem cf1 (hr : mZ K cn r f) (hr' : mZ K cn r' g) (ha : RB Jn K cn E ta a) (hb : RB Jn K cn E tb b) (hc : RB Jn K cn E tc c) : RE Jn K cn E [] (bf1 r r' ta tb tc) (pM f g a b c) := fun As H Z ρ σ F Q w => by
 unfold pM at w
 refine ha As H Z ρ σ F _ ?_
 cases e : a ρ with
 | ok t =>
  rw [e] at w
  intro v H1 Z1 B p
  refine hb As H1 Z1 ρ σ (F.mo p.mo) _ ?_
  simp only [Res.bind] at w
  cases e2 : b ρ with
  | ok u =>
   rw [e2] at w
   intro v2 H2 Z2 B2 p2
   refine hr E As H2 Z2 t u v v2 B B2 _ p2.zi (p.rep.same p2.same p2.zz) p2.rep ?_
   simp only at w
   cases e3 : f t u with
   | ok k =>
    rw [e3] at w
    intro v3 H3 Z3 B3 p3
    have m3 := (p.mo.trans p2.mo).trans p3.mo
    cases k with
    | bl k =>
     have q := p3.rep
     simp only [Rep] at q
     obtain ⟨rfl, rfl⟩ := q
     refine ⟨k, rfl, ?_⟩
     cases k with
     | true =>
      rw [if_pos rfl]
      refine hc As H3 Z3 ρ σ (F.mo m3) _ ?_
      simp only at w
      cases e4 : c ρ with
      | ok z =>
       rw [e4] at w
       intro v4 H4 Z4 B4 p4
       exact hr' E As H4 Z4 u z v2 v4 B2 B4 Q p4.zi (p2.rep.same (p3.same.trans p4.same) (fun a h => p4.zz a (p3.zz a h))) p4.rep (WpE.mo F w (m3.trans p4.mo))
      | ex x => rw [e4] at w; exact WpX.ev w m3.ev
      | no => rw [e4] at w; exact w
     | false =>
      rw [if_neg (by decide)]
      exact WpE.bl (WpE.mo F w m3) p3.zi
    | _ => exact False.elim w
   | ex x => rw [e3] at w; exact WpX.ev w (p.mo.trans p2.mo).ev
   | no => rw [e3] at w; exact w
  | ex x => rw [e2] at w; exact WpX.ev w p.mo.ev
  | no => rw [e2] at w; exact w
 | ex x => rw [e] at w; exact w
 | no => rw [e] at w; exact w
def qY (a b : Fr → Res T) : Fr → Res T := fun ρ => (a ρ).bind fun x => match x with
 | .bl true => b ρ
 | .bl false => .ok (.bl false)
 | _ => .no
def do7 (a b : Fr → Res T) : Fr → Res T := fun ρ => (a ρ).bind fun x => match x with
 | .bl true => .ok (.bl true)
 | .bl false => b ρ
 | _ => .no
def ax8 (a : Fr → Res T) : Fr → Res T := fun ρ => (a ρ).bind fun x => match x with
 | .bl b => .ok (.bl (!b))
 | _ => .no
theorem ch6 (ha : RB Jn K cn E ta a) (hb : RE Jn K cn E [] tb b) : RE Jn K cn E [] (cn4 ta tb) (qY a b) := fun As H Z ρ σ F Q w => by
 unfold qY at w
 refine ha As H Z ρ σ F _ ?_
 cases e : a ρ with
 | ok t =>
  rw [e] at w
  intro v H1 Z1 B p
  cases t with
  | bl k =>
   have q := p.rep
   simp only [Rep] at q
   obtain ⟨rfl, rfl⟩ := q
   refine ⟨k, rfl, ?_⟩
   cases k with
   | true => rw [if_pos rfl]; exact hb As H1 Z1 ρ σ (F.mo p.mo) Q (WpE.mo F w p.mo)
   | false => rw [if_neg (by decide)]; exact WpE.bl (WpE.mo F w p.mo) p.zi
  | _ => exact False.elim w
 | ex x => rw [e] at w; exact w
 | no => rw [e] at w; exact w
theorem cv6 (ha : RB Jn K cn E ta a) : RE Jn K cn E [] (cw4 ta) (ax8 a) := fun As H Z ρ σ F Q w => by
 unfold ax8 at w
 refine ha As H Z ρ σ F _ ?_
 cases e : a ρ with
 | ok t =>
  rw [e] at w
  intro v H1 Z1 B p
  cases t with
  | bl k =>
   have q := p.rep
   simp only [Rep] at q
   obtain ⟨rfl, rfl⟩ := q
   exact ⟨k, rfl, WpE.bl (WpE.mo F w p.mo) p.zi⟩
  | _ => exact False.elim w
 | ex x => rw [e] at w; exact w
 | no => rw [e] at w; exact w
def dIf (c : Fr → Res Bool) (a b : Fr → Res T) : Fr → Res T := fun ρ => (c ρ).bind fun k => if k = true then a ρ else b ρ
theorem di4 (hc : RT Jn K cn E tt c) (ha : RE Jn K cn E [] ta a) (hb : RE Jn K cn E [] tb b) : RE Jn K cn E [] (tIf tt ta tb) (dIf c a b) := fun As H Z ρ σ F Q w => by
 unfold dIf at w
 refine hc As H Z ρ σ F _ ?_
 cases e : c ρ with
 | ok k =>
  rw [e] at w
  intro H1 Z1 p
  simp only [Res.bind] at w
  split
  · next h => rw [if_pos h] at w; exact ha As H1 Z1 ρ σ (F.mo p.mo) Q (WpE.mo F w p.mo)
  · next h => rw [if_neg h] at w; exact hb As H1 Z1 ρ σ (F.mo p.mo) Q (WpE.mo F w p.mo)
 | ex x => rw [e] at w; exact w
 | no => rw [e] at w; exact w
def toB : T → Res Bool
 | .bl b => .ok b
 | _ => .no
def bS (a : Fr → Res T) : Fr → Res Bool := fun ρ => (a ρ).bind toB
theorem bt3 (ha : RB Jn K cn E ta a) : RT Jn K cn E (br5 ta) (bS a) := fun As H Z ρ σ F Q w => by
 unfold bS at w
 refine ha As H Z ρ σ F _ ?_
 cases e : a ρ with
 | ok t =>
  rw [e] at w
  intro v H1 Z1 B p
  cases t with
  | bl k =>
   have q := p.rep
   simp only [Rep] at q
   obtain ⟨rfl, rfl⟩ := q
   exact ⟨k, rfl, w H1 Z1 p.mo.postT⟩
  | _ => exact False.elim w
 | ex x => rw [e] at w; exact w
 | no => rw [e] at w; exact w
def vR : T → Res Bool
 | .non => .ok false
 | .bl b => .ok b
 | .int i => .ok (i != 0)
 | .str x => if x.length ≤ sizeLine then .ok ((x.length : Int) != 0) else .no
 | .lst _ xs => .ok (!xs.isEmpty)
 | .tup xs => .ok (!xs.isEmpty)
 | _ => .no
def lC (a : Fr → Res T) : Fr → Res Bool := fun ρ => (a ρ).bind vR
theorem Reps.isEmpty (r : Reps K cn H Z ts vs A) : vs.isEmpty = ts.isEmpty := by
 have h := Reps.length ts r
 cases ts <;> cases vs <;> simp_all
theorem ce7 (r : Rep K cn H Z t v B) (h : vR t = .ok k) : av9 K v H k := by
 cases t with
 | non => simp only [Rep] at r; obtain ⟨rfl, _⟩ := r; cases h; rfl
 | bl b => simp only [Rep] at r; obtain ⟨rfl, _⟩ := r; cases h; rfl
 | int b => simp only [Rep] at r; obtain ⟨rfl, _⟩ := r; cases h; rfl
 | str b =>
  simp only [Rep] at r
  obtain ⟨rfl, _⟩ := r
  simp only [vR] at h
  split at h
  · cases h; exact ⟨by assumption, rfl⟩
  · cases h
 | lst o xs =>
  cases h
  cases o with
  | true =>
   simp only [Rep] at r
   obtain ⟨a, vs, B, rfl, rfl, e, r⟩ := r
   exact .inl ⟨vs, SqL.of e, by rw [r.isEmpty]⟩
  | false =>
   simp only [Rep] at r
   obtain ⟨a, vs, rfl, rfl, e, r⟩ := r
   exact .inl ⟨vs, e.sq, by rw [r.isEmpty]⟩
 | tup xs =>
  cases h
  simp only [Rep] at r
  obtain ⟨a, vs, rfl, e, r⟩ := r
  exact .inr (.inl ⟨vs, e, by rw [r.isEmpty]⟩)
 | ty _ => cases h
 | ins _ _ _ _ => cases h
theorem bp8 (h : vR t = .ex x) : False := by
 cases t <;> simp only [vR] at h <;> first | cases h | (split at h <;> cases h)
theorem cy9 (ha : RB Jn K cn E ta a) : RT Jn K cn E (fun σ H Q => ta σ H fun x H' => ∃ k, av9 K x H' k ∧ Q k H') (lC a) := fun As H Z ρ σ F Q w => by
 unfold lC at w
 refine ha As H Z ρ σ F _ ?_
 cases e : a ρ with
 | ok t =>
  rw [e] at w
  intro v H1 Z1 B p
  simp only [Res.bind] at w
  cases e2 : vR t with
  | ok k => rw [e2] at w; exact ⟨k, ce7 p.rep e2, w H1 Z1 p.mo.postT⟩
  | ex x => exact (bp8 e2).elim
  | no => rw [e2] at w; exact w.elim
 | ex x => rw [e] at w; exact w
 | no => rw [e] at w; exact w
def lE (c : Fr → Res Bool) : Fr → Res Bool := fun ρ => (c ρ).bind fun k => .ok (!k)
def vI (c d : Fr → Res Bool) : Fr → Res Bool := fun ρ => (c ρ).bind fun k => if k = true then d ρ else .ok false
def dOr (c d : Fr → Res Bool) : Fr → Res Bool := fun ρ => (c ρ).bind fun k => if k = true then .ok true else d ρ
theorem do1 (hc : RT Jn K cn E tt c) : RT Jn K cn E (cr8 tt) (lE c) := fun As H Z ρ σ F Q w => by
 unfold lE at w
 refine hc As H Z ρ σ F _ ?_
 cases e : c ρ with
 | ok k => rw [e] at w; exact fun H1 Z1 p => w H1 Z1 p
 | ex x => rw [e] at w; exact w
 | no => rw [e] at w; exact w
theorem cg9 (hc : RT Jn K cn E tt c) (hd : RT Jn K cn E uu d) : RT Jn K cn E (dt0 tt uu) (vI c d) := fun As H Z ρ σ F Q w => by
 unfold vI at w
 refine hc As H Z ρ σ F _ ?_
 cases e : c ρ with
 | ok k =>
  rw [e] at w
  intro H1 Z1 p
  cases k with
  | true => rw [if_pos rfl]; exact hd As H1 Z1 ρ σ (F.mo p.mo) Q (WpT.mo w p.mo)
  | false => rw [if_neg (by decide)]; exact w H1 Z1 p
 | ex x => rw [e] at w; exact w
 | no => rw [e] at w; exact w
theorem di5 (hc : RT Jn K cn E tt c) (hd : RT Jn K cn E uu d) : RT Jn K cn E (tOr tt uu) (dOr c d) := fun As H Z ρ σ F Q w => by
 unfold dOr at w
 refine hc As H Z ρ σ F _ ?_
 cases e : c ρ with
 | ok k =>
  rw [e] at w
  intro H1 Z1 p
  cases k with
  | false => rw [if_neg (by decide)]; exact hd As H1 Z1 ρ σ (F.mo p.mo) Q (WpT.mo w p.mo)
  | true => rw [if_pos rfl]; exact w H1 Z1 p
 | ex x => rw [e] at w; exact w
 | no => rw [e] at w; exact w
end
end TL
namespace TL
open PySem PySem.Spec PyProof.Rows L2
section
variable {Jn : iD} {K : PySem.W.Frag} {cn : Str → Option Addr} {E : XK}
structure di6 (K : PySem.W.Frag) (cn : Str → Option Addr) (As : List (List Addr)) (H : Hp) (Z : Addr → Prop) (mv : List Nat) (H' : Hp) (Z' : Addr → Prop) (ts : List T) (vs : List V) (B : List Addr) : Prop where
 mo : Mo H Z H' Z'
 rep : Reps K cn H' Z' ts vs B
 nd : B.Nodup
 bz : ∀ b ∈ B, ¬ Z' b
 bn : ∀ b ∈ B, H b = none ∨ ∃ i ∈ mv, b ∈ As.getD i []
def WpA (K : PySem.W.Frag) (cn : Str → Option Addr) (E : XK) (As : List (List Addr)) (H : Hp) (Z : Addr → Prop) (mv : List Nat) (Q : List V → Hp → Prop) : Res (List T) → Prop
 | .ok ts => ∀ vs H' Z' B, di6 K cn As H Z mv H' Z' ts vs B → Q vs H'
 | .ex x => WpX K cn E As H Z x
 | .no => False
def dd7 (K : PySem.W.Frag) (cn : Str → Option Addr) (E : XK) (As : List (List Addr)) (H : Hp) (Z : Addr → Prop) (Q : List V → Hp → Prop) : Res (List T) → Prop
 | .ok ts => ∀ vs H' Z' B, Mo H Z H' Z' → Reps K cn H' Z' ts vs B → Q vs H'
 | .ex x => WpX K cn E As H Z x
 | .no => False
def RA (Jn : iD) (K : PySem.W.Frag) (cn : Str → Option Addr) (E : XK) (mv : List Nat) (ta : TA) (d : Fr → Res (List T)) : Prop := ∀ As H Z ρ σ, Frm Jn K cn H Z ρ σ As → ∀ Q, WpA K cn E As H Z mv Q (d ρ) → ta σ H Q
def vY (Jn : iD) (K : PySem.W.Frag) (cn : Str → Option Addr) (E : XK) (ta : TA) (d : Fr → Res (List T)) : Prop := ∀ As H Z ρ σ, Frm Jn K cn H Z ρ σ As → ∀ Q, dd7 K cn E As H Z Q (d ρ) → ta σ H Q
def aJ : Fr → Res (List T) := fun _ => .ok []
def aE (a : Fr → Res T) (r : Fr → Res (List T)) : Fr → Res (List T) := fun ρ => (a ρ).bind fun t => (r ρ).bind fun ts => .ok (t :: ts)
theorem dh0 : RA Jn K cn E [] ba0 aJ := fun As H Z ρ σ F Q w => w [] H Z [] ⟨F.mo0, Reps.nil, List.nodup_nil, eC, eC⟩
theorem co6 : vY Jn K cn E ba0 aJ := fun As H Z ρ σ F Q w => w [] H Z [] F.mo0 Reps.nil
theorem cx2 {As : List (List Addr)} {a : Addr} : ∀ {i j : Nat}, As.flatten.Nodup → a ∈ As.getD i [] → a ∈ As.getD j [] → i = j := by
 induction As with
 | nil => intro i j _ h; simp at h
 | cons A As ih =>
  intro i j nd h1 h2
  rw [List.flatten_cons, List.nodup_append] at nd
  cases i with
  | zero =>
   cases j with
   | zero => rfl
   | succ j => exact absurd rfl (nd.2.2 a (by simpa using h1) a (bA (by simpa using h2)))
  | succ i =>
   cases j with
   | zero => exact absurd rfl (nd.2.2 a (by simpa using h2) a (bA (by simpa using h1)))
   | succ j => exact congrArg (· + 1) (ih (i := i) (j := j) nd.2.1 (by simpa using h1) (by simpa using h2))
theorem cs7 {mv mw : List Nat} {te : TE} {tr : TA} {a : Fr → Res T} {r : Fr → Res (List T)} (ha : RE Jn K cn E mv te a) (hr : RA Jn K cn E mw tr r) (hd : (mv.all fun i => !mw.contains i) = true := by rfl) : RA Jn K cn E (mv ++ mw) (an3 te tr) (aE a r) := fun As H Z ρ σ F Q w => by
 unfold aE at w
 refine ha As H Z ρ σ F _ ?_
 cases e : a ρ with
 | ok t =>
  rw [e] at w
  intro v H1 Z1 B p
  refine hr As H1 Z1 ρ σ (F.mo p.mo) _ ?_
  simp only [Res.bind] at w
  cases e2 : r ρ with
  | ok ts =>
   rw [e2] at w
   intro vs H2 Z2 B2 p2
   refine w (v :: vs) H2 Z2 (B ++ B2) ⟨p.mo.trans p2.mo, ?_, ?_, ?_, ?_⟩
   · simp only [Reps]
     exact ⟨v, vs, B, B2, rfl, rfl, p.rep.same p2.mo.same p2.mo.zz, p2.rep⟩
   · rw [List.nodup_append]
     refine ⟨p.nd, p2.nd, fun b hb c hc z => ?_⟩
     subst z
     obtain ⟨o, ho, _⟩ := p.rep.dom t b hb
     rcases p2.bn b hc with q | ⟨j, hj, q⟩
     · rw [ho] at q; cases q
     · rcases p.bn b hb with z | ⟨i, hi, z⟩
       · obtain ⟨o', ho', _⟩ := F.sl.dom b (bA q)
         rw [ho'] at z; cases z
       · have eij := cx2 F.nd z q
         subst eij
         have hh := List.all_eq_true.mp hd i hi
         simp at hh
         exact hh hj
   · intro b hb
     rcases List.mem_append.mp hb with hb | hb
     · intro z
       rcases p2.mo.zn b z with z | z
       · exact p.bz b hb z
       · obtain ⟨o, ho, _⟩ := p.rep.dom t b hb
         rw [ho] at z; cases z
     · exact p2.bz b hb
   · intro b hb
     rcases List.mem_append.mp hb with hb | hb
     · exact (p.bn b hb).imp_right fun ⟨i, hi, z⟩ => ⟨i, List.mem_append_left _ hi, z⟩
     · rcases p2.bn b hb with z | ⟨i, hi, z⟩
       · exact .inl (p.same.free z)
       · exact .inr ⟨i, List.mem_append_right _ hi, z⟩
  | ex x => rw [e2] at w; exact WpX.ev w p.mo.ev
  | no => rw [e2] at w; exact w
 | ex x => rw [e] at w; exact w
 | no => rw [e] at w; exact w
theorem cy0 (ha : RB Jn K cn E te a) (hr : vY Jn K cn E tr r) : vY Jn K cn E (an3 te tr) (aE a r) := fun As H Z ρ σ F Q w => by
 unfold aE at w
 refine ha As H Z ρ σ F _ ?_
 cases e : a ρ with
 | ok t =>
  rw [e] at w
  intro v H1 Z1 B p
  refine hr As H1 Z1 ρ σ (F.mo p.mo) _ ?_
  simp only [Res.bind] at w
  cases e2 : r ρ with
  | ok ts =>
   rw [e2] at w
   intro vs H2 Z2 B2 m2 r2
   refine w (v :: vs) H2 Z2 (B ++ B2) (p.mo.trans m2) ?_
   simp only [Reps]
   exact ⟨v, vs, B, B2, rfl, rfl, p.rep.same m2.same m2.zz, r2⟩
  | ex x => rw [e2] at w; exact WpX.ev w p.mo.ev
  | no => rw [e2] at w; exact w
 | ex x => rw [e] at w; exact w
 | no => rw [e] at w; exact w
def eY (r : Fr → Res (List T)) : Fr → Res T := fun ρ => (r ρ).bind fun ts => if ts.length ≤ sizeLine then .ok (.lst true ts) else .no
def dH (r : Fr → Res (List T)) : Fr → Res T := fun ρ => (r ρ).bind fun ts => if ts.length ≤ sizeLine then .ok (.tup ts) else .no
theorem Mo.new (o : HO) (hp : H p = none) (zi : ∀ a, Z a → H a ≠ none) : Mo H Z (L2.upd H p o) Z :=
 ⟨bm0 hp o, fun _ h => h, fun _ h => .inl h, fun a h => by
  by_cases e : a = p
  · subst e; rw [eM]; exact (fun z => nomatch z)
  · rw [cV e]; exact zi a h⟩
theorem ch8 (h : RA Jn K cn E mv ta r) : RE Jn K cn E mv (cd9 ta) (eY r) := fun As H Z ρ σ F Q w => by
 unfold eY at w
 refine h As H Z ρ σ F _ ?_
 cases e : r ρ with
 | ok ts =>
  rw [e] at w
  intro vs H1 Z1 B p
  simp only [Res.bind] at w
  split at w
  · next hl =>
    refine ⟨by rw [Reps.length ts p.rep]; exact hl, fun q hq => ?_⟩
    have hZ : ¬ Z1 q := fun z => p.mo.zi q z hq
    have m := Mo.new (.lst vs) hq p.mo.zi
    refine w (.ref q) _ Z1 (q :: B) ⟨(p.mo.trans m).same, (p.mo.trans m).zz, (p.mo.trans m).zn, m.zi, ?_, ?_, ?_, ?_⟩
    · simp only [Rep]
      exact ⟨q, vs, B, rfl, rfl, eM, p.rep.same m.same m.zz⟩
    · refine List.nodup_cons.mpr ⟨fun hb => ?_, p.nd⟩
      obtain ⟨o, ho, _⟩ := Reps.dom ts p.rep q hb
      rw [ho] at hq; cases hq
    · intro b hb
      rcases List.mem_cons.mp hb with rfl | hb
      · exact hZ
      · exact p.bz b hb
    · intro b hb
      rcases List.mem_cons.mp hb with rfl | hb
      · exact .inl (p.mo.same.free hq)
      · exact p.bn b hb
  · exact w.elim
 | ex x => rw [e] at w; exact w
 | no => rw [e] at w; exact w
theorem dp1 (h : RA Jn K cn E mv ta r) : RE Jn K cn E mv (cv9 ta) (dH r) := fun As H Z ρ σ F Q w => by
 unfold dH at w
 refine h As H Z ρ σ F _ ?_
 cases e : r ρ with
 | ok ts =>
  rw [e] at w
  intro vs H1 Z1 B p
  simp only [Res.bind] at w
  split at w
  · next hl =>
    refine ⟨by rw [Reps.length ts p.rep]; exact hl, fun q hq => ?_⟩
    have m := Mo.new (.tup vs) hq p.mo.zi
    refine w (.ref q) _ Z1 B ⟨(p.mo.trans m).same, (p.mo.trans m).zz, (p.mo.trans m).zn, m.zi, ?_, p.nd, p.bz, p.bn⟩
    simp only [Rep]
    exact ⟨q, vs, rfl, SqT.of eM, p.rep.same m.same m.zz⟩
  · exact w.elim
 | ex x => rw [e] at w; exact w
 | no => rw [e] at w; exact w
def xV (K : PySem.W.Frag) (cn : Str → Option Addr) (r : List V → Hp → VK → Prop) (f : List T → Res T) : Prop :=
 ∀ (E : XK) (As : List (List Addr)) (H : Hp) (Z : Addr → Prop) (ts : List T) (xs : List V) (A : List Addr) (Q : VK), (∀ a, Z a → H a ≠ none) → Reps K cn H Z ts xs A → WpE K cn E As H Z [] Q (f ts) → r xs H Q
def cU (f : List T → Res T) (r : Fr → Res (List T)) : Fr → Res T := fun ρ => (r ρ).bind f
theorem db4 (hr : xV K cn r f) (ha : vY Jn K cn E ta a) : RE Jn K cn E [] (tCB r ta) (cU f a) := fun As H Z ρ σ F Q w => by
 unfold cU at w
 refine ha As H Z ρ σ F _ ?_
 cases e : a ρ with
 | ok ts => rw [e] at w; exact fun vs H1 Z1 B m p => hr E As H1 Z1 ts vs B Q m.zi p (WpE.mo F w m)
 | ex x => rw [e] at w; exact w
 | no => rw [e] at w; exact w
def RMR (K : PySem.W.Frag) (cn : Str → Option Addr) (ty : String) (r : V → List V → Hp → VK → Prop) (f : T → List T → Res T) : Prop :=
 ∀ (E : XK) (As : List (List Addr)) (H : Hp) (Z : Addr → Prop) (t : T) (ts : List T) (x : V) (xs : List V) (A B : List Addr) (Q : VK), (∀ a, Z a → H a ≠ none) → Rep K cn H Z t x A → Reps K cn H Z ts xs B → WpE K cn E As H Z [] Q (f t ts) → r x xs H Q
def dBM (ok : T → Bool) (f : T → List T → Res T) (o : Fr → Res T) (r : Fr → Res (List T)) : Fr → Res T := fun ρ => (o ρ).bind fun t => if ok t = true then (r ρ).bind fun ts => f t ts else .no
def bb1 : T → Bool
 | .str _ => true
 | _ => false
def ai2 : T → Bool
 | .lst _ _ => true
 | _ => false
theorem bd8 (h : bb1 t = true) (r : Rep K cn H Z t v B) : tyV K "str" v H := by
 cases t with
 | str x => simp only [Rep] at r; obtain ⟨rfl, _⟩ := r; rfl
 | _ => cases h
theorem Rep.lstSq (r : Rep K cn H Z (.lst o ts) v B) : ∃ a vs C, v = .ref a ∧ SqS K H a vs ∧ Reps K cn H Z ts vs C ∧ C.Sublist B := by
 cases o with
 | true =>
  simp only [Rep] at r
  obtain ⟨a, vs, C, rfl, rfl, e, r⟩ := r
  exact ⟨a, vs, C, rfl, .inl (.inl e), r, List.sublist_cons_self _ _⟩
 | false =>
  simp only [Rep] at r
  obtain ⟨a, vs, rfl, rfl, e, r⟩ := r
  exact ⟨a, vs, [], rfl, e.sqS, r, List.Sublist.slnil⟩
theorem bn8 (h : ai2 t = true) (r : Rep K cn H Z t v B) : tyV K "list" v H := by
 cases t with
 | lst o xs => obtain ⟨a, vs, C, rfl, s, _⟩ := r.lstSq; exact .inl ⟨rfl, vs, s.sq⟩
 | _ => cases h
theorem cc4 (hty : ∀ {H : Hp} {Z : Addr → Prop} {t : T} {v : V} {B : List Addr}, ok t = true → Rep K cn H Z t v B → tyV K ty v H) (hr : RMR K cn ty r f)
 (ho : RB Jn K cn E to o) (ha : vY Jn K cn E ta a) : RE Jn K cn E [] (tBM K ty r to ta) (dBM ok f o a) := fun As H Z ρ σ F Q w => by
 unfold dBM at w
 refine ho As H Z ρ σ F _ ?_
 cases e : o ρ with
 | ok t =>
  rw [e] at w
  intro v H1 Z1 B p
  simp only [Res.bind] at w
  split at w
  · next hok =>
    refine ⟨hty hok p.rep, ha As H1 Z1 ρ σ (F.mo p.mo) _ ?_⟩
    cases e2 : a ρ with
    | ok ts => rw [e2] at w; exact fun vs H2 Z2 B2 m r2 => hr E As H2 Z2 t ts v vs B B2 Q m.zi (p.rep.same m.same m.zz) r2 (WpE.mo F w (p.mo.trans m))
    | ex x => rw [e2] at w; exact WpX.ev w p.mo.ev
    | no => rw [e2] at w; exact w
  · exact w.elim
 | ex x => rw [e] at w; exact w
 | no => rw [e] at w; exact w
def aQ (K : PySem.W.Frag) (cn : Str → Option Addr) (n : Nat) (F : List T → Res T) : Sp := fun vs H Q E => vs.length = n ∧ ∃ ts Z, (∀ a, Z a → H a ≠ none) ∧ Reps K cn H Z ts vs [] ∧ WpE K cn E [] H Z [] Q (F ts)
def bQ (n : Nat) (F : List T → Res T) (r : Fr → Res (List T)) : Fr → Res T := fun ρ => (r ρ).bind fun ts => if ts.length = n then match F (frzs ts) with
 | .ok t => if (eN t || bG ts) = true then .ok t else .no
 | _ => .no else .no
theorem de1 (ha : vY Jn K cn E ta a) : RE Jn K cn E [] (ds2 (aQ K cn n G) ta) (bQ n G a) := fun As H Z ρ σ F Q w => by
 unfold bQ at w
 refine ha As H Z ρ σ F _ ?_
 cases e : a ρ with
 | ok ts =>
  rw [e] at w
  intro vs H1 Z1 B m r1
  simp only [Res.bind] at w
  split at w
  · next hn =>
    refine ⟨by rw [Reps.length ts r1, hn], frzs ts, (fun a => Z1 a ∨ a ∈ B), fun a h => ?_, Reps.frz ts r1 (fun a h => .inl h) (fun a h => .inr h), ?_⟩
    · rcases h with h | h
      · exact m.zi a h
      · obtain ⟨o, q, _⟩ := Reps.dom ts r1 a h
        rw [q]
        exact (fun z => nomatch z)
    cases e2 : G (frzs ts) with
    | ok t =>
     rw [e2] at w
     intro v H2 Z2 C p
     simp only at w
     split at w
     · next hc =>
       rw [Bool.or_eq_true] at hc
       have bn : ∀ b ∈ C, H1 b = none := fun b hb => (p.bn b hb).resolve_right (fun ⟨i, hi, _⟩ => by cases hi)
       by_cases hcl : eN t = true
       · refine w v H2 Z1 C ⟨m.same.trans p.same, m.zz, fun a h => m.zn a h, fun a h => ?_, Rep.any t hcl p.rep, p.nd, fun b hb z => ?_, fun b hb => .inl (m.same.free (bn b hb))⟩
         · intro q
           exact m.zi a h (p.same.free q)
         · exact m.zi b z (bn b hb)
       · have hno := hc.resolve_left hcl
         have hB := Reps.bare ts hno r1
         subst hB
         refine w v H2 Z2 C ⟨m.same.trans p.same, fun a h => p.zz a (.inl (m.zz a h)), fun a h => ?_, p.zi, p.rep, p.nd, p.bz, fun b hb => .inl (m.same.free (bn b hb))⟩
         rcases p.zn a h with (h | h) | h
         · exact m.zn a h
         · cases h
         · exact .inr (m.same.free h)
     · exact w.elim
    | ex x => rw [e2] at w; exact w.elim
    | no => rw [e2] at w; exact w.elim
  · exact w.elim
 | ex x => rw [e] at w; exact w
 | no => rw [e] at w; exact w
def WpO (K : PySem.W.Frag) (cn : Str → Option Addr) (E : XK) (As : List (List Addr)) (H : Hp) (Z : Addr → Prop) (Q : Option Int → Hp → Prop) : Res (Option Int) → Prop
 | .ok o => ∀ H' Z', Mo H Z H' Z' → Q o H'
 | .ex x => WpX K cn E As H Z x
 | .no => False
def RO (Jn : iD) (K : PySem.W.Frag) (cn : Str → Option Addr) (E : XK) (t : TO) (d : Fr → Res (Option Int)) : Prop := ∀ As H Z ρ σ, Frm Jn K cn H Z ρ σ As → ∀ Q, WpO K cn E As H Z Q (d ρ) → t σ H Q
def iU : Fr → Res (Option Int) := fun _ => .ok none
def toI : T → Res (Option Int)
 | .int i => .ok (some i)
 | _ => .no
def jF (a : Fr → Res T) : Fr → Res (Option Int) := fun ρ => (a ρ).bind toI
theorem cr7 : RO Jn K cn E bn3 iU := fun As H Z ρ σ F Q w => w H Z F.mo0
theorem cf6 (ha : RB Jn K cn E te a) : RO Jn K cn E (cl4 te) (jF a) := fun As H Z ρ σ F Q w => by
 unfold jF at w
 refine ha As H Z ρ σ F _ ?_
 cases e : a ρ with
 | ok t =>
  rw [e] at w
  intro v H1 Z1 B p
  cases t with
  | int i =>
   have q := p.rep
   simp only [Rep] at q
   obtain ⟨rfl, rfl⟩ := q
   exact ⟨i, rfl, w H1 Z1 p.mo⟩
  | _ => exact False.elim w
 | ex x => rw [e] at w; exact w
 | no => rw [e] at w; exact w
def RSR (K : PySem.W.Frag) (cn : Str → Option Addr) (r : V → Option Int → Option Int → Hp → VK → Prop) (f : T → Option Int → Option Int → Res T) : Prop :=
 ∀ (E : XK) (As : List (List Addr)) (H : Hp) (Z : Addr → Prop) (t : T) (x : V) (A : List Addr) (lo hi : Option Int) (Q : VK), (∀ a, Z a → H a ≠ none) → Rep K cn H Z t x A → WpE K cn E As H Z [] Q (f t lo hi) → r x lo hi H Q
def uK (f : T → Option Int → Option Int → Res T) (a : Fr → Res T) (l h : Fr → Res (Option Int)) : Fr → Res T := fun ρ => (a ρ).bind fun t => (l ρ).bind fun lo => (h ρ).bind fun hi => f t lo hi
theorem da4 (hr : RSR K cn r f) (ha : RB Jn K cn E te a) (hl : RO Jn K cn E tl l) (hh : RO Jn K cn E th h) : RE Jn K cn E [] (tSl r te tl th) (uK f a l h) := fun As H Z ρ σ F Q w => by
 unfold uK at w
 refine ha As H Z ρ σ F _ ?_
 cases e : a ρ with
 | ok t =>
  rw [e] at w
  intro v H1 Z1 B p
  refine hl As H1 Z1 ρ σ (F.mo p.mo) _ ?_
  simp only [Res.bind] at w
  cases e2 : l ρ with
  | ok lo =>
   rw [e2] at w
   intro H2 Z2 m2
   have m12 := p.mo.trans m2
   refine hh As H2 Z2 ρ σ (F.mo m12) _ ?_
   simp only at w
   cases e3 : h ρ with
   | ok hi =>
    rw [e3] at w
    intro H3 Z3 m3
    exact hr E As H3 Z3 t v B lo hi Q m3.zi (p.rep.same (m2.same.trans m3.same) fun a h => m3.zz a (m2.zz a h)) (WpE.mo F w (m12.trans m3))
   | ex x => rw [e3] at w; exact WpX.ev w m12.ev
   | no => rw [e3] at w; exact w
  | ex x => rw [e2] at w; exact WpX.ev w p.mo.ev
  | no => rw [e2] at w; exact w
 | ex x => rw [e] at w; exact w
 | no => rw [e] at w; exact w
end
end TL
namespace TL
open PySem PySem.Spec PyProof.Rows L2
section
variable {Jn : iD} {K : PySem.W.Frag} {cn : Str → Option Addr} {E : XK}
def SqF (fz k : Bool) (K : PySem.W.Frag) (H : Hp) (Z : Addr → Prop) (l : Addr) (xs : List V) : Prop := cond k (SqT K H l xs) (if fz = true then FzL K H Z l xs else SqL K H l xs)
def gO (ts us : List T) : List T := List.zipWith (fun t u => T.tup [t, u]) ts us
def aa0 (ts : List T) : List T := List.zipWith (fun i t => T.tup [.int (i : Nat), t]) (List.range ts.length) ts
def Src (K : PySem.W.Frag) (cn : Str → Option Addr) (fz : Bool) (H : Hp) (Z : Addr → Prop) (J : It) (ts : List T) : Prop :=
 (∃ a vs, J = Itl K a ∧ (if fz = true then FzL K H Z a vs else SqL K H a vs) ∧ Reps K cn H Z ts vs []) ∨
 (∃ a vs, J = Itt K a ∧ SqT K H a vs ∧ Reps K cn H Z ts vs []) ∨
 (∃ (lo : Int) (n : Nat), J = Itr lo n ∧ ts = (List.range n).map fun i => T.int (lo + (i : Nat))) ∨
 (∃ z : Str, J = Its z ∧ ts = z.cps.toList.map fun c => T.str ⟨#[c]⟩) ∨
 (∃ k1 k2 l1 l2 vs ws us us', J = Itz K k1 k2 l1 l2 ∧ SqF fz k1 K H Z l1 vs ∧ SqF fz k2 K H Z l2 ws ∧ Reps K cn H Z us vs [] ∧ Reps K cn H Z us' ws [] ∧ ts = gO us us') ∨
 (∃ l vs us, J = Ite K l ∧ SqF fz false K H Z l vs ∧ Reps K cn H Z us vs [] ∧ ts = aa0 us)
theorem ap5 (h : if fz = true then FzL K H Z a vs else SqL K H a vs) : SqL K H a vs := by
 cases fz with
 | true => rw [if_pos rfl] at h; exact h.sq
 | false => rw [if_neg (by decide)] at h; exact h
theorem SqF.sq (h : SqF fz k K H Z l xs) : xX k K H l xs := by
 cases k with
 | true => exact h
 | false => exact ap5 h
theorem au6 : ∀ {us us' : List T} {i : Nat}, (gO us us')[i]? = some t → ∃ t1 t2, us[i]? = some t1 ∧ us'[i]? = some t2 ∧ t = .tup [t1, t2] := by
 intro us us' i h
 unfold gO at h
 rw [List.getElem?_zipWith] at h
 cases h1 : us[i]? with
 | none => rw [h1] at h; cases h
 | some t1 =>
  cases h2 : us'[i]? with
  | none => rw [h1, h2] at h; cases h
  | some t2 =>
   rw [h1, h2] at h
   exact ⟨t1, t2, rfl, rfl, (Option.some.inj h).symm⟩
theorem yM (us us' : List T) : (gO us us').length = min us.length us'.length := by simp [gO]
theorem an7 (us : List T) : (aa0 us).length = us.length := by simp [aa0]
theorem ak7 {t : T} {us : List T} {i : Nat} (h : (aa0 us)[i]? = some t) : ∃ t2, us[i]? = some t2 ∧ t = .tup [.int i, t2] := by
 unfold aa0 at h
 rw [List.getElem?_zipWith] at h
 cases h2 : us[i]? with
 | none => rw [h2] at h; cases q : (List.range us.length)[i]? <;> rw [q] at h <;> cases h
 | some t2 =>
  have hi := (List.getElem?_eq_some_iff.mp h2).1
  rw [h2, List.getElem?_range hi] at h
  exact ⟨t2, rfl, (Option.some.inj h).symm⟩
theorem bq0 (ex : x = .ref p) (hp : H p = some (.tup [v1, v2])) (h1 : Rep K cn H Z t1 v1 []) (h2 : Rep K cn H Z t2 v2 []) : Rep K cn H Z (.tup [t1, t2]) x [] := by
 simp only [Rep]
 refine ⟨p, [v1, v2], ex, SqT.of hp, ?_⟩
 simp only [Reps]
 exact ⟨v1, [v2], [], [], rfl, rfl, h1, v2, [], [], [], rfl, rfl, h2, rfl, rfl⟩
theorem Src.turn {fz : Bool} {H : Hp} {Z : Addr → Prop} {J : It} {ts : List T} {i : Nat} {t : T} (h : Src K cn fz H Z J ts) (zi : ∀ a, Z a → H a ≠ none) (e : ts[i]? = some t) : J.go i H ∧ ∀ x H', J.yld i H x H' → Mo H Z H' Z ∧ Rep K cn H' Z t x [] := by
 have m0 : Mo H Z H Z := ⟨Same.refl _, fun _ h => h, fun _ h => .inl h, zi⟩
 rcases h with ⟨a, vs, rfl, hs, r⟩ | ⟨a, vs, rfl, hs, r⟩ | ⟨lo, n, rfl, rfl⟩ | ⟨z, rfl, rfl⟩ | ⟨k1, k2, l1, l2, vs, ws, us, us', rfl, q1, q2, r1, r2, rfl⟩ | ⟨l, vs, us, rfl, q1, r1, rfl⟩
 · obtain ⟨v, B, ev, rv, hB, _⟩ := Reps.get ts r e
   have hs := ap5 hs
   have eB : B = [] := List.eq_nil_iff_forall_not_mem.mpr fun b hb => by cases hB b hb
   subst eB
   refine ⟨⟨vs, v, hs, ev⟩, fun x H' ⟨e1, e2⟩ => ⟨e1 ▸ m0, ?_⟩⟩
   subst e1
   have := e2 vs hs
   rw [ev] at this
   cases this
   exact rv
 · obtain ⟨v, B, ev, rv, hB, _⟩ := Reps.get ts r e
   have eB : B = [] := List.eq_nil_iff_forall_not_mem.mpr fun b hb => by cases hB b hb
   subst eB
   refine ⟨⟨vs, v, hs, ev⟩, fun x H' ⟨e1, e2⟩ => ⟨e1 ▸ m0, ?_⟩⟩
   subst e1
   have := e2 vs hs
   rw [ev] at this
   cases this
   exact rv
 · rw [List.getElem?_map] at e
   cases q : (List.range n)[i]? with
   | none => rw [q] at e; cases e
   | some j =>
    rw [q] at e
    obtain ⟨h1, h2⟩ := List.getElem?_eq_some_iff.mp q
    simp at h1 h2
    subst h2
    cases e
    refine ⟨h1, fun x H' ⟨e1, e2⟩ => ⟨e1 ▸ m0, ?_⟩⟩
    subst e1
    subst e2
    simp [Rep]
 · rw [List.getElem?_map] at e
   cases q : z.cps.toList[i]? with
   | none => rw [q] at e; cases e
   | some c =>
    rw [q] at e
    cases e
    have h1 := (List.getElem?_eq_some_iff.mp q).1
    refine ⟨show i < z.cps.size by simpa using h1, fun x H' ⟨e1, c', e2, e3⟩ => ⟨e1 ▸ m0, ?_⟩⟩
    subst e1
    rw [← Array.getElem?_toList] at e2
    rw [q] at e2
    cases e2
    subst e3
    simp [Rep]
 · obtain ⟨t1, t2, e1, e2, rfl⟩ := au6 e
   obtain ⟨v1, B1, ev1, rv1, hB1, _⟩ := Reps.get us r1 e1
   obtain ⟨v2, B2, ev2, rv2, hB2, _⟩ := Reps.get us' r2 e2
   have n1 : B1 = [] := List.eq_nil_iff_forall_not_mem.mpr fun b hb => by cases hB1 b hb
   have n2 : B2 = [] := List.eq_nil_iff_forall_not_mem.mpr fun b hb => by cases hB2 b hb
   subst n1 n2
   refine ⟨⟨vs, ws, v1, v2, q1.sq, q2.sq, ev1, ev2⟩, fun x H' ⟨p, hp, ex, h⟩ => ?_⟩
   obtain ⟨y1, y2, f1, f2, rfl⟩ := h vs ws q1.sq q2.sq
   rw [ev1] at f1
   rw [ev2] at f2
   cases f1
   cases f2
   have m := Mo.new (.tup [v1, v2]) hp zi
   exact ⟨m, bq0 ex eM (rv1.same m.same m.zz) (rv2.same m.same m.zz)⟩
 · obtain ⟨t2, e2, rfl⟩ := ak7 e
   obtain ⟨v2, B2, ev2, rv2, hB2, _⟩ := Reps.get us r1 e2
   have n2 : B2 = [] := List.eq_nil_iff_forall_not_mem.mpr fun b hb => by cases hB2 b hb
   subst n2
   refine ⟨⟨vs, v2, q1.sq, ev2⟩, fun x H' ⟨p, hp, ex, h⟩ => ?_⟩
   obtain ⟨y2, f2, rfl⟩ := h vs q1.sq
   rw [ev2] at f2
   cases f2
   have m := Mo.new (.tup [.int i, v2]) hp zi
   exact ⟨m, bq0 ex eM (by simp [Rep]) (rv2.same m.same m.zz)⟩
theorem Src.stop (h : Src K cn fz H Z J ts) (e : ts.length ≤ i) : J.stop i H := by
 rcases h with ⟨a, vs, rfl, hs, r⟩ | ⟨a, vs, rfl, hs, r⟩ | ⟨lo, n, rfl, rfl⟩ | ⟨z, rfl, rfl⟩ | ⟨k1, k2, l1, l2, vs, ws, us, us', rfl, q1, q2, r1, r2, rfl⟩ | ⟨l, vs, us, rfl, q1, r1, rfl⟩
 · exact ⟨vs, ap5 hs, by rw [Reps.length ts r]; exact e⟩
 · exact ⟨vs, hs, by rw [Reps.length ts r]; exact e⟩
 · show n ≤ i
   simpa using e
 · have : z.cps.size ≤ i := by simpa using e
   exact this
 · refine ⟨vs, ws, q1.sq, q2.sq, ?_⟩
   rw [Reps.length us r1, Reps.length us' r2]
   rw [yM] at e
   omega
 · refine ⟨vs, q1.sq, ?_⟩
   rw [Reps.length us r1]
   rw [an7] at e
   exact e
theorem Same.sqT (e : Same H H') (h : SqT K H a xs) : SqT K H' a xs := SqT.keep h fun b o q _ => e b o q
theorem SqF.mo (h : SqF fz k K H Z l xs) (m : Mo H Z H' Z') : SqF fz k K H' Z' l xs := by
 cases k with
 | true => exact Same.sqT m.same h
 | false =>
  cases fz with
  | true => exact FzL.keep (show FzL K H Z l xs from h) (fun b o q _ => m.same b o q) m.zz
  | false => exact m.same.seq (show SqL K H l xs from h)
theorem SqF.kept (h : SqF true k K H Z l xs) (kz : ∀ b o, H b = some o → (Z b ∨ uJ o = true) → H' b = some o) (hz : ∀ a, Z a → Z' a) : SqF true k K H' Z' l xs := by
 cases k with
 | true => exact SqT.keep (show SqT K H l xs from h) fun b o q c => kz b o q (.inr c)
 | false => exact FzL.keep (show FzL K H Z l xs from h) kz hz
theorem Src.mo (h : Src K cn fz H Z J ts) (m : Mo H Z H' Z') : Src K cn fz H' Z' J ts := by
 rcases h with ⟨a, vs, rfl, hs, r⟩ | ⟨a, vs, rfl, hs, r⟩ | h | h | ⟨k1, k2, l1, l2, vs, ws, us, us', rfl, q1, q2, r1, r2, rfl⟩ | ⟨l, vs, us, rfl, q1, r1, rfl⟩
 · refine .inl ⟨a, vs, rfl, ?_, r.same m.same m.zz⟩
   cases fz with
   | true => rw [if_pos rfl] at hs ⊢; exact hs.keep (fun b o q _ => m.same b o q) m.zz
   | false => rw [if_neg (by decide)] at hs ⊢; exact m.same.seq hs
 · exact .inr (.inl ⟨a, vs, rfl, Same.sqT m.same hs, r.same m.same m.zz⟩)
 · exact .inr (.inr (.inl h))
 · exact .inr (.inr (.inr (.inl h)))
 · exact .inr (.inr (.inr (.inr (.inl ⟨k1, k2, l1, l2, vs, ws, us, us', rfl, q1.mo m, q2.mo m, r1.same m.same m.zz, r2.same m.same m.zz, rfl⟩))))
 · exact .inr (.inr (.inr (.inr (.inr ⟨l, vs, us, rfl, q1.mo m, r1.same m.same m.zz, rfl⟩))))
theorem Src.ev (h : Src K cn true H Z J ts) (F : Frm Jn K cn H Z ρ σ As) (e : Ev As H Z As' H' Z') : Src K cn true H' Z' J ts := by
 have kz : ∀ b o, H b = some o → (Z b ∨ uJ o = true) → H' b = some o := fun b o q c => e.keep b o q fun hb => by
  rcases c with c | c
  · exact F.nz b hb c
  · obtain ⟨o', q', i'⟩ := F.sl.dom b hb
    rw [q] at q'
    cases q'
    rw [c] at i'
    cases i'
 rcases h with ⟨a, vs, rfl, hs, r⟩ | ⟨a, vs, rfl, hs, r⟩ | h | h | ⟨k1, k2, l1, l2, vs, ws, us, us', rfl, q1, q2, r1, r2, rfl⟩ | ⟨l, vs, us, rfl, q1, r1, rfl⟩
 · rw [if_pos rfl] at hs
   refine .inl ⟨a, vs, rfl, ?_, Reps.keep ts r (fun b o q c => kz b o q (c.resolve_left ((fun z => nomatch z)))) e.zz⟩
   rw [if_pos rfl]
   exact hs.keep kz e.zz
 · exact .inr (.inl ⟨a, vs, rfl, SqT.keep hs (fun b o q c => kz b o q (.inr c)), Reps.keep ts r (fun b o q c => kz b o q (c.resolve_left ((fun z => nomatch z)))) e.zz⟩)
 · exact .inr (.inr (.inl h))
 · exact .inr (.inr (.inr (.inl h)))
 · exact .inr (.inr (.inr (.inr (.inl ⟨k1, k2, l1, l2, vs, ws, us, us', rfl, q1.kept kz e.zz, q2.kept kz e.zz, Reps.keep us r1 (fun b o q c => kz b o q (c.resolve_left ((fun z => nomatch z)))) e.zz, Reps.keep us' r2 (fun b o q c => kz b o q (c.resolve_left ((fun z => nomatch z)))) e.zz, rfl⟩))))
 · exact .inr (.inr (.inr (.inr (.inr ⟨l, vs, us, rfl, q1.kept kz e.zz, Reps.keep us r1 (fun b o q c => kz b o q (c.resolve_left ((fun z => nomatch z)))) e.zz, rfl⟩))))
def WpI (K : PySem.W.Frag) (cn : Str → Option Addr) (E : XK) (fz : Bool) (As : List (List Addr)) (H : Hp) (Z : Addr → Prop) (R : It → Hp → Prop) : Res (List T) → Prop
 | .ok ts => ∀ J H' Z', Mo H Z H' Z' → Src K cn fz H' Z' J ts → R J H'
 | .ex x => WpX K cn E As H Z x
 | .no => False
def RI (Jn : iD) (K : PySem.W.Frag) (cn : Str → Option Addr) (E : XK) (fz : Bool) (wi : TI) (d : Fr → Res (List T)) : Prop := ∀ As H Z ρ σ, Frm Jn K cn H Z ρ σ As → ∀ R, WpI K cn E fz As H Z R (d ρ) → wi σ H R
noncomputable def gate {α : Type} (p : Prop) (a : Res α) : Res α := @ite _ p (Classical.propDecidable p) a .no
theorem bv8 (a : Res α) : gate True a = a := by unfold gate; rw [if_pos trivial]
theorem xH (h : p) : gate p a = a := by unfold gate; rw [if_pos h]
theorem WpI.gate (w : WpI K cn E fz As H Z R (TL.gate p r)) : p ∧ WpI K cn E fz As H Z R r := by
 unfold TL.gate at w
 split at w
 · exact ⟨by assumption, w⟩
 · exact w.elim
theorem WpE.gate (w : WpE K cn E As H Z mv Q (TL.gate p r)) : p ∧ WpE K cn E As H Z mv Q r := by
 unfold TL.gate at w
 split at w
 · exact ⟨by assumption, w⟩
 · exact w.elim
def jE (lo : Int) (n : Nat) : List T := (List.range n).map fun i => T.int (lo + (i : Nat))
noncomputable def qG : List T → Res (List T)
 | [.int j] => gate (-(2 ^ 62) ≤ j ∧ j < 2 ^ 62) (.ok (jE 0 j.toNat))
 | _ => .no
noncomputable def bx4 : List T → Res (List T)
 | [.int i, .int j] => gate (-(2 ^ 62) ≤ i ∧ i < 2 ^ 62 ∧ -(2 ^ 62) ≤ j ∧ j < 2 ^ 62) (.ok (jE i (j - i).toNat))
 | _ => .no
def iO (f : List T → Res (List T)) (a : Fr → Res (List T)) : Fr → Res (List T) := fun ρ => (a ρ).bind f
theorem Reps.ints1 (r : Reps K cn H Z [.int i] vs A) : vs = [.int i] := by
 simp only [Reps, Rep] at r
 obtain ⟨v, w, B, C, rfl, rfl, ⟨rfl, rfl⟩, rfl, rfl⟩ := r
 rfl
theorem Reps.ints2 (r : Reps K cn H Z [.int i, .int j] vs A) : vs = [.int i, .int j] := by
 simp only [Reps, Rep] at r
 obtain ⟨v, w, B, C, rfl, rfl, ⟨rfl, rfl⟩, v2, w2, B2, C2, rfl, rfl, ⟨rfl, rfl⟩, rfl, rfl⟩ := r
 rfl
theorem cp6 (ha : vY Jn K cn E ta a) : RI Jn K cn E fz (cp4 ta) (iO qG a) := fun As H Z ρ σ F R w => by
 unfold iO at w
 refine ha As H Z ρ σ F _ ?_
 cases e : a ρ with
 | ok ts =>
  rw [e] at w
  intro vs H1 Z1 B m r
  simp only [Res.bind] at w
  unfold qG at w
  split at w
  · next j =>
    obtain ⟨hb, w⟩ := w.gate
    exact ⟨j, r.ints1, hb.1, hb.2, w (Itr 0 j.toNat) H1 Z1 m (.inr (.inr (.inl ⟨0, j.toNat, rfl, rfl⟩)))⟩
  · exact w.elim
 | ex x => rw [e] at w; exact w
 | no => rw [e] at w; exact w
theorem ci6 (ha : vY Jn K cn E ta a) : RI Jn K cn E fz (ca4 ta) (iO bx4 a) := fun As H Z ρ σ F R w => by
 unfold iO at w
 refine ha As H Z ρ σ F _ ?_
 cases e : a ρ with
 | ok ts =>
  rw [e] at w
  intro vs H1 Z1 B m r
  simp only [Res.bind] at w
  unfold bx4 at w
  split at w
  · next i j =>
    obtain ⟨hb, w⟩ := w.gate
    exact ⟨i, j, r.ints2, hb, w (Itr i (j - i).toNat) H1 Z1 m (.inr (.inr (.inl ⟨i, _, rfl, rfl⟩)))⟩
  · exact w.elim
 | ex x => rw [e] at w; exact w
 | no => rw [e] at w; exact w
def iV (K : PySem.W.Frag) (tl : TE) : TI := fun σ H R => tl σ H fun x H1 => (∃ a, x = .ref a ∧ (((∃ xs, SqL K H1 a xs) ∧ R (Itl K a) H1) ∨ ((∃ xs, SqT K H1 a xs) ∧ R (Itt K a) H1))) ∨ ∃ z, x = .str z ∧ R (Its z) H1
def jV : T → Res (List T)
 | .lst _ ts => if bG ts = true then .ok ts else .no
 | .tup ts => if bG ts = true then .ok ts else .no
 | .str z => .ok (z.cps.toList.map fun c => T.str ⟨#[c]⟩)
 | _ => .no
def wB : T → Res (List T)
 | .lst o ts => if (!o && bG ts) = true then .ok ts else .no
 | .tup ts => if bG ts = true then .ok ts else .no
 | .str z => .ok (z.cps.toList.map fun c => T.str ⟨#[c]⟩)
 | _ => .no
def iL (f : T → Res (List T)) (a : Fr → Res T) : Fr → Res (List T) := fun ρ => (a ρ).bind f
theorem Reps.bareE (r : Reps K cn H Z ts vs A) (h : bG ts = true) : Reps K cn H Z ts vs [] := by
 have := Reps.bare ts h r
 subst this
 exact r
theorem dh7 (ha : RB Jn K cn E tl a) : RI Jn K cn E false (iV K tl) (iL jV a) := fun As H Z ρ σ F R w => by
 unfold iL at w
 refine ha As H Z ρ σ F _ ?_
 cases e : a ρ with
 | ok t =>
  rw [e] at w
  intro v H1 Z1 B p
  simp only [Res.bind] at w
  cases t with
  | lst o ts =>
   simp only [jV] at w
   split at w
   · next hn =>
     obtain ⟨b, vs, C, rfl, hs, r, _⟩ := p.rep.lstSq
     have hs := hs.sq
     exact .inl ⟨b, rfl, .inl ⟨⟨vs, hs⟩, w _ H1 Z1 p.mo (.inl ⟨b, vs, rfl, by rw [if_neg (by decide)]; exact hs, r.bareE hn⟩)⟩⟩
   · exact w.elim
  | tup ts =>
   simp only [jV] at w
   split at w
   · next hn =>
     have q := p.rep
     simp only [Rep] at q
     obtain ⟨b, vs, rfl, hs, r⟩ := q
     exact .inl ⟨b, rfl, .inr ⟨⟨vs, hs⟩, w _ H1 Z1 p.mo (.inr (.inl ⟨b, vs, rfl, hs, r.bareE hn⟩))⟩⟩
   · exact w.elim
  | str z =>
   have q := p.rep
   simp only [Rep] at q
   obtain ⟨rfl, _⟩ := q
   exact .inr ⟨z, rfl, w _ H1 Z1 p.mo (.inr (.inr (.inr (.inl ⟨z, rfl, rfl⟩))))⟩
  | _ => exact w.elim
 | ex x => rw [e] at w; exact w
 | no => rw [e] at w; exact w
theorem dt7 (ha : RB Jn K cn E tl a) : RI Jn K cn E true (iV K tl) (iL wB a) := fun As H Z ρ σ F R w => by
 unfold iL at w
 refine ha As H Z ρ σ F _ ?_
 cases e : a ρ with
 | ok t =>
  rw [e] at w
  intro v H1 Z1 B p
  simp only [Res.bind] at w
  cases t with
  | lst o ts =>
   simp only [wB] at w
   split at w
   · next hn =>
     rw [Bool.and_eq_true] at hn
     cases o with
     | true => exact absurd hn.1 (by decide)
     | false =>
      have q := p.rep
      simp only [Rep] at q
      obtain ⟨b, vs, rfl, rfl, hs, r⟩ := q
      exact .inl ⟨b, rfl, .inl ⟨⟨vs, hs.sq⟩, w _ H1 Z1 p.mo (.inl ⟨b, vs, rfl, by rw [if_pos rfl]; exact hs, r⟩)⟩⟩
   · exact w.elim
  | tup ts =>
   simp only [wB] at w
   split at w
   · next hn =>
     have q := p.rep
     simp only [Rep] at q
     obtain ⟨b, vs, rfl, hs, r⟩ := q
     exact .inl ⟨b, rfl, .inr ⟨⟨vs, hs⟩, w _ H1 Z1 p.mo (.inr (.inl ⟨b, vs, rfl, hs, r.bareE hn⟩))⟩⟩
   · exact w.elim
  | str z =>
   have q := p.rep
   simp only [Rep] at q
   obtain ⟨rfl, _⟩ := q
   exact .inr ⟨z, rfl, w _ H1 Z1 p.mo (.inr (.inr (.inr (.inl ⟨z, rfl, rfl⟩))))⟩
  | _ => exact w.elim
 | ex x => rw [e] at w; exact w
 | no => rw [e] at w; exact w
def ar1 (fz : Bool) : T → Option (List T)
 | .lst o ts => if ((!fz || !o) && bG ts) = true then some ts else none
 | .tup ts => if bG ts = true then some ts else none
 | _ => none
def be0 (fz : Bool) : List T → Res (List T)
 | [t, u] => match ar1 fz t, ar1 fz u with
  | some ts, some us => .ok (gO ts us)
  | _, _ => .no
 | _ => .no
def bm5 (fz : Bool) : List T → Res (List T)
 | [.lst o ts] => if ((!fz || !o) && bG ts) = true then .ok (aa0 ts) else .no
 | _ => .no
theorem ba4 (r : Rep K cn H Z (.lst o ts) v A) (hc : ((!fz || !o) && bG ts) = true) : ∃ l vs, v = .ref l ∧ SqF fz false K H Z l vs ∧ Reps K cn H Z ts vs [] := by
 rw [Bool.and_eq_true] at hc
 cases o with
 | true =>
  simp only [Rep] at r
  obtain ⟨a, vs, B, rfl, rfl, e, r⟩ := r
  cases fz with
  | true => simp at hc
  | false => exact ⟨a, vs, rfl, SqL.of e, r.bareE hc.2⟩
 | false =>
  simp only [Rep] at r
  obtain ⟨a, vs, rfl, rfl, e, r⟩ := r
  cases fz with
  | true => exact ⟨a, vs, rfl, e, r⟩
  | false => exact ⟨a, vs, rfl, e.sq, r⟩
theorem bj3 (r : Rep K cn H Z t v A) (h : ar1 fz t = some ts) : ∃ k l vs, v = .ref l ∧ SqF fz k K H Z l vs ∧ Reps K cn H Z ts vs [] := by
 cases t with
 | lst o us =>
  simp only [ar1] at h
  split at h
  · next hc =>
    cases h
    exact ⟨false, ba4 r hc⟩
  · cases h
 | tup us =>
  simp only [ar1] at h
  split at h
  · next hc =>
    cases h
    simp only [Rep] at r
    obtain ⟨a, vs, rfl, e, r⟩ := r
    exact ⟨true, a, vs, rfl, e, r.bareE hc⟩
  · cases h
 | _ => simp [ar1] at h
theorem ck8 (ha : vY Jn K cn E ta a) : RI Jn K cn E fz (cw0 K ta) (iO (be0 fz) a) := fun As H Z ρ σ F R w => by
 unfold iO at w
 refine ha As H Z ρ σ F _ ?_
 cases e : a ρ with
 | ok ts =>
  rw [e] at w
  intro vs H1 Z1 B m r1
  simp only [Res.bind] at w
  unfold be0 at w
  split at w
  · next t u =>
    split at w
    · next p q h1 h2 =>
      simp only [Reps] at r1
      obtain ⟨v, r', B1, C1, rfl, rfl, ra, v2, r2, B2, C2, rfl, rfl, rb, rfl, rfl⟩ := r1
      obtain ⟨k1, l1, us, rfl, s1, p1⟩ := bj3 ra h1
      obtain ⟨k2, l2, us', rfl, s2, p2⟩ := bj3 rb h2
      exact ⟨k1, k2, l1, l2, rfl, ⟨_, s1.sq⟩, ⟨_, s2.sq⟩, w _ H1 Z1 m (.inr (.inr (.inr (.inr (.inl ⟨k1, k2, l1, l2, us, us', _, _, rfl, s1, s2, p1, p2, rfl⟩)))))⟩
    · exact w.elim
  · exact w.elim
 | ex x => rw [e] at w; exact w
 | no => rw [e] at w; exact w
theorem cq6 (ha : vY Jn K cn E ta a) : RI Jn K cn E fz (bw5 K ta) (iO (bm5 fz) a) := fun As H Z ρ σ F R w => by
 unfold iO at w
 refine ha As H Z ρ σ F _ ?_
 cases e : a ρ with
 | ok ts =>
  rw [e] at w
  intro vs H1 Z1 B m r1
  simp only [Res.bind] at w
  unfold bm5 at w
  split at w
  · next o ts =>
    split at w
    · next hc =>
      simp only [Reps] at r1
      obtain ⟨v, r', B1, C1, rfl, rfl, ra, rfl, rfl⟩ := r1
      obtain ⟨l1, us, rfl, s1, p1⟩ := ba4 (fz := fz) ra hc
      exact ⟨l1, rfl, ⟨_, s1.sq⟩, w _ H1 Z1 m (.inr (.inr (.inr (.inr (.inr ⟨l1, us, _, rfl, s1, p1, rfl⟩)))))⟩
    · exact w.elim
  · exact w.elim
 | ex x => rw [e] at w; exact w
 | no => rw [e] at w; exact w
def RG (Jn : iD) (K : PySem.W.Frag) (cn : Str → Option Addr) (ks : List Nat) (g : TG) (b : T → Fr → Option Fr) : Prop :=
 ∀ As H Z ρ σ t v B, Frm Jn K cn H Z ρ σ As → Rep K cn H Z t v B → B.Nodup → (∀ x ∈ B, ¬ Z x) → (∀ x ∈ B, x ∉ As.flatten) → ∀ (Q : St → Hp → Prop) ρ', b t ρ = some ρ' →
  (∀ σ' As', Frm Jn K cn H Z ρ' σ' As' → (∀ a ∈ As'.flatten, a ∈ As.flatten ∨ a ∈ B) → σ'.length = σ.length → (∀ i, i ∉ ks → σ'[i]? = σ[i]?) → Q σ' H) → g v σ H Q
structure RGs (Jn : iD) (K : PySem.W.Frag) (cn : Str → Option Addr) (ks : List Nat) (n : Nat) (g : TGs) (b : List T → Fr → Option Fr) : Prop where
 len : ∀ ts ρ ρ', b ts ρ = some ρ' → ts.length = n
 run : ∀ As H Z ρ σ ts vs B, Frm Jn K cn H Z ρ σ As → Reps K cn H Z ts vs B → B.Nodup → (∀ x ∈ B, ¬ Z x) → (∀ x ∈ B, x ∉ As.flatten) → ∀ (Q : St → Hp → Prop) ρ', b ts ρ = some ρ' →
  (∀ σ' As', Frm Jn K cn H Z ρ' σ' As' → (∀ a ∈ As'.flatten, a ∈ As.flatten ∨ a ∈ B) → σ'.length = σ.length → (∀ i, i ∉ ks → σ'[i]? = σ[i]?) → Q σ' H) → g vs σ H Q
def aK (i : Nat) : T → Fr → Option Fr := fun t ρ => some (ρ.set i (some t))
def gA : List T → Fr → Option Fr
 | [], ρ => some ρ
 | _ :: _, _ => none
def bN (b : T → Fr → Option Fr) (bs : List T → Fr → Option Fr) : List T → Fr → Option Fr
 | [], _ => none
 | t :: ts, ρ => match b t ρ with
  | some ρ1 => bs ts ρ1
  | none => none
def fS (bs : List T → Fr → Option Fr) : T → Fr → Option Fr
 | .tup ts, ρ => bs ts ρ
 | _, _ => none
theorem be3 (i : Nat) (hJ : zX Jn i = true := by rfl) : RG Jn K cn [i] (bp5 i) (aK i) := fun As H Z ρ σ t v B F r nd bz bo Q ρ' e h => by
 cases e
 refine h _ (As.set i B) (F.set r nd bz i (fun b hb hA => absurd hA (bo b hb)) hJ) (fun a ha => (gY ha).symm) (by rw [List.length_set]) fun j hj => ?_
 rw [List.getElem?_set_ne (fun z => hj (by rw [z]; exact List.mem_cons_self))]
theorem ch5 : RGs Jn K cn [] 0 da0 gA where
 len := fun ts ρ ρ' e => by
  cases ts with
  | nil => rfl
  | cons _ _ => cases e
 run := fun As H Z ρ σ ts vs B F r nd bz bo Q ρ' e h => by
  cases ts with
  | nil =>
   cases e
   simp only [Reps] at r
   exact ⟨r.1, h σ As F (fun a ha => .inl ha) rfl fun _ _ => rfl⟩
  | cons _ _ => cases e
theorem cz2 (h1 : RG Jn K cn ks g b) (h2 : RGs Jn K cn ls n gs bs) : RGs Jn K cn (ks ++ ls) (n + 1) (bo5 g gs) (bN b bs) where
 len := fun ts ρ ρ' e => by
  cases ts with
  | nil => cases e
  | cons t ts =>
   simp only [bN] at e
   cases e1 : b t ρ with
   | none => rw [e1] at e; cases e
   | some ρ1 => rw [e1] at e; rw [List.length_cons, h2.len ts ρ1 ρ' e]
 run := fun As H Z ρ σ ts vs B F r nd bz bo Q ρ' e h => by
  cases ts with
  | nil => cases e
  | cons t ts =>
   simp only [bN] at e
   cases e1 : b t ρ with
   | none => rw [e1] at e; cases e
   | some ρ1 =>
    rw [e1] at e
    simp only [Reps] at r
    obtain ⟨v, vs', B1, B2, rfl, rfl, r1, r2⟩ := r
    rw [List.nodup_append] at nd
    refine ⟨v, vs', rfl, h1 As H Z ρ σ t v B1 F r1 nd.1 (fun x hx => bz x (List.mem_append_left _ hx)) (fun x hx => bo x (List.mem_append_left _ hx)) _ ρ1 e1 fun σ1 As1 F1 o1 l1 k1 => ?_⟩
    refine h2.run As1 H Z ρ1 σ1 ts vs' B2 F1 r2 nd.2.1 (fun x hx => bz x (List.mem_append_right _ hx)) (fun x hx hA => ?_) Q ρ' e fun σ2 As2 F2 o2 l2 k2 => ?_
    · rcases o1 x hA with z | z
      · exact bo x (List.mem_append_right _ hx) z
      · exact nd.2.2 x z x hx rfl
    · refine h σ2 As2 F2 (fun a ha => ?_) (l2.trans l1) fun i hi => ?_
      · rcases o2 a ha with z | z
        · exact (o1 a z).imp_right (List.mem_append_left _)
        · exact .inr (List.mem_append_right _ z)
      · rw [k2 i (fun z => hi (List.mem_append_right _ z)), k1 i (fun z => hi (List.mem_append_left _ z))]
theorem dw1 (h : RGs Jn K cn ks n gs bs) : RG Jn K cn ks (cl0 K n gs) (fS bs) := fun As H Z ρ σ t v B F r nd bz bo Q ρ' e h' => by
 cases t with
 | tup ts =>
  simp only [fS] at e
  simp only [Rep] at r
  obtain ⟨a, vs, rfl, hs, r⟩ := r
  exact ⟨a, vs, rfl, hs, by rw [Reps.length ts r]; exact h.len ts ρ ρ' e, h.run As H Z ρ σ ts vs B F r nd bz bo Q ρ' e h'⟩
 | _ => cases e
def cG (b : T → Fr → Option Fr) (c : Fr → Res Bool) (d : Fr → Res T) (ρ : Fr) : List T → Res (List T)
 | [] => .ok []
 | t :: ts => match b t ρ with
  | none => .no
  | some ρ1 => (c ρ1).bind fun k => if k = true then (d ρ1).bind fun u => (cG b c d ρ ts).bind fun us => .ok (u :: us) else cG b c d ρ ts
def eO (ks : List Nat) (di : Fr → Res (List T)) (b : T → Fr → Option Fr) (c : Fr → Res Bool) (d : Fr → Res T) : Fr → Res T := fun ρ =>
 (di ρ).bind fun ts => if ts.length ≤ sizeLine then (cG b c d (kills ks ρ) ts).bind fun us => .ok (.lst true us) else .no
def dG : Fr → Res Bool := fun _ => .ok true
theorem dg0 : RT Jn K cn E cj8 dG := fun As H Z ρ σ F Q w => w H Z F.mo0.postT
theorem Slots.clr (ks : List Nat) : ∀ {ρ : Fr} {σ : St} {As : List (List Addr)}, Slots K cn H Z ρ σ As → Slots K cn H Z (kills ks ρ) (L2.clr ks σ) (fH ks As) := by
 induction ks with
 | nil => exact fun h => h
 | cons k ks ih => exact fun h => ih (h.kill2 none k)
def wH (Jn : iD) (ks : List Nat) : Bool := ks.all (zX Jn)
theorem ah3 : ∀ (ks : List Nat) {σ : St}, wH Jn ks = true → (∀ p ∈ Jn, σ[p.1]? = some (some p.2)) → ∀ p ∈ Jn, (L2.clr ks σ)[p.1]? = some (some p.2)
 | [], _, _, q => q
 | k :: ks, σ, h, q => by
  unfold wH at h
  rw [List.all_cons, Bool.and_eq_true] at h
  exact ah3 ks h.2 (av6 h.1 none q)
theorem Frm.clr (ks : List Nat) (F : Frm Jn K cn H Z ρ σ As) (hk : wH Jn ks = true) : Frm Jn K cn H Z (TL.kills ks ρ) (L2.clr ks σ) (fH ks As) :=
 ⟨F.sl.clr ks, (F.kills ks).nd, (F.kills ks).nz, F.zi, ah3 ks hk F.pn⟩
theorem cj7 (hg : RG Jn K cn ks g b) (hc : RT Jn K cn E tc c) (he : RE Jn K cn E [] te d) (hk : wH Jn ks = true)
 (F : Frm Jn K cn H Z ρ σ As) (hs : Src K cn false H Z J ts) (hl : ts.length ≤ sizeLine)
 (w : WpE K cn E As H Z [] Q ((cG b c d (kills ks ρ) ts).bind fun us => .ok (.lst true us))) : CGo ks g tc te σ (fun D H' => Q (.ref D) H') J H := by
 let R (us : List T) (rest : List T) : Res T := (cG b c d (kills ks ρ) rest).bind fun us' => .ok (.lst true (us ++ us'))
 refine ⟨fun i m ys H' => m = ts.length - i ∧ i ≤ ts.length ∧ ∃ us Z' B, Mo H Z H' Z' ∧ Reps K cn H' Z' us ys B ∧ B.Nodup ∧ (∀ x ∈ B, ¬ Z' x ∧ H x = none) ∧ us.length ≤ i ∧ WpE K cn E As H Z [] Q (R us (ts.drop i)), ⟨ts.length, by simp, Nat.zero_le _, [], Z, [], F.mo0, Reps.nil, List.nodup_nil, eC, Nat.le_refl _, ?_⟩, ?_⟩
 · simpa [R] using w
 rintro i m ys H1 ⟨rfl, hi, us, Z1, B, m1, r1, nd, bz, hul, w⟩
 have hyl := Reps.length us r1
 have s1 := hs.mo m1
 by_cases hlt : i < ts.length
 · obtain ⟨t, et⟩ : ∃ t, ts[i]? = some t := ⟨ts[i], List.getElem?_eq_getElem hlt⟩
   obtain ⟨go, yl⟩ := s1.turn m1.zi et
   have ed : ts.drop i = t :: ts.drop (i + 1) := by
    have := List.getElem?_eq_some_iff.mp et
    obtain ⟨h1, h2⟩ := this
    rw [← h2]
    exact List.drop_eq_getElem_cons hlt
   refine .inr ⟨go, by omega, _, fun ys' H' p' => ⟨ts.length - (i + 1), by omega, p'⟩, fun x H' y => ?_⟩
   obtain ⟨my, rx⟩ := yl x H' y
   have r1 := r1.same my.same my.zz
   have m1 := m1.trans my
   have F1 := (F.mo m1).clr ks hk
   rw [ed] at w
   simp only [R, cG] at w
   cases eb : b t (kills ks ρ) with
   | none => rw [eb] at w; exact w.elim
   | some ρ1 =>
    rw [eb] at w
    simp only at w
    refine hg (fH ks As) H' Z1 (kills ks ρ) (L2.clr ks σ) t x [] F1 rx List.nodup_nil (eC) (eC) _ ρ1 eb fun σ2 As2 F2 o2 l2 k2 => ⟨⟨?_, fun j v hj => ?_⟩, ?_⟩
    · rw [l2, oX]
    · have := (as4 ks σ hj).2
      rw [k2 j this, hj]
    refine hc As2 H' Z1 ρ1 σ2 F2 _ ?_
    have toX : ∀ {x : Exc} {H2 : Hp} {Z2 : Addr → Prop}, Mo H' Z1 H2 Z2 → WpX K cn E As H Z x → WpX K cn E As2 H2 Z2 x := by
     intro x H2 Z2 m2 h
     refine h.ev (m1.trans m2).ev |>.ev ⟨fun _ _ q _ => q, fun a ha => ?_, fun _ q => q, fun _ q => .inl q, fun _ q => q⟩
     rcases o2 a ha with z | z
     · exact .inl (eU z)
     · cases z
    cases ec : c ρ1 with
    | ok k =>
     rw [ec] at w
     intro H2 Z2 p2
     simp only [Res.bind] at w
     cases k with
     | true =>
      rw [if_pos rfl] at w
      rw [if_pos rfl]
      refine he As2 H2 Z2 ρ1 σ2 (F2.mo p2.mo) _ ?_
      cases ee : d ρ1 with
      | ok u =>
       rw [ee] at w
       intro v H3 Z3 C p3
       have m3 := (m1.trans p2.mo).trans p3.mo
       have bnC : ∀ y ∈ C, H2 y = none := fun y hy => (p3.bn y hy).resolve_right (fun ⟨i, hi, _⟩ => by cases hi)
       refine ⟨rfl, hlt, us ++ [u], Z3, B ++ C, m3, Reps.append us (r1.same (p2.same.trans p3.same) (fun a h => p3.zz a (p2.zz a h))) (Reps.one p3.rep), ?_, ?_, by simp; omega, ?_⟩
       · rw [List.nodup_append]
         refine ⟨nd, p3.nd, fun x hx y hy e => ?_⟩
         subst e
         obtain ⟨o, ho, _⟩ := Reps.dom us r1 x hx
         have := bnC x hy
         rw [p2.same x o ho] at this
         cases this
       · intro x hx
         rcases List.mem_append.mp hx with hx | hx
         · refine ⟨fun z => ?_, (bz x hx).2⟩
           obtain ⟨o, ho, _⟩ := Reps.dom us r1 x hx
           rcases (p2.mo.trans p3.mo).zn x z with z | z
           · exact (bz x hx).1 z
           · rw [ho] at z; cases z
         · exact ⟨p3.bz x hx, (m1.trans p2.mo).same.free (bnC x hx)⟩
       · simp only [R]
         have : ∀ r : Res (List T), ((r.bind fun us' => Res.ok (u :: us')).bind fun us' => Res.ok (T.lst true (us ++ us'))) = r.bind fun us' => Res.ok (T.lst true (us ++ [u] ++ us')) := by
          intro r
          cases r <;> simp [Res.bind]
         simp only at w
         rw [← this]
         exact w
      | ex x => rw [ee] at w; exact toX p2.mo w
      | no => rw [ee] at w; exact w.elim
     | false =>
      rw [if_neg (by decide)] at w
      rw [if_neg (by decide)]
      refine ⟨rfl, hlt, us, Z2, B, m1.trans p2.mo, r1.same p2.same p2.zz, nd, fun x hx => ⟨fun z => ?_, (bz x hx).2⟩, by omega, w⟩
      obtain ⟨o, ho, _⟩ := Reps.dom us r1 x hx
      rcases p2.zn x z with z | z
      · exact (bz x hx).1 z
      · rw [ho] at z; cases z
    | ex x => rw [ec] at w; exact toX ⟨Same.refl _, fun _ h => h, fun _ h => .inl h, m1.zi⟩ w
    | no => rw [ec] at w; exact w.elim
 · have ei : i = ts.length := by omega
   subst ei
   refine .inl ⟨s1.stop (Nat.le_refl _), fun D hD => ?_⟩
   rw [List.drop_length] at w
   simp only [R, cG, Res.bind, List.append_nil] at w
   have hm := m1.trans (Mo.new (.lst ys) hD m1.zi)
   refine w (.ref D) _ Z1 (D :: B) ⟨hm.same, hm.zz, hm.zn, hm.zi, ?_, ?_, ?_, ?_⟩
   · simp only [Rep]
     exact ⟨D, ys, B, rfl, rfl, eM, r1.same (bm0 hD _) (fun _ h => h)⟩
   · refine List.nodup_cons.mpr ⟨fun hb => ?_, nd⟩
     obtain ⟨o, ho, _⟩ := Reps.dom us r1 D hb
     rw [ho] at hD; cases hD
   · intro x hx
     rcases List.mem_cons.mp hx with rfl | hx
     · exact fun z => m1.zi _ z hD
     · exact (bz x hx).1
   · intro x hx
     rcases List.mem_cons.mp hx with rfl | hx
     · exact .inl (m1.same.free hD)
     · exact .inl (bz x hx).2
theorem by3 (hi : RI Jn K cn E false wi di) (hg : RG Jn K cn ks g b) (hc : RT Jn K cn E tc c) (he : RE Jn K cn E [] te d) (hk : wH Jn ks = true := by rfl) :
 RE Jn K cn E [] (ck4 ks wi g tc te) (eO ks di b c d) := fun As H Z ρ σ F Q w => by
 unfold eO at w
 refine hi As H Z ρ σ F _ ?_
 cases e : di ρ with
 | ok ts =>
  rw [e] at w
  intro J H1 Z1 m s
  simp only [Res.bind] at w
  split at w
  · next hl => exact cj7 hg hc he hk (F.mo m) s hl (WpE.mo F w m)
  · exact w.elim
 | ex x => rw [e] at w; exact w
 | no => rw [e] at w; exact w
def sSeq (a b : Fr → cO) : Fr → cO := fun ρ => match a ρ with
 | .nx ρ' => b ρ'
 | o => o
def cP : Fr → cO := fun ρ => .nx ρ
theorem cf5 : RS Jn K cn E ct4 cP := fun As H Z ρ σ F D w => w σ As H Z F Ev.refl
theorem dd0 (ha : RS Jn K cn E t a) (hb : RS Jn K cn E u b) : RS Jn K cn E (ct9 t u) (sSeq a b) := fun As H Z ρ σ F D w => by
 unfold sSeq at w
 refine ha As H Z ρ σ F _ ?_
 cases e : a ρ with
 | nx ρ' =>
  rw [e] at w
  exact fun σ' As' H' Z' F' ev => hb As' H' Z' ρ' σ' F' D (Wp.ev w ev)
 | bk ρ' => rw [e] at w; exact w
 | ct ρ' => rw [e] at w; exact w
 | rt t => rw [e] at w; exact w
 | ex x => rw [e] at w; exact w
 | no => rw [e] at w; exact w
def bJ (mv : List Nat) (d : Fr → Res T) (b : T → Fr → Option Fr) : Fr → cO := fun ρ => match d ρ with
 | .ok t => match b t (kills mv ρ) with
  | some ρ' => .nx ρ'
  | none => .no
 | .ex x => .ex x
 | .no => .no
theorem Post.out (F : Frm Jn K cn H Z ρ σ As) (p : Post K cn As H Z mv H' Z' t v B) : ∀ x ∈ B, x ∉ (fH mv As).flatten := fun x hx hA => by
 rcases p.bn x hx with z | ⟨i, hi, z⟩
 · obtain ⟨o, ho, _⟩ := F.sl.dom x (eU hA)
   rw [ho] at z; cases z
 · exact zL F.nd hi z hA
theorem Post.inA (p : Post K cn As H Z mv H' Z' t v B) : ∀ x ∈ B, x ∈ As.flatten ∨ H x = none := fun x hx => by
 rcases p.bn x hx with z | ⟨i, hi, z⟩
 · exact .inr z
 · exact .inl (bA z)
theorem bx6 (he : RE Jn K cn E mv te d) (hg : RG Jn K cn ks g b) : RS Jn K cn E (by5 te g) (bJ mv d b) := fun As H Z ρ σ F D w => by
 unfold bJ at w
 refine he As H Z ρ σ F _ ?_
 cases e : d ρ with
 | ok t =>
  rw [e] at w
  intro v H1 Z1 B p
  simp only at w
  cases eb : b t (kills mv ρ) with
  | none => rw [eb] at w; exact w.elim
  | some ρ' =>
   rw [eb] at w
   refine hg (fH mv As) H1 Z1 (kills mv ρ) σ t v B ((F.mo p.mo).kills mv) p.rep p.nd p.bz (p.out F) _ ρ' eb fun σ' As' F' o' _ _ => ?_
   refine w σ' As' H1 Z1 F' ⟨fun a o h _ => p.same a o h, fun a ha => ?_, p.zz, fun a h => (p.zn a h).imp_right .inr, fun a h => p.same.free h⟩
   rcases o' a ha with z | z
   · exact .inl (eU z)
   · exact p.inA a z
 | ex x => rw [e] at w; exact w
 | no => rw [e] at w; exact w
theorem ba5 (hi : RI Jn K cn E false wi di) (hg : RG Jn K cn ks g b) (hc : RT Jn K cn E tc c) (he : RE Jn K cn E [] te d) (hk : wH Jn ks = true := by rfl) (hJ : zX Jn k = true := by rfl) :
 RS Jn K cn E (bp1 k ks wi g tc te) (bJ [] (eO ks di b c d) (aK k)) := fun As H Z ρ σ F D w =>
 bx6 (by3 hi hg hc he hk) (be3 k hJ) As H Z ρ σ F D w
def bT (mv : List Nat) (d : Fr → Res T) : Fr → cO := fun ρ => match d ρ with
 | .ok t => .rt t
 | .ex x => .ex x
 | .no => .no
theorem dj1 (he : RE Jn K cn E mv te d) : RS Jn K cn E (dy2 te) (bT mv d) := fun As H Z ρ σ F D w => by
 unfold bT at w
 refine he As H Z ρ σ F _ ?_
 cases e : d ρ with
 | ok t =>
  rw [e] at w
  intro v H1 Z1 B p
  refine w v H1 Z1 B ⟨⟨fun a o h _ => p.same a o h, fun a ha => ?_, p.zz, fun a h => (p.zn a h).imp_right .inr, fun a h => p.same.free h⟩, p.rep, p.nd, p.bz, p.zi⟩
  rw [List.flatten_cons, List.flatten_nil, List.append_nil] at ha
  exact p.inA a ha
 | ex x => rw [e] at w; exact w
 | no => rw [e] at w; exact w
def dP (c : Fr → Res Bool) (a b : Fr → cO) : Fr → cO := fun ρ => match c ρ with
 | .ok k => if k = true then a ρ else b ρ
 | .ex x => .ex x
 | .no => .no
theorem df4 (hc : RT Jn K cn E tt c) (ha : RS Jn K cn E t a) (hb : RS Jn K cn E u b) : RS Jn K cn E (di0 tt t u) (dP c a b) := fun As H Z ρ σ F D w => by
 unfold dP at w
 refine hc As H Z ρ σ F _ ?_
 cases e : c ρ with
 | ok k =>
  rw [e] at w
  intro H1 Z1 p
  simp only at w
  split
  · next h => rw [if_pos h] at w; exact ha As H1 Z1 ρ σ (F.mo p.mo) D (Wp.ev w p.mo.ev)
  · next h => rw [if_neg h] at w; exact hb As H1 Z1 ρ σ (F.mo p.mo) D (Wp.ev w p.mo.ev)
 | ex x => rw [e] at w; exact w
 | no => rw [e] at w; exact w
def dz4 (d : Fr → Res T) : Fr → cO := fun ρ => match d ρ with
 | .ok _ => .nx ρ
 | .ex x => .ex x
 | .no => .no
def dw2 : Fr → cO := fun ρ => .bk ρ
def dd6 : Fr → cO := fun ρ => .ct ρ
def eT (b : T → Fr → Option Fr) (body : Fr → cO) : List T → Fr → cO
 | [], ρ => .nx ρ
 | t :: ts, ρ => match b t ρ with
  | none => .no
  | some ρ1 => match body ρ1 with
   | .nx ρ2 => eT b body ts ρ2
   | .ct ρ2 => eT b body ts ρ2
   | .bk ρ2 => .nx ρ2
   | o => o
def lD (di : Fr → Res (List T)) (b : T → Fr → Option Fr) (body : Fr → cO) : Fr → cO := fun ρ => match di ρ with
 | .ok ts => eT b body ts ρ
 | .ex x => .ex x
 | .no => .no
theorem de0 (hi : RI Jn K cn E true wi di) (hg : RG Jn K cn ks g b) (hb : RS Jn K cn E tb body) : RS Jn K cn E (dd1 wi g tb) (lD di b body) := fun As H Z ρ σ F D w => by
 unfold lD at w
 refine hi As H Z ρ σ F _ ?_
 cases e : di ρ with
 | ok ts =>
  rw [e] at w
  intro J H1 Z1 m s
  refine ⟨fun i k σ' H' => k = ts.length - i ∧ i ≤ ts.length ∧ ∃ ρ' Z' As', Frm Jn K cn H' Z' ρ' σ' As' ∧ Src K cn true H' Z' J ts ∧ Wp Jn K cn E As' H' Z' D (eT b body (ts.drop i) ρ'), ⟨ts.length, by simp, Nat.zero_le _, ρ, Z1, As, F.mo m, s, Wp.ev w m.ev⟩, ?_⟩
  rintro i k σ1 H2 ⟨rfl, hle, ρ1, Z2, As1, F1, s1, w1⟩
  by_cases hlt : i < ts.length
  · obtain ⟨t, et⟩ : ∃ t, ts[i]? = some t := ⟨ts[i], List.getElem?_eq_getElem hlt⟩
    obtain ⟨go, yl⟩ := s1.turn F1.zi et
    have ed : ts.drop i = t :: ts.drop (i + 1) := by
     obtain ⟨h1, h2⟩ := List.getElem?_eq_some_iff.mp et
     rw [← h2]
     exact List.drop_eq_getElem_cons hlt
    refine .inr ⟨go, _, fun σ' H' p' => ⟨ts.length - (i + 1), by omega, p'⟩, fun x H' y => ?_⟩
    obtain ⟨my, rx⟩ := yl x H' y
    have F1 := F1.mo my
    have s1 := s1.mo my
    have w1 := Wp.ev w1 (my.ev (As := As1))
    rw [ed] at w1
    simp only [eT] at w1
    cases eb : b t ρ1 with
    | none => rw [eb] at w1; exact w1.elim
    | some ρ2 =>
     rw [eb] at w1
     simp only at w1
     refine hg As1 H' Z2 ρ1 σ1 t x [] F1 rx List.nodup_nil (eC) (eC) _ ρ2 eb fun σ2 As2 F2 o2 _ _ => ?_
     have ev2 : Ev As1 H' Z2 As2 H' Z2 := ⟨fun _ _ q _ => q, fun a ha => .inl ((o2 a ha).resolve_right ((fun z => nomatch z))), fun _ q => q, fun _ q => .inl q, fun _ q => q⟩
     refine hb As2 H' Z2 ρ2 σ2 F2 _ ?_
     have w2 := Wp.ev w1 ev2
     cases eo : body ρ2 with
     | nx ρ3 =>
      rw [eo] at w2
      exact fun σ' As' H'' Z' F' ev => ⟨rfl, hlt, ρ3, Z', As', F', (s1.ev F1 ev2).ev F2 ev, Wp.ev w2 ev⟩
     | ct ρ3 =>
      rw [eo] at w2
      exact fun σ' As' H'' Z' F' ev => ⟨rfl, hlt, ρ3, Z', As', F', (s1.ev F1 ev2).ev F2 ev, Wp.ev w2 ev⟩
     | bk ρ3 => rw [eo] at w2; exact w2
     | rt t => rw [eo] at w2; exact w2
     | ex x => rw [eo] at w2; exact w2
     | no => rw [eo] at w2; exact w2
  · have ei : i = ts.length := by omega
    subst ei
    rw [List.drop_length] at w1
    exact .inl ⟨s1.stop (Nat.le_refl _), w1 σ1 As1 H2 Z2 F1 Ev.refl⟩
 | ex x => rw [e] at w; exact w
 | no => rw [e] at w; exact w
end
end TL
namespace TL
open PySem PySem.Spec PyProof.Rows L2
section
variable {Jn : iD} {K : PySem.W.Frag} {cn : Str → Option Addr} {E : XK}
def xC (t' : T) : List Nat → T → Option T
 | [], _ => some t'
 | k :: p, .lst o ts => match ts[k]? with
  | some t => (xC t' p t).map fun u => .lst o (ts.set k u)
  | none => none
 | k :: p, .tup ts => match ts[k]? with
  | some t => (xC t' p t).map fun u => .tup (ts.set k u)
  | none => none
 | k :: p, .ins o c ns ts => match ts[k]? with
  | some t => (xC t' p t).map fun u => .ins o c ns (ts.set k u)
  | none => none
 | _ :: _, _ => none
structure Plug (K : PySem.W.Frag) (cn : Str → Option Addr) (H : Hp) (Z : Addr → Prop) (t0 : T) (v0 : V) (A0 : List Addr) (p : List Nat) (u : T) (v : V) (B : List Addr) : Prop where
 rep : Rep K cn H Z u v B
 sub : B.Sublist A0
 plug : ∀ H' Z' u' B', (∀ a, Z a → Z' a) → (∀ b o, H b = some o → ((b ∈ A0 ∧ b ∉ B) ∨ Z b ∨ uJ o = true) → H' b = some o) → Rep K cn H' Z' u' v B' → B'.Nodup → (∀ x ∈ B', x ∈ A0 → x ∈ B) →
  ∃ t' A', xC u' p t0 = some t' ∧ Rep K cn H' Z' t' v0 A' ∧ A'.Nodup ∧ ∀ x ∈ A', (x ∈ A0 ∧ x ∉ B) ∨ x ∈ B'
theorem Plug.mo (h : Plug K cn H Z t0 v0 A0 p u v B) (s : Same H H1) (zz : ∀ a, Z a → Z1 a) : Plug K cn H1 Z1 t0 v0 A0 p u v B :=
 ⟨h.rep.same s zz, h.sub, fun H' Z' u' B' z k => h.plug H' Z' u' B' (fun a q => z a (zz a q)) fun b o q c => k b o (s b o q) (by
  rcases c with c | c | c
  · exact .inl c
  · exact .inr (.inl (zz b c))
  · exact .inr (.inr c))⟩
theorem Plug.root (h : Rep K cn H Z t0 v0 A0) : Plug K cn H Z t0 v0 A0 [] t0 v0 A0 :=
 ⟨h, List.Sublist.refl _, fun H' Z' u' B' z k r nd _ => ⟨u', B', rfl, r, nd, fun x hx => .inr hx⟩⟩
def lU : List Nat → T → Option T
 | [], t => some t
 | k :: p, .lst _ ts => (ts[k]?).bind (lU p)
 | k :: p, .tup ts => (ts[k]?).bind (lU p)
 | k :: p, .ins _ _ _ ts => (ts[k]?).bind (lU p)
 | _ :: _, _ => none
def WpP (K : PySem.W.Frag) (cn : Str → Option Addr) (E : XK) (As : List (List Addr)) (H : Hp) (Z : Addr → Prop) (A0 : List Addr) (t0 : T) (v0 : V) (Q : VK) : Res (List Nat) → Prop
 | .ok p => ∀ u v B H' Z', Mo H Z H' Z' → lU p t0 = some u → Plug K cn H' Z' t0 v0 A0 p u v B → Q v H'
 | .ex x => WpX K cn E As H Z x
 | .no => False
def RP (Jn : iD) (K : PySem.W.Frag) (cn : Str → Option Addr) (E : XK) (j : Nat) (to : TE) (d : Fr → Res (List Nat)) : Prop := ∀ As H Z ρ σ, Frm Jn K cn H Z ρ σ As → ∀ t0 v0, ρ[j]? = some (some t0) → σ[j]? = some (some v0) → Rep K cn H Z t0 v0 (As.getD j []) → ∀ Q, WpP K cn E As H Z (As.getD j []) t0 v0 Q (d ρ) → to σ H Q
def eD : Fr → Res (List Nat) := fun _ => .ok []
theorem dr2 (j : Nat) : RP Jn K cn E j (ax9 j) eD := fun As H Z ρ σ F t0 v0 e1 e2 r Q w => ⟨v0, e2, w t0 v0 _ H Z F.mo0 rfl (Plug.root r)⟩
def dr7 : T → Option (List T)
 | .lst o ts => if o = true then some ts else none
 | .tup ts => some ts
 | _ => none
def pIx (j : Nat) (d : Fr → Res (List Nat)) (i : Fr → Res T) : Fr → Res (List Nat) := fun ρ => (d ρ).bind fun p => (i ρ).bind fun x => match ρ[j]?, x with
 | some (some t0), .int n => match (lU p t0).bind dr7 with
  | some ts => match tH ts.length n with
   | some k => .ok (p ++ [k])
   | none => .no
  | none => .no
 | _, _ => .no
theorem sX {As : List (List Addr)} (h : As.flatten.Nodup) (i : Nat) : (As.getD i []).Nodup := by
 rw [List.getD_eq_getElem?_getD]
 cases q : As[i]? with
 | none => exact List.nodup_nil
 | some C => exact List.Nodup.sublist (List.sublist_flatten_of_mem (List.mem_of_getElem? q)) h
theorem dp0 (h : tH n i = some k) : k < n := (aj5 h).2.1
def ak2 (j : Nat) (p : List Nat) (us : List T) (ρ : Fr) : cO := match ρ[j]? with
 | some (some t0) => match xC (.lst true us) p t0 with
  | some t' => .nx (ρ.set j (some t'))
  | none => .no
 | _ => .no
def am9 (j : Nat) (p : List Nat) (u : T) (ρ : Fr) : cO := match ρ[j]? with
 | some (some t0) => match xC u p t0 with
  | some t' => .nx (ρ.set j (some t'))
  | none => .no
 | _ => .no
theorem aq5 {As As1 : List (List Addr)} {H H1 : Hp} {Z Z1 : Addr → Prop} {ρ1 : Fr} {σ : St} {j : Nat} {t0 : T} {v0 : V} {p : List Nat} {u u' : T} {v : V} {B : List Addr} {D : aa1}
 (F1 : Frm Jn K cn H1 Z1 ρ1 σ As1) (e1 : ρ1[j]? = some (some t0)) (e2 : σ[j]? = some (some v0)) (pl : Plug K cn H1 Z1 t0 v0 (As1.getD j []) p u v B)
 {a : Addr} {o0 o1 : HO} {C0 C : List Addr} (ev : v = .ref a) (eB : B = a :: C0) (ha : H1 a = some o0) (hi : uJ o0 = false) (hC : a ∉ C → ¬ Z1 a → Rep K cn (L2.upd H1 a o1) Z1 u' (.ref a) (a :: C)) (ndC : C.Nodup) (hCz : ∀ x ∈ C, ¬ Z1 x) (hCa : ∀ x ∈ C, x ∈ As1.flatten → x ∈ C0)
 (evl : Ev As H Z As1 H1 Z1) (hCn : ∀ x ∈ C, x ∈ As.flatten ∨ H x = none) (w : Wp Jn K cn E As H Z D (am9 j p u' ρ1)) : D.nx σ (L2.upd H1 a o1) := by
 subst ev eB
 have nd := sX F1.nd j
 have ndB : (a :: C0).Nodup := nd.sublist pl.sub
 have aA : a ∈ As1.getD j [] := pl.sub.mem List.mem_cons_self
 have aZ : ¬ Z1 a := F1.nz a (bA aA)
 have aC : a ∉ C := fun h => (List.nodup_cons.mp ndB).1 (hCa a h (bA aA))
 obtain ⟨t', A', es, r', ndA, hA⟩ := pl.plug (L2.upd H1 a o1) Z1 u' (a :: C) (fun _ h => h) (fun b o q c => by
  rw [cV]
  · exact q
  · rintro rfl
    rcases c with c | c | c
    · exact c.2 List.mem_cons_self
    · exact aZ c
    · rw [ha] at q; cases q; rw [hi] at c; cases c) (hC aC aZ) (List.nodup_cons.mpr ⟨aC, ndC⟩) (fun x hx hxa => by
    rcases List.mem_cons.mp hx with rfl | hx
    · exact List.mem_cons_self
    · exact List.mem_cons_of_mem _ (hCa x hx (bA hxa)))
 unfold am9 at w
 rw [e1] at w
 simp only [es] at w
 have hA' : ∀ x ∈ A', x ∈ As1.getD j [] ∨ x ∈ C := fun x hx => by
  rcases hA x hx with q | q
  · exact .inl q.1
  · rcases List.mem_cons.mp q with rfl | q
    · exact .inl aA
    · exact .inr q
 have slots : ∀ {ρ : Fr} {σ : St} {As : List (List Addr)} {i : Nat}, Slots K cn H1 Z1 ρ σ As → As.flatten.Nodup → (∀ x ∈ As.flatten, x = a → x ∈ As.getD i []) → σ[i]? = some (some v0) → Slots K cn (L2.upd H1 a o1) Z1 (ρ.set i (some t')) σ (As.set i A') := by
  intro ρ
  induction ρ with
  | nil => intro σ As i h _ _ e; obtain ⟨rfl, rfl⟩ := h; simp at e
  | cons o ρ ih =>
   intro σ As i h nd hx e
   obtain ⟨w', σ', A, As', rfl, rfl, h1, h2⟩ := h
   rw [List.flatten_cons, List.nodup_append] at nd
   cases i with
   | zero =>
    simp at e
    subst e
    refine ⟨_, σ', A', As', rfl, rfl, ⟨v0, rfl, r'⟩, ?_⟩
    have na : a ∉ As'.flatten := fun h => by
     have := hx a (by rw [List.flatten_cons, List.mem_append]; exact .inr h) rfl
     exact nd.2.2 a (by simpa using this) a h rfl
    have : ∀ {ρ : Fr} {σ : St} {As : List (List Addr)}, Slots K cn H1 Z1 ρ σ As → a ∉ As.flatten → Slots K cn (L2.upd H1 a o1) Z1 ρ σ As := by
     intro ρ
     induction ρ with
     | nil => intro σ As h _; exact h
     | cons o ρ ih =>
      intro σ As h hn
      obtain ⟨w', σ', A, As', rfl, rfl, h1, h2⟩ := h
      rw [List.flatten_cons, List.mem_append, not_or] at hn
      refine ⟨w', σ', A, As', rfl, rfl, ?_, ih h2 hn.2⟩
      cases o with
      | none => exact h1
      | some t => obtain ⟨v, e, r⟩ := h1; exact ⟨v, e, r.upd ha hi hn.1 aZ⟩
    exact this h2 na
   | succ i =>
    refine ⟨w', σ', A, As'.set i A', rfl, rfl, ?_, ih h2 nd.2.1 (fun x hx' ex => ?_) (by simpa using e)⟩
    · have na : a ∉ A := fun h => by
       have := hx a (by rw [List.flatten_cons, List.mem_append]; exact .inl h) rfl
       have : a ∈ As'.getD i [] := by simpa using this
       exact nd.2.2 a h a (bA this) rfl
      cases o with
      | none => exact h1
      | some t => obtain ⟨v, e, r⟩ := h1; exact ⟨v, e, r.upd ha hi na aZ⟩
    · have := hx x (by rw [List.flatten_cons, List.mem_append]; exact .inr hx') ex
      simpa using this
 refine w σ (As1.set j A') _ Z1 ⟨slots F1.sl F1.nd (fun x _ ex => by rw [ex]; exact aA) e2, nI ndA F1.nd (fun b hb hf => ?_), fun b hb z => ?_, fun b z => ?_, F1.pn⟩ ?_
 · rcases hA' b hb with q | q
   · exact q
   · exact pl.sub.mem (List.mem_cons_of_mem _ (hCa b q hf))
 · rcases gY hb with q | q
   · rcases hA' b q with q | q
     · exact F1.nz b (bA q) z
     · exact hCz b q z
   · exact F1.nz b q z
 · by_cases e : b = a
   · rw [e, eM]; exact (fun z => nomatch z)
   · rw [cV e]; exact F1.zi b z
 · refine ⟨fun b o q hb => ?_, fun b hb => ?_, evl.zz, evl.zn, fun b hb => evl.dom b ?_⟩
   · rw [cV]
     · exact evl.keep b o q hb
     · rintro rfl
       rcases evl.own b (bA aA) with z | z
       · exact hb z
       · rw [q] at z; cases z
   · rcases gY hb with q | q
     · rcases hA' b q with q | q
       · exact evl.own b (bA q)
       · exact hCn b q
     · exact evl.own b q
   · by_cases e : b = a
     · rw [e, eM] at hb; cases hb
     · rw [cV e] at hb; exact hb
theorem ay9
 (F1 : Frm Jn K cn H1 Z1 ρ1 σ As1) (e1 : ρ1[j]? = some (some t0)) (e2 : σ[j]? = some (some v0)) (pl : Plug K cn H1 Z1 t0 v0 (As1.getD j []) p (.lst true us) v B)
 (ev : v = .ref a) (eB : B = a :: C0) (ha : H1 a = some (.lst ws)) (hC : Reps K cn H1 Z1 us' ws' C) (ndC : C.Nodup) (hCz : ∀ x ∈ C, ¬ Z1 x) (hCa : ∀ x ∈ C, x ∈ As1.flatten → x ∈ C0)
 (evl : Ev As H Z As1 H1 Z1) (hCn : ∀ x ∈ C, x ∈ As.flatten ∨ H x = none) (w : Wp Jn K cn E As H Z D (ak2 j p us' ρ1)) : D.nx σ (L2.upd H1 a (.lst ws')) := by
 subst ev eB
 refine aq5 (E := E) F1 e1 e2 pl rfl rfl ha rfl (u' := .lst true us') (fun aC aZ => ?_) ndC hCz hCa evl hCn w
 simp only [Rep]
 exact ⟨a, ws', C, rfl, rfl, eM, Reps.upd hC ha rfl aC aZ⟩
def lY (j : Nat) (mv : List Nat) (d : Fr → Res (List Nat)) (e : Fr → Res T) : Fr → cO := fun ρ => match ρ[j]? with
 | some (some t0) => match d ρ with
  | .ok p => match lU p t0 with
   | some (.lst true us) => match e ρ with
    | .ok t => if us.length < sizeLine then ak2 j p (us ++ [t]) (kills mv ρ) else .no
    | .ex x => .ex x
    | .no => .no
   | _ => .no
  | .ex x => .ex x
  | .no => .no
 | _ => .no
theorem wQ : ∀ (mv : List Nat), mv.contains j = false → ∀ As : List (List Addr), (fH mv As).getD j [] = As.getD j []
 | [], _, _ => rfl
 | i :: is, h, As => by
  simp only [List.contains_cons, Bool.or_eq_false_iff, beq_eq_false_iff_ne] at h
  show (fH is (As.set i [])).getD j [] = _
  rw [wQ is h.2, List.getD_eq_getElem?_getD, List.getElem?_set_ne (Ne.symm h.1), ← List.getD_eq_getElem?_getD]
theorem yV : ∀ (mv : List Nat), mv.contains j = false → ∀ ρ : Fr, (kills mv ρ)[j]? = ρ[j]?
 | [], _, _ => rfl
 | i :: is, h, ρ => by
  simp only [List.contains_cons, Bool.or_eq_false_iff, beq_eq_false_iff_ne] at h
  show (kills is (ρ.set i none))[j]? = _
  rw [yV is h.2, List.getElem?_set_ne (Ne.symm h.1)]
theorem dt1 {j : Nat} {mv : List Nat} {to te : TE} {d : Fr → Res (List Nat)} {e : Fr → Res T} (hd : RP Jn K cn E j to d) (he : RE Jn K cn E mv te e) (hj : mv.contains j = false := by rfl) : RS Jn K cn E (bz5 (tBM K "list" bu3 to (an3 te ba0))) (lY j mv d e) := fun As H Z ρ σ F D w => by
 unfold lY at w
 cases e1 : ρ[j]? with
 | none => rw [e1] at w; exact w.elim
 | some o =>
  rw [e1] at w
  cases o with
  | none => exact w.elim
  | some t0 =>
   obtain ⟨v0, e2, r0⟩ := F.sl.get e1
   refine hd As H Z ρ σ F t0 v0 e1 e2 r0 _ ?_
   simp only at w
   cases ed : d ρ with
   | ok p =>
    rw [ed] at w
    intro u v B H1 Z1 m1 hn pl
    simp only [hn] at w
    split at w
    · next us hq =>
      cases hq
      have q := pl.rep
      simp only [Rep] at q
      obtain ⟨a, ws, C0, rfl, rfl, ea, rs⟩ := q
      refine ⟨.inl ⟨rfl, ws, SqL.of ea⟩, he As H1 Z1 ρ σ (F.mo m1) _ ?_⟩
      cases ee : e ρ with
      | ok t =>
       rw [ee] at w
       intro y H2 Z2 C p2
       simp only at w
       split at w
       · next hlen =>
         have pl2 := pl.mo p2.same p2.zz
         have ea2 := p2.same _ _ ea
         have rs2 := rs.same p2.same p2.zz
         refine ⟨a, ws, y, rfl, rfl, ea2, by rw [Reps.length us rs]; exact hlen, ?_⟩
         have m2 := m1.trans p2.mo
         have F2 := (F.mo m2).kills mv
         have gD : (fH mv As).getD j [] = As.getD j [] := wQ mv hj As
         have pl3 : Plug K cn H2 Z2 t0 v0 ((fH mv As).getD j []) p (.lst true us) (.ref a) (a :: C0) := by rw [gD]; exact pl2
         have ndB : (a :: C0).Nodup := (sX F.nd j).sublist pl.sub
         have c0A : ∀ x ∈ C0, x ∈ As.getD j [] := fun x hx => pl.sub.mem (List.mem_cons_of_mem _ hx)
         have cOut : ∀ x ∈ C, x ∉ (fH mv As).flatten := fun x hx hA => by
          rcases p2.bn x hx with z | ⟨i, hi, z⟩
          · obtain ⟨o, ho, _⟩ := (F.mo m1).sl.dom x (eU hA)
            rw [ho] at z; cases z
          · exact zL F.nd hi z hA
         have c0In : ∀ x ∈ C0, x ∈ (fH mv As).flatten := fun x hx => bA (i := j) (by rw [gD]; exact c0A x hx)
         refine ay9 (As := As) (H := H) (Z := Z) (E := E) F2 (by rw [yV mv hj]; exact e1) e2 pl3 rfl rfl ea2 (us' := us ++ [t]) (ws' := ws ++ [y]) (C := C0 ++ C) (Reps.append us rs2 (Reps.one p2.rep)) ?_ ?_ ?_ ?_ ?_ w
         · rw [List.nodup_append]
           exact ⟨(List.nodup_cons.mp ndB).2, p2.nd, fun x hx y hy e => by subst e; exact cOut x hy (c0In x hx)⟩
         · intro x hx
           rcases List.mem_append.mp hx with hx | hx
           · exact F2.nz x (c0In x hx)
           · exact p2.bz x hx
         · intro x hx hA
           rcases List.mem_append.mp hx with hx | hx
           · exact hx
           · exact absurd hA (cOut x hx)
         · exact ⟨fun b o q _ => m2.same b o q, fun b hb => .inl (eU hb), m2.zz, fun b h => (m2.zn b h).imp_right .inr, fun b h => m2.same.free h⟩
         · intro x hx
           rcases List.mem_append.mp hx with hx | hx
           · exact .inl (bA (c0A x hx))
           · rcases p2.bn x hx with z | ⟨i, hi, z⟩
             · exact .inr (m1.same.free z)
             · exact .inl (bA z)
       · exact w.elim
      | ex x => rw [ee] at w; exact WpX.ev w m1.ev
      | no => rw [ee] at w; exact w
    · exact w.elim
   | ex x => rw [ed] at w; exact w
   | no => rw [ed] at w; exact w
def bh1 (j : Nat) (mv : List Nat) (e : Fr → Res T) (d : Fr → Res (List Nat)) (i : Fr → Res T) : Fr → cO := fun ρ => match e ρ with
 | .ok t => match (kills mv ρ)[j]? with
  | some (some t0) => match d (kills mv ρ) with
   | .ok p => match lU p t0 with
    | some (.lst true us) => match i (kills mv ρ) with
     | .ok (.int n) => match tH us.length n with
      | some k => ak2 j p (us.set k t) (kills mv ρ)
      | none => .no
     | .ok _ => .no
     | .ex x => .ex x
     | .no => .no
    | _ => .no
   | .ex x => .ex x
   | .no => .no
  | _ => .no
 | .ex x => .ex x
 | .no => .no
theorem Reps.put (rt : Rep K cn H Z t y C) : ∀ (us : List T) {ws : List V} {A : List Addr} {k : Nat}, Reps K cn H Z us ws A → k < us.length → ∃ B1 Bo B2, A = B1 ++ Bo ++ B2 ∧ Reps K cn H Z (us.set k t) (ws.set k y) (B1 ++ C ++ B2)
 | [], _, _, _, _, e => by simp at e
 | u :: us, ws, A, 0, r, e => by
  simp only [Reps] at r
  obtain ⟨v, r', P, Q', rfl, rfl, h1, h2⟩ := r
  refine ⟨[], P, Q', by simp, ?_⟩
  simp only [List.set_cons_zero, Reps]
  exact ⟨y, r', C, Q', rfl, by simp, rt, h2⟩
 | u :: us, ws, A, k + 1, r, e => by
  simp only [Reps] at r
  obtain ⟨v, r', P, Q', rfl, rfl, h1, h2⟩ := r
  obtain ⟨X1, X2, X3, rfl, hr⟩ := Reps.put rt us (k := k) h2 (by simpa using e)
  refine ⟨P ++ X1, X2, X3, by simp, ?_⟩
  simp only [List.set_cons_succ, Reps]
  exact ⟨v, r'.set k y, P, X1 ++ C ++ X3, rfl, by simp, h1, hr⟩
theorem dy0 {j : Nat} {mv : List Nat} {te to ti : TE} {e : Fr → Res T} {d : Fr → Res (List Nat)} {i : Fr → Res T} (he : RE Jn K cn E mv te e) (hd : RP Jn K cn E j to d) (hi : RB Jn K cn E ti i) : RS Jn K cn E (by5 te (da1 to ti ce4)) (bh1 j mv e d i) := fun As H Z ρ σ F D w => by
 unfold bh1 at w
 refine he As H Z ρ σ F _ ?_
 cases ee : e ρ with
 | ok t =>
  rw [ee] at w
  intro y H1 Z1 C p1
  simp only at w
  have F1 := (F.mo p1.mo).kills mv
  cases e1 : (kills mv ρ)[j]? with
  | none => rw [e1] at w; exact w.elim
  | some o =>
   rw [e1] at w
   cases o with
   | none => exact w.elim
   | some t0 =>
    obtain ⟨v0, e2, r0⟩ := F1.sl.get e1
    simp only at w
    have ev1 : Ev As H Z (fH mv As) H1 Z1 := ⟨fun b o q _ => p1.same b o q, fun b hb => .inl (eU hb), p1.zz, fun b h => (p1.zn b h).imp_right .inr, fun b h => p1.same.free h⟩
    refine hd (fH mv As) H1 Z1 (kills mv ρ) σ F1 t0 v0 e1 e2 r0 _ ?_
    cases ed : d (kills mv ρ) with
    | ok p =>
     rw [ed] at w
     intro u v B H2 Z2 m2 hn pl
     simp only [hn] at w
     split at w
     · next us hq =>
       cases hq
       refine hi (fH mv As) H2 Z2 (kills mv ρ) σ (F1.mo m2) _ ?_
       cases ei : i (kills mv ρ) with
       | ok x =>
        rw [ei] at w
        intro vi H3 Z3 Bi p3
        cases x with
        | int n =>
         simp only at w
         have qi := p3.rep
         simp only [Rep] at qi
         obtain ⟨rfl, _⟩ := qi
         cases ek : tH us.length n with
         | none => rw [ek] at w; exact w.elim
         | some k =>
          rw [ek] at w
          have m3 := m2.trans p3.mo
          have pl3 := pl.mo p3.same p3.zz
          have q := pl3.rep
          simp only [Rep] at q
          obtain ⟨a, ws, C0, rfl, rfl, ea, rs⟩ := q
          have rt : Rep K cn H3 Z3 t y C := p1.rep.same m3.same m3.zz
          have F3 := F1.mo m3
          have lw := Reps.length us rs
          obtain ⟨B1, Bo, B2, rfl, rs'⟩ := Reps.put rt us rs (dp0 ek)
          refine ⟨a, ws, n, k, rfl, rfl, ea, by rw [lw]; exact ek, ?_⟩
          have ndB : (a :: (B1 ++ Bo ++ B2)).Nodup := (sX F1.nd j).sublist pl.sub
          have cA : ∀ x ∈ B1 ++ Bo ++ B2, x ∈ (fH mv As).getD j [] := fun x hx => pl.sub.mem (List.mem_cons_of_mem _ hx)
          have i1 : ∀ x ∈ B1, x ∈ B1 ++ Bo ++ B2 := fun x hx => List.mem_append_left _ (List.mem_append_left _ hx)
          have i2 : ∀ x ∈ B2, x ∈ B1 ++ Bo ++ B2 := fun x hx => List.mem_append_right _ hx
          have cOut := p1.out F
          have nd1 := (List.nodup_cons.mp ndB).2
          rw [List.append_assoc, List.nodup_append] at nd1
          obtain ⟨n1, n2, n3⟩ := nd1
          rw [List.nodup_append] at n2
          refine ay9 (As := As) (H := H) (Z := Z) (E := E) F3 e1 e2 pl3 rfl rfl ea (us' := us.set k t) (ws' := ws.set k y) (C := B1 ++ C ++ B2) rs' ?_ ?_ ?_ (ev1.trans m3.ev) ?_ w
          · rw [List.append_assoc, List.nodup_append]
            refine ⟨n1, ?_, fun x hx z hz e => ?_⟩
            · rw [List.nodup_append]
              exact ⟨p1.nd, n2.2.1, fun x hx z hz e => by subst e; exact cOut x hx (bA (cA x (i2 x hz)))⟩
            · subst e
              rcases List.mem_append.mp hz with hz | hz
              · exact cOut x hz (bA (cA x (i1 x hx)))
              · exact n3 x hx x (List.mem_append_right _ hz) rfl
          · intro x hx
            rcases List.mem_append.mp hx with hx | hx
            · rcases List.mem_append.mp hx with hx | hx
              · exact F3.nz x (bA (cA x (i1 x hx)))
              · intro z
                rcases m3.zn x z with z | z
                · exact p1.bz x hx z
                · obtain ⟨o, ho, _⟩ := p1.rep.dom t x hx
                  rw [ho] at z; cases z
            · exact F3.nz x (bA (cA x (i2 x hx)))
          · intro x hx hA
            rcases List.mem_append.mp hx with hx | hx
            · rcases List.mem_append.mp hx with hx | hx
              · exact i1 x hx
              · exact absurd hA (cOut x hx)
            · exact i2 x hx
          · intro x hx
            rcases List.mem_append.mp hx with hx | hx
            · rcases List.mem_append.mp hx with hx | hx
              · exact .inl (eU (bA (cA x (i1 x hx))))
              · exact p1.inA x hx
            · exact .inl (eU (bA (cA x (i2 x hx))))
        | _ => exact w.elim
       | ex x => rw [ei] at w; exact WpX.ev w (ev1.trans m2.ev)
       | no => rw [ei] at w; exact w
     · exact w.elim
    | ex x => rw [ed] at w; exact WpX.ev w ev1
    | no => rw [ed] at w; exact w
 | ex x => rw [ee] at w; exact w
 | no => rw [ee] at w; exact w
def cE : cO → Res T
 | .nx _ => .ok .non
 | .rt t => .ok t
 | .ex x => .ex x
 | _ => .no
def cZ (n : Nat) (ts : List T) : Fr := ts.map some ++ List.replicate (n - ts.length) none
theorem ac7 : ∀ (m : Nat), Slots K cn H Z (List.replicate m none) (List.replicate m none) (List.replicate m [])
 | 0 => ⟨rfl, rfl⟩
 | m + 1 => ⟨none, List.replicate m none, [], List.replicate m [], rfl, rfl, rfl, ac7 m⟩
theorem zF : ∀ (ts : List T) {vs : List V}, Reps K cn H Z ts vs [] → Slots K cn H Z (ts.map some ++ List.replicate m none) (vs.map some ++ List.replicate m none) (List.replicate (ts.length + m) [])
 | [], vs, h => by
  simp only [Reps] at h
  obtain ⟨rfl, _⟩ := h
  simpa using ac7 m
 | t :: ts, vs, h => by
  simp only [Reps] at h
  obtain ⟨v, r, B, C, rfl, e, h1, h2⟩ := h
  have eb : B = [] ∧ C = [] := by simpa using e.symm
  obtain ⟨rfl, rfl⟩ := eb
  have := zF (m := m) ts h2
  refine ⟨some v, _, [], List.replicate (ts.length + m) [], rfl, ?_, ⟨v, rfl, h1⟩, this⟩
  rw [List.length_cons, show ts.length + 1 + m = (ts.length + m) + 1 by omega]
  rfl
theorem lV : ∀ m : Nat, (List.replicate m ([] : List Addr)).flatten = []
 | 0 => rfl
 | m + 1 => by rw [List.replicate_succ, List.flatten_cons, lV m]; rfl
theorem av4 {P : Program} {w : World} {mg : Str → Option Value} {base : Heap} {x qual : Str} {st : Stmt} {f : Addr} {fd : FuncData} {N ps : List Str} {k : Nat} {d : Fr → cO} (F : Fun K x qual st f fd) (S : bH N ps (aO st))
    (hbody : ∀ (cdv : Value) (A : Around) (outer : List Env) (s : Shared) (H : Hp) (E : XK), Room k (A.deeper (envOfC qual (aO st) s.heap.objs.size f cdv)) →
      ∃ t, PSs (lM jP P w K mg base N qual (aO st) f cdv A outer s H E).nox (dU st) t ∧ RS [] K cn E t d) {n : Nat} {G : List T → Res T} (hn : ps.length = n) (hG : ∀ ts, G ts = cE (d (cZ N.length ts))) : FnOk P w K mg base jP (k + 1) f fd ps (aQ K cn n G) := by
  have eG : G = fun ts => cE (d (cZ N.length ts)) := funext hG
  subst hn eG
  refine F.ok S (fun vs H Q E h => h.1) fun cdv A outer s H vs Q E hr h => ?_
  obtain ⟨hl, ts, Z, zi, r, w⟩ := h
  obtain ⟨t, hp, ht⟩ := hbody cdv A outer s H E hr
  refine ⟨t, hp, ?_⟩
  have lt := Reps.length ts r
  have sl : Slots K cn H Z (cZ N.length ts) (L2.jD N vs) (List.replicate (ts.length + (N.length - ts.length)) []) := by
    unfold cZ L2.jD
    rw [lt]
    exact zF ts r
  have F0 : Frm [] K cn H Z (cZ N.length ts) (L2.jD N vs) (List.replicate (ts.length + (N.length - ts.length)) []) := ⟨sl, by rw [lV]; exact List.nodup_nil, by rw [lV]; exact eC, zi, eC⟩
  refine ht _ H Z _ _ F0 _ ?_
  have bn : ∀ {B : List Addr} {H' : Hp} {Z' : Addr → Prop}, Ev (List.replicate (ts.length + (N.length - ts.length)) []) H Z [B] H' Z' → ∀ b ∈ B, H b = none := fun {B H' Z'} e b hb => by
    rcases e.own b (by simpa using hb) with q | q
    · rw [lV] at q; cases q
    · exact q
  have sm : ∀ {As' : List (List Addr)} {H' : Hp} {Z' : Addr → Prop}, Ev (List.replicate (ts.length + (N.length - ts.length)) []) H Z As' H' Z' → Same H H' ∧ ∀ a, Z' a → Z a ∨ H a = none := fun {As' H' Z'} e => ⟨fun b o q => e.keep b o q (by rw [lV]; exact (fun z => nomatch z)), fun a z => by
    rcases e.zn a z with q | q | q
    · exact .inl q
    · rw [lV] at q; cases q
    · exact .inr q⟩
  cases ed : d (cZ N.length ts) with
  | nx ρ =>
    simp only [ed, cE] at w
    intro σ' As' H' Z' F' ev
    exact w .non H' Z' [] ⟨(sm ev).1, ev.zz, (sm ev).2, F'.zi, by simp [Rep], List.nodup_nil, eC, eC⟩
  | rt t =>
    simp only [ed, cE] at w
    intro v H' Z' B p
    exact w v H' Z' B ⟨(sm p.ev).1, p.ev.zz, (sm p.ev).2, p.zi, p.rep, p.nd, p.bz, fun b hb => .inl (bn p.ev b hb)⟩
  | ex x =>
    simp only [ed, cE] at w
    exact WpX.ev w ⟨fun _ _ q _ => q, fun a ha => (by rw [lV] at ha; exact nomatch ha), fun _ h => h, fun _ h => .inl h, fun _ h => h⟩
  | bk ρ => simp only [ed, cE] at w; exact w.elim
  | ct ρ => simp only [ed, cE] at w; exact w.elim
  | no => simp only [ed, cE] at w; exact w.elim
theorem bO {P : Program} {w : World} {mg : Str → Option Value} {base : Heap} {x : Str} {st : Stmt} {N ps : List Str} {k : Nat} {d : Fr → cO} (F : cI K mg x st) (S : bH N ps (aO st))
 (hb : ∀ (kV doc pm : Value) (an : Option Addr) (cdv ct : Value) (us : List Value), us.length = ps.length → bindArgs (PySem.W.fnOf x x (iW st) (dU st) (aO st) .none kV doc pm an cdv ct) ⟨us, []⟩ = pure (ps.zip us))
 (hbody : ∀ (f : Addr) (cdv : Value) (A : Around) (outer : List Env) (s : Shared) (H : Hp) (E : XK), Room k (A.deeper (envOfC x (aO st) s.heap.objs.size f cdv)) →
  ∃ t, PSs (lM jP P w K mg base N x (aO st) f cdv A outer s H E).nox (dU st) t ∧ RS [] K cn E t d) {n : Nat} {G : List T → Res T} (hn : ps.length = n) (hG : ∀ ts, G ts = cE (d (cZ N.length ts))) : bY P w K mg base (k + 1) x ps (aQ K cn n G) := by
 obtain ⟨f, fd, F, hm⟩ := F.ex
 exact ⟨f, fd, av4 F S (fun cdv A outer s H E hr => hbody f cdv A outer s H E hr) hn hG, hm, F.kp, F.binds hb⟩
theorem law_fn (F : FnOk P w K mg base jP k f fd [p] (aQ K cn 1 G))
 (h : ∀ ns : List Int, ns.length ≤ 63 → (∀ n ∈ ns, Builtin.Int.intBits n ≤ 1048576) → G [.lst false (ns.map .int)] = .ok (.bl true)) : FnOk P w K mg base jP k f fd [p] (ab9 K) := by
 refine F.imp fun vs H Q E q => ?_
 obtain ⟨a, ns, rfl, hs, h63, hbits, hq⟩ := q
 have rints : ∀ (Z : Addr → Prop) (ns : List Int), Reps K cn H Z (ns.map T.int) (ns.map V.int) [] := by
  intro Z ns
  induction ns with
  | nil => simp [Reps]
  | cons n ns ih =>
   simp only [List.map_cons, Reps]
   exact ⟨.int n, ns.map V.int, [], [], rfl, rfl, by simp [Rep], ih⟩
 refine ⟨rfl, [.lst false (ns.map .int)], fun b => b = a ∧ H b ≠ none, fun b z => z.2, Reps.one ?_, ?_⟩
 · simp only [Rep]
   refine ⟨a, ns.map V.int, rfl, trivial, ?_, rints _ ns⟩
   rcases hs with (hs | ⟨o, hs⟩) | hs
   · exact .inl ⟨hs, rfl, by rw [hs]; exact (fun z => nomatch z)⟩
   · exact .inr (.inl ⟨o, hs⟩)
   · exact .inr (.inr hs)
 · rw [h ns h63 hbits]
   intro v H' Z' B p
   have q := p.rep
   simp only [Rep] at q
   rw [q.1]
   exact hq H'
end
end TL
namespace L2
open PySem PySem.Spec PyProof.Rows
def EqD (K : PySem.W.Frag) (H : Hp) : Nat → V → V → Bool → Prop
 | 0, x, y, b => qU x = true ∧ qU y = true ∧ b = eqV x y
 | n + 1, x, y, b => (qU x = true ∧ qU y = true ∧ b = eqV x y) ∨
  (∃ p q xs ys, x = .ref p ∧ y = .ref q ∧ SqL K H p xs ∧ SqL K H q ys ∧ ((xs.length ≠ ys.length ∧ b = false) ∨
   (xs.length = ys.length ∧ ∃ es : List Bool, es.length = xs.length ∧ (∀ (j : Nat) x y e, xs[j]? = some x → ys[j]? = some y → es[j]? = some e → EqD K H n x y e) ∧ b = es.all id))) ∨
  (∃ p q xs ys, x = .ref p ∧ y = .ref q ∧ SqT K H p xs ∧ SqT K H q ys ∧ ∃ es : List Bool, es.length = min xs.length ys.length ∧
   (∀ (j : Nat) x y e, xs[j]? = some x → ys[j]? = some y → es[j]? = some e → EqD K H n x y e) ∧ b = (es.all id && xs.length == ys.length))
theorem bn0 : ∀ {x : V}, qU x = true → eqV x x = true
 | .non, _ => rfl
 | .bl b, _ => by simp [eqV]
 | .int i, _ => by simp [eqV]
 | .str s, _ => by simp [eqV]
theorem pZ (es : List Bool) : ((List.range es.length).all fun j => es.getD j true) = es.all id := by
 induction es with
 | nil => rfl
 | cons b es ih =>
  show (List.range (es.length + 1)).all _ = _
  rw [List.range_succ_eq_map, List.all_cons, List.all_map]
  show (b && _) = (b && es.all id)
  rw [← ih]
  rfl
section
variable {X : Cx} {pins : List (Addr × Obj)} {σ : St} {H : Hp} {s : Shared}
theorem EqD.self (I : Inv X pins σ H s) : ∀ (n : Nat) (x : V) (b : Bool), EqD X.K H n x x b → b = true
 | 0, x, b, h => by
  obtain ⟨h1, _, rfl⟩ := h
  exact bn0 h1
 | n + 1, x, b, h => by
  rcases h with ⟨h1, _, rfl⟩ | ⟨p, q, xs, ys, e1, e2, s1, s2, h⟩ | ⟨p, q, xs, ys, e1, e2, s1, s2, es, hl, he, rfl⟩
  · exact bn0 h1
  · rw [e1] at e2
    cases e2
    have := I.list_inj s1 s2
    subst this
    rcases h with ⟨h, _⟩ | ⟨_, es, hl, he, rfl⟩
    · exact absurd rfl h
    · rw [List.all_eq_true]
      intro e hm
      obtain ⟨j, hj, rfl⟩ := List.getElem_of_mem hm
      exact EqD.self I n xs[j] es[j] (he j xs[j] xs[j] es[j] (List.getElem?_eq_getElem (by omega)) (List.getElem?_eq_getElem (by omega)) (List.getElem?_eq_getElem hj))
  · rw [e1] at e2
    cases e2
    have := I.tuple_inj s1 s2
    subst this
    rw [beq_self_eq_true, Bool.and_true, List.all_eq_true]
    intro e hm
    obtain ⟨j, hj, rfl⟩ := List.getElem_of_mem hm
    have hx : j < xs.length := by omega
    exact EqD.self I n xs[j] es[j] (he j xs[j] xs[j] es[j] (List.getElem?_eq_getElem hx) (List.getElem?_eq_getElem hx) (List.getElem?_eq_getElem hj))
theorem fW (r : Vals xs us) (h : j < us.length) : ∃ x, xs[j]? = some x ∧ RelV x us[j] := by
 have l := r.length
 have e1 : xs[j]? = some xs[j] := List.getElem?_eq_getElem (by omega)
 obtain ⟨u, hu, ru⟩ := r.get e1
 rw [List.getElem?_eq_getElem h] at hu
 exact ⟨xs[j], e1, by rw [Option.some.inj hu]; exact ru⟩
theorem pD (I : Inv X pins σ H s) : ∀ (n : Nat) {A : Around} {x y : V} {u v : Value} {b : Bool}, A.units + n < cLine → RelV x u → RelV y v → EqD X.K H n x y b → SeqAt.EqAt A s u v b
 | 0, A, x, y, u, v, b, hu, rx, ry, h => by
  obtain ⟨h1, h2, rfl⟩ := h
  exact bt8 rx ry h1 h2
 | n + 1, A, x, y, u, v, b, hu, rx, ry, h => by
  have h0 := h
  rcases h with ⟨h1, h2, rfl⟩ | ⟨p, q, xs, ys, rfl, rfl, s1, s2, h⟩ | ⟨p, q, xs, ys, rfl, rfl, s1, s2, es, hl, he, rfl⟩
  · exact bt8 rx ry h1 h2
  · cases rx
    cases ry
    by_cases hpq : p = q
    · subst hpq
      rw [EqD.self I (n + 1) _ b h0]
      exact SeqAt.EqAt.same _
    · obtain ⟨its, r1, p1, _⟩ := I.list s1
      obtain ⟨jts, r2, p2, _⟩ := I.list s2
      have l1 := r1.length
      have l2 := r2.length
      refine SeqAt.EqAt.of_refs hpq ?_
      rcases h with ⟨hne, rfl⟩ | ⟨heq, es, hl, he, rfl⟩
      · exact SeqAt.RcAt.lists_lengths p1.isList p2.isList (by simp only [List.size_toArray, bne_iff_ne, ne_eq]; omega) (by omega)
      · have := SeqAt.RcAt.lists (A := A) (s := s) (e := fun j => es.getD j true) p1.isList p2.isList (by simp only [List.size_toArray]; omega) (by omega) (fun j h1 h2 => by
         simp only [List.size_toArray] at h1 h2
         simp only [List.getElem_toArray]
         obtain ⟨x, ex, rx⟩ := fW r1 h1
         obtain ⟨y, ey, ry⟩ := fW r2 h2
         have hj : j < es.length := by omega
         have eg : es.getD j true = es[j] := by rw [List.getD_eq_getElem?_getD, List.getElem?_eq_getElem hj]; rfl
         rw [eg]
         exact pD I n (by show A.units + 1 + n < cLine; omega) rx ry (he j x y es[j] ex ey (List.getElem?_eq_getElem hj)))
        rw [List.size_toArray, show its.length = es.length by omega, pZ] at this
        exact this
  · cases rx
    cases ry
    by_cases hpq : p = q
    · subst hpq
      rw [EqD.self I (n + 1) _ _ h0]
      exact SeqAt.EqAt.same _
    · obtain ⟨its, r1, p1, _⟩ := I.tuple s1
      obtain ⟨jts, r2, p2, _⟩ := I.tuple s2
      have l1 := r1.length
      have l2 := r2.length
      refine SeqAt.EqAt.of_refs hpq ?_
      have := SeqAt.RcAt.tuples (A := A) (s := s) (e := fun j => es.getD j true) (show s.heap.IsTuple p its.toArray from p1) (show s.heap.IsTuple q jts.toArray from p2) (by omega) (fun j h1 h2 => by
       simp only [List.size_toArray] at h1 h2
       simp only [List.getElem_toArray]
       obtain ⟨x, ex, rx⟩ := fW r1 h1
       obtain ⟨y, ey, ry⟩ := fW r2 h2
       have hj : j < es.length := by omega
       have eg : es.getD j true = es[j] := by rw [List.getD_eq_getElem?_getD, List.getElem?_eq_getElem hj]; rfl
       rw [eg]
       exact pD I n (by show A.units + 1 + n < cLine; omega) rx ry (he j x y es[j] ex ey (List.getElem?_eq_getElem hj)))
      simp only [List.size_toArray] at this
      rw [show min its.length jts.length = es.length by omega, pZ, ← l1, ← l2] at this
      exact this
def cz1 (K : PySem.W.Frag) (n : Nat) : R2 := fun x y H Q => rEq x y H Q ∨ (∃ p q b, x = .ref p ∧ y = .ref q ∧ EqD K H n x y b ∧ Q (.bl b) H)
theorem dx1 (hu : X.A.units + n < cLine) : OpR X (compareOp .Eq) (cz1 X.K n) := by
 intro pins s σ H x y v u Q I rx ry h
 rcases h with h | ⟨p, q, b, rfl, rfl, h, hq⟩
 · exact dq3 pins s σ H x y v u Q I rx ry h
 · cases rx
   cases ry
   have cE : EP X pins σ Q (.bool b) s := ⟨.bl b, H, I, rfl, hq⟩
   cases n with
   | zero => exact absurd h.1 (fun z => by cases z)
   | succ n =>
    rcases h with ⟨h1, _, _⟩ | ⟨p, q, xs, ys, e1, e2, s1, s2, h⟩ | ⟨p, q, xs, ys, e1, e2, s1, s2, es, hl, he, rfl⟩
    · exact absurd h1 (fun z => by cases z)
    · cases e1
      cases e2
      obtain ⟨its, r1, p1, _⟩ := I.list s1
      obtain ⟨jts, r2, p2, _⟩ := I.list s2
      have l1 := r1.length
      have l2 := r2.length
      rcases h with ⟨hne, rfl⟩ | ⟨heq, es, hl, he, rfl⟩
      · exact SeqAt.eq_list_lengthsAt p1.isList p2.isList (by simp only [List.size_toArray, bne_iff_ne, ne_eq]; omega) (by omega) cE
      · refine SeqAt.eq_listAt (e := fun j => es.getD j true) p1.isList p2.isList (by simp only [List.size_toArray]; omega) (by omega) (fun j h1 h2 => ?_) ?_
        · simp only [List.size_toArray] at h1 h2
          simp only [List.getElem_toArray]
          obtain ⟨x, ex, rx⟩ := fW r1 h1
          obtain ⟨y, ey, ry⟩ := fW r2 h2
          have hj : j < es.length := by omega
          have eg : es.getD j true = es[j] := by rw [List.getD_eq_getElem?_getD, List.getElem?_eq_getElem hj]; rfl
          rw [eg]
          exact pD I n (by show X.A.units + 1 + n < cLine; omega) rx ry (he j x y es[j] ex ey (List.getElem?_eq_getElem hj))
        · rw [List.size_toArray, show its.length = es.length by omega, pZ]
          exact cE
    · cases e1
      cases e2
      obtain ⟨its, r1, p1, _⟩ := I.tuple s1
      obtain ⟨jts, r2, p2, _⟩ := I.tuple s2
      have l1 := r1.length
      have l2 := r2.length
      refine SeqAt.eq_tupleAt (e := fun j => es.getD j true) (show s.heap.IsTuple p its.toArray from p1) (show s.heap.IsTuple q jts.toArray from p2) (by omega) (fun j h1 h2 => ?_) ?_
      · simp only [List.size_toArray] at h1 h2
        simp only [List.getElem_toArray]
        obtain ⟨x, ex, rx⟩ := fW r1 h1
        obtain ⟨y, ey, ry⟩ := fW r2 h2
        have hj : j < es.length := by omega
        have eg : es.getD j true = es[j] := by rw [List.getD_eq_getElem?_getD, List.getElem?_eq_getElem hj]; rfl
        rw [eg]
        exact pD I n (by show X.A.units + 1 + n < cLine; omega) rx ry (he j x y es[j] ex ey (List.getElem?_eq_getElem hj))
      · simp only [List.size_toArray]
        rw [show min its.length jts.length = es.length by omega, pZ, ← l1, ← l2]
        exact cE
def ci0 (K : PySem.W.Frag) (n : Nat) (neg : Bool) : R2 := fun x y H Q => (∃ p ys, y = .ref p ∧ (SqL K H p ys ∨ SqT K H p ys) ∧ ∃ es : List Bool, es.length = ys.length ∧ (∀ (j : Nat) y e, ys[j]? = some y → es[j]? = some e → EqD K H n y x e) ∧ Q (.bl (if neg then !es.any id else es.any id)) H) ∨
 (∃ i j, x = .str i ∧ y = .str j ∧ Q (.bl (if neg then !(!(Builtin.Str.occurrences j i 0 j.length 1).isEmpty) else (!(Builtin.Str.occurrences j i 0 j.length 1).isEmpty))) H)
theorem EqD.det (I : Inv X pins σ H s) : ∀ (n : Nat) (x y : V) (b c : Bool), EqD X.K H n x y b → EqD X.K H n x y c → b = c := by
 intro n
 induction n with
 | zero => intro x y b c h1 h2; rw [h1.2.2, h2.2.2]
 | succ n ih =>
  intro x y b c h1 h2
  have flat_ref : ∀ {p : Addr}, qU (.ref p) = true → False := fun h => by cases h
  rcases h1 with ⟨a1, a2, rfl⟩ | ⟨p, q, xs, ys, rfl, rfl, s1, s2, h1⟩ | ⟨p, q, xs, ys, rfl, rfl, s1, s2, es, hl, he, rfl⟩
  · rcases h2 with ⟨b1, b2, rfl⟩ | ⟨p, q, xs, ys, rfl, rfl, _⟩ | ⟨p, q, xs, ys, rfl, rfl, _⟩
    · rfl
    · exact (flat_ref a1).elim
    · exact (flat_ref a1).elim
  · rcases h2 with ⟨b1, b2, rfl⟩ | ⟨p', q', xs', ys', e1, e2, t1, t2, h2⟩ | ⟨p', q', xs', ys', e1, e2, t1, t2, _⟩
    · exact (flat_ref b1).elim
    · cases e1
      cases e2
      have z1 := I.list_inj s1 t1
      have z2 := I.list_inj s2 t2
      subst z1 z2
      rcases h1 with ⟨n1, rfl⟩ | ⟨n1, es, hl, he, rfl⟩
      · rcases h2 with ⟨n2, rfl⟩ | ⟨n2, _⟩
        · rfl
        · exact absurd n2 n1
      · rcases h2 with ⟨n2, rfl⟩ | ⟨n2, es', hl', he', rfl⟩
        · exact absurd n1 n2
        · have : es = es' := by
           apply List.ext_getElem (by omega)
           intro j h1 h2
           exact ih xs[j] ys[j] es[j] es'[j] (he j _ _ _ (List.getElem?_eq_getElem (by omega)) (List.getElem?_eq_getElem (by omega)) (List.getElem?_eq_getElem h1)) (he' j _ _ _ (List.getElem?_eq_getElem (by omega)) (List.getElem?_eq_getElem (by omega)) (List.getElem?_eq_getElem h2))
          rw [this]
    · cases e1
      obtain ⟨_, _, ⟨o, n', eo, c1, _⟩, _⟩ := I.list s1
      obtain ⟨_, _, ⟨o', eo', c2, _⟩, _⟩ := I.tuple t1
      rw [eo] at eo'
      cases eo'
      rw [c1] at c2
      exact absurd c2 (by decide)
  · rcases h2 with ⟨b1, b2, rfl⟩ | ⟨p', q', xs', ys', e1, e2, t1, t2, h2⟩ | ⟨p', q', xs', ys', e1, e2, t1, t2, es', hl', he', rfl⟩
    · exact (flat_ref b1).elim
    · cases e1
      obtain ⟨_, _, ⟨o, n', eo, c1, _⟩, _⟩ := I.list t1
      obtain ⟨_, _, ⟨o', eo', c2, _⟩, _⟩ := I.tuple s1
      rw [eo] at eo'
      cases eo'
      rw [c1] at c2
      exact absurd c2 (by decide)
    · cases e1
      cases e2
      have z1 := I.tuple_inj s1 t1
      have z2 := I.tuple_inj s2 t2
      subst z1 z2
      have : es = es' := by
       apply List.ext_getElem (by omega)
       intro j h1 h2
       have hx : j < xs.length := by omega
       have hy : j < ys.length := by omega
       exact ih xs[j] ys[j] es[j] es'[j] (he j _ _ _ (List.getElem?_eq_getElem hx) (List.getElem?_eq_getElem hy) (List.getElem?_eq_getElem h1)) (he' j _ _ _ (List.getElem?_eq_getElem hx) (List.getElem?_eq_getElem hy) (List.getElem?_eq_getElem h2))
      rw [this]
theorem bk5 (I : Inv X pins σ H s) {n : Nat} {x : V} {ys : List V} {us : List Value} {es : List Bool} (r : Vals ys us) (hl : es.length = ys.length) (he : ∀ (j : Nat) y e, ys[j]? = some y → es[j]? = some e → EqD X.K H n y x e) :
 ∃ e : Value → Bool, (∀ u ∈ us, ∃ y, RelV y u ∧ EqD X.K H n y x (e u)) ∧ us.any e = es.any id := by
 refine ⟨fun u => @decide (∃ y, RelV y u ∧ EqD X.K H n y x true) (Classical.propDecidable _), ?_, ?_⟩
 · intro u hu
   obtain ⟨j, hj, rfl⟩ := List.getElem_of_mem hu
   obtain ⟨y, ey, ry⟩ := fW r hj
   have lj : j < es.length := by rw [hl, r.length]; exact hj
   have q := he j y es[j] ey (List.getElem?_eq_getElem lj)
   refine ⟨y, ry, ?_⟩
   by_cases c : ∃ y, RelV y us[j] ∧ EqD X.K H n y x true
   · obtain ⟨y', ry', q'⟩ := c
     have := ry.inj ry'
     subst this
     simp only [show (∃ y, RelV y us[j] ∧ EqD X.K H n y x true) from ⟨y, ry, q'⟩, decide_true]
     exact q'
   · simp only [c, decide_false]
     cases eb : es[j] with
     | false => rw [eb] at q; exact q
     | true => rw [eb] at q; exact absurd ⟨y, ry, q⟩ c
 · rw [Bool.eq_iff_iff, List.any_eq_true, List.any_eq_true]
   constructor
   · rintro ⟨u, hu, c⟩
     obtain ⟨j, hj, rfl⟩ := List.getElem_of_mem hu
     obtain ⟨y, ey, ry⟩ := fW r hj
     have lj : j < es.length := by rw [hl, r.length]; exact hj
     obtain ⟨y', ry', q'⟩ := @of_decide_eq_true _ (Classical.propDecidable _) c
     have := ry.inj ry'
     subst this
     have q := he j y es[j] ey (List.getElem?_eq_getElem lj)
     exact ⟨es[j], List.getElem_mem lj, EqD.det I n y x es[j] true q q'⟩
   · rintro ⟨e, hm, c⟩
     obtain ⟨j, hj, rfl⟩ := List.getElem_of_mem hm
     have c' : es[j] = true := c
     have lj : j < us.length := by rw [← r.length, ← hl]; exact hj
     obtain ⟨y, ey, ry⟩ := fW r lj
     have q := he j y es[j] ey (List.getElem?_eq_getElem hj)
     rw [c'] at q
     exact ⟨us[j], List.getElem_mem lj, @decide_eq_true _ (Classical.propDecidable _) ⟨y, ry, q⟩⟩
theorem ds1 {n : Nat} (hu : X.A.units + n + 1 < cLine) : OpR X (compareOp .In) (ci0 X.K n false) := by
 intro pins s σ H x y v u Q I rx ry h
 rcases h with ⟨p, ys, rfl, hs, es, hl, he, q⟩ | ⟨i, j, rfl, rfl, q⟩
 · cases ry
   rcases hs with hs | hs
   · obtain ⟨its, r, pl, _⟩ := I.list hs
     obtain ⟨e, h1, h2⟩ := bk5 I r hl he
     refine SeqAt.in_listAt e pl.isList (fun y hy => ?_) ?_
     · obtain ⟨y', ry', q'⟩ := h1 y (by simpa using hy)
       exact pD I n (by show X.A.units + 1 + n < cLine; omega) ry' rx q'
     · exact ⟨.bl _, H, I, by rw [List.any_toArray, h2]; rfl, q⟩
   · obtain ⟨its, r, pl, _⟩ := I.tuple hs
     obtain ⟨e, h1, h2⟩ := bk5 I r hl he
     refine SeqAt.in_tupleAt e (show s.heap.IsTuple p its.toArray from pl) (fun y hy => ?_) ?_
     · obtain ⟨y', ry', q'⟩ := h1 y (by simpa using hy)
       exact pD I n (by show X.A.units + 1 + n < cLine; omega) ry' rx q'
     · exact ⟨.bl _, H, I, by rw [List.any_toArray, h2]; rfl, q⟩
 · exact bi7 pins s σ H _ _ v u Q I rx ry ⟨i, j, rfl, rfl, q⟩
def cs9 : R2 := fun x y H Q => (y = .non ∧ Q (.bl (decide (x = .non))) H) ∨ (∃ a b, x = .bl a ∧ y = .bl b ∧ Q (.bl (a == b)) H)
theorem ah9 : OpR X (compareOp .Is) cs9 := by
 intro pins s σ H x y v u Q I rx ry h
 rcases h with h | ⟨a, b, rfl, rfl, q⟩
 · exact ce9 pins s σ H x y v u Q I rx ry h
 · cases rx
   cases ry
   exact is_bool ⟨.bl _, H, I, rfl, q⟩
end
end L2
namespace L2
open PySem PySem.Spec PyProof.Rows
def wM (z : Str) (k : Nat) : Str := ⟨((List.replicate k z.cps.toList).flatten).toArray⟩
theorem aj2 (z : Str) : ∀ (k : Nat) (acc : List Nat), List.foldl (fun x1 x2 => x1 ++ x2) acc.toArray (List.replicate k z.cps) = (acc ++ (List.replicate k z.cps.toList).flatten).toArray
 | 0, acc => by simp
 | k + 1, acc => by
  rw [List.replicate_succ, List.foldl_cons, List.replicate_succ, List.flatten_cons]
  have e : acc.toArray ++ z.cps = (acc ++ z.cps.toList).toArray := by simp
  rw [e, aj2 z k, List.append_assoc]
section
variable {X : Cx}
def cb4 (K : PySem.W.Frag) : R2 := fun x y H Q => ∃ l b xs zs, x = .ref l ∧ y = .ref b ∧ SqS K H l xs ∧ SqS K H b zs ∧ xs.length + zs.length ≤ sizeLine ∧ ∀ p, H p = none → Q (.ref p) (upd H p (.lst (xs ++ zs)))
theorem op_catS : OpR X (binaryOp .Add) (cb4 X.K) := by
 intro pins s σ H x y v u Q I rx ry h
 obtain ⟨l, b, xs, zs, rfl, rfl, hH, hB, hz, q⟩ := h
 cases rx
 cases ry
 obtain ⟨its, n, r, e, _⟩ := I.listS hH
 obtain ⟨its2, n2, r2, e2, _⟩ := I.listS hB
 have hl := r.length
 have hl2 := r2.length
 refine PySem.P.add_list e e2 ?_ (by rw [List.size_toArray, List.size_toArray]; omega)
 have ea : its.toArray ++ its2.toArray = (its ++ its2).toArray := by simp
 rw [ea]
 exact ⟨.ref _, _, I.lnew (t' := s.toks) (r.append r2) (by rw [List.length_append]; omega), rfl, q _ I.fresh⟩
def cw3 (K : PySem.W.Frag) : R2 := fun x y H Q => uI (fun i j => .int (i + j)) x y H Q ∨ db3 x y H Q ∨ cb4 K x y H Q ∨ cf4 K x y H Q
theorem bF (K : PySem.W.Frag) (hK : X.K = K := by rfl) : OpR X (binaryOp .Add) (cw3 K) := by
 subst hK
 exact op_add.or (op_add_str.or (op_catS.or co7))
def cy3 : R2 := fun x y H Q => ∃ z k, x = .str z ∧ y = .int k ∧ -(2 ^ 63) ≤ k ∧ k < 2 ^ 62 ∧ z.length * k.toNat ≤ sizeLine ∧ Q (.str (wM z k.toNat)) H
theorem cm5 : OpR X (binaryOp .Mult) cy3 := by
 intro pins s σ H x y v u Q I rx ry h
 obtain ⟨z, k, rfl, rfl, h1, h2, hz, q⟩ := h
 obtain ⟨t, rfl⟩ := rx
 obtain ⟨t', rfl⟩ := ry
 have hn := sizeLine_eq
 refine PySem.P.mul_str ?_ ?_ ?_ ?_
 · rw [decide_eq_false (by omega), decide_eq_false (by omega)]
   rfl
 · intro hk _
   have hk1 : 1 ≤ k := by omega
   have : ((z.length : Int)) ≤ 16777216 := by
    have : z.length * 1 ≤ z.length * k.toNat := Nat.mul_le_mul_left _ (by omega)
    omega
   have hq : (2 ^ 63 - 1 : Int) / k ≥ (z.length : Int) := by
    refine (Int.le_ediv_iff_mul_le (by omega)).mpr ?_
    have e : (z.length : Int) * k = ((z.length * k.toNat : Nat) : Int) := by
     rw [Int.natCast_mul, Int.toNat_of_nonneg (by omega)]
    rw [e]
    omega
   omega
 · intro _ _
   unfold Builtin.Str.tooLong
   exact decide_eq_false (by omega)
 · split
   · next hk =>
     have e : wM z k.toNat = Str.empty := by
      have : k.toNat = 0 := by omega
      rw [this]
      rfl
     rw [e] at q
     exact ⟨by decide, .str _, H, I.tok _, ⟨_, rfl⟩, q⟩
   · next hk =>
     split
     · next hc =>
       have e : wM z k.toNat = z := by
        rw [Bool.or_eq_true, beq_iff_eq, beq_iff_eq] at hc
        rcases hc with hc | hc
        · subst hc
          simp [wM]
        · have hz0 : z.cps.toList = [] := by
           have : z.cps.toList.length = 0 := by rw [Array.length_toList]; exact hc
           exact List.eq_nil_of_length_eq_zero this
          have : (List.replicate k.toNat z.cps.toList).flatten = [] := by
           rw [hz0]
           simp
          unfold wM
          rw [this]
          obtain ⟨⟨l⟩⟩ := z
          simp at hz0
          rw [hz0]
       rw [e] at q
       exact ⟨.str _, H, I, ⟨_, rfl⟩, q⟩
     · have e : (⟨(List.replicate k.toNat z.cps).foldl (· ++ ·) #[]⟩ : Str) = wM z k.toNat := by
        have := aj2 z k.toNat []
        rw [List.nil_append] at this
        unfold wM
        rw [← this]
       rw [e]
       refine ⟨?_, .str _, H, I.tok _, ⟨_, rfl⟩, q⟩
       show ((List.replicate k.toNat z.cps.toList).flatten.toArray).size ≤ sizeLine
       rw [List.size_toArray, cv7, Array.length_toList, Nat.mul_comm]
       exact hz
def cx4 : R2 := fun x y H Q => df2 x y H Q ∨ cy3 x y H Q
theorem kX : OpR X (binaryOp .Mult) cx4 := op_mulB.or cm5
end
end L2
namespace TL
open PySem PySem.Spec PyProof.Rows L2
section
variable {Jn : iD} {K : PySem.W.Frag} {cn : Str → Option Addr} {E : XK} {As : List (List Addr)} {H : Hp} {Z : Addr → Prop} {Q : VK}
theorem WpE.val (w : WpE K cn E As H Z [] Q (.ok t)) (zi : ∀ a, Z a → H a ≠ none) (r : Rep K cn H Z t v []) : Q v H :=
 w v H Z [] ⟨Same.refl _, fun _ h => h, fun _ h => .inl h, zi, r, List.nodup_nil, eC, eC⟩
theorem WpE.newL (w : WpE K cn E As H Z [] Q (.ok (.lst true ts))) (zi : ∀ a, Z a → H a ≠ none) (r : Reps K cn H Z ts vs []) (p : Addr) (hp : H p = none) : Q (.ref p) (L2.upd H p (.lst vs)) := by
 have m := Mo.new (.lst vs) hp zi
 refine w (.ref p) _ Z [p] ⟨m.same, m.zz, m.zn, m.zi, ?_, by simp, fun b hb => ?_, fun b hb => ?_⟩
 · simp only [Rep]
   exact ⟨p, vs, [], rfl, rfl, eM, r.same m.same m.zz⟩
 · rw [List.mem_singleton.mp hb]; exact fun z => zi p z hp
 · rw [List.mem_singleton.mp hb]; exact .inl hp
theorem WpE.newT (w : WpE K cn E As H Z [] Q (.ok (.tup ts))) (zi : ∀ a, Z a → H a ≠ none) (r : Reps K cn H Z ts vs []) (p : Addr) (hp : H p = none) : Q (.ref p) (L2.upd H p (.tup vs)) := by
 have m := Mo.new (.tup vs) hp zi
 refine w (.ref p) _ Z [] ⟨m.same, m.zz, m.zn, m.zi, ?_, List.nodup_nil, eC, eC⟩
 simp only [Rep]
 exact ⟨p, vs, rfl, SqT.of eM, r.same m.same m.zz⟩
theorem Rep.int (h : Rep K cn H Z (.int i) v A) : v = .int i := by simp only [Rep] at h; exact h.1
theorem Rep.str (h : Rep K cn H Z (.str i) v A) : v = .str i := by simp only [Rep] at h; exact h.1
theorem Rep.bl (h : Rep K cn H Z (.bl i) v A) : v = .bl i := by simp only [Rep] at h; exact h.1
theorem Rep.non (h : Rep K cn H Z .non v A) : v = .non := by simp only [Rep] at h; exact h.1
theorem Rep.tupS (h : Rep K cn H Z (.tup ts) v A) : ∃ a vs, v = .ref a ∧ SqT K H a vs ∧ Reps K cn H Z ts vs A := by simp only [Rep] at h; exact h
theorem jL (i : Int) : Rep K cn H Z (.int i) (.int i) [] := by simp [Rep]
theorem rH (i : Bool) : Rep K cn H Z (.bl i) (.bl i) [] := by simp [Rep]
theorem yF (i : Str) : Rep K cn H Z (.str i) (.str i) [] := by simp [Rep]
noncomputable def bX : T → T → Res T
 | .int i, .int j => .ok (.int (i + j))
 | .str a, .str b => gate (a.length + b.length ≤ sizeLine) (.ok (.str (a ++ b)))
 | .lst _ xs, .lst _ ys => gate ((bG xs && bG ys) = true ∧ xs.length + ys.length ≤ sizeLine) (.ok (.lst true (xs ++ ys)))
 | .tup xs, .tup ys => gate ((bG xs && bG ys) = true ∧ xs.length + ys.length ≤ sizeLine ∧ xs.isEmpty = false ∧ ys.isEmpty = false) (.ok (.tup (xs ++ ys)))
 | _, _ => .no
theorem dj5 : mZ K cn (cw3 K) bX := fun E As H Z t u x y A B Q zi rt ru w => by
 unfold bX at w
 split at w
 · next i j => rw [rt.int, ru.int]; exact .inl ⟨i, j, rfl, rfl, w.val zi (jL _)⟩
 · next a b =>
   obtain ⟨h, w⟩ := w.gate
   rw [rt.str, ru.str]; exact .inr (.inl ⟨a, b, rfl, rfl, h, w.val zi (yF _)⟩)
 · next o xs o' ys =>
   obtain ⟨h, w⟩ := w.gate
   rw [Bool.and_eq_true] at h
   obtain ⟨a, vs, C, rfl, hs, r1, _⟩ := rt.lstSq
   obtain ⟨b, ws, D, rfl, hs', r2, _⟩ := ru.lstSq
   exact .inr (.inr (.inl ⟨a, b, vs, ws, rfl, rfl, hs, hs', by rw [Reps.length xs r1, Reps.length ys r2]; exact h.2, fun p hp => w.newL zi (Reps.append xs (r1.bareE h.1.1) (r2.bareE h.1.2)) p hp⟩))
 · next xs ys =>
   obtain ⟨h, w⟩ := w.gate
   rw [Bool.and_eq_true] at h
   obtain ⟨a, vs, rfl, hs, r1⟩ := rt.tupS
   obtain ⟨b, ws, rfl, hs', r2⟩ := ru.tupS
   have e1 := r1.isEmpty
   have e2 := r2.isEmpty
   refine .inr (.inr (.inr ⟨a, b, vs, ws, rfl, rfl, hs, hs', fun z => ?_, by rw [Reps.length xs r1, Reps.length ys r2]; exact h.2.1, fun z => ?_, fun _ p hp => w.newT zi (Reps.append xs (r1.bareE h.1.1) (r2.bareE h.1.2)) p hp⟩))
   · rw [z, h.2.2.1] at e1; cases e1
   · rw [z, h.2.2.2] at e2; cases e2
 · exact w.elim
def nR (f : Int → Int → Res T) : T → T → Res T
 | .int i, .int j => f i j
 | _, _ => .no
theorem bg1 {g : Int → Int → T} {g' : Int → Int → V} (hg : ∀ i j H Z, Rep K cn H Z (g i j) (g' i j) []) : mZ K cn (uI g') (nR fun i j => .ok (g i j)) := fun E As H Z t u x y A B Q zi rt ru w => by
 unfold nR at w
 split at w
 · next i j => rw [rt.int, ru.int]; exact ⟨i, j, rfl, rfl, w.val zi (hg i j _ _)⟩
 · exact w.elim
theorem r_i {C : Int → Int → Prop} {g : Int → Int → T} {g' : Int → Int → V} (hg : ∀ i j H Z, Rep K cn H Z (g i j) (g' i j) []) : mZ K cn (rI C g') (nR fun i j => gate (C i j) (.ok (g i j))) := fun E As H Z t u x y A B Q zi rt ru w => by
 unfold nR at w
 split at w
 · next i j =>
   obtain ⟨h, w⟩ := WpE.gate w
   rw [rt.int, ru.int]; exact ⟨i, j, rfl, rfl, h, w.val zi (hg i j _ _)⟩
 · exact w.elim
def dQ := nR fun i j => .ok (.int (i - j))
theorem dz5 : mZ K cn (uI fun i j => .int (i - j)) dQ := bg1 fun _ _ _ _ => jL _
def ltT := nR fun i j => .ok (.bl (decide (i < j)))
def pP := nR fun i j => .ok (.bl (decide (i ≤ j)))
def gtT := nR fun i j => .ok (.bl (decide (j < i)))
def geT := nR fun i j => .ok (.bl (decide (j ≤ i)))
theorem du7 : mZ K cn (uI fun i j => .bl (decide (i < j))) ltT := bg1 fun _ _ _ _ => rH _
theorem dj7 : mZ K cn (uI fun i j => .bl (decide (i ≤ j))) pP := bg1 fun _ _ _ _ => rH _
theorem dv6 : mZ K cn (uI fun i j => .bl (decide (j < i))) gtT := bg1 fun _ _ _ _ => rH _
theorem dk7 : mZ K cn (uI fun i j => .bl (decide (j ≤ i))) geT := bg1 fun _ _ _ _ => rH _
noncomputable def gF := nR fun i j => gate (uY i j) (.ok (.int (i / j)))
theorem co9 : mZ K cn (rI uY fun i j => .int (i / j)) gF := r_i fun _ _ _ _ => jL _
noncomputable def cM := nR fun i j => gate (0 < j) (.ok (.int (i % j)))
theorem dg3 : mZ K cn (rI (fun _ j => 0 < j) fun i j => .int (i % j)) cM := r_i (C := fun _ j => 0 < j) fun _ _ _ _ => jL _
noncomputable def wZ := nR fun i j => gate (yU i j) (.ok (.int (i ^ j.toNat)))
theorem dm3 : mZ K cn (rI yU fun i j => .int (i ^ j.toNat)) wZ := r_i fun _ _ _ _ => jL _
def mulOk (i j : Int) : Prop := (-(2 ^ 64) < i ∧ i < 2 ^ 64) ∨ (-(2 ^ 64) < j ∧ j < 2 ^ 64) ∨ Builtin.Int.intBits i + Builtin.Int.intBits j ≤ 134217728
theorem mulOk.ok (h : mulOk i j) : IntMulOk i j := by
 rcases h with h | h | h
 · exact cz7 h.1 h.2
 · exact cu7 h.1 h.2
 · exact bn4 h
noncomputable def nE : T → T → Res T
 | .int i, .int j => gate (mulOk i j) (.ok (.int (i * j)))
 | .str z, .int k => gate (-(2 ^ 63) ≤ k ∧ k < 2 ^ 62 ∧ z.length * k.toNat ≤ sizeLine) (.ok (.str (wM z k.toNat)))
 | _, _ => .no
theorem dx5 : mZ K cn cx4 nE := fun E As H Z t u x y A B Q zi rt ru w => by
 unfold nE at w
 split at w
 · next i j =>
   obtain ⟨h, w⟩ := w.gate
   rw [rt.int, ru.int]; exact .inl ⟨i, j, rfl, rfl, h.ok, w.val zi (jL _)⟩
 · next z k =>
   obtain ⟨h, w⟩ := w.gate
   rw [rt.str, ru.int]; exact .inr ⟨z, k, rfl, rfl, h.1, h.2.1, h.2.2, w.val zi (yF _)⟩
 · exact w.elim
def tW : T → Res T
 | .int i => .ok (.int (-i))
 | _ => .no
theorem dk5 : R1R K cn (rU fun i => .int (-i)) tW := fun E As H Z t x A Q zi rt w => by
 unfold tW at w
 split at w
 · next i => rw [rt.int]; exact ⟨i, rfl, w.val zi (jL _)⟩
 · exact w.elim
def xZ : T → T → Res T
 | .bl a, .bl b => .ok (.bl (a == b))
 | .non, .non => .ok (.bl true)
 | _, .non => .ok (.bl false)
 | _, _ => .no
theorem Rep.notNon (h : Rep K cn H Z t v A) (n : t ≠ .non) : v ≠ .non := by
 cases t with
 | non => exact absurd rfl n
 | bl _ => rw [h.bl]; exact fun z => nomatch z
 | int _ => rw [h.int]; exact fun z => nomatch z
 | str _ => rw [h.str]; exact fun z => nomatch z
 | ty _ => simp only [Rep] at h; rw [h.1]; exact fun z => nomatch z
 | lst o ts => obtain ⟨a, vs, C, rfl, _⟩ := h.lstSq; exact fun z => nomatch z
 | tup ts => obtain ⟨a, vs, rfl, _⟩ := h.tupS; exact fun z => nomatch z
 | ins o c ns ts =>
  cases o with
  | true => simp only [Rep] at h; obtain ⟨a, C, dx, vs, B, rfl, _⟩ := h; exact fun z => nomatch z
  | false => simp only [Rep] at h; obtain ⟨a, C, dx, vs, rfl, _⟩ := h; exact fun z => nomatch z
theorem dp7 : mZ K cn cs9 xZ := fun E As H Z t u x y A B Q zi rt ru w => by
 unfold xZ at w
 split at w
 · next a b => rw [rt.bl, ru.bl]; exact .inr ⟨a, b, rfl, rfl, w.val zi (rH _)⟩
 · rw [rt.non, ru.non]; exact .inl ⟨rfl, w.val zi (rH _)⟩
 · next h1 h2 => rw [ru.non]; exact .inl ⟨rfl, by rw [decide_eq_false (rt.notNon (by rintro rfl; exact h2 rfl))]; exact w.val zi (rH _)⟩
 · exact w.elim
def iR : T → T → Res T
 | .non, .non => .ok (.bl false)
 | _, .non => .ok (.bl true)
 | _, _ => .no
theorem cr6 : mZ K cn (fun x y H Q => y = .non ∧ Q (.bl (!decide (x = .non))) H) iR := fun E As H Z t u x y A B Q zi rt ru w => by
 unfold iR at w
 split at w
 · rw [rt.non, ru.non]; exact ⟨rfl, w.val zi (rH _)⟩
 · next h2 => rw [ru.non]; exact ⟨rfl, by rw [decide_eq_false (rt.notNon (by rintro rfl; exact h2 rfl))]; exact w.val zi (rH _)⟩
 · exact w.elim
def nK : T → T → Option Bool
 | .non, .non => some true
 | .non, .bl _ => some false
 | .non, .int _ => some false
 | .non, .str _ => some false
 | .bl _, .non => some false
 | .bl a, .bl b => some (a == b)
 | .bl a, .int b => some ((if a then 1 else 0) == b)
 | .bl _, .str _ => some false
 | .int _, .non => some false
 | .int a, .bl b => some (a == (if b then 1 else 0))
 | .int a, .int b => some (a == b)
 | .int _, .str _ => some false
 | .str _, .non => some false
 | .str _, .bl _ => some false
 | .str _, .int _ => some false
 | .str a, .str b => some (a == b)
 | _, _ => none
mutual
def pU : Nat → T → T → Option Bool
 | n + 1, .lst _ xs, .lst _ ys => if xs.length = ys.length then (wR n xs ys).map fun es => es.all id else some false
 | n + 1, .tup xs, .tup ys => (wR n xs ys).map fun es => es.all id && xs.length == ys.length
 | _, t, u => nK t u
def wR : Nat → List T → List T → Option (List Bool)
 | n, x :: xs, y :: ys => (pU n x y).bind fun b => (wR n xs ys).map fun es => b :: es
 | _, _, _ => some []
end
theorem bc8 (rt : Rep K cn H Z t x A) (ru : Rep K cn H Z u y B) (h : nK t u = some b) : qU x = true ∧ qU y = true ∧ b = eqV x y := by
 unfold nK at h
 split at h
 all_goals first
  | (simp only [Rep] at rt ru; obtain ⟨rfl, _⟩ := rt; obtain ⟨rfl, _⟩ := ru; cases h; exact ⟨rfl, rfl, rfl⟩)
  | cases h
theorem bi1 (rt : Rep K cn H Z t x A) (ru : Rep K cn H Z u y B) (h : nK t u = some b) : EqD K H n x y b := by
 have q := bc8 rt ru h
 cases n with
 | zero => exact q
 | succ n => exact .inl q
theorem ax4 (ih : ∀ (t u : T) {x y : V} {A B : List Addr} {b : Bool}, Rep K cn H Z t x A → Rep K cn H Z u y B → pU n t u = some b → EqD K H n x y b) : ∀ (ts us : List T) {vs ws : List V} {A B : List Addr} {es : List Bool}, Reps K cn H Z ts vs A → Reps K cn H Z us ws B → wR n ts us = some es →
 es.length = min ts.length us.length ∧ ∀ (j : Nat) x y e, vs[j]? = some x → ws[j]? = some y → es[j]? = some e → EqD K H n x y e
 | x :: xs, y :: ys, vs, ws, A, B, es, r1, r2, h => by
  simp only [Reps] at r1 r2
  obtain ⟨v, vs', B1, C1, rfl, rfl, a1, a2⟩ := r1
  obtain ⟨w, ws', B2, C2, rfl, rfl, b1, b2⟩ := r2
  rw [wR, Option.bind_eq_some_iff] at h
  obtain ⟨b, h1, h⟩ := h
  rw [Option.map_eq_some_iff] at h
  obtain ⟨es', h2, rfl⟩ := h
  obtain ⟨q1, q2⟩ := ax4 ih xs ys a2 b2 h2
  refine ⟨by simp only [List.length_cons]; omega, fun j x' y' e e1 e2 e3 => ?_⟩
  cases j with
  | zero =>
   simp at e1 e2 e3
   subst e1 e2 e3
   exact ih x y a1 b1 h1
  | succ j => exact q2 j x' y' e (by simpa using e1) (by simpa using e2) (by simpa using e3)
 | [], us, vs, ws, A, B, es, r1, r2, h => by
  have e : wR n [] us = some [] := by cases us <;> rfl
  rw [e] at h
  cases h
  exact ⟨by simp, fun j x y e _ _ e3 => by simp at e3⟩
 | t :: ts, [], vs, ws, A, B, es, r1, r2, h => by
  have e : wR n (t :: ts) [] = some [] := rfl
  rw [e] at h
  cases h
  exact ⟨by simp, fun j x y e _ _ e3 => by simp at e3⟩
theorem bw0 (n : Nat) : ∀ (t u : T) {x y : V} {A B : List Addr} {b : Bool}, Rep K cn H Z t x A → Rep K cn H Z u y B → pU n t u = some b → EqD K H n x y b := by
 induction n with
 | zero =>
  intro t u x y A B b rt ru h
  have e : pU 0 t u = nK t u := by cases t <;> cases u <;> rfl
  rw [e] at h
  exact bi1 rt ru h
 | succ n ih =>
  intro t u x y A B b rt ru h
  by_cases h1 : ∃ o o' xs ys, t = .lst o xs ∧ u = .lst o' ys
  · obtain ⟨o, o', xs, ys, rfl, rfl⟩ := h1
    obtain ⟨a, vs, C, rfl, hs, r1, _⟩ := rt.lstSq
    obtain ⟨b', ws, D, rfl, hs', r2, _⟩ := ru.lstSq
    rw [pU] at h
    have l1 := Reps.length xs r1
    have l2 := Reps.length ys r2
    split at h
    · next hl =>
      rw [Option.map_eq_some_iff] at h
      obtain ⟨es, h1, rfl⟩ := h
      obtain ⟨q1, q2⟩ := ax4 ih xs ys r1 r2 h1
      exact .inr (.inl ⟨a, b', vs, ws, rfl, rfl, hs.sq, hs'.sq, .inr ⟨by omega, es, by rw [q1]; omega, q2, rfl⟩⟩)
    · next hl =>
      cases h
      exact .inr (.inl ⟨a, b', vs, ws, rfl, rfl, hs.sq, hs'.sq, .inl ⟨by omega, rfl⟩⟩)
  · by_cases h2 : ∃ xs ys, t = .tup xs ∧ u = .tup ys
    · obtain ⟨xs, ys, rfl, rfl⟩ := h2
      obtain ⟨a, vs, rfl, hs, r1⟩ := rt.tupS
      obtain ⟨b', ws, rfl, hs', r2⟩ := ru.tupS
      rw [pU] at h
      have l1 := Reps.length xs r1
      have l2 := Reps.length ys r2
      rw [Option.map_eq_some_iff] at h
      obtain ⟨es, h1, rfl⟩ := h
      obtain ⟨q1, q2⟩ := ax4 ih xs ys r1 r2 h1
      exact .inr (.inr ⟨a, b', vs, ws, rfl, rfl, hs, hs', es, by rw [q1]; omega, q2, by rw [l1, l2]⟩)
    · have e : pU (n + 1) t u = nK t u := by
       cases t <;> cases u <;> first | rfl | exact absurd ⟨_, _, _, _, rfl, rfl⟩ h1 | exact absurd ⟨_, _, rfl, rfl⟩ h2
      rw [e] at h
      exact bi1 rt ru h
def bR : Nat := 6
def sF : T → Bool
 | .lst _ _ => true
 | .tup _ => true
 | _ => false
def bs4 : T → T → Bool
 | .bl _, .int _ => false
 | .int _, .bl _ => false
 | t, u => !sF t && !sF u
def eqB (t u : T) : Option Bool := if sF t = true ∧ sF u = true then pU bR t u else if bs4 t u = true then nK t u else none
def fV (t u : T) : Res T := match eqB t u with
 | some b => .ok (.bl b)
 | none => .no
theorem Rep.seqRef (h : Rep K cn H Z t v A) (i : sF t = true) : ∃ a, v = .ref a := by
 cases t with
 | lst o ts => obtain ⟨a, vs, C, rfl, _⟩ := h.lstSq; exact ⟨a, rfl⟩
 | tup ts => obtain ⟨a, vs, rfl, _⟩ := h.tupS; exact ⟨a, rfl⟩
 | _ => cases i
theorem bg4 (rt : Rep K cn H Z t x A) (ru : Rep K cn H Z u y B) (hs : bs4 t u = true) (h : nK t u = some b) : cs2 x y = true ∧ b = decide (x = y) := by
 unfold nK at h
 split at h
 all_goals first
  | (cases hs; done)
  | (simp only [Rep] at rt ru; obtain ⟨rfl, _⟩ := rt; obtain ⟨rfl, _⟩ := ru; cases h; exact ⟨rfl, by first | rfl | (rw [as5]) | (rw [bk0]) | (rw [at4]) | (symm; exact decide_eq_false (fun z => nomatch z))⟩)
  | (cases h; done)
theorem da7 : mZ K cn (cz1 K bR) fV := fun E As H Z t u x y A B Q zi rt ru w => by
 unfold fV at w
 split at w
 · next b h =>
   unfold eqB at h
   split at h
   · next hs =>
     obtain ⟨p, rfl⟩ := rt.seqRef hs.1
     obtain ⟨q, rfl⟩ := ru.seqRef hs.2
     exact .inr ⟨p, q, b, rfl, rfl, bw0 bR t u rt ru h, w.val zi (rH _)⟩
   · split at h
     · next hs =>
       obtain ⟨q1, rfl⟩ := bg4 rt ru hs h
       exact .inl ⟨q1, w.val zi (rH _)⟩
     · cases h
 · exact w.elim
def neT (t u : T) : Res T := if bs4 t u = true then match nK t u with
 | some b => .ok (.bl (!b))
 | none => .no else .no
theorem dx6 : mZ K cn rNe neT := fun E As H Z t u x y A B Q zi rt ru w => by
 unfold neT at w
 split at w
 · next hs =>
   split at w
   · next b h =>
     obtain ⟨q1, rfl⟩ := bg4 rt ru hs h
     exact ⟨q1, w.val zi (rH _)⟩
   · exact w.elim
 · exact w.elim
def occ (j i : Str) : Bool := !(Builtin.Str.occurrences j i 0 j.length 1).isEmpty
def wV (t : T) : List T → Option (List Bool)
 | [] => some []
 | u :: us => (pU bR u t).bind fun b => (wV t us).map fun es => b :: es
theorem ak0 (rt : Rep K cn H Z t x A) : ∀ (us : List T) {ws : List V} {B : List Addr} {es : List Bool}, Reps K cn H Z us ws B → wV t us = some es → es.length = ws.length ∧ ∀ (j : Nat) y e, ws[j]? = some y → es[j]? = some e → EqD K H bR y x e
 | [], ws, B, es, r, h => by
  simp only [Reps] at r
  obtain ⟨rfl, _⟩ := r
  cases h
  exact ⟨rfl, fun j y e e1 => by simp at e1⟩
 | u :: us, ws, B, es, r, h => by
  simp only [Reps] at r
  obtain ⟨w, ws', B1, C1, rfl, rfl, a1, a2⟩ := r
  rw [wV, Option.bind_eq_some_iff] at h
  obtain ⟨b, h1, h⟩ := h
  rw [Option.map_eq_some_iff] at h
  obtain ⟨es', h2, rfl⟩ := h
  obtain ⟨q1, q2⟩ := ak0 rt us a2 h2
  refine ⟨by simp [q1], fun j y e e1 e2 => ?_⟩
  cases j with
  | zero =>
   simp at e1 e2
   subst e1 e2
   exact bw0 bR u t a1 rt h1
  | succ j => exact q2 j y e (by simpa using e1) (by simpa using e2)
def inT (neg : Bool) : T → T → Res T
 | t, .lst _ us => match wV t us with
  | some es => .ok (.bl (if neg = true then !es.any id else es.any id))
  | none => .no
 | t, .tup us => match wV t us with
  | some es => .ok (.bl (if neg = true then !es.any id else es.any id))
  | none => .no
 | .str i, .str j => .ok (.bl (if neg = true then !occ j i else occ j i))
 | _, _ => .no
theorem de7 : mZ K cn (ci0 K bR neg) (inT neg) := fun E As H Z t u x y A B Q zi rt ru w => by
 unfold inT at w
 split at w
 · next t o us =>
   split at w
   · next es h =>
     obtain ⟨a, vs, C, rfl, hs, r1, _⟩ := ru.lstSq
     obtain ⟨q1, q2⟩ := ak0 rt us r1 h
     exact .inl ⟨a, vs, rfl, .inl hs.sq, es, q1, q2, w.val zi (rH _)⟩
   · exact w.elim
 · next t us =>
   split at w
   · next es h =>
     obtain ⟨a, vs, rfl, hs, r1⟩ := ru.tupS
     obtain ⟨q1, q2⟩ := ak0 rt us r1 h
     exact .inl ⟨a, vs, rfl, .inr hs, es, q1, q2, w.val zi (rH _)⟩
   · exact w.elim
 · next i j => rw [rt.str, ru.str]; exact .inr ⟨i, j, rfl, rfl, w.val zi (rH _)⟩
 · exact w.elim
end
end TL
namespace L2
open PySem PySem.Spec PyProof.Rows
section
variable {X : Cx} (K : PySem.W.Frag)
theorem dM (hr : Room k X.A) (hn : n ≤ 60 := by decide) (hK : X.K = K := by rfl) : OpR X (compareOp .Eq) (cz1 K n) := by
 subst hK
 exact dx1 (by have := hr.units; omega)
theorem au2 (hr : Room k X.A) (hn : n ≤ 60 := by decide) (hK : X.K = K := by rfl) : OpR X (compareOp .In) (ci0 K n false) := by
 subst hK
 exact ds1 (by have := hr.units; omega)
theorem aU (hK : X.K = K := by rfl) : IxR X (rIx K) := by
 subst hK
 exact ds0
def du1 : V → Option Int → Option Int → Hp → VK → Prop := fun x lo hi H Q => ca9 K x lo hi H Q ∨ dr0 K x lo hi H Q ∨ dz0 x lo hi H Q
theorem rQ (hK : X.K = K := by rfl) : SlR X (du1 K) := by
 subst hK
 exact SlR.or cu5 (SlR.or do0 dx0)
theorem eR (ha : PE X a ta) (he : ∀ whole, isTrue a X.env whole = (do let v ← whole; standAt a.pos; holding [v] (truthy v))) (hK : X.K = K := by rfl) :
 PT X a (fun σ H Q => ta σ H fun x H' => ∃ k, av9 K x H' k ∧ Q k H') := by
 subst hK
 exact cm0 ha he
theorem gX (hl : PE X l tl) (hK : X.K = K := by rfl) : PI X tg l (TL.iV K tl) := by
 subst hK
 intro pins s σ H R I h
 refine cR (hl pins s σ H _ I h) fun v s1 ⟨x, H1, I1, r1, q1⟩ => ?_
 rcases q1 with ⟨a, e, q⟩ | ⟨z, e, q⟩
 · subst e
   cases r1
   rcases q with ⟨⟨xs, hq⟩, q⟩ | ⟨⟨xs, hq⟩, q⟩
   · obtain ⟨its, rv, p, hz⟩ := I1.list hq
     refine wpAny_pyIter_list p.isList ?_
     refine ⟨s1.heap.objs.size, [s1.heap.objs.size], _, _, H1, rfl, I1.kept (t' := s1.toks) fun b o e => Heap.get?_push_of_some _ e, ba7 a _, ⟨_, Heap.get?_push_size _ rfl, rfl, rfl⟩, fun b hb => ?_, q⟩
     have e : b = s1.heap.objs.size := by simpa using hb
     subst e
     exact I1.fpOk (Nat.le_refl _) (I1.hok.fresh (Nat.le_refl _))
   · obtain ⟨its, rv, p, hz⟩ := I1.tuple hq
     refine wpAny_pyIter_tuple (show s1.heap.IsTuple a its.toArray from p) ?_
     refine ⟨s1.heap.objs.size, [s1.heap.objs.size], _, _, H1, rfl, I1.kept (t' := s1.toks) fun b o e => Heap.get?_push_of_some _ e, bx5 a _, ⟨_, Heap.get?_push_size _ rfl, rfl, rfl⟩, fun b hb => ?_, q⟩
     have e : b = s1.heap.objs.size := by simpa using hb
     subst e
     exact I1.fpOk (Nat.le_refl _) (I1.hok.fresh (Nat.le_refl _))
 · subst e
   obtain ⟨t, rfl⟩ := r1
   have fp : ∀ b ∈ [s1.heap.objs.size], pW X pins H1 b := fun b hb => by
    have e : b = s1.heap.objs.size := by simpa using hb
    subst e
    exact I1.fpOk (Nat.le_refl _) (I1.hok.fresh (Nat.le_refl _))
   cases ha : z.cps.all (· < 128)
   · exact wpAny_pyIter_wide ha ⟨s1.heap.objs.size, [s1.heap.objs.size], _, _, H1, rfl, I1.kept (t' := s1.toks) fun b o e => Heap.get?_push_of_some _ e, bj7 _ z t, ⟨_, Heap.get?_push_size _ rfl, rfl, rfl⟩, fp, q⟩
   · exact wpAny_pyIter_ascii ha ⟨s1.heap.objs.size, [s1.heap.objs.size], _, _, H1, rfl, I1.kept (t' := s1.toks) fun b o e => Heap.get?_push_of_some _ e, bu5 _ z t, ⟨_, Heap.get?_push_size _ rfl, rfl, rfl⟩, fp, q⟩
theorem gK (n : Nat) (hc : X.calm = true) (h : PGs X es t)
 (hn : (assignEach es X.env).length = n := by rfl) (hst : (assignEach es X.env).findIdx? (·.1) = none := by rfl) (hK : X.K = K := by rfl) : PG X (.Tuple es k pos) (cl0 K n t) := by
 subst hK
 exact dm2 hc h hn hst
theorem fU {o e : Expr} {es : List Expr} {to : TE} {t : TA} {name : Str} {apos cpos : Pos} {T id : String} {r : V → List V → Hp → VK → Prop} (pa : PlainAttrs T) (slot : Slot T name id) (hty : typeOf (.builtin id) = pure (.type "method_descriptor")) (hm : MtR X id r) (ho : PE X o to) (ha : PA X (e :: es) t)
 (hbase : attributeBase o name X.env (eval o X.env) = eval o X.env := by rfl)
 (hfew : ((backTo cpos (starEach (e :: es) X.env)).all (fun x => !x.1) && (backToKw cpos (keywordEach [] X.env)).all (fun x => x.1.isSome)
  && decide ((e :: es).length + ([] : List Keyword).length + (if ([] : List Keyword).isEmpty then 0 else 1) < 30)) = true := by rfl)
 (hline : (apos.endLine == cpos.line) = true := by rfl) (hs : starEach (e :: es) X.env = (false, eval e X.env) :: starEach es X.env := by rfl) (hplain : (backTo cpos (starEach es X.env)).any (·.1) = false := by rfl) (hK : X.K = K := by rfl) :
 PE X (.Call (.Attribute o name apos) (e :: es) [] cpos) (tBM K T r to t) := by
 subst hK
 exact de6 pa slot hty hm ho ha hbase hfew hline hs hplain
theorem cH (hK : X.K = K := by rfl) : CallR X (.builtin "len") (cf8 K) := by subst hK; exact bw9
theorem yJ (hK : X.K = K := by rfl) : CallR X (.builtin "abs") cb9 := cf2
theorem ai9 (hK : X.K = K := by rfl) : CallR X (.builtin "divmod") bd4 := bl2
theorem iZ (hc : X.calm = true := by rfl) (hK : X.K = K := by rfl) : CallR X (.builtin "all") (dj2 K) := by subst hK; exact cv2 hc
theorem rM (hc : X.calm = true := by rfl) (hK : X.K = K := by rfl) : CallR X (.builtin "max") (cg2 K) := by subst hK; exact bt7 hc
theorem lQ (hc : X.calm = true := by rfl) (hK : X.K = K := by rfl) : CallR X (.builtin "min") (cc2 K) := by subst hK; exact bo8 hc
def bl7 : List V → Hp → VK → Prop := fun xs H Q => ∃ p ys, xs = [.ref p] ∧ (SqL K H p ys ∨ SqT K H p ys) ∧ ∀ l, H l = none → Q (.ref l) (upd H l (.lst ys))
theorem fP (hK : X.K = K := by rfl) : CallR X (.type "list") (bl7 K) := by subst hK; exact bv0
theorem cw2 (hK : X.K = K := by rfl) : MtR X "str.join" (bm4 K) := by subst hK; exact cy7
end
end L2
namespace TL
open PySem PySem.Spec PyProof.Rows L2
section
variable {Jn : iD} {K : PySem.W.Frag} {cn : Str → Option Addr} {E : XK} {As : List (List Addr)} {H : Hp} {Z : Addr → Prop} {Q : VK}
def bE : T → T → Res T
 | .lst _ ts, .int n => match atI ts n with
  | some t => .ok t
  | none => .no
 | .tup ts, .int n => match atI ts n with
  | some t => .ok t
  | none => .no
 | .str z, .int n => if z.length ≤ sizeLine then match atI z.cps.toList n with
  | some c => .ok (.str ⟨#[c]⟩)
  | none => .no else .no
 | _, _ => .no
theorem Reps.atI (r : Reps K cn H Z ts vs A) (h : L2.atI ts n = some t) : ∃ v B, L2.atI vs n = some v ∧ Rep K cn H Z t v B := by
 unfold L2.atI at h ⊢
 rw [Option.bind_eq_some_iff] at h
 obtain ⟨j, h1, h2⟩ := h
 obtain ⟨v, B, e, rv, _⟩ := Reps.get ts r h2
 exact ⟨v, B, by rw [Reps.length ts r, h1]; exact e, rv⟩
theorem ds5 (ha : RB Jn K cn E ta a) (hb : RB Jn K cn E tb b) : RB Jn K cn E (tOp (rIx K) ta tb) (aG bE a b) := fun As H Z ρ σ F Q w => by
 unfold aG at w
 refine ha As H Z ρ σ F _ ?_
 cases e : a ρ with
 | ok t =>
  rw [e] at w
  intro v H1 Z1 B p
  refine hb As H1 Z1 ρ σ (F.mo p.mo) _ ?_
  simp only [Res.bind] at w
  cases e2 : b ρ with
  | ok u =>
   rw [e2] at w
   intro v2 H2 Z2 B2 p2
   have rt := p.rep.same p2.same p2.zz
   have m := p.mo.trans p2.mo
   have cE : ∀ {t : T} {v : V} {C : List Addr}, WpB K cn E As H Z Q (.ok t) → Rep K cn H2 Z2 t v C → Q v H2 := fun w r => w _ H2 Z2 _ ⟨m.same, m.zz, m.zn, m.zi, r⟩
   simp only at w
   unfold bE at w
   split at w
   · next o ts n =>
     split at w
     · next t' h =>
       obtain ⟨q, vs, C, rfl, hs, r, _⟩ := rt.lstSq
       obtain ⟨v', D, e3, rv⟩ := r.atI h
       exact .inl ⟨q, vs, n, v', rfl, p2.rep.int, hs.sq, e3, cE w rv⟩
     · exact w.elim
   · next ts n =>
     split at w
     · next t' h =>
       obtain ⟨q, vs, rfl, hs, r⟩ := rt.tupS
       obtain ⟨v', D, e3, rv⟩ := r.atI h
       exact .inr (.inl ⟨q, vs, n, v', rfl, p2.rep.int, hs, e3, cE w rv⟩)
     · exact w.elim
   · next z n =>
     split at w
     · next hz =>
       split at w
       · next c h => exact .inr (.inr ⟨z, n, c, rt.str, p2.rep.int, hz, h, cE w (yF _)⟩)
       · exact w.elim
     · exact w.elim
   · exact w.elim
  | ex x => rw [e2] at w; exact WpX.ev w p.mo.ev
  | no => rw [e2] at w; exact w
 | ex x => rw [e] at w; exact w
 | no => rw [e] at w; exact w
def eK {α : Type} (xs : List α) (lo hi : Option Int) : List α := (xs.drop (HT.sIx xs.length 0 lo)).take (HT.sIx xs.length xs.length hi - HT.sIx xs.length 0 lo)
def pQ : T → Option Int → Option Int → Res T
 | .lst _ ts, lo, hi => if bG ts = true then .ok (.lst true (eK ts lo hi)) else .no
 | .tup ts, lo, hi => if bG ts = true ∧ ¬ (HT.sIx ts.length 0 lo = 0 ∧ HT.sIx ts.length ts.length hi = ts.length) then .ok (.tup (eK ts lo hi)) else .no
 | .str z, lo, hi => if z.length ≤ sizeLine then .ok (.str (Txt.slice z lo hi)) else .no
 | _, _, _ => .no
theorem Reps.cut (r : Reps K cn H Z ts vs []) (lo hi : Option Int) : Reps K cn H Z (eK ts lo hi) (yL vs lo hi) [] := by
 unfold eK yL
 rw [Reps.length ts r]
 exact Reps.take _ _ (Reps.drop _ _ r)
theorem df7 : RSR K cn (du1 K) pQ := fun E As H Z t x A lo hi Q zi rt w => by
 cases t with
 | lst o ts =>
  simp only [pQ] at w
  split at w
  · next h =>
    obtain ⟨q, vs, C, rfl, hs, r, _⟩ := rt.lstSq
    exact .inl ⟨q, vs, rfl, hs.sq, fun p hp => w.newL zi ((r.bareE h).cut lo hi) p hp⟩
  · exact w.elim
 | tup ts =>
  simp only [pQ] at w
  split at w
  · next h =>
    obtain ⟨q, vs, rfl, hs, r⟩ := rt.tupS
    exact .inr (.inl ⟨q, vs, rfl, hs, by rw [Reps.length ts r]; exact h.2, fun p hp => w.newT zi ((r.bareE h.1).cut lo hi) p hp⟩)
  · exact w.elim
 | str z =>
  simp only [pQ] at w
  split at w
  · next h => rw [rt.str]; exact .inr (.inr ⟨z, rfl, h, w.val zi (yF _)⟩)
  · exact w.elim
 | _ => exact w.elim
def cd1 (k : Option Int) : T → Res T
 | .lst _ ts => if bG ts = true ∧ k = some (-1) then .ok (.lst true ts.reverse) else .no
 | _ => .no
def ds6 (a : Fr → Res T) (s : Fr → Res (Option Int)) : Fr → Res T := fun ρ => (a ρ).bind fun t => (s ρ).bind fun k => cd1 k t
theorem Reps.one1 (r : Reps K cn H Z [t] vs A) : ∃ v, vs = [v] ∧ Rep K cn H Z t v A := by
 simp only [Reps] at r
 obtain ⟨v, w, B, C, rfl, rfl, r, rfl, rfl⟩ := r
 exact ⟨v, rfl, by simpa using r⟩
theorem Reps.two2 (r : Reps K cn H Z [t, u] vs A) : ∃ v w B C, vs = [v, w] ∧ A = B ++ C ∧ Rep K cn H Z t v B ∧ Rep K cn H Z u w C := by
 simp only [Reps] at r
 obtain ⟨v, w, B, C, rfl, rfl, r, v2, w2, B2, C2, rfl, rfl, r2, rfl, rfl⟩ := r
 exact ⟨v, v2, B, B2, rfl, by simp, r, r2⟩
def eP : List T → Res T
 | [.str z] => if z.length ≤ sizeLine then .ok (.int z.length) else .no
 | [.lst _ ts] => .ok (.int ts.length)
 | [.tup ts] => .ok (.int ts.length)
 | _ => .no
theorem dl5 : xV K cn (cf8 K) eP := fun E As H Z ts xs A Q zi r w => by
 unfold eP at w
 split at w
 · next z =>
   split at w
   · next h => obtain ⟨v, rfl, rv⟩ := r.one1; rw [rv.str]; exact ⟨_, _, rfl, ⟨h, rfl⟩, w.val zi (jL _)⟩
   · exact w.elim
 · next o ts =>
   obtain ⟨v, rfl, rv⟩ := r.one1
   obtain ⟨q, vs, C, rfl, hs, r', _⟩ := rv.lstSq
   exact ⟨_, _, rfl, .inl ⟨vs, hs.sq, rfl⟩, by rw [Reps.length ts r']; exact w.val zi (jL _)⟩
 · next ts =>
   obtain ⟨v, rfl, rv⟩ := r.one1
   obtain ⟨q, vs, rfl, hs, r'⟩ := rv.tupS
   exact ⟨_, _, rfl, .inr ⟨vs, hs, rfl⟩, by rw [Reps.length ts r']; exact w.val zi (jL _)⟩
 · exact w.elim
def ao1 : List T → Res T
 | [.int i] => .ok (.int (if i < 0 then -i else i))
 | _ => .no
theorem dq4 : xV K cn cb9 ao1 := fun E As H Z ts xs A Q zi r w => by
 unfold ao1 at w
 split at w
 · next i => rw [r.ints1]; exact ⟨i, rfl, w.val zi (jL _)⟩
 · exact w.elim
noncomputable def zY : List T → Res T
 | [.int i, .int j] => gate (uY i j) (.ok (.tup [.int (i / j), .int (i % j)]))
 | _ => .no
theorem dw6 (i j : Int) : Reps K cn H Z [.int i, .int j] [.int i, .int j] [] := by
 simp only [Reps]
 exact ⟨_, _, [], [], rfl, rfl, jL _, _, _, [], [], rfl, rfl, jL _, rfl, rfl⟩
theorem ch2 : xV K cn bd4 zY := fun E As H Z ts xs A Q zi r w => by
 unfold zY at w
 split at w
 · next i j =>
   obtain ⟨h, w⟩ := w.gate
   rw [r.ints2]; exact ⟨i, j, rfl, h, fun p hp => w.newT zi (dw6 _ _) p hp⟩
 · exact w.elim
def aw8 : T → Option String
 | .int _ => some "int"
 | .bl _ => some "bool"
 | .str _ => some "str"
 | .lst _ _ => some "list"
 | .tup _ => some "tuple"
 | _ => none
def cb3 (tx ty : String) : Option Bool :=
 if (ty = "int" ∨ ty = "bool" ∨ ty = "str" ∨ ty = "list" ∨ ty = "tuple") then some (tx = ty ∨ (tx = "bool" ∧ ty = "int")) else none
theorem ck6 (h0 : aw8 t = some tx) (h : cb3 tx ty = some b) : gI tx ty b := by
 have hx : tx = "int" ∨ tx = "bool" ∨ tx = "str" ∨ tx = "list" ∨ tx = "tuple" := by
  cases t <;> simp [aw8] at h0 <;> subst h0 <;> simp
 unfold cb3 at h
 split at h
 · next hy =>
   cases h
   rcases hx with rfl | rfl | rfl | rfl | rfl <;> rcases hy with rfl | rfl | rfl | rfl | rfl <;> constructor
 · cases h
theorem ce1 (r : Rep K cn H Z t v A) (h : aw8 t = some tx) : TyN K H v tx := by
 cases t with
 | int i => rw [r.int]; cases h; rfl
 | bl i => rw [r.bl]; cases h; rfl
 | str i => rw [r.str]; cases h; rfl
 | lst o ts => obtain ⟨q, vs, C, rfl, hs, _⟩ := r.lstSq; cases h; exact .inl ⟨rfl, vs, hs.sq⟩
 | tup ts => obtain ⟨q, vs, rfl, hs, _⟩ := r.tupS; cases h; exact .inr ⟨rfl, vs, hs⟩
 | _ => cases h
def tN : List T → Res T
 | [t, .ty n] => match aw8 t with
  | some tx => match cb3 tx n with
   | some b => .ok (.bl b)
   | none => .no
  | none => .no
 | _ => .no
theorem dg6 : xV K cn (dv7 K) tN := fun E As H Z ts xs A Q zi r w => by
 unfold tN at w
 split at w
 · next t n =>
   split at w
   · next tx h1 =>
     split at w
     · next b h2 =>
       obtain ⟨v, u, B, C, rfl, _, r1, r2⟩ := r.two2
       simp only [Rep] at r2
       rw [r2.1]
       exact ⟨v, n, tx, b, rfl, ce1 r1 h1, ck6 h1 h2, w.val zi (rH _)⟩
     · exact w.elim
   · exact w.elim
 · exact w.elim
def ae0 : List T → Option (List Bool)
 | [] => some []
 | .bl b :: ts => (ae0 ts).map (b :: ·)
 | _ :: _ => none
theorem az9 : ∀ (ts : List T) {vs : List V} {A : List Addr} {bs : List Bool}, Reps K cn H Z ts vs A → ae0 ts = some bs → vs = bs.map V.bl
 | [], vs, A, bs, r, h => by
  simp only [Reps] at r
  cases h
  exact r.1
 | t :: ts, vs, A, bs, r, h => by
  simp only [Reps] at r
  obtain ⟨v, vs', B, C, rfl, rfl, r1, r2⟩ := r
  cases t with
  | bl b =>
   simp only [ae0] at h
   rw [Option.map_eq_some_iff] at h
   obtain ⟨bs', h1, rfl⟩ := h
   rw [az9 ts r2 h1, r1.bl]
   rfl
  | _ => cases h
def nU (any : Bool) : List T → Res T
 | [.lst _ ts] => match ae0 ts with
  | some bs => .ok (.bl (if any = true then bs.any id else bs.all id))
  | none => .no
 | _ => .no
theorem dr5 : xV K cn (dj2 K) (nU false) := fun E As H Z ts xs A Q zi r w => by
 unfold nU at w
 split at w
 · next o ts =>
   split at w
   · next bs h =>
     obtain ⟨v, rfl, rv⟩ := r.one1
     obtain ⟨q, vs, C, rfl, hs, r', _⟩ := rv.lstSq
     have := az9 ts r' h
     subst this
     exact ⟨q, bs, rfl, hs.sq, w.val zi (rH _)⟩
   · exact w.elim
 · exact w.elim
def yD : List T → Option (List Int)
 | [] => some []
 | .int b :: ts => (yD ts).map (b :: ·)
 | _ :: _ => none
theorem al4 : ∀ (ts : List T) {vs : List V} {A : List Addr} {bs : List Int}, Reps K cn H Z ts vs A → yD ts = some bs → vs = bs.map V.int
 | [], vs, A, bs, r, h => by
  simp only [Reps] at r
  cases h
  exact r.1
 | t :: ts, vs, A, bs, r, h => by
  simp only [Reps] at r
  obtain ⟨v, vs', B, C, rfl, rfl, r1, r2⟩ := r
  cases t with
  | int b =>
   simp only [yD] at h
   rw [Option.map_eq_some_iff] at h
   obtain ⟨bs', h1, rfl⟩ := h
   rw [al4 ts r2 h1, r1.int]
   rfl
  | _ => cases h
theorem xP : ∀ ns : List Int, yD (ns.map T.int) = some ns
 | [] => rfl
 | n :: ns => by simp [yD, xP ns]
theorem az6 : ∀ ns : List Bool, ae0 (ns.map T.bl) = some ns
 | [] => rfl
 | n :: ns => by simp [ae0, az6 ns]
def cx1 : List Int → Int
 | [] => 0
 | n :: ns => ns.foldl (fun a b => if b > a then b else a) n
def cn1 : List Int → Int
 | [] => 0
 | n :: ns => ns.foldl (fun a b => if b < a then b else a) n
theorem as6 : ∀ (n : Int) (ns : List Int), (ns.foldl (fun a b => if b > a then b else a) n ∈ n :: ns) ∧ ∀ a ∈ n :: ns, a ≤ ns.foldl (fun a b => if b > a then b else a) n
 | n, [] => by simp
 | n, m :: ns => by
  simp only [List.foldl_cons]
  have ih := as6 (if m > n then m else n) ns
  refine ⟨?_, fun a ha => ?_⟩
  · rcases List.mem_cons.mp ih.1 with h | h
    · rw [h]; split <;> simp
    · exact List.mem_cons_of_mem _ (List.mem_cons_of_mem _ h)
  · have h1 := ih.2 (if m > n then m else n) List.mem_cons_self
    rcases List.mem_cons.mp ha with rfl | ha
    · split at h1 <;> rename_i hc
      · simp only [hc, if_true]; omega
      · simp only [hc, if_false]; exact h1
    · rcases List.mem_cons.mp ha with rfl | ha
      · split at h1 <;> rename_i hc
        · simp only [hc, if_true]; exact h1
        · simp only [hc, if_false]; omega
      · exact ih.2 a (List.mem_cons_of_mem _ ha)
theorem am7 : ∀ (n : Int) (ns : List Int), (ns.foldl (fun a b => if b < a then b else a) n ∈ n :: ns) ∧ ∀ a ∈ n :: ns, ns.foldl (fun a b => if b < a then b else a) n ≤ a
 | n, [] => by simp
 | n, m :: ns => by
  simp only [List.foldl_cons]
  have ih := am7 (if m < n then m else n) ns
  refine ⟨?_, fun a ha => ?_⟩
  · rcases List.mem_cons.mp ih.1 with h | h
    · rw [h]; split <;> simp
    · exact List.mem_cons_of_mem _ (List.mem_cons_of_mem _ h)
  · have h1 := ih.2 (if m < n then m else n) List.mem_cons_self
    rcases List.mem_cons.mp ha with rfl | ha
    · split at h1 <;> rename_i hc
      · simp only [hc, if_true]; omega
      · simp only [hc, if_false]; exact h1
    · rcases List.mem_cons.mp ha with rfl | ha
      · split at h1 <;> rename_i hc
        · simp only [hc, if_true]; exact h1
        · simp only [hc, if_false]; omega
      · exact ih.2 a (List.mem_cons_of_mem _ ha)
def vL : List T → Res T
 | [.int i, .int j] => .ok (.int (if j > i then j else i))
 | [.lst _ ts] => match yD ts with
  | some (n :: ns) => .ok (.int (cx1 (n :: ns)))
  | _ => .no
 | _ => .no
def rO : List T → Res T
 | [.int i, .int j] => .ok (.int (if j < i then j else i))
 | [.lst _ ts] => match yD ts with
  | some (n :: ns) => .ok (.int (cn1 (n :: ns)))
  | _ => .no
 | _ => .no
theorem dk6 : xV K cn (cg2 K) vL := fun E As H Z ts xs A Q zi r w => by
 unfold vL at w
 split at w
 · next i j => rw [r.ints2]; exact .inl ⟨i, j, rfl, w.val zi (jL _)⟩
 · next o ts =>
   split at w
   · next n ns h =>
     obtain ⟨v, rfl, rv⟩ := r.one1
     obtain ⟨q, vs, C, rfl, hs, r', _⟩ := rv.lstSq
     have := al4 ts r' h
     subst this
     refine .inr ⟨q, n :: ns, rfl, hs.sq, List.cons_ne_nil _ _, fun M h1 h2 => ?_⟩
     obtain ⟨g1, g2⟩ := as6 n ns
     have : M = cx1 (n :: ns) := Int.le_antisymm (g2 M h1) (h2 _ g1)
     rw [this]
     exact w.val zi (jL _)
   · exact w.elim
 · exact w.elim
theorem dh4 : xV K cn (cc2 K) rO := fun E As H Z ts xs A Q zi r w => by
 unfold rO at w
 split at w
 · next i j => rw [r.ints2]; exact .inl ⟨i, j, rfl, w.val zi (jL _)⟩
 · next o ts =>
   split at w
   · next n ns h =>
     obtain ⟨v, rfl, rv⟩ := r.one1
     obtain ⟨q, vs, C, rfl, hs, r', _⟩ := rv.lstSq
     have := al4 ts r' h
     subst this
     refine .inr ⟨q, n :: ns, rfl, hs.sq, List.cons_ne_nil _ _, fun M h1 h2 => ?_⟩
     obtain ⟨g1, g2⟩ := am7 n ns
     have : M = cn1 (n :: ns) := Int.le_antisymm (h2 _ g1) (g2 M h1)
     rw [this]
     exact w.val zi (jL _)
   · exact w.elim
 · exact w.elim
def cp8 (n : Int) : List Int → List Int
 | [] => [n]
 | m :: ms => if n ≤ m then n :: m :: ms else m :: cp8 n ms
def bq4 : List Int → List Int
 | [] => []
 | n :: ns => cp8 n (bq4 ns)
def bh4 : List T → Res T
 | [.lst _ ts] => match yD ts with
  | some ns => if ns.length < 64 then .ok (.lst true ((bq4 ns).map .int)) else .no
  | none => .no
 | _ => .no
def hV : List T → Res T
 | [.lst _ ts] => if bG ts = true then .ok (.lst true ts) else .no
 | [.tup ts] => if bG ts = true then .ok (.lst true ts) else .no
 | _ => .no
theorem ck9 : xV K cn (bl7 K) hV := fun E As H Z ts xs A Q zi r w => by
 unfold hV at w
 split at w
 · next o ts =>
   split at w
   · next h =>
     obtain ⟨v, rfl, rv⟩ := r.one1
     obtain ⟨q, vs, C, rfl, hs, r', _⟩ := rv.lstSq
     exact ⟨q, vs, rfl, .inl hs.sq, fun l hl => w.newL zi (r'.bareE h) l hl⟩
   · exact w.elim
 · next ts =>
   split at w
   · next h =>
     obtain ⟨v, rfl, rv⟩ := r.one1
     obtain ⟨q, vs, rfl, hs, r'⟩ := rv.tupS
     exact ⟨q, vs, rfl, .inr hs, fun l hl => w.newL zi (r'.bareE h) l hl⟩
   · exact w.elim
 · exact w.elim
def cm6 : T → List T → Res T
 | .str z, [.str y] => .ok (.bl (Txt.startswith z y))
 | _, _ => .no
def xI : List T → Option (List Str)
 | [] => some []
 | .str b :: ts => (xI ts).map (b :: ·)
 | _ :: _ => none
theorem az4 : ∀ (ts : List T) {vs : List V} {A : List Addr} {bs : List Str}, Reps K cn H Z ts vs A → xI ts = some bs → vs = bs.map V.str
 | [], vs, A, bs, r, h => by
  simp only [Reps] at r
  cases h
  exact r.1
 | t :: ts, vs, A, bs, r, h => by
  simp only [Reps] at r
  obtain ⟨v, vs', B, C, rfl, rfl, r1, r2⟩ := r
  cases t with
  | str b =>
   simp only [xI] at h
   rw [Option.map_eq_some_iff] at h
   obtain ⟨bs', h1, rfl⟩ := h
   rw [az4 ts r2 h1, r1.str]
   rfl
  | _ => cases h
theorem zK : ∀ ns : List Str, xI (ns.map T.str) = some ns
 | [] => rfl
 | n :: ns => by simp [xI, zK ns]
def aj0 : T → List T → Res T
 | .str z, [.lst _ ts] => match xI ts with
  | some ys => if (ys.map (·.length)).sum + ys.length * z.length ≤ 16777216 then .ok (.str (Txt.join z ys)) else .no
  | none => .no
 | _, _ => .no
theorem dr1 : RMR K cn "str" (bm4 K) aj0 := fun E As H Z t ts x xs A B Q zi rt r w => by
 unfold aj0 at w
 split at w
 · next z o ts =>
   split at w
   · next ys h =>
     split at w
     · next hz =>
       obtain ⟨v, rfl, rv⟩ := r.one1
       obtain ⟨q, vs, C, rfl, hs, r', _⟩ := rv.lstSq
       have := az4 ts r' h
       subst this
       rw [rt.str]
       exact ⟨z, q, ys, rfl, rfl, hs.sq, hz, w.val zi (yF _)⟩
     · exact w.elim
   · exact w.elim
 · exact w.elim
end
end TL
namespace TL
open PySem PySem.Spec PyProof.Rows L2
theorem mN (a : α) (f : α → Res β) : (Res.ok a).bind f = f a := rfl
theorem bi0 (P : Nat → Fr → Prop) : ∀ (ts : List T) (k : Nat) {ρ : Fr}, P k ρ → (∀ i t ρ, ts[i]? = some t → P (k + i) ρ → ∃ ρ1 ρ2, b t ρ = some ρ1 ∧ (body ρ1 = .nx ρ2 ∨ body ρ1 = .ct ρ2) ∧ P (k + i + 1) ρ2) → ∃ ρ', eT b body ts ρ = .nx ρ' ∧ P (k + ts.length) ρ'
 | [], k, ρ, h0, _ => ⟨ρ, rfl, h0⟩
 | t :: ts, k, ρ, h0, hs => by
  obtain ⟨ρ1, ρ2, h1, h2, h3⟩ := hs 0 t ρ rfl h0
  obtain ⟨ρ', h4, h5⟩ := bi0 (b := b) (body := body) P ts (k + 1) h3 (fun i u ρ e p => by
   have := hs (i + 1) u ρ (by simpa using e) (by rw [show k + (i + 1) = k + 1 + i by omega]; exact p)
   rw [show k + (i + 1) + 1 = k + 1 + i + 1 by omega] at this
   exact this)
  refine ⟨ρ', ?_, by rw [List.length_cons, show k + (ts.length + 1) = k + 1 + ts.length by omega]; exact h5⟩
  rcases h2 with h2 | h2 <;> simp only [eT, h1, h2, h4]
def Go (P : Fr → Prop) : cO → Prop
 | .nx ρ => P ρ
 | .ct ρ => P ρ
 | _ => False
def GoB (P : Fr → Prop) (body : Fr → cO) : Option Fr → Prop
 | some ρ => Go P (body ρ)
 | none => False
theorem dc4 : Go P (.nx ρ) = P ρ := rfl
theorem de3 : Go P (.ct ρ) = P ρ := rfl
theorem ca0 : GoB P body (some ρ) = Go P (body ρ) := rfl
theorem jQ (P : Nat → Fr → Prop) (h : eT b body ts ρ = o) (h0 : P 0 ρ) (hs : ∀ i t ρ, ts[i]? = some t → P i ρ → GoB (P (i + 1)) body (b t ρ)) : ∃ ρ', o = .nx ρ' ∧ P ts.length ρ' := by
 obtain ⟨ρ', h1, h2⟩ := bi0 (b := b) (body := body) P ts 0 h0 (fun i t ρ e p => by
  have := hs i t ρ e (by rw [Nat.zero_add] at p; exact p)
  rw [Nat.zero_add]
  cases e1 : b t ρ with
  | none => rw [e1] at this; exact this.elim
  | some ρ1 =>
   rw [e1] at this
   have g : Go (P (i + 1)) (body ρ1) := this
   cases e2 : body ρ1 with
   | nx ρ2 => rw [e2] at g; exact ⟨ρ1, ρ2, rfl, .inl e2, g⟩
   | ct ρ2 => rw [e2] at g; exact ⟨ρ1, ρ2, rfl, .inr e2, g⟩
   | _ => rw [e2] at g; exact g.elim)
 rw [Nat.zero_add] at h2
 exact ⟨ρ', by rw [← h, h1], h2⟩
def br4 (P B : Fr → Prop) (R : T → Prop) : cO → Prop
 | .nx ρ => P ρ
 | .ct ρ => P ρ
 | .bk ρ => B ρ
 | .rt t => R t
 | _ => False
def ae9 (P B : Fr → Prop) (R : T → Prop) (body : Fr → cO) : Option Fr → Prop
 | some ρ => br4 P B R (body ρ)
 | none => False
theorem af2 (P : Nat → Fr → Prop) (B : Fr → Prop) (R : T → Prop) : ∀ (ts : List T) (k : Nat) {ρ : Fr}, P k ρ → (∀ i t ρ, ts[i]? = some t → P (k + i) ρ → ae9 (P (k + i + 1)) B R body (b t ρ)) →
 (∃ ρ', eT b body ts ρ = .nx ρ' ∧ (P (k + ts.length) ρ' ∨ B ρ')) ∨ ∃ t, eT b body ts ρ = .rt t ∧ R t
 | [], k, ρ, h0, _ => .inl ⟨ρ, rfl, .inl h0⟩
 | t :: ts, k, ρ, h0, hs => by
  have h1 := hs 0 t ρ rfl h0
  have next : ∀ {ρ2 : Fr}, P (k + 1) ρ2 → (∃ ρ', eT b body ts ρ2 = .nx ρ' ∧ (P (k + (ts.length + 1)) ρ' ∨ B ρ')) ∨ ∃ t, eT b body ts ρ2 = .rt t ∧ R t := by
   intro ρ2 p
   have := af2 (b := b) (body := body) P B R ts (k + 1) p (fun i u ρ e p => by
    have := hs (i + 1) u ρ (by simpa using e) (by rw [show k + (i + 1) = k + 1 + i by omega]; exact p)
    rw [show k + (i + 1) + 1 = k + 1 + i + 1 by omega] at this
    exact this)
   rw [show k + 1 + ts.length = k + (ts.length + 1) by omega] at this
   exact this
  rw [List.length_cons]
  simp only [eT]
  cases e1 : b t ρ with
  | none => rw [e1] at h1; exact h1.elim
  | some ρ1 =>
   rw [e1] at h1
   have g : br4 (P (k + 0 + 1)) B R (body ρ1) := h1
   simp only
   cases e2 : body ρ1 with
   | nx ρ2 => rw [e2] at g; exact next g
   | ct ρ2 => rw [e2] at g; exact next g
   | bk ρ2 => rw [e2] at g; exact .inl ⟨ρ2, rfl, .inr g⟩
   | rt t => rw [e2] at g; exact .inr ⟨t, rfl, g⟩
   | _ => rw [e2] at g; exact g.elim
theorem bf8 (P : Nat → Fr → Prop) (B : Fr → Prop) (R : T → Prop) (h : eT b body ts ρ = o) (h0 : P 0 ρ) (hs : ∀ i t ρ, ts[i]? = some t → P i ρ → ae9 (P (i + 1)) B R body (b t ρ)) :
 (∃ ρ', o = .nx ρ' ∧ (P ts.length ρ' ∨ B ρ')) ∨ ∃ t, o = .rt t ∧ R t := by
 have := af2 (b := b) (body := body) P B R ts 0 h0 (fun i t ρ e p => by
  rw [Nat.zero_add] at p ⊢
  exact hs i t ρ e p)
 rw [Nat.zero_add, h] at this
 exact this
def GoW (P : Fr → Prop) (body : Fr → cO) (ρ : Fr) : Res Bool → Prop
 | .ok true => Go P (body ρ)
 | .ok false => True
 | _ => False
theorem cf9 (i j : Int) : bX (.int i) (.int j) = .ok (.int (i + j)) := rfl
theorem db1 (a b : Str) : bX (.str a) (.str b) = gate (a.length + b.length ≤ sizeLine) (.ok (.str (a ++ b))) := rfl
theorem dp2 (o o' : Bool) (xs ys : List T) : bX (.lst o xs) (.lst o' ys) = gate ((bG xs && bG ys) = true ∧ xs.length + ys.length ≤ sizeLine) (.ok (.lst true (xs ++ ys))) := rfl
theorem cu8 (xs ys : List T) : bX (.tup xs) (.tup ys) = gate ((bG xs && bG ys) = true ∧ xs.length + ys.length ≤ sizeLine ∧ xs.isEmpty = false ∧ ys.isEmpty = false) (.ok (.tup (xs ++ ys))) := rfl
theorem ce8 (i j : Int) : dQ (.int i) (.int j) = .ok (.int (i - j)) := rfl
theorem dn2 (i j : Int) : nE (.int i) (.int j) = gate (mulOk i j) (.ok (.int (i * j))) := rfl
theorem dy1 (z : Str) (k : Int) : nE (.str z) (.int k) = gate (-(2 ^ 63) ≤ k ∧ k < 2 ^ 62 ∧ z.length * k.toNat ≤ sizeLine) (.ok (.str (wM z k.toNat))) := rfl
theorem ce5 (i j : Int) : gF (.int i) (.int j) = gate (uY i j) (.ok (.int (i / j))) := rfl
theorem db2 (i j : Int) : cM (.int i) (.int j) = gate (0 < j) (.ok (.int (i % j))) := rfl
theorem ap3 (i j : Int) : wZ (.int i) (.int j) = gate (yU i j) (.ok (.int (i ^ j.toNat))) := rfl
theorem de5 (i : Int) : tW (.int i) = .ok (.int (-i)) := rfl
theorem dy3 (i j : Int) : ltT (.int i) (.int j) = .ok (.bl (decide (i < j))) := rfl
theorem db5 (i j : Int) : pP (.int i) (.int j) = .ok (.bl (decide (i ≤ j))) := rfl
theorem dv4 (i j : Int) : gtT (.int i) (.int j) = .ok (.bl (decide (j < i))) := rfl
theorem dh5 (i j : Int) : geT (.int i) (.int j) = .ok (.bl (decide (j ≤ i))) := rfl
theorem dw4 (a b : Bool) : xZ (.bl a) (.bl b) = .ok (.bl (a == b)) := rfl
theorem de4 : xZ .non .non = .ok (.bl true) := rfl
theorem do3 (i : Int) : xZ (.int i) .non = .ok (.bl false) := rfl
theorem dn6 (i : Str) : xZ (.str i) .non = .ok (.bl false) := rfl
theorem dn5 (o : Bool) (i : List T) : xZ (.lst o i) .non = .ok (.bl false) := rfl
theorem dd3 (i : List T) : xZ (.tup i) .non = .ok (.bl false) := rfl
theorem ce3 : iR .non .non = .ok (.bl false) := rfl
theorem co0 (i : Int) : iR (.int i) .non = .ok (.bl true) := rfl
theorem ci1 (i : Str) : iR (.str i) .non = .ok (.bl true) := rfl
theorem ca2 (o : Bool) (i : List T) : iR (.lst o i) .non = .ok (.bl true) := rfl
theorem ck3 (i : List T) : iR (.tup i) .non = .ok (.bl true) := rfl
theorem dm6 (i j : Int) : fV (.int i) (.int j) = .ok (.bl (i == j)) := rfl
theorem dp3 (i j : Str) : fV (.str i) (.str j) = .ok (.bl (i == j)) := rfl
theorem dj6 (i j : Bool) : fV (.bl i) (.bl j) = .ok (.bl (i == j)) := rfl
theorem dv3 (i j : Int) : neT (.int i) (.int j) = .ok (.bl (!(i == j))) := rfl
theorem da6 (i j : Str) : neT (.str i) (.str j) = .ok (.bl (!(i == j))) := rfl
theorem dz3 (i j : Bool) : neT (.bl i) (.bl j) = .ok (.bl (!(i == j))) := rfl
theorem dj3 (n : Bool) (i j : Str) : inT n (.str i) (.str j) = .ok (.bl (if n = true then !occ j i else occ j i)) := rfl
theorem dr4 (o : Bool) (ts : List T) (n : Int) : bE (.lst o ts) (.int n) = match atI ts n with | some t => .ok t | none => .no := rfl
theorem cj4 (ts : List T) (n : Int) : bE (.tup ts) (.int n) = match atI ts n with | some t => .ok t | none => .no := rfl
theorem dl4 (z : Str) (n : Int) : bE (.str z) (.int n) = if z.length ≤ sizeLine then match atI z.cps.toList n with | some c => .ok (.str ⟨#[c]⟩) | none => .no else .no := rfl
theorem dy6 (o : Bool) (ts : List T) (lo hi : Option Int) : pQ (.lst o ts) lo hi = if bG ts = true then .ok (.lst true (eK ts lo hi)) else .no := rfl
theorem dr6 (ts : List T) (lo hi : Option Int) : pQ (.tup ts) lo hi = if bG ts = true ∧ ¬ (HT.sIx ts.length 0 lo = 0 ∧ HT.sIx ts.length ts.length hi = ts.length) then .ok (.tup (eK ts lo hi)) else .no := rfl
theorem dt6 (z : Str) (lo hi : Option Int) : pQ (.str z) lo hi = if z.length ≤ sizeLine then .ok (.str (Txt.slice z lo hi)) else .no := rfl
theorem di3 (z : Str) : eP [.str z] = if z.length ≤ sizeLine then .ok (.int z.length) else .no := rfl
theorem dk4 (o : Bool) (ts : List T) : eP [.lst o ts] = .ok (.int ts.length) := rfl
theorem dv5 (ts : List T) : eP [.tup ts] = .ok (.int ts.length) := rfl
theorem dw5 (i : Int) : ao1 [.int i] = .ok (.int (if i < 0 then -i else i)) := rfl
theorem bo7 (i j : Int) : zY [.int i, .int j] = gate (uY i j) (.ok (.tup [.int (i / j), .int (i % j)])) := rfl
theorem cr4 (i : Int) : tN [.int i, .ty "int"] = .ok (.bl true) := by with_unfolding_all rfl
theorem bk7 (i : Int) : tN [.int i, .ty "bool"] = .ok (.bl false) := by with_unfolding_all rfl
theorem cu4 (i : Bool) : tN [.bl i, .ty "bool"] = .ok (.bl true) := by with_unfolding_all rfl
theorem bu7 (i : Bool) : tN [.bl i, .ty "int"] = .ok (.bl true) := by with_unfolding_all rfl
theorem cs4 (i : List T) : tN [.tup i, .ty "tuple"] = .ok (.bl true) := by with_unfolding_all rfl
theorem cd4 (o : Bool) (i : List T) : tN [.lst o i, .ty "list"] = .ok (.bl true) := by with_unfolding_all rfl
theorem dw3 (i : Str) : tN [.str i, .ty "str"] = .ok (.bl true) := by with_unfolding_all rfl
theorem cl8 (i : Str) : tN [.str i, .ty "int"] = .ok (.bl false) := by with_unfolding_all rfl
theorem bh5 (a o : Bool) (bs : List Bool) : nU a [.lst o (bs.map .bl)] = .ok (.bl (if a = true then bs.any id else bs.all id)) := by
 simp only [nU, az6]
theorem dx2 (i j : Int) : vL [.int i, .int j] = .ok (.int (if j > i then j else i)) := rfl
theorem dh2 (i j : Int) : rO [.int i, .int j] = .ok (.int (if j < i then j else i)) := rfl
theorem dd5 (o : Bool) (n : Int) (ns : List Int) : vL [.lst o ((n :: ns).map .int)] = .ok (.int (cx1 (n :: ns))) := by
 simp only [vL, xP]
theorem dc3 (o : Bool) (n : Int) (ns : List Int) : rO [.lst o ((n :: ns).map .int)] = .ok (.int (cn1 (n :: ns))) := by
 simp only [rO, xP]
theorem cr0 (o : Bool) (ns : List Int) : bh4 [.lst o (ns.map .int)] = if ns.length < 64 then .ok (.lst true ((bq4 ns).map .int)) else .no := by
 simp only [bh4, xP]
theorem dj0 (o : Bool) (ts : List T) : hV [.lst o ts] = if bG ts = true then .ok (.lst true ts) else .no := rfl
theorem cq9 (ts : List T) : hV [.tup ts] = if bG ts = true then .ok (.lst true ts) else .no := rfl
theorem bw8 (z y : Str) : cm6 (.str z) [.str y] = .ok (.bl (Txt.startswith z y)) := rfl
theorem bq3 (z : Str) (o : Bool) (ys : List Str) : aj0 (.str z) [.lst o (ys.map .str)] = if (ys.map (·.length)).sum + ys.length * z.length ≤ 16777216 then .ok (.str (Txt.join z ys)) else .no := by
 simp only [aj0, zK]
theorem dd4 (o : Bool) (ts : List T) : jV (.lst o ts) = if bG ts = true then .ok ts else .no := rfl
theorem dp4 (ts : List T) : jV (.tup ts) = if bG ts = true then .ok ts else .no := rfl
theorem dc5 (z : Str) : jV (.str z) = .ok (z.cps.toList.map fun c => T.str ⟨#[c]⟩) := rfl
theorem dy4 (ts : List T) : wB (.lst false ts) = if bG ts = true then .ok ts else .no := by simp only [wB, Bool.not_false, Bool.true_and]
theorem ds3 (ts : List T) : wB (.tup ts) = if bG ts = true then .ok ts else .no := rfl
theorem df6 (z : Str) : wB (.str z) = .ok (z.cps.toList.map fun c => T.str ⟨#[c]⟩) := rfl
theorem df5 (j : Int) : qG [.int j] = gate (-(2 ^ 62) ≤ j ∧ j < 2 ^ 62) (.ok (jE 0 j.toNat)) := rfl
theorem dk3 (i j : Int) : bx4 [.int i, .int j] = gate (-(2 ^ 62) ≤ i ∧ i < 2 ^ 62 ∧ -(2 ^ 62) ≤ j ∧ j < 2 ^ 62) (.ok (jE i (j - i).toNat)) := rfl
theorem dp5 (b : Bool) : vR (.bl b) = .ok b := rfl
theorem dm5 (b : Int) : vR (.int b) = .ok (b != 0) := rfl
theorem dx3 : vR .non = .ok false := rfl
theorem dl6 (o : Bool) (b : List T) : vR (.lst o b) = .ok (!b.isEmpty) := rfl
theorem dr3 (b : Bool) : toB (.bl b) = .ok b := rfl
theorem dg4 (i : Int) : toI (.int i) = .ok (some i) := rfl
theorem dn4 (o : Bool) (ts : List T) : cd1 (some (-1)) (.lst o ts) = if bG ts = true then .ok (.lst true ts.reverse) else .no := by
 simp only [cd1, and_true]
theorem eW : ∀ {l : List α}, (∀ a ∈ l, d (ρ.set k (some (g a))) = .ok (f a)) → cG (aK k) dG d ρ (l.map g) = .ok (l.map f)
 | [], _ => rfl
 | a :: l, h => by
  simp only [List.map_cons, cG, aK, dG, mN, if_true, h a List.mem_cons_self, eW (fun u hu => h u (List.mem_cons_of_mem _ hu))]
theorem ao3 : ∀ {l : List α}, (∀ a ∈ l, c (ρ.set k (some (g a))) = .ok (p a) ∧ (p a = true → d (ρ.set k (some (g a))) = .ok (f a))) → cG (aK k) c d ρ (l.map g) = .ok ((l.filter p).map f)
 | [], _ => rfl
 | a :: l, h => by
  obtain ⟨h1, h2⟩ := h a List.mem_cons_self
  have ih := ao3 (k := k) (c := c) (d := d) (ρ := ρ) (g := g) (f := f) (p := p) (l := l) (fun u hu => h u (List.mem_cons_of_mem _ hu))
  cases hp : p a with
  | true => simp only [List.map_cons, cG, aK, h1, hp, h2 hp, mN, if_true, List.filter_cons, ih]
  | false => simp only [List.map_cons, cG, aK, h1, hp, mN, Bool.false_eq_true, if_false, List.filter_cons, ih]
theorem jX {lo : Int} {n i : Nat} {t : T} (h : (jE lo n)[i]? = some t) : i < n ∧ t = .int (lo + i) := by
 unfold jE at h
 rw [List.getElem?_map] at h
 cases q : (List.range n)[i]? with
 | none => rw [q] at h; cases h
 | some j =>
  rw [q] at h
  obtain ⟨h1, h2⟩ := List.getElem?_eq_some_iff.mp q
  simp at h1 h2
  subst h2
  cases h
  exact ⟨h1, rfl⟩
theorem gW (lo : Int) (n : Nat) : (jE lo n).length = n := by simp [jE]
theorem kC {α : Type} {g : α → T} (h : ∀ a, eI (g a) = true) : ∀ l : List α, bG (l.map g) = true
 | [] => rfl
 | a :: l => by simp only [List.map_cons, bG, h a, kC h l, Bool.and_self]
theorem tR {α : Type} {g : α → T} (h : ∀ a, frz (g a) = g a) : ∀ l : List α, frzs (l.map g) = l.map g
 | [] => rfl
 | a :: l => by simp only [List.map_cons, frzs, h a, tR h l]
theorem kI {α : Type} {g : α → T} (h : ∀ a, eN (g a) = true) : ∀ l : List α, dX (l.map g) = true
 | [] => rfl
 | a :: l => by simp only [List.map_cons, dX, h a, kI h l, Bool.and_self]
theorem kS (l : List Int) : bG (l.map T.int) = true := kC (fun _ => rfl) l
theorem uQ (l : List Int) : frzs (l.map T.int) = l.map T.int := tR (fun _ => rfl) l
theorem vH (l : List Int) : dX (l.map T.int) = true := kI (fun _ => rfl) l
theorem qT (l : List Str) : bG (l.map T.str) = true := kC (fun _ => rfl) l
theorem yC (l : List Str) : frzs (l.map T.str) = l.map T.str := tR (fun _ => rfl) l
theorem vJ (l : List Str) : dX (l.map T.str) = true := kI (fun _ => rfl) l
theorem cr5 (z : Str) : z.length = z.cps.toList.length := Array.length_toList.symm
end TL
namespace TL
open PySem PySem.Spec PyProof.Rows L2
section
variable {Jn : iD} {K : PySem.W.Frag} {cn : Str → Option Addr} {E : XK}
def eZ (cs : List Str) (f : Str) : T → Res T
 | .ins _ c ns ts => if cs.contains c = true then match (ns.zip ts).lookup f with
  | some t => .ok t
  | none => .no else .no
 | _ => .no
def jA (K : PySem.W.Frag) (cn : Str → Option Addr) (cs : List Str) (f : Str) : Prop := ∀ c ∈ cs, ∀ C, cn c = some C → Cls K C ∧ NoAttr K C f
theorem Reps.lookup : ∀ (ns : List Str) (ts : List T) {vs : List V} {A : List Addr}, Reps K cn H Z ts vs A → (ns.zip ts).lookup f = some t → ∃ v B, (ns.zip vs).lookup f = some v ∧ Rep K cn H Z t v B
 | [], ts, _, _, _, e => by simp at e
 | n :: ns, [], _, _, _, e => by simp at e
 | n :: ns, u :: ts, vs, A, r, e => by
  simp only [Reps] at r
  obtain ⟨v, r', B, C, rfl, rfl, h1, h2⟩ := r
  rw [List.zip_cons_cons, List.lookup_cons] at e ⊢
  cases q : f == n with
  | true =>
   rw [q] at e
   cases e
   exact ⟨v, B, rfl, h1⟩
  | false =>
   rw [q] at e
   exact Reps.lookup ns ts h2 e
theorem Rep.insS (r : Rep K cn H Z (.ins o c ns ts) v B) : ∃ a C dx vs D, v = .ref a ∧ cn c = some C ∧ H a = some (.ins C dx (ns.zip vs)) ∧ ns.length = vs.length ∧ Reps K cn H Z ts vs D := by
 cases o with
 | true =>
  simp only [Rep] at r
  obtain ⟨a, C, dx, vs, D, rfl, _, hc, e, l, r⟩ := r
  exact ⟨a, C, dx, vs, D, rfl, hc, e, l, r⟩
 | false =>
  simp only [Rep] at r
  obtain ⟨a, C, dx, vs, rfl, _, hc, e, _, l, r⟩ := r
  exact ⟨a, C, dx, vs, [], rfl, hc, e, l, r⟩
theorem dn1 (hf : jA K cn cs f) (ha : RB Jn K cn E ta a) : RB Jn K cn E (cu1 K ta f) (fF (eZ cs f) a) := fun As H Z ρ σ F Q w => by
 unfold fF at w
 refine ha As H Z ρ σ F _ ?_
 cases e : a ρ with
 | ok t =>
  rw [e] at w
  intro v H1 Z1 B p
  simp only [Res.bind] at w
  unfold eZ at w
  split at w
  · next o c ns ts =>
    split at w
    · next hc =>
      split at w
      · next t' h =>
        obtain ⟨q, C, dx, vs, D, rfl, hC, eq, _, r⟩ := p.rep.insS
        obtain ⟨v', B', e3, rv⟩ := Reps.lookup ns ts r h
        obtain ⟨k1, k2⟩ := hf c (by simpa using hc) C hC
        exact ⟨q, C, dx, _, v', rfl, eq, k1, k2, e3, w v' H1 Z1 B' ⟨p.same, p.zz, p.zn, p.zi, rv⟩⟩
      · exact w.elim
    · exact w.elim
  · exact w.elim
 | ex x => rw [e] at w; exact w
 | no => rw [e] at w; exact w
def fQ (f : Str) : List Str → Option Nat
 | [] => none
 | n :: ns => if n = f then some 0 else (fQ f ns).map (· + 1)
theorem bk3 : ∀ (ns : List Str) (vs : List V) {k : Nat}, ns.length = vs.length → fQ f ns = some k → jS f y (ns.zip vs) = ns.zip (vs.set k y)
 | [], _, _, _, h => by simp [fQ] at h
 | n :: ns, [], _, l, _ => by simp at l
 | n :: ns, w :: vs, k, l, h => by
  unfold fQ at h
  rw [List.zip_cons_cons, jS]
  by_cases q : n = f
  · rw [if_pos q] at h; cases h
    rw [if_pos q]; rfl
  · rw [if_neg q, Option.map_eq_some_iff] at h
    obtain ⟨k', h1, rfl⟩ := h
    rw [if_neg q, bk3 ns vs (by simpa using l) h1]; rfl
theorem bg0 : ∀ (ns : List Str) (vs : List V), ns.length = vs.length → fQ f ns = none → jS f y (ns.zip vs) = (ns ++ [f]).zip (vs ++ [y])
 | [], [], _, _ => rfl
 | [], w :: vs, l, _ => by simp at l
 | n :: ns, [], l, _ => by simp at l
 | n :: ns, w :: vs, l, h => by
  unfold fQ at h
  rw [List.zip_cons_cons, jS]
  by_cases q : n = f
  · rw [if_pos q] at h; cases h
  · rw [if_neg q, Option.map_eq_none_iff] at h
    rw [if_neg q, bg0 ns vs (by simpa using l) h]; rfl
def dx7 (j : Nat) (cs : List Str) (f : Str) (d : Fr → Res (List Nat)) : Fr → Res (List Nat) := fun ρ => (d ρ).bind fun p => match ρ[j]? with
 | some (some t0) => match lU p t0 with
  | some (.ins o c ns ts) => if (o && cs.contains c) = true then match fQ f ns with
   | some k => if k < ts.length then .ok (p ++ [k]) else .no
   | none => .no else .no
  | _ => .no
 | _ => .no
def rR (j : Nat) (mv : List Nat) (cs : List Str) (f : Str) (e : Fr → Res T) (d : Fr → Res (List Nat)) : Fr → cO := fun ρ => match e ρ with
 | .ok t => match (kills mv ρ)[j]? with
  | some (some t0) => match d (kills mv ρ) with
   | .ok p => match lU p t0 with
    | some (.ins o c ns us) => if (o && cs.contains c && decide (ns.length < 1000)) = true then match fQ f ns with
     | some k => if k < us.length then am9 j p (.ins true c ns (us.set k t)) (kills mv ρ) else .no
     | none => am9 j p (.ins true c (ns ++ [f]) (us ++ [t])) (kills mv ρ)
     else .no
    | _ => .no
   | .ex x => .ex x
   | .no => .no
  | _ => .no
 | .ex x => .ex x
 | .no => .no
theorem dz2 (hf : jA K cn cs f) (he : RE Jn K cn E mv te e) (hd : RP Jn K cn E j to d) : RS Jn K cn E (ca3 K to te f) (rR j mv cs f e d) := fun As H Z ρ σ F D w => by
 unfold rR at w
 refine he As H Z ρ σ F _ ?_
 cases ee : e ρ with
 | ok t =>
  rw [ee] at w
  intro y H1 Z1 C p1
  simp only at w
  have F1 := (F.mo p1.mo).kills mv
  cases e1 : (kills mv ρ)[j]? with
  | none => rw [e1] at w; exact w.elim
  | some o =>
   rw [e1] at w
   cases o with
   | none => exact w.elim
   | some t0 =>
    obtain ⟨v0, e2, r0⟩ := F1.sl.get e1
    simp only at w
    have ev1 : Ev As H Z (fH mv As) H1 Z1 := ⟨fun b o q _ => p1.same b o q, fun b hb => .inl (eU hb), p1.zz, fun b h => (p1.zn b h).imp_right .inr, fun b h => p1.same.free h⟩
    refine hd (fH mv As) H1 Z1 (kills mv ρ) σ F1 t0 v0 e1 e2 r0 _ ?_
    cases ed : d (kills mv ρ) with
    | ok p =>
     rw [ed] at w
     intro u v B H2 Z2 m2 hn pl
     simp only [hn] at w
     split at w
     · next o c ns us hq =>
       cases hq
       split at w
       · next hc =>
         rw [Bool.and_eq_true, Bool.and_eq_true] at hc
         obtain ⟨⟨rfl, hc⟩, hl⟩ := hc
         have hl := of_decide_eq_true hl
         have q := pl.rep
         simp only [Rep] at q
         obtain ⟨a, C', dx, ws, C0, rfl, rfl, hC, ea, l, rs⟩ := q
         have rt : Rep K cn H2 Z2 t y C := p1.rep.same m2.same m2.zz
         have F2 := F1.mo m2
         have lw := Reps.length us rs
         obtain ⟨k1, k2⟩ := hf c (by simpa using hc) C' hC
         refine ⟨a, C', dx, _, rfl, ea, k1, k2, by rw [List.length_zip]; omega, ?_⟩
         have ndB : (a :: C0).Nodup := (sX F1.nd j).sublist pl.sub
         have cA : ∀ x ∈ C0, x ∈ (fH mv As).getD j [] := fun x hx => pl.sub.mem (List.mem_cons_of_mem _ hx)
         have cOut := p1.out F
         have cz : ∀ x ∈ C, ¬ Z2 x := fun x hx z => by
          rcases m2.zn x z with z | z
          · exact p1.bz x hx z
          · obtain ⟨o, ho, _⟩ := p1.rep.dom t x hx
            rw [ho] at z; cases z
         cases ek : fQ f ns with
         | none =>
          rw [ek] at w
          rw [bg0 ns ws l ek]
          refine aq5 (As := As) (H := H) (Z := Z) (E := E) F2 e1 e2 pl rfl rfl ea rfl (u' := .ins true c (ns ++ [f]) (us ++ [t])) (C := C0 ++ C) (fun aC aZ => ?_) ?_ ?_ ?_ (ev1.trans m2.ev) ?_ w
          · simp only [Rep]
            exact ⟨a, C', dx, ws ++ [y], C0 ++ C, rfl, rfl, hC, eM, by simp [l], (Reps.append us rs (Reps.one rt)).upd ea rfl aC aZ⟩
          · rw [List.nodup_append]
            exact ⟨(List.nodup_cons.mp ndB).2, p1.nd, fun x hx z hz e => by subst e; exact cOut x hz (bA (cA x hx))⟩
          · intro x hx
            rcases List.mem_append.mp hx with hx | hx
            · exact F2.nz x (bA (cA x hx))
            · exact cz x hx
          · intro x hx hA
            rcases List.mem_append.mp hx with hx | hx
            · exact hx
            · exact absurd hA (cOut x hx)
          · intro x hx
            rcases List.mem_append.mp hx with hx | hx
            · exact .inl (eU (bA (cA x hx)))
            · exact p1.inA x hx
         | some k =>
          rw [ek] at w
          simp only at w
          split at w
          · next hk =>
            rw [bk3 ns ws l ek]
            obtain ⟨B1, Bo, B2, rfl, rs'⟩ := Reps.put rt us rs hk
            have i1 : ∀ x ∈ B1, x ∈ B1 ++ Bo ++ B2 := fun x hx => List.mem_append_left _ (List.mem_append_left _ hx)
            have i2 : ∀ x ∈ B2, x ∈ B1 ++ Bo ++ B2 := fun x hx => List.mem_append_right _ hx
            have nd1 := (List.nodup_cons.mp ndB).2
            rw [List.append_assoc, List.nodup_append] at nd1
            obtain ⟨n1, n2, n3⟩ := nd1
            rw [List.nodup_append] at n2
            refine aq5 (As := As) (H := H) (Z := Z) (E := E) F2 e1 e2 pl rfl rfl ea rfl (u' := .ins true c ns (us.set k t)) (C := B1 ++ C ++ B2) (fun aC aZ => ?_) ?_ ?_ ?_ (ev1.trans m2.ev) ?_ w
            · simp only [Rep]
              exact ⟨a, C', dx, ws.set k y, B1 ++ C ++ B2, rfl, rfl, hC, eM, by simp [l], rs'.upd ea rfl aC aZ⟩
            · rw [List.append_assoc, List.nodup_append]
              refine ⟨n1, ?_, fun x hx z hz e => ?_⟩
              · rw [List.nodup_append]
                exact ⟨p1.nd, n2.2.1, fun x hx z hz e => by subst e; exact cOut x hx (bA (cA x (i2 x hz)))⟩
              · subst e
                rcases List.mem_append.mp hz with hz | hz
                · exact cOut x hz (bA (cA x (i1 x hx)))
                · exact n3 x hx x (List.mem_append_right _ hz) rfl
            · intro x hx
              rcases List.mem_append.mp hx with hx | hx
              · rcases List.mem_append.mp hx with hx | hx
                · exact F2.nz x (bA (cA x (i1 x hx)))
                · exact cz x hx
              · exact F2.nz x (bA (cA x (i2 x hx)))
            · intro x hx hA
              rcases List.mem_append.mp hx with hx | hx
              · rcases List.mem_append.mp hx with hx | hx
                · exact i1 x hx
                · exact absurd hA (cOut x hx)
              · exact i2 x hx
            · intro x hx
              rcases List.mem_append.mp hx with hx | hx
              · rcases List.mem_append.mp hx with hx | hx
                · exact .inl (eU (bA (cA x (i1 x hx))))
                · exact p1.inA x hx
              · exact .inl (eU (bA (cA x (i2 x hx))))
          · exact w.elim
       · exact w.elim
     · exact w.elim
    | ex x => rw [ed] at w; exact WpX.ev w ev1
    | no => rw [ed] at w; exact w
 | ex x => rw [ee] at w; exact w
 | no => rw [ee] at w; exact w
def nH (K : PySem.W.Frag) (cn : Str → Option Addr) (c : Str) (n : Nat) (G : List T → Res T) : Sp := fun vs H Q E => vs.length = n + 1 ∧ ∃ x C dx us ts Z, vs = .ref x :: us ∧ cn c = some C ∧ H x = some (.ins C dx []) ∧ ¬ Z x ∧ (∀ a, Z a → H a ≠ none) ∧ Reps K cn H Z ts us [] ∧
 match G ts with
 | .ok t => ∀ H' Z' B, Ev [[x]] H Z [B] H' Z' → Rep K cn H' Z' t (.ref x) B → B.Nodup → (∀ b ∈ B, ¬ Z' b) → (∀ a, Z' a → H' a ≠ none) → Q .non H'
 | .ex e => WpX K cn E [[x]] H Z e
 | .no => False
theorem cl6 (hc : cn c = some C) (ha : vY Jn K cn E ta a) : RE Jn K cn E [] (bl5 C (nH K cn c n G) [] E' ta) (bQ n G a) := fun As H Z ρ σ F Q w => by
 unfold bQ at w
 refine ha As H Z ρ σ F _ ?_
 cases e : a ρ with
 | ok ts =>
  rw [e] at w
  intro vs H1 Z1 B m r1 x dx hx hdx hne
  simp only [Res.bind] at w
  split at w
  · next hn =>
    have hs : Same H1 (L2.upd (L2.upd H1 dx (.own x)) x (.ins C dx [])) := fun b u q => by
     rw [cV (gT q hx), cV (gT q hdx)]; exact q
    refine ⟨by simp [Reps.length ts r1, hn], x, C, dx, vs, frzs ts, (fun a => Z1 a ∨ a ∈ B), by simp, hc, by rw [eM], fun h => ?_, fun a h => ?_, (Reps.frz ts r1 (fun a h => .inl h) (fun a h => .inr h)).same hs (fun _ h => h), ?_⟩
    · rcases h with h | h
      · exact m.zi x h hx
      · obtain ⟨o, q, _⟩ := Reps.dom ts r1 x h
        rw [hx] at q
        cases q
    · intro q
      have q' := hs.free q
      rcases h with h | h
      · exact m.zi a h q'
      · obtain ⟨o, q2, _⟩ := Reps.dom ts r1 a h
        rw [q2] at q'
        cases q'
    cases e2 : G (frzs ts) with
    | ok t =>
     rw [e2] at w
     intro H2 Z2 C2 ev r2 nd bz zi2
     refine ⟨rfl, ?_⟩
     simp only at w
     have sm : Same H1 H2 := fun b u q => ev.keep b u (hs b u q) (by simpa using gT q hx)
     have bn : ∀ b ∈ C2, H1 b = none := fun b hb => by
      rcases ev.own b (by simpa using hb) with q | q
      · have : b = x := by simpa using q
        rw [this]; exact hx
      · exact hs.free q
     split at w
     · next hcl =>
       rw [Bool.or_eq_true] at hcl
       by_cases hcl' : eN t = true
       · refine w _ H2 Z1 C2 ⟨m.same.trans sm, m.zz, fun a h => m.zn a h, fun a h q => m.zi a h (sm.free q), Rep.any t hcl' r2, nd, fun b hb z => m.zi b z (bn b hb), fun b hb => .inl (m.same.free (bn b hb))⟩
       · have hno := hcl.resolve_left hcl'
         have hB := Reps.bare ts hno r1
         subst hB
         refine w _ H2 Z2 C2 ⟨m.same.trans sm, fun a h => ev.zz a (.inl (m.zz a h)), fun a h => ?_, zi2, r2, nd, bz, fun b hb => .inl (m.same.free (bn b hb))⟩
         rcases ev.zn a h with (h | h) | h | h
         · exact m.zn a h
         · cases h
         · have : a = x := by simpa using h
           rw [this]; exact .inr (m.same.free hx)
         · exact .inr (m.same.free (hs.free h))
     · exact w.elim
    | ex x => rw [e2] at w; exact w.elim
    | no => rw [e2] at w; exact w.elim
  · exact w.elim
 | ex x => rw [e] at w; exact w
 | no => rw [e] at w; exact w
def jO : cO → Res T
 | .nx ρ => match ρ[0]? with
  | some (some t) => .ok t
  | _ => .no
 | .ex x => .ex x
 | _ => .no
theorem ce6 {c : Str} {P : Program} {w : World} {mg : Str → Option Value} {base : Heap} {x qual : Str} {st : Stmt} {f : Addr} {fd : FuncData} {N ps : List Str} {k : Nat} {d : Fr → cO} (F : Fun K x qual st f fd) (S : bH N ps (aO st))
    (hbody : ∀ (y : Addr) (cdv : Value) (A : Around) (outer : List Env) (s : Shared) (H : Hp) (E : XK), Room k (A.deeper (envOfC qual (aO st) s.heap.objs.size f cdv)) →
      ∃ t, PSs (lM jP P w K mg base N qual (aO st) f cdv A outer s H E).nox (dU st) t ∧ RS [(0, .ref y)] K cn E t d) {n : Nat} {G : List T → Res T} (hn : ps.length = n + 1) (hG : ∀ ts, G ts = jO (d (cZ N.length (.ins true c [] [] :: ts)))) : FnOk P w K mg base jP (k + 1) f fd ps (nH K cn c n G) := by
  have eG : G = fun ts => jO (d (cZ N.length (.ins true c [] [] :: ts))) := funext hG
  subst eG
  refine F.ok S (fun vs H Q E h => by rw [hn]; exact h.1) fun cdv A outer s H vs Q E hr h => ?_
  obtain ⟨hl, y, C, dx, us, ts, Z, rfl, hC, hy, hZ, zi, r, w⟩ := h
  obtain ⟨t, hp, ht⟩ := hbody y cdv A outer s H E hr
  refine ⟨t, hp, ?_⟩
  have lt := Reps.length ts r
  have ry : Rep K cn H Z (.ins true c [] []) (.ref y) [y] := by
    simp only [Rep, Reps]
    exact ⟨y, C, dx, [], [], rfl, rfl, hC, hy, rfl, rfl, rfl⟩
  let m := N.length - (ts.length + 1)
  have sl : Slots K cn H Z (cZ N.length (.ins true c [] [] :: ts)) (L2.jD N (.ref y :: us)) ([y] :: List.replicate (ts.length + m) []) := by
    unfold cZ L2.jD
    refine ⟨some (.ref y), us.map some ++ List.replicate m none, [y], _, ?_, rfl, ⟨_, rfl, ry⟩, ?_⟩
    · simp only [List.map_cons, List.length_cons, lt, List.cons_append]; rfl
    · exact zF ts r
  have fl : ([y] :: List.replicate (ts.length + m) []).flatten = [y] := by rw [List.flatten_cons, lV]; rfl
  have F0 : Frm [(0, .ref y)] K cn H Z (cZ N.length (.ins true c [] [] :: ts)) (L2.jD N (.ref y :: us)) ([y] :: List.replicate (ts.length + m) []) :=
    ⟨sl, by rw [fl]; simp, by rw [fl]; intro a ha; have : a = y := by simpa using ha
                              rw [this]; exact hZ, zi, fun p hp => by
      rw [List.mem_singleton] at hp
      subst hp
      rfl⟩
  refine ht _ H Z _ _ F0 _ ?_
  cases ed : d (cZ N.length (.ins true c [] [] :: ts)) with
  | nx ρ =>
    simp only [ed, jO] at w
    intro σ' As' H' Z' F' ev
    cases e0 : ρ[0]? with
    | none => rw [e0] at w; exact w.elim
    | some o =>
      rw [e0] at w
      cases o with
      | none => exact w.elim
      | some t0 =>
        simp only at w
        obtain ⟨v, e1, r1⟩ := F'.sl.get e0
        have e2 := F'.pn (0, .ref y) (List.mem_singleton.mpr rfl)
        simp only at e2
        rw [e1] at e2
        cases e2
        refine w H' Z' (As'.getD 0 []) ⟨fun a o h q => ev.keep a o h (by rw [fl]; simpa using q), fun a ha => ?_, ev.zz, fun a h => ?_, ev.dom⟩ r1 (sX F'.nd 0) (fun b hb => F'.nz b (bA hb)) F'.zi
        · have q := ev.own a (bA (i := 0) (by simpa using ha))
          rw [fl] at q
          simpa using q
        · have q := ev.zn a h
          rw [fl] at q
          simpa using q
  | ex e =>
    simp only [ed, jO] at w
    exact WpX.ev w ⟨fun _ _ q _ => q, fun a ha => (by rw [fl] at ha; exact .inl (by simpa using ha)), fun _ h => h, fun _ h => .inl h, fun _ h => h⟩
  | rt t => simp only [ed, jO] at w
  | bk ρ => simp only [ed, jO] at w
  | ct ρ => simp only [ed, jO] at w
  | no => simp only [ed, jO] at w
end
end TL
namespace L2
open PySem PySem.Spec PyProof.Rows
structure gQ (P : Program) (w : World) (K : PySem.W.Frag) (mg : Str → Option Value) (base : Heap) (k : Nat) (C : Addr) (m : Str) (sp : Sp) : Prop where
 ex : ∃ f fd ps, Cls K C ∧ ch3 K C m f ∧ FnOk P w K mg base jP k f fd ps sp ∧ Binds K fd ps []
structure oK (P : Program) (w : World) (K : PySem.W.Frag) (mg : Str → Option Value) (base : Heap) (k : Nat) (x : Str) (C : Addr) (sp : Sp) : Prop where
 ex : ∃ f fd ps, Mk K C f ∧ FnOk P w K mg base jP k f fd ps sp ∧ mg x = some (.ref C) ∧ Binds K fd ps []
def aq9 (tab : List (Addr × Sp)) (m : Str) (ta : TE) (t : TA) : TE := fun σ H Q => ta σ H fun x H1 => ∃ a C dx fs sp, x = .ref a ∧ H1 a = some (.ins C dx fs) ∧ (C, sp) ∈ tab ∧ fs.lookup m = none ∧ t σ H1 fun vs H2 => sp (x :: vs) H2 Q E0
section
variable {X : Cx}
theorem cj0 (he : PE X o ta) (hT : ∀ q ∈ tab, gQ X.prog X.w X.K X.mg X.base k q.1 m q.2) (hr : Room k X.A) (ha : PA X (e :: es) t)
 (hst : starEach (e :: es) X.env = (false, eval e X.env) :: starEach es X.env := by rfl) (hpl : (backTo pos (starEach es X.env)).any (·.1) = false := by rfl)
 (ht : eval (.Call (.Attribute o m apos) (e :: es) [] pos) X.env = (do
  let ov ← eval o X.env
  standAt apos.atName
  let (f, first) ← holding [ov] (getMethod ov m pl)
  callWith pos f first (backTo pos (starEach (e :: es) X.env)) (backToKw pos (keywordEach [] X.env))) := by rfl) :
 PE X (.Call (.Attribute o m apos) (e :: es) [] pos) (aq9 tab m ta t) := by
 intro pins s σ H Q I h
 refine PySem.W.methodCall_KW (pl := pl) (cR (he pins s σ H _ I h) fun u s1 ⟨x, H1, I1, rx, a, C, dx, fs, sp, ex, ea, hq, l, q⟩ => ?_) ht
 subst ex
 obtain rfl : u = Value.ref a := rx
 obtain ⟨f, fd, ps, c, hm, F, hb⟩ := (hT _ hq).ex
 refine ag2 I1 ea c hm l ?_
 refine PySem.W.callWith_K (first := [.ref a]) (h₀ := X.base) I.ok.mod.kin hm.kp (cR (ha pos pins s1 σ H1 _ I1 q) fun us s2 ⟨vs, H2, I2, r, q2⟩ => ⟨I2.kIn, ?_⟩) hst hpl
 exact ar2 (us := .ref a :: us) (vs := .ref a :: vs) F hr hb .nil ay2 I2 (.cons rfl r) (by rw [List.append_nil]; exact q2)
theorem uV (he : PE X o ta) (hT : ∀ q ∈ tab, gQ X.prog X.w X.K X.mg X.base k q.1 m q.2) (hr : Room k X.A)
 (ht : eval (.Call (.Attribute o m apos) [] [] pos) X.env = (do
  let ov ← eval o X.env
  standAt apos.atName
  let (f, first) ← holding [ov] (getMethod ov m pl)
  callWith pos f first (backTo pos (starEach [] X.env)) (backToKw pos (keywordEach [] X.env))) := by rfl) :
 PE X (.Call (.Attribute o m apos) [] [] pos) (aq9 tab m ta ba0) := by
 intro pins s σ H Q I h
 refine PySem.W.methodCall_KW (pl := pl) (cR (he pins s σ H _ I h) fun u s1 ⟨x, H1, I1, rx, a, C, dx, fs, sp, ex, ea, hq, l, q⟩ => ?_) ht
 subst ex
 obtain rfl : u = Value.ref a := rx
 obtain ⟨f, fd, ps, c, hm, F, hb⟩ := (hT _ hq).ex
 refine ag2 I1 ea c hm l ?_
 exact PySem.W.callWith_K0 (first := [.ref a]) I1.kIn hm.kp (ar2 (us := [.ref a]) (vs := [.ref a]) F hr hb .nil ay2 I1 (.cons rfl .nil) q)
theorem oS (d : oK X.prog X.w X.K X.mg X.base k x C sp) (hr : Room (k + 1) X.A) (ha : PA X (e :: es) t) (hg : Gl X x := by rfl)
 (hdb : (x == ("__debug__" : Str)) = false := by decide) (he : starEach (e :: es) X.env = (false, eval e X.env) :: starEach es X.env := by rfl) (hpl : (backTo pos (starEach es X.env)).any (·.1) = false := by rfl) :
 PE X (.Call (.Name x p) (e :: es) [] pos) (bl5 C sp [] E0 t) := by
 obtain ⟨f, fd, ps, M, F, hm, hb⟩ := d.ex
 exact ct7 M F hr hg hm hb .nil ay2 ha hdb he hpl
end
end L2
namespace TL
open PySem PySem.Spec PyProof.Rows L2
section
variable {Jn : iD} {K : PySem.W.Frag} {cn : Str → Option Addr} {E : XK}
def sK (n : Nat) (G : List T → Res T) (ts : List T) : Res T := if ts.length = n then match G (frzs ts) with
 | .ok t => if (eN t || bG ts) = true then .ok t else .no
 | _ => .no else .no
theorem bp0 (m : Mo H Z H1 Z1) (r1 : Reps K cn H1 Z1 ts vs B) (w : WpE K cn E As H Z [] Q (sK n G ts)) : aQ K cn n G vs H1 Q E' := by
 unfold sK at w
 split at w
 · next hn =>
   refine ⟨by rw [Reps.length ts r1, hn], frzs ts, (fun a => Z1 a ∨ a ∈ B), fun a h => ?_, Reps.frz ts r1 (fun a h => .inl h) (fun a h => .inr h), ?_⟩
   · rcases h with h | h
     · exact m.zi a h
     · obtain ⟨o, q, _⟩ := Reps.dom ts r1 a h
       rw [q]
       exact (fun z => nomatch z)
   cases e2 : G (frzs ts) with
   | ok t =>
    rw [e2] at w
    intro v H2 Z2 C p
    simp only at w
    split at w
    · next hc =>
      rw [Bool.or_eq_true] at hc
      have bn : ∀ b ∈ C, H1 b = none := fun b hb => (p.bn b hb).resolve_right (fun ⟨i, hi, _⟩ => by cases hi)
      by_cases hcl : eN t = true
      · refine w v H2 Z1 C ⟨m.same.trans p.same, m.zz, fun a h => m.zn a h, fun a h => ?_, Rep.any t hcl p.rep, p.nd, fun b hb z => ?_, fun b hb => .inl (m.same.free (bn b hb))⟩
        · intro q
          exact m.zi a h (p.same.free q)
        · exact m.zi b z (bn b hb)
      · have hno := hc.resolve_left hcl
        have hB := Reps.bare ts hno r1
        subst hB
        refine w v H2 Z2 C ⟨m.same.trans p.same, fun a h => p.zz a (.inl (m.zz a h)), fun a h => ?_, p.zi, p.rep, p.nd, p.bz, fun b hb => .inl (m.same.free (bn b hb))⟩
        rcases p.zn a h with (h | h) | h
        · exact m.zn a h
        · cases h
        · exact .inr (m.same.free h)
    · exact w.elim
   | ex x => rw [e2] at w; exact w.elim
   | no => rw [e2] at w; exact w.elim
 · exact w.elim
theorem ay0 : ∀ (ns : List Str) (vs : List V), fQ f ns = none → (ns.zip vs).lookup f = none
 | [], _, _ => by simp
 | n :: ns, [], _ => by simp
 | n :: ns, w :: vs, h => by
  unfold fQ at h
  rw [List.zip_cons_cons, List.lookup_cons]
  by_cases q : n = f
  · rw [if_pos q] at h; cases h
  · rw [if_neg q, Option.map_eq_none_iff] at h
    rw [show (f == n) = false from by rw [beq_eq_false_iff_ne]; exact fun z => q z.symm]
    exact ay0 ns vs h
def iA (n : Nat) (m : Str) (tabs : List (Str × (List T → Res T))) (o : Fr → Res T) (r : Fr → Res (List T)) : Fr → Res T := fun ρ => (o ρ).bind fun t => match t with
 | .ins _ c ns _ => match fQ m ns with
  | none => match tabs.lookup c with
   | some G => (r ρ).bind fun ts => sK n G (t :: ts)
   | none => .no
  | some _ => .no
 | _ => .no
def yY (K : PySem.W.Frag) (cn : Str → Option Addr) (n : Nat) (tabs : List (Str × (List T → Res T))) (tab : List (Addr × Sp)) : Prop := ∀ c G C, tabs.lookup c = some G → cn c = some C → (C, aQ K cn n G) ∈ tab
theorem cn2 (hT : yY K cn n tabs tab) (ho : RB Jn K cn E to o) (ha : vY Jn K cn E ta a) : RE Jn K cn E [] (aq9 tab m to ta) (iA n m tabs o a) := fun As H Z ρ σ F Q w => by
 unfold iA at w
 refine ho As H Z ρ σ F _ ?_
 cases e : o ρ with
 | ok t =>
  rw [e] at w
  intro v H1 Z1 B p
  simp only [Res.bind] at w
  split at w
  · next ow c ns us =>
    split at w
    · next hm =>
      split at w
      · next G hG =>
        obtain ⟨q, C, dx, vs, D, rfl, hC, eq, _, r⟩ := p.rep.insS
        refine ⟨q, C, dx, _, aQ K cn n G, rfl, eq, hT c G C hG hC, ay0 ns vs hm, ha As H1 Z1 ρ σ (F.mo p.mo) _ ?_⟩
        cases e2 : a ρ with
        | ok ts =>
         rw [e2] at w
         intro ws H2 Z2 D2 m2 r2
         refine bp0 (As := As) (E := E) (p.mo.trans m2) (ts := .ins ow c ns us :: ts) (B := B ++ D2) ?_ w
         simp only [Reps]
         exact ⟨_, ws, B, D2, rfl, rfl, p.rep.same m2.same m2.zz, r2⟩
        | ex x => rw [e2] at w; exact WpX.ev w p.mo.ev
        | no => rw [e2] at w; exact w
      · exact w.elim
    · exact w.elim
  · exact w.elim
 | ex x => rw [e] at w; exact w
 | no => rw [e] at w; exact w
end
end TL
namespace L2
open PySem PySem.Spec PyProof.Rows
section
variable {X : Cx} (K : PySem.W.Frag)
end
end L2
namespace TL
open PySem PySem.Spec PyProof.Rows L2
section
variable {Jn : iD} {K : PySem.W.Frag} {cn : Str → Option Addr} {E : XK} {As : List (List Addr)} {H : Hp} {Z : Addr → Prop} {Q : VK}
def dq1 : List T → Res T
 | [.lst _ ts] => if bG ts = true then .ok (.tup ts) else .no
 | [.tup ts] => if bG ts = true then .ok (.tup ts) else .no
 | _ => .no
end
end TL
namespace L2
open PySem PySem.Spec PyProof.Rows
section
variable {X : Cx}
def cz3 : TS := fun _ _ _ => False
theorem kT {st : Stmt} : PS X st cz3 := fun _ _ _ _ _ _ h => h.elim
def bl3 : V → List V → Hp → VK → Prop := fun x vs H Q => ∃ l xs i y, x = .ref l ∧ vs = [.int i, y] ∧ H l = some (.lst xs) ∧ 0 ≤ i ∧ i.toNat ≤ xs.length ∧ xs.length < sizeLine ∧ Q .non (upd H l (.lst (xs.take i.toNat ++ y :: xs.drop i.toNat)))
def as9 (K : PySem.W.Frag) (n : Nat) : V → List V → Hp → VK → Prop := fun x vs H Q => ∃ p ys y, x = .ref p ∧ vs = [y] ∧ SqL K H p ys ∧ ∃ (es : List Bool) (j : Nat), es.length = ys.length ∧ (∀ (j : Nat) z e, ys[j]? = some z → es[j]? = some e → EqD K H n z y e) ∧ es[j]? = some true ∧ (∀ m, m < j → es[m]? = some false) ∧ Q (.int j) H
def cq1 (K : PySem.W.Frag) (n : Nat) : R2 := fun x y H Q => rNe x y H Q ∨ (∃ p q b, x = .ref p ∧ y = .ref q ∧ EqD K H n x y b ∧ Q (.bl (!b)) H)
theorem cm9 (hu : X.A.units + n < cLine) : OpR X (compareOp .NotEq) (cq1 X.K n) := by
 intro pins s σ H x y v u Q I rx ry h
 rcases h with h | ⟨p, q, b, rfl, rfl, h, hq⟩
 · exact db6 pins s σ H x y v u Q I rx ry h
 · cases rx
   cases ry
   have cE : EP X pins σ Q (.bool (!b)) s := ⟨.bl (!b), H, I, rfl, hq⟩
   cases n with
   | zero => exact absurd h.1 (fun z => by cases z)
   | succ n =>
    rcases h with ⟨h1, _, _⟩ | ⟨p, q, xs, ys, e1, e2, s1, s2, h⟩ | ⟨p, q, xs, ys, e1, e2, s1, s2, es, hl, he, rfl⟩
    · exact absurd h1 (fun z => by cases z)
    · cases e1
      cases e2
      obtain ⟨its, r1, p1, _⟩ := I.list s1
      obtain ⟨jts, r2, p2, _⟩ := I.list s2
      have l1 := r1.length
      have l2 := r2.length
      rcases h with ⟨hne, rfl⟩ | ⟨heq, es, hl, he, rfl⟩
      · exact SeqAt.RcNeAt.lists_lengths p1.isList p2.isList (by simp only [List.size_toArray, bne_iff_ne, ne_eq]; omega) (by omega) _ _ _ _ cE
      · refine SeqAt.RcNeAt.lists (e := fun j => es.getD j true) p1.isList p2.isList (by simp only [List.size_toArray]; omega) (by omega) (fun j h1 h2 => ?_) _ _ _ _ ?_
        · simp only [List.size_toArray] at h1 h2
          simp only [List.getElem_toArray]
          obtain ⟨x, ex, rx⟩ := fW r1 h1
          obtain ⟨y, ey, ry⟩ := fW r2 h2
          have hj : j < es.length := by omega
          have eg : es.getD j true = es[j] := by rw [List.getD_eq_getElem?_getD, List.getElem?_eq_getElem hj]; rfl
          rw [eg]
          exact pD I n (by show X.A.units + 1 + n < cLine; omega) rx ry (he j x y es[j] ex ey (List.getElem?_eq_getElem hj))
        · rw [List.size_toArray, show its.length = es.length by omega, pZ]
          exact cE
    · cases e1
      cases e2
      obtain ⟨its, r1, p1, _⟩ := I.tuple s1
      obtain ⟨jts, r2, p2, _⟩ := I.tuple s2
      have l1 := r1.length
      have l2 := r2.length
      refine SeqAt.RcNeAt.tuples (e := fun j => es.getD j true) (show s.heap.IsTuple _ its.toArray from p1) (show s.heap.IsTuple _ jts.toArray from p2) (by omega) (fun j h1 h2 => ?_) _ _ _ _ ?_
      · simp only [List.size_toArray] at h1 h2
        simp only [List.getElem_toArray]
        obtain ⟨x, ex, rx⟩ := fW r1 h1
        obtain ⟨y, ey, ry⟩ := fW r2 h2
        have hj : j < es.length := by omega
        have eg : es.getD j true = es[j] := by rw [List.getD_eq_getElem?_getD, List.getElem?_eq_getElem hj]; rfl
        rw [eg]
        exact pD I n (by show X.A.units + 1 + n < cLine; omega) rx ry (he j x y es[j] ex ey (List.getElem?_eq_getElem hj))
      · simp only [List.size_toArray]
        rw [show min its.length jts.length = es.length by omega, pZ, ← l1, ← l2]
        exact cE
theorem zJ (K : PySem.W.Frag) (hr : Room k X.A) (hn : n ≤ 60 := by decide) (hK : X.K = K := by rfl) : OpR X (compareOp .NotEq) (cq1 K n) := by
 subst hK
 exact cm9 (Nat.lt_of_le_of_lt (Nat.add_le_add_left (Nat.le_trans hn (by decide)) _) hr.units)
theorem bf7 : MtM X "list.insert" bl3 := by
 intro pins s σ H x vs v us Q I rx rv h
 obtain ⟨l, xs, i, y, rfl, rfl, hH, h0, h1, hz, q⟩ := h
 cases rx
 obtain ⟨u, u', rfl, ru, ru'⟩ := rv.two
 obtain ⟨t, rfl⟩ := ru
 obtain ⟨z, its, n, r, hl, e⟩ := I.lstM hH
 have hfit : ¬ (!Builtin.List.listFitsIndex i) = true := by
  rw [fitsIndex_both (by omega) (by have : xs.length < 2 ^ 62 := Nat.lt_trans hz (by decide); omega)]
  decide
 refine call_meets F.slot_list_insert ⟨_, e, rfl⟩ F.entry_list_insert (F.args_list_insert_3 _ _ _) (AutoSeq1.list_insert_list_int_val_1 l its.toArray n i t u' hfit (by rw [List.size_toArray]; omega)) ⟨e, ?_⟩
 refine ⟨.non, _, I.lset (its' := its.take i.toNat ++ u' :: its.drop i.toNat) hH e ?_ ((r.take i.toNat).append (.cons ru' (r.drop i.toNat))) ?_, rfl, q⟩
 · have hn : ¬ i < 0 := by omega
   simp only [hn, if_false, List.size_toArray, Nat.min_eq_left (show i.toNat ≤ its.length by omega)]
   apply Array.toList_inj.mp
   simp [List.take_append, List.drop_eq_nil_of_le]
   exact List.take_of_length_le (by simp)
 · simp
   omega
theorem cb2 (hu : X.A.units + n + 1 < cLine) : MtR X "list.index" (as9 X.K n) := by
 intro pins s σ H x vs v us Q I rx rv h
 obtain ⟨p, ys, y, rfl, rfl, hq, es, j, hl, he, hj, hno, q⟩ := h
 cases rx
 obtain ⟨u, rfl, ru⟩ := rv.one
 obtain ⟨its, r, pl, hz⟩ := I.list hq
 have l1 := r.length
 obtain ⟨f, hf, _⟩ := bk5 I r hl he
 have at_ : ∀ (m : Nat) (hm : m < its.length) b, es[m]? = some b → f its[m] = b := fun m hm b eb => by
  obtain ⟨z, ez, rz⟩ := fW r hm
  obtain ⟨z', rz', d⟩ := hf its[m] (List.getElem_mem hm)
  cases rz.inj rz'
  exact EqD.det I n _ _ _ _ d (he m z b ez eb)
 have hjl : j < its.length := by
  have := (List.getElem?_eq_some_iff.mp hj).1
  omega
 obtain ⟨⟨oc, od, odt, osl⟩, n0, ho, hc, hd, hdt⟩ := pl
 simp only at hc hd hdt
 subst hc hd hdt
 refine call_meets F.slot_list_index ⟨_, ho, rfl⟩ F.entry_list_index (F.args_list_index_2 _ _) (SeqAt.list_indexAt p its.toArray n0 none osl u f j (by simpa using hjl) ?_ ?_ ?_) ⟨ho, fun y hy => ?_, ?_⟩
 · have : j < 2 ^ 62 := Nat.lt_of_lt_of_le hjl (by rw [← l1]; exact Nat.le_trans hz (by decide))
   omega
 · simpa using at_ j hjl true hj
 · intro m hm hmj
   simpa using at_ m (by simpa using hm) false (hno m hmj)
 · obtain ⟨z, rz, d⟩ := hf y (by simpa using hy)
   exact pD I n (by show X.A.units + 1 + n < cLine; omega) rz ru d
 · exact ⟨.int j, H, I.tok _, ⟨_, rfl⟩, q⟩
end
end L2
namespace TL
open PySem PySem.Spec PyProof.Rows L2
section
variable {Jn : iD} {K : PySem.W.Frag} {cn : Str → Option Addr} {E : XK}
def nP : Fr → cO := fun _ => .no
theorem cl7 : RS Jn K cn E cz3 nP := fun _ _ _ _ _ _ _ w => w.elim
def bn5 (K : PySem.W.Frag) (cn : Str → Option Addr) (r : V → List V → Hp → VK → Prop) (f : List T → List T → Option (List T)) : Prop :=
 ∀ (H : Hp) (Z : Addr → Prop) (a : Addr) (us ts us' : List T) (ws vs : List V) (C0 C : List Addr), H a = some (.lst ws) → Reps K cn H Z us ws C0 → Reps K cn H Z ts vs C → (C0 ++ C).Nodup → f us ts = some us' →
  ∃ ws' D, Reps K cn H Z us' ws' D ∧ D.Nodup ∧ (∀ x ∈ D, x ∈ C0 ∨ x ∈ C) ∧ ∀ Q : VK, (∀ y, Q y (L2.upd H a (.lst ws'))) → r (.ref a) vs H Q
def ag1 (j : Nat) (mv : List Nat) (f : List T → List T → Option (List T)) (d : Fr → Res (List Nat)) (e : Fr → Res (List T)) : Fr → cO := fun ρ => match ρ[j]? with
 | some (some t0) => match d ρ with
  | .ok p => match lU p t0 with
   | some (.lst true us) => match e ρ with
    | .ok ts => match f us ts with
     | some us' => ak2 j p us' (kills mv ρ)
     | none => .no
    | .ex x => .ex x
    | .no => .no
   | _ => .no
  | .ex x => .ex x
  | .no => .no
 | _ => .no
theorem cw9 (hr : bn5 K cn r f) (hd : RP Jn K cn E j to d) (he : RA Jn K cn E mv ta e) (hj : mv.contains j = false := by rfl) : RS Jn K cn E (bz5 (tBM K "list" r to ta)) (ag1 j mv f d e) := fun As H Z ρ σ F D w => by
 unfold ag1 at w
 cases e1 : ρ[j]? with
 | none => rw [e1] at w; exact w.elim
 | some o =>
  rw [e1] at w
  cases o with
  | none => exact w.elim
  | some t0 =>
   obtain ⟨v0, e2, r0⟩ := F.sl.get e1
   refine hd As H Z ρ σ F t0 v0 e1 e2 r0 _ ?_
   simp only at w
   cases ed : d ρ with
   | ok p =>
    rw [ed] at w
    intro u v B H1 Z1 m1 hn pl
    simp only [hn] at w
    split at w
    · next us hq =>
      cases hq
      have q := pl.rep
      simp only [Rep] at q
      obtain ⟨a, ws, C0, rfl, rfl, ea, rs⟩ := q
      refine ⟨.inl ⟨rfl, ws, SqL.of ea⟩, he As H1 Z1 ρ σ (F.mo m1) _ ?_⟩
      cases ee : e ρ with
      | ok ts =>
       rw [ee] at w
       intro vs H2 Z2 C p2
       simp only at w
       cases ef : f us ts with
       | none => rw [ef] at w; exact w.elim
       | some us' =>
        rw [ef] at w
        simp only at w
        have pl2 := pl.mo p2.mo.same p2.mo.zz
        have ea2 := p2.mo.same _ _ ea
        have rs2 := rs.same p2.mo.same p2.mo.zz
        have m2 := m1.trans p2.mo
        have F2 := (F.mo m2).kills mv
        have gD : (fH mv As).getD j [] = As.getD j [] := wQ mv hj As
        have pl3 : Plug K cn H2 Z2 t0 v0 ((fH mv As).getD j []) p (.lst true us) (.ref a) (a :: C0) := by rw [gD]; exact pl2
        have ndB : (a :: C0).Nodup := (sX F.nd j).sublist pl.sub
        have c0A : ∀ x ∈ C0, x ∈ As.getD j [] := fun x hx => pl.sub.mem (List.mem_cons_of_mem _ hx)
        have cOut : ∀ x ∈ C, x ∉ (fH mv As).flatten := fun x hx hA => by
         rcases p2.bn x hx with z | ⟨i, hi, z⟩
         · obtain ⟨o, ho, _⟩ := (F.mo m1).sl.dom x (eU hA)
           rw [ho] at z; cases z
         · exact zL F.nd hi z hA
        have c0In : ∀ x ∈ C0, x ∈ (fH mv As).flatten := fun x hx => bA (i := j) (by rw [gD]; exact c0A x hx)
        have ndC : (C0 ++ C).Nodup := by
         rw [List.nodup_append]
         exact ⟨(List.nodup_cons.mp ndB).2, p2.nd, fun x hx y hy e => by subst e; exact cOut x hy (c0In x hx)⟩
        obtain ⟨ws', D', r', nd', in', hQ⟩ := hr H2 Z2 a us ts us' ws vs C0 C ea2 rs2 p2.rep ndC ef
        refine hQ _ fun _ => ?_
        refine ay9 (As := As) (H := H) (Z := Z) (E := E) F2 (by rw [yV mv hj]; exact e1) e2 pl3 rfl rfl ea2 (us' := us') (ws' := ws') (C := D') r' nd' ?_ ?_ ?_ ?_ w
        · intro x hx
          rcases in' x hx with hx | hx
          · exact F2.nz x (c0In x hx)
          · exact p2.bz x hx
        · intro x hx hA
          rcases in' x hx with hx | hx
          · exact hx
          · exact absurd hA (cOut x hx)
        · exact ⟨fun b o q _ => m2.same b o q, fun b hb => .inl (eU hb), m2.zz, fun b h => (m2.zn b h).imp_right .inr, fun b h => m2.same.free h⟩
        · intro x hx
          rcases in' x hx with hx | hx
          · exact .inl (bA (c0A x hx))
          · rcases p2.bn x hx with z | ⟨i, hi, z⟩
            · exact .inr (m1.same.free z)
            · exact .inl (bA z)
      | ex x => rw [ee] at w; exact WpX.ev w m1.ev
      | no => rw [ee] at w; exact w.elim
    · exact w.elim
   | ex x => rw [ed] at w; exact w
   | no => rw [ed] at w; exact w
def ar9 (us : List T) : List T → Option (List T)
 | [.lst true zs] => if us.length + zs.length ≤ sizeLine then some (us ++ zs) else none
 | _ => none
def bi4 (us : List T) : List T → Option (List T)
 | [.int i, t] => if 0 ≤ i ∧ i.toNat ≤ us.length ∧ us.length < sizeLine then some (us.take i.toNat ++ t :: us.drop i.toNat) else none
 | _ => none
def dz6 (_ : List T) : List T → Option (List T)
 | [] => some []
 | _ => none
theorem dt3 : bn5 K cn bs3 ar9 := fun H Z a us ts us' ws vs C0 C ha r0 r1 nd h => by
 unfold ar9 at h
 split at h
 · next zs =>
   split at h
   · next hl =>
     cases h
     simp only [Reps] at r1
     obtain ⟨v, r', B1, C1, rfl, rfl, ra, rfl, rfl⟩ := r1
     simp only [Rep] at ra
     obtain ⟨b, zs', B, rfl, rfl, eb, rz⟩ := ra
     simp only [List.append_nil] at nd ⊢
     refine ⟨ws ++ zs', C0 ++ B, Reps.append us r0 rz, nd.sublist ((List.sublist_cons_self b B).append_left C0), fun x hx => (List.mem_append.mp hx).imp_right (List.mem_cons_of_mem _), fun Q hQ => ⟨a, b, ws, zs', rfl, rfl, ha, eb, ?_, hQ _⟩⟩
     rw [Reps.length us r0, Reps.length zs rz]
     exact hl
   · cases h
 · cases h
theorem Reps.split : ∀ (n : Nat) (us : List T) {ws : List V} {C : List Addr}, Reps K cn H Z us ws C → ∃ C1 C2, C = C1 ++ C2 ∧ Reps K cn H Z (us.take n) (ws.take n) C1 ∧ Reps K cn H Z (us.drop n) (ws.drop n) C2
 | 0, us, ws, C, r => ⟨[], C, rfl, by simp [Reps], by simpa using r⟩
 | n + 1, [], ws, C, r => by
  simp only [Reps] at r
  obtain ⟨rfl, rfl⟩ := r
  exact ⟨[], [], rfl, by simp [Reps], by simp [Reps]⟩
 | n + 1, t :: us, ws, C, r => by
  simp only [Reps] at r
  obtain ⟨v, r', B1, B2, rfl, rfl, h1, h2⟩ := r
  obtain ⟨C1, C2, rfl, a1, a2⟩ := Reps.split n us h2
  refine ⟨B1 ++ C1, C2, by simp, ?_, by simpa using a2⟩
  simp only [List.take_succ_cons, Reps]
  exact ⟨v, r'.take n, B1, C1, rfl, rfl, h1, a1⟩
theorem dq5 : bn5 K cn bl3 bi4 := fun H Z a us ts us' ws vs C0 C ha r0 r1 nd h => by
 unfold bi4 at h
 split at h
 · next i t =>
   split at h
   · next hl =>
     cases h
     obtain ⟨h0, h1, h2⟩ := hl
     simp only [Reps] at r1
     obtain ⟨v, r', B1, D1, rfl, rfl, ra, v2, r2, B2, D2, rfl, rfl, rb, rfl, rfl⟩ := r1
     simp only [Rep] at ra
     obtain ⟨rfl, rfl⟩ := ra
     obtain ⟨C1, C2, rfl, a1, a2⟩ := Reps.split i.toNat us r0
     simp only [List.append_nil, List.nil_append] at nd ⊢
     have pm : (C1 ++ (B2 ++ C2)).Perm ((C1 ++ C2) ++ B2) := by
      rw [List.append_assoc]
      exact List.Perm.append_left C1 List.perm_append_comm
     refine ⟨ws.take i.toNat ++ v2 :: ws.drop i.toNat, C1 ++ (B2 ++ C2), Reps.append _ a1 ?_, pm.nodup_iff.mpr nd, fun x hx => List.mem_append.mp (pm.mem_iff.mp hx), fun Q hQ => ⟨a, ws, i, v2, rfl, rfl, ha, h0, ?_, ?_, hQ _⟩⟩
     · simp only [Reps]
       exact ⟨v2, ws.drop i.toNat, B2, C2, rfl, rfl, rb, a2⟩
     · rw [Reps.length us r0]; exact h1
     · rw [Reps.length us r0]; exact h2
   · cases h
 · cases h
def frz1 : T → T
 | .lst o xs => .lst o (frzs xs)
 | t => t
def ai3 (d : Fr → Res T) : Fr → Res T := fun ρ => (d ρ).bind fun t => .ok (frz1 t)
theorem RE.frz1 (h : RE Jn K cn E [] te d) : RE Jn K cn E [] te (ai3 d) := fun As H Z ρ σ F Q w => h As H Z ρ σ F Q (by
 unfold ai3 at w
 cases e : d ρ with
 | ok t =>
  rw [e] at w
  intro v H' Z' B p
  simp only [Res.bind] at w
  cases t with
  | lst o xs =>
   cases o with
   | true =>
    have q := p.rep
    simp only [Rep] at q
    obtain ⟨a, vs, C, rfl, rfl, ea, rs⟩ := q
    have hC : ∀ x ∈ C, H x = none := fun x hx => (p.bn x (List.mem_cons_of_mem _ hx)).resolve_right (fun ⟨i, hi, _⟩ => by cases hi)
    refine w (.ref a) H' (fun x => Z' x ∨ x ∈ C) [a] ⟨p.same, fun x z => .inl (p.zz x z), fun x z => ?_, fun x z => ?_, ?_, by simp, fun b hb => ?_, fun b hb => ?_⟩
    · rcases z with z | z
      · exact p.zn x z
      · exact .inr (hC x z)
    · rcases z with z | z
      · exact p.zi x z
      · obtain ⟨o, q, _⟩ := Reps.dom xs rs x z
        rw [q]
        exact (fun z => nomatch z)
    · simp only [TL.frz1, Rep]
      exact ⟨a, vs, [], rfl, rfl, ea, Reps.frz xs rs (fun _ z => .inl z) (fun _ z => .inr z)⟩
    · have hb : b = a := by simpa using hb
      subst hb
      rintro (z | z)
      · exact p.bz b List.mem_cons_self z
      · exact (List.nodup_cons.mp p.nd).1 z
    · have hb : b = a := by simpa using hb
      subst hb
      exact p.bn b List.mem_cons_self
   | false =>
    have q := p.rep
    simp only [Rep] at q
    obtain ⟨a, vs, rfl, rfl, ea, rs⟩ := q
    refine w (.ref a) H' Z' [] ⟨p.same, p.zz, p.zn, p.zi, ?_, List.nodup_nil, eC, eC⟩
    simp only [TL.frz1, Rep]
    exact ⟨a, vs, rfl, trivial, ea, Reps.frz xs rs (fun _ z => z) eC⟩
  | _ => exact w v H' Z' B p
 | ex x => rw [e] at w; exact w
 | no => rw [e] at w; exact w)
def xW (t u : T) : Res T := if sF t = true ∧ sF u = true then match pU bR t u with
 | some b => .ok (.bl (!b))
 | none => .no
 else neT t u
theorem dx4 : mZ K cn (cq1 K bR) xW := fun E As H Z t u x y A B Q zi rt ru w => by
 unfold xW at w
 split at w
 · next hs =>
   obtain ⟨a, rfl⟩ := rt.seqRef hs.1
   obtain ⟨b, rfl⟩ := ru.seqRef hs.2
   cases e : pU bR t u with
   | none => rw [e] at w; exact w.elim
   | some k =>
    rw [e] at w
    exact .inr ⟨a, b, k, rfl, rfl, bw0 bR t u rt ru e, WpE.bl w zi⟩
 · exact .inl (dx6 E As H Z t u x y A B Q zi rt ru w)
def xE : List Bool → Option Nat
 | [] => none
 | true :: _ => some 0
 | false :: bs => (xE bs).map (· + 1)
theorem bx3 : ∀ (bs : List Bool) {j : Nat}, xE bs = some j → bs[j]? = some true ∧ ∀ m, m < j → bs[m]? = some false
 | [], _, h => by cases h
 | true :: bs, j, h => by cases h; exact ⟨rfl, fun m hm => by omega⟩
 | false :: bs, j, h => by
  simp only [xE] at h
  cases e : xE bs with
  | none => rw [e] at h; cases h
  | some k =>
   rw [e] at h
   cases h
   obtain ⟨h1, h2⟩ := bx3 bs e
   refine ⟨by simpa using h1, fun m hm => ?_⟩
   cases m with
   | zero => rfl
   | succ m =>
    have hm : m + 1 < k + 1 := hm
    simpa using h2 m (by omega)
def vW : T → List T → Res T
 | .lst _ us, [t] => match wV t us with
  | some es => match xE es with
   | some j => .ok (.int j)
   | none => .no
  | none => .no
 | _, _ => .no
theorem co5 : RMR K cn "list" (as9 K bR) vW := fun E As H Z t ts x xs A B Q zi rt r w => by
 unfold vW at w
 split at w
 · next o us t =>
   obtain ⟨a, vs, C, rfl, s, rs, _⟩ := rt.lstSq
   simp only [Reps] at r
   obtain ⟨v, r', B1, C1, rfl, rfl, ra, rfl, rfl⟩ := r
   cases e : wV t us with
   | none => rw [e] at w; exact w.elim
   | some es =>
    rw [e] at w
    simp only at w
    cases e2 : xE es with
    | none => rw [e2] at w; exact w.elim
    | some j =>
     rw [e2] at w
     obtain ⟨h1, h2⟩ := bx3 es e2
     obtain ⟨g1, g2⟩ := ak0 ra us rs e
     exact ⟨a, vs, v, rfl, rfl, s.sq, es, j, g1, g2, h1, h2, w.val zi (jL _)⟩
 · exact w.elim
end
end TL
namespace L2
open PySem PySem.Spec PyProof.Rows
inductive DRows (w : World) : List DictEntry → List (Str × Value) → Prop
 | nil : DRows w [] []
 | cons {x : Str} {t : Tok} {v : Value} {es : List DictEntry} {kvs : List (Str × Value)} : DRows w es kvs → DRows w (⟨hashStr w x, .str x t, v⟩ :: es) ((x, v) :: kvs)
structure DicK (w : World) (K : PySem.W.Frag) (a : Addr) (kvs : List (Str × Value)) : Prop where
 ex : ∃ o es ep, K.lookup a = some o ∧ o.ExactDict ∧ o.data = .dict es ep ∧ DRows w es.toList kvs
 nd : (kvs.map (·.1)).Nodup
 sm : (a == sysModules) = false
theorem DRows.keys : ∀ {es : List DictEntry} {kvs : List (Str × Value)}, DRows w es kvs → (∀ e ∈ es, ∃ k, (strKind P w).is k e.key = true ∧ e.hash = (strKind P w).hash k) ∧ Pairs (strKind P w) es kvs
 | _, _, .nil => ⟨fun e h => (nomatch h), .nil⟩
 | _, _, @DRows.cons _ x t v es kvs r => by
  obtain ⟨h1, h2⟩ := DRows.keys (P := P) r
  refine ⟨fun e he => ?_, .cons (strKind_is P w x t) rfl h2⟩
  rcases List.mem_cons.mp he with rfl | he
  · exact ⟨x, strKind_is P w x t, rfl⟩
  · exact h1 e he
theorem DicK.dictOf {P : Program} {w : World} {K : PySem.W.Frag} {a : Addr} {kvs : List (Str × Value)} {h : Heap} (D : DicK w K a kvs) (X : K.In h) : h.DictOf (strKind P w) a kvs := by
 obtain ⟨o, es, ep, l, x, d, r⟩ := D.ex
 obtain ⟨h1, h2⟩ := DRows.keys (P := P) r
 exact ⟨o, es, ep, X a o l, x, d, fun e he => h1 e (by simpa using he), h2, D.nd⟩
theorem vO : ∀ (kvs : List (Str × Value)), valueAt kvs x = kvs.lookup x
  | [] => rfl
  | (y, v) :: kvs => by
    unfold valueAt
    rw [List.find?_cons, List.lookup_cons]
    by_cases e : y = x
    · subst e; simp
    · have e1 : (x == y) = false := by simpa using Ne.symm e
      have e2 : decide ((y, v).1 = x) = false := decide_eq_false e
      rw [e1, e2]
      exact vO kvs
structure xJ (w : World) (K : PySem.W.Frag) (mg : Str → Option Value) (d : Str) (kvs : List (Str × Value)) : Prop where
 ex : ∃ a, mg d = some (.ref a) ∧ DicK w K a kvs
def ci4 (kvs : List (Str × Value)) (ty : TE) : TE := fun σ H Q => ty σ H fun y H1 => ∃ x u v, y = .str x ∧ kvs.lookup x = some u ∧ RelV v u ∧ Q v H1
def ch9 (neg : Bool) (kvs : List (Str × Value)) (ty : TE) : TE := fun σ H Q => ty σ H fun y H1 => ∃ x, y = .str x ∧ Q (.bl (if neg = true then !(kvs.lookup x).isSome else (kvs.lookup x).isSome)) H1
theorem ch4 (r : RelV (.str x) u) : (strKind P w).is x u = true := by
 obtain ⟨t, rfl⟩ := r
 exact strKind_is P w x t
def bk4 (i : Expr) : Prop := ∀ ov iv, subscripted i false ov iv = operate [ov, iv] (getItem ov iv)
theorem cg5 {prog : Program} {w : World} {A : Around} {E : Value → Shared → Prop} {s : Shared} {env : Env} {value slice : Expr} {pos : Pos} {T id : String} {Q : Value → Shared → Prop}
 (hl : typeLookup (.type T) "__getitem__" = pure (some (.builtin id))) (hs : bk4 slice)
 (h : wpAny (model prog w) A (eval value env) (fun o s₁ => wpAny (model prog w) A (eval slice env) (fun i s₂ => s₂.TypeIs o T ∧ wpAny (model prog w) A (getItem o i) Q E s₂) E s₁) E s) :
 wpAny (model prog w) A (eval (.Subscript value slice pos) env) Q E s := by
 refine Subscript_ (wpAny_mono h (fun o s₁ h₁ => wpAny_mono h₁ (fun i s₂ h₂ => ?_) fun _ _ x => x) fun _ _ x => x)
 obtain ⟨hT, h₂⟩ := h₂
 unfold subscriptTail
 refine wpAny_bind ?_
 rw [getitemInPython_of_ne hT.not_modules]
 refine wpAny_bind (wpAny_specialOf hT hl ?_)
 have cE : wpAny (model prog w) A (subscripted slice false o i) (fun r s₃ => wpAny (model prog w) A (letTemporaryGo value o r >>= fun _ => pure r) Q E s₃) E s₂ := by
  rw [hs o i]
  exact wpAny_operating (wpAny_mono h₂ (fun r s₃ h₃ => wpAny_bind (wpAny_letTemporaryGo (wpAny_pure h₃))) fun _ _ x => x)
 first
  | exact wpAny_pure (wpAny_bind cE)
  | exact wpAny_bind (wpAny_pure (wpAny_bind cE))
  | exact wpAny_bind cE
section
variable {X : Cx}
theorem bm3 (hD : xJ X.w X.K X.mg d kvs) (hi : PE X i ty) (hg : Gl X d) (hdb : (d == ("__debug__" : Str)) = false) (hs : bk4 i) (I : Inv X pins σ H s)
 (h : ty σ H W) (hW : ∀ y H1, W y H1 → ∃ x u, y = .str x ∧ kvs.lookup x = some u ∧ ∀ s1, Inv X pins σ H1 s1 → R u s1) : wpAny (model X.prog X.w) X.A (eval (.Subscript (.Name d p) i pos) X.env) R X.xe s := by
 obtain ⟨a, hm, D⟩ := hD.ex
 refine cg5 PySem.F.slot_dict_getitem.lookup hs (wF I hg hm ?_ hdb)
 refine cR (hi pins s σ H _ I h) fun iv s2 ⟨y, H2, I2, ry, q⟩ => ?_
 obtain ⟨x, u, ey, el, q2⟩ := hW y H2 q
 subst ey
 have dd := D.dictOf (P := X.prog) I2.kIn
 exact ⟨dd.typeIs, wpAny_getItem_of (ch4 ry) dd.mapOf (by rw [vO]; exact el) (q2 _ (I2.tok _))⟩
theorem sW (hD : xJ X.w X.K X.mg d kvs) (hi : PE X i ty) (hg : Gl X d := by rfl) (hdb : (d == ("__debug__" : Str)) = false := by decide) (hs : bk4 i := by intro _ _; rfl) : PE X (.Subscript (.Name d p) i pos) (ci4 kvs ty) := by
 intro pins s σ H Q I h
 refine bm3 hD hi hg hdb hs I h fun y H1 ⟨x, u, v, ey, el, rv, q⟩ => ⟨x, u, ey, el, fun s1 I1 => ⟨v, H1, I1, rv, q⟩⟩
theorem bn7 {d : Str} {kvs : List (Str × Value)} {i : Expr} {ty : TE} {p : Pos} (hD : xJ X.w X.K X.mg d kvs) (hi : PE X i ty) (hg : Gl X d := by rfl) (hdb : (d == ("__debug__" : Str)) = false := by decide) : PC X .NotIn i (.Name d p) (ch9 true kvs ty) := by
 intro pins s σ H Q I h
 obtain ⟨a, hm, D⟩ := hD.ex
 refine cR (hi pins s σ H _ I h) fun iv s2 ⟨y, H2, I2, ry, x, ey, q⟩ => wF I2 hg hm ?_ hdb
 subst ey
 have dd := D.dictOf (P := X.prog) I2.kIn
 exact wpAny_notIn_of (ch4 ry) D.sm dd.mapOf ⟨.bl (!(valueAt kvs x).isSome), H2, I2.tok _, rfl, by rw [vO]; exact q⟩
def bi8 (tab : List (Str × Sp)) (ty : TE) (ta : TA) : TE := fun σ H Q => ty σ H fun y H1 => ∃ z sp, y = .str z ∧ (z, sp) ∈ tab ∧ ta σ H1 fun vs H2 => sp vs H2 Q E0
structure bc5 (P : Program) (w : World) (K : PySem.W.Frag) (mg : Str → Option Value) (base : Heap) (k : Nat) (d : Str) (tab : List (Str × Sp)) : Prop where
 ex : ∃ kvs, xJ w K mg d kvs ∧ ∀ q ∈ tab, ∃ f fd ps, kvs.lookup q.1 = some (.ref f) ∧ FnOk P w K mg base jP k f fd ps q.2 ∧ Binds K fd ps [] ∧ PySem.W.keepIn K (.ref f) = true
theorem cn0 (hD : bc5 X.prog X.w X.K X.mg X.base k d tab) (hr : Room k X.A) (hi : PE X i ty) (ha : PA X (e :: es) t) (hg : Gl X d := by rfl) (hdb : (d == ("__debug__" : Str)) = false := by decide) (hs : bk4 i := by intro _ _; rfl)
 (hst : starEach (e :: es) X.env = (false, eval e X.env) :: starEach es X.env := by rfl) (hpl : (backTo pos (starEach es X.env)).any (·.1) = false := by rfl) : PE X (.Call (.Subscript (.Name d p) i p2) (e :: es) [] pos) (bi8 tab ty t) := by
 obtain ⟨kvs, D, hT⟩ := hD.ex
 intro pins s σ H Q I h
 refine Call_ (bm3 D hi hg hdb hs I h fun y H1 ⟨z, sp, ey, hq, q⟩ => ?_)
 obtain ⟨f, fd, ps, el, F, hb, hk⟩ := hT _ hq
 refine ⟨z, .ref f, ey, el, fun s1 I1 => ?_⟩
 refine PySem.W.callWith_K (first := []) (h₀ := X.base) I.ok.mod.kin hk (cR (ha pos pins s1 σ H1 _ I1 q) fun us s2 ⟨vs, H2, I2, r, q2⟩ => ⟨I2.kIn, ?_⟩) hst hpl
 exact ar2 (us := us) (vs := vs) F hr hb .nil ay2 I2 r (by rw [List.append_nil]; exact q2)
def cm4 : List V → Hp → VK → Prop := fun xs H Q => (∃ i, xs = [.int i] ∧ i.natAbs.log2 < 1920 ∧ Q (.str (toString i)) H) ∨ ∃ x, xs = [.str x] ∧ Q (.str x) H
theorem bb9 : CallR X (.type "str") cm4 := by
 intro pins s σ H xs us Q I r h
 rcases h with h | ⟨x, rfl, q⟩
 · exact bo0 pins s σ H xs us Q I r h
 · obtain ⟨u, rfl, t, rfl⟩ := ac3 r
   exact PySem.P.str_of_str ⟨.str _, H, I, ⟨_, rfl⟩, q⟩
def cx3 (K : PySem.W.Frag) : List V → Hp → VK → Prop := fun xs H Q => (∃ x T tx b, xs = [x, .ty T] ∧ TyN K H x tx ∧ gI tx T b ∧ Q (.bl b) H) ∨ ∃ T, xs = [.non, .ty T] ∧ (T = "int" ∨ T = "bool" ∨ T = "str" ∨ T = "list" ∨ T = "tuple") ∧ Q (.bl false) H
theorem zR (K : PySem.W.Frag) (hK : X.K = K := by rfl) : CallR X (.builtin "isinstance") (cx3 K) := by
 subst hK
 intro pins s σ H xs us Q I r h
 rcases h with h | ⟨T, rfl, hT, q⟩
 · exact bt9 pins s σ H xs us Q I r h
 · obtain ⟨u, v, rfl, rx, rT⟩ := r.two
   obtain rfl : v = Value.type T := rT
   obtain rfl : u = Value.none := rx
   have fin2 : EP X pins σ Q (.bool false) { s with toks := s.toks + 1 } := ⟨.bl false, H, I.tok _, rfl, q⟩
   rcases hT with rfl | rfl | rfl | rfl | rfl
   · exact IsiPair.NoneType_int fin2
   · exact IsiPair.NoneType_bool fin2
   · exact IsiPair.NoneType_str fin2
   · exact IsiPair.NoneType_list fin2
   · exact IsiPair.NoneType_tuple fin2
theorem fN (K : PySem.W.Frag) (he : PE X e ta) (hb : attributeBase e f X.env (eval e X.env) = eval e X.env := by rfl) (hK : X.K = K := by rfl) : PE X (.Attribute e f pos) (cu1 K ta f) := by
 subst hK
 exact co8 he hb
theorem mV (K : PySem.W.Frag) (ha : PE X o ta) (hv : PE X value tv) (hs : swapsWith value (some (.Attribute o f pos')) pos.line X.env = pure false := by rfl) (hK : X.K = K := by rfl) : PS X (.Assign [.Attribute o f pos'] value pos) (ca3 K ta tv f) := by
 subst hK
 exact cq8 ha hv hs
theorem bw3 (K : PySem.W.Frag) (hm : X.mg "zip" = none) (ha : PA X [a, b] ta) (hg : Gl X "zip" := by rfl) (hs : starEach [a, b] X.env = [(false, eval a X.env), (false, eval b X.env)] := by rfl) (hs2 : starEach [b] X.env = [(false, eval b X.env)] := by rfl) (hK : X.K = K := by rfl) :
 PI X (.Tuple es n tpos) (.Call (.Name "zip" p) [a, b] [] pos) (cw0 K ta) := by
 subst hK
 exact dg1 hg hm ha hs hs2
theorem cp2 (K : PySem.W.Frag) (hm : X.mg "enumerate" = none) (ha : PA X [a] ta) (hg : Gl X "enumerate" := by rfl) (hs : starEach [a] X.env = [(false, eval a X.env)] := by rfl) (hK : X.K = K := by rfl) :
 PI X (.Tuple es n tpos) (.Call (.Name "enumerate" p) [a] [] pos) (bw5 K ta) := by
 subst hK
 exact ca7 hg hm ha hs
theorem bw7 (K : PySem.W.Frag) (hr : Room k X.A) (hn : n ≤ 60 := by decide) (hK : X.K = K := by rfl) : MtR X "list.index" (as9 K n) := by
 subst hK
 exact cb2 (Nat.lt_of_le_of_lt (by omega) hr.units)
end
structure dD (K : PySem.W.Frag) (C : Addr) (m qual : Str) (st : Stmt) : Prop where
 ex : ∃ f fd, ch3 K C m f ∧ Fun K m qual st f fd
structure jK (K : PySem.W.Frag) (mg : Str → Option Value) (x : Str) (C : Addr) (qual : Str) (st : Stmt) : Prop where
 ex : ∃ f fd, Mk K C f ∧ Fun K "__init__" qual st f fd
 mg : mg x = some (.ref C)
theorem cw7 {K : PySem.W.Frag} {C f : Addr} {m qual : Str} {st : Stmt} {oc : Value} {od an : Option Addr} {osl : Array (Option Value)} {kV doc pm cdv ct : Value} (a : PySem.W.findIn K (.ref C) m = some (some (.ref f))) (b : PySem.W.isFn K (.ref f) = true)
 (l : K.lookup f = some ⟨oc, od, .func (PySem.W.fnOf m qual (iW st) (dU st) (aO st) .none kV doc pm an cdv ct), osl⟩) (c : PySem.W.codeIn K cdv qual = true) (k : PySem.W.keepIn K (.ref f) = true) : dD K C m qual st :=
 ⟨f, _, ⟨a, b, k⟩, ad3 l c k⟩
theorem cu6 {K : PySem.W.Frag} {h : Heap} {mg : Str → Option Value} (X : K.In h) (G : h.Ns mainGlobals mg) {x : Str} {C f : Addr} {qual : Str} {st : Stmt} {oc : Value} {od an : Option Addr} {osl : Array (Option Value)} {kV doc pm cdv ct : Value} (g : PySem.W.nsIn K mainGlobals x = some (some (.ref C)))
 (mk : PySem.W.makesIn K C = true) (a : PySem.W.findIn K (.ref C) "__init__" = some (some (.ref f))) (b : PySem.W.isFn K (.ref f) = true) (kc : PySem.W.keepIn K (.ref C) = true)
 (l : K.lookup f = some ⟨oc, od, .func (PySem.W.fnOf "__init__" qual (iW st) (dU st) (aO st) .none kV doc pm an cdv ct), osl⟩) (c : PySem.W.codeIn K cdv qual = true) (k : PySem.W.keepIn K (.ref f) = true) : jK K mg x C qual st :=
 ⟨⟨f, _, ⟨mk, a, b, kc⟩, ad3 l c k⟩, PySem.W.mg_of X G g⟩
theorem ci9 {K : PySem.W.Frag} {C : Addr} (a : PySem.W.plainGet K C Str.empty = true) (b : PySem.W.hasDictIn K C = true) (c : PySem.W.plainOver K C = true) (d : PySem.W.findIn K (.ref C) "__setattr__" = some (some (.builtin "object.__setattr__"))) : Cls K C := ⟨a, b, c, d⟩
theorem an5 {w : World} {K : PySem.W.Frag} {h : Heap} {mg : Str → Option Value} (X : K.In h) (G : h.Ns mainGlobals mg) {d : Str} {a : Addr} {es : Array DictEntry} {ep : Nat} {kvs : List (Str × Value)} (g : PySem.W.nsIn K mainGlobals d = some (some (.ref a)))
 (l : K.lookup a = some ⟨.type "dict", none, .dict es ep, #[]⟩) (r : DRows w es.toList kvs) (nd : (kvs.map (·.1)).Nodup) (sm : (a == sysModules) = false) : xJ w K mg d kvs :=
 ⟨a, PySem.W.mg_of X G g, ⟨_, es, ep, l, ⟨rfl, rfl, rfl⟩, rfl, r⟩, nd, sm⟩
end L2
namespace TL
open PySem PySem.Spec PyProof.Rows L2
section
variable {Jn : iD} {K : PySem.W.Frag} {cn : Str → Option Addr} {E : XK}
def GD (K : PySem.W.Frag) (cn : Str → Option Addr) (kts : List (Str × T)) (kvs : List (Str × Value)) : Prop := Paired (fun (p : Str × T) (q : Str × Value) => p.1 = q.1 ∧ ∃ v, RelV v q.2 ∧ ∀ H Z, Rep K cn H Z p.2 v []) kts kvs
theorem GD.lookup (g : GD K cn kts kvs) (z : Str) : match kts.lookup z with
 | some t => ∃ u v, kvs.lookup z = some u ∧ RelV v u ∧ ∀ H Z, Rep K cn H Z t v []
 | none => kvs.lookup z = none := by
 unfold GD at g
 induction g with
 | nil => rfl
 | @cons a b l1 l2 h _ ih =>
  obtain ⟨x, t⟩ := a
  obtain ⟨y, u⟩ := b
  obtain ⟨rfl, v, rv, r⟩ := h
  rw [List.lookup_cons, List.lookup_cons]
  by_cases e : (z == x) = true
  · rw [e]; exact ⟨u, v, rfl, rv, r⟩
  · rw [Bool.not_eq_true] at e
    rw [e]
    exact ih
def wJ (kts : List (Str × T)) : T → Res T
 | .str z => match kts.lookup z with
  | some t => .ok t
  | none => .no
 | _ => .no
def ck1 (neg : Bool) (kts : List (Str × T)) : T → Res T
 | .str z => .ok (.bl (if neg = true then !(kts.lookup z).isSome else (kts.lookup z).isSome))
 | _ => .no
theorem cc5 (g : GD K cn kts kvs) (ha : RB Jn K cn E ty a) : RE Jn K cn E [] (ci4 kvs ty) (fF (wJ kts) a) := fun As H Z ρ σ F Q w => by
 unfold fF at w
 refine ha As H Z ρ σ F _ ?_
 cases e : a ρ with
 | ok t =>
  rw [e] at w
  intro v H1 Z1 B p
  simp only [Res.bind] at w
  cases t with
  | str z =>
   have hz := p.rep.str
   subst hz
   have gl := g.lookup z
   simp only [wJ] at w
   cases el : kts.lookup z with
   | none => rw [el] at w; exact w.elim
   | some t =>
    rw [el] at w gl
    obtain ⟨u, v, hl, rv, r⟩ := gl
    exact ⟨z, u, v, rfl, hl, rv, WpE.val (WpE.mo F w p.mo) p.zi (r _ _)⟩
  | _ => exact w.elim
 | ex x => rw [e] at w; exact w
 | no => rw [e] at w; exact w
theorem cn6 (g : GD K cn kts kvs) (ha : RB Jn K cn E ty a) : RE Jn K cn E [] (ch9 neg kvs ty) (fF (ck1 neg kts) a) := fun As H Z ρ σ F Q w => by
 unfold fF at w
 refine ha As H Z ρ σ F _ ?_
 cases e : a ρ with
 | ok t =>
  rw [e] at w
  intro v H1 Z1 B p
  simp only [Res.bind] at w
  cases t with
  | str z =>
   have hz := p.rep.str
   subst hz
   have gl := g.lookup z
   have es : (kvs.lookup z).isSome = (kts.lookup z).isSome := by
    cases el : kts.lookup z with
    | none => rw [el] at gl; rw [show kvs.lookup z = none from gl]; rfl
    | some t => rw [el] at gl; obtain ⟨u, v, hl, _⟩ := gl; rw [hl]; rfl
   refine ⟨z, rfl, ?_⟩
   rw [es]
   exact WpE.bl (WpE.mo F w p.mo) p.zi
  | _ => exact w.elim
 | ex x => rw [e] at w; exact w
 | no => rw [e] at w; exact w
def at2 (n : Nat) (tabs : List (Str × (List T → Res T))) (i : Fr → Res T) (r : Fr → Res (List T)) : Fr → Res T := fun ρ => (i ρ).bind fun t => match t with
 | .str z => match tabs.lookup z with
  | some G => (r ρ).bind fun ts => sK n G ts
  | none => .no
 | _ => .no
def be6 (K : PySem.W.Frag) (cn : Str → Option Addr) (n : Nat) (tabs : List (Str × (List T → Res T))) : List (Str × Sp) := tabs.map fun p => (p.1, aQ K cn n p.2)
theorem aw2 : ∀ {l : List (Str × α)}, l.lookup z = some a → (z, a) ∈ l
  | [], h => by cases h
  | (y, b) :: l, h => by
    rw [List.lookup_cons] at h
    by_cases e : (z == y) = true
    · rw [e] at h
      cases h
      have : z = y := by simpa using e
      subst this
      exact List.mem_cons_self
    · rw [Bool.not_eq_true] at e
      rw [e] at h
      exact List.mem_cons_of_mem _ (aw2 h)
theorem cq2 (hi : RB Jn K cn E ty i) (ha : vY Jn K cn E ta a) : RE Jn K cn E [] (bi8 (be6 K cn n tabs) ty ta) (at2 n tabs i a) := fun As H Z ρ σ F Q w => by
 unfold at2 at w
 refine hi As H Z ρ σ F _ ?_
 cases e : i ρ with
 | ok t =>
  rw [e] at w
  intro v H1 Z1 B p
  simp only [Res.bind] at w
  cases t with
  | str z =>
   have hz := p.rep.str
   subst hz
   simp only at w
   cases el : tabs.lookup z with
   | none => rw [el] at w; exact w.elim
   | some G =>
    rw [el] at w
    refine ⟨z, aQ K cn n G, rfl, List.mem_map.mpr ⟨(z, G), aw2 el, rfl⟩, ?_⟩
    refine ha As H1 Z1 ρ σ (F.mo p.mo) _ ?_
    simp only at w
    cases e2 : a ρ with
    | ok ts =>
     rw [e2] at w
     intro vs H2 Z2 B2 m2 r2
     exact bp0 (p.mo.trans m2) r2 w
    | ex x => rw [e2] at w; exact WpX.ev w p.mo.ev
    | no => rw [e2] at w; exact w.elim
  | _ => exact w.elim
 | ex x => rw [e] at w; exact w
 | no => rw [e] at w; exact w
noncomputable def ab0 : List T → Res T
 | [.int i] => gate (i.natAbs.log2 < 1920) (.ok (.str (toString i)))
 | [.str x] => .ok (.str x)
 | _ => .no
theorem dv0 : xV K cn cm4 ab0 := fun E As H Z ts xs A Q zi r w => by
 unfold ab0 at w
 split at w
 · next i =>
   obtain ⟨v, rfl, rv⟩ := r.one1
   have := rv.int
   subst this
   obtain ⟨h, w⟩ := w.gate
   exact .inl ⟨i, rfl, h, w.val zi (yF _)⟩
 · next x =>
   obtain ⟨v, rfl, rv⟩ := r.one1
   have := rv.str
   subst this
   exact .inr ⟨x, rfl, w.val zi (yF _)⟩
 · exact w.elim
def mX : List T → Res T
 | [.non, .ty n] => if (n = "int" ∨ n = "bool" ∨ n = "str" ∨ n = "list" ∨ n = "tuple") then .ok (.bl false) else .no
 | ts => tN ts
theorem cw8 : xV K cn (cx3 K) mX := fun E As H Z ts xs A Q zi r w => by
 unfold mX at w
 split at w
 · next n =>
   obtain ⟨v, u, B, C, rfl, rfl, rv, ru⟩ := r.two2
   have := rv.non
   subst this
   simp only [Rep] at ru
   obtain ⟨rfl, rfl⟩ := ru
   split at w
   · next hn => exact .inr ⟨n, rfl, hn, WpE.bl w zi⟩
   · exact w.elim
 · exact .inl (dg6 E As H Z _ xs A Q zi r w)
inductive TupR : List T → List Value → Prop
 | nil : TupR [] []
 | str {x : Str} {t : Tok} {ts : List T} {us : List Value} : TupR ts us → TupR (.str x :: ts) (.str x t :: us)
 | int {x : Int} {t : Tok} {ts : List T} {us : List Value} : TupR ts us → TupR (.int x :: ts) (.int x t :: us)
theorem TupR.vals (h : TupR ts us) : ∃ vs, Vals vs us ∧ ∀ H Z, Reps K cn H Z ts vs [] := by
 induction h with
 | nil => exact ⟨[], .nil, fun _ _ => Reps.nil⟩
 | @str x t ts us _ ih =>
  obtain ⟨vs, h1, h2⟩ := ih
  refine ⟨.str x :: vs, .cons ⟨t, rfl⟩ h1, fun H Z => ?_⟩
  simp only [Reps]
  exact ⟨_, _, [], [], rfl, rfl, yF x, h2 H Z⟩
 | @int x t ts us _ ih =>
  obtain ⟨vs, h1, h2⟩ := ih
  refine ⟨.int x :: vs, .cons ⟨t, rfl⟩ h1, fun H Z => ?_⟩
  simp only [Reps]
  exact ⟨_, _, [], [], rfl, rfl, jL x, h2 H Z⟩
theorem jR (l : K.lookup a = some ⟨.type "tuple", oc, .seq us.toArray n, sl⟩) (r : TupR ts us) (hz : us.length ≤ sizeLine) :
 (x, T.tup ts).1 = (x, Value.ref a).1 ∧ ∃ v, RelV v (x, Value.ref a).2 ∧ ∀ H Z, Rep K cn H Z (x, T.tup ts).2 v [] := by
 obtain ⟨vs, h1, h2⟩ := r.vals (K := K) (cn := cn)
 refine ⟨rfl, .ref a, rfl, fun H Z => ?_⟩
 simp only [Rep]
 exact ⟨a, vs, rfl, .inr ⟨_, us.toArray, n, l, rfl, rfl, by simpa using hz, by simpa using h1⟩, h2 H Z⟩
theorem cX {P : Program} {w : World} {mg : Str → Option Value} {base : Heap} {C : Addr} {m qual : Str} {st : Stmt} {N ps : List Str} {k : Nat} {d : Fr → cO} (F : dD K C m qual st) (c : Cls K C) (S : bH N ps (aO st))
 (hb : ∀ (kV doc pm : Value) (an : Option Addr) (cdv ct : Value) (us : List Value), us.length = ps.length → bindArgs (PySem.W.fnOf m qual (iW st) (dU st) (aO st) .none kV doc pm an cdv ct) ⟨us, []⟩ = pure (ps.zip us))
 (hbody : ∀ (f : Addr) (cdv : Value) (A : Around) (outer : List Env) (s : Shared) (H : Hp) (E : XK), Room k (A.deeper (envOfC qual (aO st) s.heap.objs.size f cdv)) →
  ∃ t, PSs (lM jP P w K mg base N qual (aO st) f cdv A outer s H E).nox (dU st) t ∧ RS [] K cn E t d) {n : Nat} {G : List T → Res T} (hn : ps.length = n) (hG : ∀ ts, G ts = cE (d (cZ N.length ts))) {k' : Nat} (hk : k + 1 ≤ k') : gQ P w K mg base k' C m (aQ K cn n G) := by
 obtain ⟨f, fd, M, F⟩ := F.ex
 exact ⟨f, fd, ps, c, M, (av4 F S (fun cdv A outer s H E hr => hbody f cdv A outer s H E hr) hn hG).mono hk, F.binds hb⟩
theorem iY {P : Program} {w : World} {mg : Str → Option Value} {base : Heap} {x c : Str} {C : Addr} {qual : Str} {st : Stmt} {N ps : List Str} {k : Nat} {d : Fr → cO} (F : jK K mg x C qual st) (S : bH N ps (aO st))
 (hb : ∀ (kV doc pm : Value) (an : Option Addr) (cdv ct : Value) (us : List Value), us.length = ps.length → bindArgs (PySem.W.fnOf "__init__" qual (iW st) (dU st) (aO st) .none kV doc pm an cdv ct) ⟨us, []⟩ = pure (ps.zip us))
 (hbody : ∀ (f y : Addr) (cdv : Value) (A : Around) (outer : List Env) (s : Shared) (H : Hp) (E : XK), Room k (A.deeper (envOfC qual (aO st) s.heap.objs.size f cdv)) →
  ∃ t, PSs (lM jP P w K mg base N qual (aO st) f cdv A outer s H E).nox (dU st) t ∧ RS [(0, .ref y)] K cn E t d) {n : Nat} {G : List T → Res T} (hn : ps.length = n + 1) (hG : ∀ ts, G ts = jO (d (cZ N.length (.ins true c [] [] :: ts)))) : oK P w K mg base (k + 1) x C (nH K cn c n G) := by
 obtain ⟨f, fd, M, F'⟩ := F.ex
 exact ⟨f, fd, ps, M, ce6 F' S (fun y cdv A outer s H E hr => hbody f y cdv A outer s H E hr) hn hG, F.mg, F'.binds hb⟩
end
end TL
namespace L2
open PySem PySem.Spec PyProof.Rows
theorem cu0 : bootBuiltins "set" = some (.type "set") := by decide +kernel
def af3 (ss : List Str) : Nat := (kJ (fun i => ss.getD i Str.empty) ss.length).length
def bf4 (K : PySem.W.Frag) : List V → Hp → VK → Prop := fun xs H Q => ∃ p ss, xs = [.ref p] ∧ SqL K H p (ss.map V.str) ∧ ss.length ≤ 1000 ∧ Q (.int (af3 ss)) H
section
variable {X : Cx}
theorem be8 (K : PySem.W.Frag) (hm : X.mg "len" = none) (hm2 : X.mg "set" = none) (ha : PA X [e] t) (hc : X.calm = true := by rfl) (hg : Gl X "len" := by rfl) (hg2 : Gl X "set" := by rfl) (he : starEach [e] X.env = [(false, eval e X.env)] := by rfl) (hK : X.K = K := by rfl) :
 PE X (.Call (.Name "len" p) [.Call (.Name "set" p2) [e] [] pos2] [] pos) (tCB (bf4 K) t) := by
 subst hK
 intro pins s σ H Q I h
 refine wpAny_Call_Name_kw (pS I hg hm boot_len ?_)
 refine PyProof.Rows.callWith_builtin1 (PyProof.Rows.args_cons ?_) rfl rfl
 refine wpAny_Call_Name_kw (pS I hg2 hm2 cu0 ?_)
 refine PyProof.Rows.callWith_type1 (cR (ha pos2 pins s σ H _ I h) fun us s1 ⟨vs, H1, I1, r1, q1⟩ => ?_) he rfl
 obtain ⟨l, ss, rfl, hq, hl, q⟩ := q1
 cases r1 with
 | cons r rr =>
  cases rr
  cases r
  obtain ⟨its, rv, pl, _⟩ := I1.list hq
  have e1 : its.length = ss.length := by have := rv.length; simpa using this.symm
  refine ar7 (val := fun i => ss.getD i Str.empty) (I.ok.hd hc) pl.isList (fun i v hv => ?_) (by rw [List.size_toArray, e1]; unfold scanBound; omega) fun h' tk hS kk => PyProof.Rows.args_nil ?_
  · have hi : i < its.length := by
     have := (Array.getElem?_eq_some_iff.mp hv).1
     simpa using this
    obtain ⟨x, ex, rx⟩ := fW rv hi
    have ev : v = its[i] := by
     have := (Array.getElem?_eq_some_iff.mp hv).2
     simpa using this.symm
    rw [List.getElem?_map] at ex
    cases eg : ss[i]? with
    | none => rw [eg] at ex; cases ex
    | some z =>
     rw [eg] at ex
     cases ex
     obtain ⟨t, et⟩ := rx
     refine ⟨t, ?_⟩
     rw [ev, et, List.getD_eq_getElem?_getD, eg]
     rfl
  · have I2 : Inv X pins σ H1 { s1 with heap := h', toks := tk } := I1.kept fun b u eb => kk b u (Heap.lt_size eb) eb
    obtain ⟨o, es, ep, tb, ho, hx, hd, _, _, hs, hf, hn⟩ := hS
    refine call_len_set ho hx hd hf (by have : es.size < 4096 := hs; omega) ?_
    refine ⟨.int (af3 ss), H1, I2.tok _, ⟨tk + 1, ?_⟩, q⟩
    rw [hn, List.size_toArray, e1]
    rfl
end
end L2
namespace TL
open PySem PySem.Spec PyProof.Rows L2
section
variable {Jn : iD} {K : PySem.W.Frag} {cn : Str → Option Addr} {E : XK}
def vV : List T → Res T
 | [.lst _ ts] => match xI ts with
  | some ss => if ss.length ≤ 1000 then .ok (.int (af3 ss)) else .no
  | none => .no
 | _ => .no
theorem cm3 : xV K cn (bf4 K) vV := fun E As H Z ts xs A Q zi r w => by
 unfold vV at w
 split at w
 · next o ts =>
   obtain ⟨v, rfl, rv⟩ := r.one1
   obtain ⟨a, vs, C, rfl, s, rs, _⟩ := rv.lstSq
   split at w
   · next ss hs =>
     split at w
     · next hl =>
       have := az4 ts rs hs
       subst this
       exact ⟨a, ss, rfl, s.sq, hl, w.val zi (jL _)⟩
     · exact w.elim
   · exact w.elim
 · exact w.elim
theorem ak3 : ∀ (l acc : List Str), (acc ++ l).Nodup → l.foldl qX acc = acc ++ l
 | [], acc, _ => by simp
 | x :: l, acc, h => by
  have hx : x ∉ acc := fun hx => by
   rw [List.nodup_append] at h
   exact h.2.2 x hx x List.mem_cons_self rfl
  have hs : qX acc x = acc ++ [x] := by
   unfold qX
   rw [if_neg]
   intro q
   rw [List.any_eq_true] at q
   obtain ⟨y, hy, e⟩ := q
   have : y = x := by simpa using e
   subst this
   exact hx hy
  rw [List.foldl_cons, hs, ak3 l (acc ++ [x]) (by simpa using h)]
  simp
theorem bj5 (l : List Str) : (List.range l.length).map (fun i => l.getD i Str.empty) = l := by
 apply List.ext_getElem?
 intro i
 by_cases h : i < l.length
 · rw [List.getElem?_map, List.getElem?_range h, List.getElem?_eq_getElem h]
   simp [List.getD_eq_getElem?_getD, List.getElem?_eq_getElem h]
 · rw [List.getElem?_eq_none (by simpa using h), List.getElem?_eq_none (by omega)]
theorem bg2 (h : ss.Nodup) : af3 ss = ss.length := by
 unfold af3 kJ
 rw [bj5, ak3 ss [] (by simpa using h)]
 simp
theorem bu9 {ss : List Str} (o : Bool) (h : ss.Nodup) (hl : ss.length ≤ 1000) : vV [.lst o (ss.map .str)] = .ok (.int ss.length) := by
 simp only [vV, zK, if_pos hl, bg2 h]
end
end TL
namespace TL
open PySem PySem.Spec PyProof.Rows L2
section
variable {P : Program} {w : World} {K : PySem.W.Frag} {cn : Str → Option Addr} {mg : Str → Option Value} {base : Heap} {k n : Nat}
theorem iH : jA K cn [] f := fun _ h => nomatch h
theorem bI (h : cn c = some C) (k : Cls K C) (n : NoAttr K C f) (r : jA K cn cs f) : jA K cn (c :: cs) f := fun d hd D hD => by
 rcases List.mem_cons.mp hd with rfl | hd
 · rw [h] at hD
   cases hD
   exact ⟨k, n⟩
 · exact r d hd D hD
theorem xN : yY K cn n [] [] := fun c G C h => by cases h
theorem cW (h : cn c = some C) (r : yY K cn n tabs tab) : yY K cn n ((c, G) :: tabs) ((C, aQ K cn n G) :: tab) := fun d G' D hl hD => by
 rw [List.lookup_cons] at hl
 by_cases e : (d == c) = true
 · rw [e] at hl
   cases hl
   have : d = c := by simpa using e
   subst this
   rw [h] at hD
   cases hD
   exact List.mem_cons_self
 · rw [Bool.not_eq_true] at e
   rw [e] at hl
   exact List.mem_cons_of_mem _ (r d G' D hl hD)
theorem wK : ∀ q ∈ ([] : List (Addr × Sp)), gQ P w K mg base k q.1 m q.2 := eC
theorem cY (h : gQ P w K mg base k C m sp) (r : ∀ q ∈ tab, gQ P w K mg base k q.1 m q.2) : ∀ q ∈ (C, sp) :: tab, gQ P w K mg base k q.1 m q.2 := fun q hq => by
 rcases List.mem_cons.mp hq with rfl | hq
 · exact h
 · exact r q hq
def MD (P : Program) (w : World) (K : PySem.W.Frag) (mg : Str → Option Value) (base : Heap) (k : Nat) (kvs : List (Str × Value)) (tab : List (Str × Sp)) : Prop := ∀ q ∈ tab, ∃ f fd ps, kvs.lookup q.1 = some (.ref f) ∧ FnOk P w K mg base jP k f fd ps q.2 ∧ Binds K fd ps [] ∧ PySem.W.keepIn K (.ref f) = true
theorem cr2 : MD P w K mg base k kvs [] := eC
theorem jZ (e : kvs.lookup z = mg x) (d : bY P w K mg base j x ps sp) (h : j ≤ k) (r : MD P w K mg base k kvs tab) : MD P w K mg base k kvs ((z, sp) :: tab) := fun q hq => by
 rcases List.mem_cons.mp hq with rfl | hq
 · obtain ⟨f, fd, F, hm, hk, hb⟩ := d.ex
   exact ⟨f, fd, ps, e.trans hm, F.mono h, hb, hk⟩
 · exact r q hq
theorem ch7 (D : xJ w K mg d kvs) (r : MD P w K mg base k kvs tab) : bc5 P w K mg base k d tab := ⟨kvs, D, r⟩
end
end TL
namespace L2
open PySem PySem.Spec PyProof.Rows
theorem uU {K : PySem.W.Frag} {h : Heap} {mg : Str → Option Value} {kvs : List (Str × Value)} {z x : Str} {u : Value} (X : K.In h) (G : h.Ns mainGlobals mg) (a : PySem.W.nsIn K mainGlobals x = some (some u)) (e : kvs.lookup z = some u) : kvs.lookup z = mg x := e.trans (PySem.W.mg_of X G a).symm
end L2
namespace TL
open PySem PySem.Spec PyProof.Rows L2
theorem dn7 (h1 : -(2 ^ 64) < i) (h2 : i < 2 ^ 64) : mulOk i j := .inl ⟨h1, h2⟩
theorem bv4 (h1 : -(2 ^ 64) < j) (h2 : j < 2 ^ 64) : mulOk i j := .inr (.inl ⟨h1, h2⟩)
theorem cg7 (i : Int) : mX [.int i, .ty "int"] = .ok (.bl true) := cr4 i
theorem cx6 (i : Int) : mX [.int i, .ty "bool"] = .ok (.bl false) := bk7 i
theorem cp7 (i : Bool) : mX [.bl i, .ty "bool"] = .ok (.bl true) := cu4 i
theorem cz6 (i : Bool) : mX [.bl i, .ty "int"] = .ok (.bl true) := bu7 i
theorem cw6 (i : List T) : mX [.tup i, .ty "tuple"] = .ok (.bl true) := cs4 i
theorem cv5 (o : Bool) (i : List T) : mX [.lst o i, .ty "list"] = .ok (.bl true) := cd4 o i
theorem cq5 : mX [.non, .ty "bool"] = .ok (.bl false) := by with_unfolding_all rfl
theorem cf7 : mX [.non, .ty "int"] = .ok (.bl false) := by with_unfolding_all rfl
theorem cg8 (i : Int) : ab0 [.int i] = gate (i.natAbs.log2 < 1920) (.ok (.str (toString i))) := rfl
theorem dk0 (x : Str) : ab0 [.str x] = .ok (.str x) := rfl
theorem cs8 (i j : Int) : xW (.int i) (.int j) = .ok (.bl (!(i == j))) := rfl
theorem de2 (i j : Str) : xW (.str i) (.str j) = .ok (.bl (!(i == j))) := rfl
theorem du0 (i j : Bool) : xW (.bl i) (.bl j) = .ok (.bl (!(i == j))) := rfl
theorem cc7 (o : Bool) (ts : List T) : dq1 [.lst o ts] = if bG ts = true then .ok (.tup ts) else .no := rfl
end TL
namespace TL
open PySem L2
theorem ce0 (h : n ≤ 100000) : (n ≤ sizeLine) = True := eq_true (Nat.le_trans h (by decide))
theorem cf0 (h : n ≤ 100000) : (n < sizeLine) = True := eq_true (Nat.lt_of_le_of_lt h (by decide))
theorem qI {m : Int} (h : 0 ≤ m) : ∃ k : Nat, m = k := ⟨m.toNat, by omega⟩
end TL
namespace TL
open PySem L2
theorem dm4 (h1 : 0 < j) (h2 : j < 1073741824) : uY i j := ⟨h1, h2⟩
theorem du4 (h1 : 0 ≤ j) (h2 : j ≤ 1000000) (h3 : i.natAbs < 2 ^ 64) : yU i j := ⟨h1, h2, h3⟩
end TL
namespace L2
open PySem
theorem dj4 (h : PySem.W.findIn K (.ref C) f = some none) : NoAttr K C f := h
end L2
namespace L2
open PySem PySem.Spec PyProof.Rows
section
variable {X : Cx}
theorem aa7 (r : Vals xs its) : ∀ k : Nat, Vals (List.replicate k xs).flatten (List.replicate k its).flatten
 | 0 => Paired.nil
 | k + 1 => by
  rw [List.replicate_succ, List.replicate_succ, List.flatten_cons, List.flatten_cons]
  exact r.append (aa7 r k)
theorem bo1 (its : List Value) : ∀ (k : Nat) (acc : List Value), List.foldl (fun x1 x2 => x1 ++ x2) acc.toArray (List.replicate k its.toArray) = (acc ++ (List.replicate k its).flatten).toArray
 | 0, acc => by simp
 | k + 1, acc => by
  rw [List.replicate_succ, List.foldl_cons, List.replicate_succ, List.flatten_cons]
  have e : acc.toArray ++ its.toArray = (acc ++ its).toArray := by simp
  rw [e, bo1 its k, List.append_assoc]
theorem bv6 (its : List Value) (k : Nat) : List.foldl (fun x1 x2 => x1 ++ x2) #[] (List.replicate (if its.toArray.isEmpty = true then 0 else k) its.toArray) = ((List.replicate k its).flatten).toArray := by
 cases its with
 | nil =>
  have e : (List.replicate k ([] : List Value)).flatten = [] := by
   induction k with
   | zero => rfl
   | succ k ih => rw [List.replicate_succ, List.flatten_cons, ih]; rfl
  rw [e]
  simp
 | cons v its =>
  have e := bo1 (v :: its) k []
  simp only [List.nil_append] at e
  simpa using e
def cv3 (K : PySem.W.Frag) : R2 := fun x y H Q => ∃ l xs k, x = .ref l ∧ y = .int k ∧ SqS K H l xs ∧ -(2 ^ 63) ≤ k ∧ k < 2 ^ 63 ∧ xs.length * k.toNat ≤ 2 ^ 24 ∧ ∀ p, H p = none → Q (.ref p) (upd H p (.lst (List.replicate k.toNat xs).flatten))
theorem cl5 (K : PySem.W.Frag) (hK : X.K = K := by rfl) : OpR X (binaryOp .Mult) (cv3 K) := by
 subst hK
 intro pins s σ H x y v u Q I rx ry h
 obtain ⟨l, xs, k, rfl, rfl, hH, h1, h2, hz, q⟩ := h
 cases rx
 obtain ⟨t, rfl⟩ := ry
 obtain ⟨its, n, r, e, _⟩ := I.listS hH
 have hl := r.length
 have hs : its.toArray.size * k.toNat ≤ 2 ^ 24 := by rw [List.size_toArray, ← hl]; exact hz
 refine wpAny_binaryOp_repeat_ref (T := "list") (U := "int") (by decide) ⟨_, e, rfl⟩ (fun s' => typeIs_int s' k t) noFill_list_mul F.fills_int_mul F.slot_int_rmul repeat_list F.slot_int_index.lookup
  (call_meets F.slot_int_rmul (typeIs_int s k t) F.entry_int_rmul (F.args_int_rmul_2 _ _) (int___rmul___int_list k t l its.toArray n) ⟨e, rfl, ⟨_, e, rfl⟩, call_meets F.slot_list_mul ⟨_, e, rfl⟩ F.entry_list_mul (F.args_list_mul_2 _ _)
   (AutoListH.list___mul___list_int_3 l its.toArray n k t (by simp [Builtin.List.listFitsIndex]; omega) (by omega) (by simp [Builtin.List.listTooLong, sizeLine]; simpa using hs)) ⟨e, ?_⟩⟩)
 rw [bv6]
 refine ⟨.ref _, _, I.lnew (t' := s.toks) (aa7 r k.toNat) ?_, rfl, q _ I.fresh⟩
 have hm : ∀ (m : Nat), (List.replicate m xs).flatten.length = m * xs.length := by intro m; simp
 have hn := sizeLine_eq
 rw [hm, Nat.mul_comm]
 omega
end
end L2
namespace TL
open PySem L2
section
variable {K : PySem.W.Frag} {cn : Str → Option Addr}
noncomputable def aa9 : T → T → Res T
 | .lst _ xs, .int k => gate (bG xs = true ∧ -(2 ^ 63) ≤ k ∧ k < 2 ^ 63 ∧ xs.length * k.toNat ≤ 2 ^ 24) (.ok (.lst true (List.replicate k.toNat xs).flatten))
 | _, _ => .no
theorem ax6 (r : Reps K cn H Z xs vs []) : ∀ k : Nat, Reps K cn H Z (List.replicate k xs).flatten (List.replicate k vs).flatten []
 | 0 => Reps.nil
 | k + 1 => by
  rw [List.replicate_succ, List.replicate_succ, List.flatten_cons, List.flatten_cons]
  exact Reps.append xs r (ax6 r k)
theorem da2 : mZ K cn (cv3 K) aa9 := fun E As H Z t u x y A B Q zi rt ru w => by
 unfold aa9 at w
 split at w
 · next o xs k =>
   obtain ⟨h, w⟩ := w.gate
   obtain ⟨a, vs, C, rfl, hs, r1, _⟩ := rt.lstSq
   rw [ru.int]
   exact ⟨a, vs, k, rfl, rfl, hs, h.2.1, h.2.2.1, by rw [Reps.length xs r1]; exact h.2.2.2, fun p hp => w.newL zi (ax6 (r1.bareE h.1) k.toNat) p hp⟩
 · exact w.elim
def bq5 (us : List T) : List T → Option (List T)
 | [.int i] => if 0 ≤ i ∧ i.toNat < us.length ∧ us.length ≤ sizeLine then some (us.eraseIdx i.toNat) else none
 | _ => none
theorem dg5 : bn5 K cn bm8 bq5 := fun H Z a us ts us' ws vs C0 C ha r0 r1 nd h => by
 unfold bq5 at h
 split at h
 · next i =>
   split at h
   · next hl =>
     cases h
     obtain ⟨h0, h1, h2⟩ := hl
     have hn := sizeLine_eq
     simp only [Reps] at r1
     obtain ⟨v, r', B1, D1, rfl, rfl, ra, rfl, rfl⟩ := r1
     simp only [Rep] at ra
     obtain ⟨rfl, rfl⟩ := ra
     have hlen := Reps.length us r0
     obtain ⟨C1, C2, rfl, a1, a2⟩ := Reps.split i.toNat us r0
     rw [List.drop_eq_getElem_cons h1] at a2
     simp only [Reps] at a2
     obtain ⟨w0, rest, B2, D2, e2, rfl, h3, h4⟩ := a2
     have hw : i.toNat < ws.length := by omega
     rw [List.drop_eq_getElem_cons hw] at e2
     injection e2 with e3 e4
     subst e4
     refine ⟨ws.eraseIdx i.toNat, C1 ++ D2, ?_, ?_, ?_, fun Q hQ => ⟨a, ws, i, i.toNat, ws[i.toNat], rfl, rfl, ha, by omega, by omega, PySem.StrLaws.seqIndex_nonneg h0 (by omega), List.getElem?_eq_getElem hw, hQ _⟩⟩
     · rw [List.eraseIdx_eq_take_drop_succ, List.eraseIdx_eq_take_drop_succ]
       exact Reps.append _ a1 h4
     · simp only [List.append_nil] at nd
       exact nd.sublist ((List.sublist_append_right B2 D2).append_left C1)
     · intro x hx
       rcases List.mem_append.mp hx with hx | hx
       · exact .inl (List.mem_append_left _ hx)
       · exact .inl (List.mem_append_right _ (List.mem_append_right _ hx))
   · cases h
 · cases h
end
end TL

set_option maxHeartbeats 4000000
namespace TL
open PySem PySem.Spec PyProof.Rows L2
section
variable {Jn : iD} {K : PySem.W.Frag} {cn : Str → Option Addr} {E : XK}
theorem dl3 (ha : RE Jn K cn E mv te a) (hr : RA Jn K cn E mw tr r) (e : mv ++ mw = L) (hd : (mv.all fun i => !mw.contains i) = true) : RA Jn K cn E L (an3 te tr) (aE a r) := e ▸ cs7 ha hr hd
theorem dm0 (h1 : RG Jn K cn ks g b) (h2 : RGs Jn K cn ls n gs bs) (e : ks ++ ls = L) : RGs Jn K cn L (n + 1) (bo5 g gs) (bN b bs) := e ▸ cz2 h1 h2
end
end TL
local macro_rules | `(tactic| walk_at "gt") => `(tactic| first | assumption | exact TL.dn7 (by decide) (by decide) | exact TL.bv4 (by decide) (by decide) | exact TL.dm4 (by decide) (by decide) | exact TL.du4 (by decide) (by decide) (by decide) | decide | omega | (constructor <;> omega))
local macro_rules | `(tactic| walk_at "ev") => `(tactic| simp (disch := walk_at "gt") only [TL.xH, TL.ce0, TL.cf0, TL.sSeq, TL.bJ, TL.bT, TL.dP, TL.dz4, TL.lD, TL.cP, TL.dw2, TL.dd6, TL.aD, TL.dC, TL.aV, TL.aG, TL.fF, TL.pM, TL.qY, TL.do7, TL.ax8, TL.dIf, TL.bS, TL.lC, TL.lE, TL.vI, TL.dOr, TL.eY, TL.dH, TL.aE, TL.aJ, TL.cU, TL.bQ, TL.dBM, TL.uK, TL.jF, TL.iU, TL.iL, TL.iO, TL.eO, TL.dG, TL.ac9, TL.ds6, TL.dh6, TL.kills, TL.aK, TL.fS, TL.bN, TL.gA, TL.cE, TL.cZ, TL.mN, TL.eD, TL.frz, TL.frzs, TL.eI, TL.bG, TL.eN, TL.dX, TL.bb1, TL.ai2, TL.kS, TL.uQ, TL.vH, TL.qT, TL.yC, TL.vJ, TL.lY, TL.bh1, TL.lU, TL.xC, TL.ak2, TL.GoW, TL.br4, TL.ae9, TL.cf9, TL.db1, TL.dp2, TL.cu8, TL.ce8, TL.dn2, TL.dy1, TL.ce5, TL.db2, TL.ap3, TL.de5, TL.dy3, TL.db5, TL.dv4, TL.dh5, TL.dw4, TL.de4, TL.do3, TL.dn6, TL.dn5, TL.dd3, TL.ce3, TL.co0, TL.ci1, TL.ca2, TL.ck3, TL.dm6, TL.dp3, TL.dj6, TL.dv3, TL.da6, TL.dz3, TL.dj3, TL.dr4, TL.cj4, TL.dl4, TL.dy6, TL.dr6, TL.dt6, TL.di3, TL.dk4, TL.dv5, TL.dw5, TL.bo7, TL.cr4, TL.bk7, TL.cu4, TL.bu7, TL.cs4, TL.cd4, TL.dw3, TL.cl8, TL.bh5, TL.dx2, TL.dh2, TL.dd5, TL.dc3, TL.cr0, TL.dj0, TL.cq9, TL.bw8, TL.bq3, TL.dd4, TL.dp4, TL.dc5, TL.dy4, TL.ds3, TL.df6, TL.df5, TL.dk3, TL.dp5, TL.dm5, TL.dx3, TL.dl6, TL.dr3, TL.dg4, TL.dn4, TL.bv8, TL.dc4, TL.de3, TL.ca0,
 TL.cg7, TL.cx6, TL.cp7, TL.cz6, TL.cw6, TL.cv5, TL.cq5, TL.cf7, TL.cg8, TL.dk0, TL.cs8, TL.de2, TL.du0, TL.fF, TL.wJ, TL.ck1, TL.be0, TL.bm5, TL.ar1, TL.ai3, TL.frz1, TL.jO, TL.nP, TL.ag1, TL.ar9, TL.bi4, TL.dz6, TL.bq5, TL.aa9, TL.rR, TL.am9, TL.sK, TL.at2, TL.cc7, List.length_map, Option.map_some, Option.isSome_some, List.isEmpty_cons, List.isEmpty_nil, Option.isSome_none, List.map_cons, List.map_nil, List.length_cons, List.length_nil, List.replicate_succ, List.replicate_zero, List.cons_append, List.nil_append, List.set_cons_zero, List.set_cons_succ, List.getElem?_cons_zero, List.getElem?_cons_succ, Nat.reduceAdd, Nat.reduceSub, Bool.not_true, Bool.not_false, Bool.and_true, Bool.true_and, Bool.and_false, Bool.false_and, Bool.or_true, Bool.true_or, Bool.or_false, Bool.false_or, if_true, if_false, Bool.false_eq_true, reduceIte, reduceCtorEq, decide_true, decide_false, and_self, and_true, true_and, Bool.and_self, *])
namespace Nk22
open PySem L2 TL
noncomputable section
def eF (i : Nat) : Stmt := PySem.Challenge.pw_inkyears_k22_what_datings_are.main.body.getD i (.Pass ⟨0, 0, 0, 0⟩)
abbrev kt_NUMBERS : List (Str × T) := [("dark", .tup [.int 0, .int 1000000]), ("place", .tup [.int 1, .int 100]), ("year", .tup [.int (-4000), .int 4000]), ("later", .tup [.int 0, .int 300]), ("gap", .tup [.int (-300), .int 300])]
abbrev kt_PARTS : List (Str × T) := [("ink", .tup [.str "letter", .str "ink", .str "dark", .str "dark"]), ("reign", .tup [.str "letter", .str "reign", .str "place"]), ("under", .tup [.str "letter", .str "reign"]), ("between", .tup [.str "letter", .str "year", .str "year"]), ("after", .tup [.str "letter", .str "letter"]), ("same", .tup [.str "letter", .str "letter"]), ("within", .tup [.str "letter", .str "letter", .str "later"]), ("apart", .tup [.str "letter", .str "letter", .str "gap", .str "gap"])]
def sI : Fr → cO :=
 (sSeq (dP (bS (aG ltT (aD 1) (cU eP (aE (aD 0) aJ)))) (bT [] (aV (aG bE (aD 0) (aD 1)))) cP)
 (bT [] (dC (.int 0))))
def gG : List T → Res T := fun ts => cE (sI (cZ 2 ts))
def qR : Fr → cO :=
 (sSeq (bJ [] (eY (aE (dC (.str "a")) (aE (dC (.str "ab")) (aE (dC (.str "abc")) (aE (dC (.str "b")) (aE (dC (.str "ba")) (aE (dC (.str "zzzzzzzz")) (aE (dC (.str "zzzzzzzy")) (aE (dC (.str "q")) aJ))))))))) (aK 1))
 (bT [] (aG bX (uK pQ (aD 1) (jF (aG cM (aD 0) (dC (.int 8)))) iU) (uK pQ (aD 1) iU (jF (aG cM (aD 0) (dC (.int 8))))))))
def nF : List T → Res T := fun ts => cE (qR (cZ 2 ts))
def rB : Fr → cO :=
 (sSeq (bJ [] (aG bX (aG bX (aG cM (aD 0) (dC (.int 1000000021))) (aG nE (dC (.int 4099)) (aD 1))) (dC (.int 77))) (aK 0))
 (sSeq (bJ [] (cU zY (aE (aG cM (aG nE (aD 0) (dC (.int 30011))) (dC (.int 2140000027))) (aE (dC (.int 46133)) aJ))) (fS (bN (aK 2) (bN (aK 3) gA))))
 (sSeq (bJ [] (aG bX (aG bX (aG bX (aG nE (aD 2) (aD 3)) (aG nE (dC (.int 6007)) (aD 2))) (aG nE (dC (.int 271)) (aD 3))) (aD 1)) (aK 4))
 (bT [] (aG cM (aG nE (aD 4) (aG bX (aG cM (aD 4) (dC (.int 1009))) (dC (.int 7919)))) (dC (.int 1700000009)))))))
def dN : List T → Res T := fun ts => cE (rB (cZ 5 ts))
def qV : Fr → cO :=
 (sSeq (bJ [] (aG cM (bQ 2 gG (aE (aD 0) (aE (dC (.int 0)) aJ))) (aG wZ (dC (.int 10)) (dC (.int 15)))) (aK 2))
 (sSeq (bJ [] (aV (aG bE (eY (aE (dC (.int 0)) (aE (dC (.int 1)) (aE (dC (.int 3)) (aE (dC (.int 8)) (aE (dC (.int 20)) (aE (dC (.int 20)) (aE (dC (.int 60)) (aE (dC (.int 300)) aJ))))))))) (aG cM (aD 2) (dC (.int 8))))) (aK 3))
 (sSeq (bJ [] (aV (aG bE (eY (aE (fF tW (dC (.int 3000))) (aE (aG dQ (dC (.int 3000)) (aD 3)) (aE (fF tW (dC (.int 10))) (aE (dC (.int 1400)) aJ))))) (aG cM (aG gF (aD 2) (dC (.int 8))) (dC (.int 4))))) (aK 4))
 (sSeq (bJ [] (uK pQ (bQ 1 nF (aE (aG gF (aD 2) (dC (.int 32))) aJ)) iU (jF (aG bX (dC (.int 1)) (aG cM (aG gF (aD 2) (dC (.int 256))) (aD 1))))) (aK 5))
 (sSeq (bJ [] (eY aJ) (aK 6))
 (sSeq (lD (iO qG (aE (aG bX (dC (.int 2)) (aG cM (bQ 2 dN (aE (aD 2) (aE (dC (.int 6)) aJ))) (dC (.int 5)))) aJ)) (aK 7) (sSeq (bJ [] (aG bX (dC (.int 400)) (aG cM (aG gF (aD 2) (dC (.int 2048))) (dC (.int 9)))) (aK 8))
 (sSeq (bJ [] (eY (aE (aV (aD 8)) aJ)) (aK 9))
 (sSeq (lD (iO qG (aE (aG cM (bQ 2 dN (aE (aD 2) (aE (aD 7) aJ))) (aG bE (eY (aE (dC (.int 12)) (aE (dC (.int 60)) aJ))) (aG gF (aG cM (aG gF (aD 2) (dC (.int 18432))) (dC (.int 4))) (dC (.int 3))))) aJ)) (aK 10) (sSeq (bJ [] (cU vL (aE (dC (.int 0)) (aE (aG dQ (aD 8) (aG cM (bQ 2 dN (aE (aD 2) (aE (aG bX (aG nE (dC (.int 10)) (aD 10)) (aD 7)) aJ))) (dC (.int 13)))) aJ))) (aK 8))
 (lY 9 [] eD (aV (aD 8)))))
 (lY 6 [9] eD (dH (aE (aV (aG bE (eY (aE (dC (.str "oak")) (aE (dC (.str "soot")) (aE (dC (.str "oa")) (aE (dC (.str "ink")) (aE (dC (.str "oakoak")) (aE (dC (.str "s")) aJ))))))) (aD 7))) (aE (aD 9) aJ))))))))
 (sSeq (bJ [] (aG bX (aG dQ (aD 4) (dC (.int 5))) (aG cM (bQ 2 dN (aE (aD 2) (aE (dC (.int 3)) aJ))) (aG bX (aD 3) (dC (.int 9))))) (aK 11))
 (sSeq (bJ [] (eY (aE (dH (aE (dC (.str "ann")) (aE (aV (aD 11)) (aE (aG bX (dC (.int 1)) (aG cM (bQ 2 dN (aE (aD 2) (aE (dC (.int 4)) aJ))) (dC (.int 30)))) aJ)))) (aE (dH (aE (dC (.str "anna")) (aE (aG bX (aD 11) (dC (.int 3))) (aE (aG bX (dC (.int 1)) (aG cM (bQ 2 dN (aE (aD 2) (aE (dC (.int 5)) aJ))) (dC (.int 100)))) aJ)))) aJ))) (aK 12))
 (sSeq (lD (iO qG (aE (aG cM (bQ 2 dN (aE (aD 2) (aE (dC (.int 7)) aJ))) (dC (.int 7))) aJ)) (aK 7) (sSeq (bJ [] (aG dQ (aG bX (aD 11) (aG cM (bQ 2 dN (aE (aD 2) (aE (aG bX (dC (.int 8)) (aD 7)) aJ))) (dC (.int 9)))) (dC (.int 4))) (aK 11))
 (ag1 12 [] bi4 eD (aE (dC (.int 1)) (aE (dH (aE (aV (aG bE (eY (aE (dC (.str "an")) (aE (dC (.str "b")) (aE (dC (.str "annab")) (aE (dC (.str "zz")) (aE (dC (.str "nn")) (aE (dC (.str "a")) aJ))))))) (aD 7))) (aE (aV (aD 11)) (aE (aG bX (dC (.int 1)) (aG cM (bQ 2 dN (aE (aD 2) (aE (aG bX (dC (.int 14)) (aD 7)) aJ))) (dC (.int 60)))) aJ)))) aJ)))))
 (bT [5, 6, 12] (dH (aE (aV (aD 4)) (aE (aG bX (aD 4) (aD 3)) (aE (aD 5) (aE (aD 6) (aE (aD 12) aJ))))))))))))))))
def nJ : List T → Res T := fun ts => cE (qV (cZ 13 ts))
def uT : Fr → cO :=
 (sSeq (bJ [] (aG cM (cU ao1 (aE (aD 0) aJ)) (aG wZ (dC (.int 10)) (dC (.int 60)))) (aK 2))
 (sSeq (bJ [] (eY aJ) (aK 3))
 (sSeq (lD (iO qG (aE (aD 1) aJ)) (aK 4) (dP (dOr (bS (aG ltT (aD 0) (dC (.int 0)))) (bS (aG geT (aD 0) (aG wZ (dC (.int 10)) (dC (.int 18)))))) (sSeq (lY 3 [] eD (aG cM (aD 2) (dC (.int 10007))))
 (bJ [] (aG gF (aD 2) (dC (.int 10007))) (aK 2))) (lY 3 [] eD (bQ 2 dN (aE (aG bX (bQ 2 dN (aE (aD 0) (aE (aD 4) aJ))) (aD 0)) (aE (aD 4) aJ))))))
 (bT [3] (aD 3)))))
def kA : List T → Res T := fun ts => cE (uT (cZ 5 ts))
def pG : Fr → cO :=
 (bT [] (eO [2] (iL jV (bQ 2 kA (aE (aD 0) (aE (cU eP (aE (aG bE (aD 1) (dC (.int 2))) aJ)) aJ)))) (aK 2) dG (aG bX (aG bE (aD 1) (dC (.int 0))) (aG cM (aD 2) (aG bX (aG dQ (aG bE (aD 1) (dC (.int 1))) (aG bE (aD 1) (dC (.int 0)))) (dC (.int 1)))))))
def lL : List T → Res T := fun ts => cE (pG (cZ 3 ts))
def sB : Fr → cO :=
 (sSeq (bJ [] (eY (aE (aV (aG bE (aG bE (aD 1) (dC (.int 2))) (aD 2))) (aE (aV (aG bE (aG bE (aD 1) (dC (.int 2))) (aD 3))) aJ))) (aK 4))
 (sSeq (dP (dOr (bS (aG fV (aD 2) (aD 3))) (bS (aG fV (aG cM (aG bE (aD 0) (dC (.int 2))) (dC (.int 2))) (dC (.int 0))))) (sSeq (bJ [] (aG bX (aG dQ (aG bE (aD 1) (dC (.int 0))) (dC (.int 30))) (aG cM (aG bE (aD 0) (dC (.int 3))) (aG bX (aG dQ (aG bE (aD 1) (dC (.int 1))) (aG bE (aD 1) (dC (.int 0)))) (dC (.int 61))))) (aK 5))
 (sSeq (bJ [] (aG bX (aD 5) (aG cM (aG bE (aD 0) (dC (.int 4))) (dC (.int 40)))) (aK 6))
 (bT [] (dH (aE (dC (.str "between")) (aE (aG bX (uK pQ (aD 4) iU (jF (dC (.int 1)))) (eY (aE (aV (aD 5)) (aE (aV (aD 6)) aJ)))) (aE (dH (aE (aV (aD 2)) aJ)) (aE (dH (aE (aV (aD 5)) (aE (aV (aD 6)) aJ))) aJ)))))))) cP)
 (sSeq (bJ [] (aG dQ (aG cM (aG bE (aD 0) (dC (.int 3))) (dC (.int 601))) (dC (.int 300))) (aK 5))
 (sSeq (bJ [] (cU rO (aE (dC (.int 300)) (aE (aG bX (aD 5) (aG cM (aG bE (aD 0) (dC (.int 4))) (dC (.int 40)))) aJ))) (aK 6))
 (bT [] (dH (aE (dC (.str "apart")) (aE (aG bX (aD 4) (eY (aE (aV (aD 5)) (aE (aV (aD 6)) aJ)))) (aE (dH (aE (aV (aD 2)) (aE (aV (aD 3)) aJ))) (aE (dH (aE (aV (aD 5)) (aE (aV (aD 6)) aJ))) aJ))))))))))
def pJ : List T → Res T := fun ts => cE (sB (cZ 7 ts))
def oY : Fr → cO :=
 (sSeq (bJ [] (aV (aG bE (aG bE (aD 1) (dC (.int 2))) (aD 2))) (aK 4))
 (sSeq (bJ [] (aG gF (aD 0) (dC (.int 4))) (aK 5))
 (sSeq (dP (bS (aG fV (aG cM (aD 0) (dC (.int 4))) (dC (.int 0)))) (sSeq (bJ [] (aV (aG bE (aG bE (aD 1) (dC (.int 3))) (aG cM (aD 5) (cU eP (aE (aG bE (aD 1) (dC (.int 3))) aJ))))) (fS (bN (aK 6) (bN (aK 7) gA))))
 (sSeq (bJ [] (aG cM (aG gF (aD 5) (dC (.int 2))) (dC (.int 5))) (aK 8))
 (sSeq (bJ [] (aV (aG bE (aD 7) (cU rO (aE (aG dQ (aG bE (aD 1) (dC (.int 1))) (aD 3)) (aE (aG dQ (cU eP (aE (aD 7) aJ)) (dC (.int 1))) aJ))))) (aK 9))
 (sSeq (bJ [] (cU vL (aE (dC (.int 0)) (aE (aG dQ (aG bX (aD 9) (aG cM (aG gF (aD 5) (dC (.int 10))) (aG bX (aG nE (dC (.int 2)) (aD 8)) (dC (.int 1))))) (aD 8)) aJ))) (aK 9))
 (sSeq (bJ [] (eY aJ) (aK 10))
 (sSeq (lD (iO qG (aE (aG bX (aG dQ (aG bE (aD 1) (dC (.int 1))) (aG bE (aD 1) (dC (.int 0)))) (dC (.int 1))) aJ)) (aK 11) (dP (bS (aG pP (cU ao1 (aE (aG dQ (aG bE (aD 7) (cU rO (aE (aD 11) (aE (aG dQ (cU eP (aE (aD 7) aJ)) (dC (.int 1))) aJ)))) (aD 9)) aJ)) (aD 8))) (lY 10 [] eD (aV (aD 11))) cP))
 (bT [] (dH (aE (dC (.str "ink")) (aE (eY (aE (aV (aD 4)) (aE (aV (aD 6)) (aE (aV (aD 9)) (aE (aV (aD 8)) aJ))))) (aE (dH (aE (aV (aD 2)) aJ)) (aE (dH (aE (aG dQ (aG bE (aD 1) (dC (.int 1))) (aG bE (aD 10) (fF tW (dC (.int 1))))) (aE (aG dQ (aG bE (aD 1) (dC (.int 1))) (aG bE (aD 10) (dC (.int 0)))) aJ))) aJ)))))))))))) cP)
 (sSeq (bJ [] (aG cM (aG gF (aD 5) (dC (.int 2))) (cU eP (aE (aG bE (aD 1) (dC (.int 4))) aJ))) (aK 12))
 (sSeq (lD (iL wB (ac9 (aG bX (uK pQ (aG bE (aD 1) (dC (.int 4))) (jF (aD 12)) iU) (uK pQ (aG bE (aD 1) (dC (.int 4))) iU (jF (aD 12)))))) (fS (bN (aK 13) (bN (aK 14) (bN (aK 15) gA)))) (dP (vI (bS (aG fV (aG cM (aD 0) (dC (.int 4))) (dC (.int 1)))) (bS (pM pP ltT (aD 14) (aD 3) (aG bX (aD 14) (aD 15))))) (sSeq (dP (bS (aG fV (aG cM (aD 5) (dC (.int 2))) (dC (.int 0)))) (bT [] (dH (aE (dC (.str "reign")) (aE (eY (aE (aV (aD 4)) (aE (aV (aD 13)) (aE (aG bX (aG dQ (aD 3) (aD 14)) (dC (.int 1))) aJ)))) (aE (dH (aE (aV (aD 2)) aJ)) (aE (dH (aE (aV (aD 3)) (aE (aV (aD 3)) aJ))) aJ)))))) cP)
 (bT [] (dH (aE (dC (.str "under")) (aE (eY (aE (aV (aD 4)) (aE (aV (aD 13)) aJ))) (aE (dH (aE (aV (aD 2)) aJ)) (aE (dH (aE (aV (aD 14)) (aE (aG dQ (aG bX (aD 14) (aD 15)) (dC (.int 1))) aJ))) aJ))))))) cP))
 (sSeq (bJ [] (cU vL (aE (fF tW (dC (.int 4000))) (aE (aG dQ (aD 3) (aG cM (aD 5) (dC (.int 9)))) aJ))) (aK 16))
 (sSeq (bJ [] (cU rO (aE (dC (.int 4000)) (aE (aG bX (aD 3) (aG cM (aG gF (aD 5) (dC (.int 9))) (dC (.int 9)))) aJ))) (aK 17))
 (bT [] (dH (aE (dC (.str "between")) (aE (eY (aE (aV (aD 4)) (aE (aV (aD 16)) (aE (aV (aD 17)) aJ)))) (aE (dH (aE (aV (aD 2)) aJ)) (aE (dH (aE (aV (aD 16)) (aE (aV (aD 17)) aJ))) aJ)))))))))))))
def lJ : List T → Res T := fun ts => cE (oY (cZ 18 ts))
def oU : Fr → cO :=
 (sSeq (bJ [] (eO [9] (iL jV (aD 2)) (aK 9) dG (aV (aG bE (aG bE (aD 1) (dC (.int 2))) (aD 9)))) (aK 4))
 (sSeq (bJ [] (aG gF (aD 0) (dC (.int 4))) (aK 5))
 (sSeq (dP (vI (bS (aG fV (aD 3) (dC (.int 0)))) (bS (aG fV (aG cM (aD 0) (dC (.int 4))) (dC (.int 0))))) (bT [4] (dH (aE (dC (.str "same")) (aE (aD 4) (aE (aV (aD 2)) (aE (dH (aE (dC (.int 0)) (aE (dC (.int 0)) aJ))) aJ)))))) cP)
 (sSeq (dP (vI (bS (aG gtT (aD 3) (dC (.int 0)))) (bS (aG ltT (aG cM (aD 0) (dC (.int 4))) (dC (.int 2))))) (bT [4] (dH (aE (dC (.str "after")) (aE (aD 4) (aE (aV (aD 2)) (aE (dH (aE (dC (.int 1)) (aE (dC .non) aJ))) aJ)))))) cP)
 (sSeq (dP (vI (bS (aG geT (aD 3) (dC (.int 0)))) (bS (aG fV (aG cM (aD 0) (dC (.int 4))) (dC (.int 2))))) (sSeq (bJ [] (cU rO (aE (dC (.int 300)) (aE (aG bX (aD 3) (aG cM (aD 5) (dC (.int 4)))) aJ))) (aK 6))
 (bT [] (dH (aE (dC (.str "within")) (aE (aG bX (aD 4) (eY (aE (aV (aD 6)) aJ))) (aE (aV (aD 2)) (aE (dH (aE (dC (.int 0)) (aE (aV (aD 6)) aJ))) aJ))))))) cP)
 (sSeq (bJ [] (cU vL (aE (fF tW (dC (.int 300))) (aE (aG dQ (aD 3) (aG cM (aD 5) (dC (.int 6)))) aJ))) (aK 7))
 (sSeq (bJ [] (cU rO (aE (dC (.int 300)) (aE (aG bX (aD 3) (aG cM (aG gF (aD 5) (dC (.int 6))) (dC (.int 6)))) aJ))) (aK 8))
 (bT [] (dH (aE (dC (.str "apart")) (aE (aG bX (aD 4) (eY (aE (aV (aD 7)) (aE (aV (aD 8)) aJ)))) (aE (aV (aD 2)) (aE (dH (aE (aV (aD 7)) (aE (aV (aD 8)) aJ))) aJ)))))))))))))
def lP : List T → Res T := fun ts => cE (oU (cZ 10 ts))
def nN : Fr → cO :=
 (sSeq (bJ [] (cU eP (aE (aG bE (aD 1) (dC (.int 2))) aJ)) (aK 4))
 (sSeq (bJ [] (aG dQ (aG bE (aD 1) (dC (.int 1))) (aG bE (aD 1) (dC (.int 0)))) (aK 5))
 (sSeq (bJ [] (eY aJ) (aK 6))
 (sSeq (lD (iL wB (aD 0)) (aK 7) (sSeq (bJ [] (bQ 2 kA (aE (aD 7) (aE (dC (.int 6)) aJ))) (aK 8))
 (sSeq (bJ [] (aG cM (aG bE (aD 8) (dC (.int 0))) (aD 4)) (aK 9))
 (sSeq (bJ [] (cU hV (aE (aD 3) aJ)) (aK 10))
 (sSeq (dP (vI (lC (aD 2)) (bS (aG fV (aG cM (aG bE (aD 8) (dC (.int 1))) (dC (.int 3))) (dC (.int 0))))) (bJ [] (eO [12] (iO qG (aE (aD 4) aJ)) (aK 12) dG (aG bX (aG bE (aD 1) (dC (.int 0))) (aG cM (aG bX (aG bE (aD 8) (dC (.int 4))) (aG nE (aG nE (dC (.int 7)) (aG bE (aD 8) (dC (.int 5)))) (aD 12))) (aG bX (aD 5) (dC (.int 1)))))) (aK 10)) cP)
 (sSeq (bJ [] (aG cM (aG bX (aG bX (aD 9) (dC (.int 1))) (aG cM (aG gF (aG bE (aD 8) (dC (.int 1))) (dC (.int 3))) (cU vL (aE (dC (.int 1)) (aE (aG dQ (aD 4) (dC (.int 1))) aJ))))) (aD 4)) (aK 11))
 (dP (vI (lC (aD 2)) (bS (aG fV (aG cM (aG bE (aD 8) (dC (.int 5))) (dC (.int 8))) (dC (.int 5))))) (lY 6 [] eD (bQ 4 pJ (aE (aD 8) (aE (aD 1) (aE (aD 9) (aE (aD 11) aJ)))))) (dP (dOr (bS (aG fV (aD 4) (dC (.int 1)))) (bS (aG ltT (aG cM (aG bE (aD 8) (dC (.int 2))) (dC (.int 5))) (dC (.int 2))))) (lY 6 [] eD (bQ 4 lJ (aE (aG bE (aD 8) (dC (.int 3))) (aE (aD 1) (aE (aD 9) (aE (aG bE (aD 10) (aD 9)) aJ)))))) (lY 6 [] eD (bQ 4 lP (aE (aG bE (aD 8) (dC (.int 3))) (aE (aD 1) (aE (dH (aE (aV (aD 9)) (aE (aV (aD 11)) aJ))) (aE (aG dQ (aG bE (aD 10) (aD 9)) (aG bE (aD 10) (aD 11))) aJ))))))))))))))
 (bT [6] (aD 6))))))
def kO : List T → Res T := fun ts => cE (nN (cZ 13 ts))
def oV : Fr → cO :=
 (bT [] (qY (cU mX (aE (aD 0) (aE (dC (.ty "int")) aJ))) (ax8 (cU mX (aE (aD 0) (aE (dC (.ty "bool")) aJ))))))
def gU : List T → Res T := fun ts => cE (oV (cZ 1 ts))
def lH : Fr → cO :=
 (bT [] (qY (bQ 1 gU (aE (aD 0) aJ)) (pM pP pP (aD 1) (aD 0) (aD 2))))
def cN : List T → Res T := fun ts => cE (lH (cZ 3 ts))
def qQ : Fr → cO :=
 (sSeq (dP (lE (lC (bQ 3 cN (aE (aD 0) (aE (fF tW (dC (.int 3000))) (aE (dC (.int 3000)) aJ)))))) (bT [] (dC (.bl false))) cP)
 (sSeq (dP (lE (lC (bQ 3 cN (aE (aD 1) (aE (fF tW (dC (.int 3000))) (aE (dC (.int 3000)) aJ)))))) (bT [] (dC (.bl false))) cP)
 (bT [] (pM pP pP (dC (.int 0)) (aG dQ (aD 1) (aD 0)) (dC (.int 300))))))
def kU : List T → Res T := fun ts => cE (qQ (cZ 2 ts))
def pI : Fr → cO :=
 (bT [] (qY (pM pP pP (dC (.int 1)) (cU eP (aE (aD 0) aJ)) (aD 2)) (cU (nU false) (aE (eO [3] (iL jV (aD 0)) (aK 3) dG (aG (inT false) (aD 3) (aD 1))) aJ))))
def lK : List T → Res T := fun ts => cE (pI (cZ 4 ts))
def uP : Fr → cO :=
 (bT [] (bQ 3 lK (aE (aD 0) (aE (dC (.str "abcdefghijklmnopqrstuvwxyz")) (aE (dC (.int 8)) aJ)))))
def oC : List T → Res T := fun ts => cE (uP (cZ 1 ts))
def qS : Fr → cO :=
 (sSeq (dP (lE (bS (pM pP pP (aD 1) (cU eP (aE (aD 0) aJ)) (aD 2)))) (bT [] (dC (.bl false))) cP)
 (bT [] (qY (cU (nU false) (aE (eO [3] (iL jV (aD 0)) (aK 3) dG (bQ 1 oC (aE (aD 3) aJ))) aJ)) (aG fV (cU vV (aE (aD 0) aJ)) (cU eP (aE (aD 0) aJ))))))
def gE : List T → Res T := fun ts => cE (qS (cZ 4 ts))
def sE : Fr → cO :=
 (sSeq (dP (lE (bS (pM pP pP (dC (.int 1)) (cU eP (aE (aD 0) aJ)) (dC (.int 60))))) (bT [] (dC (.bl false))) cP)
 (sSeq (dP (lE (lC (cU (nU false) (aE (eO [1] (iL jV (aD 0)) (aK 1) dG (bQ 3 cN (aE (aD 1) (aE (dC (.int 0)) (aE (dC (.int 1000000)) aJ))))) aJ)))) (bT [] (dC (.bl false))) cP)
 (bT [] (cU (nU false) (aE (eO [2] (iO bx4 (aE (dC (.int 1)) (aE (cU eP (aE (aD 0) aJ)) aJ))) (aK 2) dG (aG pP (aG bE (aD 0) (aD 2)) (aG bE (aD 0) (aG dQ (aD 2) (dC (.int 1)))))) aJ)))))
def mS : List T → Res T := fun ts => cE (sE (cZ 3 ts))
def sD : Fr → cO :=
 (sSeq (dP (lE (lC (bQ 3 gE (aE (eO [1, 2] (iL jV (aD 0)) (fS (bN (aK 1) (bN (aK 2) gA))) dG (aV (aD 1))) (aE (dC (.int 0)) (aE (dC (.int 6)) aJ)))))) (bT [] (dC (.bl false))) cP)
 (bT [] (cU (nU false) (aE (eO [1, 2] (iL jV (aD 0)) (fS (bN (aK 1) (bN (aK 2) gA))) dG (bQ 1 mS (aE (aD 2) aJ))) aJ))))
def mW : List T → Res T := fun ts => cE (sD (cZ 3 ts))
def sQ : Fr → cO :=
 (bT [] (qY (bQ 3 cN (aE (aD 0) (aE (fF tW (dC (.int 4000))) (aE (dC (.int 4000)) aJ)))) (bQ 3 cN (aE (aD 1) (aE (dC (.int 1)) (aE (dC (.int 100)) aJ))))))
def mR : List T → Res T := fun ts => cE (sQ (cZ 2 ts))
def pK : Fr → cO :=
 (sSeq (dP (lE (lC (bQ 3 gE (aE (eO [1, 2, 3] (iL jV (aD 0)) (fS (bN (aK 1) (bN (aK 2) (bN (aK 3) gA)))) dG (aV (aD 1))) (aE (dC (.int 0)) (aE (dC (.int 8)) aJ)))))) (bT [] (dC (.bl false))) cP)
 (bT [] (cU (nU false) (aE (eO [1, 2, 3] (iL jV (aD 0)) (fS (bN (aK 1) (bN (aK 2) (bN (aK 3) gA)))) dG (bQ 2 mR (aE (aD 2) (aE (aD 3) aJ)))) aJ))))
def jJ : List T → Res T := fun ts => cE (pK (cZ 4 ts))
def jI : Fr → cO :=
 (sSeq (dP (lE (lC (bQ 2 kU (aE (aD 1) (aE (aD 2) aJ))))) nP cP)
 (sSeq (dP (lE (lC (bQ 3 gE (aE (aD 3) (aE (dC (.int 1)) (aE (dC (.int 8)) aJ)))))) nP cP)
 (sSeq (dP (lE (lC (bQ 1 mW (aE (aD 4) aJ)))) nP cP)
 (sSeq (dP (lE (lC (bQ 1 jJ (aE (aD 5) aJ)))) nP cP)
 (sSeq (rR 0 [] ["Archive"] "first" (aV (aD 1)) eD)
 (sSeq (rR 0 [] ["Archive"] "present" (aV (aD 2)) eD)
 (sSeq (rR 0 [] ["Archive"] "letters" (cU hV (aE (aD 3) aJ)) eD)
 (sSeq (rR 0 [] ["Archive"] "inks" (eO [6, 7] (iL jV (aD 4)) (fS (bN (aK 6) (bN (aK 7) gA))) dG (dH (aE (aV (aD 6)) (aE (cU hV (aE (aD 7) aJ)) aJ)))) eD)
 (rR 0 [] ["Archive"] "reigns" (cU hV (aE (aD 5) aJ)) eD)))))))))
def lO : List T → Res T := fun ts => jO (jI (cZ 8 (.ins true "Archive" [] [] :: ts)))
def nT : Fr → cO :=
 (sSeq (bJ [] (eO [2, 3] (iL jV (aG bE (aD 0) (dC (.int 3)))) (fS (bN (aK 2) (bN (aK 3) gA))) dG (dH (aE (aV (aD 2)) (aE (cU hV (aE (aD 3) aJ)) aJ)))) (aK 1))
 (bT [] (bQ 5 lO (aE (aG bE (aD 0) (dC (.int 0))) (aE (aG bE (aD 0) (dC (.int 1))) (aE (cU hV (aE (aG bE (aD 0) (dC (.int 2))) aJ)) (aE (aD 1) (aE (cU hV (aE (aG bE (aD 0) (dC (.int 4))) aJ)) aJ))))))))
def kP : List T → Res T := fun ts => cE (nT (cZ 4 ts))
def nW : Fr → cO :=
 (sSeq (dP (bS (aG fV (aD 1) (dC (.str "letter")))) (bT [] (aG (inT false) (aD 2) (fF (eZ ["Archive"] "letters") (aD 0)))) cP)
 (sSeq (dP (bS (aG fV (aD 1) (dC (.str "ink")))) (bT [] (aG (inT false) (aD 2) (eO [3] (iL jV (fF (eZ ["Archive"] "inks") (aD 0))) (aK 3) dG (aV (aG bE (aD 3) (dC (.int 0))))))) cP)
 (sSeq (dP (bS (aG fV (aD 1) (dC (.str "reign")))) (bT [] (aG (inT false) (aD 2) (eO [4] (iL jV (fF (eZ ["Archive"] "reigns") (aD 0))) (aK 4) dG (aV (aG bE (aD 4) (dC (.int 0))))))) cP)
 (bT [] (bQ 3 cN (aE (aD 2) (aE (aG bE (fF (wJ kt_NUMBERS) (aD 1)) (dC (.int 0))) (aE (aG bE (fF (wJ kt_NUMBERS) (aD 1)) (dC (.int 1))) aJ))))))))
def gH : List T → Res T := fun ts => cE (nW (cZ 5 ts))
def uX : Fr → cO :=
 (sSeq (dP (dOr (bS (fF (ck1 true kt_PARTS) (aD 1))) (bS (aG xW (cU eP (aE (aD 2) aJ)) (cU eP (aE (fF (wJ kt_PARTS) (aD 1)) aJ))))) (bT [] (dC (.bl false))) cP)
 (bT [] (cU (nU false) (aE (eO [3, 4] (iO (be0 false) (aE (fF (wJ kt_PARTS) (aD 1)) (aE (aD 2) aJ))) (fS (bN (aK 3) (bN (aK 4) gA))) dG (bQ 3 gH (aE (aD 0) (aE (aD 3) (aE (aD 4) aJ))))) aJ))))
def oJ : List T → Res T := fun ts => cE (uX (cZ 5 ts))
def jB : Fr → cO :=
 (sSeq (lD (iL wB (fF (eZ ["Archive"] "inks") (aD 0))) (fS (bN (aK 2) (bN (aK 3) gA))) (dP (bS (aG fV (aD 2) (aD 1))) (bT [] (cU hV (aE (aD 3) aJ))) cP))
 (bT [] (dC .non)))
def fJ : List T → Res T := fun ts => cE (jB (cZ 4 ts))
def uR : Fr → cO :=
 (sSeq (bJ [] (aG dQ (cU eP (aE (aD 0) aJ)) (dC (.int 1))) (aK 4))
 (sSeq (bJ [] (eO [7] (iO qG (aE (aG bX (cU rO (aE (aD 4) (aE (aD 3) aJ))) (dC (.int 1))) aJ)) (aK 7) (bS (aG pP (cU ao1 (aE (aG dQ (aG bE (aD 0) (aD 7)) (aD 1)) aJ)) (aD 2))) (aV (aD 7))) (aK 5))
 (sSeq (dP (bS (aG fV (cU eP (aE (aD 5) aJ)) (dC (.int 0)))) (bT [] (dC .non)) cP)
 (sSeq (bJ [] (aV (aG bE (aD 5) (aG dQ (cU eP (aE (aD 5) aJ)) (dC (.int 1))))) (aK 6))
 (bT [] (dH (aE (aV (aG bE (aD 5) (dC (.int 0)))) (aE (dIf (bS (aG fV (aD 6) (aD 4))) (aV (aD 3)) (aV (aD 6))) aJ))))))))
def oM : List T → Res T := fun ts => cE (uR (cZ 8 ts))
def cK : Fr → cO :=
 (sSeq (bJ [] (eO [7, 8] (iO (be0 false) (aE (aD 3) (aE (fF (wJ kt_PARTS) (aD 2)) aJ))) (fS (bN (aK 7) (bN (aK 8) gA))) (bS (aG fV (aD 8) (dC (.str "letter")))) (aV (aD 7))) (aK 6))
 (sSeq (rR 0 [] ["Ink", "Reign", "Under", "Between", "After", "Same", "Within", "Apart"] "spoken" (eO [9] (iL jV (aD 6)) (aK 9) dG (dBM ai2 vW (fF (eZ ["Archive"] "letters") (aD 1)) (aE (aD 9) aJ))) eD)
 (sSeq (rR 0 [] ["Ink", "Reign", "Under", "Between", "After", "Same", "Within", "Apart"] "low" (aV (aD 4)) eD)
 (sSeq (rR 0 [] ["Ink", "Reign", "Under", "Between", "After", "Same", "Within", "Apart"] "high" (aV (aD 5)) eD)
 (rR 0 [] ["Ink", "Reign", "Under", "Between", "After", "Same", "Within", "Apart"] "text" (dBM bb1 aj0 (dC (.str " ")) (aE (aG bX (eY (aE (aV (aD 2)) aJ)) (eO [7] (iL jV (aD 3)) (aK 7) dG (cU ab0 (aE (aD 7) aJ)))) aJ)) eD)))))
noncomputable abbrev tm_table : List (Str × (List T → Res T)) := [("Archive", fJ)]
def xL : List T → Res T := fun ts => jO (cK (cZ 10 (.ins true "Ink" [] [] :: ts)))
def oW : Fr → cO :=
 (sSeq (bJ [] (bQ 4 oM (aE (iA 2 "table" tm_table (aD 0) (aE (aG bE (aD 1) (dC (.int 1))) aJ)) (aE (aG bE (aD 1) (dC (.int 2))) (aE (aG bE (aD 1) (dC (.int 3))) (aE (aG dQ (fF (eZ ["Archive"] "present") (aD 0)) (fF (eZ ["Archive"] "first") (aD 0))) aJ))))) (aK 2))
 (sSeq (dP (bS (aG xZ (aD 2) (dC .non))) nP cP)
 (bT [] (bQ 5 xL (aE (aD 0) (aE (dC (.str "ink")) (aE (aD 1) (aE (aG dQ (fF (eZ ["Archive"] "present") (aD 0)) (aG bE (aD 2) (dC (.int 1)))) (aE (aG dQ (fF (eZ ["Archive"] "present") (aD 0)) (aG bE (aD 2) (dC (.int 0)))) aJ)))))))))
def oZ : List T → Res T := fun ts => cE (oW (cZ 3 ts))
def mF : Fr → cO :=
 (sSeq (lD (iL wB (fF (eZ ["Archive"] "reigns") (aD 0))) (aK 2) (dP (bS (aG fV (aG bE (aD 2) (dC (.int 0))) (aD 1))) (bT [] (aV (aD 2))) cP))
 (bT [] (dC .non)))
def gP : List T → Res T := fun ts => cE (mF (cZ 3 ts))
def pL : Fr → cO :=
 (sSeq (dP (lE (lC (bQ 3 cN (aE (aD 2) (aE (dC (.int 1)) (aE (aD 1) aJ)))))) (bT [] (dC .non)) cP)
 (bT [] (aG dQ (aG bX (aD 0) (aD 2)) (dC (.int 1)))))
def iP : List T → Res T := fun ts => cE (pL (cZ 3 ts))
def sS : List T → Res T := fun ts => jO (cK (cZ 10 (.ins true "Reign" [] [] :: ts)))
def mP : Fr → cO :=
 (sSeq (bJ [] (bQ 2 gP (aE (aD 0) (aE (aG bE (aD 1) (dC (.int 1))) aJ))) (aK 2))
 (sSeq (bJ [] (bQ 3 iP (aE (aG bE (aD 2) (dC (.int 1))) (aE (aG bE (aD 2) (dC (.int 2))) (aE (aG bE (aD 1) (dC (.int 2))) aJ)))) (aK 3))
 (sSeq (dP (bS (aG xZ (aD 3) (dC .non))) nP cP)
 (bT [] (bQ 5 sS (aE (aD 0) (aE (dC (.str "reign")) (aE (aD 1) (aE (aD 3) (aE (aD 3) aJ))))))))))
def mI : List T → Res T := fun ts => cE (mP (cZ 4 ts))
def sL : List T → Res T := fun ts => jO (cK (cZ 10 (.ins true "Under" [] [] :: ts)))
def mQ : Fr → cO :=
 (sSeq (bJ [] (bQ 2 gP (aE (aD 0) (aE (aG bE (aD 1) (dC (.int 1))) aJ))) (aK 2))
 (bT [] (bQ 5 sL (aE (aD 0) (aE (dC (.str "under")) (aE (aD 1) (aE (aG bE (aD 2) (dC (.int 1))) (aE (bQ 3 iP (aE (aG bE (aD 2) (dC (.int 1))) (aE (aG bE (aD 2) (dC (.int 2))) (aE (aG bE (aD 2) (dC (.int 2))) aJ)))) aJ))))))))
def mO : List T → Res T := fun ts => cE (mQ (cZ 3 ts))
def pT : List T → Res T := fun ts => jO (cK (cZ 10 (.ins true "Between" [] [] :: ts)))
def kD : Fr → cO :=
 (sSeq (dP (bS (aG gtT (aG bE (aD 1) (dC (.int 1))) (aG bE (aD 1) (dC (.int 2))))) nP cP)
 (bT [] (bQ 5 pT (aE (aD 0) (aE (dC (.str "between")) (aE (aD 1) (aE (aG bE (aD 1) (dC (.int 1))) (aE (aG bE (aD 1) (dC (.int 2))) aJ))))))))
def kG : List T → Res T := fun ts => cE (kD (cZ 2 ts))
def sC : List T → Res T := fun ts => jO (cK (cZ 10 (.ins true "After" [] [] :: ts)))
def mH : Fr → cO :=
 (bT [] (bQ 5 sC (aE (aD 0) (aE (dC (.str "after")) (aE (aD 1) (aE (dC (.int 1)) (aE (dC .non) aJ)))))))
def mU : List T → Res T := fun ts => cE (mH (cZ 2 ts))
def uN : List T → Res T := fun ts => jO (cK (cZ 10 (.ins true "Same" [] [] :: ts)))
def nO : Fr → cO :=
 (bT [] (bQ 5 uN (aE (aD 0) (aE (dC (.str "same")) (aE (aD 1) (aE (dC (.int 0)) (aE (dC (.int 0)) aJ)))))))
def nQ : List T → Res T := fun ts => cE (nO (cZ 2 ts))
def qO : List T → Res T := fun ts => jO (cK (cZ 10 (.ins true "Within" [] [] :: ts)))
def lG : Fr → cO :=
 (bT [] (bQ 5 qO (aE (aD 0) (aE (dC (.str "within")) (aE (aD 1) (aE (dC (.int 0)) (aE (aG bE (aD 1) (dC (.int 2))) aJ)))))))
def lF : List T → Res T := fun ts => cE (lG (cZ 2 ts))
def sR : List T → Res T := fun ts => jO (cK (cZ 10 (.ins true "Apart" [] [] :: ts)))
def mL : Fr → cO :=
 (sSeq (dP (bS (aG gtT (aG bE (aD 1) (dC (.int 2))) (aG bE (aD 1) (dC (.int 3))))) nP cP)
 (bT [] (bQ 5 sR (aE (aD 0) (aE (dC (.str "apart")) (aE (aD 1) (aE (aG bE (aD 1) (dC (.int 2))) (aE (aG bE (aD 1) (dC (.int 3))) aJ))))))))
def mJ : List T → Res T := fun ts => cE (mL (cZ 2 ts))
noncomputable abbrev tb_MAKERS : List (Str × (List T → Res T)) := [("ink", oZ), ("reign", mI), ("under", mO), ("between", kG), ("after", mU), ("same", nQ), ("within", lF), ("apart", mJ)]
def qN : Fr → cO :=
 (sSeq (dP (lE (lC (bQ 3 oJ (aE (aD 0) (aE (aD 1) (aE (aD 2) aJ)))))) nP cP)
 (sSeq (dP (vI (bS (aG fV (aG bE (fF (wJ kt_PARTS) (aD 1)) (dC (.int 1))) (dC (.str "letter")))) (bS (aG fV (aG bE (aD 2) (dC (.int 0))) (aG bE (aD 2) (dC (.int 1)))))) nP cP)
 (bT [] (at2 2 tb_MAKERS (aD 1) (aE (aD 0) (aE (aD 2) aJ))))))
def dI : List T → Res T := fun ts => cE (qN (cZ 3 ts))
def sA : Fr → cO :=
 (bT [] (eO [2, 3, 4, 5] (iL jV (aD 1)) (fS (bN (aK 2) (bN (aK 3) (bN (aK 4) (bN (aK 5) gA))))) dG (bQ 3 dI (aE (aD 0) (aE (aD 2) (aE (cU hV (aE (aD 3) aJ)) aJ))))))
def pH : List T → Res T := fun ts => cE (sA (cZ 6 ts))
def qZ : Fr → cO :=
 (sSeq (bJ [] (eY aJ) (aK 2))
 (sSeq (lD (iO qG (aE (cU eP (aE (aD 1) aJ)) aJ)) (aK 3) (sSeq (bJ [] (aV (aG bE (aG bE (aD 1) (aD 3)) (dC (.int 2)))) (aK 4))
 (sSeq (bJ [] (aV (aG bE (aG bE (aD 1) (aD 3)) (dC (.int 3)))) (fS (bN (aK 5) (bN (aK 6) gA))))
 (sSeq (bJ [] (aV (aG bE (aG bX (aD 4) (dH (aE (dC .non) aJ))) (dC (.int 1)))) (aK 7))
 (sSeq (dP (bS (aG iR (aD 6) (dC .non))) (lY 2 [] eD (dH (aE (aV (aD 7)) (aE (aV (aG bE (aD 4) (dC (.int 0)))) (aE (aV (aD 6)) (aE (aV (aD 3)) aJ)))))) cP)
 (dP (bS (aG iR (aD 5) (dC .non))) (lY 2 [] eD (dH (aE (aV (aG bE (aD 4) (dC (.int 0)))) (aE (aV (aD 7)) (aE (aG dQ (dC (.int 0)) (aD 5)) (aE (aV (aD 3)) aJ)))))) cP))))))
 (sSeq (lD (iO qG (aE (cU eP (aE (aG bE (aD 0) (dC (.int 2))) aJ)) aJ)) (aK 8) (sSeq (lY 2 [] eD (dH (aE (dC .non) (aE (aV (aD 8)) (aE (aV (aG bE (aD 0) (dC (.int 1)))) (aE (dC .non) aJ))))))
 (lY 2 [] eD (dH (aE (aV (aD 8)) (aE (dC .non) (aE (aG dQ (dC (.int 0)) (aG bE (aD 0) (dC (.int 0)))) (aE (dC .non) aJ))))))))
 (bT [2] (aD 2)))))
def kW : List T → Res T := fun ts => cE (qZ (cZ 9 ts))
def dR : Fr → cO :=
 (bT [] (aV (fF (eZ ["Ink", "Reign", "Under", "Between", "After", "Same", "Within", "Apart"] "text") (aD 0))))
def aW : List T → Res T := fun ts => cE (dR (cZ 1 ts))
def rA : Fr → cO :=
 (sSeq (bJ [] (aG cM (aD 0) (aG wZ (dC (.int 10)) (dC (.int 12)))) (aK 0))
 (sSeq (bJ [] (cU hV (aE (aD 2) aJ)) (aK 3))
 (sSeq (bJ [] (aG cM (aG gF (aD 0) (dC (.int 8))) (cU eP (aE (aD 3) aJ))) (aK 4))
 (sSeq (dP (bS (aG ltT (aG cM (aD 0) (dC (.int 8))) (dC (.int 3)))) (bh1 3 [] (aG dQ (aG bX (aG bE (aD 3) (aD 4)) (aG cM (aG gF (aD 0) (dC (.int 64))) (dC (.int 7)))) (dC (.int 3))) eD (aD 4)) (dP (bS (aG fV (aG cM (aD 0) (dC (.int 8))) (dC (.int 3)))) (sSeq (bJ [] (aG dQ (aG bE (aD 1) (dC (.int 0))) (dC (.int 2))) (aK 5))
 (sSeq (bJ [] (aG bX (aG dQ (aG bE (aD 1) (dC (.int 1))) (aD 5)) (dC (.int 3))) (aK 6))
 (bh1 3 [] (aG bX (aD 5) (aG cM (aG gF (aD 0) (dC (.int 64))) (aD 6))) eD (aD 4)))) (dP (bS (aG fV (aG cM (aD 0) (dC (.int 8))) (dC (.int 4)))) (bJ [] (aG aa9 (eY (aE (aV (aG bE (eY (aE (aV (aG bE (aD 1) (dC (.int 0)))) (aE (aV (aG bE (aD 1) (dC (.int 1)))) aJ))) (aG cM (aG gF (aD 0) (dC (.int 64))) (dC (.int 2))))) aJ)) (cU eP (aE (aD 3) aJ))) (aK 3)) (dP (bS (aG fV (aG cM (aD 0) (dC (.int 8))) (dC (.int 5)))) (bJ [] (aG bX (aD 3) (eY (aE (aV (aG bE (aD 3) (aD 4))) aJ))) (aK 3)) (dP (bS (aG fV (aG cM (aD 0) (dC (.int 8))) (dC (.int 6)))) (ag1 3 [] bq5 eD (aE (aV (aD 4)) aJ)) cP)))))
 (bT [3] (aD 3))))))
def nL : List T → Res T := fun ts => cE (rA (cZ 7 ts))
def dS : Fr → cO :=
 (bT [] (cU hV (aE (fF (eZ ["Ink", "Reign", "Under", "Between", "After", "Same", "Within", "Apart"] "spoken") (aD 0)) aJ)))
def aX : List T → Res T := fun ts => cE (dS (cZ 1 ts))
def dJ : Fr → cO :=
 (bT [] (dH (aE (aV (fF (eZ ["Ink", "Reign", "Under", "Between", "After", "Same", "Within", "Apart"] "low") (aD 0))) (aE (aV (fF (eZ ["Ink", "Reign", "Under", "Between", "After", "Same", "Within", "Apart"] "high") (aD 0))) aJ))))
def aR : List T → Res T := fun ts => cE (dJ (cZ 1 ts))
noncomputable abbrev tm_about : List (Str × (List T → Res T)) := [("Ink", aX), ("Reign", aX), ("Under", aX), ("Between", aX), ("After", aX), ("Same", aX), ("Within", aX), ("Apart", aX)]
noncomputable abbrev tm_bounds : List (Str × (List T → Res T)) := [("Ink", aR), ("Reign", aR), ("Under", aR), ("Between", aR), ("After", aR), ("Same", aR), ("Within", aR), ("Apart", aR)]
def mK : Fr → cO :=
 (sSeq (bJ [] (iA 1 "about" tm_about (aD 0) aJ) (aK 2))
 (sSeq (bJ [] (iA 1 "bounds" tm_bounds (aD 0) aJ) (aK 3))
 (sSeq (bJ [] (dIf (bS (aG fV (cU eP (aE (aD 2) aJ)) (dC (.int 2)))) (aV (aG bE (aD 2) (dC (.int 1)))) (dC .non)) (aK 4))
 (sSeq (bJ [] (eY aJ) (aK 5))
 (sSeq (dP (bS (aG iR (aG bE (aD 3) (dC (.int 1))) (dC .non))) (lY 5 [] eD (dH (aE (aV (aD 4)) (aE (aV (aG bE (aD 2) (dC (.int 0)))) (aE (aV (aG bE (aD 3) (dC (.int 1)))) (aE (aV (aD 1)) aJ)))))) cP)
 (sSeq (dP (bS (aG iR (aG bE (aD 3) (dC (.int 0))) (dC .non))) (lY 5 [] eD (dH (aE (aV (aG bE (aD 2) (dC (.int 0)))) (aE (aV (aD 4)) (aE (aG dQ (dC (.int 0)) (aG bE (aD 3) (dC (.int 0)))) (aE (aV (aD 1)) aJ)))))) cP)
 (bT [5] (aD 5))))))))
def jM : List T → Res T := fun ts => cE (mK (cZ 6 ts))
def pR : Fr → cO :=
 (bT [] (eY (aE (dH (aE (dC .non) (aE (aV (aD 1)) (aE (aV (fF (eZ ["Archive"] "present") (aD 0))) (aE (dC .non) aJ))))) (aE (dH (aE (aV (aD 1)) (aE (dC .non) (aE (aG dQ (dC (.int 0)) (fF (eZ ["Archive"] "first") (aD 0))) (aE (dC .non) aJ))))) aJ))))
def lR : List T → Res T := fun ts => cE (pR (cZ 2 ts))
def sJ : Fr → cO :=
 (sSeq (bJ [] (eY aJ) (aK 2))
 (sSeq (lD (iO (bm5 true) (aE (aD 1) aJ)) (fS (bN (aK 3) (bN (aK 4) gA))) (ag1 2 [] ar9 eD (aE (bQ 2 jM (aE (aD 4) (aE (aD 3) aJ))) aJ)))
 (sSeq (lD (iO qG (aE (cU eP (aE (fF (eZ ["Archive"] "letters") (aD 0)) aJ)) aJ)) (aK 5) (ag1 2 [] ar9 eD (aE (bQ 2 lR (aE (aD 0) (aE (aD 5) aJ))) aJ)))
 (bT [2] (aD 2)))))
def oT : List T → Res T := fun ts => cE (sJ (cZ 6 ts))
def pC : Fr → cO :=
 (bT [] (dIf (bS (aG xZ (aD 0) (dC .non))) (aV (aD 1)) (aV (aD 0))))
def iG : List T → Res T := fun ts => cE (pC (cZ 2 ts))
def uO : Fr → cO :=
 (sSeq (bJ [] (aG dQ (cU eP (aE (aD 1) aJ)) (dC (.int 1))) (aK 2))
 (bT [] (aG pP (aG bE (aD 1) (bQ 2 iG (aE (aG bE (aD 0) (dC (.int 1))) (aE (aD 2) aJ)))) (aG bX (aG bE (aD 1) (bQ 2 iG (aE (aG bE (aD 0) (dC (.int 0))) (aE (aD 2) aJ)))) (aG bE (aD 0) (dC (.int 2)))))))
def lX : List T → Res T := fun ts => cE (uO (cZ 3 ts))
def ag0 : Fr → cO :=
 (sSeq (dP (dOr (bS (aG xW (cU eP (aE (aD 2) aJ)) (cU eP (aE (fF (eZ ["Archive"] "letters") (aD 0)) aJ)))) (lE (lC (cU (nU false) (aE (eO [4] (iL jV (aD 2)) (aK 4) dG (bQ 1 gU (aE (aD 4) aJ))) aJ))))) (bT [] (dC (.bl false))) cP)
 (sSeq (bJ [] (aG bX (aD 2) (eY (aE (dC (.int 0)) aJ))) (aK 3))
 (bT [] (cU (nU false) (aE (eO [5] (iL jV (bQ 2 oT (aE (aD 0) (aE (aD 1) aJ)))) (aK 5) dG (bQ 2 lX (aE (aD 5) (aE (aD 3) aJ)))) aJ)))))
def tF : List T → Res T := fun ts => cE (ag0 (cZ 6 ts))
def qP : Fr → cO :=
 (sSeq (lD (iL wB (aD 1)) (fS (bN (aK 2) (bN (aK 3) (bN (aK 4) (bN (aK 5) gA))))) (sSeq (bJ [] (dC (.int 0)) (aK 6))
 (sSeq (bJ [] (dC (.int 0)) (aK 7))
 (sSeq (dP (bS (aG iR (aD 2) (dC .non))) (bJ [] (aV (aG bE (aD 0) (aD 2))) (aK 6)) cP)
 (sSeq (dP (bS (aG iR (aD 3) (dC .non))) (bJ [] (aV (aG bE (aD 0) (aD 3))) (aK 7)) cP)
 (dP (bS (aG gtT (aD 7) (aG bX (aD 6) (aD 4)))) (bT [] (dC (.bl false))) cP))))))
 (bT [] (dC (.bl true))))
def iI : List T → Res T := fun ts => cE (qP (cZ 8 ts))
noncomputable abbrev tm_shown : List (Str × (List T → Res T)) := [("Ink", aW), ("Reign", aW), ("Under", aW), ("Between", aW), ("After", aW), ("Same", aW), ("Within", aW), ("Apart", aW)]
def ay8 : Fr → cO :=
 (sSeq (bJ [] (bQ 2 nJ (aE (aD 0) (aE (dC (.int 8)) aJ))) (aK 1))
 (sSeq (bJ [] (uK pQ (aD 0) (jF (dC (.int 2))) (jF (dC (.int 18)))) (aK 2))
 (sSeq (bJ [] (bQ 2 lL (aE (aG gF (bQ 2 gG (aE (aD 0) (aE (dC (.int 1)) aJ))) (dC (.int 32))) (aE (aD 1) aJ))) (aK 3))
 (sSeq (bJ [] (ai3 (bQ 4 kO (aE (aD 2) (aE (aD 1) (aE (aG fV (aG cM (bQ 2 gG (aE (aD 0) (aE (dC (.int 1)) aJ))) (dC (.int 2))) (dC (.int 1))) (aE (aD 3) aJ)))))) (aK 4))
 (sSeq (bJ [] (bQ 1 kP (aE (aD 1) aJ)) (aK 5))
 (sSeq (bJ [] (ai3 (bQ 2 pH (aE (aD 5) (aE (aD 4) aJ)))) (aK 6))
 (sSeq (bJ [] (bQ 2 kW (aE (aD 1) (aE (aD 4) aJ))) (aK 7))
 (sSeq (bJ [] (eO [18] (iL jV (aD 6)) (aK 18) dG (iA 1 "shown" tm_shown (aD 18) aJ)) (aK 8))
 (sSeq (bJ [] (aG cM (aG gF (bQ 2 gG (aE (aD 0) (aE (dC (.int 1)) aJ))) (dC (.int 2))) (aG bX (cU eP (aE (aD 4) aJ)) (dC (.int 1)))) (aK 9))
 (sSeq (bJ [] (aG bX (uK pQ (aD 6) iU (jF (aD 9))) (uK pQ (aD 6) (jF (aG bX (aD 9) (dC (.int 1)))) iU)) (aK 10))
 (sSeq (bJ [] (bQ 2 kW (aE (aD 1) (aE (aG bX (uK pQ (aD 4) iU (jF (aD 9))) (uK pQ (aD 4) (jF (aG bX (aD 9) (dC (.int 1)))) iU)) aJ))) (aK 11))
 (sSeq (bJ [] (cU eP (aE (aG bE (aD 1) (dC (.int 2))) aJ)) (aK 12))
 (sSeq (lD (iL wB (ac9 (aG bX (uK pQ (aD 0) (jF (dC (.int 18))) (jF (dC (.int 63)))) (eY (aE (dC (.int 7)) (aE (dC (.int 0)) aJ)))))) (aK 13) (sSeq (bJ [] (bQ 3 nL (aE (aD 13) (aE (aD 1) (aE (aD 3) aJ)))) (aK 14))
 (sSeq (bJ [] (cU hV (aE (aD 14) aJ)) (aK 15))
 (sSeq (bJ [] (bQ 3 tF (aE (aD 5) (aE (aD 6) (aE (aD 15) aJ)))) (aK 16))
 (sSeq (bJ [] (qY (aG fV (cU eP (aE (aD 14) aJ)) (aD 12)) (bQ 2 iI (aE (aD 14) (aE (aD 7) aJ)))) (aK 17))
 (sSeq (dP (dOr (lE (lC (cU mX (aE (aD 16) (aE (dC (.ty "bool")) aJ))))) (dOr (bS (aG xW (aD 16) (aD 17))) (bS (aG xW (aD 15) (aD 14))))) (bT [] (dC (.bl false))) cP)
 (dP (bS (aG xW (bQ 3 tF (aE (aD 5) (aE (aD 10) (aE (aD 15) aJ)))) (qY (aG fV (cU eP (aE (aD 14) aJ)) (aD 12)) (bQ 2 iI (aE (aD 14) (aE (aD 11) aJ)))))) (bT [] (dC (.bl false))) cP)))))))
 (bT [] (aG fV (eO [18] (iL jV (aD 6)) (aK 18) dG (iA 1 "shown" tm_shown (aD 18) aJ)) (aD 8))))))))))))))))
def av8 : List T → Res T := fun ts => cE (ay8 (cZ 19 ts))
abbrev wT : Stmt := eF 66
abbrev vT : Stmt := eF 68
abbrev vS : Stmt := eF 67
abbrev vB : Stmt := eF 69
abbrev zO : Stmt := eF 72
abbrev tX : Stmt := eF 73
abbrev wL : Stmt := eF 74
abbrev uD : Stmt := eF 70
abbrev tZ : Stmt := eF 71
abbrev rW : Stmt := eF 75
abbrev wW : Stmt := eF 12
abbrev pA : Stmt := eF 13
abbrev vD : Stmt := eF 35
abbrev uC : Stmt := eF 14
abbrev zU : Stmt := eF 15
abbrev vF : Stmt := eF 36
abbrev xF : Stmt := eF 25
abbrev xS : Stmt := eF 37
abbrev xM : Stmt := eF 27
abbrev uH : Stmt := eF 38
abbrev iK : Stmt := sV (eF 39) 0
abbrev rV : Stmt := eF 77
abbrev ad1 : Stmt := eF 53
abbrev yK : Stmt := eF 54
abbrev gZ : Stmt := sV (eF 39) 1
abbrev yW : Stmt := eF 26
abbrev cL : Stmt := sV (eF 43) 0
abbrev tY : Stmt := eF 55
abbrev qD : Stmt := eF 52
abbrev uF : Stmt := eF 28
abbrev pY : Stmt := eF 56
abbrev qH : Stmt := eF 57
abbrev nX : Stmt := eF 58
abbrev qF : Stmt := eF 59
abbrev rY : Stmt := eF 60
abbrev pE : Stmt := eF 61
abbrev qK : Stmt := eF 62
abbrev vM : Stmt := eF 64
abbrev xD : Stmt := eF 78
abbrev vG : Stmt := eF 76
abbrev bZ : Stmt := sV (eF 43) 3
abbrev vE : Stmt := eF 80
abbrev cD : Stmt := sV (eF 43) 1
abbrev bW : Stmt := sV (eF 43) 2
abbrev qB : Stmt := eF 6
abbrev uA : Stmt := eF 7
abbrev xO : Stmt := eF 8
abbrev wP : Stmt := eF 17
abbrev zH : Stmt := eF 18
abbrev at5 : Stmt := eF 19
abbrev vQ : Stmt := eF 79
abbrev sM : Stmt := eF 81
end
structure Txt (w : World) (K : PySem.W.Frag) (cn : Str → Option Addr) (mg : Str → Option Value) (c_Archive c_Ink c_Reign c_Under c_Between c_After c_Same c_Within c_Apart : Addr) (oO tG : List (Str × Value)) : Prop where
 br6 : mg "abs" = none
 sU : mg "all" = none
 bp9 : mg "bool" = none
 cs3 : mg "divmod" = none
 bq2 : mg "enumerate" = none
 dp6 : mg "int" = none
 uM : mg "isinstance" = none
 eE : mg "len" = none
 kQ : mg "list" = none
 ad4 : mg "max" = none
 xU : mg "min" = none
 jU : mg "range" = none
 dq6 : mg "set" = none
 do6 : mg "str" = none
 cy4 : mg "zip" = none
 g_DARKEST : wD mg "DARKEST" (.int 1000000)
 g_FARTHEST_END : wD mg "FARTHEST_END" (.int 3000)
 g_FARTHEST_YEAR : wD mg "FARTHEST_YEAR" (.int 4000)
 g_LETTERS : wD mg "LETTERS" (.str "abcdefghijklmnopqrstuvwxyz")
 g_LONGEST_REIGN : wD mg "LONGEST_REIGN" (.int 100)
 g_LONGEST_SPAN : wD mg "LONGEST_SPAN" (.int 300)
 g_MOST_AGES : wD mg "MOST_AGES" (.int 60)
 g_MOST_INKS : wD mg "MOST_INKS" (.int 6)
 g_MOST_LETTERS_archives : wD mg "MOST_LETTERS_archives" (.int 8)
 g_MOST_LETTERS_words : wD mg "MOST_LETTERS_words" (.int 8)
 g_MOST_REIGNS : wD mg "MOST_REIGNS" (.int 8)
 d_NUMBERS : xJ w K mg "NUMBERS" oO
 g_NUMBERS : GD K cn kt_NUMBERS oO
 d_PARTS : xJ w K mg "PARTS" tG
 g_PARTS : GD K cn kt_PARTS tG
 kM : cn "Archive" = some c_Archive
 mY : Cls K c_Archive
 rN : cn "Ink" = some c_Ink
 uL : Cls K c_Ink
 mB : cn "Reign" = some c_Reign
 nZ : Cls K c_Reign
 mE : cn "Under" = some c_Under
 oA : Cls K c_Under
 jG : cn "Between" = some c_Between
 kN : Cls K c_Between
 mD : cn "After" = some c_After
 oB : Cls K c_After
 oP : cn "Same" = some c_Same
 qL : Cls K c_Same
 kB : cn "Within" = some c_Within
 mC : Cls K c_Within
 lZ : cn "Apart" = some c_Apart
 nY : Cls K c_Apart
 az1 : NoAttr K c_Archive "first"
 bs2 : NoAttr K c_Ink "high"
 al8 : NoAttr K c_Reign "high"
 au8 : NoAttr K c_Under "high"
 av3 : NoAttr K c_Between "high"
 ar8 : NoAttr K c_After "high"
 bb2 : NoAttr K c_Same "high"
 am6 : NoAttr K c_Within "high"
 aj8 : NoAttr K c_Apart "high"
 at3 : NoAttr K c_Archive "inks"
 zW : NoAttr K c_Archive "letters"
 bn6 : NoAttr K c_Ink "low"
 bw1 : NoAttr K c_Reign "low"
 ba2 : NoAttr K c_Under "low"
 ah6 : NoAttr K c_Between "low"
 bd2 : NoAttr K c_After "low"
 bt2 : NoAttr K c_Same "low"
 an8 : NoAttr K c_Within "low"
 bq1 : NoAttr K c_Apart "low"
 zV : NoAttr K c_Archive "present"
 am0 : NoAttr K c_Archive "reigns"
 ae8 : NoAttr K c_Ink "spoken"
 aa4 : NoAttr K c_Reign "spoken"
 ac4 : NoAttr K c_Under "spoken"
 ao0 : NoAttr K c_Between "spoken"
 aq3 : NoAttr K c_After "spoken"
 ap6 : NoAttr K c_Same "spoken"
 aw1 : NoAttr K c_Within "spoken"
 ab4 : NoAttr K c_Apart "spoken"
 ba3 : NoAttr K c_Ink "text"
 ao8 : NoAttr K c_Reign "text"
 ap8 : NoAttr K c_Under "text"
 az3 : NoAttr K c_Between "text"
 as8 : NoAttr K c_After "text"
 bf2 : NoAttr K c_Same "text"
 ae6 : NoAttr K c_Within "text"
 ah8 : NoAttr K c_Apart "text"
section
local macro_rules | `(tactic| walk_at "s") => `(tactic| exact ⟨rfl, rfl, rfl, by decide +kernel, rfl, by decide +kernel, by decide +kernel⟩)
theorem bh2 : bH ["_law_script", "_law_at"] ["_law_script", "_law_at"] (aO wT) := by walk_at "s"
theorem sc_law_names : bH ["_law_cell_here", "_law_some"] ["_law_cell_here"] (aO vT) := by walk_at "s"
theorem sc_law_whirl : bH ["_law_number", "_law_k", "_law_upper", "_law_lower", "_law_found"] ["_law_number", "_law_k"] (aO vS) := by walk_at "s"
theorem sc_law_frame : bH ["_law_script", "_law_most", "_law_cell_here", "_law_span", "_law_first", "_law_names_here", "_law_inks", "_law_k", "_law_dark", "_law_table", "_law_j", "_law_begin", "_law_reigns"] ["_law_script", "_law_most"] (aO vB) := by walk_at "s"
theorem sc_law_row : bH ["_law_cell_here", "_law_many", "_law_rest", "_law_found", "_law_k"] ["_law_cell_here", "_law_many"] (aO zO) := by walk_at "s"
theorem sc_law_hidden : bH ["_law_cell_here", "_law_frame_here", "_law_x"] ["_law_cell_here", "_law_frame_here"] (aO tX) := by walk_at "s"
theorem sc_law_free : bH ["_law_xs", "_law_frame_here", "_law_one", "_law_other", "_law_names_here", "_law_low", "_law_high"] ["_law_xs", "_law_frame_here", "_law_one", "_law_other"] (aO wL) := by walk_at "s"
theorem sc_law_of_one : bH ["_law_number", "_law_frame_here", "_law_letter", "_law_year", "_law_name", "_law_rest", "_law_ink", "_law_table", "_law_error", "_law_dark", "_law_ages", "_law_age", "_law_at", "_law_reign", "_law_begin", "_law_length", "_law_low", "_law_high"] ["_law_number", "_law_frame_here", "_law_letter", "_law_year"] (aO uD) := by walk_at "s"
theorem sc_law_of_two : bH ["_law_number", "_law_frame_here", "_law_letters", "_law_gap", "_law_names_here", "_law_rest", "_law_many", "_law_low", "_law_high", "_law_letter"] ["_law_number", "_law_frame_here", "_law_letters", "_law_gap"] (aO tZ) := by walk_at "s"
theorem sc_law_sayings : bH ["_law_cells", "_law_frame_here", "_law_false", "_law_hidden_here", "_law_many", "_law_span", "_law_told", "_law_cell_here", "_law_xs", "_law_one", "_law_years_here", "_law_other", "_law_k"] ["_law_cells", "_law_frame_here", "_law_false", "_law_hidden_here"] (aO rW) := by walk_at "s"
theorem bo2 : bH ["some"] ["some"] (aO wW) := by walk_at "s"
theorem ac1 : bH ["some", "low", "high"] ["some", "low", "high"] (aO pA) := by walk_at "s"
theorem bb0 : bH ["first", "present"] ["first", "present"] (aO vD) := by walk_at "s"
theorem sc_is_made_of : bH ["word", "signs", "most", "sign"] ["word", "signs", "most"] (aO uC) := by walk_at "s"
theorem bl4 : bH ["word"] ["word"] (aO zU) := by walk_at "s"
theorem sc_are_names : bH ["names", "least", "most", "name"] ["names", "least", "most"] (aO vF) := by walk_at "s"
theorem sc_is_table : bH ["some", "dark", "age"] ["some"] (aO xF) := by walk_at "s"
theorem sc_are_inks : bH ["inks", "name", "table"] ["inks"] (aO xS) := by walk_at "s"
theorem bj2 : bH ["begin", "length"] ["begin", "length"] (aO xM) := by walk_at "s"
theorem sc_are_reigns : bH ["reigns", "name", "begin", "length"] ["reigns"] (aO uH) := by walk_at "s"
theorem sc_Archive_init : bH ["self", "first", "present", "letters", "inks", "reigns", "name", "table"] ["self", "first", "present", "letters", "inks", "reigns"] (aO iK) := by walk_at "s"
theorem sc_law_archive : bH ["_law_frame_here", "_law_inks", "_law_name", "_law_table"] ["_law_frame_here"] (aO rV) := by walk_at "s"
theorem sc_is_due : bH ["archive", "due", "part", "ink", "reign"] ["archive", "due", "part"] (aO ad1) := by walk_at "s"
theorem sc_are_due : bH ["archive", "word", "parts", "due", "part"] ["archive", "word", "parts"] (aO yK) := by walk_at "s"
theorem sc_Archive_table : bH ["self", "name", "other", "table"] ["self", "name"] (aO gZ) := by walk_at "s"
theorem sc_ages_of : bH ["table", "dark", "error", "greatest", "last", "ages", "most", "age"] ["table", "dark", "error", "greatest"] (aO yW) := by walk_at "s"
theorem sc_Saying_init : bH ["self", "archive", "word", "parts", "low", "high", "names", "part", "due", "name"] ["self", "archive", "word", "parts", "low", "high"] (aO cL) := by walk_at "s"
theorem sc_ink_saying : bH ["archive", "parts", "ages"] ["archive", "parts"] (aO tY) := by walk_at "s"
theorem sc_reign_called : bH ["archive", "name", "reign"] ["archive", "name"] (aO qD) := by walk_at "s"
theorem aq7 : bH ["begin", "length", "k"] ["begin", "length", "k"] (aO uF) := by walk_at "s"
theorem sc_reign_saying : bH ["archive", "parts", "reign", "year"] ["archive", "parts"] (aO pY) := by walk_at "s"
theorem sc_under_saying : bH ["archive", "parts", "reign"] ["archive", "parts"] (aO qH) := by walk_at "s"
theorem al0 : bH ["archive", "parts"] ["archive", "parts"] (aO nX) := by walk_at "s"
theorem am2 : bH ["archive", "parts"] ["archive", "parts"] (aO qF) := by walk_at "s"
theorem aa5 : bH ["archive", "parts"] ["archive", "parts"] (aO rY) := by walk_at "s"
theorem ak1 : bH ["archive", "parts"] ["archive", "parts"] (aO pE) := by walk_at "s"
theorem al3 : bH ["archive", "parts"] ["archive", "parts"] (aO qK) := by walk_at "s"
theorem ba1 : bH ["archive", "word", "parts"] ["archive", "word", "parts"] (aO vM) := by walk_at "s"
theorem sc_law_heap : bH ["_law_archive_here", "_law_told", "_law_word", "_law_parts", "_law_letters", "_law_bounds"] ["_law_archive_here", "_law_told"] (aO xD) := by walk_at "s"
theorem sc_law_steps : bH ["_law_frame_here", "_law_told", "_law_found", "_law_k", "_law_letters", "_law_low", "_law_high", "_law_other", "_law_letter"] ["_law_frame_here", "_law_told"] (aO vG) := by walk_at "s"
theorem fG : bH ["self"] ["self"] (aO bZ) := by walk_at "s"
theorem sc_law_years : bH ["_law_cell_here", "_law_frame_here", "_law_hidden_here", "_law_years_here", "_law_at", "_law_low", "_law_wide"] ["_law_cell_here", "_law_frame_here", "_law_hidden_here"] (aO vE) := by walk_at "s"
theorem fL : bH ["self"] ["self"] (aO cD) := by walk_at "s"
theorem eQ : bH ["self"] ["self"] (aO bW) := by walk_at "s"
theorem sc_saying_steps : bH ["saying", "number", "letters", "bounds", "other", "steps"] ["saying", "number"] (aO qB) := by walk_at "s"
theorem az7 : bH ["archive", "letter"] ["archive", "letter"] (aO uA) := by walk_at "s"
theorem sc_steps_of : bH ["archive", "sayings", "steps", "number", "saying", "letter"] ["archive", "sayings"] (aO xO) := by walk_at "s"
theorem bm2 : bH ["end", "ground"] ["end", "ground"] (aO wP) := by walk_at "s"
theorem sc_is_kept : bH ["step", "years", "ground"] ["step", "years"] (aO zH) := by walk_at "s"
theorem sc_holds : bH ["archive", "sayings", "years", "grounded", "year", "step"] ["archive", "sayings", "years"] (aO at5) := by walk_at "s"
theorem sc_law_holds : bH ["_law_years_here", "_law_steps_here", "_law_start", "_law_end", "_law_cost", "_law_number", "_law_here", "_law_there"] ["_law_years_here", "_law_steps_here"] (aO vQ) := by walk_at "s"
theorem sc_law : bH ["_law_script", "_law_frame_here", "_law_cells", "_law_hidden_here", "_law_told", "_law_archive_here", "_law_sayings_here", "_law_steps_here", "_law_shown", "_law_at", "_law_fewer", "_law_less", "_law_many", "_law_cell_here", "_law_years_here", "_law_handed", "_law_found", "_law_due", "_law_saying"] ["_law_script"] (aO sM) := by walk_at "s"
variable {P : Program} {w : World} {K : PySem.W.Frag} {cn : Str → Option Addr} {mg : Str → Option Value} {base : Heap} {c_Archive c_Ink c_Reign c_Under c_Between c_After c_Same c_Within c_Apart : Addr} {oO tG : List (Str × Value)} (T : Txt w K cn mg c_Archive c_Ink c_Reign c_Under c_Between c_After c_Same c_Within c_Apart oO tG)
include T
theorem cb0 : jA K cn ["Archive"] "first" := bI T.kM T.mY T.az1 (iH)
theorem cd7 : jA K cn ["Ink", "Reign", "Under", "Between", "After", "Same", "Within", "Apart"] "high" := bI T.rN T.uL T.bs2 (bI T.mB T.nZ T.al8 (bI T.mE T.oA T.au8 (bI T.jG T.kN T.av3 (bI T.mD T.oB T.ar8 (bI T.oP T.qL T.bb2 (bI T.kB T.mC T.am6 (bI T.lZ T.nY T.aj8 (iH))))))))
theorem cb5 : jA K cn ["Archive"] "inks" := bI T.kM T.mY T.at3 (iH)
theorem bp4 : jA K cn ["Archive"] "letters" := bI T.kM T.mY T.zW (iH)
theorem dc1 : jA K cn ["Ink", "Reign", "Under", "Between", "After", "Same", "Within", "Apart"] "low" := bI T.rN T.uL T.bn6 (bI T.mB T.nZ T.bw1 (bI T.mE T.oA T.ba2 (bI T.jG T.kN T.ah6 (bI T.mD T.oB T.bd2 (bI T.oP T.qL T.bt2 (bI T.kB T.mC T.an8 (bI T.lZ T.nY T.bq1 (iH))))))))
theorem bs5 : jA K cn ["Archive"] "present" := bI T.kM T.mY T.zV (iH)
theorem bq8 : jA K cn ["Archive"] "reigns" := bI T.kM T.mY T.am0 (iH)
theorem bl8 : jA K cn ["Ink", "Reign", "Under", "Between", "After", "Same", "Within", "Apart"] "spoken" := bI T.rN T.uL T.ae8 (bI T.mB T.nZ T.aa4 (bI T.mE T.oA T.ac4 (bI T.jG T.kN T.ao0 (bI T.mD T.oB T.aq3 (bI T.oP T.qL T.ap6 (bI T.kB T.mC T.aw1 (bI T.lZ T.nY T.ab4 (iH))))))))
theorem cz5 : jA K cn ["Ink", "Reign", "Under", "Between", "After", "Same", "Within", "Apart"] "text" := bI T.rN T.uL T.ba3 (bI T.mB T.nZ T.ao8 (bI T.mE T.oA T.ap8 (bI T.jG T.kN T.az3 (bI T.mD T.oB T.as8 (bI T.oP T.qL T.bf2 (bI T.kB T.mC T.ae6 (bI T.lZ T.nY T.ah8 (iH))))))))
theorem cw1 : yY K cn 2 tm_table [(c_Archive, aQ K cn 2 fJ)] := cW T.kM (xN)
theorem cg1 : yY K cn 1 tm_about [(c_Ink, aQ K cn 1 aX), (c_Reign, aQ K cn 1 aX), (c_Under, aQ K cn 1 aX), (c_Between, aQ K cn 1 aX), (c_After, aQ K cn 1 aX), (c_Same, aQ K cn 1 aX), (c_Within, aQ K cn 1 aX), (c_Apart, aQ K cn 1 aX)] := cW T.rN (cW T.mB (cW T.mE (cW T.jG (cW T.mD (cW T.oP (cW T.kB (cW T.lZ (xN))))))))
theorem ba8 : yY K cn 1 tm_bounds [(c_Ink, aQ K cn 1 aR), (c_Reign, aQ K cn 1 aR), (c_Under, aQ K cn 1 aR), (c_Between, aQ K cn 1 aR), (c_After, aQ K cn 1 aR), (c_Same, aQ K cn 1 aR), (c_Within, aQ K cn 1 aR), (c_Apart, aQ K cn 1 aR)] := cW T.rN (cW T.mB (cW T.mE (cW T.jG (cW T.mD (cW T.oP (cW T.kB (cW T.lZ (xN))))))))
theorem cy1 : yY K cn 1 tm_shown [(c_Ink, aQ K cn 1 aW), (c_Reign, aQ K cn 1 aW), (c_Under, aQ K cn 1 aW), (c_Between, aQ K cn 1 aW), (c_After, aQ K cn 1 aW), (c_Same, aQ K cn 1 aW), (c_Within, aQ K cn 1 aW), (c_Apart, aQ K cn 1 aW)] := cW T.rN (cW T.mB (cW T.mE (cW T.jG (cW T.mD (cW T.oP (cW T.kB (cW T.lZ (xN))))))))
local macro_rules | `(tactic| walk_at "b") => `(tactic| first | exact .inl rfl | exact .inr rfl)
local macro_rules | `(tactic| walk_at "rr") => `(tactic| first | exact dj5 | exact dg3 | exact dz5 | exact co9 | exact da7 | exact dj7 | exact dx5 | exact du7 | exact dx4 | exact cr6 | exact dv6 | exact dm3 | exact de7 | exact dp7 | exact dk7 | exact da2)
local macro_rules | `(tactic| walk_at "rc") => `(tactic| first | exact dl5 | exact ck9 | exact dr5 | exact dh4 | exact dk6 | exact cw8 | exact dq4 | exact ch2 | exact cm3 | exact dv0)
local macro_rules | `(tactic| walk_at "rf") => `(tactic| first | exact cb0 ‹_› | exact cd7 ‹_› | exact cb5 ‹_› | exact bp4 ‹_› | exact dc1 ‹_› | exact bs5 ‹_› | exact bq8 ‹_› | exact bl8 ‹_› | exact cz5 ‹_›)
local macro_rules | `(tactic| walk_at "r") => `(tactic| with_reducible first
 | exact dk2 _
 | exact dv1
 | exact co6
 | (refine ds5 ?_ ?_ <;> walk_at "r")
 | (refine dn1 ?_ ?_; walk_at "rf"; walk_at "r")
 | (refine RE.rb (mv := []) ?_; walk_at "r")
 | (refine cy0 ?_ ?_ <;> walk_at "r")
 | (refine do5 ?_ ?_ ?_; walk_at "rr"; walk_at "r"; walk_at "r")
 | (apply dl3; walk_at "r"; walk_at "r"; with_unfolding_all exact rfl; with_unfolding_all exact rfl)
 | exact dh0
 | exact cd8
 | (refine RB.chk ?_; walk_at "r")
 | (refine dd0 ?_ ?_ <;> walk_at "r")
 | (refine ba5 ?_ ?_ ?_ ?_ ?_ ?_; walk_at "r"; walk_at "r"; walk_at "r"; walk_at "r"; with_unfolding_all exact rfl; with_unfolding_all exact rfl)
 | (apply bx6 <;> walk_at "r")
 | (refine be3 _ ?_; with_unfolding_all exact rfl)
 | (refine dj1 ?_; walk_at "r")
 | (refine db4 ?_ ?_; walk_at "rc"; walk_at "r")
 | (refine de1 ?_; walk_at "r")
 | (refine df4 ?_ ?_ ?_ <;> walk_at "r")
 | exact cf5
 | exact cl7
 | exact dg0
 | exact dv2
 | exact da5
 | exact dn3
 | (refine bt3 ?_; walk_at "r")
 | (refine cy9 ?_; walk_at "r")
 | (refine do1 ?_; walk_at "r")
 | (refine cg9 ?_ ?_ <;> walk_at "r")
 | (refine di5 ?_ ?_ <;> walk_at "r")
 | (apply dp1; walk_at "r")
 | (apply ch8; walk_at "r")
 | exact do4 _
 | (apply dw1; walk_at "r")
 | exact ch5
 | (apply dm0; walk_at "r"; walk_at "r"; with_unfolding_all exact rfl)
 | (apply de0 <;> walk_at "r")
 | (refine cp6 ?_; walk_at "r")
 | (refine dh7 ?_; walk_at "r")
 | (refine dt7 ?_; walk_at "r")
 | (refine ci6 ?_; walk_at "r")
 | (refine cq6 ?_; walk_at "r")
 | (refine ck8 ?_; walk_at "r")
 | exact dr2 _
 | (refine dt1 ?_ ?_ ?_; walk_at "r"; walk_at "r"; with_unfolding_all exact rfl)
 | (refine cw9 ?_ ?_ ?_ ?_; (first | exact dt3 | exact dq5 | exact dg5); walk_at "r"; walk_at "r"; with_unfolding_all exact rfl)
 | (refine dz2 ?_ ?_ ?_; walk_at "rf"; walk_at "r"; walk_at "r")
 | (refine dy0 ?_ ?_ ?_ <;> walk_at "r")
 | (refine by3 ?_ ?_ ?_ ?_ ?_; walk_at "r"; walk_at "r"; walk_at "r"; walk_at "r"; with_unfolding_all exact rfl)
 | (refine da4 df7 ?_ ?_ ?_ <;> walk_at "r")
 | exact cr7
 | (refine cf6 ?_; walk_at "r")
 | (refine ds4 dk5 ?_; walk_at "r")
 | (refine cf1 ?_ ?_ ?_ ?_ ?_; walk_at "rr"; walk_at "rr"; walk_at "r"; walk_at "r"; walk_at "r")
 | (refine ch6 ?_ ?_ <;> walk_at "r")
 | (refine cv6 ?_; walk_at "r")
 | (refine di4 ?_ ?_ ?_ <;> walk_at "r")
 | (refine RE.frz ?_; walk_at "r")
 | (refine RE.frz1 ?_; walk_at "r")
 | (refine cn2 ?_ ?_ ?_; (first | exact cg1 ‹_› | exact ba8 ‹_› | exact cy1 ‹_› | exact cw1 ‹_›); walk_at "r"; walk_at "r")
 | (refine cl6 ?_ ?_; (first | exact Txt.mD ‹_› | exact Txt.lZ ‹_› | exact Txt.kM ‹_› | exact Txt.jG ‹_› | exact Txt.rN ‹_› | exact Txt.mB ‹_› | exact Txt.oP ‹_› | exact Txt.mE ‹_› | exact Txt.kB ‹_›); walk_at "r")
 | (refine cc5 ?_ ?_; (first | exact Txt.g_NUMBERS ‹_› | exact Txt.g_PARTS ‹_›); walk_at "r")
 | (refine cn6 ?_ ?_; (first | exact Txt.g_NUMBERS ‹_› | exact Txt.g_PARTS ‹_›); walk_at "r")
 | (refine cc4 bn8 co5 ?_ ?_ <;> walk_at "r")
 | (refine cc4 bd8 dr1 ?_ ?_ <;> walk_at "r")
 | (with_unfolding_all refine bt3 ?_; walk_at "r")
 | (refine cq2 ?_ ?_ <;> walk_at "r"))
theorem kH (F : cI K mg "_law_cell" wT)  : bY P w K mg base 1 "_law_cell" ["_law_script", "_law_at"] (aQ K cn 2 gG) := by
 refine bO (d := sI) F bh2 (fun _ _ _ _ _ _ us hl => match us, hl with | [_, _], _ => rfl) (fun f cdv A outer s H E hr => ⟨_, (aI (cQ (bM zZ (pv 1) (bB (cH K) rfl T.eE dO (aB (pv 0) aH)) (bP _)) (aM (bD (aP (aU K) (pv 0) (pv 1) (fun _ _ => rfl)))) bU)
 (aM (bD aF))), by unfold sI; walk_at "r"⟩) rfl (fun _ => rfl)
theorem vK (F : cI K mg "_law_names" vT)  : bY P w K mg base 1 "_law_names" ["_law_cell_here"] (aQ K cn 1 nF) := by
 refine bO (d := qR) F sc_law_names (fun _ _ _ _ _ _ us hl => match us, hl with | [_], _ => rfl) (fun f cdv A outer s H E hr => ⟨_, (aI (aY (i := 1) sc_law_names.nd rfl (by walk_at "b") (dL (aB cF (aB cF (aB cF (aB cF (aB cF (aB cF (aB cF (aB cF aH))))))))))
 (aM (bD (aL (bF K) (iC (rQ K) (pv 1) (hU (aL bL (pv 0) aF)) kY) (iC (rQ K) (pv 1) kY (hU (aL bL (pv 0) aF))))))), by unfold qR; walk_at "r"⟩) rfl (fun _ => rfl)
theorem dY (F : cI K mg "_law_whirl" vS)  : bY P w K mg base 1 "_law_whirl" ["_law_number", "_law_k"] (aQ K cn 2 dN) := by
 refine bO (d := rB) F sc_law_whirl (fun _ _ _ _ _ _ us hl => match us, hl with | [_, _], _ => rfl) (fun f cdv A outer s H E hr => ⟨_, (aI (aY (i := 0) sc_law_whirl.nd rfl (by walk_at "b") (aL (bF K) (aL (bF K) (aL bL (pv 0) aF) (aL kX aF (pv 1))) aF))
 (aI (yG (bB (ai9 K) rfl T.cs3 by8 (aB (aL bL (aL kX (pv 0) aF) aF) (aB aF aH))) (gK K 2 rfl (bV (bC (i := 2) sc_law_whirl.nd rfl (by walk_at "b")) (bV (bC (i := 3) sc_law_whirl.nd rfl (by walk_at "b")) gL))))
 (aI (aY (i := 4) sc_law_whirl.nd rfl (by walk_at "b") (aL (bF K) (aL (bF K) (aL (bF K) (aL kX (pv 2) (pv 3)) (aL kX aF (pv 2))) (aL kX aF (pv 3))) (pv 1)))
 (aM (bD (aL bL (aL kX (pv 4) (aL (bF K) (aL bL (pv 4) aF) aF)) aF)))))), by unfold rB; walk_at "r"⟩) rfl (fun _ => rfl)
theorem uZ (F : cI K mg "_law_frame" vB) (kH : bY P w K mg base 1 "_law_cell" ["_law_script", "_law_at"] (aQ K cn 2 gG)) (vK : bY P w K mg base 1 "_law_names" ["_law_cell_here"] (aQ K cn 1 nF)) (dY : bY P w K mg base 1 "_law_whirl" ["_law_number", "_law_k"] (aQ K cn 2 dN)) : bY P w K mg base 2 "_law_frame" ["_law_script", "_law_most"] (aQ K cn 2 nJ) := by
 refine bO (d := qV) F sc_law_frame (fun _ _ _ _ _ _ us hl => match us, hl with | [_, _], _ => rfl) (fun f cdv A outer s H E hr => ⟨_, (aI (aY (i := 2) sc_law_frame.nd rfl (by walk_at "b") (aL bL (bK kH (hr.mono (by decide)) (aB (pv 0) (aB aF aH))) (aL av2 aF aF)))
 (aI (aY (i := 3) sc_law_frame.nd rfl (by walk_at "b") (aP (aU K) (dL (aB aF (aB aF (aB aF (aB aF (aB aF (aB aF (aB aF (aB aF aH))))))))) (aL bL (pv 2) aF) (fun _ _ => rfl)))
 (aI (aY (i := 4) sc_law_frame.nd rfl (by walk_at "b") (aP (aU K) (dL (aB (uW rG aF) (aB (aL cT aF (pv 3)) (aB (uW rG aF) (aB aF aH))))) (aL bL (aL eJ (pv 2) aF) aF) (fun _ _ => rfl)))
 (aI (aY (i := 5) sc_law_frame.nd rfl (by walk_at "b") (iC (rQ K) (bK vK (hr.mono (by decide)) (aB (aL eJ (pv 2) aF) aH)) kY (hU (aL (bF K) aF (aL bL (aL eJ (pv 2) aF) (pv 1))))))
 (aI (aY (i := 6) sc_law_frame.nd rfl (by walk_at "b") (dL aH))
 (aI (iM PassesOwn.never rfl (iJ rfl T.jU (aB (aL (bF K) aF (aL bL (bK dY (hr.mono (by decide)) (aB (pv 2) (aB aF aH))) aF)) aH)) (bC (i := 7) sc_law_frame.nd rfl (by walk_at "b")) (aI (aY (i := 8) sc_law_frame.nd rfl (by walk_at "b") (aL (bF K) aF (aL bL (aL eJ (pv 2) aF) aF)))
 (aI (aY (i := 9) sc_law_frame.nd rfl (by walk_at "b") (dL (aB (pv 8) aH)))
 (aI (iM PassesOwn.never rfl (iJ rfl T.jU (aB (aL bL (bK dY (hr.mono (by decide)) (aB (pv 2) (aB (pv 7) aH))) (aP (aU K) (dL (aB aF (aB aF aH))) (aL eJ (aL bL (aL eJ (pv 2) aF) aF) aF) (fun _ _ => rfl))) aH)) (bC (i := 10) sc_law_frame.nd rfl (by walk_at "b")) (aI (aY (i := 8) sc_law_frame.nd rfl (by walk_at "b") (bB (rM K) rfl T.ad4 yA (aB aF (aB (aL cT (pv 8) (aL bL (bK dY (hr.mono (by decide)) (aB (pv 2) (aB (aL (bF K) (aL kX aF (pv 10)) (pv 7)) aH))) aF)) aH))))
 (aM (fM (fU K PySem.F.plainAttrs_list PySem.F.slot_list_append PySem.F.type_list_append fK (pv 9) (aB (pv 8) aH))))))
 (aM (fM (fU K PySem.F.plainAttrs_list PySem.F.slot_list_append PySem.F.type_list_append fK (pv 6) (aB (cJ (aB (aP (aU K) (dL (aB cF (aB cF (aB cF (aB cF (aB cF (aB cF aH))))))) (pv 7) (fun _ _ => rfl)) (aB (pv 9) aH))) aH))))))))
 (aI (aY (i := 11) sc_law_frame.nd rfl (by walk_at "b") (aL (bF K) (aL cT (pv 4) aF) (aL bL (bK dY (hr.mono (by decide)) (aB (pv 2) (aB aF aH))) (aL (bF K) (pv 3) aF))))
 (aI (aY (i := 12) sc_law_frame.nd rfl (by walk_at "b") (dL (aB (cJ (aB cF (aB (pv 11) (aB (aL (bF K) aF (aL bL (bK dY (hr.mono (by decide)) (aB (pv 2) (aB aF aH))) aF)) aH)))) (aB (cJ (aB cF (aB (aL (bF K) (pv 11) aF) (aB (aL (bF K) aF (aL bL (bK dY (hr.mono (by decide)) (aB (pv 2) (aB aF aH))) aF)) aH)))) aH))))
 (aI (iM PassesOwn.never rfl (iJ rfl T.jU (aB (aL bL (bK dY (hr.mono (by decide)) (aB (pv 2) (aB aF aH))) aF) aH)) (bC (i := 7) sc_law_frame.nd rfl (by walk_at "b")) (aI (aY (i := 11) sc_law_frame.nd rfl (by walk_at "b") (aL cT (aL (bF K) (pv 11) (aL bL (bK dY (hr.mono (by decide)) (aB (pv 2) (aB (aL (bF K) aF (pv 7)) aH))) aF)) aF))
 (aM (fM (fU K PySem.F.plainAttrs_list PySem.F.slot_list_insert PySem.F.type_list_insert bf7 (pv 12) (aB aF (aB (cJ (aB (aP (aU K) (dL (aB cF (aB cF (aB cF (aB cF (aB cF (aB cF aH))))))) (pv 7) (fun _ _ => rfl)) (aB (pv 11) (aB (aL (bF K) aF (aL bL (bK dY (hr.mono (by decide)) (aB (pv 2) (aB (aL (bF K) aF (pv 7)) aH))) aF)) aH)))) aH)))))))
 (aM (bD (cJ (aB (pv 4) (aB (aL (bF K) (pv 4) (pv 3)) (aB (pv 5) (aB (pv 6) (aB (pv 12) aH))))))))))))))))), by unfold qV; walk_at "r"⟩) rfl (fun _ => rfl)
theorem rD (F : cI K mg "_law_row" zO) (dY : bY P w K mg base 1 "_law_whirl" ["_law_number", "_law_k"] (aQ K cn 2 dN)) : bY P w K mg base 2 "_law_row" ["_law_cell_here", "_law_many"] (aQ K cn 2 kA) := by
 refine bO (d := uT) F sc_law_row (fun _ _ _ _ _ _ us hl => match us, hl with | [_, _], _ => rfl) (fun f cdv A outer s H E hr => ⟨_, (aI (aY (i := 2) sc_law_row.nd rfl (by walk_at "b") (aL bL (bB (yJ K) rfl T.br6 aj9 (aB (pv 0) aH)) (aL av2 aF aF)))
 (aI (aY (i := 3) sc_law_row.nd rfl (by walk_at "b") (dL aH))
 (aI (iM PassesOwn.never rfl (iJ rfl T.jU (aB (pv 1) aH)) (bC (i := 4) sc_law_row.nd rfl (by walk_at "b")) (aM (cQ (PW.pt (wO (bM zZ (pv 0) aF (bP _)) (wA (bM cg4 (pv 0) (aL av2 aF aF) (bP _))))) (aI (fM (fU K PySem.F.plainAttrs_list PySem.F.slot_list_append PySem.F.type_list_append fK (pv 3) (aB (aL bL (pv 2) aF) aH)))
 (aM (aY (i := 2) sc_law_row.nd rfl (by walk_at "b") (aL eJ (pv 2) aF)))) (aM (fM (fU K PySem.F.plainAttrs_list PySem.F.slot_list_append PySem.F.type_list_append fK (pv 3) (aB (bK dY (hr.mono (by decide)) (aB (aL (bF K) (bK dY (hr.mono (by decide)) (aB (pv 0) (aB (pv 4) aH))) (pv 0)) (aB (pv 4) aH))) aH)))))))
 (aM (bD (pv 3)))))), by unfold uT; walk_at "r"⟩) rfl (fun _ => rfl)
theorem tO (F : cI K mg "_law_hidden" tX) (rD : bY P w K mg base 2 "_law_row" ["_law_cell_here", "_law_many"] (aQ K cn 2 kA)) : bY P w K mg base 3 "_law_hidden" ["_law_cell_here", "_law_frame_here"] (aQ K cn 2 lL) := by
 refine bO (d := pG) F sc_law_hidden (fun _ _ _ _ _ _ us hl => match us, hl with | [_, _], _ => rfl) (fun f cdv A outer s H E hr => ⟨_, (aM (bD (eV (ks := [2]) ⟨rfl, by decide +kernel, by decide +kernel, by rfl, by rfl⟩ rfl (gX K (bK rD (hr.mono (by decide)) (aB (pv 0) (aB (bB (cH K) rfl T.eE dO (aB (aP (aU K) (pv 1) aF (fun _ _ => rfl)) aH)) aH)))) (fun _ _ _ _ _ => (bC (i := 2) sc_law_hidden.nd rfl (by walk_at "b"))) (fun _ _ _ _ _ => dW) (fun _ _ _ _ _ => (aL (bF K) (aP (aU K) (pv 1) aF (fun _ _ => rfl)) (aL bL (pv 2) (aL (bF K) (aL cT (aP (aU K) (pv 1) aF (fun _ _ => rfl)) (aP (aU K) (pv 1) aF (fun _ _ => rfl))) aF))))))), by unfold pG; walk_at "r"⟩) rfl (fun _ => rfl)
theorem xT (F : cI K mg "_law_free" wL)  : bY P w K mg base 1 "_law_free" ["_law_xs", "_law_frame_here", "_law_one", "_law_other"] (aQ K cn 4 pJ) := by
 refine bO (d := sB) F sc_law_free (fun _ _ _ _ _ _ us hl => match us, hl with | [_, _, _, _], _ => rfl) (fun f cdv A outer s H E hr => ⟨_, (aI (aY (i := 4) sc_law_free.nd rfl (by walk_at "b") (dL (aB (aP (aU K) (aP (aU K) (pv 1) aF (fun _ _ => rfl)) (pv 2) (fun _ _ => rfl)) (aB (aP (aU K) (aP (aU K) (pv 1) aF (fun _ _ => rfl)) (pv 3) (fun _ _ => rfl)) aH))))
 (aI (cQ (PW.pt (wO (bM (dM K (n := bR) hr) (pv 2) (pv 3) (bP _)) (wA (bM (dM K (n := bR) hr) (aL bL (aP (aU K) (pv 0) aF (fun _ _ => rfl)) aF) aF (bP _))))) (aI (aY (i := 5) sc_law_free.nd rfl (by walk_at "b") (aL (bF K) (aL cT (aP (aU K) (pv 1) aF (fun _ _ => rfl)) aF) (aL bL (aP (aU K) (pv 0) aF (fun _ _ => rfl)) (aL (bF K) (aL cT (aP (aU K) (pv 1) aF (fun _ _ => rfl)) (aP (aU K) (pv 1) aF (fun _ _ => rfl))) aF))))
 (aI (aY (i := 6) sc_law_free.nd rfl (by walk_at "b") (aL (bF K) (pv 5) (aL bL (aP (aU K) (pv 0) aF (fun _ _ => rfl)) aF)))
 (aM (bD (cJ (aB cF (aB (aL (bF K) (iC (rQ K) (pv 4) kY (hU aF)) (dL (aB (pv 5) (aB (pv 6) aH)))) (aB (cJ (aB (pv 2) aH)) (aB (cJ (aB (pv 5) (aB (pv 6) aH))) aH))))))))) bU)
 (aI (aY (i := 5) sc_law_free.nd rfl (by walk_at "b") (aL cT (aL bL (aP (aU K) (pv 0) aF (fun _ _ => rfl)) aF) aF))
 (aI (aY (i := 6) sc_law_free.nd rfl (by walk_at "b") (bB (lQ K) rfl T.xU tL (aB aF (aB (aL (bF K) (pv 5) (aL bL (aP (aU K) (pv 0) aF (fun _ _ => rfl)) aF)) aH))))
 (aM (bD (cJ (aB cF (aB (aL (bF K) (pv 4) (dL (aB (pv 5) (aB (pv 6) aH)))) (aB (cJ (aB (pv 2) (aB (pv 3) aH))) (aB (cJ (aB (pv 5) (aB (pv 6) aH))) aH))))))))))), by unfold sB; walk_at "r"⟩) rfl (fun _ => rfl)
theorem uG (F : cI K mg "_law_of_one" uD)  : bY P w K mg base 1 "_law_of_one" ["_law_number", "_law_frame_here", "_law_letter", "_law_year"] (aQ K cn 4 lJ) := by
 refine bO (d := oY) F sc_law_of_one (fun _ _ _ _ _ _ us hl => match us, hl with | [_, _, _, _], _ => rfl) (fun f cdv A outer s H E hr => ⟨_, (aI (aY (i := 4) sc_law_of_one.nd rfl (by walk_at "b") (aP (aU K) (aP (aU K) (pv 1) aF (fun _ _ => rfl)) (pv 2) (fun _ _ => rfl)))
 (aI (aY (i := 5) sc_law_of_one.nd rfl (by walk_at "b") (aL eJ (pv 0) aF))
 (aI (cQ (bM (dM K (n := bR) hr) (aL bL (pv 0) aF) aF (bP _)) (aI (yG (aP (aU K) (aP (aU K) (pv 1) aF (fun _ _ => rfl)) (aL bL (pv 5) (bB (cH K) rfl T.eE dO (aB (aP (aU K) (pv 1) aF (fun _ _ => rfl)) aH))) (fun _ _ => rfl)) (gK K 2 rfl (bV (bC (i := 6) sc_law_of_one.nd rfl (by walk_at "b")) (bV (bC (i := 7) sc_law_of_one.nd rfl (by walk_at "b")) gL))))
 (aI (aY (i := 8) sc_law_of_one.nd rfl (by walk_at "b") (aL bL (aL eJ (pv 5) aF) aF))
 (aI (aY (i := 9) sc_law_of_one.nd rfl (by walk_at "b") (aP (aU K) (pv 7) (bB (lQ K) rfl T.xU tL (aB (aL cT (aP (aU K) (pv 1) aF (fun _ _ => rfl)) (pv 3)) (aB (aL cT (bB (cH K) rfl T.eE dO (aB (pv 7) aH)) aF) aH))) (fun _ _ => rfl)))
 (aI (aY (i := 9) sc_law_of_one.nd rfl (by walk_at "b") (bB (rM K) rfl T.ad4 yA (aB aF (aB (aL cT (aL (bF K) (pv 9) (aL bL (aL eJ (pv 5) aF) (aL (bF K) (aL kX aF (pv 8)) aF))) (pv 8)) aH))))
 (aI (aY (i := 10) sc_law_of_one.nd rfl (by walk_at "b") (dL aH))
 (aI (iM PassesOwn.never rfl (iJ rfl T.jU (aB (aL (bF K) (aL cT (aP (aU K) (pv 1) aF (fun _ _ => rfl)) (aP (aU K) (pv 1) aF (fun _ _ => rfl))) aF) aH)) (bC (i := 11) sc_law_of_one.nd rfl (by walk_at "b")) (aM (cQ (bM kK (bB (yJ K) rfl T.br6 aj9 (aB (aL cT (aP (aU K) (pv 7) (bB (lQ K) rfl T.xU tL (aB (pv 11) (aB (aL cT (bB (cH K) rfl T.eE dO (aB (pv 7) aH)) aF) aH))) (fun _ _ => rfl)) (pv 9)) aH)) (pv 8) (bP _)) (aM (fM (fU K PySem.F.plainAttrs_list PySem.F.slot_list_append PySem.F.type_list_append fK (pv 10) (aB (pv 11) aH)))) bU)))
 (aM (bD (cJ (aB cF (aB (dL (aB (pv 4) (aB (pv 6) (aB (pv 9) (aB (pv 8) aH))))) (aB (cJ (aB (pv 2) aH)) (aB (cJ (aB (aL cT (aP (aU K) (pv 1) aF (fun _ _ => rfl)) (aP (aU K) (pv 10) (uW rG aF) (fun _ _ => rfl))) (aB (aL cT (aP (aU K) (pv 1) aF (fun _ _ => rfl)) (aP (aU K) (pv 10) aF (fun _ _ => rfl))) aH))) aH))))))))))))) bU)
 (aI (aY (i := 12) sc_law_of_one.nd rfl (by walk_at "b") (aL bL (aL eJ (pv 5) aF) (bB (cH K) rfl T.eE dO (aB (aP (aU K) (pv 1) aF (fun _ _ => rfl)) aH))))
 (aI (iM PassesOwn.never rfl (gX K (aL (bF K) (iC (rQ K) (aP (aU K) (pv 1) aF (fun _ _ => rfl)) (hU (pv 12)) kY) (iC (rQ K) (aP (aU K) (pv 1) aF (fun _ _ => rfl)) kY (hU (pv 12))))) (gK K 3 rfl (bV (bC (i := 13) sc_law_of_one.nd rfl (by walk_at "b")) (bV (bC (i := 14) sc_law_of_one.nd rfl (by walk_at "b")) (bV (bC (i := 15) sc_law_of_one.nd rfl (by walk_at "b")) gL)))) (aM (cQ (PW.pt (tK (bM (dM K (n := bR) hr) (aL bL (pv 0) aF) aF (bP _)) (pX (am1 kK zZ (pv 14) (pv 3) (aL (bF K) (pv 14) (pv 15)))))) (aI (cQ (bM (dM K (n := bR) hr) (aL bL (pv 5) aF) aF (bP _)) (aM (bD (cJ (aB cF (aB (dL (aB (pv 4) (aB (pv 13) (aB (aL (bF K) (aL cT (pv 3) (pv 14)) aF) aH)))) (aB (cJ (aB (pv 2) aH)) (aB (cJ (aB (pv 3) (aB (pv 3) aH))) aH))))))) bU)
 (aM (bD (cJ (aB cF (aB (dL (aB (pv 4) (aB (pv 13) aH))) (aB (cJ (aB (pv 2) aH)) (aB (cJ (aB (pv 14) (aB (aL cT (aL (bF K) (pv 14) (pv 15)) aF) aH))) aH)))))))) bU)))
 (aI (aY (i := 16) sc_law_of_one.nd rfl (by walk_at "b") (bB (rM K) rfl T.ad4 yA (aB (uW rG aF) (aB (aL cT (pv 3) (aL bL (pv 5) aF)) aH))))
 (aI (aY (i := 17) sc_law_of_one.nd rfl (by walk_at "b") (bB (lQ K) rfl T.xU tL (aB aF (aB (aL (bF K) (pv 3) (aL bL (aL eJ (pv 5) aF) aF)) aH))))
 (aM (bD (cJ (aB cF (aB (dL (aB (pv 4) (aB (pv 16) (aB (pv 17) aH)))) (aB (cJ (aB (pv 2) aH)) (aB (cJ (aB (pv 16) (aB (pv 17) aH))) aH)))))))))))))), by unfold oY; walk_at "r"⟩) rfl (fun _ => rfl)
theorem tV (F : cI K mg "_law_of_two" tZ)  : bY P w K mg base 1 "_law_of_two" ["_law_number", "_law_frame_here", "_law_letters", "_law_gap"] (aQ K cn 4 lP) := by
 refine bO (d := oU) F sc_law_of_two (fun _ _ _ _ _ _ us hl => match us, hl with | [_, _, _, _], _ => rfl) (fun f cdv A outer s H E hr => ⟨_, (aI (mT (i := 4) sc_law_of_two.nd rfl (by walk_at "b") (ks := [9]) ⟨rfl, by decide +kernel, by decide +kernel, by rfl, by rfl⟩ rfl (gX K (pv 2)) (fun _ _ _ _ _ => (bC (i := 9) sc_law_of_two.nd rfl (by walk_at "b"))) (fun _ _ _ _ _ => dW) (fun _ _ _ _ _ => (aP (aU K) (aP (aU K) (pv 1) aF (fun _ _ => rfl)) (pv 9) (fun _ _ => rfl))))
 (aI (aY (i := 5) sc_law_of_two.nd rfl (by walk_at "b") (aL eJ (pv 0) aF))
 (aI (cQ (PW.pt (tK (bM (dM K (n := bR) hr) (pv 3) aF (bP _)) (pX (bM (dM K (n := bR) hr) (aL bL (pv 0) aF) aF (bP _))))) (aM (bD (cJ (aB cF (aB (pv 4) (aB (pv 2) (aB (cJ (aB aF (aB aF aH))) aH))))))) bU)
 (aI (cQ (PW.pt (tK (bM az8 (pv 3) aF (bP _)) (pX (bM zZ (aL bL (pv 0) aF) aF (bP _))))) (aM (bD (cJ (aB cF (aB (pv 4) (aB (pv 2) (aB (cJ (aB aF (aB eH aH))) aH))))))) bU)
 (aI (cQ (PW.pt (tK (bM cg4 (pv 3) aF (bP _)) (pX (bM (dM K (n := bR) hr) (aL bL (pv 0) aF) aF (bP _))))) (aI (aY (i := 6) sc_law_of_two.nd rfl (by walk_at "b") (bB (lQ K) rfl T.xU tL (aB aF (aB (aL (bF K) (pv 3) (aL bL (pv 5) aF)) aH))))
 (aM (bD (cJ (aB cF (aB (aL (bF K) (pv 4) (dL (aB (pv 6) aH))) (aB (pv 2) (aB (cJ (aB aF (aB (pv 6) aH))) aH)))))))) bU)
 (aI (aY (i := 7) sc_law_of_two.nd rfl (by walk_at "b") (bB (rM K) rfl T.ad4 yA (aB (uW rG aF) (aB (aL cT (pv 3) (aL bL (pv 5) aF)) aH))))
 (aI (aY (i := 8) sc_law_of_two.nd rfl (by walk_at "b") (bB (lQ K) rfl T.xU tL (aB aF (aB (aL (bF K) (pv 3) (aL bL (aL eJ (pv 5) aF) aF)) aH))))
 (aM (bD (cJ (aB cF (aB (aL (bF K) (pv 4) (dL (aB (pv 7) (aB (pv 8) aH)))) (aB (pv 2) (aB (cJ (aB (pv 7) (aB (pv 8) aH))) aH)))))))))))))), by unfold oU; walk_at "r"⟩) rfl (fun _ => rfl)
theorem rX (F : cI K mg "_law_sayings" rW) (rD : bY P w K mg base 2 "_law_row" ["_law_cell_here", "_law_many"] (aQ K cn 2 kA)) (xT : bY P w K mg base 1 "_law_free" ["_law_xs", "_law_frame_here", "_law_one", "_law_other"] (aQ K cn 4 pJ)) (uG : bY P w K mg base 1 "_law_of_one" ["_law_number", "_law_frame_here", "_law_letter", "_law_year"] (aQ K cn 4 lJ)) (tV : bY P w K mg base 1 "_law_of_two" ["_law_number", "_law_frame_here", "_law_letters", "_law_gap"] (aQ K cn 4 lP)) : bY P w K mg base 3 "_law_sayings" ["_law_cells", "_law_frame_here", "_law_false", "_law_hidden_here"] (aQ K cn 4 kO) := by
 refine bO (d := nN) F sc_law_sayings (fun _ _ _ _ _ _ us hl => match us, hl with | [_, _, _, _], _ => rfl) (fun f cdv A outer s H E hr => ⟨_, (aI (aY (i := 4) sc_law_sayings.nd rfl (by walk_at "b") (bB (cH K) rfl T.eE dO (aB (aP (aU K) (pv 1) aF (fun _ _ => rfl)) aH)))
 (aI (aY (i := 5) sc_law_sayings.nd rfl (by walk_at "b") (aL cT (aP (aU K) (pv 1) aF (fun _ _ => rfl)) (aP (aU K) (pv 1) aF (fun _ _ => rfl))))
 (aI (aY (i := 6) sc_law_sayings.nd rfl (by walk_at "b") (dL aH))
 (aI (iM PassesOwn.never rfl (gX K (pv 0)) (bC (i := 7) sc_law_sayings.nd rfl (by walk_at "b")) (aI (aY (i := 8) sc_law_sayings.nd rfl (by walk_at "b") (bK rD (hr.mono (by decide)) (aB (pv 7) (aB aF aH))))
 (aI (aY (i := 9) sc_law_sayings.nd rfl (by walk_at "b") (aL bL (aP (aU K) (pv 8) aF (fun _ _ => rfl)) (pv 4)))
 (aI (aY (i := 10) sc_law_sayings.nd rfl (by walk_at "b") (fY (fP K) rfl T.kQ iX (aB (pv 3) aH)))
 (aI (cQ (PW.pt (tK (eR K (pv 2) (fun _ => rfl)) (pX (bM (dM K (n := bR) hr) (aL bL (aP (aU K) (pv 8) aF (fun _ _ => rfl)) aF) aF (bP _))))) (aM (mT (i := 10) sc_law_sayings.nd rfl (by walk_at "b") (ks := [12]) ⟨rfl, by decide +kernel, by decide +kernel, by rfl, by rfl⟩ rfl (iJ rfl T.jU (aB (pv 4) aH)) (fun _ _ _ _ _ => (bC (i := 12) sc_law_sayings.nd rfl (by walk_at "b"))) (fun _ _ _ _ _ => dW) (fun _ _ _ _ _ => (aL (bF K) (aP (aU K) (pv 1) aF (fun _ _ => rfl)) (aL bL (aL (bF K) (aP (aU K) (pv 8) aF (fun _ _ => rfl)) (aL kX (aL kX aF (aP (aU K) (pv 8) aF (fun _ _ => rfl))) (pv 12))) (aL (bF K) (pv 5) aF)))))) bU)
 (aI (aY (i := 11) sc_law_sayings.nd rfl (by walk_at "b") (aL bL (aL (bF K) (aL (bF K) (pv 9) aF) (aL bL (aL eJ (aP (aU K) (pv 8) aF (fun _ _ => rfl)) aF) (bB (rM K) rfl T.ad4 yA (aB aF (aB (aL cT (pv 4) aF) aH))))) (pv 4)))
 (aM (cQ (PW.pt (tK (eR K (pv 2) (fun _ => rfl)) (pX (bM (dM K (n := bR) hr) (aL bL (aP (aU K) (pv 8) aF (fun _ _ => rfl)) aF) aF (bP _))))) (aM (fM (fU K PySem.F.plainAttrs_list PySem.F.slot_list_append PySem.F.type_list_append fK (pv 6) (aB (bK xT (hr.mono (by decide)) (aB (pv 8) (aB (pv 1) (aB (pv 9) (aB (pv 11) aH))))) aH)))) (aM (cQ (PW.pt (wO (bM (dM K (n := bR) hr) (pv 4) aF (bP _)) (wA (bM zZ (aL bL (aP (aU K) (pv 8) aF (fun _ _ => rfl)) aF) aF (bP _))))) (aM (fM (fU K PySem.F.plainAttrs_list PySem.F.slot_list_append PySem.F.type_list_append fK (pv 6) (aB (bK uG (hr.mono (by decide)) (aB (aP (aU K) (pv 8) aF (fun _ _ => rfl)) (aB (pv 1) (aB (pv 9) (aB (aP (aU K) (pv 10) (pv 9) (fun _ _ => rfl)) aH))))) aH)))) (aM (fM (fU K PySem.F.plainAttrs_list PySem.F.slot_list_append PySem.F.type_list_append fK (pv 6) (aB (bK tV (hr.mono (by decide)) (aB (aP (aU K) (pv 8) aF (fun _ _ => rfl)) (aB (pv 1) (aB (cJ (aB (pv 9) (aB (pv 11) aH))) (aB (aL cT (aP (aU K) (pv 10) (pv 9) (fun _ _ => rfl)) (aP (aU K) (pv 10) (pv 11) (fun _ _ => rfl))) aH))))) aH))))))))))))))
 (aM (bD (pv 6))))))), by unfold nN; walk_at "r"⟩) rfl (fun _ => rfl)
theorem oR (F : cI K mg "is_whole" wW)  : bY P w K mg base 1 "is_whole" ["some"] (aQ K cn 1 gU) := by
 refine bO (d := oV) F bo2 (fun _ _ _ _ _ _ us hl => match us, hl with | [_], _ => rfl) (fun f cdv A outer s H E hr => ⟨_, (aM (bD (tJ (bB (zR K) rfl T.uM rP (aB (pv 0) (aB (bg5 T.dp6 dw0) aH))) (tP (dk1 (bB (zR K) rfl T.uM rP (aB (pv 0) (aB (bg5 T.bp9 bf3) aH)))))))), by unfold oV; walk_at "r"⟩) rfl (fun _ => rfl)
theorem dE (F : cI K mg "is_whole_from" pA) (oR : bY P w K mg base 1 "is_whole" ["some"] (aQ K cn 1 gU)) : bY P w K mg base 2 "is_whole_from" ["some", "low", "high"] (aQ K cn 3 cN) := by
 refine bO (d := lH) F ac1 (fun _ _ _ _ _ _ us hl => match us, hl with | [_, _, _], _ => rfl) (fun f cdv A outer s H E hr => ⟨_, (aM (bD (tJ (bK oR (hr.mono (by decide)) (aB (pv 0) aH)) (tP (ah1 kK kK (pv 1) (pv 0) (pv 2)))))), by unfold lH; walk_at "r"⟩) rfl (fun _ => rfl)
theorem nG (F : cI K mg "are_years" vD) (dE : bY P w K mg base 2 "is_whole_from" ["some", "low", "high"] (aQ K cn 3 cN)) : bY P w K mg base 3 "are_years" ["first", "present"] (aQ K cn 2 kU) := by
 refine bO (d := qQ) F bb0 (fun _ _ _ _ _ _ us hl => match us, hl with | [_, _], _ => rfl) (fun f cdv A outer s H E hr => ⟨_, (aI (cQ (iN (eR K (bK dE (hr.mono (by decide)) (aB (pv 0) (aB (uW rG (iQ T.g_FARTHEST_END)) (aB (iQ T.g_FARTHEST_END) aH)))) (fun _ => rfl))) (aM (bD mM)) bU)
 (aI (cQ (iN (eR K (bK dE (hr.mono (by decide)) (aB (pv 1) (aB (uW rG (iQ T.g_FARTHEST_END)) (aB (iQ T.g_FARTHEST_END) aH)))) (fun _ => rfl))) (aM (bD mM)) bU)
 (aM (bD (ah1 kK kK aF (aL cT (pv 1) (pv 0)) (iQ T.g_LONGEST_SPAN)))))), by unfold qQ; walk_at "r"⟩) rfl (fun _ => rfl)
theorem tI (F : cI K mg "is_made_of" uC)  : bY P w K mg base 1 "is_made_of" ["word", "signs", "most"] (aQ K cn 3 lK) := by
 refine bO (d := pI) F sc_is_made_of (fun _ _ _ _ _ _ us hl => match us, hl with | [_, _, _], _ => rfl) (fun f cdv A outer s H E hr => ⟨_, (aM (bD (tJ (ah1 kK kK aF (bB (cH K) rfl T.eE dO (aB (pv 0) aH)) (pv 2)) (tP (bB (iZ K) rfl T.sU oQ (aB (eV (ks := [3]) ⟨rfl, by decide +kernel, by decide +kernel, by rfl, by rfl⟩ rfl (gX K (pv 0)) (fun _ _ _ _ _ => (bC (i := 3) sc_is_made_of.nd rfl (by walk_at "b"))) (fun _ _ _ _ _ => dW) (fun _ _ _ _ _ => (jT (au2 K (n := bR) hr) (pv 3) (pv 1) (by with_unfolding_all rfl)))) aH)))))), by unfold pI; walk_at "r"⟩) rfl (fun _ => rfl)
theorem yP (F : cI K mg "is_name" zU) (tI : bY P w K mg base 1 "is_made_of" ["word", "signs", "most"] (aQ K cn 3 lK)) : bY P w K mg base 2 "is_name" ["word"] (aQ K cn 1 oC) := by
 refine bO (d := uP) F bl4 (fun _ _ _ _ _ _ us hl => match us, hl with | [_], _ => rfl) (fun f cdv A outer s H E hr => ⟨_, (aM (bD (bK tI (hr.mono (by decide)) (aB (pv 0) (aB (iQ T.g_LETTERS) (aB (iQ T.g_MOST_LETTERS_words) aH)))))), by unfold uP; walk_at "r"⟩) rfl (fun _ => rfl)
theorem gS (F : cI K mg "are_names" vF) (yP : bY P w K mg base 2 "is_name" ["word"] (aQ K cn 1 oC)) : bY P w K mg base 3 "are_names" ["names", "least", "most"] (aQ K cn 3 gE) := by
 refine bO (d := qS) F sc_are_names (fun _ _ _ _ _ _ us hl => match us, hl with | [_, _, _], _ => rfl) (fun f cdv A outer s H E hr => ⟨_, (aI (cQ (iN (am1 kK kK (pv 1) (bB (cH K) rfl T.eE dO (aB (pv 0) aH)) (pv 2))) (aM (bD mM)) bU)
 (aM (bD (tJ (bB (iZ K) rfl T.sU oQ (aB (eV (ks := [3]) ⟨rfl, by decide +kernel, by decide +kernel, by rfl, by rfl⟩ rfl (gX K (pv 0)) (fun _ _ _ _ _ => (bC (i := 3) sc_are_names.nd rfl (by walk_at "b"))) (fun _ _ _ _ _ => dW) (fun _ _ _ _ _ => (bK yP (hr.mono (by decide)) (aB (pv 3) aH)))) aH)) (tP (jT (dM K (n := bR) hr) (be8 K T.eE T.dq6 (aB (pv 0) aH)) (bB (cH K) rfl T.eE dO (aB (pv 0) aH)) (bP _))))))), by unfold qS; walk_at "r"⟩) rfl (fun _ => rfl)
theorem xK (F : cI K mg "is_table" xF) (dE : bY P w K mg base 2 "is_whole_from" ["some", "low", "high"] (aQ K cn 3 cN)) : bY P w K mg base 3 "is_table" ["some"] (aQ K cn 1 mS) := by
 refine bO (d := sE) F sc_is_table (fun _ _ _ _ _ _ us hl => match us, hl with | [_], _ => rfl) (fun f cdv A outer s H E hr => ⟨_, (aI (cQ (iN (am1 kK kK aF (bB (cH K) rfl T.eE dO (aB (pv 0) aH)) (iQ T.g_MOST_AGES))) (aM (bD mM)) bU)
 (aI (cQ (iN (eR K (bB (iZ K) rfl T.sU oQ (aB (eV (ks := [1]) ⟨rfl, by decide +kernel, by decide +kernel, by rfl, by rfl⟩ rfl (gX K (pv 0)) (fun _ _ _ _ _ => (bC (i := 1) sc_is_table.nd rfl (by walk_at "b"))) (fun _ _ _ _ _ => dW) (fun _ _ _ _ _ => (bK dE (hr.mono (by decide)) (aB (pv 1) (aB aF (aB (iQ T.g_DARKEST) aH)))))) aH)) (fun _ => rfl))) (aM (bD mM)) bU)
 (aM (bD (bB (iZ K) rfl T.sU oQ (aB (eV (ks := [2]) ⟨rfl, by decide +kernel, by decide +kernel, by rfl, by rfl⟩ rfl (bs7 rfl T.jU (aB aF (aB (bB (cH K) rfl T.eE dO (aB (pv 0) aH)) aH))) (fun _ _ _ _ _ => (bC (i := 2) sc_is_table.nd rfl (by walk_at "b"))) (fun _ _ _ _ _ => dW) (fun _ _ _ _ _ => (jT kK (aP (aU K) (pv 0) (pv 2) (fun _ _ => rfl)) (aP (aU K) (pv 0) (aL cT (pv 2) aF) (fun _ _ => rfl)) (bP _)))) aH)))))), by unfold sE; walk_at "r"⟩) rfl (fun _ => rfl)
theorem pN (F : cI K mg "are_inks" xS) (gS : bY P w K mg base 3 "are_names" ["names", "least", "most"] (aQ K cn 3 gE)) (xK : bY P w K mg base 3 "is_table" ["some"] (aQ K cn 1 mS)) : bY P w K mg base 4 "are_inks" ["inks"] (aQ K cn 1 mW) := by
 refine bO (d := sD) F sc_are_inks (fun _ _ _ _ _ _ us hl => match us, hl with | [_], _ => rfl) (fun f cdv A outer s H E hr => ⟨_, (aI (cQ (iN (eR K (bK gS (hr.mono (by decide)) (aB (eV (ks := [1, 2]) ⟨rfl, by decide +kernel, by decide +kernel, by rfl, by rfl⟩ rfl (gX K (pv 0)) (fun _ _ _ _ _ => (gK K 2 rfl (bV (bC (i := 1) sc_are_inks.nd rfl (by walk_at "b")) (bV (bC (i := 2) sc_are_inks.nd rfl (by walk_at "b")) gL)))) (fun _ _ _ _ _ => dW) (fun _ _ _ _ _ => (pv 1))) (aB aF (aB (iQ T.g_MOST_INKS) aH)))) (fun _ => rfl))) (aM (bD mM)) bU)
 (aM (bD (bB (iZ K) rfl T.sU oQ (aB (eV (ks := [1, 2]) ⟨rfl, by decide +kernel, by decide +kernel, by rfl, by rfl⟩ rfl (gX K (pv 0)) (fun _ _ _ _ _ => (gK K 2 rfl (bV (bC (i := 1) sc_are_inks.nd rfl (by walk_at "b")) (bV (bC (i := 2) sc_are_inks.nd rfl (by walk_at "b")) gL)))) (fun _ _ _ _ _ => dW) (fun _ _ _ _ _ => (bK xK (hr.mono (by decide)) (aB (pv 2) aH)))) aH))))), by unfold sD; walk_at "r"⟩) rfl (fun _ => rfl)
theorem wY (F : cI K mg "is_reign" xM) (dE : bY P w K mg base 2 "is_whole_from" ["some", "low", "high"] (aQ K cn 3 cN)) : bY P w K mg base 3 "is_reign" ["begin", "length"] (aQ K cn 2 mR) := by
 refine bO (d := sQ) F bj2 (fun _ _ _ _ _ _ us hl => match us, hl with | [_, _], _ => rfl) (fun f cdv A outer s H E hr => ⟨_, (aM (bD (tJ (bK dE (hr.mono (by decide)) (aB (pv 0) (aB (uW rG (iQ T.g_FARTHEST_YEAR)) (aB (iQ T.g_FARTHEST_YEAR) aH)))) (tP (bK dE (hr.mono (by decide)) (aB (pv 1) (aB aF (aB (iQ T.g_LONGEST_REIGN) aH)))))))), by unfold sQ; walk_at "r"⟩) rfl (fun _ => rfl)
theorem lN (F : cI K mg "are_reigns" uH) (gS : bY P w K mg base 3 "are_names" ["names", "least", "most"] (aQ K cn 3 gE)) (wY : bY P w K mg base 3 "is_reign" ["begin", "length"] (aQ K cn 2 mR)) : bY P w K mg base 4 "are_reigns" ["reigns"] (aQ K cn 1 jJ) := by
 refine bO (d := pK) F sc_are_reigns (fun _ _ _ _ _ _ us hl => match us, hl with | [_], _ => rfl) (fun f cdv A outer s H E hr => ⟨_, (aI (cQ (iN (eR K (bK gS (hr.mono (by decide)) (aB (eV (ks := [1, 2, 3]) ⟨rfl, by decide +kernel, by decide +kernel, by rfl, by rfl⟩ rfl (gX K (pv 0)) (fun _ _ _ _ _ => (gK K 3 rfl (bV (bC (i := 1) sc_are_reigns.nd rfl (by walk_at "b")) (bV (bC (i := 2) sc_are_reigns.nd rfl (by walk_at "b")) (bV (bC (i := 3) sc_are_reigns.nd rfl (by walk_at "b")) gL))))) (fun _ _ _ _ _ => dW) (fun _ _ _ _ _ => (pv 1))) (aB aF (aB (iQ T.g_MOST_REIGNS) aH)))) (fun _ => rfl))) (aM (bD mM)) bU)
 (aM (bD (bB (iZ K) rfl T.sU oQ (aB (eV (ks := [1, 2, 3]) ⟨rfl, by decide +kernel, by decide +kernel, by rfl, by rfl⟩ rfl (gX K (pv 0)) (fun _ _ _ _ _ => (gK K 3 rfl (bV (bC (i := 1) sc_are_reigns.nd rfl (by walk_at "b")) (bV (bC (i := 2) sc_are_reigns.nd rfl (by walk_at "b")) (bV (bC (i := 3) sc_are_reigns.nd rfl (by walk_at "b")) gL))))) (fun _ _ _ _ _ => dW) (fun _ _ _ _ _ => (bK wY (hr.mono (by decide)) (aB (pv 2) (aB (pv 3) aH))))) aH))))), by unfold pK; walk_at "r"⟩) rfl (fun _ => rfl)
theorem ag5 (nG : bY P w K mg base 3 "are_years" ["first", "present"] (aQ K cn 2 kU)) (gS : bY P w K mg base 3 "are_names" ["names", "least", "most"] (aQ K cn 3 gE)) (pN : bY P w K mg base 4 "are_inks" ["inks"] (aQ K cn 1 mW)) (lN : bY P w K mg base 4 "are_reigns" ["reigns"] (aQ K cn 1 jJ)) (f y : Addr) (cdv : Value) (A : Around) (outer : List Env) (s : Shared) (H : Hp) (E : XK) (hr : Room 4 (A.deeper (PyProof.Rows.envOfC "Archive.__init__" (aO iK) s.heap.objs.size f cdv))) :
 ∃ t, PSs (lM jP P w K mg base ["self", "first", "present", "letters", "inks", "reigns", "name", "table"] "Archive.__init__" (aO iK) f cdv A outer s H E).nox (dU iK) t ∧ RS [(0, .ref y)] K cn E t jI :=
 ⟨_, (aI (cQ (iN (eR K (bK nG (hr.mono (by decide)) (aB (pv 1) (aB (pv 2) aH))) (fun _ => rfl))) (aM kT) bU)
 (aI (cQ (iN (eR K (bK gS (hr.mono (by decide)) (aB (pv 3) (aB aF (aB (iQ T.g_MOST_LETTERS_archives) aH)))) (fun _ => rfl))) (aM kT) bU)
 (aI (cQ (iN (eR K (bK pN (hr.mono (by decide)) (aB (pv 4) aH)) (fun _ => rfl))) (aM kT) bU)
 (aI (cQ (iN (eR K (bK lN (hr.mono (by decide)) (aB (pv 5) aH)) (fun _ => rfl))) (aM kT) bU)
 (aI (mV K (pv 0) (pv 1))
 (aI (mV K (pv 0) (pv 2))
 (aI (mV K (pv 0) (fY (fP K) rfl T.kQ iX (aB (pv 3) aH)))
 (aI (mV K (pv 0) (eV (ks := [6, 7]) ⟨rfl, by decide +kernel, by decide +kernel, by rfl, by rfl⟩ rfl (gX K (pv 4)) (fun _ _ _ _ _ => (gK K 2 rfl (bV (bC (i := 6) sc_Archive_init.nd rfl (by walk_at "b")) (bV (bC (i := 7) sc_Archive_init.nd rfl (by walk_at "b")) gL)))) (fun _ _ _ _ _ => dW) (fun _ _ _ _ _ => (cJ (aB (pv 6) (aB (fY (fP K) rfl T.kQ iX (aB (pv 7) aH)) aH))))))
 (aM (mV K (pv 0) (fY (fP K) rfl T.kQ iX (aB (pv 5) aH)))))))))))), by unfold jI; walk_at "r"⟩
theorem rS (F : cI K mg "_law_archive" rV) (zP : oK P w K mg base 5 "Archive" c_Archive (nH K cn "Archive" 5 lO)) : bY P w K mg base 7 "_law_archive" ["_law_frame_here"] (aQ K cn 1 kP) := by
 refine bO (d := nT) F sc_law_archive (fun _ _ _ _ _ _ us hl => match us, hl with | [_], _ => rfl) (fun f cdv A outer s H E hr => ⟨_, (aI (mT (i := 1) sc_law_archive.nd rfl (by walk_at "b") (ks := [2, 3]) ⟨rfl, by decide +kernel, by decide +kernel, by rfl, by rfl⟩ rfl (gX K (aP (aU K) (pv 0) aF (fun _ _ => rfl))) (fun _ _ _ _ _ => (gK K 2 rfl (bV (bC (i := 2) sc_law_archive.nd rfl (by walk_at "b")) (bV (bC (i := 3) sc_law_archive.nd rfl (by walk_at "b")) gL)))) (fun _ _ _ _ _ => dW) (fun _ _ _ _ _ => (cJ (aB (pv 2) (aB (fY (fP K) rfl T.kQ iX (aB (pv 3) aH)) aH)))))
 (aM (bD (oS zP (hr.mono (by decide)) (aB (aP (aU K) (pv 0) aF (fun _ _ => rfl)) (aB (aP (aU K) (pv 0) aF (fun _ _ => rfl)) (aB (fY (fP K) rfl T.kQ iX (aB (aP (aU K) (pv 0) aF (fun _ _ => rfl)) aH)) (aB (pv 1) (aB (fY (fP K) rfl T.kQ iX (aB (aP (aU K) (pv 0) aF (fun _ _ => rfl)) aH)) aH))))))))), by unfold nT; walk_at "r"⟩) rfl (fun _ => rfl)
theorem ab1 (F : cI K mg "is_due" ad1) (dE : bY P w K mg base 2 "is_whole_from" ["some", "low", "high"] (aQ K cn 3 cN)) : bY P w K mg base 3 "is_due" ["archive", "due", "part"] (aQ K cn 3 gH) := by
 refine bO (d := nW) F sc_is_due (fun _ _ _ _ _ _ us hl => match us, hl with | [_, _, _], _ => rfl) (fun f cdv A outer s H E hr => ⟨_, (aI (cQ (bM (dM K (n := bR) hr) (pv 1) cF (bP _)) (aM (bD (jT (au2 K (n := bR) hr) (pv 2) (fN K (pv 0)) (by with_unfolding_all rfl)))) bU)
 (aI (cQ (bM (dM K (n := bR) hr) (pv 1) cF (bP _)) (aM (bD (jT (au2 K (n := bR) hr) (pv 2) (eV (ks := [3]) ⟨rfl, by decide +kernel, by decide +kernel, by rfl, by rfl⟩ rfl (gX K (fN K (pv 0))) (fun _ _ _ _ _ => (bC (i := 3) sc_is_due.nd rfl (by walk_at "b"))) (fun _ _ _ _ _ => dW) (fun _ _ _ _ _ => (aP (aU K) (pv 3) aF (fun _ _ => rfl)))) (by with_unfolding_all rfl)))) bU)
 (aI (cQ (bM (dM K (n := bR) hr) (pv 1) cF (bP _)) (aM (bD (jT (au2 K (n := bR) hr) (pv 2) (eV (ks := [4]) ⟨rfl, by decide +kernel, by decide +kernel, by rfl, by rfl⟩ rfl (gX K (fN K (pv 0))) (fun _ _ _ _ _ => (bC (i := 4) sc_is_due.nd rfl (by walk_at "b"))) (fun _ _ _ _ _ => dW) (fun _ _ _ _ _ => (aP (aU K) (pv 4) aF (fun _ _ => rfl)))) (by with_unfolding_all rfl)))) bU)
 (aM (bD (bK dE (hr.mono (by decide)) (aB (pv 2) (aB (aP (aU K) (sW T.d_NUMBERS (pv 1)) aF (fun _ _ => rfl)) (aB (aP (aU K) (sW T.d_NUMBERS (pv 1)) aF (fun _ _ => rfl)) aH))))))))), by unfold nW; walk_at "r"⟩) rfl (fun _ => rfl)
theorem yR (F : cI K mg "are_due" yK) (ab1 : bY P w K mg base 3 "is_due" ["archive", "due", "part"] (aQ K cn 3 gH)) : bY P w K mg base 4 "are_due" ["archive", "word", "parts"] (aQ K cn 3 oJ) := by
 refine bO (d := uX) F sc_are_due (fun _ _ _ _ _ _ us hl => match us, hl with | [_, _, _], _ => rfl) (fun f cdv A outer s H E hr => ⟨_, (aI (cQ (PW.pt (wO (dl2 (bn7 T.d_PARTS (pv 1)) (by with_unfolding_all rfl)) (wA (bM (zJ K (n := bR) hr) (bB (cH K) rfl T.eE dO (aB (pv 2) aH)) (bB (cH K) rfl T.eE dO (aB (sW T.d_PARTS (pv 1)) aH)) (bP _))))) (aM (bD mM)) bU)
 (aM (bD (bB (iZ K) rfl T.sU oQ (aB (eV (ks := [3, 4]) ⟨rfl, by decide +kernel, by decide +kernel, by rfl, by rfl⟩ rfl (bw3 K T.cy4 (aB (sW T.d_PARTS (pv 1)) (aB (pv 2) aH))) (fun _ _ _ _ _ => (gK K 2 rfl (bV (bC (i := 3) sc_are_due.nd rfl (by walk_at "b")) (bV (bC (i := 4) sc_are_due.nd rfl (by walk_at "b")) gL)))) (fun _ _ _ _ _ => dW) (fun _ _ _ _ _ => (bK ab1 (hr.mono (by decide)) (aB (pv 0) (aB (pv 3) (aB (pv 4) aH)))))) aH))))), by unfold uX; walk_at "r"⟩) rfl (fun _ => rfl)
theorem ab3  (f : Addr) (cdv : Value) (A : Around) (outer : List Env) (s : Shared) (H : Hp) (E : XK) (hr : Room 0 (A.deeper (PyProof.Rows.envOfC "Archive.table" (aO gZ) s.heap.objs.size f cdv))) :
 ∃ t, PSs (lM jP P w K mg base ["self", "name", "other", "table"] "Archive.table" (aO gZ) f cdv A outer s H E).nox (dU gZ) t ∧ RS [] K cn E t jB :=
 ⟨_, (aI (iM PassesOwn.never rfl (gX K (fN K (pv 0))) (gK K 2 rfl (bV (bC (i := 2) sc_Archive_table.nd rfl (by walk_at "b")) (bV (bC (i := 3) sc_Archive_table.nd rfl (by walk_at "b")) gL))) (aM (cQ (bM (dM K (n := bR) hr) (pv 2) (pv 1) (bP _)) (aM (bD (fY (fP K) rfl T.kQ iX (aB (pv 3) aH)))) bU)))
 (aM (bD eH))), by unfold jB; walk_at "r"⟩
theorem yI (F : cI K mg "ages_of" yW)  : bY P w K mg base 1 "ages_of" ["table", "dark", "error", "greatest"] (aQ K cn 4 oM) := by
 refine bO (d := uR) F sc_ages_of (fun _ _ _ _ _ _ us hl => match us, hl with | [_, _, _, _], _ => rfl) (fun f cdv A outer s H E hr => ⟨_, (aI (aY (i := 4) sc_ages_of.nd rfl (by walk_at "b") (aL cT (bB (cH K) rfl T.eE dO (aB (pv 0) aH)) aF))
 (aI (mT (i := 5) sc_ages_of.nd rfl (by walk_at "b") (ks := [7]) ⟨rfl, by decide +kernel, by decide +kernel, by rfl, by rfl⟩ rfl (iJ rfl T.jU (aB (aL (bF K) (bB (lQ K) rfl T.xU tL (aB (pv 4) (aB (pv 3) aH))) aF) aH)) (fun _ _ _ _ _ => (bC (i := 7) sc_ages_of.nd rfl (by walk_at "b"))) (fun _ _ _ _ _ => (bb4 (bM kK (bB (yJ K) rfl T.br6 aj9 (aB (aL cT (aP (aU K) (pv 0) (pv 7) (fun _ _ => rfl)) (pv 1)) aH)) (pv 2) (bP _)))) (fun _ _ _ _ _ => (pv 7)))
 (aI (cQ (bM (dM K (n := bR) hr) (bB (cH K) rfl T.eE dO (aB (pv 5) aH)) aF (bP _)) (aM (bD eH)) bU)
 (aI (aY (i := 6) sc_ages_of.nd rfl (by walk_at "b") (aP (aU K) (pv 5) (aL cT (bB (cH K) rfl T.eE dO (aB (pv 5) aH)) aF) (fun _ _ => rfl)))
 (aM (bD (cJ (aB (aP (aU K) (pv 5) aF (fun _ _ => rfl)) (aB (as1 (bM (dM K (n := bR) hr) (pv 6) (pv 4) (bP _)) (pv 3) (pv 6)) aH))))))))), by unfold uR; walk_at "r"⟩) rfl (fun _ => rfl)
theorem gM  (f y : Addr) (cdv : Value) (A : Around) (outer : List Env) (s : Shared) (H : Hp) (E : XK) (hr : Room 0 (A.deeper (PyProof.Rows.envOfC "Saying.__init__" (aO cL) s.heap.objs.size f cdv))) :
 ∃ t, PSs (lM jP P w K mg base ["self", "archive", "word", "parts", "low", "high", "names", "part", "due", "name"] "Saying.__init__" (aO cL) f cdv A outer s H E).nox (dU cL) t ∧ RS [(0, .ref y)] K cn E t cK :=
 ⟨_, (aI (mT (i := 6) sc_Saying_init.nd rfl (by walk_at "b") (ks := [7, 8]) ⟨rfl, by decide +kernel, by decide +kernel, by rfl, by rfl⟩ rfl (bw3 K T.cy4 (aB (pv 3) (aB (sW T.d_PARTS (pv 2)) aH))) (fun _ _ _ _ _ => (gK K 2 rfl (bV (bC (i := 7) sc_Saying_init.nd rfl (by walk_at "b")) (bV (bC (i := 8) sc_Saying_init.nd rfl (by walk_at "b")) gL)))) (fun _ _ _ _ _ => (bb4 (bM (dM K (n := bR) hr) (pv 8) cF (bP _)))) (fun _ _ _ _ _ => (pv 7)))
 (aI (mV K (pv 0) (eV (ks := [9]) ⟨rfl, by decide +kernel, by decide +kernel, by rfl, by rfl⟩ rfl (gX K (pv 6)) (fun _ _ _ _ _ => (bC (i := 9) sc_Saying_init.nd rfl (by walk_at "b"))) (fun _ _ _ _ _ => dW) (fun _ _ _ _ _ => (fU K PySem.F.plainAttrs_list PySem.F.slot_list_index PySem.F.type_list_index (bw7 K (n := bR) hr) (fN K (pv 1)) (aB (pv 9) aH)))))
 (aI (mV K (pv 0) (pv 4))
 (aI (mV K (pv 0) (pv 5))
 (aM (mV K (pv 0) (fU K PySem.F.plainAttrs_str PySem.F.slot_str_join PySem.F.type_str_join (cw2 K) cF (aB (aL (bF K) (dL (aB (pv 2) aH)) (eV (ks := [7]) ⟨rfl, by decide +kernel, by decide +kernel, by rfl, by rfl⟩ rfl (gX K (pv 3)) (fun _ _ _ _ _ => (bC (i := 7) sc_Saying_init.nd rfl (by walk_at "b"))) (fun _ _ _ _ _ => dW) (fun _ _ _ _ _ => (fY bb9 rfl T.do6 db0 (aB (pv 7) aH))))) aH)))))))), by unfold cK; walk_at "r"⟩
theorem bk1 (F : cI K mg "ink_saying" tY) (h_table : ∀ q ∈ [(c_Archive, aQ K cn 2 fJ)], gQ P w K mg base 1 q.1 "table" q.2) (yI : bY P w K mg base 1 "ages_of" ["table", "dark", "error", "greatest"] (aQ K cn 4 oM)) (bc6 : oK P w K mg base 1 "Ink" c_Ink (nH K cn "Ink" 5 xL)) : bY P w K mg base 3 "ink_saying" ["archive", "parts"] (aQ K cn 2 oZ) := by
 refine bO (d := oW) F sc_ink_saying (fun _ _ _ _ _ _ us hl => match us, hl with | [_, _], _ => rfl) (fun f cdv A outer s H E hr => ⟨_, (aI (aY (i := 2) sc_ink_saying.nd rfl (by walk_at "b") (bK yI (hr.mono (by decide)) (aB (cj0 (pv 0) h_table (hr.mono (by decide)) (aB (aP (aU K) (pv 1) aF (fun _ _ => rfl)) aH)) (aB (aP (aU K) (pv 1) aF (fun _ _ => rfl)) (aB (aP (aU K) (pv 1) aF (fun _ _ => rfl)) (aB (aL cT (fN K (pv 0)) (fN K (pv 0))) aH))))))
 (aI (cQ (bM ah9 (pv 2) eH (bP _)) (aM kT) bU)
 (aM (bD (oS bc6 (hr.mono (by decide)) (aB (pv 0) (aB cF (aB (pv 1) (aB (aL cT (fN K (pv 0)) (aP (aU K) (pv 2) aF (fun _ _ => rfl))) (aB (aL cT (fN K (pv 0)) (aP (aU K) (pv 2) aF (fun _ _ => rfl))) aH)))))))))), by unfold oW; walk_at "r"⟩) rfl (fun _ => rfl)
theorem jN (F : cI K mg "reign_called" qD)  : bY P w K mg base 1 "reign_called" ["archive", "name"] (aQ K cn 2 gP) := by
 refine bO (d := mF) F sc_reign_called (fun _ _ _ _ _ _ us hl => match us, hl with | [_, _], _ => rfl) (fun f cdv A outer s H E hr => ⟨_, (aI (iM PassesOwn.never rfl (gX K (fN K (pv 0))) (bC (i := 2) sc_reign_called.nd rfl (by walk_at "b")) (aM (cQ (bM (dM K (n := bR) hr) (aP (aU K) (pv 2) aF (fun _ _ => rfl)) (pv 1) (bP _)) (aM (bD (pv 2))) bU)))
 (aM (bD eH))), by unfold mF; walk_at "r"⟩) rfl (fun _ => rfl)
theorem lT (F : cI K mg "reign_year" uF) (dE : bY P w K mg base 2 "is_whole_from" ["some", "low", "high"] (aQ K cn 3 cN)) : bY P w K mg base 3 "reign_year" ["begin", "length", "k"] (aQ K cn 3 iP) := by
 refine bO (d := pL) F aq7 (fun _ _ _ _ _ _ us hl => match us, hl with | [_, _, _], _ => rfl) (fun f cdv A outer s H E hr => ⟨_, (aI (cQ (iN (eR K (bK dE (hr.mono (by decide)) (aB (pv 2) (aB aF (aB (pv 1) aH)))) (fun _ => rfl))) (aM (bD eH)) bU)
 (aM (bD (aL cT (aL (bF K) (pv 0) (pv 2)) aF)))), by unfold pL; walk_at "r"⟩) rfl (fun _ => rfl)
theorem ak5 (F : cI K mg "reign_saying" pY) (jN : bY P w K mg base 1 "reign_called" ["archive", "name"] (aQ K cn 2 gP)) (lT : bY P w K mg base 3 "reign_year" ["begin", "length", "k"] (aQ K cn 3 iP)) (ar5 : oK P w K mg base 1 "Reign" c_Reign (nH K cn "Reign" 5 sS)) : bY P w K mg base 4 "reign_saying" ["archive", "parts"] (aQ K cn 2 mI) := by
 refine bO (d := mP) F sc_reign_saying (fun _ _ _ _ _ _ us hl => match us, hl with | [_, _], _ => rfl) (fun f cdv A outer s H E hr => ⟨_, (aI (aY (i := 2) sc_reign_saying.nd rfl (by walk_at "b") (bK jN (hr.mono (by decide)) (aB (pv 0) (aB (aP (aU K) (pv 1) aF (fun _ _ => rfl)) aH))))
 (aI (aY (i := 3) sc_reign_saying.nd rfl (by walk_at "b") (bK lT (hr.mono (by decide)) (aB (aP (aU K) (pv 2) aF (fun _ _ => rfl)) (aB (aP (aU K) (pv 2) aF (fun _ _ => rfl)) (aB (aP (aU K) (pv 1) aF (fun _ _ => rfl)) aH)))))
 (aI (cQ (bM ah9 (pv 3) eH (bP _)) (aM kT) bU)
 (aM (bD (oS ar5 (hr.mono (by decide)) (aB (pv 0) (aB cF (aB (pv 1) (aB (pv 3) (aB (pv 3) aH))))))))))), by unfold mP; walk_at "r"⟩) rfl (fun _ => rfl)
theorem ap4 (F : cI K mg "under_saying" qH) (jN : bY P w K mg base 1 "reign_called" ["archive", "name"] (aQ K cn 2 gP)) (lT : bY P w K mg base 3 "reign_year" ["begin", "length", "k"] (aQ K cn 3 iP)) (aq4 : oK P w K mg base 1 "Under" c_Under (nH K cn "Under" 5 sL)) : bY P w K mg base 4 "under_saying" ["archive", "parts"] (aQ K cn 2 mO) := by
 refine bO (d := mQ) F sc_under_saying (fun _ _ _ _ _ _ us hl => match us, hl with | [_, _], _ => rfl) (fun f cdv A outer s H E hr => ⟨_, (aI (aY (i := 2) sc_under_saying.nd rfl (by walk_at "b") (bK jN (hr.mono (by decide)) (aB (pv 0) (aB (aP (aU K) (pv 1) aF (fun _ _ => rfl)) aH))))
 (aM (bD (oS aq4 (hr.mono (by decide)) (aB (pv 0) (aB cF (aB (pv 1) (aB (aP (aU K) (pv 2) aF (fun _ _ => rfl)) (aB (bK lT (hr.mono (by decide)) (aB (aP (aU K) (pv 2) aF (fun _ _ => rfl)) (aB (aP (aU K) (pv 2) aF (fun _ _ => rfl)) (aB (aP (aU K) (pv 2) aF (fun _ _ => rfl)) aH)))) aH))))))))), by unfold mQ; walk_at "r"⟩) rfl (fun _ => rfl)
theorem af1 (F : cI K mg "between_saying" nX) (yB : oK P w K mg base 1 "Between" c_Between (nH K cn "Between" 5 pT)) : bY P w K mg base 3 "between_saying" ["archive", "parts"] (aQ K cn 2 kG) := by
 refine bO (d := kD) F al0 (fun _ _ _ _ _ _ us hl => match us, hl with | [_, _], _ => rfl) (fun f cdv A outer s H E hr => ⟨_, (aI (cQ (bM az8 (aP (aU K) (pv 1) aF (fun _ _ => rfl)) (aP (aU K) (pv 1) aF (fun _ _ => rfl)) (bP _)) (aM kT) bU)
 (aM (bD (oS yB (hr.mono (by decide)) (aB (pv 0) (aB cF (aB (pv 1) (aB (aP (aU K) (pv 1) aF (fun _ _ => rfl)) (aB (aP (aU K) (pv 1) aF (fun _ _ => rfl)) aH))))))))), by unfold kD; walk_at "r"⟩) rfl (fun _ => rfl)
theorem am4 (F : cI K mg "after_saying" qF) (ao5 : oK P w K mg base 1 "After" c_After (nH K cn "After" 5 sC)) : bY P w K mg base 3 "after_saying" ["archive", "parts"] (aQ K cn 2 mU) := by
 refine bO (d := mH) F am2 (fun _ _ _ _ _ _ us hl => match us, hl with | [_, _], _ => rfl) (fun f cdv A outer s H E hr => ⟨_, (aM (bD (oS ao5 (hr.mono (by decide)) (aB (pv 0) (aB cF (aB (pv 1) (aB aF (aB eH aH)))))))), by unfold mH; walk_at "r"⟩) rfl (fun _ => rfl)
theorem ay7 (F : cI K mg "same_saying" rY) (bm1 : oK P w K mg base 1 "Same" c_Same (nH K cn "Same" 5 uN)) : bY P w K mg base 3 "same_saying" ["archive", "parts"] (aQ K cn 2 nQ) := by
 refine bO (d := nO) F aa5 (fun _ _ _ _ _ _ us hl => match us, hl with | [_, _], _ => rfl) (fun f cdv A outer s H E hr => ⟨_, (aM (bD (oS bm1 (hr.mono (by decide)) (aB (pv 0) (aB cF (aB (pv 1) (aB aF (aB aF aH)))))))), by unfold nO; walk_at "r"⟩) rfl (fun _ => rfl)
theorem ag3 (F : cI K mg "within_saying" pE) (ai1 : oK P w K mg base 1 "Within" c_Within (nH K cn "Within" 5 qO)) : bY P w K mg base 3 "within_saying" ["archive", "parts"] (aQ K cn 2 lF) := by
 refine bO (d := lG) F ak1 (fun _ _ _ _ _ _ us hl => match us, hl with | [_, _], _ => rfl) (fun f cdv A outer s H E hr => ⟨_, (aM (bD (oS ai1 (hr.mono (by decide)) (aB (pv 0) (aB cF (aB (pv 1) (aB aF (aB (aP (aU K) (pv 1) aF (fun _ _ => rfl)) aH)))))))), by unfold lG; walk_at "r"⟩) rfl (fun _ => rfl)
theorem ac5 (F : cI K mg "apart_saying" qK) (ae5 : oK P w K mg base 1 "Apart" c_Apart (nH K cn "Apart" 5 sR)) : bY P w K mg base 3 "apart_saying" ["archive", "parts"] (aQ K cn 2 mJ) := by
 refine bO (d := mL) F al3 (fun _ _ _ _ _ _ us hl => match us, hl with | [_, _], _ => rfl) (fun f cdv A outer s H E hr => ⟨_, (aI (cQ (bM az8 (aP (aU K) (pv 1) aF (fun _ _ => rfl)) (aP (aU K) (pv 1) aF (fun _ _ => rfl)) (bP _)) (aM kT) bU)
 (aM (bD (oS ae5 (hr.mono (by decide)) (aB (pv 0) (aB cF (aB (pv 1) (aB (aP (aU K) (pv 1) aF (fun _ _ => rfl)) (aB (aP (aU K) (pv 1) aF (fun _ _ => rfl)) aH))))))))), by unfold mL; walk_at "r"⟩) rfl (fun _ => rfl)
theorem vA (F : cI K mg "saying_of" vM) (yR : bY P w K mg base 4 "are_due" ["archive", "word", "parts"] (aQ K cn 3 oJ)) (q_MAKERS : bc5 P w K mg base 4 "MAKERS" (be6 K cn 2 tb_MAKERS)) : bY P w K mg base 5 "saying_of" ["archive", "word", "parts"] (aQ K cn 3 dI) := by
 refine bO (d := qN) F ba1 (fun _ _ _ _ _ _ us hl => match us, hl with | [_, _, _], _ => rfl) (fun f cdv A outer s H E hr => ⟨_, (aI (cQ (iN (eR K (bK yR (hr.mono (by decide)) (aB (pv 0) (aB (pv 1) (aB (pv 2) aH)))) (fun _ => rfl))) (aM kT) bU)
 (aI (cQ (PW.pt (tK (bM (dM K (n := bR) hr) (aP (aU K) (sW T.d_PARTS (pv 1)) aF (fun _ _ => rfl)) cF (bP _)) (pX (bM (dM K (n := bR) hr) (aP (aU K) (pv 2) aF (fun _ _ => rfl)) (aP (aU K) (pv 2) aF (fun _ _ => rfl)) (bP _))))) (aM kT) bU)
 (aM (bD (cn0 q_MAKERS (hr.mono (by decide)) (pv 1) (aB (pv 0) (aB (pv 2) aH))))))), by unfold qN; walk_at "r"⟩) rfl (fun _ => rfl)
theorem xR (F : cI K mg "_law_heap" xD) (vA : bY P w K mg base 5 "saying_of" ["archive", "word", "parts"] (aQ K cn 3 dI)) : bY P w K mg base 6 "_law_heap" ["_law_archive_here", "_law_told"] (aQ K cn 2 pH) := by
 refine bO (d := sA) F sc_law_heap (fun _ _ _ _ _ _ us hl => match us, hl with | [_, _], _ => rfl) (fun f cdv A outer s H E hr => ⟨_, (aM (bD (eV (ks := [2, 3, 4, 5]) ⟨rfl, by decide +kernel, by decide +kernel, by rfl, by rfl⟩ rfl (gX K (pv 1)) (fun _ _ _ _ _ => (gK K 4 rfl (bV (bC (i := 2) sc_law_heap.nd rfl (by walk_at "b")) (bV (bC (i := 3) sc_law_heap.nd rfl (by walk_at "b")) (bV (bC (i := 4) sc_law_heap.nd rfl (by walk_at "b")) (bV (bC (i := 5) sc_law_heap.nd rfl (by walk_at "b")) gL)))))) (fun _ _ _ _ _ => dW) (fun _ _ _ _ _ => (bK vA (hr.mono (by decide)) (aB (pv 0) (aB (pv 2) (aB (fY (fP K) rfl T.kQ iX (aB (pv 3) aH)) aH)))))))), by unfold sA; walk_at "r"⟩) rfl (fun _ => rfl)
theorem qM (F : cI K mg "_law_steps" vG)  : bY P w K mg base 1 "_law_steps" ["_law_frame_here", "_law_told"] (aQ K cn 2 kW) := by
 refine bO (d := qZ) F sc_law_steps (fun _ _ _ _ _ _ us hl => match us, hl with | [_, _], _ => rfl) (fun f cdv A outer s H E hr => ⟨_, (aI (aY (i := 2) sc_law_steps.nd rfl (by walk_at "b") (dL aH))
 (aI (iM PassesOwn.never rfl (iJ rfl T.jU (aB (bB (cH K) rfl T.eE dO (aB (pv 1) aH)) aH)) (bC (i := 3) sc_law_steps.nd rfl (by walk_at "b")) (aI (aY (i := 4) sc_law_steps.nd rfl (by walk_at "b") (aP (aU K) (aP (aU K) (pv 1) (pv 3) (fun _ _ => rfl)) aF (fun _ _ => rfl)))
 (aI (yG (aP (aU K) (aP (aU K) (pv 1) (pv 3) (fun _ _ => rfl)) aF (fun _ _ => rfl)) (gK K 2 rfl (bV (bC (i := 5) sc_law_steps.nd rfl (by walk_at "b")) (bV (bC (i := 6) sc_law_steps.nd rfl (by walk_at "b")) gL))))
 (aI (aY (i := 7) sc_law_steps.nd rfl (by walk_at "b") (aP (aU K) (aL (bF K) (pv 4) (cJ (aB eH aH))) aF (fun _ _ => rfl)))
 (aI (cQ (bM sZ (pv 6) eH (bP _)) (aM (fM (fU K PySem.F.plainAttrs_list PySem.F.slot_list_append PySem.F.type_list_append fK (pv 2) (aB (cJ (aB (pv 7) (aB (aP (aU K) (pv 4) aF (fun _ _ => rfl)) (aB (pv 6) (aB (pv 3) aH))))) aH)))) bU)
 (aM (cQ (bM sZ (pv 5) eH (bP _)) (aM (fM (fU K PySem.F.plainAttrs_list PySem.F.slot_list_append PySem.F.type_list_append fK (pv 2) (aB (cJ (aB (aP (aU K) (pv 4) aF (fun _ _ => rfl)) (aB (pv 7) (aB (aL cT aF (pv 5)) (aB (pv 3) aH))))) aH)))) bU)))))))
 (aI (iM PassesOwn.never rfl (iJ rfl T.jU (aB (bB (cH K) rfl T.eE dO (aB (aP (aU K) (pv 0) aF (fun _ _ => rfl)) aH)) aH)) (bC (i := 8) sc_law_steps.nd rfl (by walk_at "b")) (aI (fM (fU K PySem.F.plainAttrs_list PySem.F.slot_list_append PySem.F.type_list_append fK (pv 2) (aB (cJ (aB eH (aB (pv 8) (aB (aP (aU K) (pv 0) aF (fun _ _ => rfl)) (aB eH aH))))) aH)))
 (aM (fM (fU K PySem.F.plainAttrs_list PySem.F.slot_list_append PySem.F.type_list_append fK (pv 2) (aB (cJ (aB (pv 8) (aB eH (aB (aL cT aF (aP (aU K) (pv 0) aF (fun _ _ => rfl))) (aB eH aH))))) aH))))))
 (aM (bD (pv 2)))))), by unfold qZ; walk_at "r"⟩) rfl (fun _ => rfl)
theorem fZ  (f : Addr) (cdv : Value) (A : Around) (outer : List Env) (s : Shared) (H : Hp) (E : XK) (hr : Room 0 (A.deeper (PyProof.Rows.envOfC "Saying.shown" (aO bZ) s.heap.objs.size f cdv))) :
 ∃ t, PSs (lM jP P w K mg base ["self"] "Saying.shown" (aO bZ) f cdv A outer s H E).nox (dU bZ) t ∧ RS [] K cn E t dR :=
 ⟨_, (aM (bD (fN K (pv 0)))), by unfold dR; walk_at "r"⟩
theorem vC (F : cI K mg "_law_years" vE)  : bY P w K mg base 1 "_law_years" ["_law_cell_here", "_law_frame_here", "_law_hidden_here"] (aQ K cn 3 nL) := by
 refine bO (d := rA) F sc_law_years (fun _ _ _ _ _ _ us hl => match us, hl with | [_, _, _], _ => rfl) (fun f cdv A outer s H E hr => ⟨_, (aI (aY (i := 0) sc_law_years.nd rfl (by walk_at "b") (aL bL (pv 0) (aL av2 aF aF)))
 (aI (aY (i := 3) sc_law_years.nd rfl (by walk_at "b") (fY (fP K) rfl T.kQ iX (aB (pv 2) aH)))
 (aI (aY (i := 4) sc_law_years.nd rfl (by walk_at "b") (aL bL (aL eJ (pv 0) aF) (bB (cH K) rfl T.eE dO (aB (pv 3) aH))))
 (aI (cQ (bM zZ (aL bL (pv 0) aF) aF (bP _)) (aM (yG (aL cT (aL (bF K) (aP (aU K) (pv 3) (pv 4) (fun _ _ => rfl)) (aL bL (aL eJ (pv 0) aF) aF)) aF) (bj9 (pv 3) (pv 4) bz0))) (aM (cQ (bM (dM K (n := bR) hr) (aL bL (pv 0) aF) aF (bP _)) (aI (aY (i := 5) sc_law_years.nd rfl (by walk_at "b") (aL cT (aP (aU K) (pv 1) aF (fun _ _ => rfl)) aF))
 (aI (aY (i := 6) sc_law_years.nd rfl (by walk_at "b") (aL (bF K) (aL cT (aP (aU K) (pv 1) aF (fun _ _ => rfl)) (pv 5)) aF))
 (aM (yG (aL (bF K) (pv 5) (aL bL (aL eJ (pv 0) aF) (pv 6))) (bj9 (pv 3) (pv 4) bz0))))) (aM (cQ (bM (dM K (n := bR) hr) (aL bL (pv 0) aF) aF (bP _)) (aM (aY (i := 3) sc_law_years.nd rfl (by walk_at "b") (aL (cl5 K) (dL (aB (aP (aU K) (dL (aB (aP (aU K) (pv 1) aF (fun _ _ => rfl)) (aB (aP (aU K) (pv 1) aF (fun _ _ => rfl)) aH))) (aL bL (aL eJ (pv 0) aF) aF) (fun _ _ => rfl)) aH)) (bB (cH K) rfl T.eE dO (aB (pv 3) aH))))) (aM (cQ (bM (dM K (n := bR) hr) (aL bL (pv 0) aF) aF (bP _)) (aM (aY (i := 3) sc_law_years.nd rfl (by walk_at "b") (aL (bF K) (pv 3) (dL (aB (aP (aU K) (pv 3) (pv 4) (fun _ _ => rfl)) aH))))) (aM (cQ (bM (dM K (n := bR) hr) (aL bL (pv 0) aF) aF (bP _)) (aM (fM (fU K PySem.F.plainAttrs_list PySem.F.slot_list_pop PySem.F.type_list_pop cf3 (pv 3) (aB (pv 4) aH)))) bU)))))))))
 (aM (bD (pv 3))))))), by unfold rA; walk_at "r"⟩) rfl (fun _ => rfl)
theorem fT  (f : Addr) (cdv : Value) (A : Around) (outer : List Env) (s : Shared) (H : Hp) (E : XK) (hr : Room 0 (A.deeper (PyProof.Rows.envOfC "Saying.about" (aO cD) s.heap.objs.size f cdv))) :
 ∃ t, PSs (lM jP P w K mg base ["self"] "Saying.about" (aO cD) f cdv A outer s H E).nox (dU cD) t ∧ RS [] K cn E t dS :=
 ⟨_, (aM (bD (fY (fP K) rfl T.kQ iX (aB (fN K (pv 0)) aH)))), by unfold dS; walk_at "r"⟩
theorem fI  (f : Addr) (cdv : Value) (A : Around) (outer : List Env) (s : Shared) (H : Hp) (E : XK) (hr : Room 0 (A.deeper (PyProof.Rows.envOfC "Saying.bounds" (aO bW) s.heap.objs.size f cdv))) :
 ∃ t, PSs (lM jP P w K mg base ["self"] "Saying.bounds" (aO bW) f cdv A outer s H E).nox (dU bW) t ∧ RS [] K cn E t dJ :=
 ⟨_, (aM (bD (cJ (aB (fN K (pv 0)) (aB (fN K (pv 0)) aH))))), by unfold dJ; walk_at "r"⟩
theorem qJ (F : cI K mg "saying_steps" qB) (h_about : ∀ q ∈ [(c_Ink, aQ K cn 1 aX), (c_Reign, aQ K cn 1 aX), (c_Under, aQ K cn 1 aX), (c_Between, aQ K cn 1 aX), (c_After, aQ K cn 1 aX), (c_Same, aQ K cn 1 aX), (c_Within, aQ K cn 1 aX), (c_Apart, aQ K cn 1 aX)], gQ P w K mg base 1 q.1 "about" q.2) (h_bounds : ∀ q ∈ [(c_Ink, aQ K cn 1 aR), (c_Reign, aQ K cn 1 aR), (c_Under, aQ K cn 1 aR), (c_Between, aQ K cn 1 aR), (c_After, aQ K cn 1 aR), (c_Same, aQ K cn 1 aR), (c_Within, aQ K cn 1 aR), (c_Apart, aQ K cn 1 aR)], gQ P w K mg base 1 q.1 "bounds" q.2) : bY P w K mg base 2 "saying_steps" ["saying", "number"] (aQ K cn 2 jM) := by
 refine bO (d := mK) F sc_saying_steps (fun _ _ _ _ _ _ us hl => match us, hl with | [_, _], _ => rfl) (fun f cdv A outer s H E hr => ⟨_, (aI (aY (i := 2) sc_saying_steps.nd rfl (by walk_at "b") (uV (pv 0) h_about (hr.mono (by decide))))
 (aI (aY (i := 3) sc_saying_steps.nd rfl (by walk_at "b") (uV (pv 0) h_bounds (hr.mono (by decide))))
 (aI (aY (i := 4) sc_saying_steps.nd rfl (by walk_at "b") (as1 (bM (dM K (n := bR) hr) (bB (cH K) rfl T.eE dO (aB (pv 2) aH)) aF (bP _)) (aP (aU K) (pv 2) aF (fun _ _ => rfl)) eH))
 (aI (aY (i := 5) sc_saying_steps.nd rfl (by walk_at "b") (dL aH))
 (aI (cQ (bM sZ (aP (aU K) (pv 3) aF (fun _ _ => rfl)) eH (bP _)) (aM (fM (fU K PySem.F.plainAttrs_list PySem.F.slot_list_append PySem.F.type_list_append fK (pv 5) (aB (cJ (aB (pv 4) (aB (aP (aU K) (pv 2) aF (fun _ _ => rfl)) (aB (aP (aU K) (pv 3) aF (fun _ _ => rfl)) (aB (pv 1) aH))))) aH)))) bU)
 (aI (cQ (bM sZ (aP (aU K) (pv 3) aF (fun _ _ => rfl)) eH (bP _)) (aM (fM (fU K PySem.F.plainAttrs_list PySem.F.slot_list_append PySem.F.type_list_append fK (pv 5) (aB (cJ (aB (aP (aU K) (pv 2) aF (fun _ _ => rfl)) (aB (pv 4) (aB (aL cT aF (aP (aU K) (pv 3) aF (fun _ _ => rfl))) (aB (pv 1) aH))))) aH)))) bU)
 (aM (bD (pv 5))))))))), by unfold mK; walk_at "r"⟩) rfl (fun _ => rfl)
theorem tQ (F : cI K mg "span_steps" uA)  : bY P w K mg base 1 "span_steps" ["archive", "letter"] (aQ K cn 2 lR) := by
 refine bO (d := pR) F az7 (fun _ _ _ _ _ _ us hl => match us, hl with | [_, _], _ => rfl) (fun f cdv A outer s H E hr => ⟨_, (aM (bD (dL (aB (cJ (aB eH (aB (pv 1) (aB (fN K (pv 0)) (aB eH aH))))) (aB (cJ (aB (pv 1) (aB eH (aB (aL cT aF (fN K (pv 0))) (aB eH aH))))) aH))))), by unfold pR; walk_at "r"⟩) rfl (fun _ => rfl)
theorem xQ (F : cI K mg "steps_of" xO) (qJ : bY P w K mg base 2 "saying_steps" ["saying", "number"] (aQ K cn 2 jM)) (tQ : bY P w K mg base 1 "span_steps" ["archive", "letter"] (aQ K cn 2 lR)) : bY P w K mg base 3 "steps_of" ["archive", "sayings"] (aQ K cn 2 oT) := by
 refine bO (d := sJ) F sc_steps_of (fun _ _ _ _ _ _ us hl => match us, hl with | [_, _], _ => rfl) (fun f cdv A outer s H E hr => ⟨_, (aI (aY (i := 2) sc_steps_of.nd rfl (by walk_at "b") (dL aH))
 (aI (iM PassesOwn.never rfl (cp2 K T.bq2 (aB (pv 1) aH)) (gK K 2 rfl (bV (bC (i := 3) sc_steps_of.nd rfl (by walk_at "b")) (bV (bC (i := 4) sc_steps_of.nd rfl (by walk_at "b")) gL))) (aM (fM (fU K PySem.F.plainAttrs_list PySem.F.slot_list_extend PySem.F.type_list_extend ad7 (pv 2) (aB (bK qJ (hr.mono (by decide)) (aB (pv 4) (aB (pv 3) aH))) aH)))))
 (aI (iM PassesOwn.never rfl (iJ rfl T.jU (aB (bB (cH K) rfl T.eE dO (aB (fN K (pv 0)) aH)) aH)) (bC (i := 5) sc_steps_of.nd rfl (by walk_at "b")) (aM (fM (fU K PySem.F.plainAttrs_list PySem.F.slot_list_extend PySem.F.type_list_extend ad7 (pv 2) (aB (bK tQ (hr.mono (by decide)) (aB (pv 0) (aB (pv 5) aH))) aH)))))
 (aM (bD (pv 2)))))), by unfold sJ; walk_at "r"⟩) rfl (fun _ => rfl)
theorem sN (F : cI K mg "place_of" wP)  : bY P w K mg base 1 "place_of" ["end", "ground"] (aQ K cn 2 iG) := by
 refine bO (d := pC) F bm2 (fun _ _ _ _ _ _ us hl => match us, hl with | [_, _], _ => rfl) (fun f cdv A outer s H E hr => ⟨_, (aM (bD (as1 (bM ah9 (pv 0) eH (bP _)) (pv 1) (pv 0)))), by unfold pC; walk_at "r"⟩) rfl (fun _ => rfl)
theorem yX (F : cI K mg "is_kept" zH) (sN : bY P w K mg base 1 "place_of" ["end", "ground"] (aQ K cn 2 iG)) : bY P w K mg base 2 "is_kept" ["step", "years"] (aQ K cn 2 lX) := by
 refine bO (d := uO) F sc_is_kept (fun _ _ _ _ _ _ us hl => match us, hl with | [_, _], _ => rfl) (fun f cdv A outer s H E hr => ⟨_, (aI (aY (i := 2) sc_is_kept.nd rfl (by walk_at "b") (aL cT (bB (cH K) rfl T.eE dO (aB (pv 1) aH)) aF))
 (aM (bD (jT kK (aP (aU K) (pv 1) (bK sN (hr.mono (by decide)) (aB (aP (aU K) (pv 0) aF (fun _ _ => rfl)) (aB (pv 2) aH))) (fun _ _ => rfl)) (aL (bF K) (aP (aU K) (pv 1) (bK sN (hr.mono (by decide)) (aB (aP (aU K) (pv 0) aF (fun _ _ => rfl)) (aB (pv 2) aH))) (fun _ _ => rfl)) (aP (aU K) (pv 0) aF (fun _ _ => rfl))) (bP _))))), by unfold uO; walk_at "r"⟩) rfl (fun _ => rfl)
theorem af0 (F : cI K mg "holds" at5) (oR : bY P w K mg base 1 "is_whole" ["some"] (aQ K cn 1 gU)) (xQ : bY P w K mg base 3 "steps_of" ["archive", "sayings"] (aQ K cn 2 oT)) (yX : bY P w K mg base 2 "is_kept" ["step", "years"] (aQ K cn 2 lX)) : bY P w K mg base 4 "holds" ["archive", "sayings", "years"] (aQ K cn 3 tF) := by
 refine bO (d := ag0) F sc_holds (fun _ _ _ _ _ _ us hl => match us, hl with | [_, _, _], _ => rfl) (fun f cdv A outer s H E hr => ⟨_, (aI (cQ (PW.pt (wO (bM (zJ K (n := bR) hr) (bB (cH K) rfl T.eE dO (aB (pv 2) aH)) (bB (cH K) rfl T.eE dO (aB (fN K (pv 0)) aH)) (bP _)) (wA (iN (eR K (bB (iZ K) rfl T.sU oQ (aB (eV (ks := [4]) ⟨rfl, by decide +kernel, by decide +kernel, by rfl, by rfl⟩ rfl (gX K (pv 2)) (fun _ _ _ _ _ => (bC (i := 4) sc_holds.nd rfl (by walk_at "b"))) (fun _ _ _ _ _ => dW) (fun _ _ _ _ _ => (bK oR (hr.mono (by decide)) (aB (pv 4) aH)))) aH)) (fun _ => rfl)))))) (aM (bD mM)) bU)
 (aI (aY (i := 3) sc_holds.nd rfl (by walk_at "b") (aL (bF K) (pv 2) (dL (aB aF aH))))
 (aM (bD (bB (iZ K) rfl T.sU oQ (aB (eV (ks := [5]) ⟨rfl, by decide +kernel, by decide +kernel, by rfl, by rfl⟩ rfl (gX K (bK xQ (hr.mono (by decide)) (aB (pv 0) (aB (pv 1) aH)))) (fun _ _ _ _ _ => (bC (i := 5) sc_holds.nd rfl (by walk_at "b"))) (fun _ _ _ _ _ => dW) (fun _ _ _ _ _ => (bK yX (hr.mono (by decide)) (aB (pv 5) (aB (pv 3) aH))))) aH)))))), by unfold ag0; walk_at "r"⟩) rfl (fun _ => rfl)
theorem qW (F : cI K mg "_law_holds" vQ)  : bY P w K mg base 1 "_law_holds" ["_law_years_here", "_law_steps_here"] (aQ K cn 2 iI) := by
 refine bO (d := qP) F sc_law_holds (fun _ _ _ _ _ _ us hl => match us, hl with | [_, _], _ => rfl) (fun f cdv A outer s H E hr => ⟨_, (aI (iM PassesOwn.never rfl (gX K (pv 1)) (gK K 4 rfl (bV (bC (i := 2) sc_law_holds.nd rfl (by walk_at "b")) (bV (bC (i := 3) sc_law_holds.nd rfl (by walk_at "b")) (bV (bC (i := 4) sc_law_holds.nd rfl (by walk_at "b")) (bV (bC (i := 5) sc_law_holds.nd rfl (by walk_at "b")) gL))))) (aI (aY (i := 6) sc_law_holds.nd rfl (by walk_at "b") aF)
 (aI (aY (i := 7) sc_law_holds.nd rfl (by walk_at "b") aF)
 (aI (cQ (bM sZ (pv 2) eH (bP _)) (aM (aY (i := 6) sc_law_holds.nd rfl (by walk_at "b") (aP (aU K) (pv 0) (pv 2) (fun _ _ => rfl)))) bU)
 (aI (cQ (bM sZ (pv 3) eH (bP _)) (aM (aY (i := 7) sc_law_holds.nd rfl (by walk_at "b") (aP (aU K) (pv 0) (pv 3) (fun _ _ => rfl)))) bU)
 (aM (cQ (bM az8 (pv 7) (aL (bF K) (pv 6) (pv 4)) (bP _)) (aM (bD mM)) bU)))))))
 (aM (bD mM))), by unfold qP; walk_at "r"⟩) rfl (fun _ => rfl)
theorem dg2 {f : Addr} {fd : FuncData} (F : Fun K "law" "law" sM f fd) (uZ : bY P w K mg base 2 "_law_frame" ["_law_script", "_law_most"] (aQ K cn 2 nJ)) (kH : bY P w K mg base 1 "_law_cell" ["_law_script", "_law_at"] (aQ K cn 2 gG)) (tO : bY P w K mg base 3 "_law_hidden" ["_law_cell_here", "_law_frame_here"] (aQ K cn 2 lL)) (rX : bY P w K mg base 3 "_law_sayings" ["_law_cells", "_law_frame_here", "_law_false", "_law_hidden_here"] (aQ K cn 4 kO)) (rS : bY P w K mg base 7 "_law_archive" ["_law_frame_here"] (aQ K cn 1 kP)) (xR : bY P w K mg base 6 "_law_heap" ["_law_archive_here", "_law_told"] (aQ K cn 2 pH)) (qM : bY P w K mg base 1 "_law_steps" ["_law_frame_here", "_law_told"] (aQ K cn 2 kW)) (h_shown : ∀ q ∈ [(c_Ink, aQ K cn 1 aW), (c_Reign, aQ K cn 1 aW), (c_Under, aQ K cn 1 aW), (c_Between, aQ K cn 1 aW), (c_After, aQ K cn 1 aW), (c_Same, aQ K cn 1 aW), (c_Within, aQ K cn 1 aW), (c_Apart, aQ K cn 1 aW)], gQ P w K mg base 1 q.1 "shown" q.2) (vC : bY P w K mg base 1 "_law_years" ["_law_cell_here", "_law_frame_here", "_law_hidden_here"] (aQ K cn 3 nL)) (af0 : bY P w K mg base 4 "holds" ["archive", "sayings", "years"] (aQ K cn 3 tF)) (qW : bY P w K mg base 1 "_law_holds" ["_law_years_here", "_law_steps_here"] (aQ K cn 2 iI)) : FnOk P w K mg base jP 8 f fd ["_law_script"] (aQ K cn 1 av8) := by
 refine av4 (d := ay8) F sc_law (fun cdv A outer s H E hr => ⟨_, (aI (aY (i := 1) sc_law.nd rfl (by walk_at "b") (bK uZ (hr.mono (by decide)) (aB (pv 0) (aB aF aH))))
 (aI (aY (i := 2) sc_law.nd rfl (by walk_at "b") (iC (rQ K) (pv 0) (hU aF) (hU aF)))
 (aI (aY (i := 3) sc_law.nd rfl (by walk_at "b") (bK tO (hr.mono (by decide)) (aB (aL eJ (bK kH (hr.mono (by decide)) (aB (pv 0) (aB aF aH))) aF) (aB (pv 1) aH))))
 (aI (aY (i := 4) sc_law.nd rfl (by walk_at "b") (bK rX (hr.mono (by decide)) (aB (pv 2) (aB (pv 1) (aB (jT (dM K (n := bR) hr) (aL bL (bK kH (hr.mono (by decide)) (aB (pv 0) (aB aF aH))) aF) aF (bP _)) (aB (pv 3) aH))))))
 (aI (aY (i := 5) sc_law.nd rfl (by walk_at "b") (bK rS (hr.mono (by decide)) (aB (pv 1) aH)))
 (aI (aY (i := 6) sc_law.nd rfl (by walk_at "b") (bK xR (hr.mono (by decide)) (aB (pv 5) (aB (pv 4) aH))))
 (aI (aY (i := 7) sc_law.nd rfl (by walk_at "b") (bK qM (hr.mono (by decide)) (aB (pv 1) (aB (pv 4) aH))))
 (aI (mT (i := 8) sc_law.nd rfl (by walk_at "b") (ks := [18]) ⟨rfl, by decide +kernel, by decide +kernel, by rfl, by rfl⟩ rfl (gX K (pv 6)) (fun _ _ _ _ _ => (bC (i := 18) sc_law.nd rfl (by walk_at "b"))) (fun _ _ _ _ _ => dW) (fun _ _ _ _ _ => (uV (pv 18) h_shown (hr.mono (by decide)))))
 (aI (aY (i := 9) sc_law.nd rfl (by walk_at "b") (aL bL (aL eJ (bK kH (hr.mono (by decide)) (aB (pv 0) (aB aF aH))) aF) (aL (bF K) (bB (cH K) rfl T.eE dO (aB (pv 4) aH)) aF)))
 (aI (aY (i := 10) sc_law.nd rfl (by walk_at "b") (aL (bF K) (iC (rQ K) (pv 6) kY (hU (pv 9))) (iC (rQ K) (pv 6) (hU (aL (bF K) (pv 9) aF)) kY)))
 (aI (aY (i := 11) sc_law.nd rfl (by walk_at "b") (bK qM (hr.mono (by decide)) (aB (pv 1) (aB (aL (bF K) (iC (rQ K) (pv 4) kY (hU (pv 9))) (iC (rQ K) (pv 4) (hU (aL (bF K) (pv 9) aF)) kY)) aH))))
 (aI (aY (i := 12) sc_law.nd rfl (by walk_at "b") (bB (cH K) rfl T.eE dO (aB (aP (aU K) (pv 1) aF (fun _ _ => rfl)) aH)))
 (aI (iM PassesOwn.never rfl (gX K (aL (bF K) (iC (rQ K) (pv 0) (hU aF) (hU aF)) (dL (aB aF (aB aF aH))))) (bC (i := 13) sc_law.nd rfl (by walk_at "b")) (aI (aY (i := 14) sc_law.nd rfl (by walk_at "b") (bK vC (hr.mono (by decide)) (aB (pv 13) (aB (pv 1) (aB (pv 3) aH)))))
 (aI (aY (i := 15) sc_law.nd rfl (by walk_at "b") (fY (fP K) rfl T.kQ iX (aB (pv 14) aH)))
 (aI (aY (i := 16) sc_law.nd rfl (by walk_at "b") (bK af0 (hr.mono (by decide)) (aB (pv 5) (aB (pv 6) (aB (pv 15) aH)))))
 (aI (aY (i := 17) sc_law.nd rfl (by walk_at "b") (tJ (jT (dM K (n := bR) hr) (bB (cH K) rfl T.eE dO (aB (pv 14) aH)) (pv 12) (bP _)) (tP (bK qW (hr.mono (by decide)) (aB (pv 14) (aB (pv 7) aH))))))
 (aI (cQ (PW.pt (wO (iN (eR K (bB (zR K) rfl T.uM rP (aB (pv 16) (aB (bg5 T.bp9 bf3) aH))) (fun _ => rfl))) (wO (bM (zJ K (n := bR) hr) (pv 16) (pv 17) (bP _)) (wA (bM (zJ K (n := bR) hr) (pv 15) (pv 14) (bP _)))))) (aM (bD mM)) bU)
 (aM (cQ (bM (zJ K (n := bR) hr) (bK af0 (hr.mono (by decide)) (aB (pv 5) (aB (pv 10) (aB (pv 15) aH)))) (tJ (jT (dM K (n := bR) hr) (bB (cH K) rfl T.eE dO (aB (pv 14) aH)) (pv 12) (bP _)) (tP (bK qW (hr.mono (by decide)) (aB (pv 14) (aB (pv 11) aH))))) (bP _)) (aM (bD mM)) bU))))))))
 (aM (bD (jT (dM K (n := bR) hr) (eV (ks := [18]) ⟨rfl, by decide +kernel, by decide +kernel, by rfl, by rfl⟩ rfl (gX K (pv 6)) (fun _ _ _ _ _ => (bC (i := 18) sc_law.nd rfl (by walk_at "b"))) (fun _ _ _ _ _ => dW) (fun _ _ _ _ _ => (uV (pv 18) h_shown (hr.mono (by decide))))) (pv 8) (bP _))))))))))))))))), by unfold ay8; walk_at "r"⟩) rfl (fun _ => rfl)
theorem zP (F : jK K mg "Archive" c_Archive "Archive.__init__" iK) (nG : bY P w K mg base 3 "are_years" ["first", "present"] (aQ K cn 2 kU)) (gS : bY P w K mg base 3 "are_names" ["names", "least", "most"] (aQ K cn 3 gE)) (pN : bY P w K mg base 4 "are_inks" ["inks"] (aQ K cn 1 mW)) (lN : bY P w K mg base 4 "are_reigns" ["reigns"] (aQ K cn 1 jJ)) : oK P w K mg base 5 "Archive" c_Archive (nH K cn "Archive" 5 lO) :=
 iY (d := jI) F sc_Archive_init (fun _ _ _ _ _ _ us hl => match us, hl with | [_, _, _, _, _, _], _ => rfl) (ag5 T nG gS pN lN) rfl (fun _ => rfl)
theorem bc6 (F : jK K mg "Ink" c_Ink "Saying.__init__" cL)  : oK P w K mg base 1 "Ink" c_Ink (nH K cn "Ink" 5 xL) :=
 iY (d := cK) F sc_Saying_init (fun _ _ _ _ _ _ us hl => match us, hl with | [_, _, _, _, _, _], _ => rfl) (gM T ) rfl (fun _ => rfl)
theorem ar5 (F : jK K mg "Reign" c_Reign "Saying.__init__" cL)  : oK P w K mg base 1 "Reign" c_Reign (nH K cn "Reign" 5 sS) :=
 iY (d := cK) F sc_Saying_init (fun _ _ _ _ _ _ us hl => match us, hl with | [_, _, _, _, _, _], _ => rfl) (gM T ) rfl (fun _ => rfl)
theorem aq4 (F : jK K mg "Under" c_Under "Saying.__init__" cL)  : oK P w K mg base 1 "Under" c_Under (nH K cn "Under" 5 sL) :=
 iY (d := cK) F sc_Saying_init (fun _ _ _ _ _ _ us hl => match us, hl with | [_, _, _, _, _, _], _ => rfl) (gM T ) rfl (fun _ => rfl)
theorem yB (F : jK K mg "Between" c_Between "Saying.__init__" cL)  : oK P w K mg base 1 "Between" c_Between (nH K cn "Between" 5 pT) :=
 iY (d := cK) F sc_Saying_init (fun _ _ _ _ _ _ us hl => match us, hl with | [_, _, _, _, _, _], _ => rfl) (gM T ) rfl (fun _ => rfl)
theorem ao5 (F : jK K mg "After" c_After "Saying.__init__" cL)  : oK P w K mg base 1 "After" c_After (nH K cn "After" 5 sC) :=
 iY (d := cK) F sc_Saying_init (fun _ _ _ _ _ _ us hl => match us, hl with | [_, _, _, _, _, _], _ => rfl) (gM T ) rfl (fun _ => rfl)
theorem bm1 (F : jK K mg "Same" c_Same "Saying.__init__" cL)  : oK P w K mg base 1 "Same" c_Same (nH K cn "Same" 5 uN) :=
 iY (d := cK) F sc_Saying_init (fun _ _ _ _ _ _ us hl => match us, hl with | [_, _, _, _, _, _], _ => rfl) (gM T ) rfl (fun _ => rfl)
theorem ai1 (F : jK K mg "Within" c_Within "Saying.__init__" cL)  : oK P w K mg base 1 "Within" c_Within (nH K cn "Within" 5 qO) :=
 iY (d := cK) F sc_Saying_init (fun _ _ _ _ _ _ us hl => match us, hl with | [_, _, _, _, _, _], _ => rfl) (gM T ) rfl (fun _ => rfl)
theorem ae5 (F : jK K mg "Apart" c_Apart "Saying.__init__" cL)  : oK P w K mg base 1 "Apart" c_Apart (nH K cn "Apart" 5 sR) :=
 iY (d := cK) F sc_Saying_init (fun _ _ _ _ _ _ us hl => match us, hl with | [_, _, _, _, _, _], _ => rfl) (gM T ) rfl (fun _ => rfl)
theorem ae3 (F : dD K c_Archive "table" "Archive.table" gZ)  : gQ P w K mg base 1 c_Archive "table" (aQ K cn 2 fJ) :=
 cX (d := jB) F T.mY sc_Archive_table (fun _ _ _ _ _ _ us hl => match us, hl with | [_, _], _ => rfl) (ab3 T ) rfl (fun _ => rfl) (by decide)
theorem bn2 (F : dD K c_Ink "about" "Saying.about" cD)  : gQ P w K mg base 1 c_Ink "about" (aQ K cn 1 aX) :=
 cX (d := dS) F T.uL fL (fun _ _ _ _ _ _ us hl => match us, hl with | [_], _ => rfl) (fT T ) rfl (fun _ => rfl) (by decide)
theorem aw7 (F : dD K c_Reign "about" "Saying.about" cD)  : gQ P w K mg base 1 c_Reign "about" (aQ K cn 1 aX) :=
 cX (d := dS) F T.nZ fL (fun _ _ _ _ _ _ us hl => match us, hl with | [_], _ => rfl) (fT T ) rfl (fun _ => rfl) (by decide)
theorem av7 (F : dD K c_Under "about" "Saying.about" cD)  : gQ P w K mg base 1 c_Under "about" (aQ K cn 1 aX) :=
 cX (d := dS) F T.oA fL (fun _ _ _ _ _ _ us hl => match us, hl with | [_], _ => rfl) (fT T ) rfl (fun _ => rfl) (by decide)
theorem ah2 (F : dD K c_Between "about" "Saying.about" cD)  : gQ P w K mg base 1 c_Between "about" (aQ K cn 1 aX) :=
 cX (d := dS) F T.kN fL (fun _ _ _ _ _ _ us hl => match us, hl with | [_], _ => rfl) (fT T ) rfl (fun _ => rfl) (by decide)
theorem ax7 (F : dD K c_After "about" "Saying.about" cD)  : gQ P w K mg base 1 c_After "about" (aQ K cn 1 aX) :=
 cX (d := dS) F T.oB fL (fun _ _ _ _ _ _ us hl => match us, hl with | [_], _ => rfl) (fT T ) rfl (fun _ => rfl) (by decide)
theorem bd0 (F : dD K c_Same "about" "Saying.about" cD)  : gQ P w K mg base 1 c_Same "about" (aQ K cn 1 aX) :=
 cX (d := dS) F T.qL fL (fun _ _ _ _ _ _ us hl => match us, hl with | [_], _ => rfl) (fT T ) rfl (fun _ => rfl) (by decide)
theorem au4 (F : dD K c_Within "about" "Saying.about" cD)  : gQ P w K mg base 1 c_Within "about" (aQ K cn 1 aX) :=
 cX (d := dS) F T.mC fL (fun _ _ _ _ _ _ us hl => match us, hl with | [_], _ => rfl) (fT T ) rfl (fun _ => rfl) (by decide)
theorem as7 (F : dD K c_Apart "about" "Saying.about" cD)  : gQ P w K mg base 1 c_Apart "about" (aQ K cn 1 aX) :=
 cX (d := dS) F T.nY fL (fun _ _ _ _ _ _ us hl => match us, hl with | [_], _ => rfl) (fT T ) rfl (fun _ => rfl) (by decide)
theorem ad9 (F : dD K c_Ink "bounds" "Saying.bounds" bW)  : gQ P w K mg base 1 c_Ink "bounds" (aQ K cn 1 aR) :=
 cX (d := dJ) F T.uL eQ (fun _ _ _ _ _ _ us hl => match us, hl with | [_], _ => rfl) (fI T ) rfl (fun _ => rfl) (by decide)
theorem al5 (F : dD K c_Reign "bounds" "Saying.bounds" bW)  : gQ P w K mg base 1 c_Reign "bounds" (aQ K cn 1 aR) :=
 cX (d := dJ) F T.nZ eQ (fun _ _ _ _ _ _ us hl => match us, hl with | [_], _ => rfl) (fI T ) rfl (fun _ => rfl) (by decide)
theorem ay4 (F : dD K c_Under "bounds" "Saying.bounds" bW)  : gQ P w K mg base 1 c_Under "bounds" (aQ K cn 1 aR) :=
 cX (d := dJ) F T.oA eQ (fun _ _ _ _ _ _ us hl => match us, hl with | [_], _ => rfl) (fI T ) rfl (fun _ => rfl) (by decide)
theorem an1 (F : dD K c_Between "bounds" "Saying.bounds" bW)  : gQ P w K mg base 1 c_Between "bounds" (aQ K cn 1 aR) :=
 cX (d := dJ) F T.kN eQ (fun _ _ _ _ _ _ us hl => match us, hl with | [_], _ => rfl) (fI T ) rfl (fun _ => rfl) (by decide)
theorem au5 (F : dD K c_After "bounds" "Saying.bounds" bW)  : gQ P w K mg base 1 c_After "bounds" (aQ K cn 1 aR) :=
 cX (d := dJ) F T.oB eQ (fun _ _ _ _ _ _ us hl => match us, hl with | [_], _ => rfl) (fI T ) rfl (fun _ => rfl) (by decide)
theorem at7 (F : dD K c_Same "bounds" "Saying.bounds" bW)  : gQ P w K mg base 1 c_Same "bounds" (aQ K cn 1 aR) :=
 cX (d := dJ) F T.qL eQ (fun _ _ _ _ _ _ us hl => match us, hl with | [_], _ => rfl) (fI T ) rfl (fun _ => rfl) (by decide)
theorem as2 (F : dD K c_Within "bounds" "Saying.bounds" bW)  : gQ P w K mg base 1 c_Within "bounds" (aQ K cn 1 aR) :=
 cX (d := dJ) F T.mC eQ (fun _ _ _ _ _ _ us hl => match us, hl with | [_], _ => rfl) (fI T ) rfl (fun _ => rfl) (by decide)
theorem ab5 (F : dD K c_Apart "bounds" "Saying.bounds" bW)  : gQ P w K mg base 1 c_Apart "bounds" (aQ K cn 1 aR) :=
 cX (d := dJ) F T.nY eQ (fun _ _ _ _ _ _ us hl => match us, hl with | [_], _ => rfl) (fI T ) rfl (fun _ => rfl) (by decide)
theorem bi2 (F : dD K c_Ink "shown" "Saying.shown" bZ)  : gQ P w K mg base 1 c_Ink "shown" (aQ K cn 1 aW) :=
 cX (d := dR) F T.uL fG (fun _ _ _ _ _ _ us hl => match us, hl with | [_], _ => rfl) (fZ T ) rfl (fun _ => rfl) (by decide)
theorem aa8 (F : dD K c_Reign "shown" "Saying.shown" bZ)  : gQ P w K mg base 1 c_Reign "shown" (aQ K cn 1 aW) :=
 cX (d := dR) F T.nZ fG (fun _ _ _ _ _ _ us hl => match us, hl with | [_], _ => rfl) (fZ T ) rfl (fun _ => rfl) (by decide)
theorem ab8 (F : dD K c_Under "shown" "Saying.shown" bZ)  : gQ P w K mg base 1 c_Under "shown" (aQ K cn 1 aW) :=
 cX (d := dR) F T.oA fG (fun _ _ _ _ _ _ us hl => match us, hl with | [_], _ => rfl) (fZ T ) rfl (fun _ => rfl) (by decide)
theorem ad2 (F : dD K c_Between "shown" "Saying.shown" bZ)  : gQ P w K mg base 1 c_Between "shown" (aQ K cn 1 aW) :=
 cX (d := dR) F T.kN fG (fun _ _ _ _ _ _ us hl => match us, hl with | [_], _ => rfl) (fZ T ) rfl (fun _ => rfl) (by decide)
theorem ac8 (F : dD K c_After "shown" "Saying.shown" bZ)  : gQ P w K mg base 1 c_After "shown" (aQ K cn 1 aW) :=
 cX (d := dR) F T.oB fG (fun _ _ _ _ _ _ us hl => match us, hl with | [_], _ => rfl) (fZ T ) rfl (fun _ => rfl) (by decide)
theorem af9 (F : dD K c_Same "shown" "Saying.shown" bZ)  : gQ P w K mg base 1 c_Same "shown" (aQ K cn 1 aW) :=
 cX (d := dR) F T.qL fG (fun _ _ _ _ _ _ us hl => match us, hl with | [_], _ => rfl) (fZ T ) rfl (fun _ => rfl) (by decide)
theorem aw4 (F : dD K c_Within "shown" "Saying.shown" bZ)  : gQ P w K mg base 1 c_Within "shown" (aQ K cn 1 aW) :=
 cX (d := dR) F T.mC fG (fun _ _ _ _ _ _ us hl => match us, hl with | [_], _ => rfl) (fZ T ) rfl (fun _ => rfl) (by decide)
theorem ap7 (F : dD K c_Apart "shown" "Saying.shown" bZ)  : gQ P w K mg base 1 c_Apart "shown" (aQ K cn 1 aW) :=
 cX (d := dR) F T.nY fG (fun _ _ _ _ _ _ us hl => match us, hl with | [_], _ => rfl) (fZ T ) rfl (fun _ => rfl) (by decide)
end
theorem di2 {l : PySem.W.OpenLaw} {w : World} {K : PySem.W.Frag} {h : Heap} {mg : Str → Option Value} {fa f0 : Addr} (X : K.In h) (G : h.Ns mainGlobals mg) (hfa : mg "law" = some (.ref fa))
 {od0 an0 : Option Addr} {sl0 : Array (Option Value)} {oc0 kV0 dc0 pm0 cd0 ct0 : Value}
 (a0 : PySem.W.nsIn K mainGlobals "law" = some (some (.ref f0))) (l0 : K.lookup f0 = some ⟨oc0, od0, .func (PySem.W.fnOf "law" "law" (iW sM) (dU sM) (aO sM) .none kV0 dc0 pm0 an0 cd0 ct0), sl0⟩) (c0 : PySem.W.codeIn K cd0 "law" = true) (k0 : PySem.W.keepIn K (.ref f0) = true)
 {cn : Str → Option Addr} {c_Archive c_Ink c_Reign c_Under c_Between c_After c_Same c_Within c_Apart : Addr} {oO tG kL : List (Str × Value)}
 (T : Txt w K cn mg c_Archive c_Ink c_Reign c_Under c_Between c_After c_Same c_Within c_Apart oO tG) (bi6 : cI K mg "_law_cell" wT) (bw2 : cI K mg "_law_names" vT) (bx2 : cI K mg "_law_whirl" vS) (bz2 : cI K mg "_law_frame" vB) (bk9 : cI K mg "_law_row" zO) (be2 : cI K mg "_law_hidden" tX) (bl6 : cI K mg "_law_free" wL) (bs1 : cI K mg "_law_of_one" uD) (by1 : cI K mg "_law_of_two" tZ) (ag8 : cI K mg "_law_sayings" rW) (bk6 : cI K mg "is_whole" wW) (ae4 : cI K mg "is_whole_from" pA) (bb3 : cI K mg "are_years" vD) (bt1 : cI K mg "is_made_of" uC) (bq9 : cI K mg "is_name" zU) (bv2 : cI K mg "are_names" vF) (bo6 : cI K mg "is_table" xF) (bj6 : cI K mg "are_inks" xS) (bg6 : cI K mg "is_reign" xM) (bc2 : cI K mg "are_reigns" uH) (af8 : cI K mg "_law_archive" rV) (cq3 : cI K mg "is_due" ad1) (bn9 : cI K mg "are_due" yK) (bo9 : cI K mg "ages_of" yW) (bx1 : cI K mg "ink_saying" tY) (ac6 : cI K mg "reign_called" qD) (br1 : cI K mg "reign_year" uF) (af6 : cI K mg "reign_saying" pY) (ax5 : cI K mg "under_saying" qH) (ay1 : cI K mg "between_saying" nX) (ak6 : cI K mg "after_saying" qF) (am8 : cI K mg "same_saying" rY) (ay3 : cI K mg "within_saying" pE) (ad6 : cI K mg "apart_saying" qK) (by2 : cI K mg "saying_of" vM) (bh6 : cI K mg "_law_heap" xD) (bc3 : cI K mg "_law_steps" vG) (bu2 : cI K mg "_law_years" vE) (ab6 : cI K mg "saying_steps" qB) (bz1 : cI K mg "span_steps" uA) (bm6 : cI K mg "steps_of" xO) (bs6 : cI K mg "place_of" wP) (br9 : cI K mg "is_kept" zH) (cb8 : cI K mg "holds" at5) (br2 : cI K mg "_law_holds" vQ) (bq6 : jK K mg "Archive" c_Archive "Archive.__init__" iK) (da3 : jK K mg "Ink" c_Ink "Saying.__init__" cL) (cn3 : jK K mg "Reign" c_Reign "Saying.__init__" cL) (co3 : jK K mg "Under" c_Under "Saying.__init__" cL) (bp6 : jK K mg "Between" c_Between "Saying.__init__" cL) (cr3 : jK K mg "After" c_After "Saying.__init__" cL) (ca8 : jK K mg "Same" c_Same "Saying.__init__" cL) (bl9 : jK K mg "Within" c_Within "Saying.__init__" cL) (cp3 : jK K mg "Apart" c_Apart "Saying.__init__" cL) (ab2 : dD K c_Archive "table" "Archive.table" gZ) (bv1 : dD K c_Ink "about" "Saying.about" cD) (ao6 : dD K c_Reign "about" "Saying.about" cD) (az5 : dD K c_Under "about" "Saying.about" cD) (av1 : dD K c_Between "about" "Saying.about" cD) (al6 : dD K c_After "about" "Saying.about" cD) (ak8 : dD K c_Same "about" "Saying.about" cD) (ax3 : dD K c_Within "about" "Saying.about" cD) (aj6 : dD K c_Apart "about" "Saying.about" cD) (at8 : dD K c_Ink "bounds" "Saying.bounds" bW) (au3 : dD K c_Reign "bounds" "Saying.bounds" bW) (ar3 : dD K c_Under "bounds" "Saying.bounds" bW) (aq0 : dD K c_Between "bounds" "Saying.bounds" bW) (ai4 : dD K c_After "bounds" "Saying.bounds" bW) (aw5 : dD K c_Same "bounds" "Saying.bounds" bW) (aa2 : dD K c_Within "bounds" "Saying.bounds" bW) (ag4 : dD K c_Apart "bounds" "Saying.bounds" bW) (bu1 : dD K c_Ink "shown" "Saying.shown" bZ) (aa6 : dD K c_Reign "shown" "Saying.shown" bZ) (ay5 : dD K c_Under "shown" "Saying.shown" bZ) (ax1 : dD K c_Between "shown" "Saying.shown" bZ) (ag6 : dD K c_After "shown" "Saying.shown" bZ) (aq8 : dD K c_Same "shown" "Saying.shown" bZ) (aw3 : dD K c_Within "shown" "Saying.shown" bZ) (an6 : dD K c_Apart "shown" "Saying.shown" bZ) (bm9 : xJ w K mg "MAKERS" kL) (ai8 : kL.lookup ("ink" : Str) = mg "ink_saying") (as3 : kL.lookup ("reign" : Str) = mg "reign_saying") (af4 : kL.lookup ("under" : Str) = mg "under_saying") (ap0 : kL.lookup ("between" : Str) = mg "between_saying") (ah4 : kL.lookup ("after" : Str) = mg "after_saying") (ai6 : kL.lookup ("same" : Str) = mg "same_saying") (ac2 : kL.lookup ("within" : Str) = mg "within_saying") (aj4 : kL.lookup ("apart" : Str) = mg "apart_saying")
 (main : ∀ ns : List Int, ns.length ≤ 63 → (∀ n ∈ ns, Builtin.Int.intBits n ≤ 1048576) → av8 [.lst false (ns.map .int)] = .ok (.bl true)) :
 ∃ fd : FuncData, (∀ (s : Shared) (v : Value), BindsTo s fd ⟨[v], []⟩ [("_law_script", v)]) ∧ ∀ base : Heap, K.In base → base.Ns mainGlobals mg → FnOk l.prog w K mg base jP 8 fa fd ["_law_script"] (ab9 K) := by
 have e := hfa.symm.trans (PySem.W.mg_of X G a0)
 cases e
 have F0 := ad3 (st := sM) l0 c0 k0
 have key : ∀ base : Heap, FnOk l.prog w K mg base jP 8 fa (PySem.W.fnOf "law" "law" (iW sM) (dU sM) (aO sM) .none kV0 dc0 pm0 an0 cd0 ct0) ["_law_script"] (ab9 K) := by
  intro base
  have x_d_law_cell := kH (P := l.prog) (base := base) T bi6
  have x_d_law_names := vK (P := l.prog) (base := base) T bw2
  have x_d_law_whirl := dY (P := l.prog) (base := base) T bx2
  have x_d_law_frame := uZ (P := l.prog) (base := base) T bz2 x_d_law_cell x_d_law_names x_d_law_whirl
  have x_d_law_row := rD (P := l.prog) (base := base) T bk9 x_d_law_whirl
  have x_d_law_hidden := tO (P := l.prog) (base := base) T be2 x_d_law_row
  have x_d_law_free := xT (P := l.prog) (base := base) T bl6
  have x_d_law_of_one := uG (P := l.prog) (base := base) T bs1
  have x_d_law_of_two := tV (P := l.prog) (base := base) T by1
  have x_d_law_sayings := rX (P := l.prog) (base := base) T ag8 x_d_law_row x_d_law_free x_d_law_of_one x_d_law_of_two
  have x_d_is_whole := oR (P := l.prog) (base := base) T bk6
  have x_d_is_whole_from := dE (P := l.prog) (base := base) T ae4 x_d_is_whole
  have x_d_are_years := nG (P := l.prog) (base := base) T bb3 x_d_is_whole_from
  have x_d_is_made_of := tI (P := l.prog) (base := base) T bt1
  have x_d_is_name := yP (P := l.prog) (base := base) T bq9 x_d_is_made_of
  have x_d_are_names := gS (P := l.prog) (base := base) T bv2 x_d_is_name
  have x_d_is_table := xK (P := l.prog) (base := base) T bo6 x_d_is_whole_from
  have x_d_are_inks := pN (P := l.prog) (base := base) T bj6 x_d_are_names x_d_is_table
  have x_d_is_reign := wY (P := l.prog) (base := base) T bg6 x_d_is_whole_from
  have x_d_are_reigns := lN (P := l.prog) (base := base) T bc2 x_d_are_names x_d_is_reign
  have x_k_Archive := zP (P := l.prog) (base := base) T bq6 x_d_are_years x_d_are_names x_d_are_inks x_d_are_reigns
  have x_d_law_archive := rS (P := l.prog) (base := base) T af8 x_k_Archive
  have x_d_is_due := ab1 (P := l.prog) (base := base) T cq3 x_d_is_whole_from
  have x_d_are_due := yR (P := l.prog) (base := base) T bn9 x_d_is_due
  have x_h_table := cY (ae3 (P := l.prog) (base := base) T ab2 ) (wK)
  have x_d_ages_of := yI (P := l.prog) (base := base) T bo9
  have x_k_Ink := bc6 (P := l.prog) (base := base) T da3
  have x_d_reign_called := jN (P := l.prog) (base := base) T ac6
  have x_d_reign_year := lT (P := l.prog) (base := base) T br1 x_d_is_whole_from
  have x_k_Reign := ar5 (P := l.prog) (base := base) T cn3
  have x_k_Under := aq4 (P := l.prog) (base := base) T co3
  have x_k_Between := yB (P := l.prog) (base := base) T bp6
  have x_k_After := ao5 (P := l.prog) (base := base) T cr3
  have x_k_Same := bm1 (P := l.prog) (base := base) T ca8
  have x_k_Within := ai1 (P := l.prog) (base := base) T bl9
  have x_k_Apart := ae5 (P := l.prog) (base := base) T cp3
  have x_d_ink_saying := bk1 (P := l.prog) (base := base) T bx1 x_h_table x_d_ages_of x_k_Ink
  have x_d_reign_saying := ak5 (P := l.prog) (base := base) T af6 x_d_reign_called x_d_reign_year x_k_Reign
  have x_d_under_saying := ap4 (P := l.prog) (base := base) T ax5 x_d_reign_called x_d_reign_year x_k_Under
  have x_d_between_saying := af1 (P := l.prog) (base := base) T ay1 x_k_Between
  have x_d_after_saying := am4 (P := l.prog) (base := base) T ak6 x_k_After
  have x_d_same_saying := ay7 (P := l.prog) (base := base) T am8 x_k_Same
  have x_d_within_saying := ag3 (P := l.prog) (base := base) T ay3 x_k_Within
  have x_d_apart_saying := ac5 (P := l.prog) (base := base) T ad6 x_k_Apart
  have x_q_MAKERS : bc5 l.prog w K mg base 4 "MAKERS" (be6 K cn 2 tb_MAKERS) := ch7 bm9 (jZ ai8 x_d_ink_saying (by decide) (jZ as3 x_d_reign_saying (by decide) (jZ af4 x_d_under_saying (by decide) (jZ ap0 x_d_between_saying (by decide) (jZ ah4 x_d_after_saying (by decide) (jZ ai6 x_d_same_saying (by decide) (jZ ac2 x_d_within_saying (by decide) (jZ aj4 x_d_apart_saying (by decide) (cr2)))))))))
  have x_d_saying_of := vA (P := l.prog) (base := base) T by2 x_d_are_due x_q_MAKERS
  have x_d_law_heap := xR (P := l.prog) (base := base) T bh6 x_d_saying_of
  have x_d_law_steps := qM (P := l.prog) (base := base) T bc3
  have x_h_shown := cY (bi2 (P := l.prog) (base := base) T bu1 ) (cY (aa8 (P := l.prog) (base := base) T aa6 ) (cY (ab8 (P := l.prog) (base := base) T ay5 ) (cY (ad2 (P := l.prog) (base := base) T ax1 ) (cY (ac8 (P := l.prog) (base := base) T ag6 ) (cY (af9 (P := l.prog) (base := base) T aq8 ) (cY (aw4 (P := l.prog) (base := base) T aw3 ) (cY (ap7 (P := l.prog) (base := base) T an6 ) (wK))))))))
  have x_d_law_years := vC (P := l.prog) (base := base) T bu2
  have x_h_about := cY (bn2 (P := l.prog) (base := base) T bv1 ) (cY (aw7 (P := l.prog) (base := base) T ao6 ) (cY (av7 (P := l.prog) (base := base) T az5 ) (cY (ah2 (P := l.prog) (base := base) T av1 ) (cY (ax7 (P := l.prog) (base := base) T al6 ) (cY (bd0 (P := l.prog) (base := base) T ak8 ) (cY (au4 (P := l.prog) (base := base) T ax3 ) (cY (as7 (P := l.prog) (base := base) T aj6 ) (wK))))))))
  have x_h_bounds := cY (ad9 (P := l.prog) (base := base) T at8 ) (cY (al5 (P := l.prog) (base := base) T au3 ) (cY (ay4 (P := l.prog) (base := base) T ar3 ) (cY (an1 (P := l.prog) (base := base) T aq0 ) (cY (au5 (P := l.prog) (base := base) T ai4 ) (cY (at7 (P := l.prog) (base := base) T aw5 ) (cY (as2 (P := l.prog) (base := base) T aa2 ) (cY (ab5 (P := l.prog) (base := base) T ag4 ) (wK))))))))
  have x_d_saying_steps := qJ (P := l.prog) (base := base) T ab6 x_h_about x_h_bounds
  have x_d_span_steps := tQ (P := l.prog) (base := base) T bz1
  have x_d_steps_of := xQ (P := l.prog) (base := base) T bm6 x_d_saying_steps x_d_span_steps
  have x_d_place_of := sN (P := l.prog) (base := base) T bs6
  have x_d_is_kept := yX (P := l.prog) (base := base) T br9 x_d_place_of
  have x_d_holds := af0 (P := l.prog) (base := base) T cb8 x_d_is_whole x_d_steps_of x_d_is_kept
  have x_d_law_holds := qW (P := l.prog) (base := base) T br2
  exact law_fn (dg2 T F0 x_d_law_frame x_d_law_cell x_d_law_hidden x_d_law_sayings x_d_law_archive x_d_law_heap x_d_law_steps x_h_shown x_d_law_years x_d_holds x_d_law_holds) main
 exact ⟨_, fun s v => .of_eq rfl, fun base _ _ => key base⟩
end Nk22
namespace Nk22
open PySem L2 TL
def whirl (n k : Int) : Int :=
 let p := (n % 1000000021 + 4099 * k + 77) * 30011 % 2140000027
 let f := p / 46133 * (p % 46133) + 6007 * (p / 46133) + 271 * (p % 46133) + k
 f * (f % 1009 + 7919) % 1700000009
theorem av5 (n k : Int) : 0 ≤ whirl n k ∧ whirl n k < 1700000009 := ⟨Int.emod_nonneg _ (by decide), Int.emod_lt_of_pos _ (by decide)⟩
theorem bd3 (n k : Int) : dN [.int n, .int k] = .ok (.int (whirl n k)) := by
 unfold dN rB
 have q : ∀ f : Int, mulOk f (f % 1009 + 7919) := fun f => bv4 (by have := Int.emod_nonneg f (show (1009 : Int) ≠ 0 by decide); omega) (by have := Int.emod_lt_of_pos f (show (0 : Int) < 1009 by decide); omega)
 have q2 : ∀ p : Int, mulOk (p / 46133) (p % 46133) := fun p => bv4 (by have := Int.emod_nonneg p (show (46133 : Int) ≠ 0 by decide); omega) (by have := Int.emod_lt_of_pos p (show (0 : Int) < 46133 by decide); omega)
 have q3 : ∀ p : Int, uY p 46133 := fun p => ⟨by decide, by decide⟩
 walk_at "ev"
 rfl
theorem bm7 (o : Bool) (ns : List Int) (k : Nat) : gG [.lst o (ns.map .int), .int k] = .ok (.int (ns.getD k 0)) := by
 unfold gG sI
 by_cases h : k < ns.length
 · have h1 : decide ((k : Int) < (ns.length : Nat)) = true := by simpa using h
   have h2 : atI (ns.map T.int) (k : Int) = some (.int (ns.getD k 0)) := eX (by simp [List.getD_eq_getElem?_getD, List.getElem?_eq_getElem h])
   walk_at "ev"
 · have h1 : decide ((k : Int) < (ns.length : Nat)) = false := by simpa using h
   have h2 : ns.getD k 0 = 0 := by simp [List.getD_eq_getElem?_getD, List.getElem?_eq_none (show ns.length ≤ k by omega)]
   walk_at "ev"
def eight : List Str := ["a", "ab", "abc", "b", "ba", "zzzzzzzz", "zzzzzzzy", "q"]
def turned (k : Nat) : List Str := eight.drop k ++ eight.take k
theorem by0 {α : Type} (xs : List α) (k : Nat) (h : k ≤ xs.length) : eK xs (some (k : Int)) none = xs.drop k := by
 unfold eK
 have e1 : HT.sIx xs.length 0 (some (k : Int)) = k := by
  simp only [HT.sIx]
  rw [if_neg (by omega)]
  omega
 have e2 : HT.sIx xs.length xs.length none = xs.length := rfl
 rw [e1, e2, List.take_of_length_le (by simp)]
theorem az2 {α : Type} (xs : List α) (k : Nat) : eK xs none (some (k : Int)) = xs.take k := by
 unfold eK
 have e1 : HT.sIx xs.length 0 none = 0 := rfl
 have e2 : HT.sIx xs.length xs.length (some (k : Int)) = min k xs.length := by
  simp only [HT.sIx]
  rw [if_neg (by omega)]
  omega
 rw [e1, e2, List.drop_zero, Nat.sub_zero]
 rw [List.take_eq_take_iff]
 omega
theorem e_names (n : Int) : nF [.int n] = .ok (.lst true ((turned (n % 8).toNat).map .str)) := by
 unfold nF qR
 have h0 := Int.emod_nonneg n (show (8 : Int) ≠ 0 by decide)
 have h1 := Int.emod_lt_of_pos n (show (0 : Int) < 8 by decide)
 obtain ⟨k, hk⟩ := qI h0
 have hk8 : k < 8 := by omega
 have c1 : eK [T.str "a", .str "ab", .str "abc", .str "b", .str "ba", .str "zzzzzzzz", .str "zzzzzzzy", .str "q"] (some (n % 8)) none = (eight.drop k).map .str := by
  rw [hk]
  exact (by0 (eight.map T.str) k (by show k ≤ 8; omega)).trans List.map_drop.symm
 have c2 : eK [T.str "a", .str "ab", .str "abc", .str "b", .str "ba", .str "zzzzzzzz", .str "zzzzzzzy", .str "q"] none (some (n % 8)) = (eight.take k).map .str := by
  rw [hk]
  exact (az2 (eight.map T.str) k).trans List.map_take.symm
 have l1 : (eight.drop k).length + (eight.take k).length ≤ 100000 := by simp [eight]; omega
 rw [show (turned (n % 8).toNat) = eight.drop k ++ eight.take k by rw [hk]; rfl, List.map_append]
 clear hk
 walk_at "ev"
structure Fm where
 first : Int
 span : Int
 names : List Str
 inks : List (Str × List Int)
 reigns : List (Str × Int × Int)
def dZ (o : Bool) (p : Str × List Int) : T := .tup [.str p.1, .lst o (p.2.map .int)]
def fR (p : Str × Int × Int) : T := .tup [.str p.1, .int p.2.1, .int p.2.2]
def gB (o : Bool) (f : Fm) : T := .tup [.int f.first, .int (f.first + f.span), .lst o (f.names.map .str), .lst o (f.inks.map (dZ o)), .lst o (f.reigns.map fR)]
def nM (w : Str) : Bool := decide (1 ≤ (w.length : Int)) && (decide ((w.length : Int) ≤ 8) && w.cps.toList.all fun c => occ "abcdefghijklmnopqrstuvwxyz" ⟨#[c]⟩)
structure TabOk (xs : List Int) : Prop where
 l1 : 1 ≤ xs.length
 l60 : xs.length ≤ 60
 b : ∀ x ∈ xs, 0 ≤ x ∧ x ≤ 408
 f : xs.Pairwise (fun a b => b ≤ a)
structure Gd (f : Fm) : Prop where
 s0 : 0 ≤ f.span
 s1 : f.span ≤ 300
 f0 : -3000 ≤ f.first
 f1 : f.first + f.span ≤ 3000
 n1 : 1 ≤ f.names.length
 n8 : f.names.length ≤ 8
 nn : ∀ x ∈ f.names, nM x = true
 nd : f.names.Nodup
 i1 : 2 ≤ f.inks.length
 i6 : f.inks.length ≤ 6
 ind : (f.inks.map (·.1)).Nodup
 inn : ∀ p ∈ f.inks, nM p.1 = true ∧ TabOk p.2
 r1 : 2 ≤ f.reigns.length
 r8 : f.reigns.length ≤ 8
 rnd : (f.reigns.map (·.1)).Nodup
 rn : ∀ p ∈ f.reigns, nM p.1 = true ∧ -4000 ≤ p.2.1 ∧ p.2.1 ≤ 4000 ∧ 1 ≤ p.2.2 ∧ p.2.2 ≤ 100
theorem be1 (l : List Int) {i : Int} (h0 : 0 ≤ i) (h1 : i < l.length) : ∃ v, atI (l.map T.int) i = some (.int v) ∧ v ∈ l := by
 obtain ⟨k, rfl⟩ := qI h0
 have hk : k < l.length := by omega
 exact ⟨l[k], eX (by simp [hk]), List.getElem_mem hk⟩
def sixI : List Str := ["oak", "soot", "oa", "ink", "oakoak", "s"]
def sixR : List Str := ["an", "b", "annab", "zz", "nn", "a"]
theorem bg8 (l : List Str) {i : Nat} (h1 : i < l.length) : ∃ v, atI (l.map T.str) (0 + (i : Int)) = some (.str v) ∧ l[i]? = some v := by
 rw [Int.zero_add]
 exact ⟨l[i], eX (by simp [h1]), List.getElem?_eq_getElem h1⟩
theorem kR (l : List (Str × List Int)) : bG (l.map (dZ false)) = true := kC (fun a => by simp only [dZ, eI, bG, kS, Bool.not_false, Bool.and_self]) l
theorem vN (l : List (Str × List Int)) : dX (l.map (dZ true)) = true := kI (fun a => by simp only [dZ, eN, dX, vH, Bool.and_self]) l
theorem oG (o : Bool) : ∀ l : List (Str × List Int), frzs (l.map (dZ o)) = l.map (dZ false)
 | [] => rfl
 | p :: l => by simp only [List.map_cons, frzs, oG o l, dZ, frz, uQ]
theorem kF (l : List (Str × Int × Int)) : bG (l.map fR) = true := kC (fun a => rfl) l
theorem aa3 (l : List (Str × Int × Int)) : dX (l.map fR) = true := kI (fun a => rfl) l
theorem qC (l : List (Str × Int × Int)) : frzs (l.map fR) = l.map fR := tR (fun a => rfl) l
theorem cb7 (ns : List Int) : ∃ f, nJ [.lst false (ns.map .int), .int 8] = .ok (gB true f) ∧ Gd f := by
 unfold nJ qV
 have ew := bd3
 have ec : gG [.lst false (ns.map .int), .int 0] = .ok (.int (ns.getD 0 0)) := bm7 false ns 0
 have en := e_names
 have hp : wZ (.int 10) (.int 15) = .ok (.int 1000000000000000) := by
  rw [ap3, xH (show yU 10 15 from ⟨by decide, by decide, by decide⟩)]
  rfl
 have hc0 : 0 ≤ ns.getD 0 0 % 1000000000000000 := Int.emod_nonneg _ (by decide)
 generalize hc : ns.getD 0 0 % 1000000000000000 = c at hc0
 obtain ⟨span, hs, ms⟩ := be1 [0, 1, 3, 8, 20, 20, 60, 300] (i := c % 8) (by omega) (by simp; omega)
 obtain ⟨first, hf, mf⟩ := be1 [-3000, 3000 - span, -10, 1400] (i := c / 8 % 4) (by omega) (by simp; omega)
 simp only [List.map_cons, List.map_nil] at hs hf
 walk_at "ev"
 clear hs hf hp ec en
 generalize hL : eT _ _ _ _ = o
 obtain ⟨ρ', rfl, inks, o7, o8, o9, o10, rfl, il, inm, iok⟩ := jQ (fun i ρ => ∃ (inks : List (Str × List Int)) (o7 o8 o9 o10 : Option T), ρ = [some (T.lst false (List.map T.int ns)), some (T.int 8), some (T.int c), some (T.int span),
  some (T.int first), some (T.lst true (eK (List.map T.str (turned (c / 32 % 8).toNat)) none (some (1 + c / 256 % 8)))), some (T.lst true (inks.map (dZ true))), o7, o8, o9, o10, none, none] ∧
  inks.length = i ∧ inks.map (·.1) = sixI.take i ∧ ∀ p ∈ inks, TabOk p.2) hL ⟨[], _, _, _, _, rfl, rfl, rfl, eC⟩ (by
  rintro i t ρ et ⟨inks, o7, o8, o9, o10, rfl, il, inm, iok⟩
  obtain ⟨hi, rfl⟩ := jX et
  have hw := av5 c 6
  have hi' : i < 6 := by omega
  obtain ⟨m, hm, mm⟩ := be1 [12, 60] (i := c / 18432 % 4 / 3) (by omega) (by simp; omega)
  obtain ⟨nm, hn, en⟩ := bg8 sixI (i := i) (by show i < 6; exact hi')
  simp only [List.map_cons, List.map_nil, sixI] at hm hn
  have hm0 : 0 < m := by simp at mm; omega
  have hw2 := Int.emod_nonneg (whirl c (0 + (i : Int))) (show m ≠ 0 by omega)
  have hw3 := Int.emod_lt_of_pos (whirl c (0 + (i : Int))) hm0
  have hw4 : whirl c (0 + (i : Int)) % m < 60 := by simp at mm; omega
  clear mm
  clear hL et
  walk_at "ev"
  generalize hL : eT _ _ _ _ = o
  obtain ⟨ρ', rfl, xs, d, p10, rfl, xl, xb, xf, hd0, hd1⟩ := jQ (fun j ρ => ∃ (xs : List Int) (d : Int) (p10 : Option T), ρ = [some (T.lst false (List.map T.int ns)), some (T.int 8), some (T.int c), some (T.int span),
   some (T.int first), some (T.lst true (eK (List.map T.str (turned (c / 32 % 8).toNat)) none (some (1 + c / 256 % 8)))), some (T.lst true (inks.map (dZ true))), some (.int (0 + (i : Int))), some (.int d), some (.lst true (xs.map .int)), p10, none, none] ∧
   xs.length = j + 1 ∧ (∀ x ∈ xs, d ≤ x ∧ x ≤ 408) ∧ xs.Pairwise (fun a b => b ≤ a) ∧ 0 ≤ d ∧ d ≤ 408) hL ⟨[400 + c / 2048 % 9], _, _, rfl, rfl, by simp; omega, by simp, by omega, by omega⟩ (by
   rintro j t ρ et ⟨xs, d, p10, rfl, xl, xb, xf, hd0, hd1⟩
   obtain ⟨hj, rfl⟩ := jX et
   have hj' : j < 60 := by omega
   have z0 := Int.emod_nonneg (whirl c (10 * (0 + (j : Int)) + (0 + (i : Int)))) (show (13 : Int) ≠ 0 by decide)
   have hl : xs.length ≤ 100000 := by omega
   clear hL et
   walk_at "ev"
   refine ⟨xs ++ [if d - whirl c (10 * (0 + (j : Int)) + (0 + (i : Int))) % 13 > 0 then d - whirl c (10 * (0 + (j : Int)) + (0 + (i : Int))) % 13 else 0], _, _, by rw [List.map_append]; rfl, by simp [xl], ?_, ?_, ?_, ?_⟩
   · intro x hx
     rcases List.mem_append.mp hx with hx | hx
     · have := xb x hx
       split <;> omega
     · have hx := List.mem_singleton.mp hx
       subst hx
       split <;> omega
   · rw [List.pairwise_append]
     refine ⟨xf, by simp, fun a ha b hb => ?_⟩
     have hb := List.mem_singleton.mp hb
     subst hb
     have := xb a ha
     split <;> omega
   · split <;> omega
   · split <;> omega)
  rw [gW] at xl
  clear hL
  have hl : inks.length ≤ 100000 := by omega
  walk_at "ev"
  refine ⟨inks ++ [(nm, xs)], _, _, _, _, by rw [List.map_append]; rfl, by simp [il], ?_, ?_⟩
  · rw [List.map_append, inm, List.take_succ, en]
    rfl
  · intro p hp
    rcases List.mem_append.mp hp with hp | hp
    · exact iok p hp
    · have hp := List.mem_singleton.mp hp
      subst hp
      exact ⟨by show 1 ≤ xs.length; omega, by show xs.length ≤ 60; omega, fun x hx => ⟨Int.le_trans hd0 (xb x hx).1, (xb x hx).2⟩, xf⟩)
 rw [gW] at il inm
 clear hL
 have h9 : 0 < span + 9 := by simp at ms; omega
 have b0 := Int.emod_nonneg (whirl c 3) (show span + 9 ≠ 0 by omega)
 have b1 := Int.emod_lt_of_pos (whirl c 3) h9
 have b2 := av5 c 7
 have sb : 0 ≤ span ∧ span ≤ 300 := by simp at ms; omega
 have fb : -3000 ≤ first ∧ first + span ≤ 3000 := by simp at mf; omega
 walk_at "ev"
 have t1 : Int.toNat 1 = 1 := rfl
 generalize hL : eT _ _ _ _ = o
 obtain ⟨ρ', rfl, r0, rest, b, q7, rfl, e0, rn, rl, rb, hb0, hb1⟩ := jQ (fun i ρ => ∃ (r0 : Str × Int × Int) (rest : List (Str × Int × Int)) (b : Int) (q7 : Option T), ρ = [some (T.lst false (List.map T.int ns)), some (T.int 8), some (T.int c), some (T.int span),
  some (T.int first), some (T.lst true (eK (List.map T.str (turned (c / 32 % 8).toNat)) none (some (1 + c / 256 % 8)))), some (T.lst true (inks.map (dZ true))), q7, o8, o9, o10, some (.int b), some (.lst true (fR r0 :: rest.map fR))] ∧
  r0.1 = "ann" ∧ rest.map (·.1) = (sixR.take i).reverse ++ [("anna" : Str)] ∧ rest.length = i + 1 ∧ (∀ p ∈ r0 :: rest, -4000 ≤ p.2.1 ∧ p.2.1 ≤ 4000 ∧ 1 ≤ p.2.2 ∧ p.2.2 ≤ 100) ∧ first - 5 - 4 * i ≤ b ∧ b ≤ first + span + 3 + 4 * i) hL
  ⟨("ann", first - 5 + whirl c 3 % (span + 9), 1 + whirl c 4 % 30), [("anna", first - 5 + whirl c 3 % (span + 9) + 3, 1 + whirl c 5 % 100)], _, _, rfl, rfl, rfl, rfl, by simp; omega, by omega, by omega⟩ (by
  rintro i t ρ et ⟨r0, rest, b, q7, rfl, e0, rn, rl, rb, hb0, hb1⟩
  obtain ⟨hi, rfl⟩ := jX et
  have hi' : i < 6 := by omega
  obtain ⟨nm, hn, en⟩ := bg8 sixR (i := i) (by show i < 6; exact hi')
  simp only [List.map_cons, List.map_nil, sixR] at hn
  have l1 : (rest.map fR).length + 1 ≤ 100000 := by rw [List.length_map]; omega
  have l2 : 1 ≤ (rest.map fR).length + 1 := by omega
  rw [List.length_map] at l1 l2
  clear hL et
  walk_at "ev"
  rw [if_pos ⟨by decide, by omega⟩]
  refine ⟨r0, (nm, b + whirl c (8 + (0 + (i : Int))) % 9 - 4, 1 + whirl c (14 + (0 + (i : Int))) % 60) :: rest, _, _, rfl, e0, ?_, by simp [rl], ?_, ?_, ?_⟩
  · rw [List.map_cons, rn, List.take_succ, en]
    simp
  · intro p hp
    rcases List.mem_cons.mp hp with rfl | hp
    · exact rb _ List.mem_cons_self
    · rcases List.mem_cons.mp hp with rfl | hp
      · simp only
        omega
      · exact rb p (List.mem_cons_of_mem _ hp)
  · omega
  · omega)
 rw [gW] at rn rl hb0 hb1
 clear hL
 have k0 : 0 ≤ 1 + c / 256 % 8 := by omega
 obtain ⟨kn, hkn⟩ := qI k0
 have ct : eK (List.map T.str (turned (c / 32 % 8).toNat)) none (some (1 + c / 256 % 8)) = ((turned (c / 32 % 8).toNat).take kn).map .str := by
  rw [hkn, az2, List.map_take]
 have hk8 : 1 ≤ kn ∧ kn ≤ 8 := by omega
 obtain ⟨kt, hkt⟩ : ∃ kt : Nat, kt < 8 ∧ (c / 32 % 8).toNat = kt := ⟨(c / 32 % 8).toNat, by omega, rfl⟩
 obtain ⟨im, him⟩ : ∃ im : Nat, (2 ≤ im ∧ im ≤ 6) ∧ (2 + whirl c 6 % 5).toNat = im := ⟨_, by omega, rfl⟩
 obtain ⟨rm, hrm⟩ : ∃ rm : Nat, rm ≤ 6 ∧ (whirl c 7 % 7).toNat = rm := ⟨_, by omega, rfl⟩
 rw [hkt.2] at ct
 rw [him.2] at il inm
 rw [hrm.2] at rn rl
 rw [hkt.2]
 refine ⟨⟨first, span, (turned kt).take kn, inks, r0 :: rest⟩, ?_, ?_⟩
 · clear hkn
   walk_at "ev"
   simp only [gB, List.map_cons]
 · have turn_ok : ∀ k, k < 8 → (turned k).length = 8 ∧ (turned k).Nodup ∧ ∀ x ∈ turned k, nM x = true := by decide +kernel
   obtain ⟨u1, u2, u3⟩ := turn_ok kt hkt.1
   have ink_ok : sixI.Nodup ∧ ∀ x ∈ sixI, nM x = true := by decide +kernel
   have rg_ok : ∀ k, k ≤ 6 → (("ann" : Str) :: ((sixR.take k).reverse ++ [("anna" : Str)])).Nodup ∧ ∀ x ∈ ("ann" : Str) :: ((sixR.take k).reverse ++ [("anna" : Str)]), nM x = true := by decide +kernel
   obtain ⟨v1, v2⟩ := rg_ok rm hrm.1
   have rnm : (r0 :: rest).map (·.1) = ("ann" : Str) :: ((sixR.take rm).reverse ++ [("anna" : Str)]) := by rw [List.map_cons, rn, e0]
   exact {
    s0 := sb.1
    s1 := sb.2
    f0 := fb.1
    f1 := fb.2
    n1 := by simp [u1]; omega
    n8 := by simp [u1]; omega
    nn := fun x hx => u3 x (List.mem_of_mem_take hx)
    nd := u2.sublist (List.take_sublist _ _)
    i1 := by show 2 ≤ inks.length; omega
    i6 := by show inks.length ≤ 6; omega
    ind := by show (inks.map (·.1)).Nodup; rw [inm]; exact ink_ok.1.sublist (List.take_sublist _ _)
    inn := fun p hp => ⟨ink_ok.2 _ (List.mem_of_mem_take (i := im) (by rw [← inm]; exact List.mem_map_of_mem hp)), iok p hp⟩
    r1 := by simp [rl]
    r8 := by simp [rl]; omega
    rnd := by show ((r0 :: rest).map (·.1)).Nodup; rw [rnm]; exact v1
    rn := fun p hp => ⟨v2 _ (by rw [← rnm]; exact List.mem_map_of_mem hp), rb p hp⟩ }
end Nk22
namespace Nk22
open PySem L2 TL
theorem qA {n : Nat} (h : n ≤ 100000) : n ≤ sizeLine := Nat.le_trans h (by decide)
theorem dq7 {α : Type} (l : List α) (p : α → Bool) : (l.map fun c => p c).all id = l.all p := by
 induction l with
 | nil => rfl
 | cons a l ih => simp only [List.map_cons, List.all_cons, ih, id]
theorem mG {α : Type} {b : T → Fr → Option Fr} {c : Fr → Res Bool} {d : Fr → Res T} {ρ : Fr} {g f : α → T} : ∀ {l : List α}, (∀ a ∈ l, (match b (g a) ρ with | some ρ1 => (c ρ1).bind fun k => if k = true then d ρ1 else .no | none => .no) = .ok (f a)) → cG b c d ρ (l.map g) = .ok (l.map f)
 | [], _ => rfl
 | a :: l, h => by
  have h0 := h a List.mem_cons_self
  have ih := mG (l := l) fun u hu => h u (List.mem_cons_of_mem _ hu)
  simp only [List.map_cons, cG]
  cases e : b (g a) ρ with
  | none => rw [e] at h0; cases h0
  | some ρ1 =>
   rw [e] at h0
   simp only at h0 ⊢
   cases e2 : c ρ1 with
   | ok k =>
    rw [e2] at h0
    simp only [mN] at h0 ⊢
    cases k with
    | true => rw [if_pos rfl] at h0 ⊢; rw [h0, ih]; rfl
    | false => rw [if_neg (by decide)] at h0; cases h0
   | ex x => rw [e2] at h0; cases h0
   | no => rw [e2] at h0; cases h0
theorem ap9 (w s : Str) (m : Int) (hw : w.length ≤ 100000) : lK [.str w, .str s, .int m] = .ok (.bl (decide (1 ≤ (w.length : Int)) && (decide ((w.length : Int) ≤ m) && w.cps.toList.all fun c => occ s ⟨#[c]⟩))) := by
 unfold lK pI
 have h2 : w.cps.toList.length ≤ sizeLine := by rw [← cr5]; exact qA hw
 have hc : cG (aK 3) dG (aG (inT false) (aD 3) (aD 1)) [some (.str w), some (.str s), some (.int m), none] (w.cps.toList.map fun c => T.str ⟨#[c]⟩) = .ok ((w.cps.toList.map fun c => occ s ⟨#[c]⟩).map .bl) := by
  rw [List.map_map]
  exact eW fun c _ => by walk_at "ev"; rfl
 walk_at "ev"
 cases hA : decide (1 ≤ (w.length : Int)) with
 | false => walk_at "ev"
 | true =>
  cases hB : decide ((w.length : Int) ≤ m) with
  | false => walk_at "ev"
  | true =>
   walk_at "ev"
   rw [dq7]
theorem rC {w : Str} (h : nM w = true) : w.length ≤ 8 := by
 unfold nM at h
 simp only [Bool.and_eq_true, decide_eq_true_iff] at h
 omega
theorem bu6 {w : Str} (h : nM w = true) : oC [.str w] = .ok (.bl true) := by
 unfold oC uP
 have h1 := ap9 w "abcdefghijklmnopqrstuvwxyz" 8 (by have := rC h; omega)
 rw [show (decide (1 ≤ (w.length : Int)) && (decide ((w.length : Int) ≤ 8) && w.cps.toList.all fun c => occ "abcdefghijklmnopqrstuvwxyz" ⟨#[c]⟩)) = true from h] at h1
 walk_at "ev"
theorem ax2 (x l u : Int) : cN [.int x, .int l, .int u] = .ok (.bl (decide (l ≤ x) && decide (x ≤ u))) := by
 have h : gU [.int x] = .ok (.bl true) := by
  unfold gU oV
  walk_at "ev"
 unfold cN lH
 cases hA : decide (l ≤ x) with
 | true => walk_at "ev"
 | false => walk_at "ev"
theorem nV {x l u : Int} (h1 : l ≤ x) (h2 : x ≤ u) : cN [.int x, .int l, .int u] = .ok (.bl true) := by
 rw [ax2, decide_eq_true h1, decide_eq_true h2]
 rfl
theorem dm1 {α : Type} (l : List α) : l.map (fun _ => T.bl true) = (l.map fun _ => true).map T.bl := by rw [List.map_map]; rfl
theorem pV {α : Type} (o : Bool) (l : List α) : nU false [.lst o (l.map fun _ => T.bl true)] = .ok (.bl true) := by
 rw [dm1, bh5]
 simp
theorem tM {xs : List Int} {i : Nat} (h : i < xs.length) : atI (xs.map T.int) (i : Int) = some (.int (xs.getD i 0)) :=
 eX (by rw [List.getElem?_map, List.getElem?_eq_getElem h, List.getD_eq_getElem?_getD, List.getElem?_eq_getElem h]; rfl)
theorem cx8 {xs : List Int} (h : xs.Pairwise (fun a b => b ≤ a)) {i : Nat} (hi : i + 1 < xs.length) : xs.getD (i + 1) 0 ≤ xs.getD i 0 := by
 rw [List.pairwise_iff_getElem] at h
 have := h i (i + 1) (by omega) hi (by omega)
 simpa [List.getD_eq_getElem?_getD, List.getElem?_eq_getElem hi, List.getElem?_eq_getElem (show i < xs.length by omega)] using this
theorem ba6 (o : Bool) {xs : List Int} (h : TabOk xs) : mS [.lst o (xs.map .int)] = .ok (.bl true) := by
 unfold mS sE
 obtain ⟨h1, h60, hb, hf⟩ := h
 have hc1 : cG (aK 1) dG (bQ 3 cN (aE (aD 1) (aE (dC (.int 0)) (aE (dC (.int 1000000)) aJ)))) [some (.lst o (xs.map .int)), none, none] (xs.map .int) = .ok (xs.map fun _ => .bl true) := by
  refine eW fun c hc => ?_
  have := nV (hb c hc).1 (Int.le_trans (hb c hc).2 (show (408 : Int) ≤ 1000000 by decide))
  walk_at "ev"
 have hc2 : cG (aK 2) dG (aG pP (aG bE (aD 0) (aD 2)) (aG bE (aD 0) (aG dQ (aD 2) (dC (.int 1))))) [some (.lst o (xs.map .int)), none, none] (jE 1 ((xs.length : Int) - 1).toNat) = .ok ((List.range (xs.length - 1)).map fun _ => .bl true) := by
  unfold jE
  rw [show ((xs.length : Int) - 1).toNat = xs.length - 1 by omega]
  refine eW fun i hi => ?_
  have hi := List.mem_range.mp hi
  have a1 : atI (xs.map T.int) (1 + (i : Int)) = some (.int (xs.getD (i + 1) 0)) := by
   rw [show (1 : Int) + (i : Int) = ((i + 1 : Nat) : Int) by omega]
   exact tM (by omega)
  have a2 : atI (xs.map T.int) (1 + (i : Int) - 1) = some (.int (xs.getD i 0)) := by
   rw [show (1 : Int) + (i : Int) - 1 = (i : Int) by omega]
   exact tM (by omega)
  have a3 := decide_eq_true (cx8 hf (i := i) (by omega))
  walk_at "ev"
 have hl2 : (jE 1 ((xs.length : Int) - 1).toNat).length ≤ sizeLine := by rw [gW]; exact qA (by omega)
 have k1 : decide (1 ≤ (xs.length : Int)) = true := decide_eq_true (by omega)
 have k2 : decide ((xs.length : Int) ≤ 60) = true := decide_eq_true (by omega)
 have y1 := fun o => pV o xs
 have y2 := fun o => pV o (List.range (xs.length - 1))
 clear hb hf
 walk_at "ev"
theorem bj4 {b l : Int} (h1 : -4000 ≤ b) (h2 : b ≤ 4000) (h3 : 1 ≤ l) (h4 : l ≤ 100) : mR [.int b, .int l] = .ok (.bl true) := by
 unfold mR sQ
 have k1 := nV h1 h2
 have k2 := nV h3 h4
 walk_at "ev"
theorem bp2 {a b : Int} (h1 : -3000 ≤ a) (h2 : a ≤ b) (h3 : b ≤ 3000) (h4 : b - a ≤ 300) : kU [.int a, .int b] = .ok (.bl true) := by
 unfold kU qQ
 have k1 := nV h1 (show a ≤ 3000 by omega)
 have k2 := nV (show -3000 ≤ b by omega) h3
 have k3 : decide (0 ≤ b - a) = true := decide_eq_true (by omega)
 have k4 : decide (b - a ≤ 300) = true := decide_eq_true (by omega)
 walk_at "ev"
theorem vP {o : Bool} {ss : List Str} {l u : Int} (h1 : l ≤ ss.length) (h2 : (ss.length : Int) ≤ u) (h3 : ss.length ≤ 1000) (hn : ∀ x ∈ ss, nM x = true) (nd : ss.Nodup) : gE [.lst o (ss.map .str), .int l, .int u] = .ok (.bl true) := by
 unfold gE qS
 have hc : cG (aK 3) dG (bQ 1 oC (aE (aD 3) aJ)) [some (.lst o (ss.map .str)), some (.int l), some (.int u), none] (ss.map .str) = .ok (ss.map fun _ => .bl true) := by
  refine eW fun c hc => ?_
  have := bu6 (hn c hc)
  walk_at "ev"
 have k1 : decide (l ≤ (ss.length : Int)) = true := decide_eq_true h1
 have k2 : decide ((ss.length : Int) ≤ u) = true := decide_eq_true h2
 have y1 := fun o => pV o ss
 have ls := bu9 o nd h3
 have l4 : ss.length ≤ 100000 := by omega
 clear hn nd
 walk_at "ev"
 simp
theorem bu4 {is : List (Str × List Int)} (h6 : is.length ≤ 6) (nd : (is.map (·.1)).Nodup) (ok : ∀ p ∈ is, nM p.1 = true ∧ TabOk p.2) : mW [.lst false (is.map (dZ false))] = .ok (.bl true) := by
 unfold mW sD
 have hc1 : cG (fS (bN (aK 1) (bN (aK 2) gA))) dG (aV (aD 1)) [some (.lst false (is.map (dZ false))), none, none] (is.map (dZ false)) = .ok ((is.map (·.1)).map .str) := by
  rw [List.map_map]
  exact mG fun p _ => by simp only [dZ]; walk_at "ev"; rfl
 have hc2 : cG (fS (bN (aK 1) (bN (aK 2) gA))) dG (bQ 1 mS (aE (aD 2) aJ)) [some (.lst false (is.map (dZ false))), none, none] (is.map (dZ false)) = .ok (is.map fun _ => .bl true) := by
  refine mG fun p hp => ?_
  simp only [dZ]
  have := ba6 false (ok p hp).2
  walk_at "ev"
 have nm := vP (o := false) (ss := is.map (·.1)) (l := 0) (u := 6) (by omega) (by simp; omega) (by simp; omega) (fun x hx => by
  obtain ⟨p, hp, rfl⟩ := List.mem_map.mp hx
  exact (ok p hp).1) nd
 have y1 := fun o => pV o is
 have n1 := kR is
 have l4 : is.length ≤ 100000 := by omega
 clear ok nd
 walk_at "ev"
theorem bj1 {rs : List (Str × Int × Int)} (h8 : rs.length ≤ 8) (nd : (rs.map (·.1)).Nodup) (ok : ∀ p ∈ rs, nM p.1 = true ∧ -4000 ≤ p.2.1 ∧ p.2.1 ≤ 4000 ∧ 1 ≤ p.2.2 ∧ p.2.2 ≤ 100) : jJ [.lst false (rs.map fR)] = .ok (.bl true) := by
 unfold jJ pK
 have hc1 : cG (fS (bN (aK 1) (bN (aK 2) (bN (aK 3) gA)))) dG (aV (aD 1)) [some (.lst false (rs.map fR)), none, none, none] (rs.map fR) = .ok ((rs.map (·.1)).map .str) := by
  rw [List.map_map]
  exact mG fun p _ => by simp only [fR]; walk_at "ev"; rfl
 have hc2 : cG (fS (bN (aK 1) (bN (aK 2) (bN (aK 3) gA)))) dG (bQ 2 mR (aE (aD 2) (aE (aD 3) aJ))) [some (.lst false (rs.map fR)), none, none, none] (rs.map fR) = .ok (rs.map fun _ => .bl true) := by
  refine mG fun p hp => ?_
  simp only [fR]
  obtain ⟨_, k1, k2, k3, k4⟩ := ok p hp
  have := bj4 k1 k2 k3 k4
  walk_at "ev"
 have nm := vP (o := false) (ss := rs.map (·.1)) (l := 0) (u := 8) (by omega) (by simp; omega) (by simp; omega) (fun x hx => by
  obtain ⟨p, hp, rfl⟩ := List.mem_map.mp hx
  exact (ok p hp).1) nd
 have y1 := fun o => pV o rs
 have n1 := kF rs
 have l4 : rs.length ≤ 100000 := by omega
 clear ok nd
 walk_at "ev"
def dA (o : Bool) (f : Fm) : T := .ins o "Archive" ["first", "present", "letters", "inks", "reigns"] [.int f.first, .int (f.first + f.span), .lst o (f.names.map .str), .lst o (f.inks.map (dZ o)), .lst o (f.reigns.map fR)]
theorem fi1 : fQ "first" [] = none := rfl
theorem fi2 : fQ "present" ["first"] = none := by decide +kernel
theorem fi3 : fQ "letters" ["first", "present"] = none := by decide +kernel
theorem fi4 : fQ "inks" ["first", "present", "letters"] = none := by decide +kernel
theorem fi5 : fQ "reigns" ["first", "present", "letters", "inks"] = none := by decide +kernel
theorem ct1 : (["Archive"] : List Str).contains "Archive" = true := by decide +kernel
theorem at9 {f : Fm} (g : Gd f) : lO [.int f.first, .int (f.first + f.span), .lst false (f.names.map .str), .lst false (f.inks.map (dZ false)), .lst false (f.reigns.map fR)] = .ok (dA true f) := by
 unfold lO jI dA
 have k1 := bp2 g.f0 (show f.first ≤ f.first + f.span by have := g.s0; omega) g.f1 (by have := g.s1; omega)
 have k2 := vP (o := false) (l := 1) (u := 8) (ss := f.names) (by have := g.n1; omega) (by have := g.n8; omega) (by have := g.n8; omega) g.nn g.nd
 have k3 := bu4 g.i6 g.ind g.inn
 have k4 := bj1 g.r8 g.rnd g.rn
 have n1 := kR f.inks
 have n2 := kF f.reigns
 have z1 := oG false f.inks
 have z2 := qC f.reigns
 have i1 := fi1
 have i2 := fi2
 have i3 := fi3
 have i4 := fi4
 have i5 := fi5
 have c1 := ct1
 have d0 : ∀ x y z : T, cG (fS (bN (aK 6) (bN (aK 7) gA))) dG (dH (aE (aV (aD 6)) (aE (cU hV (aE (aD 7) aJ)) aJ))) [some x, some (.int f.first), some (.int (f.first + f.span)), some y, some (.lst false (f.inks.map (dZ false))), some z, none, none] (f.inks.map (dZ false)) = .ok (f.inks.map (dZ true)) := fun x y z =>
  mG fun p _ => by simp only [dZ]; walk_at "ev"
 have l4 : f.inks.length ≤ 100000 := by have := g.i6; omega
 clear g
 have q1 : decide (0 < 1000) = true := rfl
 have q2 : decide (1 < 1000) = true := rfl
 have q3 : decide (2 < 1000) = true := rfl
 have q4 : decide (3 < 1000) = true := rfl
 have q5 : decide (4 < 1000) = true := rfl
 walk_at "ev"
end Nk22
namespace Nk22
open PySem L2 TL
theorem jC (o : Bool) (f : Fm) : frz (dA o f) = dA false f := by simp only [dA, frz, frzs, yC, oG, qC]
theorem jH (f : Fm) : eI (dA false f) = true := by simp only [dA, eI, bG, qT, kR, kF, Bool.not_false, Bool.and_self]
theorem bj0 (f : Fm) : eN (dA true f) = true := by simp only [dA, eN, dX, vJ, vN, aa3, Bool.and_self]
theorem bf0 (o : Bool) (f : Fm) : eZ ["Archive"] "first" (dA o f) = .ok (.int f.first) := by with_unfolding_all rfl
theorem aj3 (o : Bool) (f : Fm) : eZ ["Archive"] "present" (dA o f) = .ok (.int (f.first + f.span)) := by with_unfolding_all rfl
theorem sH (o : Bool) (f : Fm) : eZ ["Archive"] "letters" (dA o f) = .ok (.lst o (f.names.map .str)) := by with_unfolding_all rfl
theorem bc4 (o : Bool) (f : Fm) : eZ ["Archive"] "inks" (dA o f) = .ok (.lst o (f.inks.map (dZ o))) := by with_unfolding_all rfl
theorem ab7 (o : Bool) (f : Fm) : eZ ["Archive"] "reigns" (dA o f) = .ok (.lst o (f.reigns.map fR)) := by with_unfolding_all rfl
theorem jY {α : Type} (a : α) (l : List α) : atI (a :: l) 0 = some a := eX (j := 0) rfl
theorem iS {α : Type} (a b : α) (l : List α) : atI (a :: b :: l) 1 = some b := eX (j := 1) rfl
theorem rK {α : Type} (a b c : α) (l : List α) : atI (a :: b :: c :: l) 2 = some c := eX (j := 2) rfl
theorem vU {α : Type} (a b c d : α) (l : List α) : atI (a :: b :: c :: d :: l) 3 = some d := eX (j := 3) rfl
theorem ix4 {α : Type} (a b c d e : α) (l : List α) : atI (a :: b :: c :: d :: e :: l) 4 = some e := eX (j := 4) rfl
theorem ad8 {f : Fm} (g : Gd f) : kP [gB false f] = .ok (dA true f) := by
 unfold kP nT
 have hc : cG (fS (bN (aK 2) (bN (aK 3) gA))) dG (dH (aE (aV (aD 2)) (aE (cU hV (aE (aD 3) aJ)) aJ))) [some (gB false f), none, none, none] (f.inks.map (dZ false)) = .ok (f.inks.map (dZ true)) :=
  mG fun p _ => by simp only [dZ]; walk_at "ev"
 have k := at9 g
 have n1 := kR f.inks
 have n2 := kF f.reigns
 have z1 := oG true f.inks
 have z2 := qC f.reigns
 have z3 := vN f.inks
 have l4 : f.inks.length ≤ 100000 := by have := g.i6; omega
 have ca := bj0 f
 have a0 := fun l => jY (T.int f.first) l
 simp only [gB] at hc ⊢
 clear g
 have b0 := @jY T
 have b1 := @iS T
 have b2 := @rK T
 have b3 := @vU T
 have b4 := @ix4 T
 walk_at "ev"
def lW : Option Int → T
 | none => .non
 | some h => .int h
def iF : List Str := ["Ink", "Reign", "Under", "Between", "After", "Same", "Within", "Apart"]
def gJ (o : Bool) (c : Str) (ls : List Int) (lo : Int) (hi : Option Int) (x : Str) : T := .ins o c ["spoken", "low", "high", "text"] [.lst o (ls.map .int), .int lo, lW hi, .str x]
theorem ai5 (h : Option Int) : eI (lW h) = true ∧ eN (lW h) = true ∧ frz (lW h) = lW h := by cases h <;> exact ⟨rfl, rfl, rfl⟩
theorem wN (h : Option Int) : eI (lW h) = true := (ai5 h).1
theorem az0 (h : Option Int) : eN (lW h) = true := (ai5 h).2.1
theorem bs8 (h : Option Int) : frz (lW h) = lW h := (ai5 h).2.2
theorem eS (c : Str) (ls : List Int) (lo : Int) (hi : Option Int) (x : Str) : eN (gJ true c ls lo hi x) = true := by simp only [gJ, eN, dX, vH, az0, Bool.and_self]
theorem ct2 (c : Str) (ls : List Int) (lo : Int) (hi : Option Int) (x : Str) : eI (gJ false c ls lo hi x) = true := by simp only [gJ, eI, bG, kS, wN, Bool.not_false, Bool.and_self]
theorem cr9 (o : Bool) (c : Str) (ls : List Int) (lo : Int) (hi : Option Int) (x : Str) : frz (gJ o c ls lo hi x) = gJ false c ls lo hi x := by simp only [gJ, frz, frzs, uQ, bs8]
theorem fj1 : fQ "spoken" [] = none := rfl
theorem fj2 : fQ "low" ["spoken"] = none := by decide +kernel
theorem fj3 : fQ "high" ["spoken", "low"] = none := by decide +kernel
theorem fj4 : fQ "text" ["spoken", "low", "high"] = none := by decide +kernel
theorem ct8 : ∀ c ∈ iF, (["Ink", "Reign", "Under", "Between", "After", "Same", "Within", "Apart"] : List Str).contains c = true := by decide +kernel
theorem cs6 {ys : List Str} (h : ∀ y ∈ ys, y.length ≤ 2000000) (hl : ys.length ≤ 5) (o : Bool) : aj0 (.str " ") [.lst o (ys.map .str)] = .ok (.str (Txt.join " " ys)) := by
 rw [bq3, if_pos]
 have hs : (ys.map (·.length)).sum ≤ ys.length * 2000000 := by
  clear hl
  induction ys with
  | nil => simp
  | cons y ys ih =>
   have h1 := h y List.mem_cons_self
   have h2 := ih fun z hz => h z (List.mem_cons_of_mem _ hz)
   simp only [List.map_cons, List.sum_cons, List.length_cons]
   omega
 have h1 : (" " : Str).length = 1 := by decide +kernel
 rw [h1]
 have : ys.length * 2000000 ≤ 5 * 2000000 := Nat.mul_le_mul_right _ hl
 omega
theorem zG (n : Str) : ∀ ss : List Str, wV (.str n) (ss.map .str) = some (ss.map fun s => s == n)
 | [] => rfl
 | s :: ss => by
  simp only [List.map_cons, wV, zG n ss]
  rfl
theorem bg3 {n : Str} : ∀ {ss : List Str} {l : Nat}, ss.Nodup → ss[l]? = some n → xE (ss.map fun s => s == n) = some l
 | [], l, _, h => by simp at h
 | s :: ss, 0, _, h => by
  simp at h
  subst h
  simp [xE]
 | s :: ss, l + 1, nd, h => by
  rw [List.nodup_cons] at nd
  simp only [List.getElem?_cons_succ] at h
  have hne : (s == n) = false := by
   simp
   rintro rfl
   exact nd.1 (List.mem_of_getElem? h)
  simp only [List.map_cons, hne, xE, bg3 nd.2 h]
  rfl
theorem cq7 {f : Fm} (g : Gd f) {l : Nat} {n : Str} (h : f.names[l]? = some n) (o : Bool) : vW (.lst o (f.names.map .str)) [.str n] = .ok (.int (l : Int)) := by
 simp only [vW, zG, bg3 g.nd h]
theorem cp0 {ss : List Str} {n : Str} (h : n ∈ ss) (o : Bool) : inT false (.str n) (.lst o (ss.map .str)) = .ok (.bl true) := by
 have : (ss.map fun s => s == n).any id = true := by
  rw [List.any_map, List.any_eq_true]
  exact ⟨n, h, by simp⟩
 simp only [inT, zG, Bool.false_eq_true, if_false, this]
theorem e_init {f : Fm} (g : Gd f) {c w : Str} (hc : c ∈ iF) {ps : List T} {ds : List T} {nl : List (Str × Nat)} {xs : List Str} {lo : Int} {hi : Option Int} (hp : bG ps = true) (hpl : ps.length ≤ 4) (hk : kt_PARTS.lookup w = some (.tup ds)) (hds : bG ds = true)
 (h7 : ∀ a b d e h i : Option T, cG (fS (bN (aK 7) (bN (aK 8) gA))) (bS (aG fV (aD 8) (dC (.str "letter")))) (aV (aD 7)) [a, b, d, e, h, i, none, none, none, none] (gO ps ds) = .ok ((nl.map (·.1)).map .str))
 (hn : nl.length ≤ 4) (hnl : ∀ p ∈ nl, f.names[p.2]? = some p.1)
 (hx : ∀ a b d e h i j : Option T, cG (aK 7) dG (cU ab0 (aE (aD 7) aJ)) [a, b, d, e, h, i, j, none, none, none] ps = .ok (xs.map .str)) (hxl : xs.length ≤ 4) (hxb : ∀ y ∈ w :: xs, y.length ≤ 2000000) :
 ∃ x, jO (cK (cZ 10 [.ins true c [] [], dA false f, .str w, .lst false ps, .int lo, lW hi])) = .ok (gJ true c (nl.map fun p => (p.2 : Int)) lo hi x) := by
 refine ⟨Txt.join " " (w :: xs), ?_⟩
 unfold cK gJ
 have hl7 : (gO ps ds).length ≤ sizeLine := by rw [yM]; exact qA (by omega)
 have i1 := fj1
 have i2 := fj2
 have i3 := fj3
 have i4 := fj4
 have cc := ct8 c hc
 have fl := sH false f
 have h9 : cG (aK 9) dG (dBM ai2 vW (fF (eZ ["Archive"] "letters") (aD 1)) (aE (aD 9) aJ)) [some (.ins true c [] []), some (dA false f), some (.str w), some (.lst false ps), some (.int lo), some (lW hi), some (.lst true ((nl.map (·.1)).map .str)), none, none, none] ((nl.map (·.1)).map .str) = .ok ((nl.map fun p => (p.2 : Int)).map .int) := by
  rw [List.map_map, List.map_map]
  refine eW (α := Str × Nat) fun p hp => ?_
  have := cq7 g (hnl p hp) false
  walk_at "ev"
  exact this
 have nh := wN hi
 have jn := cs6 (ys := w :: xs) hxb (by simp; omega) true
 simp only [List.map_cons] at jn
 have np := qT
 have hxl2 : 1 + xs.length ≤ sizeLine := qA (by omega)
 have hnn : (nl.map (·.1)).length ≤ 100000 := by simp; omega
 have q1 : decide (0 < 1000) = true := rfl
 have q2 : decide (1 < 1000) = true := rfl
 have q3 : decide (2 < 1000) = true := rfl
 have q4 : decide (3 < 1000) = true := rfl
 clear g hnl hxb
 walk_at "ev"
end Nk22
namespace Nk22
open PySem L2 TL
theorem dl7 (a b : T) : frz (.tup [a, b]) = .tup [frz a, frz b] := rfl
theorem bc9 {a : T} {ts us : List T} (h : a ∈ gO ts us) : ∃ (i : Nat) (t u : T), ts[i]? = some t ∧ us[i]? = some u ∧ a = .tup [t, u] := by
 obtain ⟨i, hi⟩ := List.getElem?_of_mem h
 obtain ⟨t, u, h1, h2, h3⟩ := au6 hi
 exact ⟨i, t, u, h1, h2, h3⟩
theorem bf6 {ts : List T} {i : Nat} {t : T} (h : bG ts = true) (e : ts[i]? = some t) : eI t = true := by
 rw [oH, List.all_eq_true] at h
 exact h t (List.mem_of_getElem? e)
theorem jW {f : Fm} {w : Str} {ps : List T} {ds : List Str} (hk : kt_PARTS.lookup w = some (.tup (ds.map .str))) (hp : bG ps = true) (hl : ps.length = ds.length) (h4 : ds.length ≤ 4)
 (h : ∀ (i : Nat) (d : Str) (p : T), ds[i]? = some d → ps[i]? = some p → gH [dA false f, .str d, p] = .ok (.bl true)) : oJ [dA false f, .str w, .lst false ps] = .ok (.bl true) := by
 unfold oJ uX
 have na := jH f
 have za := jC false f
 have hc : cG (fS (bN (aK 3) (bN (aK 4) gA))) dG (bQ 3 gH (aE (aD 0) (aE (aD 3) (aE (aD 4) aJ)))) [some (dA false f), some (.str w), some (.lst false ps), none, none] (gO (ds.map .str) ps) = .ok ((gO (ds.map .str) ps).map fun _ => .bl true) := by
  have := mG (b := fS (bN (aK 3) (bN (aK 4) gA))) (c := dG) (d := bQ 3 gH (aE (aD 0) (aE (aD 3) (aE (aD 4) aJ)))) (ρ := [some (dA false f), some (.str w), some (.lst false ps), none, none]) (g := id) (f := fun _ => T.bl true) (l := gO (ds.map .str) ps) fun a ha => ?_
  · rw [List.map_id] at this
    exact this
  obtain ⟨i, t, u, h1, h2, rfl⟩ := bc9 ha
  rw [List.getElem?_map] at h1
  cases e : ds[i]? with
  | none => rw [e] at h1; cases h1
  | some d =>
   rw [e] at h1
   cases h1
   have k := h i d u e h2
   have nu := bf6 hp h2
   have zu := ah7 u nu
   simp only [id]
   clear h hk hp ha
   walk_at "ev"
 have hs : (kt_PARTS.lookup w).isSome = true := by rw [hk]; rfl
 have e1 : (!((ps.length : Int) == (ds.length : Int))) = false := by rw [hl]; simp
 have hpl : (gO (ds.map .str) ps).length ≤ sizeLine := by rw [yM, List.length_map]; exact qA (by omega)
 have y := fun o => pV o (gO (ds.map .str) ps)
 have nd := qT ds
 clear h hl
 walk_at "ev"
theorem uB : ∀ d ∈ (["ink", "reign", "dark", "place", "year", "later", "gap"] : List Str), (d == "letter") = false := by decide +kernel
theorem du2 : ∀ d ∈ (["reign", "dark", "place", "year", "later", "gap"] : List Str), (d == "ink") = false := by decide +kernel
theorem dc7 : ∀ d ∈ (["dark", "place", "year", "later", "gap"] : List Str), (d == "reign") = false := by decide +kernel
theorem fO {f : Fm} {n : Str} (h : n ∈ f.names) : gH [dA false f, .str "letter", .str n] = .ok (.bl true) := by
 unfold gH nW
 have k := cp0 h false
 have fl := sH false f
 have e : (("letter" : Str) == "letter") = true := beq_self_eq_true _
 walk_at "ev"
theorem ct6 {f : Fm} (g : Gd f) {n : Str} (h : n ∈ f.inks.map (·.1)) : gH [dA false f, .str "ink", .str n] = .ok (.bl true) := by
 unfold gH nW
 have fl := bc4 false f
 have e : (("ink" : Str) == "ink") = true := beq_self_eq_true _
 have e1 := uB "ink" (by decide +kernel)
 have k := cp0 h true
 have b0 := @jY T
 have l6 : f.inks.length ≤ 100000 := by have := g.i6; omega
 have n1 := kR f.inks
 have hc : cG (aK 3) dG (aV (aG bE (aD 3) (dC (.int 0)))) [some (dA false f), some (.str "ink"), some (.str n), none, none] (f.inks.map (dZ false)) = .ok ((f.inks.map (·.1)).map .str) := by
  rw [List.map_map]
  exact eW fun p _ => by simp only [dZ]; walk_at "ev"; rfl
 clear g h
 walk_at "ev"
theorem aq6 {f : Fm} (g : Gd f) {n : Str} (h : n ∈ f.reigns.map (·.1)) : gH [dA false f, .str "reign", .str n] = .ok (.bl true) := by
 unfold gH nW
 have fl := ab7 false f
 have e : (("reign" : Str) == "reign") = true := beq_self_eq_true _
 have e1 := uB "reign" (by decide +kernel)
 have e2 := du2 "reign" (by decide +kernel)
 have k := cp0 h true
 have b0 := @jY T
 have l6 : f.reigns.length ≤ 100000 := by have := g.r8; omega
 have n1 := kF f.reigns
 have hc : cG (aK 4) dG (aV (aG bE (aD 4) (dC (.int 0)))) [some (dA false f), some (.str "reign"), some (.str n), none, none] (f.reigns.map fR) = .ok ((f.reigns.map (·.1)).map .str) := by
  rw [List.map_map]
  exact eW fun p _ => by simp only [fR]; walk_at "ev"; rfl
 clear g h
 walk_at "ev"
theorem oF {f : Fm} {d : Str} {lo hi i : Int} (hd : d ∈ (["dark", "place", "year", "later", "gap"] : List Str)) (hk : kt_NUMBERS.lookup d = some (.tup [.int lo, .int hi])) (h1 : lo ≤ i) (h2 : i ≤ hi) : gH [dA false f, .str d, .int i] = .ok (.bl true) := by
 unfold gH nW
 have e1 := uB d (List.mem_cons_of_mem _ (List.mem_cons_of_mem _ hd))
 have e2 := du2 d (List.mem_cons_of_mem _ hd)
 have e3 := dc7 d hd
 have k := nV h1 h2
 have b0 := @jY T
 have b1 := @iS T
 walk_at "ev"
theorem br3 : kt_NUMBERS.lookup ("dark" : Str) = some (.tup [.int 0, .int 1000000]) := by with_unfolding_all rfl
theorem ch1 : kt_NUMBERS.lookup ("place" : Str) = some (.tup [.int 1, .int 100]) := by with_unfolding_all rfl
theorem bi3 : kt_NUMBERS.lookup ("year" : Str) = some (.tup [.int (-4000), .int 4000]) := by with_unfolding_all rfl
theorem cc1 : kt_NUMBERS.lookup ("later" : Str) = some (.tup [.int 0, .int 300]) := by with_unfolding_all rfl
theorem bb8 : kt_NUMBERS.lookup ("gap" : Str) = some (.tup [.int (-300), .int 300]) := by with_unfolding_all rfl
abbrev d_ink : List Str := ["letter", "ink", "dark", "dark"]
abbrev d_reign : List Str := ["letter", "reign", "place"]
abbrev d_under : List Str := ["letter", "reign"]
abbrev d_between : List Str := ["letter", "year", "year"]
abbrev d_two : List Str := ["letter", "letter"]
abbrev d_within : List Str := ["letter", "letter", "later"]
abbrev d_apart : List Str := ["letter", "letter", "gap", "gap"]
theorem bs0 : kt_PARTS.lookup ("ink" : Str) = some (.tup (d_ink.map .str)) := by with_unfolding_all rfl
theorem aq1 : kt_PARTS.lookup ("reign" : Str) = some (.tup (d_reign.map .str)) := by with_unfolding_all rfl
theorem au1 : kt_PARTS.lookup ("under" : Str) = some (.tup (d_under.map .str)) := by with_unfolding_all rfl
theorem xG : kt_PARTS.lookup ("between" : Str) = some (.tup (d_between.map .str)) := by with_unfolding_all rfl
theorem aj1 : kt_PARTS.lookup ("after" : Str) = some (.tup (d_two.map .str)) := by with_unfolding_all rfl
theorem am5 : kt_PARTS.lookup ("same" : Str) = some (.tup (d_two.map .str)) := by with_unfolding_all rfl
theorem yT : kt_PARTS.lookup ("within" : Str) = some (.tup (d_within.map .str)) := by with_unfolding_all rfl
theorem ae1 : kt_PARTS.lookup ("apart" : Str) = some (.tup (d_apart.map .str)) := by with_unfolding_all rfl
theorem di1 : tb_MAKERS.lookup ("ink" : Str) = some oZ := by with_unfolding_all rfl
theorem bz9 : tb_MAKERS.lookup ("reign" : Str) = some mI := by with_unfolding_all rfl
theorem cu2 : tb_MAKERS.lookup ("under" : Str) = some mO := by with_unfolding_all rfl
theorem bv5 : tb_MAKERS.lookup ("between" : Str) = some kG := by with_unfolding_all rfl
theorem ck2 : tb_MAKERS.lookup ("after" : Str) = some mU := by with_unfolding_all rfl
theorem cn5 : tb_MAKERS.lookup ("same" : Str) = some nQ := by with_unfolding_all rfl
theorem bh8 : tb_MAKERS.lookup ("within" : Str) = some lF := by with_unfolding_all rfl
theorem bv9 : tb_MAKERS.lookup ("apart" : Str) = some mJ := by with_unfolding_all rfl
theorem lI {f : Fm} {w d1 : Str} {ps ds : List T} {F : List T → Res T} {r : T} (hk : kt_PARTS.lookup w = some (.tup ds)) (hp : bG ps = true) (hds : bG ds = true) (hd : oJ [dA false f, .str w, .lst false ps] = .ok (.bl true)) (h1 : atI ds 1 = some (.str d1))
 (h2 : (d1 == "letter") = false ∨ ((d1 == "letter") = true ∧ ∃ a b : Str, atI ps 0 = some (.str a) ∧ atI ps 1 = some (.str b) ∧ (a == b) = false)) (hm : tb_MAKERS.lookup w = some F) (hF : F [dA false f, .lst false ps] = .ok r) (hc : eN r = true) :
 dI [dA false f, .str w, .lst false ps] = .ok r := by
 unfold dI qN
 have na := jH f
 have za := jC false f
 have zp := gC ps hp
 rcases h2 with h2 | ⟨h2, a, b, h3, h4, h5⟩
 · walk_at "ev"
 · walk_at "ev"
end Nk22
namespace Nk22
open PySem L2 TL
def pB (xs : List Int) (d e : Int) (j : Nat) : Bool := decide ((if xs.getD (min j (xs.length - 1)) 0 - d < 0 then -(xs.getD (min j (xs.length - 1)) 0 - d) else xs.getD (min j (xs.length - 1)) 0 - d) ≤ e)
def gN (xs : List Int) (d e : Int) (n : Nat) : List Int := ((List.range n).filter (pB xs d e)).map fun (j : Nat) => (j : Int)
def by9 : List Int → T
 | [] => .non
 | a :: l => .tup [.int a, .int ((a :: l).getD l.length 0)]
theorem oI (xs : List Int) (d e : Int) (n : Nat) : gN xs d e (n + 1) = gN xs d e n ++ (if pB xs d e n = true then [(n : Int)] else []) := by
 unfold gN
 rw [List.range_succ, List.filter_append, List.map_append]
 congr 1
 simp only [List.filter_cons, List.filter_nil]
 split <;> rfl
theorem cd2 {l : List Int} {a : Int} : atI ((a :: l).map T.int) (-1) = some (.int ((a :: l).getD l.length 0)) := by
 have e0 : tH ((a :: l).map T.int).length (-1) = some l.length := by
  unfold tH
  rw [if_neg (by decide), List.length_map, List.length_cons, if_pos (by omega)]
  congr 1
  omega
 unfold atI
 rw [e0]
 show ((a :: l).map T.int)[l.length]? = _
 rw [List.getElem?_map, List.getD_eq_getElem?_getD, List.getElem?_eq_getElem (by simp)]
 rfl
theorem wU (xs : List Int) (d e : Int) (n m : Nat) (h : ∀ j, n ≤ j → j < n + m → pB xs d e j = false) : gN xs d e (n + m) = gN xs d e n := by
 induction m with
 | zero => rfl
 | succ m ih =>
  rw [← Nat.add_assoc, oI, ih (fun j h1 h2 => h j h1 (by omega)), h (n + m) (by omega) (by omega)]
  simp
theorem yN {xs : List Int} {d e : Int} {n : Nat} (h : pB xs d e n = true) : ∃ l, gN xs d e (n + 1) = l ++ [(n : Int)] := ⟨gN xs d e n, by rw [oI, if_pos h]⟩
theorem aq2 (xs : List Int) (d e : Int) (n : Nat) : ∀ x ∈ gN xs d e n, x < n := by
 intro x hx
 unfold gN at hx
 obtain ⟨j, hj, rfl⟩ := List.mem_map.mp hx
 have := List.mem_range.mp (List.mem_filter.mp hj).1
 omega
theorem ae7 (l : List Int) (z : Int) : (l ++ [z]).getD l.length 0 = z := by
 rw [List.getD_eq_getElem?_getD, List.getElem?_append_right (Nat.le_refl _)]
 simp
theorem cp5 (xs : List Int) (d e : Int) (G : Nat) (h0 : 0 < xs.length) (a : Int) (l : List Int) (hh : gN xs d e (min (xs.length - 1) G + 1) = a :: l) :
 by9 (gN xs d e (G + 1)) = .tup [.int a, .int (if (a :: l).getD l.length 0 = ((xs.length - 1 : Nat) : Int) then (G : Int) else (a :: l).getD l.length 0)] := by
 have hmem : (a :: l).getD l.length 0 ∈ a :: l := by
  rw [List.getD_eq_getElem?_getD, List.getElem?_eq_getElem (by simp)]
  exact List.getElem_mem _
 have hb := aq2 xs d e (min (xs.length - 1) G + 1) _ (by rw [hh]; exact hmem)
 rcases Nat.lt_or_ge (xs.length - 1) G with hG | hG
 · rw [Nat.min_eq_left (by omega)] at hh hb
   have same : ∀ j, xs.length - 1 ≤ j → pB xs d e j = pB xs d e (xs.length - 1) := by
    intro j hj
    unfold pB
    rw [Nat.min_eq_right hj, Nat.min_self]
   cases hp : pB xs d e (xs.length - 1) with
   | true =>
    have hG' : pB xs d e G = true := by rw [same G (by omega), hp]
    obtain ⟨l1, h1⟩ := yN hG'
    obtain ⟨l2, h2⟩ := yN hp
    rw [hh] at h2
    have pre : ∀ m, ∃ r, gN xs d e (xs.length - 1 + 1 + m) = a :: l ++ r := by
     intro m
     induction m with
     | zero => exact ⟨[], by rw [Nat.add_zero, hh, List.append_nil]⟩
     | succ m ih =>
      obtain ⟨r, hr⟩ := ih
      rw [← Nat.add_assoc, oI, hr, List.append_assoc]
      exact ⟨_, rfl⟩
    obtain ⟨r, hr⟩ := pre (G + 1 - (xs.length - 1 + 1))
    rw [show xs.length - 1 + 1 + (G + 1 - (xs.length - 1 + 1)) = G + 1 by omega] at hr
    have last : (a :: l).getD l.length 0 = ((xs.length - 1 : Nat) : Int) := by
     have : l.length = l2.length := by
      have := congrArg List.length h2
      simp at this
      exact this
     rw [h2, this, ae7]
    rw [last, if_pos rfl, hr]
    rw [hr] at h1
    show T.tup [.int a, .int ((a :: (l ++ r)).getD (l ++ r).length 0)] = _
    have h1' : a :: (l ++ r) = l1 ++ [(G : Int)] := h1
    have hlen : (l ++ r).length = l1.length := by
     have := congrArg List.length h1'
     simp at this ⊢
     exact this
    rw [h1', hlen, ae7]
   | false =>
    have hs := wU xs d e (xs.length - 1 + 1) (G + 1 - (xs.length - 1 + 1)) (fun j h1 h2 => by rw [same j (by omega), hp])
    rw [show xs.length - 1 + 1 + (G + 1 - (xs.length - 1 + 1)) = G + 1 by omega, hh] at hs
    rw [hs]
    have hz : gN xs d e (xs.length - 1 + 1) = gN xs d e (xs.length - 1) := wU xs d e (xs.length - 1) 1 (fun j h1 h2 => by rw [show j = xs.length - 1 by omega, hp])
    have hb2 := aq2 xs d e (xs.length - 1) _ (by rw [← hz, hh]; exact hmem)
    rw [if_neg (by omega)]
    rfl
 · rw [Nat.min_eq_right hG] at hh hb
   rw [hh]
   show T.tup [.int a, .int ((a :: l).getD l.length 0)] = _
   have : (if (a :: l).getD l.length 0 = ((xs.length - 1 : Nat) : Int) then (G : Int) else (a :: l).getD l.length 0) = (a :: l).getD l.length 0 := by
    split
    · next h => rw [h]; rw [h] at hb; omega
    · rfl
   rw [this]
theorem cx0 (xs : List Int) (d e : Int) (G : Nat) (h0 : 0 < xs.length) (hh : gN xs d e (min (xs.length - 1) G + 1) = []) : gN xs d e (G + 1) = [] := by
 rcases Nat.lt_or_ge (xs.length - 1) G with hG | hG
 · rw [Nat.min_eq_left (by omega)] at hh
   have hp : pB xs d e (xs.length - 1) = false := by
    cases hp : pB xs d e (xs.length - 1) with
    | false => rfl
    | true =>
     obtain ⟨l, h⟩ := yN hp
     rw [hh] at h
     simp at h
   have hs := wU xs d e (xs.length - 1 + 1) (G + 1 - (xs.length - 1 + 1)) (fun j h1 h2 => by
    have : pB xs d e j = pB xs d e (xs.length - 1) := by
     unfold pB
     rw [Nat.min_eq_right (by omega), Nat.min_self]
    rw [this, hp])
   rw [show xs.length - 1 + 1 + (G + 1 - (xs.length - 1 + 1)) = G + 1 by omega, hh] at hs
   exact hs
 · rw [Nat.min_eq_right hG] at hh
   exact hh
theorem bc7 (o : Bool) (xs : List Int) (d e : Int) (G : Nat) (h0 : xs ≠ []) (hx : xs.length ≤ 1000) (hG : G ≤ 1000) : oM [.lst o (xs.map .int), .int d, .int e, .int G] = .ok (by9 (gN xs d e (G + 1))) := by
 unfold oM uR
 have hl : 0 < xs.length := List.length_pos_iff.mpr h0
 obtain ⟨n, hn⟩ : ∃ n, min (xs.length - 1) G + 1 = n := ⟨_, rfl⟩
 have e1 : (if (G : Int) < (xs.length : Int) - 1 then (G : Int) else (xs.length : Int) - 1) + 1 = (n : Int) := by
  split <;> omega
 have k1 : -(2 ^ 62) ≤ (n : Int) ∧ (n : Int) < 2 ^ 62 := by omega
 have k2 : (jE 0 (n : Int).toNat).length ≤ sizeLine := by rw [gW]; exact qA (by omega)
 have hc : cG (aK 7) (bS (aG pP (cU ao1 (aE (aG dQ (aG bE (aD 0) (aD 7)) (aD 1)) aJ)) (aD 2))) (aV (aD 7)) [some (.lst o (xs.map .int)), some (.int d), some (.int e), some (.int G), some (.int ((xs.length : Int) - 1)), none, none, none] (jE 0 (n : Int).toNat) = .ok ((gN xs d e n).map .int) := by
  unfold jE gN
  rw [Int.toNat_natCast, List.map_map]
  refine ao3 fun i hi => ?_
  have hi := List.mem_range.mp hi
  have a1 := tM (xs := xs) (i := i) (by omega)
  have hp : pB xs d e i = decide ((if xs.getD i 0 - d < 0 then -(xs.getD i 0 - d) else xs.getD i 0 - d) ≤ e) := by
   unfold pB
   rw [Nat.min_eq_left (by omega)]
  have z : (0 : Int) + (i : Int) = (i : Int) := Int.zero_add _
  refine ⟨?_, fun _ => ?_⟩
  · rw [hp]
    clear hp
    walk_at "ev"
  · clear hp
    walk_at "ev"
    rfl
 walk_at "ev"
 have hlast : ((xs.length : Int) - 1) = ((xs.length - 1 : Nat) : Int) := by omega
 cases hh : gN xs d e n with
 | nil =>
  rw [← hn] at hh
  have z1 := cx0 xs d e G hl hh
  have z2 : (((0 : Nat) : Int) == 0) = true := rfl
  rw [z1]
  clear hh hn e1 hc z1 hlast
  walk_at "ev"
  rfl
 | cons a l =>
  rw [← hn] at hh
  rw [cp5 xs d e G hl a l hh]
  have q1 : atI ((a :: l).map T.int) 0 = some (.int a) := eX (j := 0) rfl
  have q2 : atI ((a :: l).map T.int) ((((a :: l).map T.int).length : Int) - 1) = some (.int ((a :: l).getD l.length 0)) := by
   have := tM (xs := a :: l) (i := l.length) (by simp)
   rw [List.length_map, List.length_cons, show ((l.length + 1 : Nat) : Int) - 1 = (l.length : Int) by omega]
   exact this
  have q3 : ((((a :: l).map T.int).length : Int) == 0) = false := by
   rw [List.length_map, List.length_cons, beq_eq_false_iff_ne]
   omega
  have q3' : (((l.length + 1 : Nat) : Int) == 0) = false := by
   rw [beq_eq_false_iff_ne]
   omega
  have q4 : (2 : Nat) ≤ sizeLine := by decide
  have q5 : bG ((a :: l).map T.int) = true := kS _
  clear hh hn e1 hc
  generalize (a :: l).map T.int = X at q1 q2 q3 q5 ⊢
  generalize (a :: l).getD l.length 0 = z at q2 ⊢
  cases hz : (z == ((xs.length - 1 : Nat) : Int)) with
  | true =>
   have hz' : z = ((xs.length - 1 : Nat) : Int) := eq_of_beq hz
   rw [if_pos hz']
   clear hz'
   walk_at "ev"
  | false =>
   have hz' : ¬ z = ((xs.length - 1 : Nat) : Int) := by rw [beq_eq_false_iff_ne] at hz; exact hz
   rw [if_neg hz']
   clear hz'
   walk_at "ev"
end Nk22
namespace Nk22
open PySem L2 TL
theorem yQ {α : Type} {b : T → Fr → Option Fr} {body : Fr → cO} {g r : α → T} {key : α → Str} {n : Str} (Iv : Fr → Prop)
 (hs : ∀ a ρ, Iv ρ → ∃ ρ1, b (g a) ρ = some ρ1 ∧ (((key a == n) = true ∧ body ρ1 = .rt (r a)) ∨ ((key a == n) = false ∧ ∃ ρ2, body ρ1 = .nx ρ2 ∧ Iv ρ2))) :
 ∀ {l : List α} {ρ : Fr} {a0 : α}, Iv ρ → l.find? (fun a => key a == n) = some a0 → eT b body (l.map g) ρ = .rt (r a0)
 | [], ρ, a0, _, h => by simp at h
 | a :: l, ρ, a0, hi, h => by
  obtain ⟨ρ1, h1, h2⟩ := hs a ρ hi
  rw [List.find?_cons] at h
  simp only [List.map_cons, eT, h1]
  rcases h2 with ⟨k, h2⟩ | ⟨k, ρ2, h2, h3⟩
  · rw [k] at h
    cases h
    rw [h2]
  · rw [k] at h
    rw [h2]
    exact yQ Iv hs h3 h
theorem ah5 {α : Type} {key : α → Str} : ∀ {l : List α} {a : α}, (l.map key).Nodup → a ∈ l → l.find? (fun x => key x == key a) = some a
 | [], a, _, h => by cases h
 | x :: l, a, nd, h => by
  rw [List.map_cons, List.nodup_cons] at nd
  rw [List.find?_cons]
  rcases List.mem_cons.mp h with rfl | h
  · simp
  · have : (key x == key a) = false := by
     simp
     intro e
     exact nd.1 (by rw [e]; exact List.mem_map_of_mem h)
    rw [this]
    exact ah5 nd.2 h
theorem e_table {f : Fm} (g : Gd f) {p : Str × List Int} (hp : p ∈ f.inks) : fJ [dA false f, .str p.1] = .ok (.lst true (p.2.map .int)) := by
 unfold fJ jB
 have fl := bc4 false f
 have n1 := kR f.inks
 have key : ∀ o2 o3 : Option T, eT (fS (bN (aK 2) (bN (aK 3) gA))) (dP (bS (aG fV (aD 2) (aD 1))) (bT [] (cU hV (aE (aD 3) aJ))) cP) (f.inks.map (dZ false)) [some (dA false f), some (.str p.1), o2, o3] = .rt (.lst true (p.2.map .int)) := fun o2 o3 => by
  refine yQ (key := fun q : Str × List Int => q.1) (r := fun q : Str × List Int => .lst true (q.2.map .int)) (fun ρ => ∃ o2 o3, ρ = [some (dA false f), some (.str p.1), o2, o3]) ?_ ⟨o2, o3, rfl⟩ (ah5 (key := fun q : Str × List Int => q.1) g.ind hp)
  rintro a ρ ⟨o2, o3, rfl⟩
  refine ⟨[some (dA false f), some (.str p.1), some (.str a.1), some (.lst false (a.2.map .int))], rfl, ?_⟩
  cases e : (a.1 == p.1) with
  | true => exact .inl ⟨rfl, by walk_at "ev"⟩
  | false => exact .inr ⟨rfl, [some (dA false f), some (.str p.1), some (.str a.1), some (.lst false (a.2.map .int))], by walk_at "ev", _, _, rfl⟩
 clear g
 walk_at "ev"
theorem ao9 {f : Fm} (g : Gd f) {p : Str × Int × Int} (hp : p ∈ f.reigns) : gP [dA false f, .str p.1] = .ok (fR p) := by
 unfold gP mF
 have fl := ab7 false f
 have n1 := kF f.reigns
 have b0 := @jY T
 have key : ∀ o2 : Option T, eT (aK 2) (dP (bS (aG fV (aG bE (aD 2) (dC (.int 0))) (aD 1))) (bT [] (aV (aD 2))) cP) (f.reigns.map fR) [some (dA false f), some (.str p.1), o2] = .rt (fR p) := fun o2 => by
  refine yQ (key := fun q : Str × Int × Int => q.1) (r := fun q : Str × Int × Int => fR q) (fun ρ => ∃ o2, ρ = [some (dA false f), some (.str p.1), o2]) ?_ ⟨o2, rfl⟩ (ah5 (key := fun q : Str × Int × Int => q.1) g.rnd hp)
  rintro a ρ ⟨o2, rfl⟩
  refine ⟨[some (dA false f), some (.str p.1), some (fR a)], rfl, ?_⟩
  simp only [fR]
  cases e : (a.1 == p.1) with
  | true => exact .inl ⟨rfl, by walk_at "ev"⟩
  | false => exact .inr ⟨rfl, [some (dA false f), some (.str p.1), some (.tup [.str a.1, .int a.2.1, .int a.2.2])], by walk_at "ev", _, rfl⟩
 clear g
 walk_at "ev"
theorem zN {b l k : Int} (h1 : 1 ≤ k) (h2 : k ≤ l) : iP [.int b, .int l, .int k] = .ok (.int (b + k - 1)) := by
 unfold iP pL
 have := nV h1 h2
 walk_at "ev"
theorem rL {i : Int} (h1 : -10000000 ≤ i) (h2 : i ≤ 10000000) : i.natAbs.log2 < 1920 := by
 by_cases e : i.natAbs = 0
 · rw [e]; decide
 · rw [Nat.log2_lt e]
   exact Nat.lt_of_lt_of_le (show i.natAbs < 2 ^ 24 by omega) (Nat.pow_le_pow_right (by decide) (by decide))
theorem rF {i : Int} (h1 : -1000000 ≤ i) (h2 : i ≤ 1000000) : (toString i : Str).length ≤ 2000000 := by
 have := PyProof.Rows.len_str_of_int i
 omega
theorem iT {f : Fm} (g : Gd f) {l : Nat} {n : Str} (h : f.names[l]? = some n) : n.length ≤ 2000000 := by
 have := rC (g.nn n (List.mem_of_getElem? h))
 omega
theorem oE : ∀ w ∈ (["ink", "reign", "under", "between", "after", "same", "within", "apart"] : List Str), w.length ≤ 2000000 := by decide +kernel
theorem eL : (("letter" : Str) == "letter") = true := beq_self_eq_true _
theorem ap2 {f : Fm} (g : Gd f) {l : Nat} {n : Str} (h : f.names[l]? = some n) {lo hi : Int} (h1 : -4000 ≤ lo) (h2 : lo ≤ hi) (h3 : hi ≤ 4000) :
 ∃ x, dI [dA false f, .str "between", .lst false [.str n, .int lo, .int hi]] = .ok (gJ true "Between" [(l : Int)] lo (some hi) x) := by
 have e1 := eL
 have e2 := uB "year" (by decide +kernel)
 have g_lo := rL (show -10000000 ≤ lo by omega) (by omega)
 have g_hi := rL (show -10000000 ≤ hi by omega) (by omega)
 obtain ⟨x, hx⟩ := e_init g (c := "Between") (w := "between") (by decide +kernel) (ps := [.str n, .int lo, .int hi]) (ds := d_between.map .str) (nl := [(n, l)]) (xs := [n, toString lo, toString hi]) (lo := lo) (hi := (some hi)) rfl (by simp) xG rfl
  (by intros; simp only [List.map_cons, List.map_nil, gO, List.zipWith_cons_cons, List.zipWith_nil_left, cG]; walk_at "ev") (by simp) (by intro p hp; simp only [List.mem_cons, List.not_mem_nil, or_false] at hp; subst hp; assumption)
  (by intros; simp only [cG]; walk_at "ev") (by simp) (by
   simp only [List.mem_cons, List.not_mem_nil, or_false]
   rintro y (rfl | rfl | rfl | rfl)
   · exact oE _ (by decide +kernel)
   · exact iT g h
   · exact rF (by omega) (by omega)
   · exact rF (by omega) (by omega))
 have hm : pT [dA false f, .str "between", .lst false [.str n, .int lo, .int hi], .int lo, .int hi] = .ok (gJ true "Between" [(l : Int)] lo (some hi) x) := hx
 refine ⟨x, lI xG rfl rfl (jW xG rfl rfl (by decide) ?_) (d1 := "year") (iS _ _ _) (.inl e2) bv5 ?_ (eS _ _ _ _ _)⟩
 · intro i d q hd hq
   match i, hd, hq with
   | 0, hd, hq => cases hd; cases hq; exact fO (List.mem_of_getElem? h)
   | 1, hd, hq => cases hd; cases hq; exact oF (by decide +kernel) bi3 (by omega) (by omega)
   | 2, hd, hq => cases hd; cases hq; exact oF (by decide +kernel) bi3 (by omega) (by omega)
   | n + 3, hd, hq => simp at hd
 · unfold kG kD
   have b0 := @jY T
   have b1 := @iS T
   have b2 := @rK T
   have b3 := @vU T
   have na := jH f
   have za := jC false f
   have cs := eS "Between" [(l : Int)] lo (some hi) x
   have k1 : decide (hi < lo) = false := decide_eq_false (by omega)
   clear hx
   walk_at "ev"
theorem cc0 {f : Fm} (g : Gd f) {l m : Nat} {n k : Str} (h : f.names[l]? = some n) (h' : f.names[m]? = some k) (hne : (n == k) = false) :
 ∃ x, dI [dA false f, .str "after", .lst false [.str n, .str k]] = .ok (gJ true "After" [(l : Int), (m : Int)] 1 none x) := by
 have e1 := eL
 obtain ⟨x, hx⟩ := e_init g (c := "After") (w := "after") (by decide +kernel) (ps := [.str n, .str k]) (ds := d_two.map .str) (nl := [(n, l), (k, m)]) (xs := [n, k]) (lo := 1) (hi := none) rfl (by simp) aj1 rfl
  (by intros; simp only [List.map_cons, List.map_nil, gO, List.zipWith_cons_cons, List.zipWith_nil_left, cG]; walk_at "ev") (by simp) (by intro p hp; simp only [List.mem_cons, List.not_mem_nil, or_false] at hp; rcases hp with rfl | rfl <;> assumption)
  (by intros; simp only [cG]; walk_at "ev") (by simp) (by
   simp only [List.mem_cons, List.not_mem_nil, or_false]
   rintro y (rfl | rfl | rfl)
   · exact oE _ (by decide +kernel)
   · exact iT g h
   · exact iT g h')
 have hm : sC [dA false f, .str "after", .lst false [.str n, .str k], .int 1, .non] = .ok (gJ true "After" [(l : Int), (m : Int)] 1 none x) := hx
 refine ⟨x, lI aj1 rfl rfl (jW aj1 rfl rfl (by decide) ?_) (d1 := "letter") (iS _ _ _) (.inr ⟨e1, n, k, jY _ _, iS _ _ _, hne⟩) ck2 ?_ (eS _ _ _ _ _)⟩
 · intro i d q hd hq
   match i, hd, hq with
   | 0, hd, hq => cases hd; cases hq; exact fO (List.mem_of_getElem? h)
   | 1, hd, hq => cases hd; cases hq; exact fO (List.mem_of_getElem? h')
   | n + 2, hd, hq => simp at hd
 · unfold mU mH
   have b0 := @jY T
   have b1 := @iS T
   have b2 := @rK T
   have b3 := @vU T
   have na := jH f
   have za := jC false f
   have cs := eS "After" [(l : Int), (m : Int)] 1 none x
   clear hx
   walk_at "ev"
theorem cw5 {f : Fm} (g : Gd f) {l m : Nat} {n k : Str} (h : f.names[l]? = some n) (h' : f.names[m]? = some k) (hne : (n == k) = false) :
 ∃ x, dI [dA false f, .str "same", .lst false [.str n, .str k]] = .ok (gJ true "Same" [(l : Int), (m : Int)] 0 (some 0) x) := by
 have e1 := eL
 obtain ⟨x, hx⟩ := e_init g (c := "Same") (w := "same") (by decide +kernel) (ps := [.str n, .str k]) (ds := d_two.map .str) (nl := [(n, l), (k, m)]) (xs := [n, k]) (lo := 0) (hi := (some 0)) rfl (by simp) am5 rfl
  (by intros; simp only [List.map_cons, List.map_nil, gO, List.zipWith_cons_cons, List.zipWith_nil_left, cG]; walk_at "ev") (by simp) (by intro p hp; simp only [List.mem_cons, List.not_mem_nil, or_false] at hp; rcases hp with rfl | rfl <;> assumption)
  (by intros; simp only [cG]; walk_at "ev") (by simp) (by
   simp only [List.mem_cons, List.not_mem_nil, or_false]
   rintro y (rfl | rfl | rfl)
   · exact oE _ (by decide +kernel)
   · exact iT g h
   · exact iT g h')
 have hm : uN [dA false f, .str "same", .lst false [.str n, .str k], .int 0, .int 0] = .ok (gJ true "Same" [(l : Int), (m : Int)] 0 (some 0) x) := hx
 refine ⟨x, lI am5 rfl rfl (jW am5 rfl rfl (by decide) ?_) (d1 := "letter") (iS _ _ _) (.inr ⟨e1, n, k, jY _ _, iS _ _ _, hne⟩) cn5 ?_ (eS _ _ _ _ _)⟩
 · intro i d q hd hq
   match i, hd, hq with
   | 0, hd, hq => cases hd; cases hq; exact fO (List.mem_of_getElem? h)
   | 1, hd, hq => cases hd; cases hq; exact fO (List.mem_of_getElem? h')
   | n + 2, hd, hq => simp at hd
 · unfold nQ nO
   have b0 := @jY T
   have b1 := @iS T
   have b2 := @rK T
   have b3 := @vU T
   have na := jH f
   have za := jC false f
   have cs := eS "Same" [(l : Int), (m : Int)] 0 (some 0) x
   clear hx
   walk_at "ev"
theorem bg9 {f : Fm} (g : Gd f) {l m : Nat} {n k : Str} (h : f.names[l]? = some n) (h' : f.names[m]? = some k) (hne : (n == k) = false) {hi : Int} (h1 : 0 ≤ hi) (h2 : hi ≤ 300) :
 ∃ x, dI [dA false f, .str "within", .lst false [.str n, .str k, .int hi]] = .ok (gJ true "Within" [(l : Int), (m : Int)] 0 (some hi) x) := by
 have e1 := eL
 have e2 := uB "later" (by decide +kernel)
 have g_hi := rL (show -10000000 ≤ hi by omega) (by omega)
 obtain ⟨x, hx⟩ := e_init g (c := "Within") (w := "within") (by decide +kernel) (ps := [.str n, .str k, .int hi]) (ds := d_within.map .str) (nl := [(n, l), (k, m)]) (xs := [n, k, toString hi]) (lo := 0) (hi := (some hi)) rfl (by simp) yT rfl
  (by intros; simp only [List.map_cons, List.map_nil, gO, List.zipWith_cons_cons, List.zipWith_nil_left, cG]; walk_at "ev") (by simp) (by intro p hp; simp only [List.mem_cons, List.not_mem_nil, or_false] at hp; rcases hp with rfl | rfl <;> assumption)
  (by intros; simp only [cG]; walk_at "ev") (by simp) (by
   simp only [List.mem_cons, List.not_mem_nil, or_false]
   rintro y (rfl | rfl | rfl | rfl)
   · exact oE _ (by decide +kernel)
   · exact iT g h
   · exact iT g h'
   · exact rF (by omega) (by omega))
 have hm : qO [dA false f, .str "within", .lst false [.str n, .str k, .int hi], .int 0, .int hi] = .ok (gJ true "Within" [(l : Int), (m : Int)] 0 (some hi) x) := hx
 refine ⟨x, lI yT rfl rfl (jW yT rfl rfl (by decide) ?_) (d1 := "letter") (iS _ _ _) (.inr ⟨e1, n, k, jY _ _, iS _ _ _, hne⟩) bh8 ?_ (eS _ _ _ _ _)⟩
 · intro i d q hd hq
   match i, hd, hq with
   | 0, hd, hq => cases hd; cases hq; exact fO (List.mem_of_getElem? h)
   | 1, hd, hq => cases hd; cases hq; exact fO (List.mem_of_getElem? h')
   | 2, hd, hq => cases hd; cases hq; exact oF (by decide +kernel) cc1 h1 h2
   | n + 3, hd, hq => simp at hd
 · unfold lF lG
   have b0 := @jY T
   have b1 := @iS T
   have b2 := @rK T
   have b3 := @vU T
   have na := jH f
   have za := jC false f
   have cs := eS "Within" [(l : Int), (m : Int)] 0 (some hi) x
   clear hx
   walk_at "ev"
theorem bt0 {f : Fm} (g : Gd f) {l m : Nat} {n k : Str} (h : f.names[l]? = some n) (h' : f.names[m]? = some k) (hne : (n == k) = false) {lo hi : Int} (h1 : -300 ≤ lo) (h2 : lo ≤ hi) (h3 : hi ≤ 300) :
 ∃ x, dI [dA false f, .str "apart", .lst false [.str n, .str k, .int lo, .int hi]] = .ok (gJ true "Apart" [(l : Int), (m : Int)] lo (some hi) x) := by
 have e1 := eL
 have e2 := uB "gap" (by decide +kernel)
 have g_lo := rL (show -10000000 ≤ lo by omega) (by omega)
 have g_hi := rL (show -10000000 ≤ hi by omega) (by omega)
 obtain ⟨x, hx⟩ := e_init g (c := "Apart") (w := "apart") (by decide +kernel) (ps := [.str n, .str k, .int lo, .int hi]) (ds := d_apart.map .str) (nl := [(n, l), (k, m)]) (xs := [n, k, toString lo, toString hi]) (lo := lo) (hi := (some hi)) rfl (by simp) ae1 rfl
  (by intros; simp only [List.map_cons, List.map_nil, gO, List.zipWith_cons_cons, List.zipWith_nil_left, cG]; walk_at "ev") (by simp) (by intro p hp; simp only [List.mem_cons, List.not_mem_nil, or_false] at hp; rcases hp with rfl | rfl <;> assumption)
  (by intros; simp only [cG]; walk_at "ev") (by simp) (by
   simp only [List.mem_cons, List.not_mem_nil, or_false]
   rintro y (rfl | rfl | rfl | rfl | rfl)
   · exact oE _ (by decide +kernel)
   · exact iT g h
   · exact iT g h'
   · exact rF (by omega) (by omega)
   · exact rF (by omega) (by omega))
 have hm : sR [dA false f, .str "apart", .lst false [.str n, .str k, .int lo, .int hi], .int lo, .int hi] = .ok (gJ true "Apart" [(l : Int), (m : Int)] lo (some hi) x) := hx
 refine ⟨x, lI ae1 rfl rfl (jW ae1 rfl rfl (by decide) ?_) (d1 := "letter") (iS _ _ _) (.inr ⟨e1, n, k, jY _ _, iS _ _ _, hne⟩) bv9 ?_ (eS _ _ _ _ _)⟩
 · intro i d q hd hq
   match i, hd, hq with
   | 0, hd, hq => cases hd; cases hq; exact fO (List.mem_of_getElem? h)
   | 1, hd, hq => cases hd; cases hq; exact fO (List.mem_of_getElem? h')
   | 2, hd, hq => cases hd; cases hq; exact oF (by decide +kernel) bb8 (by omega) (by omega)
   | 3, hd, hq => cases hd; cases hq; exact oF (by decide +kernel) bb8 (by omega) (by omega)
   | n + 4, hd, hq => simp at hd
 · unfold mJ mL
   have b0 := @jY T
   have b1 := @iS T
   have b2 := @rK T
   have b3 := @vU T
   have na := jH f
   have za := jC false f
   have cs := eS "Apart" [(l : Int), (m : Int)] lo (some hi) x
   have k1 : decide (hi < lo) = false := decide_eq_false (by omega)
   clear hx
   walk_at "ev"
theorem cc3 {f : Fm} (g : Gd f) {l : Nat} {n : Str} (h : f.names[l]? = some n) {p : Str × Int × Int} (hp : p ∈ f.reigns) {k : Int} (h1 : 1 ≤ k) (h2 : k ≤ p.2.2) :
 ∃ x, dI [dA false f, .str "reign", .lst false [.str n, .str p.1, .int k]] = .ok (gJ true "Reign" [(l : Int)] (p.2.1 + k - 1) (some (p.2.1 + k - 1)) x) := by
 have e1 := eL
 have h100 := (g.rn p hp).2.2.2.2
 have e2 := uB "reign" (by decide +kernel)
 have e3 := uB "place" (by decide +kernel)
 have g_k := rL (show -10000000 ≤ k by omega) (by omega)
 obtain ⟨x, hx⟩ := e_init g (c := "Reign") (w := "reign") (by decide +kernel) (ps := [.str n, .str p.1, .int k]) (ds := d_reign.map .str) (nl := [(n, l)]) (xs := [n, p.1, toString k]) (lo := (p.2.1 + k - 1)) (hi := (some (p.2.1 + k - 1))) rfl (by simp) aq1 rfl
  (by intros; simp only [List.map_cons, List.map_nil, gO, List.zipWith_cons_cons, List.zipWith_nil_left, cG]; walk_at "ev") (by simp) (by intro p hp; simp only [List.mem_cons, List.not_mem_nil, or_false] at hp; subst hp; assumption)
  (by intros; simp only [cG]; walk_at "ev") (by simp) (by
   simp only [List.mem_cons, List.not_mem_nil, or_false]
   rintro y (rfl | rfl | rfl | rfl)
   · exact oE _ (by decide +kernel)
   · exact iT g h
   · exact Nat.le_trans (rC (g.rn p hp).1) (by decide)
   · exact rF (by omega) (by omega))
 have hm : sS [dA false f, .str "reign", .lst false [.str n, .str p.1, .int k], .int (p.2.1 + k - 1), .int (p.2.1 + k - 1)] = .ok (gJ true "Reign" [(l : Int)] (p.2.1 + k - 1) (some (p.2.1 + k - 1)) x) := hx
 refine ⟨x, lI aq1 rfl rfl (jW aq1 rfl rfl (by decide) ?_) (d1 := "reign") (iS _ _ _) (.inl e2) bz9 ?_ (eS _ _ _ _ _)⟩
 · intro i d q hd hq
   match i, hd, hq with
   | 0, hd, hq => cases hd; cases hq; exact fO (List.mem_of_getElem? h)
   | 1, hd, hq => cases hd; cases hq; exact aq6 g (List.mem_map_of_mem hp)
   | 2, hd, hq => cases hd; cases hq; exact oF (by decide +kernel) ch1 h1 (by omega)
   | n + 3, hd, hq => simp at hd
 · unfold mI mP
   have b0 := @jY T
   have b1 := @iS T
   have b2 := @rK T
   have b3 := @vU T
   have na := jH f
   have za := jC false f
   have cs := eS "Reign" [(l : Int)] (p.2.1 + k - 1) (some (p.2.1 + k - 1)) x
   have k1 := ao9 g hp
   have k2 := zN (b := p.2.1) h1 h2
   simp only [fR] at k1
   clear hx
   walk_at "ev"
theorem cv1 {f : Fm} (g : Gd f) {l : Nat} {n : Str} (h : f.names[l]? = some n) {p : Str × Int × Int} (hp : p ∈ f.reigns) :
 ∃ x, dI [dA false f, .str "under", .lst false [.str n, .str p.1]] = .ok (gJ true "Under" [(l : Int)] p.2.1 (some (p.2.1 + p.2.2 - 1)) x) := by
 have e1 := eL
 have e2 := uB "reign" (by decide +kernel)
 obtain ⟨x, hx⟩ := e_init g (c := "Under") (w := "under") (by decide +kernel) (ps := [.str n, .str p.1]) (ds := d_under.map .str) (nl := [(n, l)]) (xs := [n, p.1]) (lo := p.2.1) (hi := (some (p.2.1 + p.2.2 - 1))) rfl (by simp) au1 rfl
  (by intros; simp only [List.map_cons, List.map_nil, gO, List.zipWith_cons_cons, List.zipWith_nil_left, cG]; walk_at "ev") (by simp) (by intro p hp; simp only [List.mem_cons, List.not_mem_nil, or_false] at hp; subst hp; assumption)
  (by intros; simp only [cG]; walk_at "ev") (by simp) (by
   simp only [List.mem_cons, List.not_mem_nil, or_false]
   rintro y (rfl | rfl | rfl)
   · exact oE _ (by decide +kernel)
   · exact iT g h
   · exact Nat.le_trans (rC (g.rn p hp).1) (by decide))
 have hm : sL [dA false f, .str "under", .lst false [.str n, .str p.1], .int p.2.1, .int (p.2.1 + p.2.2 - 1)] = .ok (gJ true "Under" [(l : Int)] p.2.1 (some (p.2.1 + p.2.2 - 1)) x) := hx
 refine ⟨x, lI au1 rfl rfl (jW au1 rfl rfl (by decide) ?_) (d1 := "reign") (iS _ _ _) (.inl e2) cu2 ?_ (eS _ _ _ _ _)⟩
 · intro i d q hd hq
   match i, hd, hq with
   | 0, hd, hq => cases hd; cases hq; exact fO (List.mem_of_getElem? h)
   | 1, hd, hq => cases hd; cases hq; exact aq6 g (List.mem_map_of_mem hp)
   | n + 2, hd, hq => simp at hd
 · unfold mO mQ
   have b0 := @jY T
   have b1 := @iS T
   have b2 := @rK T
   have b3 := @vU T
   have na := jH f
   have za := jC false f
   have cs := eS "Under" [(l : Int)] p.2.1 (some (p.2.1 + p.2.2 - 1)) x
   have k1 := ao9 g hp
   have k2 := zN (b := p.2.1) (l := p.2.2) (k := p.2.2) (g.rn p hp).2.2.2.1 (Int.le_refl _)
   simp only [fR] at k1
   clear hx
   walk_at "ev"
end Nk22
namespace Nk22
open PySem L2 TL
theorem ch0 : fQ "table" ["first", "present", "letters", "inks", "reigns"] = none := by decide +kernel
theorem cy5 : tm_table.lookup ("Archive" : Str) = some fJ := by with_unfolding_all rfl
theorem bi5 {b : Bool} {f : Fm} {o : Fr → Res T} {r : Fr → Res (List T)} {ρ : Fr} {ts : List T} (ho : o ρ = .ok (dA b f)) (hr : r ρ = .ok ts) : iA 2 "table" tm_table o r ρ = sK 2 fJ (dA b f :: ts) := by
 simp only [iA, ho, hr, mN, dA, ch0, cy5]
theorem dq2 {f : Fm} (g : Gd f) {l : Nat} {n : Str} (h : f.names[l]? = some n) {p : Str × List Int} (hp : p ∈ f.inks) {d e : Int} (h1 : 0 ≤ d) (h2 : d ≤ 1000000) (h3 : 0 ≤ e) (h4 : e ≤ 1000000) {a z : Int} {r : List Int} (hh : gN p.2 d e (f.span.toNat + 1) = a :: r) (hz : (a :: r).getD r.length 0 = z) :
 ∃ x, dI [dA false f, .str "ink", .lst false [.str n, .str p.1, .int d, .int e]] = .ok (gJ true "Ink" [(l : Int)] (f.first + f.span - z) (some (f.first + f.span - a)) x) := by
 have e1 := eL
 have e2 := uB "ink" (by decide +kernel)
 have e3 := uB "dark" (by decide +kernel)
 have g_d := rL (show -10000000 ≤ d by omega) (by omega)
 have g_e := rL (show -10000000 ≤ e by omega) (by omega)
 obtain ⟨x, hx⟩ := e_init g (c := "Ink") (w := "ink") (by decide +kernel) (ps := [.str n, .str p.1, .int d, .int e]) (ds := d_ink.map .str) (nl := [(n, l)]) (xs := [n, p.1, toString d, toString e]) (lo := f.first + f.span - z) (hi := some (f.first + f.span - a)) rfl (by simp) bs0 rfl
  (by clear hh hz; intros; simp only [List.map_cons, List.map_nil, gO, List.zipWith_cons_cons, List.zipWith_nil_left, cG]; walk_at "ev") (by simp) (by intro p hp; simp only [List.mem_cons, List.not_mem_nil, or_false] at hp; subst hp; assumption)
  (by clear hh hz; intros; simp only [cG]; walk_at "ev") (by simp) (by
   simp only [List.mem_cons, List.not_mem_nil, or_false]
   rintro y (rfl | rfl | rfl | rfl | rfl)
   · exact oE _ (by decide +kernel)
   · exact iT g h
   · exact Nat.le_trans (rC (g.inn p hp).1) (by decide)
   · exact rF (by omega) (by omega)
   · exact rF (by omega) (by omega))
 have hm : xL [dA false f, .str "ink", .lst false [.str n, .str p.1, .int d, .int e], .int (f.first + f.span - z), .int (f.first + f.span - a)] = .ok (gJ true "Ink" [(l : Int)] (f.first + f.span - z) (some (f.first + f.span - a)) x) := hx
 refine ⟨x, lI bs0 rfl rfl (jW bs0 rfl rfl (by decide) ?_) (d1 := "ink") (iS _ _ _) (.inl e2) di1 ?_ (eS _ _ _ _ _)⟩
 · intro i d q hd hq
   match i, hd, hq with
   | 0, hd, hq => cases hd; cases hq; exact fO (List.mem_of_getElem? h)
   | 1, hd, hq => cases hd; cases hq; exact ct6 g (List.mem_map_of_mem hp)
   | 2, hd, hq => cases hd; cases hq; exact oF (by decide +kernel) br3 (by omega) (by omega)
   | 3, hd, hq => cases hd; cases hq; exact oF (by decide +kernel) br3 (by omega) (by omega)
   | n + 4, hd, hq => simp at hd
 · unfold oZ oW
   have b0 := @jY T
   have b1 := @iS T
   have b2 := @rK T
   have b3 := @vU T
   have na := jH f
   have za := jC false f
   have cs := eS "Ink" [(l : Int)] (f.first + f.span - z) (some (f.first + f.span - a)) x
   have fp := aj3 false f
   have ff := bf0 false f
   have ht := e_table g hp
   have hA : oM [.lst false (p.2.map .int), .int d, .int e, .int (f.first + f.span - f.first)] = .ok (.tup [.int a, .int z]) := by
    have := bc7 false p.2 d e f.span.toNat (by have := (g.inn p hp).2.l1; intro q; rw [q] at this; simp at this) (by have := (g.inn p hp).2.l60; omega) (by have := g.s1; omega)
    rw [hh] at this
    simp only [by9, hz] at this
    rw [show f.first + f.span - f.first = (f.span.toNat : Int) by have := g.s0; omega]
    exact this
   have hmt : iA 2 "table" tm_table (aD 0) (aE (aG bE (aD 1) (dC (.int 1))) aJ) [some (dA false f), some (.lst false [.str n, .str p.1, .int d, .int e]), none] = .ok (.lst true (p.2.map .int)) := by
    rw [bi5 (b := false) (f := f) (ts := [.str p.1]) rfl (by clear hA hm hx hh hz; walk_at "ev")]
    clear hA hm hx hh hz
    walk_at "ev"
   clear hx hh hz
   walk_at "ev"
end Nk22
namespace Nk22
open PySem L2 TL
theorem co4 (c : Int) (m : Nat) (hm : m ≤ 8) : ∃ xs : List Int, kA [.int c, .int m] = .ok (.lst true (xs.map .int)) ∧ xs.length = m ∧ ∀ x ∈ xs, 0 ≤ x := by
 unfold kA uT
 have ew := bd3
 have h60 : wZ (.int 10) (.int 60) = .ok (.int 1000000000000000000000000000000000000000000000000000000000000) := by
  rw [ap3, xH (show yU 10 60 from ⟨by decide, by decide, by decide⟩)]
  rfl
 have h18 : wZ (.int 10) (.int 18) = .ok (.int 1000000000000000000) := by
  rw [ap3, xH (show yU 10 18 from ⟨by decide, by decide, by decide⟩)]
  rfl
 walk_at "ev"
 generalize hL : eT _ _ _ _ = o
 obtain ⟨ρ', rfl, xs, r, o4, rfl, xl, xb, hr⟩ := jQ (fun i ρ => ∃ (xs : List Int) (r : Int) (o4 : Option T), ρ = [some (.int c), some (.int m), some (.int r), some (.lst true (xs.map .int)), o4] ∧ xs.length = i ∧ (∀ x ∈ xs, 0 ≤ x) ∧ 0 ≤ r) hL ⟨[], _, _, rfl, rfl, eC, Int.emod_nonneg _ (by decide)⟩ (by
  rintro i t ρ et ⟨xs, r, o4, rfl, xl, xb, hr⟩
  obtain ⟨hi, rfl⟩ := jX et
  have hl : xs.length ≤ 100000 := by omega
  clear hL et
  by_cases hA : c < 0 ∨ 1000000000000000000 ≤ c
  · have k : (decide (c < 0) || decide (1000000000000000000 ≤ c)) = true := by simpa using hA
    cases h1 : decide (c < 0) with
    | true =>
     walk_at "ev"
     exact ⟨xs ++ [r % 10007], _, _, by rw [List.map_append]; rfl, by simp [xl], fun x hx => (List.mem_append.mp hx).elim (xb x) (fun q => by rw [List.mem_singleton.mp q]; exact Int.emod_nonneg _ (by decide)), by omega⟩
    | false =>
     have h2 : decide (1000000000000000000 ≤ c) = true := by rw [h1] at k; simpa using k
     walk_at "ev"
     exact ⟨xs ++ [r % 10007], _, _, by rw [List.map_append]; rfl, by simp [xl], fun x hx => (List.mem_append.mp hx).elim (xb x) (fun q => by rw [List.mem_singleton.mp q]; exact Int.emod_nonneg _ (by decide)), by omega⟩
  · have h1 : decide (c < 0) = false := decide_eq_false (by omega)
    have h2 : decide (1000000000000000000 ≤ c) = false := decide_eq_false (by omega)
    walk_at "ev"
    exact ⟨xs ++ [whirl (whirl c (0 + (i : Int)) + c) (0 + (i : Int))], _, _, by rw [List.map_append]; rfl, by simp [xl], fun x hx => (List.mem_append.mp hx).elim (xb x) (fun q => by rw [List.mem_singleton.mp q]; exact (av5 _ _).1), hr⟩)
 rw [gW] at xl
 refine ⟨xs, ?_, by omega, xb⟩
 clear hL
 walk_at "ev"
theorem cg3 (c : Int) {f : Fm} (g : Gd f) : ∃ ys : List Int, lL [.int c, gB false f] = .ok (.lst true (ys.map .int)) ∧ ys.length = f.names.length ∧ ∀ y ∈ ys, f.first ≤ y ∧ y ≤ f.first + f.span := by
 obtain ⟨xs, h1, h2, h3⟩ := co4 c f.names.length g.n8
 have hs := g.s0
 have hm : 0 < f.first + f.span - f.first + 1 := by omega
 refine ⟨xs.map fun x => f.first + x % (f.first + f.span - f.first + 1), ?_, by simp [h2], fun y hy => ?_⟩
 · unfold lL pG
   have hx : xs.length ≤ 100000 := by have := g.n8; omega
   have hc : cG (aK 2) dG (aG bX (aG bE (aD 1) (dC (.int 0))) (aG cM (aD 2) (aG bX (aG dQ (aG bE (aD 1) (dC (.int 1))) (aG bE (aD 1) (dC (.int 0)))) (dC (.int 1))))) [some (.int c), some (gB false f), none] (xs.map .int) = .ok ((xs.map fun x => f.first + x % (f.first + f.span - f.first + 1)).map .int) := by
    rw [List.map_map]
    refine eW fun x _ => ?_
    simp only [gB]
    have b0 := @jY T
    have b1 := @iS T
    clear h1 h2 h3
    walk_at "ev"
    rfl
   have b2 := @rK T
   simp only [gB] at hc ⊢
   clear h2 h3
   walk_at "ev"
 · obtain ⟨x, _, rfl⟩ := List.mem_map.mp hy
   have := Int.emod_nonneg x (show f.first + f.span - f.first + 1 ≠ 0 by omega)
   have := Int.emod_lt_of_pos x hm
   omega
structure Sd where
 word : Str
 cls : Str
 parts : List T
 ls : List Nat
 lo : Int
 hi : Option Int
def iE (o : Bool) (s : Sd) : T := .tup [.str s.word, .lst o s.parts, .tup (s.ls.map fun (l : Nat) => T.int (l : Int)), .tup [.int s.lo, lW s.hi]]
structure SdOk (f : Fm) (s : Sd) : Prop where
 np : bG s.parts = true
 cp : dX s.parts = true
 c8 : s.cls ∈ iF
 l12 : s.ls.length = 1 ∨ s.ls.length = 2
 lb : ∀ l ∈ s.ls, l < f.names.length
 made : ∃ x, dI [dA false f, .str s.word, .lst false s.parts] = .ok (gJ true s.cls (s.ls.map fun (l : Nat) => (l : Int)) s.lo s.hi x)
theorem lb1 {i n : Nat} (h : i < n) : ∀ l ∈ [i], l < n := fun l q => by rw [List.mem_singleton.mp q]; exact h
theorem lb2 {i j n : Nat} (h : i < n) (k : j < n) : ∀ l ∈ [i, j], l < n := fun l q => by
 rcases List.mem_cons.mp q with rfl | q
 · exact h
 · rw [List.mem_singleton.mp q]; exact k
theorem cl9 : ("Ink" : Str) ∈ iF := by decide +kernel
theorem bx9 : ("Reign" : Str) ∈ iF := by decide +kernel
theorem cs1 : ("Under" : Str) ∈ iF := by decide +kernel
theorem ae2 : ("Between" : Str) ∈ iF := by decide +kernel
theorem cy2 : ("After" : Str) ∈ iF := by decide +kernel
theorem ct5 : ("Same" : Str) ∈ iF := by decide +kernel
theorem by7 : ("Within" : Str) ∈ iF := by decide +kernel
theorem ag9 : ("Apart" : Str) ∈ iF := by decide +kernel
theorem wE {f : Fm} {k : Nat} (h : k < f.names.length) : ∃ n, f.names[k]? = some n ∧ atI (f.names.map T.str) (k : Int) = some (.str n) :=
 ⟨f.names[k], List.getElem?_eq_getElem h, eX (by simp [h])⟩
theorem br8 {xs : List Int} {k : Nat} (h : k < xs.length) : ∃ v ∈ xs, atI (xs.map T.int) (k : Int) = some (.int v) :=
 ⟨xs[k], List.getElem_mem h, eX (by simp [h])⟩
theorem do2 {xs : List Int} (h : xs.length = 6) (hb : ∀ x ∈ xs, 0 ≤ x) : ∃ a b c d e g : Int, xs.map T.int = [.int a, .int b, .int c, .int d, .int e, .int g] ∧ 0 ≤ a ∧ 0 ≤ b ∧ 0 ≤ c ∧ 0 ≤ d ∧ 0 ≤ e ∧ 0 ≤ g := by
 match xs, h with
 | [a, b, c, d, e, g], _ => exact ⟨a, b, c, d, e, g, rfl, hb a (by simp), hb b (by simp), hb c (by simp), hb d (by simp), hb e (by simp), hb g (by simp)⟩
theorem cq4 {f : Fm} (g : Gd f) {i j : Nat} {n k : Str} (h1 : f.names[i]? = some n) (h2 : f.names[j]? = some k) (h : i ≠ j) : (n == k) = false := by
 simp
 rintro rfl
 obtain ⟨a1, a2⟩ := List.getElem?_eq_some_iff.mp h1
 obtain ⟨b1, b2⟩ := List.getElem?_eq_some_iff.mp h2
 exact h ((List.getElem_inj g.nd).mp (a2.trans b2.symm))
theorem bd7 {f : Fm} (g : Gd f) {a b c d e w : Int} (hc : 0 ≤ c) (hd : 0 ≤ d) (he : 0 ≤ e) {i j : Nat} (hi : i < f.names.length) (hj : j < f.names.length) : ∃ s, pJ [.lst false [.int a, .int b, .int c, .int d, .int e, .int w], gB false f, .int i, .int j] = .ok (iE true s) ∧ SdOk f s := by
  obtain ⟨n, hn, an⟩ := wE hi
  obtain ⟨k, hk, ak⟩ := wE hj
  unfold pJ sB
  have b0 := @jY T
  have b1 := @iS T
  have b2 := @rK T
  have b3 := @vU T
  have b4 := @ix4 T
  have s0 := g.s0
  have s1 := g.s1
  have f0 := g.f0
  have f1 := g.f1
  have m1 : 0 < f.first + f.span - f.first + 61 := by omega
  have m2 := Int.emod_nonneg d (show f.first + f.span - f.first + 61 ≠ 0 by omega)
  have m3 := Int.emod_lt_of_pos d m1
  simp only [gB]
  by_cases q : i = j ∨ c % 2 = 0
  · have k0 : (((i : Int) == (j : Int)) || (c % 2 == 0)) = true := by
      rcases q with q | q
      · subst q; simp
      · simp [q]
    obtain ⟨x, hx⟩ := ap2 g hn (lo := f.first - 30 + d % (f.first + f.span - f.first + 61)) (hi := f.first - 30 + d % (f.first + f.span - f.first + 61) + e % 40) (by omega) (by omega) (by omega)
    refine ⟨⟨"between", "Between", [.str n, .int (f.first - 30 + d % (f.first + f.span - f.first + 61)), .int (f.first - 30 + d % (f.first + f.span - f.first + 61) + e % 40)], [i], f.first - 30 + d % (f.first + f.span - f.first + 61), some (f.first - 30 + d % (f.first + f.span - f.first + 61) + e % 40)⟩, ?_, ⟨rfl, rfl, ae2, .inl rfl, lb1 hi, x, hx⟩⟩
    have ct : eK [T.str n, T.str k] none (some 1) = [T.str n] := az2 [T.str n, T.str k] 1
    clear hx hn hk
    cases h1 : ((i : Int) == (j : Int)) with
    | true =>
      walk_at "ev"
      rfl
    | false =>
      have h2 : (c % 2 == 0) = true := by rw [h1] at k0; simpa using k0
      walk_at "ev"
      rfl
  · have h1 : ((i : Int) == (j : Int)) = false := by simp; omega
    have h2 : (c % 2 == 0) = false := by simp; omega
    have hne := cq4 g hn hk (by omega)
    obtain ⟨x, hx⟩ := bt0 g hn hk hne (lo := d % 601 - 300) (hi := if d % 601 - 300 + e % 40 < 300 then d % 601 - 300 + e % 40 else 300) (by omega) (by split <;> omega) (by split <;> omega)
    refine ⟨⟨"apart", "Apart", [.str n, .str k, .int (d % 601 - 300), .int (if d % 601 - 300 + e % 40 < 300 then d % 601 - 300 + e % 40 else 300)], [i, j], d % 601 - 300, some (if d % 601 - 300 + e % 40 < 300 then d % 601 - 300 + e % 40 else 300)⟩, ?_, ⟨rfl, rfl, ag9, .inr rfl, lb2 hi hj, x, hx⟩⟩
    clear hx hn hk
    walk_at "ev"
    rfl
end Nk22
namespace Nk22
open PySem L2 TL
theorem al1 {f : Fm} (g : Gd f) {num gap : Int} (hn0 : 0 ≤ num) {i j : Nat} (hi : i < f.names.length) (hj : j < f.names.length) (hij : i ≠ j) (g0 : -300 ≤ gap) (g1 : gap ≤ 300) : ∃ s, lP [.int num, gB false f, .tup [.int i, .int j], .int gap] = .ok (iE true s) ∧ SdOk f s := by
 obtain ⟨n, hn, an⟩ := wE hi
 obtain ⟨k, hk, ak⟩ := wE hj
 have hne := cq4 g hn hk hij
 unfold lP oU
 have b2 := @rK T
 obtain ⟨x1, hx1⟩ := cw5 g hn hk hne
 obtain ⟨x2, hx2⟩ := cc0 g hn hk hne
 simp only [gB]
 have hc : ∀ q1 q2 q3 q4 q5 : Option T, cG (aK 9) dG (aV (aG bE (aG bE (aD 1) (dC (.int 2))) (aD 9))) [some (.int num), some (.tup [.int f.first, .int (f.first + f.span), .lst false (f.names.map .str), .lst false (f.inks.map (dZ false)), .lst false (f.reigns.map fR)]), some (.tup [.int i, .int j]), some (.int gap), q1, q2, q3, q4, q5, none] [.int i, .int j] = .ok [.str n, .str k] := by
  intros
  simp only [cG]
  walk_at "ev"
 have z1 := Int.emod_nonneg (num / 4) (show (4 : Int) ≠ 0 by decide)
 by_cases cA : gap = 0 ∧ num % 4 = 0
 · refine ⟨⟨"same", "Same", [.str n, .str k], [i, j], 0, some 0⟩, ?_, ⟨rfl, rfl, ct5, .inr rfl, lb2 hi hj, x1, hx1⟩⟩
   have h1 : (gap == 0) = true := by simp [cA.1]
   have h2 : (num % 4 == 0) = true := by simp [cA.2]
   clear hx1 hx2 hn hk cA
   walk_at "ev"
   rfl
 by_cases cB : 0 < gap ∧ num % 4 < 2
 · refine ⟨⟨"after", "After", [.str n, .str k], [i, j], 1, none⟩, ?_, ⟨rfl, rfl, cy2, .inr rfl, lb2 hi hj, x2, hx2⟩⟩
   have h1 : (gap == 0) = false := by simp; omega
   have h3 : decide (0 < gap) = true := decide_eq_true cB.1
   have h4 : decide (num % 4 < 2) = true := decide_eq_true cB.2
   clear hx1 hx2 hn hk cA cB
   walk_at "ev"
   rfl
 have tA : (gap == 0) = false ∨ ((gap == 0) = true ∧ (num % 4 == 0) = false) := by
  by_cases q : gap = 0
  · exact .inr ⟨by simp [q], by simp; omega⟩
  · exact .inl (by simp [q])
 have tB : decide (0 < gap) = false ∨ (decide (0 < gap) = true ∧ decide (num % 4 < 2) = false) := by
  by_cases q : 0 < gap
  · exact .inr ⟨decide_eq_true q, decide_eq_false (by omega)⟩
  · exact .inl (decide_eq_false q)
 by_cases cC : 0 ≤ gap ∧ num % 4 = 2
 · obtain ⟨x3, hx3⟩ := bg9 g hn hk hne (hi := if gap + num / 4 % 4 < 300 then gap + num / 4 % 4 else 300) (by split <;> omega) (by split <;> omega)
   refine ⟨⟨"within", "Within", [.str n, .str k, .int (if gap + num / 4 % 4 < 300 then gap + num / 4 % 4 else 300)], [i, j], 0, some (if gap + num / 4 % 4 < 300 then gap + num / 4 % 4 else 300)⟩, ?_, ⟨rfl, rfl, by7, .inr rfl, lb2 hi hj, x3, hx3⟩⟩
   have h5 : decide (0 ≤ gap) = true := decide_eq_true cC.1
   have h6 : (num % 4 == 2) = true := by simp [cC.2]
   clear hx1 hx2 hx3 hn hk cA cB cC
   rcases tA with h1 | ⟨h1, h2⟩ <;> rcases tB with h3 | ⟨h3, h4⟩ <;> (walk_at "ev"; rfl)
 have tC : decide (0 ≤ gap) = false ∨ (decide (0 ≤ gap) = true ∧ (num % 4 == 2) = false) := by
  by_cases q : 0 ≤ gap
  · exact .inr ⟨decide_eq_true q, by simp; omega⟩
  · exact .inl (decide_eq_false q)
 obtain ⟨x4, hx4⟩ := bt0 g hn hk hne (lo := if gap - num / 4 % 6 > -300 then gap - num / 4 % 6 else -300) (hi := if gap + num / 4 / 6 % 6 < 300 then gap + num / 4 / 6 % 6 else 300) (by split <;> omega) (by split <;> split <;> omega) (by split <;> omega)
 refine ⟨⟨"apart", "Apart", [.str n, .str k, .int (if gap - num / 4 % 6 > -300 then gap - num / 4 % 6 else -300), .int (if gap + num / 4 / 6 % 6 < 300 then gap + num / 4 / 6 % 6 else 300)], [i, j], if gap - num / 4 % 6 > -300 then gap - num / 4 % 6 else -300, some (if gap + num / 4 / 6 % 6 < 300 then gap + num / 4 / 6 % 6 else 300)⟩, ?_, ⟨rfl, rfl, ag9, .inr rfl, lb2 hi hj, x4, hx4⟩⟩
 clear hx1 hx2 hx4 hn hk cA cB cC
 rcases tA with h1 | ⟨h1, h2⟩ <;> rcases tB with h3 | ⟨h3, h4⟩ <;> rcases tC with h5 | ⟨h5, h6⟩ <;> (walk_at "ev"; rfl)
end Nk22
namespace Nk22
open PySem L2 TL
theorem ai0 {a : Int} {n : Nat} (h : 0 < n) : 0 ≤ a % (n : Int) ∧ a % (n : Int) < n := ⟨Int.emod_nonneg _ (by omega), Int.emod_lt_of_pos _ (by omega)⟩
theorem dz1 {α : Type} {g : α → T} {l : List α} (h : 0 < l.length) (a : Int) : ∃ p ∈ l, atI (l.map g) (a % (l.length : Int)) = some (g p) := by
 obtain ⟨h0, h1⟩ := ai0 (a := a) h
 obtain ⟨k, hk⟩ := qI h0
 rw [hk] at h1 ⊢
 have hk' : k < l.length := by omega
 exact ⟨l[k], List.getElem_mem hk', eX (by simp [hk'])⟩
theorem bp3 {xs : List Int} (h : 0 < xs.length) {a : Int} (ha : 0 ≤ a) : atI (xs.map T.int) (if (xs.length : Int) - 1 < a then (xs.length : Int) - 1 else a) = some (.int (xs.getD (min a.toNat (xs.length - 1)) 0)) := by
 have e : (if (xs.length : Int) - 1 < a then (xs.length : Int) - 1 else a) = ((min a.toNat (xs.length - 1) : Nat) : Int) := by split <;> omega
 rw [e]
 exact tM (by omega)
theorem ck0 {xs : List Int} {d e : Int} {n j : Nat} (hj : j < n) (h : pB xs d e j = true) : (j : Int) ∈ gN xs d e n := by
 unfold gN
 exact List.mem_map.mpr ⟨j, List.mem_filter.mpr ⟨List.mem_range.mpr hj, h⟩, rfl⟩
theorem qE {f : Fm} (g : Gd f) {num y : Int} (hn0 : 0 ≤ num) {i : Nat} (hi : i < f.names.length) (y0 : f.first ≤ y) (y1 : y ≤ f.first + f.span) : ∃ s, lJ [.int num, gB false f, .int i, .int y] = .ok (iE true s) ∧ SdOk f s := by
 obtain ⟨n, hn, an⟩ := wE hi
 unfold lJ oY
 have b0 := @jY T
 have b1 := @iS T
 have b2 := @rK T
 have b3 := @vU T
 have b4 := @ix4 T
 have s0 := g.s0
 have s1 := g.s1
 have f0 := g.f0
 have f1 := g.f1
 simp only [gB]
 by_cases c0 : num % 4 = 0
 · have h0 : (num % 4 == 0) = true := by simp [c0]
   clear c0
   obtain ⟨p, hp, ap⟩ := dz1 (g := dZ false) (l := f.inks) (by have := g.i1; omega) (num / 4)
   obtain ⟨t1, t60, tb, tf⟩ := (g.inn p hp).2
   have hlen : 0 < (f.inks.length : Int) := by have := g.i1; omega
   obtain ⟨er, her⟩ : ∃ er, num / 4 / 2 % 5 = er := ⟨_, rfl⟩
   have e0 : 0 ≤ er ∧ er < 5 := by omega
   have ix := bp3 (xs := p.2) t1 (a := f.first + f.span - y) (by omega)
   have m1 : 0 < 2 * er + 1 := by omega
   have z1 := Int.emod_nonneg (num / 4 / 10) (show 2 * er + 1 ≠ 0 by omega)
   have z2 := Int.emod_lt_of_pos (num / 4 / 10) m1
   obtain ⟨D, hD⟩ : ∃ D, p.2.getD (min (f.first + f.span - y).toNat (p.2.length - 1)) 0 = D := ⟨_, rfl⟩
   have dB : 0 ≤ D ∧ D ≤ 408 := by
    rw [← hD, List.getD_eq_getElem?_getD, List.getElem?_eq_getElem (show min (f.first + f.span - y).toNat (p.2.length - 1) < p.2.length by omega)]
    exact tb _ (List.getElem_mem _)
   obtain ⟨dk, hdk⟩ : ∃ dk, (if D + num / 4 / 10 % (2 * er + 1) - er > 0 then D + num / 4 / 10 % (2 * er + 1) - er else 0) = dk := ⟨_, rfl⟩
   have dkB : 0 ≤ dk ∧ dk ≤ 412 ∧ D - dk ≤ er ∧ dk - D ≤ er := by rw [← hdk]; split <;> omega
   rw [hD] at ix
   simp only [dZ] at ap
   have pin : pB p.2 dk er (f.first + f.span - y).toNat = true := by
    unfold pB
    rw [hD]
    exact decide_eq_true (by split <;> omega)
   have hmem := ck0 (n := f.span.toNat + 1) (by omega) pin
   obtain ⟨a, r, hh⟩ : ∃ a r, gN p.2 dk er (f.span.toNat + 1) = a :: r := by
    cases q : gN p.2 dk er (f.span.toNat + 1) with
    | nil => rw [q] at hmem; cases hmem
    | cons a r => exact ⟨a, r, rfl⟩
   have hdm : dk ≤ 1000000 := by omega
   obtain ⟨x, hx⟩ := dq2 g hn hp (d := dk) (e := er) (by omega) hdm (by omega) (by omega) hh rfl
   refine ⟨⟨"ink", "Ink", [.str n, .str p.1, .int dk, .int er], [i], f.first + f.span - (a :: r).getD r.length 0, some (f.first + f.span - a)⟩, ?_, ⟨rfl, rfl, cl9, .inl rfl, lb1 hi, x, hx⟩⟩
   have rg : -(2 ^ 62) ≤ f.first + f.span - f.first + 1 ∧ f.first + f.span - f.first + 1 < 2 ^ 62 := by omega
   clear hx hn hmem pin hD tb tf
   walk_at "ev"
   generalize hL : eT _ _ _ _ = o
   obtain ⟨ρ', rfl, o11, rfl⟩ := jQ (fun j ρ => ∃ (o11 : Option T), ρ = [some (.int num), some (.tup [.int f.first, .int (f.first + f.span), .lst false (f.names.map .str), .lst false (f.inks.map (dZ false)), .lst false (f.reigns.map fR)]), some (.int i), some (.int y), some (.str n), some (.int (num / 4)), some (.str p.1), some (.lst false (p.2.map .int)), some (.int er), some (.int dk), some (.lst true ((gN p.2 dk er j).map .int)), o11, none, none, none, none, none, none]) hL ⟨_, rfl⟩ (by
    rintro j t ρ et ⟨o11, rfl⟩
    obtain ⟨hj, rfl⟩ := jX et
    have ixj := bp3 (xs := p.2) t1 (a := 0 + (j : Int)) (by omega)
    rw [show (0 + (j : Int)).toNat = j by omega] at ixj
    have hl : (gN p.2 dk er j).length ≤ 100000 := by
     unfold gN
     rw [List.length_map]
     exact Nat.le_trans (List.length_filter_le _ _) (by rw [List.length_range]; omega)
    have hsucc := oI p.2 dk er j
    clear hL et hh hdk ix
    cases hB : pB p.2 dk er j with
    | true =>
     rw [if_pos hB] at hsucc
     unfold pB at hB
     clear hsucc
     walk_at "ev"
     refine ⟨some (.int (0 + (j : Int))), ?_⟩
     rw [oI, if_pos (show pB p.2 dk er j = true from hB), List.map_append, show (0 + (j : Int)) = (j : Int) by omega]
     rfl
    | false =>
     unfold pB at hB
     clear hsucc
     walk_at "ev"
     refine ⟨some (.int (0 + (j : Int))), ?_⟩
     rw [oI, if_neg (by rw [show pB p.2 dk er j = false from hB]; decide), List.append_nil])
   rw [gW, show (f.first + f.span - f.first + 1).toNat = f.span.toNat + 1 by omega, hh]
   clear hL hh hdk
   have ae := cd2 (a := a) (l := r)
   simp only [List.map_cons] at ae ⊢
   walk_at "ev"
   rfl
 · have h0 : (num % 4 == 0) = false := by simpa using c0
   clear c0
   have hlen : 0 < (f.reigns.length : Int) := by have := g.r1; omega
   obtain ⟨k0, k1⟩ := ai0 (a := num / 4 / 2) (n := f.reigns.length) (by omega)
   obtain ⟨kn, hkn⟩ := qI k0
   have hk' : kn ≤ f.reigns.length := by omega
   have c1 : eK (f.reigns.map fR) (some (num / 4 / 2 % (f.reigns.length : Int))) none = (f.reigns.drop kn).map fR := by rw [hkn, by0 _ _ (by simpa using hk'), List.map_drop]
   have c2 : eK (f.reigns.map fR) none (some (num / 4 / 2 % (f.reigns.length : Int))) = (f.reigns.take kn).map fR := by rw [hkn, az2, List.map_take]
   have n1 := kF
   have z1 := qC
   have l1 : (f.reigns.drop kn).length + (f.reigns.take kn).length ≤ 100000 := by have := g.r8; simp; omega
   have mA := (List.map_append (f := fR) (l₁ := f.reigns.drop kn) (l₂ := f.reigns.take kn)).symm
   clear hkn k0 k1
   have hmem : ∀ q ∈ f.reigns.drop kn ++ f.reigns.take kn, q ∈ f.reigns := fun q hq => (List.mem_append.mp hq).elim List.mem_of_mem_drop List.mem_of_mem_take
   walk_at "ev"
   generalize hL : eT _ _ _ _ = o
   have hx := bf8 (fun _ ρ => ∃ (o13 o14 o15 : Option T), ρ = [some (.int num), some (.tup [.int f.first, .int (f.first + f.span), .lst false (f.names.map .str), .lst false (f.inks.map (dZ false)), .lst false (f.reigns.map fR)]), some (.int i), some (.int y), some (.str n), some (.int (num / 4)), none, none, none, none, none, none, some (.int (num / 4 / 2 % (f.reigns.length : Int))), o13, o14, o15, none, none]) (fun _ => False) (fun t => ∃ s, t = iE true s ∧ SdOk f s) hL ⟨_, _, _, rfl⟩ (by
    rintro j t ρ et ⟨o13, o14, o15, rfl⟩
    rw [List.getElem?_map] at et
    cases eq : (f.reigns.drop kn ++ f.reigns.take kn)[j]? with
    | none => rw [eq] at et; cases et
    | some q =>
     rw [eq] at et
     have et := (Option.some.inj et).symm
     subst et
     have hq := hmem q (List.mem_of_getElem? eq)
     obtain ⟨_, r1, r2, r3, r4⟩ := g.rn q hq
     simp only [fR]
     clear hL c1 c2 mA n1 z1 l1 hmem eq
     by_cases t1 : num % 4 = 1
     · have e1 : (num % 4 == 1) = true := by simp [t1]
       clear t1
       by_cases t2 : q.2.1 ≤ y ∧ y < q.2.1 + q.2.2
       · have e2 : decide (q.2.1 ≤ y) = true := decide_eq_true t2.1
         have e3 : decide (y < q.2.1 + q.2.2) = true := decide_eq_true t2.2
         cases e4 : (num / 4 % 2 == 0) with
         | true =>
          obtain ⟨x, hx⟩ := cc3 g hn hq (k := y - q.2.1 + 1) (by omega) (by omega)
          rw [show q.2.1 + (y - q.2.1 + 1) - 1 = y by omega] at hx
          clear t2 hn
          walk_at "ev"
          exact ⟨⟨"reign", "Reign", [.str n, .str q.1, .int (y - q.2.1 + 1)], [i], y, some y⟩, rfl, ⟨rfl, rfl, bx9, .inl rfl, lb1 hi, x, hx⟩⟩
         | false =>
          obtain ⟨x, hx⟩ := cv1 g hn hq
          clear t2 hn
          walk_at "ev"
          exact ⟨⟨"under", "Under", [.str n, .str q.1], [i], q.2.1, some (q.2.1 + q.2.2 - 1)⟩, rfl, ⟨rfl, rfl, cs1, .inl rfl, lb1 hi, x, hx⟩⟩
       · by_cases t3 : q.2.1 ≤ y
         · have e2 : decide (q.2.1 ≤ y) = true := decide_eq_true t3
           have e3 : decide (y < q.2.1 + q.2.2) = false := decide_eq_false (by omega)
           clear t2 t3 hn
           walk_at "ev"
           exact ⟨_, _, _, rfl⟩
         · have e2 : decide (q.2.1 ≤ y) = false := decide_eq_false t3
           clear t2 t3 hn
           walk_at "ev"
           exact ⟨_, _, _, rfl⟩
     · have e1 : (num % 4 == 1) = false := by simpa using t1
       clear t1 hn
       walk_at "ev"
       exact ⟨_, _, _, rfl⟩)
   rcases hx with ⟨ρ', rfl, (⟨o13, o14, o15, rfl⟩ | h)⟩ | ⟨t, rfl, s, rfl, hs⟩
   · obtain ⟨x, hx⟩ := ap2 g hn (lo := if y - num / 4 % 9 > -4000 then y - num / 4 % 9 else -4000) (hi := if y + num / 4 / 9 % 9 < 4000 then y + num / 4 / 9 % 9 else 4000) (by split <;> omega) (by split <;> split <;> omega) (by split <;> omega)
     refine ⟨⟨"between", "Between", [.str n, .int (if y - num / 4 % 9 > -4000 then y - num / 4 % 9 else -4000), .int (if y + num / 4 / 9 % 9 < 4000 then y + num / 4 / 9 % 9 else 4000)], [i], if y - num / 4 % 9 > -4000 then y - num / 4 % 9 else -4000, some (if y + num / 4 / 9 % 9 < 4000 then y + num / 4 / 9 % 9 else 4000)⟩, ?_, ⟨rfl, rfl, ae2, .inl rfl, lb1 hi, x, hx⟩⟩
     clear hL c1 c2 mA n1 z1 l1 hmem hx hn
     walk_at "ev"
     rfl
   · exact h.elim
   · exact ⟨s, rfl, hs⟩
end Nk22
namespace Nk22
open PySem L2 TL
theorem ix5 {α : Type} (a b c d e g : α) (l : List α) : atI (a :: b :: c :: d :: e :: g :: l) 5 = some g := eX (j := 5) rfl
theorem iB {f : Fm} {s : Sd} (h : SdOk f s) : eN (iE true s) = true := by
 have q : dX (s.ls.map fun (l : Nat) => T.int (l : Int)) = true := kI (fun _ => rfl) _
 simp only [iE, eN, dX, h.cp, q, az0, Bool.and_self]
theorem bd9 {f : Fm} (g : Gd f) (cs : List Int) (hcs : cs.length ≤ 100) (fl : Bool) (hid : List Int) (hl : hid.length = f.names.length) (hb : ∀ y ∈ hid, f.first ≤ y ∧ y ≤ f.first + f.span) :
 ∃ ss : List Sd, kO [.lst false (cs.map .int), gB false f, .bl fl, .lst false (hid.map .int)] = .ok (.lst true (ss.map (iE true))) ∧ ss.length = cs.length ∧ ∀ s ∈ ss, SdOk f s := by
 unfold kO nN
 have b0 := @jY T
 have b1 := @iS T
 have b2 := @rK T
 have b3 := @vU T
 have b4 := @ix4 T
 have b5 := @ix5 T
 have z1 := oG false f.inks
 have z2 := qC f.reigns
 have s0 := g.s0
 have s1 := g.s1
 have n1 := g.n1
 have n8 := g.n8
 simp only [gB]
 walk_at "ev"
 generalize hL : eT _ _ _ _ = o
 obtain ⟨ρ', rfl, ss, o7, o8, o9, o10, o11, o12, rfl, sl, sb⟩ := jQ (fun j ρ => ∃ (ss : List Sd) (o7 o8 o9 o10 o11 o12 : Option T), ρ = [some (.lst false (cs.map .int)), some (.tup [.int f.first, .int (f.first + f.span), .lst false (f.names.map .str), .lst false (f.inks.map (dZ false)), .lst false (f.reigns.map fR)]), some (.bl fl), some (.lst false (hid.map .int)), some (.int f.names.length), some (.int (f.first + f.span - f.first)), some (.lst true (ss.map (iE true))), o7, o8, o9, o10, o11, o12] ∧ ss.length = j ∧ ∀ s ∈ ss, SdOk f s) hL ⟨[], _, _, _, _, _, _, rfl, rfl, eC⟩ (by
  rintro j0 t ρ et ⟨ss, o7, o8, o9, o10, o11, o12, rfl, sl, sb⟩
  rw [List.getElem?_map] at et
  cases eq : cs[j0]? with
  | none => rw [eq] at et; cases et
  | some cell =>
   rw [eq] at et
   have et := (Option.some.inj et).symm
   subst et
   have hj0 : j0 < cs.length := (List.getElem?_eq_some_iff.mp eq).1
   have hsl : ss.length ≤ 100000 := by omega
   clear hL eq
   obtain ⟨xs, hr, hxl, hxb⟩ := co4 cell 6 (by decide)
   obtain ⟨a, b, c, d, e, w, hx6, ha0, hb0, hc0, hd0, he0, hw0⟩ := do2 hxl hxb
   rw [hx6] at hr
   have hr : kA [.int cell, .int 6] = .ok (.lst true [.int a, .int b, .int c, .int d, .int e, .int w]) := hr
   clear hx6 hxl hxb
   obtain ⟨i0, i1⟩ := ai0 (a := a) (n := f.names.length) (by omega)
   obtain ⟨i, hie⟩ := qI i0
   have hi : i < f.names.length := by omega
   have mx : 0 < (if (f.names.length : Int) - 1 > 1 then (f.names.length : Int) - 1 else 1) := by split <;> omega
   have mx1 := Int.emod_nonneg (b / 3) (show (if (f.names.length : Int) - 1 > 1 then (f.names.length : Int) - 1 else 1) ≠ 0 by omega)
   have mx2 := Int.emod_lt_of_pos (b / 3) mx
   have mp : 0 < (f.names.length : Int) := by omega
   obtain ⟨j1, j2⟩ := ai0 (a := (i : Int) + 1 + b / 3 % (if (f.names.length : Int) - 1 > 1 then (f.names.length : Int) - 1 else 1)) (n := f.names.length) (by omega)
   obtain ⟨j, hje⟩ := qI j1
   have hj : j < f.names.length := by omega
   have hij : ¬ f.names.length = 1 → i ≠ j := by
    intro hm hq
    subst hq
    generalize b / 3 % (if (f.names.length : Int) - 1 > 1 then (f.names.length : Int) - 1 else 1) = v at *
    have hv : v < (f.names.length : Int) - 1 := by split at mx2 <;> omega
    by_cases q : (i : Int) + 1 + v < f.names.length
    · rw [Int.emod_eq_of_lt (by omega) q] at hje
      omega
    · rw [show (i : Int) + 1 + v = ((i : Int) + 1 + v - f.names.length) + (f.names.length : Int) * 1 by omega, Int.add_mul_emod_self_left, Int.emod_eq_of_lt (by omega) (by omega)] at hje
      omega
   clear i0 i1 j1 j2
   have goal : ∀ ys : List Int, ys.length = f.names.length → (∀ y ∈ ys, f.first ≤ y ∧ y ≤ f.first + f.span) → ∃ yi ∈ ys, ∃ yj ∈ ys, atI (ys.map T.int) (i : Int) = some (.int yi) ∧ atI (ys.map T.int) (j : Int) = some (.int yj) := fun ys hy _ => by
    obtain ⟨yi, h1, h2⟩ := br8 (xs := ys) (k := i) (by omega)
    obtain ⟨yj, h3, h4⟩ := br8 (xs := ys) (k := j) (by omega)
    exact ⟨yi, h1, yj, h3, h2, h4⟩
   cases fl with
   | false =>
    obtain ⟨yi, hyi, yj, hyj, ai, aj⟩ := goal hid hl hb
    have yb := hb
    clear goal
    by_cases hm1 : f.names.length = 1
    · have t1 : ((f.names.length : Int) == 1) = true := by simp [hm1]
      clear hm1 hij
      obtain ⟨s, hF, hs⟩ := qE g hd0 hi (yb yi hyi).1 (yb yi hyi).2
      simp only [gB] at hF
      have ccs := iB hs
      walk_at "ev"
      exact ⟨ss ++ [s], _, _, _, _, _, _, by rw [List.map_append]; rfl, by simp [sl], fun q hq => (List.mem_append.mp hq).elim (sb q) (fun z => by rw [List.mem_singleton.mp z]; exact hs)⟩
    · have t1 : ((f.names.length : Int) == 1) = false := by simp; omega
      cases t2 : decide (c % 5 < 2) with
      | true =>
       obtain ⟨s, hF, hs⟩ := qE g hd0 hi (yb yi hyi).1 (yb yi hyi).2
       simp only [gB] at hF
       have ccs := iB hs
       walk_at "ev"
       exact ⟨ss ++ [s], _, _, _, _, _, _, by rw [List.map_append]; rfl, by simp [sl], fun q hq => (List.mem_append.mp hq).elim (sb q) (fun z => by rw [List.mem_singleton.mp z]; exact hs)⟩
      | false =>
       obtain ⟨s, hF, hs⟩ := al1 g (gap := yi - yj) hd0 hi hj (hij hm1) (by have := yb yi hyi; have := yb yj hyj; omega) (by have := yb yi hyi; have := yb yj hyj; omega)
       simp only [gB] at hF
       have ccs := iB hs
       walk_at "ev"
       exact ⟨ss ++ [s], _, _, _, _, _, _, by rw [List.map_append]; rfl, by simp [sl], fun q hq => (List.mem_append.mp hq).elim (sb q) (fun z => by rw [List.mem_singleton.mp z]; exact hs)⟩
   | true =>
    cases h3 : (b % 3 == 0) with
    | false =>
     obtain ⟨yi, hyi, yj, hyj, ai, aj⟩ := goal hid hl hb
     have yb := hb
     clear goal
     cases h8 : (w % 8 == 5) with
     | true =>
      obtain ⟨s, hF, hs⟩ := bd7 g (a := a) (b := b) (w := w) hc0 hd0 he0 hi hj
      simp only [gB] at hF
      have ccs := iB hs
      walk_at "ev"
      exact ⟨ss ++ [s], _, _, _, _, _, _, by rw [List.map_append]; rfl, by simp [sl], fun q hq => (List.mem_append.mp hq).elim (sb q) (fun z => by rw [List.mem_singleton.mp z]; exact hs)⟩
     | false =>
      by_cases hm1 : f.names.length = 1
      · have t1 : ((f.names.length : Int) == 1) = true := by simp [hm1]
        clear hm1 hij
        obtain ⟨s, hF, hs⟩ := qE g hd0 hi (yb yi hyi).1 (yb yi hyi).2
        simp only [gB] at hF
        have ccs := iB hs
        walk_at "ev"
        exact ⟨ss ++ [s], _, _, _, _, _, _, by rw [List.map_append]; rfl, by simp [sl], fun q hq => (List.mem_append.mp hq).elim (sb q) (fun z => by rw [List.mem_singleton.mp z]; exact hs)⟩
      · have t1 : ((f.names.length : Int) == 1) = false := by simp; omega
        cases t2 : decide (c % 5 < 2) with
        | true =>
         obtain ⟨s, hF, hs⟩ := qE g hd0 hi (yb yi hyi).1 (yb yi hyi).2
         simp only [gB] at hF
         have ccs := iB hs
         walk_at "ev"
         exact ⟨ss ++ [s], _, _, _, _, _, _, by rw [List.map_append]; rfl, by simp [sl], fun q hq => (List.mem_append.mp hq).elim (sb q) (fun z => by rw [List.mem_singleton.mp z]; exact hs)⟩
        | false =>
         obtain ⟨s, hF, hs⟩ := al1 g (gap := yi - yj) hd0 hi hj (hij hm1) (by have := yb yi hyi; have := yb yj hyj; omega) (by have := yb yi hyi; have := yb yj hyj; omega)
         simp only [gB] at hF
         have ccs := iB hs
         walk_at "ev"
         exact ⟨ss ++ [s], _, _, _, _, _, _, by rw [List.map_append]; rfl, by simp [sl], fun q hq => (List.mem_append.mp hq).elim (sb q) (fun z => by rw [List.mem_singleton.mp z]; exact hs)⟩
    | true =>
     have rg : -(2 ^ 62) ≤ (f.names.length : Int) ∧ (f.names.length : Int) < 2 ^ 62 := by omega
     have mspan : 0 < f.first + f.span - f.first + 1 := by omega
     obtain ⟨ys, hys, hyl, yb⟩ : ∃ ys : List Int, (∀ q : Option T, cG (aK 12) dG (aG bX (aG bE (aD 1) (dC (.int 0))) (aG cM (aG bX (aG bE (aD 8) (dC (.int 4))) (aG nE (aG nE (dC (.int 7)) (aG bE (aD 8) (dC (.int 5)))) (aD 12))) (aG bX (aD 5) (dC (.int 1))))) [some (.lst false (cs.map .int)), some (.tup [.int f.first, .int (f.first + f.span), .lst false (f.names.map .str), .lst false (f.inks.map (dZ false)), .lst false (f.reigns.map fR)]), some (.bl true), some (.lst false (hid.map .int)), some (.int f.names.length), some (.int (f.first + f.span - f.first)), some (.lst true (ss.map (iE true))), some (.int cell), some (.lst true [.int a, .int b, .int c, .int d, .int e, .int w]), some (.int i), some (.lst true (hid.map .int)), q, none] (jE 0 (f.names.length : Int).toNat) = .ok (ys.map .int)) ∧ ys.length = f.names.length ∧ ∀ y ∈ ys, f.first ≤ y ∧ y ≤ f.first + f.span := by
      refine ⟨(List.range f.names.length).map fun (k : Nat) => f.first + (e + 7 * w * (0 + (k : Int))) % (f.first + f.span - f.first + 1), fun q => ?_, by simp, fun y hy => ?_⟩
      · unfold jE
        rw [List.map_map, Int.toNat_natCast]
        refine eW fun k hk => ?_
        have hk := List.mem_range.mp hk
        have mk : mulOk (7 * w) (0 + (k : Int)) := bv4 (by omega) (by omega)
        clear hr hie hje
        walk_at "ev"
        rfl
      · obtain ⟨k, _, rfl⟩ := List.mem_map.mp hy
        have := Int.emod_nonneg (e + 7 * w * (0 + (k : Int))) (show f.first + f.span - f.first + 1 ≠ 0 by omega)
        have := Int.emod_lt_of_pos (e + 7 * w * (0 + (k : Int))) mspan
        omega
     have ity : (jE 0 (f.names.length : Int).toNat).length ≤ sizeLine := by rw [gW]; exact qA (by omega)
     obtain ⟨yi, hyi, yj, hyj, ai, aj⟩ := goal ys hyl yb
     clear goal
     cases h8 : (w % 8 == 5) with
     | true =>
      obtain ⟨s, hF, hs⟩ := bd7 g (a := a) (b := b) (w := w) hc0 hd0 he0 hi hj
      simp only [gB] at hF
      have ccs := iB hs
      walk_at "ev"
      exact ⟨ss ++ [s], _, _, _, _, _, _, by rw [List.map_append]; rfl, by simp [sl], fun q hq => (List.mem_append.mp hq).elim (sb q) (fun z => by rw [List.mem_singleton.mp z]; exact hs)⟩
     | false =>
      by_cases hm1 : f.names.length = 1
      · have t1 : ((f.names.length : Int) == 1) = true := by simp [hm1]
        clear hm1 hij
        obtain ⟨s, hF, hs⟩ := qE g hd0 hi (yb yi hyi).1 (yb yi hyi).2
        simp only [gB] at hF
        have ccs := iB hs
        walk_at "ev"
        exact ⟨ss ++ [s], _, _, _, _, _, _, by rw [List.map_append]; rfl, by simp [sl], fun q hq => (List.mem_append.mp hq).elim (sb q) (fun z => by rw [List.mem_singleton.mp z]; exact hs)⟩
      · have t1 : ((f.names.length : Int) == 1) = false := by simp; omega
        cases t2 : decide (c % 5 < 2) with
        | true =>
         obtain ⟨s, hF, hs⟩ := qE g hd0 hi (yb yi hyi).1 (yb yi hyi).2
         simp only [gB] at hF
         have ccs := iB hs
         walk_at "ev"
         exact ⟨ss ++ [s], _, _, _, _, _, _, by rw [List.map_append]; rfl, by simp [sl], fun q hq => (List.mem_append.mp hq).elim (sb q) (fun z => by rw [List.mem_singleton.mp z]; exact hs)⟩
        | false =>
         obtain ⟨s, hF, hs⟩ := al1 g (gap := yi - yj) hd0 hi hj (hij hm1) (by have := yb yi hyi; have := yb yj hyj; omega) (by have := yb yi hyi; have := yb yj hyj; omega)
         simp only [gB] at hF
         have ccs := iB hs
         walk_at "ev"
         exact ⟨ss ++ [s], _, _, _, _, _, _, by rw [List.map_append]; rfl, by simp [sl], fun q hq => (List.mem_append.mp hq).elim (sb q) (fun z => by rw [List.mem_singleton.mp z]; exact hs)⟩)
 clear hL
 rw [List.length_map] at sl
 refine ⟨ss, ?_, sl, sb⟩
 walk_at "ev"
end Nk22
namespace Nk22
open PySem L2 TL
open Classical in
noncomputable def zI (f : Fm) (s : Sd) : Str := if h : ∃ x, dI [dA false f, .str s.word, .lst false s.parts] = .ok (gJ true s.cls (s.ls.map fun (l : Nat) => (l : Int)) s.lo s.hi x) then Classical.choose h else ""
noncomputable def fE (o : Bool) (f : Fm) (s : Sd) : T := gJ o s.cls (s.ls.map fun (l : Nat) => (l : Int)) s.lo s.hi (zI f s)
theorem cx5 {f : Fm} {s : Sd} (h : SdOk f s) : dI [dA false f, .str s.word, .lst false s.parts] = .ok (fE true f s) := by
 unfold fE zI
 rw [dif_pos h.made]
 exact Classical.choose_spec h.made
theorem yH (o : Bool) (f : Fm) (s : Sd) : frz (fE o f s) = fE false f s := cr9 _ _ _ _ _ _
theorem au9 (f : Fm) (s : Sd) : eN (fE true f s) = true := eS _ _ _ _ _
theorem cm2 (f : Fm) (s : Sd) : eI (fE false f s) = true := ct2 _ _ _ _ _
theorem tT (o : Bool) (f : Fm) : ∀ ss : List Sd, frzs (ss.map (fE o f)) = ss.map (fE false f)
 | [] => rfl
 | s :: ss => by simp only [List.map_cons, frzs, yH, tT o f ss]
theorem bw4 (f : Fm) (ss : List Sd) : dX (ss.map (fE true f)) = true := kI (au9 f) ss
theorem sG (f : Fm) (ss : List Sd) : bG (ss.map (fE false f)) = true := kC (cm2 f) ss
theorem cc8 {f : Fm} {s : Sd} (h : SdOk f s) (o : Bool) : frz (iE o s) = iE false s := by
 have q : frzs (s.ls.map fun (l : Nat) => T.int (l : Int)) = s.ls.map fun (l : Nat) => T.int (l : Int) := tR (fun _ => rfl) _
 simp only [iE, frz, frzs, gC _ h.np, q, bs8]
theorem cl3 {f : Fm} {s : Sd} (h : SdOk f s) : eI (iE false s) = true := by
 have q : bG (s.ls.map fun (l : Nat) => T.int (l : Int)) = true := kC (fun _ => rfl) _
 simp only [iE, eI, bG, h.np, q, wN, Bool.not_false, Bool.and_self]
theorem xB {f : Fm} (o : Bool) : ∀ {ss : List Sd}, (∀ s ∈ ss, SdOk f s) → frzs (ss.map (iE o)) = ss.map (iE false)
 | [], _ => rfl
 | s :: ss, h => by simp only [List.map_cons, frzs, cc8 (h s List.mem_cons_self), xB o fun t ht => h t (List.mem_cons_of_mem _ ht)]
theorem pF {f : Fm} : ∀ {ss : List Sd}, (∀ s ∈ ss, SdOk f s) → bG (ss.map (iE false)) = true
 | [], _ => rfl
 | s :: ss, h => by simp only [List.map_cons, bG, cl3 (h s List.mem_cons_self), pF fun t ht => h t (List.mem_cons_of_mem _ ht), Bool.and_self]
theorem an2 {f : Fm} : ∀ {ss : List Sd}, (∀ s ∈ ss, SdOk f s) → dX (ss.map (iE true)) = true
 | [], _ => rfl
 | s :: ss, h => by simp only [List.map_cons, dX, iB (h s List.mem_cons_self), an2 fun t ht => h t (List.mem_cons_of_mem _ ht), Bool.and_self]
theorem ci8 {f : Fm} {ss : List Sd} (h : ∀ s ∈ ss, SdOk f s) (hl : ss.length ≤ 1000) : pH [dA false f, .lst false (ss.map (iE false))] = .ok (.lst true (ss.map (fE true f))) := by
 unfold pH sA
 have hc : cG (fS (bN (aK 2) (bN (aK 3) (bN (aK 4) (bN (aK 5) gA))))) dG (bQ 3 dI (aE (aD 0) (aE (aD 2) (aE (cU hV (aE (aD 3) aJ)) aJ)))) [some (dA false f), some (.lst false (ss.map (iE false))), none, none, none, none] (ss.map (iE false)) = .ok (ss.map (fE true f)) := by
  refine mG fun s hs => ?_
  have k := cx5 (h s hs)
  have np := (h s hs).np
  have zp := gC _ np
  have za := jC false f
  have co := au9 f s
  simp only [iE]
  clear h
  walk_at "ev"
 have nn := pF h
 have l1 : ss.length ≤ 100000 := by omega
 clear h
 walk_at "ev"
def oth (s : Sd) : T := match s.ls with
 | [_, b] => .int b
 | _ => .non
def fst (s : Sd) : Int := match s.ls with
 | a :: _ => a
 | _ => 0
def st (s : Sd) (k : Int) : List T := (match s.hi with
 | some h => [.tup [oth s, .int (fst s), .int h, .int k]]
 | none => []) ++ [.tup [.int (fst s), oth s, .int (0 - s.lo), .int k]]
def sp (f : Fm) (l : Int) : List T := [.tup [.non, .int l, .int (f.first + f.span), .non], .tup [.int l, .non, .int (0 - f.first), .non]]
theorem bx7 (c : Str) (hc : c ∈ iF) (o : Bool) (ls : List Int) (lo : Int) (hi : Option Int) (x : Str) : eZ ["Ink", "Reign", "Under", "Between", "After", "Same", "Within", "Apart"] "spoken" (gJ o c ls lo hi x) = .ok (.lst o (ls.map .int)) := by
 have := ct8 c hc
 simp only [eZ, gJ, this, if_true]
 with_unfolding_all rfl
theorem cz9 (c : Str) (hc : c ∈ iF) (o : Bool) (ls : List Int) (lo : Int) (hi : Option Int) (x : Str) : eZ ["Ink", "Reign", "Under", "Between", "After", "Same", "Within", "Apart"] "low" (gJ o c ls lo hi x) = .ok (.int lo) := by
 have := ct8 c hc
 simp only [eZ, gJ, this, if_true]
 with_unfolding_all rfl
theorem ca5 (c : Str) (hc : c ∈ iF) (o : Bool) (ls : List Int) (lo : Int) (hi : Option Int) (x : Str) : eZ ["Ink", "Reign", "Under", "Between", "After", "Same", "Within", "Apart"] "high" (gJ o c ls lo hi x) = .ok (lW hi) := by
 have := ct8 c hc
 simp only [eZ, gJ, this, if_true]
 with_unfolding_all rfl
theorem cp1 : fQ "about" ["spoken", "low", "high", "text"] = none := by decide +kernel
theorem bz7 : fQ "bounds" ["spoken", "low", "high", "text"] = none := by decide +kernel
theorem cn7 {c : Str} (h : c ∈ iF) : tm_about.lookup c = some aX := by
 simp only [iF, List.mem_cons, List.not_mem_nil, or_false] at h
 rcases h with rfl | rfl | rfl | rfl | rfl | rfl | rfl | rfl <;> with_unfolding_all rfl
theorem ck7 {c : Str} (h : c ∈ iF) : tm_bounds.lookup c = some aR := by
 simp only [iF, List.mem_cons, List.not_mem_nil, or_false] at h
 rcases h with rfl | rfl | rfl | rfl | rfl | rfl | rfl | rfl <;> with_unfolding_all rfl
theorem cy6 {s : Sd} (c8 : s.cls ∈ iF) (f : Fm) {ρ : Fr} (h : aD 0 ρ = .ok (fE false f s)) : iA 1 "about" tm_about (aD 0) aJ ρ = .ok (.lst true ((s.ls.map fun (l : Nat) => (l : Int)).map .int)) := by
 have k : aX [fE false f s] = .ok (.lst true ((s.ls.map fun (l : Nat) => (l : Int)).map .int)) := by
  unfold aX dS fE
  have := bx7 s.cls c8 false (s.ls.map fun (l : Nat) => (l : Int)) s.lo s.hi (zI f s)
  walk_at "ev"
 have zo := yH false f s
 have e : iA 1 "about" tm_about (aD 0) aJ ρ = sK 1 aX [fE false f s] := by
  simp only [iA, h, mN, aJ, fE, gJ, cp1, cn7 c8]
 rw [e]
 clear h
 walk_at "ev"
theorem co1 {s : Sd} (c8 : s.cls ∈ iF) (f : Fm) {ρ : Fr} (h : aD 0 ρ = .ok (fE false f s)) : iA 1 "bounds" tm_bounds (aD 0) aJ ρ = .ok (.tup [.int s.lo, lW s.hi]) := by
 have ch := az0 s.hi
 have nh := wN s.hi
 have k : aR [fE false f s] = .ok (.tup [.int s.lo, lW s.hi]) := by
  unfold aR dJ fE
  have := cz9 s.cls c8 false (s.ls.map fun (l : Nat) => (l : Int)) s.lo s.hi (zI f s)
  have := ca5 s.cls c8 false (s.ls.map fun (l : Nat) => (l : Int)) s.lo s.hi (zI f s)
  walk_at "ev"
 have zo := yH false f s
 have e : iA 1 "bounds" tm_bounds (aD 0) aJ ρ = sK 1 aR [fE false f s] := by
  simp only [iA, h, mN, aJ, fE, gJ, bz7, ck7 c8]
 rw [e]
 clear h
 walk_at "ev"
theorem ar4 {f : Fm} {s : Sd} (ok : SdOk f s) (k : Int) : jM [fE false f s, .int k] = .ok (.lst true (st s k)) := by
 unfold jM mK
 have ha := cy6 ok.c8 f (ρ := [some (fE false f s), some (.int k), none, none, none, none]) rfl
 have hb := fun q => co1 ok.c8 f (ρ := [some (fE false f s), some (.int k), some q, none, none, none]) rfl
 have b0 := @jY T
 have b1 := @iS T
 obtain ⟨word, cls, parts, ls, lo, hi⟩ := s
 have l12 := ok.l12
 simp only at l12 ha hb
 clear ok
 have t2 : ((2 : Nat) : Int) = 2 := rfl
 have q3 : ((2 : Int) == 2) = true := rfl
 have q1 : (((0 + 1 : Nat) : Int) == 2) = false := rfl
 have q2 : (((0 + 1 + 1 : Nat) : Int) == 2) = true := rfl
 rcases ls with _ | ⟨a, _ | ⟨b, _ | ⟨c, r⟩⟩⟩
 · simp at l12
 · simp only [List.map_cons, List.map_nil] at ha
   cases hi with
   | none => simp only [lW] at hb; walk_at "ev"; rfl
   | some h => simp only [lW] at hb; walk_at "ev"; rfl
 · simp only [List.map_cons, List.map_nil] at ha
   cases hi with
   | none => simp only [lW] at hb; walk_at "ev"; rfl
   | some h => simp only [lW] at hb; walk_at "ev"; rfl
 · simp at l12
end Nk22
namespace Nk22
open PySem L2 TL
theorem an9 (f : Fm) (l : Int) : lR [dA false f, .int l] = .ok (.lst true (sp f l)) := by
 unfold lR pR sp
 have f1 := bf0 false f
 have f2 := aj3 false f
 walk_at "ev"
def ao4 (ss : List Sd) (k : Nat) : List T := match ss[k]? with
 | some s => st s k
 | none => []
def oN (ss : List Sd) (n : Nat) : List T := (List.range n).flatMap (ao4 ss)
def tU (f : Fm) (n : Nat) : List T := (List.range n).flatMap fun (l : Nat) => sp f (l : Int)
def kZ (f : Fm) (ss : List Sd) : List T := oN ss ss.length ++ tU f f.names.length
theorem bu0 {ss : List Sd} {n : Nat} {s : Sd} (h : ss[n]? = some s) : oN ss (n + 1) = oN ss n ++ st s n := by
 unfold oN
 rw [List.range_succ, List.flatMap_append]
 simp [ao4, h]
theorem ap1 (f : Fm) (n : Nat) : tU f (n + 1) = tU f n ++ sp f n := by
 unfold tU
 rw [List.range_succ, List.flatMap_append]
 simp
def sT (t : T) : Prop := ∃ a b c d, t = .tup [a, b, .int c, d] ∧ (a = .non ∨ ∃ i, a = .int i) ∧ (b = .non ∨ ∃ i, b = .int i) ∧ (d = .non ∨ ∃ i, d = .int i)
theorem bi9 (s : Sd) : oth s = .non ∨ ∃ i, oth s = .int i := by
 unfold oth
 split
 · exact .inr ⟨_, rfl⟩
 · exact .inl rfl
theorem af5 (s : Sd) (k : Int) : ∀ t ∈ st s k, sT t := by
 intro t ht
 unfold st at ht
 rcases List.mem_append.mp ht with ht | ht
 · split at ht
   · rw [List.mem_singleton.mp ht]
     exact ⟨_, _, _, _, rfl, bi9 s, .inr ⟨_, rfl⟩, .inr ⟨_, rfl⟩⟩
   · cases ht
 · rw [List.mem_singleton.mp ht]
   exact ⟨_, _, _, _, rfl, .inr ⟨_, rfl⟩, bi9 s, .inr ⟨_, rfl⟩⟩
theorem cz0 (ss : List Sd) (n : Nat) : ∀ t ∈ oN ss n, sT t := by
 intro t ht
 obtain ⟨k, _, h⟩ := List.mem_flatMap.mp ht
 unfold ao4 at h
 split at h
 · exact af5 _ _ t h
 · cases h
theorem cm1 (f : Fm) (n : Nat) : ∀ t ∈ tU f n, sT t := by
 intro t ht
 obtain ⟨k, _, h⟩ := List.mem_flatMap.mp ht
 simp only [sp, List.mem_cons, List.not_mem_nil, or_false] at h
 rcases h with rfl | rfl
 · exact ⟨_, _, _, _, rfl, .inl rfl, .inr ⟨_, rfl⟩, .inl rfl⟩
 · exact ⟨_, _, _, _, rfl, .inr ⟨_, rfl⟩, .inl rfl, .inl rfl⟩
theorem rJ (f : Fm) (ss : List Sd) : ∀ t ∈ kZ f ss, sT t := fun t ht => (List.mem_append.mp ht).elim (cz0 _ _ t) (cm1 _ _ t)
theorem yZ {t : T} (h : sT t) : eI t = true ∧ eN t = true ∧ frz t = t := by
 obtain ⟨a, b, c, d, rfl, ha, hb, hd⟩ := h
 rcases ha with rfl | ⟨i, rfl⟩ <;> rcases hb with rfl | ⟨j, rfl⟩ <;> rcases hd with rfl | ⟨k, rfl⟩ <;> exact ⟨rfl, rfl, rfl⟩
theorem zT {ts : List T} (h : ∀ t ∈ ts, sT t) : bG ts = true := by
 rw [oH, List.all_eq_true]
 exact fun t ht => (yZ (h t ht)).1
theorem uS {ts : List T} (h : ∀ t ∈ ts, sT t) : dX ts = true := by
 rw [al7, List.all_eq_true]
 exact fun t ht => (yZ (h t ht)).2.1
theorem ad0 {ts : List T} (h : ∀ t ∈ ts, sT t) : frzs ts = ts := gC ts (zT h)
theorem bk8 (s : Sd) (k : Int) : (st s k).length ≤ 2 := by
 unfold st
 split <;> simp
theorem tE (ss : List Sd) : ∀ n, (oN ss n).length ≤ 2 * n
 | 0 => by simp [oN]
 | n + 1 => by
  have ih := tE ss n
  unfold oN at ih ⊢
  rw [List.range_succ, List.flatMap_append, List.length_append]
  have : (([n] : List Nat).flatMap (ao4 ss)).length ≤ 2 := by
   simp only [List.flatMap_cons, List.flatMap_nil, List.append_nil, ao4]
   split
   · exact bk8 _ _
   · simp
  omega
theorem ac0 (f : Fm) : ∀ n, (tU f n).length = 2 * n
 | 0 => by simp [tU]
 | n + 1 => by rw [ap1, List.length_append, ac0 f n]; simp [sp]; omega
theorem am3 {f : Fm} (g : Gd f) {ss : List Sd} (h : ∀ s ∈ ss, SdOk f s) (hl : ss.length ≤ 1000) : oT [dA false f, .lst false (ss.map (fE false f))] = .ok (.lst true (kZ f ss)) := by
 unfold oT sJ
 have fl := sH false f
 have no := sG f ss
 have n8 := g.n8
 walk_at "ev"
 generalize hL : eT _ _ _ _ = o
 obtain ⟨ρ', rfl, o3, o4, rfl⟩ := jQ (fun j ρ => ∃ (o3 o4 : Option T), ρ = [some (dA false f), some (.lst false (ss.map (fE false f))), some (.lst true (oN ss j)), o3, o4, none]) hL ⟨_, _, rfl⟩ (by
  rintro j t ρ et ⟨o3, o4, rfl⟩
  obtain ⟨t2, e2, rfl⟩ := ak7 et
  rw [List.getElem?_map] at e2
  cases eq : ss[j]? with
  | none => rw [eq] at e2; cases e2
  | some s =>
   rw [eq] at e2
   have e2 := (Option.some.inj e2).symm
   subst e2
   have hs := h s (List.mem_of_getElem? eq)
   have k := ar4 hs (j : Int)
   have zo := yH false f s
   have cs := uS (af5 s j)
   have zs := ad0 (af5 s j)
   have hj : j < ss.length := (List.getElem?_eq_some_iff.mp eq).1
   have l1 := tE ss j
   have l2 := bk8 s j
   have l3 : (oN ss j).length + (st s j).length ≤ 100000 := by omega
   have sc := bu0 eq
   clear hL et eq h
   walk_at "ev"
   exact ⟨_, _, rfl⟩)
 rw [an7, List.length_map]
 clear hL
 walk_at "ev"
 generalize hL : eT _ _ _ _ = o
 obtain ⟨ρ', rfl, o5, rfl⟩ := jQ (fun j ρ => ∃ (o5 : Option T), ρ = [some (dA false f), some (.lst false (ss.map (fE false f))), some (.lst true (oN ss ss.length ++ tU f j)), o3, o4, o5]) hL ⟨none, by simp [tU]⟩ (by
  rintro j t ρ et ⟨o5, rfl⟩
  obtain ⟨hj, rfl⟩ := jX et
  have k := an9 f (0 + (j : Int))
  have za := jC false f
  have l1 := tE ss ss.length
  have l2 := ac0 f j
  have l3 : (oN ss ss.length ++ tU f j).length + (sp f (0 + (j : Int))).length ≤ 100000 := by rw [List.length_append]; simp [sp]; omega
  have cs : dX (sp f (0 + (j : Int))) = true := rfl
  clear hL et h l1 l2
  walk_at "ev"
  refine ⟨some (.int (0 + (j : Int))), ?_⟩
  rw [ap1, List.append_assoc, show (0 + (j : Int)) = (j : Int) by omega])
 rw [gW]
 clear hL
 simp only [Int.toNat_natCast]
 walk_at "ev"
 rfl
theorem ax0 {f : Fm} (g : Gd f) {ss : List Sd} (h : ∀ s ∈ ss, SdOk f s) (hl : ss.length ≤ 1000) : kW [gB false f, .lst false (ss.map (iE false))] = .ok (.lst true (kZ f ss)) := by
 unfold kW qZ
 have b0 := @jY T
 have b1 := @iS T
 have b2 := @rK T
 have b3 := @vU T
 have n8 := g.n8
 simp only [gB]
 have rg : -(2 ^ 62) ≤ (ss.length : Int) ∧ (ss.length : Int) < 2 ^ 62 := by omega
 walk_at "ev"
 generalize hL : eT _ _ _ _ = o
 obtain ⟨ρ', rfl, o3, o4, o5, o6, o7, rfl⟩ := jQ (fun j ρ => ∃ (o3 o4 o5 o6 o7 : Option T), ρ = [some (.tup [.int f.first, .int (f.first + f.span), .lst false (f.names.map .str), .lst false (f.inks.map (dZ false)), .lst false (f.reigns.map fR)]), some (.lst false (ss.map (iE false))), some (.lst true (oN ss j)), o3, o4, o5, o6, o7, none]) hL ⟨_, _, _, _, _, rfl⟩ (by
  rintro j t ρ et ⟨o3, o4, o5, o6, o7, rfl⟩
  obtain ⟨hj, rfl⟩ := jX et
  have hj : j < ss.length := by simpa using hj
  obtain ⟨s, eq⟩ : ∃ s, ss[j]? = some s := ⟨ss[j], List.getElem?_eq_getElem hj⟩
  have hs := h s (List.mem_of_getElem? eq)
  have at1 : atI (ss.map (iE false)) (j : Int) = some (iE false s) := by
   exact eX (by rw [List.getElem?_map, eq]; rfl)
  have l1 := tE ss j
  have l3 : (oN ss j).length ≤ 100000 := by omega
  have l4 : ∀ x : T, (oN ss j ++ [x]).length < sizeLine := fun x => Nat.lt_of_le_of_lt (show (oN ss j ++ [x]).length ≤ 100000 by rw [List.length_append]; simp; omega) (by decide)
  have sc := bu0 eq
  obtain ⟨word, cls, parts, ls, lo, hi⟩ := s
  have l12 := hs.l12
  simp only [iE] at at1 l12
  clear hL et eq h hs l1
  have zz : (0 + (j : Int)) = (j : Int) := Int.zero_add _
  rcases ls with _ | ⟨a, _ | ⟨b, _ | ⟨c, r⟩⟩⟩
  · simp at l12
  · simp only [List.map_cons, List.map_nil] at at1
    cases hi with
    | none =>
     simp only [lW] at at1
     clear l12
     walk_at "ev"
     exact ⟨_, _, _, _, _, by simp only [st, oth, fst, List.nil_append]; rfl⟩
    | some hh =>
     simp only [lW] at at1
     clear l12
     walk_at "ev"
     exact ⟨_, _, _, _, _, by simp only [st, oth, fst, List.append_assoc, List.cons_append, List.nil_append]; rfl⟩
  · simp only [List.map_cons, List.map_nil] at at1
    cases hi with
    | none =>
     simp only [lW] at at1
     clear l12
     walk_at "ev"
     exact ⟨_, _, _, _, _, by simp only [st, oth, fst, List.nil_append]; rfl⟩
    | some hh =>
     simp only [lW] at at1
     clear l12
     walk_at "ev"
     exact ⟨_, _, _, _, _, by simp only [st, oth, fst, List.append_assoc, List.cons_append, List.nil_append]; rfl⟩
  · simp at l12)
 rw [gW]
 clear hL
 simp only [Int.toNat_natCast]
 walk_at "ev"
 generalize hL : eT _ _ _ _ = o
 obtain ⟨ρ', rfl, o8, rfl⟩ := jQ (fun j ρ => ∃ (o8 : Option T), ρ = [some (.tup [.int f.first, .int (f.first + f.span), .lst false (f.names.map .str), .lst false (f.inks.map (dZ false)), .lst false (f.reigns.map fR)]), some (.lst false (ss.map (iE false))), some (.lst true (oN ss ss.length ++ tU f j)), o3, o4, o5, o6, o7, o8]) hL ⟨none, by simp [tU]⟩ (by
  rintro j t ρ et ⟨o8, rfl⟩
  obtain ⟨hj, rfl⟩ := jX et
  have l1 := tE ss ss.length
  have l2 := ac0 f j
  have l3 : (oN ss ss.length ++ tU f j).length ≤ 100000 := by rw [List.length_append]; omega
  have l4 : ∀ x : T, (oN ss ss.length ++ tU f j ++ [x]).length < sizeLine := fun x => Nat.lt_of_le_of_lt (show (oN ss ss.length ++ tU f j ++ [x]).length ≤ 100000 by rw [List.length_append, List.length_append]; simp; omega) (by decide)
  clear hL et h l1 l2
  walk_at "ev"
  refine ⟨some (.int (0 + (j : Int))), ?_⟩
  rw [ap1, show (0 + (j : Int)) = (j : Int) by omega]
  simp [sp])
 rw [gW]
 clear hL
 simp only [Int.toNat_natCast]
 walk_at "ev"
 rfl
end Nk22
namespace Nk22
open PySem L2 TL
def pO (ys : List Int) : T → Int
 | .int i => ys.getD i.toNat 0
 | _ => 0
def kept (ys : List Int) : T → Bool
 | .tup [a, b, .int c, _] => decide (pO ys b ≤ pO ys a + c)
 | _ => true
def Pl (n : Nat) (a : T) : Prop := a = .non ∨ ∃ i : Nat, i < n ∧ a = .int i
def StepN (n : Nat) (t : T) : Prop := ∃ a b c d, t = .tup [a, b, .int c, d] ∧ Pl n a ∧ Pl n b ∧ (d = .non ∨ ∃ i, d = .int i)
theorem StepN.st {n : Nat} {t : T} (h : StepN n t) : sT t := by
 obtain ⟨a, b, c, d, rfl, ha, hb, hd⟩ := h
 exact ⟨a, b, c, d, rfl, ha.imp_right fun ⟨i, _, e⟩ => ⟨_, e⟩, hb.imp_right fun ⟨i, _, e⟩ => ⟨_, e⟩, hd⟩
theorem bu8 (g : Int) : iG [.non, .int g] = .ok (.int g) := by
 unfold iG pC
 walk_at "ev"
theorem br7 (i g : Int) : iG [.int i, .int g] = .ok (.int i) := by
 unfold iG pC
 walk_at "ev"
theorem bl1 {ys : List Int} {a : T} (h : Pl ys.length a) : ∃ i : Int, iG [a, .int (ys.length : Int)] = .ok (.int i) ∧ atI (ys.map T.int ++ [.int 0]) i = some (.int (pO ys a)) ∧ eI a = true ∧ frz a = a := by
 rcases h with rfl | ⟨i, hi, rfl⟩
 · refine ⟨_, bu8 _, ?_, rfl, rfl⟩
   exact eX (by simp [pO])
 · refine ⟨_, br7 _ _, ?_, rfl, rfl⟩
   refine eX ?_
   rw [List.getElem?_append_left (by simpa using hi), List.getElem?_map, List.getElem?_eq_getElem hi]
   simp [pO, List.getD_eq_getElem?_getD, List.getElem?_eq_getElem hi]
theorem ba9 {ys : List Int} {t : T} (h : StepN ys.length t) : lX [t, .lst false (ys.map T.int ++ [.int 0])] = .ok (.bl (kept ys t)) := by
 obtain ⟨a, b, c, d, rfl, ha, hb, hd⟩ := h
 obtain ⟨i, pa, qa, na, za⟩ := bl1 ha
 obtain ⟨j, pb, qb, nb, zb⟩ := bl1 hb
 unfold lX uO
 have el : (((ys.map T.int ++ [T.int 0]).length : Nat) : Int) - 1 = (ys.length : Int) := by simp
 have b0 := @jY T
 have b1 := @iS T
 have b2 := @rK T
 clear ha hb hd
 simp only [kept]
 generalize pO ys a = A at *
 generalize pO ys b = B at *
 generalize ys.map T.int ++ [.int 0] = L at *
 walk_at "ev"
theorem bd5 (x : Int) : gU [.int x] = .ok (.bl true) := by
 unfold gU oV
 walk_at "ev"
theorem dl1 {f : Fm} {s : Sd} (h : SdOk f s) : Pl f.names.length (.int (fst s)) ∧ Pl f.names.length (oth s) := by
 have l12 := h.l12
 have lb := h.lb
 obtain ⟨w, c, p, ls, lo, hi⟩ := s
 simp only at l12 lb
 rcases ls with _ | ⟨a, _ | ⟨b, _ | ⟨c', r⟩⟩⟩
 · simp at l12
 · exact ⟨.inr ⟨a, lb a (by simp), rfl⟩, .inl rfl⟩
 · exact ⟨.inr ⟨a, lb a (by simp), rfl⟩, .inr ⟨b, lb b (by simp), rfl⟩⟩
 · simp at l12
theorem co2 {f : Fm} {s : Sd} (h : SdOk f s) (k : Int) : ∀ t ∈ st s k, StepN f.names.length t := by
 intro t ht
 obtain ⟨h1, h2⟩ := dl1 h
 unfold st at ht
 rcases List.mem_append.mp ht with ht | ht
 · split at ht
   · rw [List.mem_singleton.mp ht]
     exact ⟨_, _, _, _, rfl, h2, h1, .inr ⟨_, rfl⟩⟩
   · cases ht
 · rw [List.mem_singleton.mp ht]
   exact ⟨_, _, _, _, rfl, h1, h2, .inr ⟨_, rfl⟩⟩
theorem wX {f : Fm} {ss : List Sd} (h : ∀ s ∈ ss, SdOk f s) : ∀ t ∈ kZ f ss, StepN f.names.length t := by
 intro t ht
 rcases List.mem_append.mp ht with ht | ht
 · obtain ⟨k, _, q⟩ := List.mem_flatMap.mp ht
   unfold ao4 at q
   split at q
   · next s es => exact co2 (h s (List.mem_of_getElem? es)) _ t q
   · cases q
 · obtain ⟨k, hk, q⟩ := List.mem_flatMap.mp ht
   have hk := List.mem_range.mp hk
   simp only [sp, List.mem_cons, List.not_mem_nil, or_false] at q
   rcases q with rfl | rfl
   · exact ⟨_, _, _, _, rfl, .inl rfl, .inr ⟨k, hk, rfl⟩, .inl rfl⟩
   · exact ⟨_, _, _, _, rfl, .inr ⟨k, hk, rfl⟩, .inl rfl, .inl rfl⟩
theorem ck5 {f : Fm} (g : Gd f) {ss : List Sd} (h : ss.length ≤ 1000) : (kZ f ss).length ≤ 10000 := by
 unfold kZ
 have := tE ss ss.length
 have := ac0 f f.names.length
 have := g.n8
 rw [List.length_append]
 omega
theorem cs0 (ys : List Int) (ts : List T) : nU false [.lst true (ts.map fun t => T.bl (kept ys t))] = .ok (.bl (ts.all (kept ys))) := by
 have e : (ts.map fun t => T.bl (kept ys t)) = (ts.map (kept ys)).map T.bl := by simp
 rw [e, bh5, List.all_map]
 rfl
theorem bv3 {f : Fm} (g : Gd f) {ss : List Sd} (h : ∀ s ∈ ss, SdOk f s) (hl : ss.length ≤ 1000) (ys : List Int) (yl : ys.length ≤ 100) : tF [dA false f, .lst false (ss.map (fE false f)), .lst false (ys.map .int)] = .ok (.bl (decide (ys.length = f.names.length) && (kZ f ss).all (kept ys))) := by
 unfold tF ag0
 have fl := sH false f
 have k := am3 g h hl
 have za := jC false f
 have zo := tT false f ss
 have aS := wX h
 have aT := rJ f ss
 have zS := ad0 aT
 have nS := zT aT
 have cS := uS aT
 have lS := ck5 g hl
 by_cases e : ys.length = f.names.length
 · have t1 : (!((ys.length : Int) == (f.names.length : Int))) = false := by simp [e]
   have al := pV true ys
   have ak := cs0 ys (kZ f ss)
   have ll : ys.length ≤ 100000 := by omega
   have lz : ys.length + 1 ≤ sizeLine := by have := sizeLine_eq; omega
   have d1 : decide (ys.length = f.names.length) = true := decide_eq_true e
   have lS2 : (kZ f ss).length ≤ 100000 := by omega
   have hc1 : cG (aK 4) dG (bQ 1 gU (aE (aD 4) aJ)) [some (dA false f), some (.lst false (ss.map (fE false f))), some (.lst false (ys.map .int)), none, none, none] (ys.map .int) = .ok (ys.map fun _ => T.bl true) := by
    refine eW fun y _ => ?_
    have kw := bd5 y
    clear k aS aT e
    walk_at "ev"
   have hc2 : cG (aK 5) dG (bQ 2 lX (aE (aD 5) (aE (aD 3) aJ))) [some (dA false f), some (.lst false (ss.map (fE false f))), some (.lst false (ys.map .int)), some (.lst true (ys.map T.int ++ [.int 0])), none, none] (kZ f ss) = .ok ((kZ f ss).map fun t => T.bl (kept ys t)) := by
    have q := eW (k := 5) (d := (bQ 2 lX (aE (aD 5) (aE (aD 3) aJ)))) (ρ := [some (dA false f), some (.lst false (ss.map (fE false f))), some (.lst false (ys.map .int)), some (.lst true (ys.map T.int ++ [.int 0])), none, none]) (g := id) (f := fun t => T.bl (kept ys t)) (l := kZ f ss) (fun t ht => by
     have kk := ba9 (ys := ys) (t := t) (by rw [e]; exact aS t ht)
     obtain ⟨n1, c1, z1⟩ := yZ (aT t ht)
     have zy : frzs (ys.map T.int ++ [.int 0]) = ys.map T.int ++ [.int 0] := gC _ (by rw [oH]; simp [eI])
     simp only [id]
     clear k aS aT e hc1 ht
     walk_at "ev")
    rwa [List.map_id] at q
   clear k
   have k := am3 g h hl
   clear aS aT e h g hl yl lS
   walk_at "ev"
 · have t1 : (!((ys.length : Int) == (f.names.length : Int))) = true := by
    rw [Bool.not_eq_true', beq_eq_false_iff_ne]
    omega
   have d1 : decide (ys.length = f.names.length) = false := decide_eq_false e
   clear k aS aT e h g
   walk_at "ev"
theorem bc1 {b : T → Fr → Option Fr} {body : Fr → cO} {r : T} {p : T → Bool} (Iv : Fr → Prop) : ∀ {ts : List T} {ρ : Fr}, (∀ t ∈ ts, ∀ ρ, Iv ρ → ∃ ρ1, b t ρ = some ρ1 ∧ ((p t = false ∧ body ρ1 = .rt r) ∨ (p t = true ∧ ∃ ρ2, body ρ1 = .nx ρ2 ∧ Iv ρ2))) → Iv ρ →
 (ts.all p = true ∧ ∃ ρ', eT b body ts ρ = .nx ρ' ∧ Iv ρ') ∨ (ts.all p = false ∧ eT b body ts ρ = .rt r)
 | [], ρ, _, hi => .inl ⟨rfl, ρ, rfl, hi⟩
 | t :: ts, ρ, hs, hi => by
  obtain ⟨ρ1, h1, h2⟩ := hs t List.mem_cons_self ρ hi
  rcases h2 with ⟨hp, hb⟩ | ⟨hp, ρ2, hb, hi2⟩
  · refine .inr ⟨by simp [hp], ?_⟩
    simp only [eT, h1, hb]
  · rcases bc1 (p := p) (r := r) Iv (fun u hu => hs u (List.mem_cons_of_mem _ hu)) hi2 with ⟨ha, ρ', e, i'⟩ | ⟨ha, e⟩
    · refine .inl ⟨by simp [hp, ha], ρ', ?_, i'⟩
      simp only [eT, h1, hb]
      exact e
    · refine .inr ⟨by simp [hp, ha], ?_⟩
      simp only [eT, h1, hb]
      exact e
end Nk22
namespace Nk22
open PySem L2 TL
theorem cv4 {ys : List Int} {i : Nat} (hi : i < ys.length) : atI (ys.map T.int) (i : Int) = some (.int (pO ys (.int i))) := by
 refine eX ?_
 rw [List.getElem?_map, List.getElem?_eq_getElem hi]
 simp [pO, List.getD_eq_getElem?_getD, List.getElem?_eq_getElem hi]
theorem ar0 {ys : List Int} {ts : List T} (h : ∀ t ∈ ts, StepN ys.length t) : iI [.lst false (ys.map .int), .lst false ts] = .ok (.bl (ts.all (kept ys))) := by
 unfold iI qP
 have no := zT fun t ht => (h t ht).st
 have key := bc1 (b := fS (bN (aK 2) (bN (aK 3) (bN (aK 4) (bN (aK 5) gA))))) (body := (sSeq (bJ [] (dC (.int 0)) (aK 6)) (sSeq (bJ [] (dC (.int 0)) (aK 7)) (sSeq (dP (bS (aG iR (aD 2) (dC .non))) (bJ [] (aV (aG bE (aD 0) (aD 2))) (aK 6)) cP) (sSeq (dP (bS (aG iR (aD 3) (dC .non))) (bJ [] (aV (aG bE (aD 0) (aD 3))) (aK 7)) cP) (dP (bS (aG gtT (aD 7) (aG bX (aD 6) (aD 4)))) (bT [] (dC (.bl false))) cP)))))) (r := .bl false) (p := kept ys) (fun ρ => ∃ o2 o3 o4 o5 o6 o7 : Option T, ρ = [some (.lst false (ys.map .int)), some (.lst false ts), o2, o3, o4, o5, o6, o7]) (ts := ts) (ρ := [some (.lst false (ys.map .int)), some (.lst false ts), none, none, none, none, none, none]) (by
  rintro t ht ρ ⟨o2, o3, o4, o5, o6, o7, rfl⟩
  obtain ⟨a, b, c, d, rfl, ha, hb, hd⟩ := h t ht
  refine ⟨[some (.lst false (ys.map .int)), some (.lst false ts), some a, some b, some (.int c), some d, o6, o7], rfl, ?_⟩
  have kp : ∀ x : Bool, decide (pO ys a + c < pO ys b) = x → kept ys (.tup [a, b, .int c, d]) = !x := by
   intro x hx
   subst hx
   simp only [kept]
   by_cases q : pO ys b ≤ pO ys a + c
   · rw [decide_eq_true q, decide_eq_false (by omega)]; rfl
   · rw [decide_eq_false q, decide_eq_true (by omega)]; rfl
  have fA : ∀ i : Nat, i < ys.length → a = .int i → atI (ys.map T.int) (i : Int) = some (.int (pO ys a)) := fun i hi e => by rw [e]; exact cv4 hi
  have fB : ∀ i : Nat, i < ys.length → b = .int i → atI (ys.map T.int) (i : Int) = some (.int (pO ys b)) := fun i hi e => by rw [e]; exact cv4 hi
  have nA : a = .non → pO ys a = 0 := fun e => by rw [e]; rfl
  have nB : b = .non → pO ys b = 0 := fun e => by rw [e]; rfl
  have out : ∃ A B : Int, pO ys a = A ∧ pO ys b = B ∧ ((a = .non ∧ A = 0) ∨ ∃ i : Nat, a = .int i ∧ atI (ys.map T.int) (i : Int) = some (.int A)) ∧ ((b = .non ∧ B = 0) ∨ ∃ i : Nat, b = .int i ∧ atI (ys.map T.int) (i : Int) = some (.int B)) := by
   refine ⟨_, _, rfl, rfl, ?_, ?_⟩
   · rcases ha with e | ⟨i, hi, e⟩
     · exact .inl ⟨e, nA e⟩
     · exact .inr ⟨i, e, fA i hi e⟩
   · rcases hb with e | ⟨i, hi, e⟩
     · exact .inl ⟨e, nB e⟩
     · exact .inr ⟨i, e, fB i hi e⟩
  obtain ⟨A, B, eA, eB, ca, cb⟩ := out
  rw [eA, eB] at kp
  clear fA fB nA nB ha hb hd h ht no eA eB
  cases e : decide (A + c < B) with
  | true =>
   refine .inl ⟨kp true e, ?_⟩
   clear kp
   rcases ca with ⟨rfl, rfl⟩ | ⟨i, rfl, qa⟩ <;> rcases cb with ⟨rfl, rfl⟩ | ⟨j, rfl, qb⟩ <;> walk_at "ev"
  | false =>
   refine .inr ⟨kp false e, [some (.lst false (ys.map .int)), some (.lst false ts), some a, some b, some (.int c), some d, some (.int A), some (.int B)], ?_, _, _, _, _, _, _, rfl⟩
   clear kp
   rcases ca with ⟨rfl, rfl⟩ | ⟨i, rfl, qa⟩ <;> rcases cb with ⟨rfl, rfl⟩ | ⟨j, rfl, qb⟩ <;> walk_at "ev") ⟨_, _, _, _, _, _, rfl⟩
 clear h
 rcases key with ⟨ha, ρ', e, o2, o3, o4, o5, o6, o7, rfl⟩ | ⟨ha, e⟩
 · walk_at "ev"
 · walk_at "ev"
theorem bk2 {f : Fm} (g : Gd f) (c : Int) {hid : List Int} (hl : hid.length = f.names.length) : ∃ ys : List Int, nL [.int c, gB false f, .lst false (hid.map .int)] = .ok (.lst true (ys.map .int)) ∧ ys.length ≤ 100 := by
 unfold nL rA
 have n1 := g.n1
 have n8 := g.n8
 have s0 := g.s0
 have b0 := @jY T
 have b1 := @iS T
 have hk : ∃ m, c % 1000000000000 = m := ⟨_, rfl⟩
 obtain ⟨m, hm⟩ := hk
 have m0 : 0 ≤ m := by omega
 have m1 : m < 1000000000000 := by omega
 have hn : (hid.length : Int) ≠ 0 := by omega
 obtain ⟨at', ha⟩ : ∃ a, m / 8 % (hid.length : Int) = a := ⟨_, rfl⟩
 have a0 : 0 ≤ at' := by rw [← ha]; exact Int.emod_nonneg _ hn
 have a1 : at' < (hid.length : Int) := by rw [← ha]; exact Int.emod_lt_of_pos _ (by omega)
 have ak : at'.toNat < hid.length := by omega
 have at1 : atI (hid.map T.int) at' = some (.int (hid.getD at'.toNat 0)) := by
  have q : atI (hid.map T.int) ((at'.toNat : Nat) : Int) = some (.int (hid.getD at'.toNat 0)) := eX (by rw [List.getElem?_map, List.getElem?_eq_getElem ak]; simp [List.getD_eq_getElem?_getD, List.getElem?_eq_getElem ak])
  rwa [Int.toNat_of_nonneg a0] at q
 have ix : tH hid.length at' = some at'.toNat := by
  unfold tH
  rw [if_pos a0, if_pos a1]
 have p12 : (10 : Int) ^ (12 : Int).toNat = 1000000000000 := by decide
 have ll : hid.length ≤ 100000 := by omega
 have r1 : -(2 ^ 62) ≤ (hid.length : Int) ∧ (hid.length : Int) < 2 ^ 62 := by omega
 generalize hid.getD at'.toNat 0 = v0 at *
 simp only [gB]
 have c8 : m % 8 < 3 ∨ m % 8 = 3 ∨ m % 8 = 4 ∨ m % 8 = 5 ∨ m % 8 = 6 ∨ m % 8 = 7 := by omega
 rcases c8 with q | q | q | q | q | q
 · refine ⟨hid.set at'.toNat (v0 + m / 64 % 7 - 3), ?_, by simp; omega⟩
   rw [List.map_set]
   have t1 : decide (m % 8 < 3) = true := decide_eq_true q
   clear q hl g
   walk_at "ev"
 · have w0 : 0 < f.first + f.span - (f.first - 2) + 3 := by omega
   refine ⟨hid.set at'.toNat (f.first - 2 + m / 64 % (f.first + f.span - (f.first - 2) + 3)), ?_, by simp; omega⟩
   rw [List.map_set]
   have t1 : decide (m % 8 < 3) = false := decide_eq_false (by omega)
   have t2 : (m % 8 == 3) = true := by rw [q]; rfl
   have w1 : f.first + f.span - (f.first - 2) + 3 ≠ 0 := by omega
   clear q hl g
   walk_at "ev"
 · have w0 : m / 64 % 2 = 0 ∨ m / 64 % 2 = 1 := by omega
   have t1 : decide (m % 8 < 3) = false := decide_eq_false (by omega)
   have t2 : (m % 8 == 3) = false := by rw [q]; rfl
   have t3 : (m % 8 == 4) = true := by rw [q]; rfl
   have e : ∀ x : Int, (List.replicate hid.length [T.int x]).flatten = (List.replicate hid.length x).map T.int := by
    intro x
    simp
   have e2 : (hid.length : Int).toNat = hid.length := Int.toNat_natCast _
   have l1 : ∀ x : T, [x].length * hid.length ≤ 2 ^ 24 := fun x => by simp; omega
   rcases w0 with w | w
   · refine ⟨List.replicate hid.length f.first, ?_, by simp; omega⟩
     rw [← e]
     clear q hl g e
     walk_at "ev"
   · refine ⟨List.replicate hid.length (f.first + f.span), ?_, by simp; omega⟩
     rw [← e]
     clear q hl g e
     walk_at "ev"
 · have t1 : decide (m % 8 < 3) = false := decide_eq_false (by omega)
   have t2 : (m % 8 == 3) = false := by rw [q]; rfl
   have t3 : (m % 8 == 4) = false := by rw [q]; rfl
   have t4 : (m % 8 == 5) = true := by rw [q]; rfl
   refine ⟨hid ++ [v0], ?_, by simp; omega⟩
   rw [List.map_append]
   have lz : hid.length + 1 ≤ sizeLine := by have := sizeLine_eq; omega
   simp only [List.map_cons, List.map_nil]
   clear q hl g
   walk_at "ev"
 · have t1 : decide (m % 8 < 3) = false := decide_eq_false (by omega)
   have t2 : (m % 8 == 3) = false := by rw [q]; rfl
   have t3 : (m % 8 == 4) = false := by rw [q]; rfl
   have t4 : (m % 8 == 5) = false := by rw [q]; rfl
   have t5 : (m % 8 == 6) = true := by rw [q]; rfl
   have pp : (0 ≤ at' ∧ at'.toNat < hid.length ∧ hid.length ≤ sizeLine) := ⟨a0, ak, by have := sizeLine_eq; omega⟩
   refine ⟨hid.eraseIdx at'.toNat, ?_, by rw [List.length_eraseIdx]; split <;> omega⟩
   have me : ∀ (l : List Int) (k : Nat), (l.eraseIdx k).map T.int = (l.map T.int).eraseIdx k := by
    intro l
    induction l with
    | nil => intro k; rfl
    | cons x l ih => intro k; cases k with
     | zero => rfl
     | succ k => simp only [List.eraseIdx_cons_succ, List.map_cons, ih]
   rw [me]
   clear me
   clear q hl g
   walk_at "ev"
 · have t1 : decide (m % 8 < 3) = false := decide_eq_false (by omega)
   have t2 : (m % 8 == 3) = false := by rw [q]; rfl
   have t3 : (m % 8 == 4) = false := by rw [q]; rfl
   have t4 : (m % 8 == 5) = false := by rw [q]; rfl
   have t5 : (m % 8 == 6) = false := by rw [q]; rfl
   refine ⟨hid, ?_, by omega⟩
   clear q hl g
   walk_at "ev"
end Nk22
namespace Nk22
open PySem L2 TL
theorem cj6 (c : Str) (hc : c ∈ iF) (o : Bool) (ls : List Int) (lo : Int) (hi : Option Int) (x : Str) : eZ ["Ink", "Reign", "Under", "Between", "After", "Same", "Within", "Apart"] "text" (gJ o c ls lo hi x) = .ok (.str x) := by
 have := ct8 c hc
 simp only [eZ, gJ, this, if_true]
 with_unfolding_all rfl
theorem cj3 : fQ "shown" ["spoken", "low", "high", "text"] = none := by decide +kernel
theorem cd5 {c : Str} (h : c ∈ iF) : tm_shown.lookup c = some aW := by
 simp only [iF, List.mem_cons, List.not_mem_nil, or_false] at h
 rcases h with rfl | rfl | rfl | rfl | rfl | rfl | rfl | rfl <;> with_unfolding_all rfl
theorem cb6 {s : Sd} (c8 : s.cls ∈ iF) (f : Fm) {ρ : Fr} (h : aD 18 ρ = .ok (fE false f s)) : iA 1 "shown" tm_shown (aD 18) aJ ρ = .ok (.str (zI f s)) := by
 have k : aW [fE false f s] = .ok (.str (zI f s)) := by
  unfold aW dR fE
  have := cj6 s.cls c8 false (s.ls.map fun (l : Nat) => (l : Int)) s.lo s.hi (zI f s)
  walk_at "ev"
 have zo := yH false f s
 have e : iA 1 "shown" tm_shown (aD 18) aJ ρ = sK 1 aW [fE false f s] := by
  simp only [iA, h, mN, aJ, fE, gJ, cj3, cd5 c8]
 rw [e]
 clear h
 walk_at "ev"
theorem ao7 (n : Nat) : ∀ {ts : List T}, (∀ t ∈ ts, pU n t t = some true) → ∃ es, wR n ts ts = some es ∧ es.all id = true
 | [], _ => ⟨[], rfl, rfl⟩
 | t :: ts, h => by
  obtain ⟨es, h1, h2⟩ := ao7 n (ts := ts) fun u hu => h u (List.mem_cons_of_mem _ hu)
  refine ⟨true :: es, by simp only [wR, h t List.mem_cons_self, h1, Option.bind_some, Option.map_some], ?_⟩
  simp [h2]
theorem bo3 {o o' : Bool} {ts : List T} (h : ∀ t ∈ ts, pU 5 t t = some true) : pU bR (.lst o ts) (.lst o' ts) = some true := by
 show pU (5 + 1) (.lst o ts) (.lst o' ts) = _
 obtain ⟨es, h1, h2⟩ := ao7 5 h
 rw [pU, if_pos rfl, h1, Option.map_some, h2]
theorem cz4 (o o' : Bool) (ys : List Int) : xW (.lst o (ys.map .int)) (.lst o' (ys.map .int)) = .ok (.bl false) := by
 have q : pU bR (.lst o (ys.map .int)) (.lst o' (ys.map .int)) = some true := bo3 fun t ht => by
  obtain ⟨i, _, rfl⟩ := List.mem_map.mp ht
  show some (i == i) = _
  simp
 simp only [xW, sF, and_self, if_true, q, Bool.not_true]
theorem cs5 {α : Type} (o o' : Bool) (g : α → Str) (l : List α) : fV (.lst o (l.map fun a => T.str (g a))) (.lst o' (l.map fun a => T.str (g a))) = .ok (.bl true) := by
 have q : pU bR (.lst o (l.map fun a => T.str (g a))) (.lst o' (l.map fun a => T.str (g a))) = some true := bo3 fun t ht => by
  obtain ⟨i, _, rfl⟩ := List.mem_map.mp ht
  show some (g i == g i) = _
  simp
 simp only [fV, eqB, sF, and_self, if_true, q]
theorem cn9 (o : Bool) (f : Fm) : frz (gB o f) = gB false f := by simp only [gB, frz, frzs, yC, oG, qC]
theorem cl2 (f : Fm) : eN (gB true f) = true := by simp only [gB, eN, dX, vJ, vN, aa3, Bool.and_self]
theorem dm7 (o : Bool) (f : Fm) : bE (gB o f) (.int 2) = .ok (.lst o (f.names.map .str)) := by
 simp only [gB, cj4, rK]
theorem sY {α β : Type} (g : α → β) (xs : List α) (lo hi : Option Int) : eK (xs.map g) lo hi = (eK xs lo hi).map g := by
 unfold eK
 rw [List.length_map, List.map_take, List.map_drop]
theorem ah0 {α : Type} (xs : List α) (lo hi : Option Int) : (eK xs lo hi).length ≤ xs.length := by
 unfold eK
 rw [List.length_take, List.length_drop]
 omega
theorem bz3 {α : Type} {xs : List α} {lo hi : Option Int} {x : α} (h : x ∈ eK xs lo hi) : x ∈ xs := by
 unfold eK at h
 exact List.mem_of_mem_drop (List.mem_of_mem_take h)
theorem main (ns : List Int) (h63 : ns.length ≤ 63) (hb : ∀ n ∈ ns, Builtin.Int.intBits n ≤ 1048576) : av8 [.lst false (ns.map .int)] = .ok (.bl true) := by
 unfold av8 ay8
 obtain ⟨f, hf, g⟩ := cb7 ns
 have ec : gG [.lst false (ns.map .int), .int 1] = .ok (.int (ns.getD 1 0)) := bm7 false ns 1
 obtain ⟨hid, hh, hl, hhb⟩ := cg3 (ns.getD 1 0 / 32) g
 have ct := sY T.int ns (some 2) (some 18)
 have ctl := ah0 ns (some 2) (some 18)
 obtain ⟨ss, hs, sl, sok⟩ := bd9 g (eK ns (some 2) (some 18)) (by omega) (ns.getD 1 0 % 2 == 1) hid hl hhb
 have ka := ad8 g
 have kh := ci8 sok (by omega)
 have k1 := ax0 g sok (by omega)
 have fm := cn9 true f
 have cf := cl2 f
 have f2 := dm7 true f
 have ar := jC true f
 have ca := bj0 f
 have zs := xB (f := f) true sok
 have zs0 := xB (f := f) false sok
 have cs := an2 sok
 have co := bw4 f ss
 have zo := tT true f ss
 have zo0 := tT false f ss
 have ns1 := pF sok
 have no := sG f ss
 have nn := kS ns
 have zh := uQ hid
 have c1 := uS (rJ f ss)
 have z1 := ad0 (rJ f ss)
 have hc : ∀ x0 x1 x2 x3 x4 x5 x6 x7 x8 x9 y0 y1 y2 y3 y4 y5 y6 y7 : Option T, cG (aK 18) dG (iA 1 "shown" tm_shown (aD 18) aJ) [x0, x1, x2, x3, x4, x5, x6, x7, x8, x9, y0, y1, y2, y3, y4, y5, y6, y7, none] (ss.map (fE false f)) = .ok (ss.map fun s => T.str (zI f s)) := by
  intro x0 x1 x2 x3 x4 x5 x6 x7 x8 x9 y0 y1 y2 y3 y4 y5 y6 y7
  exact eW fun s hs => cb6 (sok s hs).c8 f rfl
 have eqt := cs5 true true (zI f) ss
 obtain ⟨a, ha⟩ : ∃ a, ns.getD 1 0 / 2 % ((ss.length : Int) + 1) = a := ⟨_, rfl⟩
 obtain ⟨A, hA⟩ : ∃ A, eK ss none (some a) = A := ⟨_, rfl⟩
 obtain ⟨B, hB⟩ : ∃ B, eK ss (some (a + 1)) none = B := ⟨_, rfl⟩
 have cA1 : eK (ss.map (iE false)) none (some a) = A.map (iE false) := by rw [sY, hA]
 have cB1 : eK (ss.map (iE false)) (some (a + 1)) none = B.map (iE false) := by rw [sY, hB]
 have cA2 : eK (ss.map (fE false f)) none (some a) = A.map (fE false f) := by rw [sY, hA]
 have cB2 : eK (ss.map (fE false f)) (some (a + 1)) none = B.map (fE false f) := by rw [sY, hB]
 have lA : A.length ≤ ss.length := by rw [← hA]; exact ah0 _ _ _
 have lB : B.length ≤ ss.length := by rw [← hB]; exact ah0 _ _ _
 have okA : ∀ s ∈ A, SdOk f s := fun s h => sok s (bz3 (by rw [hA]; exact h))
 have okB : ∀ s ∈ B, SdOk f s := fun s h => sok s (bz3 (by rw [hB]; exact h))
 have sok2 : ∀ s ∈ A ++ B, SdOk f s := fun s h => (List.mem_append.mp h).elim (okA s) (okB s)
 have k2 := ax0 g sok2 (by simp; omega)
 have c2 := uS (rJ f (A ++ B))
 have z2 := ad0 (rJ f (A ++ B))
 have nA1 := pF okA
 have nB1 := pF okB
 have nA2 := sG f A
 have nB2 := sG f B
 have zz1 := xB (f := f) false sok2
 have zz2 := tT false f (A ++ B)
 have aN : (ss.length : Int) + 1 ≠ 0 := by omega
 have h1 := fun ys yl => bv3 g sok (by omega) ys yl
 have h2 := fun ys yl => bv3 g sok2 (by simp; omega) ys yl
 have l1 : ∀ ys : List Int, ys.length = f.names.length → iI [.lst false (ys.map .int), .lst false (kZ f ss)] = .ok (.bl ((kZ f ss).all (kept ys))) := fun ys e => ar0 (by rw [e]; exact wX sok)
 have l2 : ∀ ys : List Int, ys.length = f.names.length → iI [.lst false (ys.map .int), .lst false (kZ f (A ++ B))] = .ok (.bl ((kZ f (A ++ B)).all (kept ys))) := fun ys e => ar0 (by rw [e]; exact wX sok2)
 rw [List.map_append] at k2 zz1 zz2
 simp only [List.map_append] at h2
 have ll0 : A.length + B.length ≤ sizeLine := by have := sizeLine_eq; omega
 have ll2 : ss.length ≤ 100000 := by omega
 have ct3 := sY T.int ns (some 18) (some 63)
 have ctl3 := ah0 ns (some 18) (some 63)
 have ll3 : (eK ns (some 18) (some 63)).length + (0 + 1 + 1) ≤ sizeLine := by have := sizeLine_eq; omega
 have ll4 : (eK ns (some 18) (some 63)).length + 2 ≤ sizeLine := by have := sizeLine_eq; omega
 generalize eK ns (some 18) (some 63) = C at *
 have nC := kS C
 have zC : frzs (C.map T.int ++ [.int 7, .int 0]) = C.map T.int ++ [.int 7, .int 0] := gC _ (by rw [oH]; simp [eI])
 have nC2 : bG (C.map T.int ++ [.int 7, .int 0]) = true := by rw [oH]; simp [eI]
 have yrs := fun c => bk2 g c hl
 clear sok sok2 okA okB hb sl ctl hhb g lA lB hA hB ctl3 hl
 generalize kZ f ss = S1 at *
 generalize kZ f (A ++ B) = S2 at *
 have fl1 := f2
 walk_at "ev"
 generalize hL : eT _ _ _ _ = o
 obtain ⟨ρ', rfl, o13, o14, o15, o16, o17, rfl⟩ := jQ (fun _ ρ => ∃ o13 o14 o15 o16 o17 : Option T, ρ = [some (.lst false (ns.map .int)), some (gB true f), some (.lst true ((eK ns (some 2) (some 18)).map .int)), some (.lst true (hid.map .int)), some (.lst true (ss.map (iE false))), some (dA true f), some (.lst true (ss.map (fE false f))), some (.lst true S1), some (.lst true (ss.map fun s => T.str (zI f s))), some (.int a), some (.lst true (A.map (fE false f) ++ B.map (fE false f))), some (.lst true S2), some (.int f.names.length), o13, o14, o15, o16, o17, none]) hL ⟨_, _, _, _, _, rfl⟩ (by
  rintro i t ρ et ⟨o13, o14, o15, o16, o17, rfl⟩
  have tm : ∃ c, t = .int c := by
   rcases List.mem_append.mp (List.mem_of_getElem? et) with q | q
   · obtain ⟨c, _, e⟩ := List.mem_map.mp q
     exact ⟨c, e.symm⟩
   · simp only [List.mem_cons, List.not_mem_nil, or_false] at q
     rcases q with e | e
     · exact ⟨7, e⟩
     · exact ⟨0, e⟩
  obtain ⟨c, rfl⟩ := tm
  obtain ⟨ys, ky, yl⟩ := yrs c
  have p1 := h1 ys yl
  have p2 := h2 ys yl
  have nes := cz4 true true ys
  have lly : ys.length ≤ 100000 := by omega
  have bt : (!((true : Bool) == true)) = false := rfl
  have bf : (!((false : Bool) == false)) = false := rfl
  by_cases D : ys.length = f.names.length
  · have q1 := l1 ys D
    have q2 := l2 ys D
    have tD : ((ys.length : Int) == (f.names.length : Int)) = true := by rw [D]; simp
    rw [decide_eq_true D, Bool.true_and] at p1 p2
    clear hL et D h1 h2 l1 l2 yrs hc eqt hf hh hs ka kh k1 k2 ha
    generalize S1.all (kept ys) = x1 at *
    generalize S2.all (kept ys) = x2 at *
    cases x1 <;> cases x2 <;> (walk_at "ev"; exact ⟨_, _, _, _, _, rfl⟩)
  · have tD : ((ys.length : Int) == (f.names.length : Int)) = false := by
     rw [beq_eq_false_iff_ne]
     omega
    rw [decide_eq_false D, Bool.false_and] at p1 p2
    clear hL et D h1 h2 l1 l2 yrs hc eqt hf hh hs ka kh k1 k2 ha
    walk_at "ev"
    exact ⟨_, _, _, _, _, rfl⟩)
 clear hL
 walk_at "ev"
end Nk22
namespace PySem.W.Fast
def tw15785542181369076900:=0
def tw14965438641896895715:=0
def tw16571720496710373758:=0
def tw11332986750882365425:=0
def tw6199108801617553896:=0
def tw10469430605941231776:=0
def tw13034030878607876040:=0
def tw12840097811145002262:=0
def tw16165988931260806217:=0
def tw17370858384745656692:=0
def tw88791506549702891:=0
def tw2244854700356471233:=0
def tw14972041413834842480:=0
def tw1921162094643853265:=0
def tw2672133349843096237:=0
def tw9673413392877375296:=0
def tw2796966400923468162:=0
def tw4960954517595883643:=0
def tw4416431342562583050:=0
def tw4574914076235978410:=0
def tw442254186136825458:=0
def tw1050513104106437360:=0
def tw14808971635404756272:=0
def tw1317319258763681696:=0
def tw7408230377684602885:=0
def tw3001164061717399956:=0
def tw5356464468548871335:=0
def tw3047104087533649379:=0
def tw2665288813471786195:=0
def tw1805261447825520607:=0
def tw17814651123925188399:=0
def tw17658431066703843674:=0
def tw10984249295784326736:=0
def tw15565116718085359880:=0
def tw11023301539080801345:=0
def tw2045511591773126170:=0
def tw10919297934447625776:=0
def tw16704164179190966492:=0
def tw11857587798029464232:=0
def tw3511342960495604586:=0
def tw3925388236317162799:=0
def tw12727445008366654507:=0
def tw12985611739780119503:=0
def tw2210936388176968758:=0
def tw11203967122248286234:=0
def tw13355211663835014954:=0
def tw16418105156903837752:=0
def tw16573957561665794351:=0
def tw7791537985847366076:=0
def tw11212733260420031589:=0
def tw6274732176464237335:=0
def tw16088846256213059543:=0
def tw13887216464117304885:=0
def tw722445508455007133:=0
def tw6194310892975161168:=0
def tw7582969642420219279:=0
def tw6832013267170383806:=0
def tw11133599731820658534:=0
def tw17844847998221922170:=0
def tw10993165015298275893:=0
def tw5083479040338491625:=0
def tw12172691497159677125:=0
def tw13302986504042189124:=0
def tw11409254494455765220:=0
def tw16188908460131720745:=0
def tw11175336495240618417:=0
def tw13139005276759490565:=0
def tw13184081426609895747:=0
def tw3464557827837521300:=0
def tw10427407584860832165:=0
def tw4099814562950963782:=0
def tw15072486534167350808:=0
def tw628391354800438200:=0
def tw4561882647205120245:=0
def tw590048836751822117:=0
def tw1877730344748668447:=0
def tw1101290597120965467:=0
def tw9366672479221816686:=0
def tw17720951758841173419:=0
def tw3792295063432254652:=0
def tw1681764385763469452:=0
def tw13096726114217634844:=0
def tw341001335875556864:=0
def tw10500567075196706277:=0
def tw9068190152498622313:=0
def tw16353718209447723517:=0
def tw613785116592088688:=0
def tw1074177363376695266:=0
def tw11229520585675828443:=0
def tw5880987769462067095:=0
def tw2759704611666913389:=0
def tw697384908776989979:=0
def tw9100204327778624807:=0
def tw13915624918499466604:=0
def tw15485814590432654253:=0
def tw10683520412898269249:=0
def tw8480616790583773132:=0
def tw9715218647946225802:=0
def tw15836152092066040819:=0
def tw11107986047032830669:=0
def tw11673530435112859259:=0
def tw30385389727873742:=0
def tw733909161320997228:=0
def tw10506445586706913276:=0
def tw2589787894656174291:=0
def tw11583866589768094807:=0
def tw16058308606456704466:=0
def tw15321931040819732880:=0
def tw5723908938814719440:=0
def tw17484401538430988216:=0
def tw8589675080250641868:=0
def tw10600010050413230563:=0
def tw9489694328674080766:=0
def tw11109762088766676674:=0
def tw10434521947262448075:=0
def tw3412681896082540493:=0
def tw3340225826858690388:=0
def tw12265842857578576819:=0
def tw6854402200559801741:=0
def tw12149834021520965563:=0
def tw9782218908834443766:=0
def tw8588035604487726266:=0
def tw2598633806651367477:=0
def tw14905538515042998020:=0
def tw6187584997016616931:=0
def tw40760296042472929:=0
def tw862942179794890289:=0
def tw12443769787693992286:=0
def tw17896486003379945384:=0
def tw13914849752194627679:=0
def tw18034592243809309334:=0
def tw2587589128258806204:=0
def tw9562052870146034147:=0
def tw9989345678736949997:=0
def tw5991705542909257736:=0
def tw7721436377362260110:=0
def tw12028534915437641960:=0
def tw1384805886039876233:=0
def tw16059801350847912420:=0
def tw675052579340489262:=0
def tw3293907434560939811:=0
def tw9680512648037791988:=0
def tw9247928890209088484:=0
def tw4174538890389639043:=0
def tw9901273507858393856:=0
def tw2201728561073269792:=0
def tw5476182496872755690:=0
def tw2137169115065539126:=0
def tw1039620527598045071:=0
def tw4315376360707393066:=0
def tw5914441473958693013:=0
def tw7233176800111335732:=0
def tw8540709010502228849:=0
def tw8028320929739001993:=0
def tw2843631350590978050:=0
def tw10102881529870284763:=0
def tw15787203499909083653:=0
def tw7837306603412340392:=0
def tw10010685145664917703:=0
def tw1626732633111163330:=0
def tw6449641893112823500:=0
def tw7417660692830024743:=0
def tw17721137727333579825:=0
def tw2533583800578077366:=0
def tw7154039787734032580:=0
def tw13531283893393487612:=0
def tw11557048562090286714:=0
def tw3446210833659978945:=0
def tw7469796827902617368:=0
def tw8011137155445671188:=0
def tw9612228892864728028:=0
def tw16719743824870628986:=0
def tw12344094687788117085:=0
def tw15782334213336977512:=0
def tw5976437555283016378:=0
def tw15912219667046207798:=0
def tw8777741595687457782:=0
def tw12605334337097717469:=0
def tw8343759403791433787:=0
def tw5336840480676550299:=0
def tw914909174233830585:=0
def tw1625984850771056022:=0
def tw4642588943991126076:=0
def tw8322162948873882759:=0
def tw836331334517404750:=0
def tw6298430686271163956:=0
def tw3244551323171909969:=0
def tw32784463334890114:=0
def tw5431713485784790599:=0
def tw5901539798761649198:=0
def tw6344347710806901557:=0
def tw11455492922551011956:=0
def tw7021190476282249503:=0
def tw16875611414902375032:=0
def tw8194286880741310663:=0
def tw3699903837083257845:=0
def tw17848979787940951462:=0
def tw10306878117443001934:=0
def tw8521993557035830268:=0
def tw13897425204981236885:=0
def tw9589717998498678246:=0
def tw2551629409979450122:=0
def tw10023917604267442355:=0
def tw17187028174178516085:=0
def tw18228480161782635133:=0
def tw10557464494689655584:=0
def tw7525161386480529875:=0
def tw6367469153213466227:=0
def tw7226220747196237330:=0
def tw13045149282179462940:=0
def tw7817069315854889616:=0
def tw16872156079108872848:=0
def tw14806064416341675252:=0
def tw16163195561280904538:=0
def tw480820683166439422:=0
def tw1376397005879115058:=0
def tw11134738251025138228:=0
def tw14831835688763319886:=0
def tw1469369051571293429:=0
def tw10456749949578690635:=0
def tw14942148391369759823:=0
def tw2805773511891601845:=0
def tw14184081879651045184:=0
def tw7019240045607647354:=0
def tw16276987033811091858:=0
def tw4630035617328308175:=0
def tw13915670795835706410:=0
def tw15502044877657504126:=0
def tw11078804243455690598:=0
def tw9771997620987469691:=0
def tw1205937326120773059:=0
def tw2407548855874797396:=0
def tw12931665250695330778:=0
def tw3224637593071105051:=0
def tw1129239885338456799:=0
def tw17362536301593525652:=0
def tw4871292011304491779:=0
def tw6286524037110093505:=0
def tw13783760011829673689:=0
def tw3763832055758973067:=0
def tw10386900730921141832:=0
def tw8716824262210947319:=0
def tw12375143945324925689:=0
def tw13790070743804994705:=0
def tw14008595669336466486:=0
def tw448604141661346154:=0
def tw17844107456814959035:=0
def tw8519988888585565806:=0
def tw15509777499254698932:=0
def tw6367250860975240603:=0
def tw17317649525840981686:=0
def tw1604166610980491715:=0
def tw7161945163587757386:=0
def tw10707845845611678012:=0
def tw1425640694719871998:=0
def tw452446492654110209:=0
def tw16110333208983452062:=0
def tw9982404573260748571:=0
def tw9477799762412472850:=0
def tw2508480766177392990:=0
def tw11917573280209723939:=0
def tw10444131049573444248:=0
def tw15471276428265186544:=0
def tw7688018390740266564:=0
def tw13106606756807794388:=0
def tw9596184544733135948:=0
def tw16927798559283561580:=0
def tw17577895988135304536:=0
def tw3752286833415064098:=0
def tw9423412546274999983:=0
def tw13541828074045436834:=0
def tw1035492498515301613:=0
def tw1262731454716759760:=0
def tw3251219932458080271:=0
def tw15417926524796291751:=0
def tw5129846964579148457:=0
def tw17593912220091158974:=0
def tw422739022547705001:=0
def tw14577491100259141411:=0
def tw10754121054202836874:=0
def tw16391085947848054474:=0
def tw9362126818852305099:=0
def tw6007394734188921774:=0
def tw1519401578953856583:=0
def tw12489645482235387669:=0
def tw9857750004497946310:=0
def tw41818034928293255:=0
def tw1148149211565041067:=0
def tw14907504563814859480:=0
def tw5267108751245190066:=0
def tw7267551785902447615:=0
def tw2948554669380376687:=0
def tw14176628087157923951:=0
def tw3685484928533237701:=0
def tw16117892828433903920:=0
def tw13506238503832319465:=0
def tw8197833229555049048:=0
def tw18132655851159190892:=0
def tw17497579298250337505:=0
def tw15902311269078538088:=0
def tw16094327566908531801:=0
def tw13965370008390752284:=0
def tw14703447317485445532:=0
def tw14266486223240188259:=0
def tw14396829301750974976:=0
def tw17915478489173568450:=0
def tw5863868866507724424:=0
def tw18417322492686585314:=0
def tw6107547746507836987:=0
def tw16705796058873698829:=0
def tw12022778838968867567:=0
def tw8938558445464954633:=0
def tw5603989098220378997:=0
def tw2490553355354154518:=0
def tw5957189008066565550:=0
def tw1307401409515486835:=0
def tw4223534316808591797:=0
def tw9062866167139508255:=0
def tw4993402859442145402:=0
def tw14069071252169993113:=0
def tw4099871009102520082:=0
def tw10399581388464218382:=0
def tw10768186229795767024:=0
def tw8462277493468992815:=0
def tw4796880285489996061:=0
def tw5441140866410221509:=0
def tw10787651207160113681:=0
def tw9394580185859202528:=0
def tw8019884406643589734:=0
def tw12623116674165182001:=0
def tw4012273464748214551:=0
def tw10278181672390200064:=0
def tw17860999497937882935:=0
def tw18010947740683717986:=0
def tw10210162411116523951:=0
def tw1513788887963201042:=0
def tw8958558904692182180:=0
def tw5289249828647731245:=0
def tw17732154526047534245:=0
def tw54448559713011386:=0
def tw12073182910262480195:=0
def tw15671624234462285236:=0
def tw10516214660424491146:=0
def tw16990364237595887:=0
def tw16932396661508275211:=0
def tw13436188337726308345:=0
def tw16258267952863169140:=0
def tw8639656822218828977:=0
def tw1288580030321789016:=0
def tw10230618626532269420:=0
def tw13204774560454388159:=0
def tw3085034432966996818:=0
def tw2189607444811153613:=0
def tw7288937417524965364:=0
def tw3572110578140037303:=0
def tw18346993815835853256:=0
def tw6365245675769953739:=0
def tw2206864494369183694:=0
def tw6932533401750030814:=0
def tw1177247437708310132:=0
def tw13805558299021880949:=0
def tw1830527344695759036:=0
def tw2062371188693275879:=0
def tw14267768069323261910:=0
def tw453092900504250886:=0
def tw8400454148345374743:=0
def tw12211989091208365608:=0
def tw17933651240639539863:=0
def tw6891734610466596323:=0
def tw10543233597023177784:=0
def tw12201503170637562357:=0
def tw7562660114324617501:=0
def tw16670162472966518801:=0
def tw7200430557950156945:=0
def tw6361221083276768178:=0
def tw7473497389848993219:=0
def tw3812152818152508067:=0
def tw16176052916006105758:=0
def tw4130995897470387333:=0
def tw17013240293617995971:=0
def tw13768904611603931019:=0
def tw3886313224765603629:=0
def tw17085154628189418814:=0
def tw14241487949217095847:=0
def tw17329359276347797277:=0
def tw7385782672890805096:=0
def tw18059208417692159074:=0
def tw6648158753833549898:=0
def tw3216481414388120079:=0
def tw11266369996539288140:=0
def tw14506778357329564229:=0
def tw15662012799256639185:=0
def tw2607090215672523838:=0
def tw8999034366912398914:=0
def tw12305258244333193262:=0
def tw11835716806379777498:=0
def tw5160502893285508753:=0
def tw14360675236399665422:=0
def tw2236922536556783461:=0
def tw15061609847333066045:=0
def tw17666705840467126165:=0
def tw4929646054378634653:=0
def tw10749512317359954229:=0
def tw9615352329834235770:=0
def tw16098873517824458657:=0
def tw8892996882838941166:=0
def tw8744567957807321409:=0
def tw8455938773181080506:=0
def tw9902595209026722742:=0
def tw16487739532689162373:=0
def tw17915200540770983727:=0
def tw2029671553675984415:=0
def tw16980847413710205167:=0
def tw17138928352850194112:=0
def tw3394917073033392777:=0
def tw11868563808676635310:=0
def tw13218433875845559899:=0
def tw8677862915781947360:=0
def tw12294610858058534548:=0
def tw11278987697036328286:=0
def tw17193493141249017804:=0
def tw13644815753354223185:=0
def tw17420848024777636837:=0
def tw10585156404271419147:=0
def tw829985229388113367:=0
def tw16725620867165531061:=0
def tw4370472578407415386:=0
def tw10934646932274964480:=0
def tw12295871818390066968:=0
def tw6122026966135758225:=0
def tw9282945900736484907:=0
def tw16781534948648303158:=0
def tw1881636642355460467:=0
def tw15776397432381556107:=0
def tw1970836555927603341:=0
def tw11168031985081133346:=0
def tw1110469960916322401:=0
def tw8072554180040009883:=0
def tw1754055665566505185:=0
def tw4866691857631080736:=0
def tw10173469857167472100:=0
def tw2508949425886281893:=0
def tw9881384548256681900:=0
def tw1659561196991393602:=0
def tw13475112975683392774:=0
def tw17615320942894570430:=0
def tw16369582293718854527:=0
def tw586107510002937428:=0
def tw14717677259003372473:=0
def tw10245161206195846522:=0
def tw6296929200181319979:=0
def tw17366613482228928475:=0
def tw8614799683808172409:=0
def tw3056861604515669416:=0
def tw14365949970922318534:=0
def tw4848334453814125615:=0
def tw14365169772368465131:=0
def tw3175325989993386077:=0
def tw6532045544085828491:=0
def tw9362590865046324732:=0
def tw14255345642384357791:=0
def tw7337233065187408274:=0
def tw7831329616725798841:=0
def tw2070553209021103858:=0
def tw15649447303218344638:=0
def tw10328863704443233838:=0
def tw11279198918588150481:=0
def tw6463045096669157187:=0
def tw5520968253703400390:=0
def tw10649249592374151086:=0
def tw9222027902577384281:=0
def tw1759195718001523222:=0
def tw13545748951327386400:=0
def tw9452963527602964915:=0
def tw3562976438034449853:=0
def tw8543074971760288460:=0
def tw1902980812679462672:=0
def tw9680546629292416976:=0
def tw9777415562106998447:=0
def tw3304965401101790544:=0
def tw8286024409564381173:=0
def tw15837920317644873894:=0
def tw8962532939043715952:=0
def tw3591493481248947473:=0
def tw5375545019787449807:=0
def tw15963590712264860854:=0
def tw15960093084528281811:=0
def tw17055707134255847794:=0
def tw7793816163501733076:=0
def tw3313002676607888687:=0
def tw16234542051830693397:=0
def tw9420111073439599182:=0
def tw2364849633326726731:=0
def tw8289366254820266147:=0
def tw743728384172207696:=0
def tw5210336834855069184:=0
def tw5257748448674268919:=0
def tw12219836747724109679:=0
def tw4800196300577665320:=0
def tw12889902902693270982:=0
def tw3495520540266817802:=0
def tw3428737462241630077:=0
def tw17826268919048852611:=0
def tw3008454298063291138:=0
def tw2252366099491938380:=0
def tw8820321546722357704:=0
def tw18003223159206628958:=0
def tw5733714627272025286:=0
def tw12681148297053371139:=0
def tw4891574221614795691:=0
def tw4790379888946161989:=0
def tw4954505410441244690:=0
def tw9794870333989971986:=0
def tw3392771482361187013:=0
def tw773191321861739234:=0
def tw10273328760744564933:=0
def tw6375575177200154760:=0
def tw6994174122540924826:=0
def tw11355331662205690798:=0
def tw3884350270315090209:=0
def tw12861089955621948633:=0
def tw14125794117484737950:=0
def tw7355539889417456648:=0
def tw9197965572155812034:=0
def tw105251559685049056:=0
def tw16899259206194668885:=0
def tw15846381233814294769:=0
def tw7408105268641494954:=0
def tw2539197702717552890:=0
def tw17553695580430448716:=0
def tw9689639291054434760:=0
def tw14737805373981044419:=0
def tw5068109839262112235:=0
def tw8711940616028996307:=0
def tw7263722559939683534:=0
def tw14062083630155572505:=0
def tw11985429554534375005:=0
def tw15482915406297956102:=0
end PySem.W.Fast
open PySem PySem.W PyProof.Rows
set_option maxRecDepth 100000 in
set_option maxHeartbeats 0 in
theorem PySem.Challenge.cw_inkyears_k22_what_datings_are_holds : PySem.Challenge.rw_inkyears_k22_what_datings_are.Holds := by
 w_on; o_law; k_head; (case hw => w_witness2)
 k_fill
 refine L2.cj2 (l := PySem.Challenge.rw_inkyears_k22_what_datings_are) (k := 8) (x := "_law_script") rfl rfl ⟨rfl, by decide, by decide⟩ (fun w h Y => PySem.W.kIn_of Y) ?F
 case F =>
  intro w mg fa h KX G hmg
  refine' Nk22.di2 (cn := fun x => [(("Archive" : Str), ?c_Archive), (("Ink" : Str), ?c_Ink), (("Reign" : Str), ?c_Reign), (("Under" : Str), ?c_Under), (("Between" : Str), ?c_Between), (("After" : Str), ?c_After), (("Same" : Str), ?c_Same), (("Within" : Str), ?c_Within), (("Apart" : Str), ?c_Apart)].lookup x) (c_Archive := ?c_Archive) (c_Ink := ?c_Ink) (c_Reign := ?c_Reign) (c_Under := ?c_Under) (c_Between := ?c_Between) (c_After := ?c_After) (c_Same := ?c_Same) (c_Within := ?c_Within) (c_Apart := ?c_Apart) KX G hmg ?a0 ?l0 ?c0 ?k0 ⟨?T0, ?T1, ?T2, ?T3, ?T4, ?T5, ?T6, ?T7, ?T8, ?T9, ?T10, ?T11, ?T12, ?T13, ?T14, ?T15, ?T16, ?T17, ?T18, ?T19, ?T20, ?T21, ?T22, ?T23, ?T24, ?T25, ?T26, ?T27, ?T28, ?T29, ?T30, ?T31, ?T32, ?T33, ?T34, ?T35, ?T36, ?T37, ?T38, ?T39, ?T40, ?T41, ?T42, ?T43, ?T44, ?T45, ?T46, ?T47, ?T48, ?T49, ?T50, ?T51, ?T52, ?T53, ?T54, ?T55, ?T56, ?T57, ?T58, ?T59, ?T60, ?T61, ?T62, ?T63, ?T64, ?T65, ?T66, ?T67, ?T68, ?T69, ?T70, ?T71, ?T72, ?T73, ?T74, ?T75, ?T76, ?T77, ?T78, ?T79, ?T80, ?T81, ?T82, ?T83, ?T84⟩ ?t0 ?t1 ?t2 ?t3 ?t4 ?t5 ?t6 ?t7 ?t8 ?t9 ?t10 ?t11 ?t12 ?t13 ?t14 ?t15 ?t16 ?t17 ?t18 ?t19 ?t20 ?t21 ?t22 ?t23 ?t24 ?t25 ?t26 ?t27 ?t28 ?t29 ?t30 ?t31 ?t32 ?t33 ?t34 ?t35 ?t36 ?t37 ?t38 ?t39 ?t40 ?t41 ?t42 ?t43 ?t44 ?t45 ?t46 ?t47 ?t48 ?t49 ?t50 ?t51 ?t52 ?t53 ?t54 ?t55 ?t56 ?t57 ?t58 ?t59 ?t60 ?t61 ?t62 ?t63 ?t64 ?t65 ?t66 ?t67 ?t68 ?t69 ?t70 ?t71 ?t72 ?t73 ?t74 ?t75 ?t76 ?t77 ?t78 ?t79 ?t80 ?t81 ?t82 ?t83 ?t84 ?t85 ?t86 ?t87 Nk22.main
  (case a0 => k_is); (case l0 => k_is); (case c0 => k_is); (case k0 => k_is)
  all_goals try (refine' L2.cm8 KX G ?a ?l ?c ?k; (case a => k_is); (case l => k_is); (case c => k_is); (case k => k_is))
  all_goals try (refine' L2.cu6 KX G ?g ?mk ?a ?b ?kc ?l ?c ?k; (case g => k_is); (case mk => k_is); (case a => k_is); (case b => k_is); (case kc => k_is); (case l => k_is); (case c => k_is); (case k => k_is))
  all_goals try (refine' L2.cw7 ?a ?b ?l ?c ?k; (case a => k_is); (case b => k_is); (case l => k_is); (case c => k_is); (case k => k_is))
  case t79 => (refine' L2.an5 KX G ?g ?l ?r ?nd ?sm; (case g => k_is); (case l => k_is); (case r => exact .cons (.cons (.cons (.cons (.cons (.cons (.cons (.cons (.nil))))))))); (case nd => decide +kernel); (case sm => rfl))
  case t80 => exact L2.uU KX G (by k_is) rfl
  case t81 => exact L2.uU KX G (by k_is) rfl
  case t82 => exact L2.uU KX G (by k_is) rfl
  case t83 => exact L2.uU KX G (by k_is) rfl
  case t84 => exact L2.uU KX G (by k_is) rfl
  case t85 => exact L2.uU KX G (by k_is) rfl
  case t86 => exact L2.uU KX G (by k_is) rfl
  case t87 => exact L2.uU KX G (by k_is) rfl
  all_goals try exact PySem.W.mg_none_of KX G (by k_is)
  all_goals try (refine' L2.cj9 KX G ?a ?r; (case a => k_is); (case r => exact ⟨_, rfl⟩))
  case T26 => (refine' L2.an5 KX G ?g ?l ?r ?nd ?sm; (case g => k_is); (case l => k_is); (case r => exact .cons (.cons (.cons (.cons (.cons (.nil)))))); (case nd => decide +kernel); (case sm => rfl))
  case T27 => exact .cons (TL.jR (by k_is) (.int (.int .nil)) (by decide)) (.cons (TL.jR (by k_is) (.int (.int .nil)) (by decide)) (.cons (TL.jR (by k_is) (.int (.int .nil)) (by decide)) (.cons (TL.jR (by k_is) (.int (.int .nil)) (by decide)) (.cons (TL.jR (by k_is) (.int (.int .nil)) (by decide)) (.nil)))))
  case T28 => (refine' L2.an5 KX G ?g ?l ?r ?nd ?sm; (case g => k_is); (case l => k_is); (case r => exact .cons (.cons (.cons (.cons (.cons (.cons (.cons (.cons (.nil))))))))); (case nd => decide +kernel); (case sm => rfl))
  case T29 => exact .cons (TL.jR (by k_is) (.str (.str (.str (.str .nil)))) (by decide)) (.cons (TL.jR (by k_is) (.str (.str (.str .nil))) (by decide)) (.cons (TL.jR (by k_is) (.str (.str .nil)) (by decide)) (.cons (TL.jR (by k_is) (.str (.str (.str .nil))) (by decide)) (.cons (TL.jR (by k_is) (.str (.str .nil)) (by decide)) (.cons (TL.jR (by k_is) (.str (.str .nil)) (by decide)) (.cons (TL.jR (by k_is) (.str (.str (.str .nil))) (by decide)) (.cons (TL.jR (by k_is) (.str (.str (.str (.str .nil)))) (by decide)) (.nil))))))))
  case T30 => rfl
  all_goals try (refine' L2.ci9 ?a ?b ?c ?d; (case a => k_is); (case b => k_is); (case c => k_is); (case d => k_is))
  case T32 => rfl
  case T34 => rfl
  case T36 => rfl
  case T38 => rfl
  case T40 => rfl
  case T42 => rfl
  case T44 => rfl
  case T46 => rfl
  all_goals try exact L2.dj4 (by k_is)

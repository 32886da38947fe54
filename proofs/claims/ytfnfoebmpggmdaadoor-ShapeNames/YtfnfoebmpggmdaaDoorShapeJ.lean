/-
  Shape: the document's list of names, and its Name.
-/
import Derived.Test.YtfnfoebmpggmdaaDoorShapeI
import Derived.Maps.AppendAt
namespace Go.Proofs.YtfnfoebmpggmdaaDoor
open Go.RowKit
set_option linter.unusedVariables false
set_option linter.unusedSimpArgs false
set_option linter.unnecessarySimpa false
set_option maxRecDepth 20000
namespace Shape

theorem own_slice {w : World} {base : Nat} {e : TypeId} {size : Nat} {v : Value} {n : Nat} {xs : List Value} (h : w.ownsRow base e size v n xs) : ∃ ao cp, v = .slice ao n cp := by
  obtain ⟨hl, ⟨rfl, rfl⟩ | ⟨g, cap, cur, rfl, _⟩⟩ := h
  · exact ⟨_, _, rfl⟩
  · exact ⟨_, _, rfl⟩
theorem owns_keep {w w' : World} {base : Nat} {e : TypeId} {size : Nat} {v : Value} {n : Nat} {xs : List Value} (h : w.ownsRow base e size v n xs) (hb : Below w.heap.size w w') : w'.ownsRow base e size v n xs := by
  obtain ⟨hl, h | ⟨g, cap, cur, rfl, hb', hg, hc, hm, hs, ht⟩⟩ := h
  · exact ⟨hl, .inl h⟩
  · refine ⟨hl, .inr ⟨g, cap, cur, rfl, hb', ?_, hc, hm, hs, ht⟩⟩
    rw [hb.block g ?_]
    · exact hg
    · rcases Nat.lt_or_ge g w.heap.size with l | l
      · exact l
      · rw [Array.getElem?_eq_none l] at hg
        cases hg
/-- The names of the first m words. -/
def nl (x : Sh) (m : Nat) : List Value := (List.range m).map fun a => Value.string ⟨(nm x a).toArray⟩
theorem nl_len (x : Sh) (m : Nat) : (nl x m).length = m := by simp [nl]
theorem nl_more (x : Sh) (m : Nat) : nl x (m + 1) = nl x m ++ [.string ⟨(nm x m).toArray⟩] := by simp [nl, List.range_succ]
theorem nl_get (x : Sh) {m a : Nat} (h : a < m) : (nl x m)[a]? = some (.string ⟨(nm x a).toArray⟩) := by simp [nl, h]
theorem infoS : ∃ i z, Tryd.prog.info? 9 = some i ∧ i.zero = some z ∧ i.size = 1 ∧ i.bytes = 16 ∧ z.cells.size = 1 := by
  have h : (Tryd.prog.info? 9).map (fun i => (i.zero.map Value.cells, i.size, i.bytes)) = some (some #[.string ⟨#[]⟩], 1, 16) := by kernel_rfl
  obtain ⟨i, hi, h2⟩ := Option.map_eq_some_iff.1 h
  simp only [Prod.mk.injEq] at h2
  obtain ⟨z, hz, hc⟩ := Option.map_eq_some_iff.1 h2.1
  exact ⟨i, z, hi, hz, h2.2.1, h2.2.2, by rw [hc]; rfl⟩


theorem grown_on {base : Nat} {W0 wr w1 w2 : World} {v : Value} {ob : Obj} {e : TypeId} {n : Nat} {xs : List Value} (HB : Below base W0 wr) (hb : base ≤ wr.heap.size) (H1 : Below wr.heap.size wr w1) (HO : wr.ownsRow base e 1 v n xs) (G : (w1.alloc ob).grownBy w2 v.ownBlock) : Below base W0 w2 := by
  have HA : Below base W0 (w1.alloc ob) := (HB.trans (H1.mono hb)).alloc (Nat.le_trans hb H1.size) ob
  refine ⟨G.os.trans HA.os, G.tape.trans HA.tape, G.output.trans HA.output, Nat.le_trans HA.size G.size, fun k hk => ?_⟩
  have hk' : k < (w1.alloc ob).heap.size := by have := H1.size; simp; omega
  refine (G.block k hk' (fun e => ?_)).trans (HA.block k hk)
  have := (HO.lt k e.symm).1
  omega

theorem nm_ack {x : Sh} {i : Nat} (hi : i < x.h) : nm x (8 + i) = [97, 99, 107, 32] ++ Lib.decDigits i := by
  unfold nm word
  rw [if_neg (by omega), if_pos (by unfold bR; omega), show 8 + i - 8 = i by omega]
  simp [render, tail]
theorem nm_root {x : Sh} {i j : Nat} (hi : i < x.h) (hj : j < x.r) : nm x (bR x + i * x.r + j) = [114, 111, 111, 116, 32] ++ Lib.decDigits i ++ [32] ++ Lib.decDigits j := by
  have hlt : i * x.r + j < x.h * x.r := by
    have : (i + 1) * x.r ≤ x.h * x.r := Nat.mul_le_mul_right _ hi
    rw [Nat.add_mul] at this
    omega
  have e1 : (i * x.r + j) / x.r = i := by rw [Nat.mul_comm, Nat.mul_add_div (by omega), Nat.div_eq_of_lt hj, Nat.add_zero]
  have e2 : (i * x.r + j) % x.r = j := by rw [Nat.mul_comm, Nat.mul_add_mod, Nat.mod_eq_of_lt hj]
  unfold nm word
  rw [if_neg (by unfold bR; omega), if_neg (by omega), if_pos (by unfold bK; omega), show bR x + i * x.r + j - bR x = i * x.r + j by omega, e1, e2]
  simp [render, tail]
theorem nm_weak {x : Sh} {i : Nat} (hi : i < x.k) : nm x (bK x + i) = [119, 101, 97, 107, 32] ++ Lib.decDigits i := by
  unfold nm word
  rw [if_neg (by unfold bK bR; omega), if_neg (by unfold bK; omega), if_neg (by omega), if_pos (by unfold bO; omega), show bK x + i - bK x = i by omega]
  simp [render, tail]
theorem nm_obj {x : Sh} {i q : Nat} (hq : q < ow x) : nm x (bO x + i * ow x + q) = render (oword (i + 1) q) := by
  have e1 : (i * ow x + q) / ow x = i := by rw [Nat.mul_comm, Nat.mul_add_div (by omega), Nat.div_eq_of_lt hq, Nat.add_zero]
  have e2 : (i * ow x + q) % ow x = q := by rw [Nat.mul_comm, Nat.mul_add_mod, Nat.mod_eq_of_lt hq]
  unfold nm word
  rw [if_neg (by unfold bO bK bR; omega), if_neg (by unfold bO bK; omega), if_neg (by unfold bO; omega), if_neg (by omega), show bO x + i * ow x + q - bO x = i * ow x + q by omega, e1, e2]
theorem nm_head {x : Sh} (i : Nat) : nm x (bO x + i * ow x) = [104, 101, 97, 100, 32] ++ Lib.decDigits (i + 1) := by
  have := nm_obj (x := x) (i := i) (q := 0) (by unfold ow; omega)
  rw [Nat.add_zero] at this
  rw [this]; simp [oword, render, tail]
theorem nm_link {x : Sh} (i : Nat) : nm x (bO x + i * ow x + 1) = [108, 105, 110, 107, 32] ++ Lib.decDigits (i + 1) := by
  rw [nm_obj (x := x) (i := i) (q := 1) (by unfold ow; omega)]; simp [oword, render, tail]
theorem nm_next {x : Sh} (i : Nat) : nm x (bO x + i * ow x + 2) = [110, 101, 120, 116, 32] ++ Lib.decDigits (i + 1) := by
  rw [nm_obj (x := x) (i := i) (q := 2) (by unfold ow; omega)]; simp [oword, render, tail]
theorem nm_slot {x : Sh} (i : Nat) {j : Nat} (hj : j < x.s) : nm x (bO x + i * ow x + 3 + j) = [115, 108, 111, 116, 32] ++ Lib.decDigits (i + 1) ++ [32] ++ Lib.decDigits j := by
  have := nm_obj (x := x) (i := i) (q := 3 + j) (by unfold ow; omega)
  rw [← Nat.add_assoc] at this
  rw [this]
  unfold oword
  rw [if_neg (by omega), if_neg (by omega), if_neg (by omega), show 3 + j - 3 = j by omega]
  simp [render, tail]

/-- A number's text, as a letter. -/
theorem txt (i : Nat) (h : i < 100) : ∃ D : ByteArray, (⟨(Lib.decDigits i).toArray⟩ : ByteArray) = D ∧ D.size ≤ 2 := ⟨_, rfl, by have := dd_len i h; simpa [ByteArray.size] using this⟩
theorem cat1 (p : List UInt8) {D : ByteArray} {i : Nat} (h : (⟨(Lib.decDigits i).toArray⟩ : ByteArray) = D) : (⟨p.toArray⟩ : ByteArray) ++ D = ⟨(p ++ Lib.decDigits i).toArray⟩ := by rw [← h, ByteArray.mk_append_mk]
theorem cat2 (p : List UInt8) {D E : ByteArray} {i j : Nat} (h : (⟨(Lib.decDigits i).toArray⟩ : ByteArray) = D) (h' : (⟨(Lib.decDigits j).toArray⟩ : ByteArray) = E) : (⟨p.toArray⟩ : ByteArray) ++ D ++ ⟨#[32]⟩ ++ E = ⟨(p ++ Lib.decDigits i ++ [32] ++ Lib.decDigits j).toArray⟩ := by
  rw [← h, ← h', show (⟨#[32]⟩ : ByteArray) = ⟨([32] : List UInt8).toArray⟩ from rfl, ByteArray.mk_append_mk, ByteArray.mk_append_mk, ByteArray.mk_append_mk]
theorem one_str (u : List Value) (h : ∀ v ∈ u, ∃ b, v = Value.string b) : ∀ v ∈ u, v.oneCell' = true := fun v hv => by obtain ⟨b, rfl⟩ := h v hv; rfl
end Shape
end Go.Proofs.YtfnfoebmpggmdaaDoor

/-
  A memory of words in the model's heap: what stays of it, and what each of its acts does, for every memory and every act.
-/
import Derived.Test.YtfggjnjndemipaaLeaf
namespace Go.Proofs.Ytfggjnjndemipaa
open Go.RowKit
set_option linter.unusedVariables false
set_option linter.unusedSimpArgs false

theorem hide {p : Prop} (h : p) : Hid p := h

/-- An act as it is told, or the step that it made. -/
structure Stp where
  hand : Int
  act : Int
  at_ : Int
  had : Int
  put : Int
  ok : Bool

instance : Inhabited Stp := ⟨⟨0, 0, 0, 0, 0, false⟩⟩

def Stp.val (s : Stp) : Value := .agg #[.int .i64 s.hand, .int .i64 s.act, .int .i64 s.at_, .int .u64 s.had, .int .u64 s.put, .bool s.ok]
/-- cell j of its six. -/
def Stp.cell (s : Stp) (j : Nat) : Value := match j with | 0 => .int .i64 s.hand | 1 => .int .i64 s.act | 2 => .int .i64 s.at_ | 3 => .int .u64 s.had | 4 => .int .u64 s.put | _ => .bool s.ok
def Stp.wf (s : Stp) : Prop := (0 ≤ s.had ∧ s.had ≤ 18446744073709551615) ∧ (0 ≤ s.put ∧ s.put ≤ 18446744073709551615)

def actOf (a : Int) : Int := if a < 1 ∨ 5 < a then 1 else a
def putBy (a had old v : Int) : Int := if a = 2 ∨ a = 3 then v else if a = 4 then (had + v) % 18446744073709551616 else if a = 5 then (if had = old then v else had) else had
/-- The document's step of an act on n words f. -/
def stepOf (n : Nat) (f : Nat → Int) (s : Stp) : Stp :=
  if 0 ≤ s.at_ ∧ s.at_ < n then ⟨s.hand, actOf s.act, s.at_, f s.at_.toNat, putBy (actOf s.act) (f s.at_.toNat) s.had s.put, !(decide (actOf s.act = 5) && decide (f s.at_.toNat ≠ s.had))⟩
  else ⟨s.hand, actOf s.act, s.at_, 0, 0, decide (actOf s.act ≠ 5)⟩
def putF (f : Nat → Int) (k : Nat) (v : Int) : Nat → Int := fun j => if j = k then v else f j
/-- The words behind it. -/
def wordsOf (n : Nat) (f : Nat → Int) (s : Stp) : Nat → Int :=
  if 0 ≤ s.at_ ∧ s.at_ < n then putF f s.at_.toNat (stepOf n f s).put else f

theorem putBy_bounds {a had old v : Int} (h : 0 ≤ had ∧ had ≤ 18446744073709551615) (hv : 0 ≤ v ∧ v ≤ 18446744073709551615) : 0 ≤ putBy a had old v ∧ putBy a had old v ≤ 18446744073709551615 := by
  unfold putBy; split
  · exact hv
  · split
    · omega
    · split
      · split <;> assumption
      · exact h

theorem putF_self {f : Nat → Int} (k : Nat) : putF f k (f k) = f := by
  funext j; unfold putF; split
  · subst_vars; rfl
  · rfl

theorem grown_refl (w : World) (r : Option Nat) : w.grownBy w r := ⟨rfl, rfl, rfl, Nat.le_refl _, fun _ _ _ => rfl⟩
theorem grown_alloc {w w' : World} {r : Option Nat} (h : w.grownBy w' r) (o : Obj) : w.grownBy (w'.alloc o) r :=
  ⟨h.os, h.tape, h.output, by have := h.size; simp; omega, fun k hk hr => (Below.heap_alloc _ _ _ (Nat.lt_of_lt_of_le hk h.size)).trans (h.block k hk hr)⟩
theorem grown_drew {w w' : World} {r : Option Nat} (h : w.grownBy w' r) : w.grownBy w'.drew r := ⟨h.os, h.tape, h.output, h.size, h.block⟩
theorem grown_setCell {w w' : World} {r : Option Nat} (h : w.grownBy w' r) (a : Addr) (ha : some a.block = r ∨ w.heap.size ≤ a.block) (u : Value) : w.grownBy (w'.setCell a u) r :=
  ⟨h.os, h.tape, h.output, by have := h.size; simp; omega, fun k hk hr => (Below.heap_setCell _ _ _ _ (by rintro rfl; rcases ha with ha | ha; exact hr ha; omega)).trans (h.block k hk hr)⟩
theorem grown_trans {a b c : World} {r : Option Nat} (h : a.grownBy b r) (k : b.grownBy c r) : a.grownBy c r :=
  ⟨k.os.trans h.os, k.tape.trans h.tape, k.output.trans h.output, Nat.le_trans h.size k.size, fun i hi hr => (k.block i (Nat.lt_of_lt_of_le hi h.size) hr).trans (h.block i hi hr)⟩
theorem grown_none {a b : World} (h : a.grownBy b none) (r : Option Nat) : a.grownBy b r := ⟨h.os, h.tape, h.output, h.size, fun i hi _ => h.block i hi (by simp)⟩
theorem grown_below {a b : World} {r : Nat} {B : Nat} (h : a.grownBy b (some r)) (hB : B ≤ a.heap.size) (hr : B ≤ r) : Below B a b :=
  ⟨h.os, h.tape, h.output, h.size, fun k hk => h.block k (by omega) (by simp; omega)⟩
theorem below_grown {a b : World} (h : Below a.heap.size a b) (r : Option Nat) : a.grownBy b r := ⟨h.os, h.tape, h.output, h.size, fun k hk _ => h.block k hk⟩

namespace IsMem
variable {w w' : World} {bm bw n : Nat} {f : Nat → Int}
theorem ne (h : IsMem w bm bw n f) : bm ≠ bw := by
  rintro rfl
  obtain ⟨c, h1, _⟩ := h.head
  obtain ⟨c', h2, _⟩ := h.row
  rw [h1] at h2; cases h2
theorem alloc (h : IsMem w bm bw n f) (o : Obj) : IsMem (w.alloc o) bm bw n f := ⟨h.head.alloc o, h.row.alloc o, h.most, h.word⟩
theorem drew (h : IsMem w bm bw n f) : IsMem w.drew bm bw n f := ⟨h.head.drew, h.row.drew, h.most, h.word⟩
theorem set (h : IsMem w bm bw n f) (k : Nat) (v : Int) (hv : 0 ≤ v ∧ v ≤ 18446744073709551615) : IsMem (w.setCell ⟨bw, k, none⟩ (.int .u64 v)) bm bw n (putF f k v) :=
  ⟨h.head.setOther h.ne _, (h.row.set k _).congr (fun i _ => by unfold putF; split <;> rfl), h.most, fun i hi => by unfold putF; split; exact hv; exact h.word i hi⟩
theorem setOther (h : IsMem w bm bw n f) {a : Addr} (h1 : bm ≠ a.block) (h2 : bw ≠ a.block) (v : Value) : IsMem (w.setCell a v) bm bw n f :=
  ⟨h.head.setOther h1 _, h.row.setOther h2 _, h.most, h.word⟩
theorem grown {r : Option Nat} (h : IsMem w bm bw n f) (hg : w.grownBy w' r) (h1 : some bm ≠ r) (h2 : some bw ≠ r) : IsMem w' bm bw n f :=
  ⟨h.head.of_block (hg.block _ h.head.lt h1), h.row.of_block (hg.block _ h.row.lt h2), h.most, h.word⟩
theorem below (h : IsMem w bm bw n f) (hg : Below w.heap.size w w') : IsMem w' bm bw n f :=
  ⟨h.head.of_block (hg.block _ h.head.lt), h.row.of_block (hg.block _ h.row.lt), h.most, h.word⟩
theorem congr {g : Nat → Int} (h : IsMem w bm bw n f) (e : ∀ i, i < n → f i = g i) : IsMem w bm bw n g :=
  ⟨h.head, h.row.congr (fun i hi => by rw [e i hi]), h.most, fun i hi => by rw [← e i hi]; exact h.word i hi⟩
end IsMem

/-! The acts, each by its own method. -/
section
variable {w : World} {bm bw n : Nat} {f : Nat → Int}

theorem load_mem (hm : IsMem w bm bw n f) (at_ : Int) :
    Calls Try.prog 22 #[.pointer (some ⟨bm, 0, none⟩), .int .i64 at_] w fun e w' => e = .returned (.int .u64 (if 0 ≤ at_ ∧ at_ < n then f at_.toNat else 0)) ∧ w' = w := by
  by_cases h : 0 ≤ at_ ∧ at_ < n
  · obtain ⟨k, rfl⟩ : ∃ k : Nat, at_ = k := ⟨at_.toNat, by omega⟩
    have hk : k < n := by omega
    have hc := hm.head.cell (i := 0) (by omega)
    have hcw := hm.row.cell hk
    go_enter Try.func22, Try.ntmps22
    go_wp2_with (first | (go_at_call 26; refine (has_mem hm _).mono ?_; rintro e w' ⟨rfl, rfl⟩) | (go_at_call 30; refine (word_load _ _ _ _ hcw).mono ?_; rintro e w' ⟨rfl, rfl⟩))
    go_ret
    exact ⟨by simp [hk], rfl⟩
  · go_enter Try.func22, Try.ntmps22
    go_wp2_with (go_at_call 26; refine (has_mem hm _).mono ?_; rintro e w' ⟨rfl, rfl⟩)
    all_goals go_ret
    all_goals exact ⟨by simp [h], rfl⟩

theorem store_mem (hm : IsMem w bm bw n f) (at_ v : Int) (hv : 0 ≤ v ∧ v ≤ 18446744073709551615) :
    Calls Try.prog 31 #[.pointer (some ⟨bm, 0, none⟩), .int .i64 at_, .int .u64 v] w fun e w' => e = .returned (.tuple #[]) ∧ IsMem w' bm bw n (if 0 ≤ at_ ∧ at_ < n then putF f at_.toNat v else f) ∧ w.grownBy w' (some bw) := by
  by_cases h : 0 ≤ at_ ∧ at_ < n
  · obtain ⟨k, rfl⟩ : ∃ k : Nat, at_ = k := ⟨at_.toNat, by omega⟩
    have hk : k < n := by omega
    have hc := hm.head.cell (i := 0) (by omega)
    have hcw := hm.row.cell hk
    have hfz := hm.row.frozen k
    have fin : IsMem (w.setCell ⟨bw, k, none⟩ (.int .u64 v)) bm bw n (if (0 : Int) ≤ (k : Int) ∧ (k : Int) < n then putF f (k : Int).toNat v else f) ∧ w.grownBy (w.setCell ⟨bw, k, none⟩ (.int .u64 v)) (some bw) :=
      ⟨by rw [if_pos h]; exact hm.set k v hv, grown_setCell (grown_refl _ _) _ (.inl rfl) _⟩
    have FIN := hide fin
    clear fin
    go_enter Try.func31, Try.ntmps31
    go_wp2_with (first | (go_at_call 26; refine (has_mem hm _).mono ?_; rintro e w' ⟨rfl, rfl⟩) | (go_at_call 25; refine (word_store _ _ _ _ _ hcw hfz).mono ?_; rintro e w' ⟨rfl, rfl⟩))
    go_end0
    exact ⟨rfl, by simpa [hk] using FIN.out⟩
  · go_enter Try.func31, Try.ntmps31
    go_wp2_with (go_at_call 26; refine (has_mem hm _).mono ?_; rintro e w' ⟨rfl, rfl⟩)
    all_goals go_end0
    all_goals exact ⟨rfl, by simpa [h] using hm, grown_refl _ _⟩

theorem swap_mem (hm : IsMem w bm bw n f) (at_ v : Int) (hv : 0 ≤ v ∧ v ≤ 18446744073709551615) :
    Calls Try.prog 32 #[.pointer (some ⟨bm, 0, none⟩), .int .i64 at_, .int .u64 v] w fun e w' => e = .returned (.int .u64 (if 0 ≤ at_ ∧ at_ < n then f at_.toNat else 0)) ∧ IsMem w' bm bw n (if 0 ≤ at_ ∧ at_ < n then putF f at_.toNat v else f) ∧ w.grownBy w' (some bw) := by
  by_cases h : 0 ≤ at_ ∧ at_ < n
  · obtain ⟨k, rfl⟩ : ∃ k : Nat, at_ = k := ⟨at_.toNat, by omega⟩
    have hk : k < n := by omega
    have hc := hm.head.cell (i := 0) (by omega)
    have hcw := hm.row.cell hk
    have hfz := hm.row.frozen k
    have fin : IsMem (w.setCell ⟨bw, k, none⟩ (.int .u64 v)) bm bw n (if (0 : Int) ≤ (k : Int) ∧ (k : Int) < n then putF f (k : Int).toNat v else f) ∧ w.grownBy (w.setCell ⟨bw, k, none⟩ (.int .u64 v)) (some bw) :=
      ⟨by rw [if_pos h]; exact hm.set k v hv, grown_setCell (grown_refl _ _) _ (.inl rfl) _⟩
    have FIN := hide fin
    clear fin
    go_enter Try.func32, Try.ntmps32
    go_wp2_with (first | (go_at_call 26; refine (has_mem hm _).mono ?_; rintro e w' ⟨rfl, rfl⟩) | (go_at_call 27; refine (word_swap _ _ _ _ _ hcw hfz).mono ?_; rintro e w' ⟨rfl, rfl⟩))
    go_ret
    exact ⟨by simp [hk], by simpa [hk] using FIN.out⟩
  · go_enter Try.func32, Try.ntmps32
    go_wp2_with (go_at_call 26; refine (has_mem hm _).mono ?_; rintro e w' ⟨rfl, rfl⟩)
    all_goals go_ret
    all_goals exact ⟨by simp [h], by simpa [h] using hm, grown_refl _ _⟩

theorem add_mem (hm : IsMem w bm bw n f) (at_ v : Int) :
    Calls Try.prog 23 #[.pointer (some ⟨bm, 0, none⟩), .int .i64 at_, .int .u64 v] w fun e w' => e = .returned (.int .u64 (if 0 ≤ at_ ∧ at_ < n then (f at_.toNat + v) % 18446744073709551616 else 0)) ∧ IsMem w' bm bw n (if 0 ≤ at_ ∧ at_ < n then putF f at_.toNat ((f at_.toNat + v) % 18446744073709551616) else f) ∧ w.grownBy w' (some bw) := by
  by_cases h : 0 ≤ at_ ∧ at_ < n
  · obtain ⟨k, rfl⟩ : ∃ k : Nat, at_ = k := ⟨at_.toNat, by omega⟩
    have hk : k < n := by omega
    have hc := hm.head.cell (i := 0) (by omega)
    have hcw := hm.row.cell hk
    have hfz := hm.row.frozen k
    have fin : IsMem (w.setCell ⟨bw, k, none⟩ (.int .u64 ((f k + v) % 18446744073709551616))) bm bw n (if (0 : Int) ≤ (k : Int) ∧ (k : Int) < n then putF f (k : Int).toNat ((f (k : Int).toNat + v) % 18446744073709551616) else f) ∧ w.grownBy (w.setCell ⟨bw, k, none⟩ (.int .u64 ((f k + v) % 18446744073709551616))) (some bw) :=
      ⟨by rw [if_pos h]; exact hm.set k _ (by omega), grown_setCell (grown_refl _ _) _ (.inl rfl) _⟩
    have FIN := hide fin
    clear fin
    go_enter Try.func23, Try.ntmps23
    go_wp2_with (first | (go_at_call 26; refine (has_mem hm _).mono ?_; rintro e w' ⟨rfl, rfl⟩) | (go_at_call 28; refine (word_add _ _ _ _ _ hcw hfz).mono ?_; rintro e w' ⟨rfl, rfl⟩))
    go_ret
    exact ⟨by simp [hk], by simpa [hk] using FIN.out⟩
  · go_enter Try.func23, Try.ntmps23
    go_wp2_with (go_at_call 26; refine (has_mem hm _).mono ?_; rintro e w' ⟨rfl, rfl⟩)
    all_goals go_ret
    all_goals exact ⟨by simp [h], by simpa [h] using hm, grown_refl _ _⟩

theorem cas_mem (hm : IsMem w bm bw n f) (at_ old v : Int) (hv : 0 ≤ v ∧ v ≤ 18446744073709551615) :
    Calls Try.prog 24 #[.pointer (some ⟨bm, 0, none⟩), .int .i64 at_, .int .u64 old, .int .u64 v] w fun e w' => e = .returned (.bool (decide ((0 ≤ at_ ∧ at_ < n) ∧ f at_.toNat = old))) ∧ IsMem w' bm bw n (if (0 ≤ at_ ∧ at_ < n) ∧ f at_.toNat = old then putF f at_.toNat v else f) ∧ w.grownBy w' (some bw) := by
  by_cases h : 0 ≤ at_ ∧ at_ < n
  · obtain ⟨k, rfl⟩ : ∃ k : Nat, at_ = k := ⟨at_.toNat, by omega⟩
    have hk : k < n := by omega
    have hc := hm.head.cell (i := 0) (by omega)
    have hcw := hm.row.cell hk
    have hfz := hm.row.frozen k
    by_cases hf : f k = old
    · have fin : IsMem (w.setCell ⟨bw, k, none⟩ (.int .u64 v)) bm bw n (putF f k v) ∧ w.grownBy (w.setCell ⟨bw, k, none⟩ (.int .u64 v)) (some bw) :=
        ⟨hm.set k v hv, grown_setCell (grown_refl _ _) _ (.inl rfl) _⟩
      have FIN := hide fin
      clear fin
      go_enter Try.func24, Try.ntmps24
      go_wp2_with (first | (go_at_call 26; refine (has_mem hm _).mono ?_; rintro e w' ⟨rfl, rfl⟩) | (go_at_call 40; refine (word_cas _ _ _ _ _ _ hcw hfz).mono ?_; rintro e w' ⟨rfl, rfl⟩))
      all_goals go_ret
      all_goals exact ⟨by simp [hk, hf], by simpa [hk, hf] using FIN.out⟩
    · go_enter Try.func24, Try.ntmps24
      go_wp2_with (first | (go_at_call 26; refine (has_mem hm _).mono ?_; rintro e w' ⟨rfl, rfl⟩) | (go_at_call 40; refine (word_cas _ _ _ _ _ _ hcw hfz).mono ?_; rintro e w' ⟨rfl, rfl⟩))
      all_goals go_ret
      all_goals exact ⟨by simp [hk, hf], by simpa [hk, hf] using hm, grown_refl _ _⟩
  · go_enter Try.func24, Try.ntmps24
    go_wp2_with (go_at_call 26; refine (has_mem hm _).mono ?_; rintro e w' ⟨rfl, rfl⟩)
    all_goals go_ret
    all_goals exact ⟨by simp [h], by simpa [h] using hm, grown_refl _ _⟩
end
end Go.Proofs.Ytfggjnjndemipaa

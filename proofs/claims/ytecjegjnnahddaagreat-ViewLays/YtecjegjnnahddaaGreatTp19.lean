/-
  Lemmas: VwBq, VwU, VwV, VwX, VwZ, VwQ.
-/
import Derived.Test.YtecjegjnnahddaaGreatTp15
import Derived.Test.YtecjegjnnahddaaGreatTp11
import Derived.Test.YtecjegjnnahddaaGreatTp18
import Derived.Test.YtecjegjnnahddaaGreatTp08
/-
  View, pure: what is seen is laid, and seen again the same
-/
namespace Go.Proofs.YtecjegjnnahddaaGreat
open Go.RowKit
set_option linter.unusedVariables false
set_option linter.unusedSimpArgs false
set_option linter.unnecessarySimpa false
set_option maxRecDepth 20000
set_option linter.unusedSectionVars false
namespace Vw
open Shape

theorem bitN (b : Bool) (n : Int) : bit b n = if b = true then n else 0 := by cases b <;> rfl
theorem unpacked (u o f t : Bool) (ag ge : Int) (h0 : 0 ≤ ag) (h1 : ag ≤ 255) (h2 : 0 ≤ ge) (h3 : ge ≤ 4294967295) :
    bitB (packW u o f t ag ge) 1 = u ∧ packW u o f t ag ge / 2 % 2 = (if o = true then 1 else 0) ∧ bitB (packW u o f t ag ge) 4 = f ∧ bitB (packW u o f t ag ge) 8 = t ∧ packW u o f t ag ge / 256 % 256 = ag ∧ packW u o f t ag ge / 4294967296 = ge := by
  unfold packW bitB
  simp only [bitN]
  cases u <;> cases o <;> cases f <;> cases t <;> simp <;> omega
theorem al_congr {o : Nat} {nx ny : Int → Int} (h : ∀ c : Int, 1 ≤ c → c ≤ (o : Int) → nx c = ny c) : ∀ (k : Nat) (seen : List Int) (cur : Int), al o nx k seen cur = al o ny k seen cur
  | 0, _, _ => rfl
  | k + 1, seen, cur => by
    simp only [al]
    split
    · rename_i hc
      rw [h cur hc.1 hc.2.1]
      exact al_congr h k _ _
    · rfl
theorem al_head {o : Nat} {nx : Int → Int} : ∀ (k : Nat) (seen : List Int) (cur : Int), ∃ t, (al o nx k seen cur).1 = seen ++ t
  | 0, seen, cur => ⟨[], by simp [al]⟩
  | k + 1, seen, cur => by
    simp only [al]
    split
    · obtain ⟨t, ht⟩ := al_head k (seen ++ [cur]) (nx cur)
      exact ⟨cur :: t, by rw [ht]; simp⟩
    · exact ⟨[], by simp⟩
/-- A list that is seen begins at the head's number, or is empty. -/
theorem al_first {o : Nat} (ho : 1 ≤ o) {nx : Int → Int} {cur : Int} : (1 ≤ cur ∧ cur ≤ (o : Int) ∧ (al o nx o [] cur).1.headD 0 = cur) ∨ (¬ (1 ≤ cur ∧ cur ≤ (o : Int)) ∧ al o nx o [] cur = ([], cur)) := by
  by_cases h : 1 ≤ cur ∧ cur ≤ (o : Int)
  · left
    refine ⟨h.1, h.2, ?_⟩
    obtain ⟨k, rfl⟩ : ∃ k, o = k + 1 := ⟨o - 1, by omega⟩
    simp only [al]
    rw [if_pos ⟨h.1, h.2, by simp⟩]
    obtain ⟨t, ht⟩ := al_head (o := k + 1) (nx := nx) k ([] ++ [cur]) (nx cur)
    rw [ht]
    simp
  · right
    exact ⟨h, al_stop _ _ _ (fun hc => h ⟨hc.1, hc.2.1⟩)⟩
/-- .. and laid from its first number it is seen the same; where it ended at nought, so it does again. -/
theorem al_again {o : Nat} (ho : 1 ≤ o) (ho2 : o ≤ 64) {nx ny : Int → Int} (h : ∀ c : Int, 1 ≤ c → c ≤ (o : Int) → ny c = nx c) (cur : Int) : (al o ny o [] (hdV (al o nx o [] cur).1 % 4294967296)).1 = (al o nx o [] cur).1 ∧ ((al o nx o [] cur).2 = 0 → (al o ny o [] (hdV (al o nx o [] cur).1 % 4294967296)).2 = 0) := by
  rw [al_congr h]
  rcases al_first ho (nx := nx) (cur := cur) with ⟨h1, h2, h3⟩ | ⟨h1, h2⟩
  · have e : hdV (al o nx o [] cur).1 % 4294967296 = cur := by unfold hdV hd; rw [h3]; omega
    rw [e]
    exact ⟨rfl, fun h => h⟩
  · have e : hdV (al o nx o [] cur).1 % 4294967296 = 0 := by rw [h2]; rfl
    rw [e, al_stop o nx o (by omega), h2]
    exact ⟨rfl, fun _ => rfl⟩
section
variable {x : Sh} {f : Nat → Int} (H : x.Ok) (hf : ∀ i, i < size x → 0 ≤ f i ∧ f i < 18446744073709551616)
include H hf
theorem z0 : 0 ≤ f 0 ∧ f 0 < 18446744073709551616 := hf 0 (by have := lay_out x; omega)
theorem mo_cv : mo (cv x f) = f 0 % 8 + f 0 / 8 % 2 * 8 + f 0 / 256 * 256 := by
  have h0 := z0 H hf
  have hm : momV 0 (f 0 / 8 % 2) (f 0 / 256) = f 0 / 8 % 2 * 8 + f 0 / 256 * 256 := by
    unfold momV momB
    rw [if_pos (by simp; omega)]
    omega
  show bits .or .u64 (momV 0 (f 0 / 8 % 2) (f 0 / 256)) (IntKind.u64.wrap (f 0 % 8)) = _
  rw [hm, wrapU, show f 0 % 8 % 18446744073709551616 = f 0 % 8 by omega]
  rw [u64_or _ _ (by omega) (by omega) (by omega) (by omega), Nat.or_comm, ← u64_or _ _ (by omega) (by omega) (by omega) (by omega)]
  rw [or3 _ _ (by omega) (by omega) (by omega) (by omega) (by omega)]
  omega
theorem head_cv {j : Nat} (hj : j < x.o) : lwF x (cv x f) (pO x j) = packW (bitB (f (pO x j)) 1) (ownB (f (pO x j) / 2 % 2 == f 0 / 8 % 2) (f 0 / 8 % 2)) (bitB (f (pO x j)) 4) (bitB (f (pO x j)) 8) (f (pO x j) / 256 % 256) (f (pO x j) / 4294967296) := by
  have h1 := (at_obj H hj).1
  have hw : 0 < ow x := by have := lay_out x; omega
  have hp := hf (pO x j) (by omega)
  have := lw_obj (x := x) (c := cv x f) (j := j) (q := 0) hw
  rw [Nat.add_zero] at this
  rw [this]
  show packV _ _ _ _ _ _ _ = _
  unfold packV
  have hb : packB (f (pO x j) / 256 % 256) (f (pO x j) / 4294967296) (f 0 / 8 % 2) = true := by simp [packB]; omega
  exact if_pos hb
theorem obj_again {j : Nat} (hj : j < x.o) : ObE (obAt x (lwF x (cv x f)) j) (obAt x f j) := by
  have h1 := (at_obj H hj).1
  have hl := lay_out x
  have hp := hf (pO x j) (by omega)
  have hh := head_cv H hf hj
  have h0 : lwF x (cv x f) 0 = f 0 % 8 + f 0 / 8 % 2 * 8 + f 0 / 256 * 256 := mo_cv H hf
  have hz := z0 H hf
  have hu := unpacked (bitB (f (pO x j)) 1) (ownB (f (pO x j) / 2 % 2 == f 0 / 8 % 2) (f 0 / 8 % 2)) (bitB (f (pO x j)) 4) (bitB (f (pO x j)) 8) (f (pO x j) / 256 % 256) (f (pO x j) / 4294967296) (by omega) (by omega) (by omega) (by omega)
  have e1 := lw_obj (x := x) (c := cv x f) (j := j) (q := 1) (by omega)
  have e2 := lw_obj (x := x) (c := cv x f) (j := j) (q := 2) (by omega)
  unfold ObE obAt
  simp only [hh, h0, hu]
  refine ⟨trivial, ?_, trivial, trivial, trivial, trivial, e1, e2, trivial, fun i hi => ?_⟩
  · have e : (f 0 % 8 + f 0 / 8 % 2 * 8 + f 0 / 256 * 256) / 8 % 2 = f 0 / 8 % 2 := by omega
    rw [e]
    have hc : f 0 / 8 % 2 = 0 ∨ f 0 / 8 % 2 = 1 := by omega
    have hb : f (pO x j) / 2 % 2 = 0 ∨ f (pO x j) / 2 % 2 = 1 := by omega
    rcases hc with hc | hc <;> rcases hb with hb | hb <;> rw [hc, hb] <;> rfl
  · have e3 := lw_obj (x := x) (c := cv x f) (j := j) (q := 3 + i) (by (try simp only at hi); omega)
    rw [e3]
    unfold obW
    rw [if_neg (by omega), if_neg (by omega), if_neg (by omega), if_pos (by show 3 + i - 3 < x.s; omega)]
    show f (pO x j + (3 + (3 + i - 3))) = _
    rw [show 3 + (3 + i - 3) = 3 + i by omega]
theorem nxt_again (q : Nat) (hq : q = 1 ∨ q = 2) (c : Int) (h1 : 1 ≤ c) (h2 : c ≤ (x.o : Int)) : nxt x (lwF x (cv x f)) q c = nxt x f q c := by
  unfold nxt
  have hl := lay_out x
  rw [lw_obj (by omega)]
  rcases hq with rfl | rfl <;> rfl
theorem list_again (a q : Nat) (hq : q = 1 ∨ q = 2) (ha : lwF x (cv x f) a = hdV (lst x f a q).1) : (lst x (lwF x (cv x f)) a q).1 = (lst x f a q).1 ∧ ((lst x f a q).2 = 0 → (lst x (lwF x (cv x f)) a q).2 = 0) := by
  have h := al_again (o := x.o) H.o1 H.o2 (nx := nxt x f q) (ny := nxt x (lwF x (cv x f)) q) (nxt_again H hf q hq) (f a % 4294967296)
  unfold lst
  rw [ha]
  exact h
/-- What is laid for what is seen shows the same. -/
theorem cv_again : Cq (cv x (lwF x (cv x f))) (cv x f) := by
  have hm : lwF x (cv x f) 0 = _ := mo_cv H hf
  have hz := z0 H hf
  have hl := lay_out x
  refine ⟨?_, ?_, ?_, ⟨lw_cn (x := x) (c := cv x f) (i := 0) (by decide), lw_cn (x := x) (c := cv x f) (i := 1) (by decide), lw_cn (x := x) (c := cv x f) (i := 2) (by decide), lw_cn (x := x) (c := cv x f) (i := 3) (by decide)⟩, ⟨rfl, fun i hi => ?_⟩, ⟨rfl, fun j hj => ⟨rfl, fun i hi => ?_⟩⟩, ⟨rfl, fun i hi => ?_⟩, ⟨rfl, fun j hj => obj_again H hf hj⟩, (list_again H hf 1 1 (.inl rfl) rfl).1, (list_again H hf 2 1 (.inl rfl) rfl).1, (list_again H hf 3 2 (.inr rfl) rfl).1⟩
  · show lwF x (cv x f) 0 % 8 = f 0 % 8
    rw [hm]; omega
  · show lwF x (cv x f) 0 / 8 % 2 = f 0 / 8 % 2
    rw [hm]; omega
  · show lwF x (cv x f) 0 / 256 = f 0 / 256
    rw [hm]; omega
  · show lwF x (cv x f) (8 + i) = f (8 + i)
    rw [lw_ack hi, if_pos (show i < (cv x f).na from hi)]
    rfl
  · show lwF x (cv x f) (bR x + j * x.r + i) = f (bR x + j * x.r + i)
    rw [lw_root hj hi, if_pos (show i < (cv x f).rn j from hi)]
    rfl
  · show lwF x (cv x f) (bK x + i) = f (bK x + i)
    rw [lw_weak hi, if_pos (show i < (cv x f).nw from hi)]
    rfl
end
end Vw
end Go.Proofs.YtecjegjnnahddaaGreat

/-
  View: steps played again, pure; the package's replay of one step.
-/
namespace Go.Proofs.YtecjegjnnahddaaGreat
open Go.RowKit
set_option linter.unusedVariables false
set_option linter.unusedSimpArgs false
set_option linter.unnecessarySimpa false
set_option maxRecDepth 20000
namespace Vw
open Shape

/-- A step. -/
structure Sp where
  ha : Int
  ac : Int
  at' : Int
  hd : Int
  pt : Int
  ok : Bool
def Sp.cells (x : Sp) : List Value := [.int .i64 x.ha, .int .i64 x.ac, .int .i64 x.at', .int .u64 x.hd, .int .u64 x.pt, .bool x.ok]
def Sp.cell (x : Sp) (i : Nat) : Value := lrow x.cells i
/-- One step made, if it fits. -/
def one (m : Nat) (g : Nat → Int) (x : Sp) : Option (Nat → Int) :=
  if 0 ≤ x.at' ∧ x.at' < (m : Int) then (if x.hd = g x.at'.toNat then some (putF g x.at'.toNat x.pt) else none) else (if x.hd = 0 ∧ x.pt = 0 then some g else none)
def rp (m : Nat) (a : Nat → Sp) (g : Nat → Int) : Nat → Option (Nat → Int)
  | 0 => some g
  | n + 1 => (rp m a g n).bind fun g' => one m g' (a n)
theorem rp_none {m : Nat} {a : Nat → Sp} {g : Nat → Int} {k : Nat} (h : rp m a g k = none) : ∀ n, k ≤ n → rp m a g n = none := by
  intro n hn
  induction n with
  | zero => cases (show k = 0 by omega); exact h
  | succ n ih =>
    by_cases e : k = n + 1
    · subst e; exact h
    · simp only [rp, ih (by omega)]
      rfl
def rdm (m : Nat) (g : Nat → Int) : Option (Nat → Int) → Int × Nat × (Nat → Int)
  | none => (130, 0, g)
  | some g' => (0, m, g')
/-- What Replay tells: the error, and the words. -/
def rd (m ns : Nat) (n : Int) (a : Nat → Sp) (g : Nat → Int) : Int × Nat × (Nat → Int) :=
  if 4096 < m ∨ 65536 < ns then (1, 0, g) else if n < 0 ∨ (ns : Int) < n then (2, 0, g) else rdm m g (rp m a g n.toNat)
/-- Steps as they are seen. -/
def SeesP (w : World) (ao : Option Addr) (n : Nat) (a : Nat → Sp) : Prop :=
  ∀ j, j < n → ∃ b off, ao = some ⟨b, off, none⟩ ∧ b < w.heap.size ∧ ∀ i, i < 6 → w.cell? ⟨b, off + j * 6 + i, none⟩ = some ((a j).cell i)
theorem SeesP.on {w w' : World} {ao : Option Addr} {n : Nat} {a : Nat → Sp} (h : SeesP w ao n a) (hb : Below w.heap.size w w') : SeesP w' ao n a :=
  fun j hj => by obtain ⟨b, off, e, hl, hc⟩ := h j hj; exact ⟨b, off, e, Nat.lt_of_lt_of_le hl hb.size, fun i hi => (hb.cell (p := ⟨b, off + j * 6 + i, none⟩) hl).trans (hc i hi)⟩
theorem SeesP.cells {w : World} {ao : Option Addr} {n : Nat} {a : Nat → Sp} (h : SeesP w ao n a) {j : Nat} (hj : j < n) : ∃ b off, ao = some ⟨b, off, none⟩ ∧ b < w.heap.size ∧ w.cell? ⟨b, off + j * 6, none⟩ = some (.int .i64 (a j).ha) ∧ w.cell? ⟨b, off + j * 6 + 1, none⟩ = some (.int .i64 (a j).ac) ∧ w.cell? ⟨b, off + j * 6 + 2, none⟩ = some (.int .i64 (a j).at') ∧ w.cell? ⟨b, off + j * 6 + 3, none⟩ = some (.int .u64 (a j).hd) ∧ w.cell? ⟨b, off + j * 6 + 4, none⟩ = some (.int .u64 (a j).pt) ∧ w.cell? ⟨b, off + j * 6 + 5, none⟩ = some (.bool (a j).ok) := by
  obtain ⟨b, off, e, hl, hc⟩ := h j hj
  exact ⟨b, off, e, hl, (by have := hc 0 (by decide); simpa [Sp.cell, lrow, Sp.cells] using this), hc 1 (by decide), hc 2 (by decide), hc 3 (by decide), hc 4 (by decide), hc 5 (by decide)⟩
theorem wcs_put (n : Nat) (f : Nat → Int) (k : Nat) (v : Int) : wcs n (putF f k v) = (wcs n f).set k (.int .u64 v) := by
  apply List.ext_getElem?
  intro i
  rw [List.getElem?_set]
  by_cases hi : i < n
  · by_cases e : k = i
    · subst e
      rw [wcs_get _ hi]
      simp [putF, wcs_len, hi]
    · rw [wcs_get _ hi, if_neg e, wcs_get _ hi]
      simp [putF, Ne.symm e]
  · have h1 : (wcs n (putF f k v))[i]? = none := List.getElem?_eq_none (by rw [wcs_len]; omega)
    have h2 : (wcs n f)[i]? = none := List.getElem?_eq_none (by rw [wcs_len]; omega)
    rw [h1, h2]
    by_cases e : k = i
    · subst e; simp [wcs_len, hi]
    · simp [e]
theorem owns_put {w : World} {base g cap n : Nat} {f : Nat → Int} (h : w.ownsRow base 24 1 (.slice (some ⟨g, 0, none⟩) n cap) n (wcs n f)) (k : Nat) (v : Int) : (w.setCell ⟨g, k, none⟩ (.int .u64 v)).ownsRow base 24 1 (.slice (some ⟨g, 0, none⟩) n cap) n (wcs n (putF f k v)) := by
  obtain ⟨hl, ⟨h1, _⟩ | ⟨g', cap', cur, h1, hb, hg, hc, hm, hs, ht⟩⟩ := h
  · cases h1
  · cases h1
    refine ⟨by rw [wcs_len]; omega, .inr ⟨g, cap, cur.setIfInBounds k (.int .u64 v), rfl, hb, ?_, hc, hm, by simpa using hs, ?_⟩⟩
    · simp [World.setCell, Array.getElem?_modify, hg]
    · rw [wcs_put, ← ht]
      simp [List.take_set]
end Vw
end Go.Proofs.YtecjegjnnahddaaGreat

/-
  View: Replay of the package
-/
namespace Go.Proofs.YtecjegjnnahddaaGreat
open Go.RowKit
set_option linter.unusedVariables false
set_option linter.unusedSimpArgs false
set_option linter.unnecessarySimpa false
set_option maxRecDepth 20000
namespace Vw
open Shape

def E1 (m ns : Nat) : Prop := 4096 < m ∨ 65536 < ns
theorem rd1 {m ns : Nat} {n : Int} {a : Nat → Sp} {f : Nat → Int} (h : 4096 < m ∨ 65536 < ns) : rd m ns n a f = (1, 0, f) := by unfold rd; rw [if_pos h]
theorem rd2 {m ns : Nat} {n : Int} {a : Nat → Sp} {f : Nat → Int} (h : ¬ (4096 < m ∨ 65536 < ns)) (h2 : n < 0 ∨ (ns : Int) < n) : rd m ns n a f = (2, 0, f) := by unfold rd; rw [if_neg h, if_pos h2]
theorem rd3 {m ns q : Nat} {a : Nat → Sp} {f : Nat → Int} (h : ¬ (4096 < m ∨ 65536 < ns)) (h2 : q ≤ ns) : rd m ns (q : Int) a f = rdm m f (rp m a f q) := by
  unfold rd
  rw [if_neg h, if_neg (by omega)]
  rfl

end Vw
end Go.Proofs.YtecjegjnnahddaaGreat

/-
  View: Replay of the document
-/
namespace Go.Proofs.YtecjegjnnahddaaGreat
open Go.RowKit
set_option linter.unusedVariables false
set_option linter.unusedSimpArgs false
set_option linter.unnecessarySimpa false
set_option maxRecDepth 20000
namespace Vw
open Shape

set_option maxHeartbeats 1000000 in
theorem copied_r {w : World} {B : Nat} {ao : Option Addr} {n cap : Nat} {f : Nat → Int} (h : Sees w B ao n f) (hN : ao = none → n = 0 ∧ cap = 0) (hn : n ≤ 70000) :
    Calls Tryz.prog 36 #[.slice ao n cap] w fun e w' => (∃ go gc, e = .returned (.slice go n gc) ∧ Hid (w'.ownsRow w.heap.size 24 1 (.slice go n gc) n (wcs n f))) ∧ Below w.heap.size w w' := by
  obtain ⟨iU, hiU, hzU, hsU, hyU⟩ := infoU
  have HN := hide (news_of h)
  cases ao with
  | none =>
    obtain ⟨rfl, rfl⟩ := hN rfl
    go_enter Tryz.func36, Tryz.ntmps36
    go_wp2_with (at_builtin; refine wpList_append_own_none rfl (.tmp 4) (.tmp 5) 25 rfl w.heap.size 24 iU 1 Tryz.underlying25 hiU (.slice none 0 0) 0 [] rfl (World.ownsRow_nil _ _ _ _) rfl ?_)
    go_ret
    exact ⟨⟨none, 0, rfl, World.ownsRow_nil _ _ _ _⟩, Below.refl _ _⟩
  | some ad =>
    go_enter Tryz.func36, Tryz.ntmps36
    go_wp2_with (at_builtin; refine wpList_append_own_at _ rfl (.tmp 4) (.tmp 5) 25 rfl w.heap.size 24 iU (.int .u64 0) 1 8 Tryz.underlying25 hiU hzU hsU hyU rfl (by decide) (.slice none 0 0) 0 [] rfl (World.ownsRow_nil _ _ _ _) ad n cap (wcs n f) rfl (by rw [wcs_len]; omega) (HN.out ad rfl) (wcs_one n f) (by unfold maxLen; omega) (by omega) (Nat.le_refl _) ?_; intro v2 w2 hown hgr _ _; have O2 := hide hown; have G2 := hide hgr; clear hown hgr)
    go_ret
    have O3 := O2.out
    simp only [Nat.zero_add, List.nil_append] at O3
    obtain ⟨go', gc, e2⟩ := own_slice O3
    subst e2
    exact ⟨⟨go', gc, rfl, O3⟩, below_grown (Below.refl _ _) (World.ownsRow_nil w w.heap.size 24 1) G2.out (Nat.le_refl _)⟩

end Vw
end Go.Proofs.YtecjegjnnahddaaGreat

/-
  View, pure: a fresh memory is sound.
-/
namespace Go.Proofs.YtecjegjnnahddaaGreat
open Go.RowKit
set_option linter.unusedVariables false
set_option linter.unusedSimpArgs false
set_option linter.unnecessarySimpa false
namespace Vw
open Shape

theorem F_zero {x : Sh} : ∀ {m j : Nat}, ¬ j = 1 → (∀ i, i < m → ¬ j = bO x + i * ow x + 1) → F x m j = 0
  | 0, j, h1, _ => by simp [F, putF, h1]
  | m + 1, j, h1, h2 => by
    have ih := F_zero (m := m) h1 (fun i hi => h2 i (by omega))
    simp only [F, putF]
    rw [if_neg (h2 m (by omega))]
    exact ih
def rng (k : Nat) : List Int := (List.range k).map fun (i : Nat) => (i : Int) + 1
theorem rng_more (k : Nat) : rng (k + 1) = rng k ++ [(k : Int) + 1] := by simp [rng, List.range_succ]
theorem rng_mem {k : Nat} {c : Int} : c ∈ rng k ↔ 1 ≤ c ∧ c ≤ (k : Int) := by
  simp only [rng, List.mem_map, List.mem_range]
  constructor
  · rintro ⟨i, hi, rfl⟩; omega
  · intro h; exact ⟨c.toNat - 1, by omega, by omega⟩
theorem al_rng {o : Nat} {nx : Int → Int} (hn : ∀ k, k < o → nx ((k : Int) + 1) = if k + 1 < o then (k : Int) + 2 else 0) : ∀ (d k : Nat), k + d = o → al o nx d (rng k) (if k < o then (k : Int) + 1 else 0) = (rng o, 0)
  | 0, k, h => by
    have : k = o := by omega
    subst this
    simp [al]
  | d + 1, k, h => by
    have hk : k < o := by omega
    simp only [al]
    rw [if_pos hk, if_pos ⟨by omega, by omega, fun hm => by have := rng_mem.1 hm; omega⟩, ← rng_more, hn k hk]
    have ih := al_rng hn d (k + 1) (by omega)
    rw [← ih]
    congr 1
theorem pO_link (x : Sh) (j : Nat) : pO x j + 1 = bO x + j * ow x + 1 := rfl
theorem fresh_free {x : Sh} (H : x.Ok) : lst x (F x (x.o - 1)) 1 1 = (rng x.o, 0) := by
  unfold lst
  rw [F_free (bO8 x)]
  have h1 := H.o1
  have h2 := H.o2
  have := al_rng (o := x.o) (nx := nxt x (F x (x.o - 1)) 1) (fun k hk => by
    unfold nxt
    rw [show ((k : Int) + 1).toNat - 1 = k by omega, pO_link, F_link]
    by_cases hk2 : k + 1 < x.o
    · rw [if_pos (by omega), if_pos hk2]; omega
    · rw [if_neg (by omega), if_neg hk2]; rfl) x.o 0 (by omega)
  rw [if_pos (by omega)] at this
  simpa [rng] using this
theorem fresh_low {x : Sh} (H : x.Ok) {i : Nat} (hi : ¬ i = 1) (h8 : i < bO x + 1) : F x (x.o - 1) i = 0 := F_zero hi (fun j _ h => by have := bO8 x; omega)
theorem fresh_obj {x : Sh} (H : x.Ok) {j q : Nat} (hq : ¬ q = 1) (hq2 : q < ow x) : F x (x.o - 1) (pO x j + q) = 0 := by
  refine F_zero (by have := bO8 x; unfold pO; omega) (fun i _ h => ?_)
  unfold pO at h
  have h3 := ow3 x
  rcases Nat.lt_trichotomy i j with l | l | l
  · have := at_lt (x := x) l
    have h5 : (i + 1) * ow x ≤ j * ow x := Nat.mul_le_mul_right _ l
    rw [Nat.succ_mul] at h5
    omega
  · subst l; omega
  · have h5 : (j + 1) * ow x ≤ i * ow x := Nat.mul_le_mul_right _ l
    rw [Nat.succ_mul] at h5
    omega
theorem stop0 (o : Nat) (nx : Int → Int) (k : Nat) : al o nx k [] 0 = ([], 0) := al_stop o nx k (by omega)
theorem fresh_sound {x : Sh} (H : x.Ok) : Sound x (F x (x.o - 1)) := by
  have b8 := bO8 x
  have L := lay_out x
  have f0 : F x (x.o - 1) 0 = 0 := fresh_low H (by omega) (by omega)
  have f2 : F x (x.o - 1) 2 = 0 := fresh_low H (by omega) (by omega)
  have f3 : F x (x.o - 1) 3 = 0 := fresh_low H (by omega) (by omega)
  have g2 : lst x (F x (x.o - 1)) 2 1 = ([], 0) := by unfold lst; rw [f2]; exact stop0 _ _ _
  have g3 : lst x (F x (x.o - 1)) 3 2 = ([], 0) := by unfold lst; rw [f3]; exact stop0 _ _ _
  have g1 := fresh_free H
  have hz : ∀ u, u = 0 → hOk (cv x (F x (x.o - 1))) u := fun u hu h => absurd hu h
  have h0 : ∀ j, F x (x.o - 1) (pO x j) = 0 := fun j => by have := fresh_obj H (j := j) (q := 0) (by omega) (by have := ow3 x; omega); simpa using this
  have hsl : ∀ j q, q < x.s → F x (x.o - 1) (pO x j + (3 + q)) = 0 := fun j q hq => fresh_obj H (by omega) (by omega)
  refine ⟨?_, ⟨?_, ?_, ?_⟩, ?_, ?_, ?_, ?_⟩
  · simp [cv, f0]
  · rw [g1]
  · rw [g2]
  · rw [g3]
  · simp [cv, g2]
  · intro j hj
    simp only [cv] at hj
    refine ⟨fun hu => ?_, fun _ => ⟨.inl ?_, fun q hq => ?_⟩⟩
    · simp [cv, obAt, bitB, h0] at hu
    · simp only [cv, g1]; exact rng_mem.2 ⟨by omega, by omega⟩
    · exact hsl j q hq
  · intro i hi
    simp [cv, g3] at hi
  · refine ⟨fun i hi => hz _ ?_, fun j hj i hi => hz _ ?_, fun j hj hu => ?_⟩
    · simp only [cv] at hi ⊢
      exact fresh_low H (by omega) (by omega)
    · simp only [cv] at hi hj ⊢
      have := (at_root H hj).1
      exact fresh_low H (by omega) (by omega)
    · simp [cv, obAt, bitB, h0] at hu
end Vw
end Go.Proofs.YtecjegjnnahddaaGreat

/-
  View: Check of the package
-/
namespace Go.Proofs.YtecjegjnnahddaaGreat
open Go.RowKit
set_option linter.unusedVariables false
set_option linter.unusedSimpArgs false
set_option linter.unnecessarySimpa false
set_option maxRecDepth 20000
namespace Vw
open Shape

set_option maxHeartbeats 2000000 in
theorem check_yes {o s h r k b off z cap : Nat} {s5 : Int} {B : Nat} {f : Nat → Int} (H : (⟨o, s, h, r, k⟩ : Sh).Ok) (hz : size ⟨o, s, h, r, k⟩ = z) (hc : z ≤ cap) {w : World} (hS : Sees w B (some ⟨b, off, none⟩) z f) (hB : B ≤ w.heap.size) (hf : ∀ i, i < z → 0 ≤ f i ∧ f i < 18446744073709551616) (hs : Sound ⟨o, s, h, r, k⟩ f) :
    Calls Tryz.prog 12 #[.agg #[.int .i64 (o : Int), .int .i64 (s : Int), .int .i64 (h : Int), .int .i64 (r : Int), .int .i64 (k : Int), .int .i64 s5], .slice (some ⟨b, off, none⟩) z cap] w fun e w' => e = .returned (.int .i64 0) ∧ Below w.heap.size w w' := by
  obtain ⟨W0, hW0, B0, K⟩ := box w (o : Int) (s : Int) (h : Int) (r : Int) (k : Int) s5
  have HB := hide B0
  have MO := hide (fun w1 => memoryOf_ok (s5 := s5) H (some ⟨b, off, none⟩) z cap hz w1)
  have IS := hide (fun (V : World) (hb : Below w.heap.size w V) => call_yes (isSound_ok (b := b) (off := off) (s5 := s5) H hz hc (w := V) (hS.below hb hB) (by have := hb.size; omega) hf) hs)
  clear H hz hS hB hf hs
  obtain ⟨-, l0, x0, x1, x2, x3, x4, x5⟩ := K.out W0 (Below.refl _ _)
  clear B0
  go_enter Tryz.func12, Tryz.ntmps12
  go_upto_region 2 with (go_at_call 28; refine (MO.out _).mono ?_; rintro e w2 ⟨rfl, hb2⟩; have HB2 := hide hb2; clear hb2)
  obtain ⟨W3, hW3⟩ : ∃ W3, w2.alloc (.cells #[.int .i64 (o : Int), .int .i64 (s : Int), .int .i64 (h : Int), .int .i64 (r : Int), .int .i64 (k : Int), .int .i64 s5, .slice (some ⟨b, off, none⟩) z cap] 59) = W3 := ⟨_, rfl⟩
  have HB3 := hide (show Below w.heap.size w W3 by rw [← hW3]; exact (HB.out.trans (HB2.out.mono HB.out.size)).trans ((Below.refl _ w2).alloc (by have := HB.out.size; have := HB2.out.size; omega) _))
  have R3 : W3.rowIs w2.heap.size 59 7 (lrow [.int .i64 (o : Int), .int .i64 (s : Int), .int .i64 (h : Int), .int .i64 (r : Int), .int .i64 (k : Int), .int .i64 s5, .slice (some ⟨b, off, none⟩) z cap]) := by rw [← hW3]; exact rowL_alloc w2 [.int .i64 (o : Int), .int .i64 (s : Int), .int .i64 (h : Int), .int .i64 (r : Int), .int .i64 (k : Int), .int .i64 s5, .slice (some ⟨b, off, none⟩) z cap] _ rfl
  have d0 := R3.cell (i := 0) (by decide)
  have d1 := R3.cell (i := 1) (by decide)
  have d2 := R3.cell (i := 2) (by decide)
  have d3 := R3.cell (i := 3) (by decide)
  have d4 := R3.cell (i := 4) (by decide)
  have d5 := R3.cell (i := 5) (by decide)
  have d6 := R3.cell (i := 6) (by decide)
  simp only [lrow] at d0 d1 d2 d3 d4 d5 d6
  simp only [hW3]
  clear hW3 R3
  go_wp2_with (go_at_call 29; refine (IS.out _ HB3.out).mono ?_; rintro e w4 ⟨rfl, hb4⟩; have HB4 := hide hb4; clear hb4)
  go_ret
  exact ⟨rfl, HB3.out.trans (HB4.out.mono HB3.out.size)⟩

set_option maxHeartbeats 2000000 in
theorem check_no {o s h r k b off z cap : Nat} {s5 : Int} {B : Nat} {f : Nat → Int} (H : (⟨o, s, h, r, k⟩ : Sh).Ok) (hz : size ⟨o, s, h, r, k⟩ = z) (hc : z ≤ cap) {w : World} (hS : Sees w B (some ⟨b, off, none⟩) z f) (hB : B ≤ w.heap.size) (hf : ∀ i, i < z → 0 ≤ f i ∧ f i < 18446744073709551616) (hs : ¬ Sound ⟨o, s, h, r, k⟩ f) :
    Calls Tryz.prog 12 #[.agg #[.int .i64 (o : Int), .int .i64 (s : Int), .int .i64 (h : Int), .int .i64 (r : Int), .int .i64 (k : Int), .int .i64 s5], .slice (some ⟨b, off, none⟩) z cap] w fun e w' => e = .returned (.int .i64 130) ∧ Below w.heap.size w w' := by
  obtain ⟨W0, hW0, B0, K⟩ := box w (o : Int) (s : Int) (h : Int) (r : Int) (k : Int) s5
  have HB := hide B0
  have MO := hide (fun w1 => memoryOf_ok (s5 := s5) H (some ⟨b, off, none⟩) z cap hz w1)
  have IS := hide (fun (V : World) (hb : Below w.heap.size w V) => call_no (isSound_ok (b := b) (off := off) (s5 := s5) H hz hc (w := V) (hS.below hb hB) (by have := hb.size; omega) hf) hs)
  clear H hz hS hB hf hs
  obtain ⟨-, l0, x0, x1, x2, x3, x4, x5⟩ := K.out W0 (Below.refl _ _)
  clear B0
  go_enter Tryz.func12, Tryz.ntmps12
  go_upto_region 2 with (go_at_call 28; refine (MO.out _).mono ?_; rintro e w2 ⟨rfl, hb2⟩; have HB2 := hide hb2; clear hb2)
  obtain ⟨W3, hW3⟩ : ∃ W3, w2.alloc (.cells #[.int .i64 (o : Int), .int .i64 (s : Int), .int .i64 (h : Int), .int .i64 (r : Int), .int .i64 (k : Int), .int .i64 s5, .slice (some ⟨b, off, none⟩) z cap] 59) = W3 := ⟨_, rfl⟩
  have HB3 := hide (show Below w.heap.size w W3 by rw [← hW3]; exact (HB.out.trans (HB2.out.mono HB.out.size)).trans ((Below.refl _ w2).alloc (by have := HB.out.size; have := HB2.out.size; omega) _))
  have R3 : W3.rowIs w2.heap.size 59 7 (lrow [.int .i64 (o : Int), .int .i64 (s : Int), .int .i64 (h : Int), .int .i64 (r : Int), .int .i64 (k : Int), .int .i64 s5, .slice (some ⟨b, off, none⟩) z cap]) := by rw [← hW3]; exact rowL_alloc w2 [.int .i64 (o : Int), .int .i64 (s : Int), .int .i64 (h : Int), .int .i64 (r : Int), .int .i64 (k : Int), .int .i64 s5, .slice (some ⟨b, off, none⟩) z cap] _ rfl
  have d0 := R3.cell (i := 0) (by decide)
  have d1 := R3.cell (i := 1) (by decide)
  have d2 := R3.cell (i := 2) (by decide)
  have d3 := R3.cell (i := 3) (by decide)
  have d4 := R3.cell (i := 4) (by decide)
  have d5 := R3.cell (i := 5) (by decide)
  have d6 := R3.cell (i := 6) (by decide)
  simp only [lrow] at d0 d1 d2 d3 d4 d5 d6
  simp only [hW3]
  clear hW3 R3
  go_wp2_with (go_at_call 29; refine (IS.out _ HB3.out).mono ?_; rintro e w4 ⟨rfl, hb4⟩; have HB4 := hide hb4; clear hb4)
  go_ret
  exact ⟨rfl, HB3.out.trans (HB4.out.mono HB3.out.size)⟩
end Vw
end Go.Proofs.YtecjegjnnahddaaGreat

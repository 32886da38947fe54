/-
  Lemmas: VwLg, VwBq, VwBs, VwZ, VwQ, VwT.
-/
import Derived.Test.YtecjegjnnahddaaTp22
import Derived.Test.YtecjegjnnahddaaTp10
import Derived.Test.YtecjegjnnahddaaTp25
import Derived.Test.YtecjegjnnahddaaTp11
import Derived.Test.YtecjegjnnahddaaTp15
import Derived.Test.YtecjegjnnahddaaTp21
/-
  View: the package's Lay of a wrong shape
-/
namespace Go.Proofs.Ytecjegjnnahddaa
open Go.RowKit
set_option linter.unusedVariables false
set_option linter.unusedSimpArgs false
set_option maxRecDepth 20000
namespace Vw
open Shape

set_option maxHeartbeats 4000000 in
theorem vlay_bad {w : World} {s0 s1 s2 s3 s4 s5 : Int} {c : Cv} {a : Av} (H : ¬ R5 s0 s1 s2 s3 s4) :
    Calls Try.prog 18 #[.agg #[.int .i64 s0, .int .i64 s1, .int .i64 s2, .int .i64 s3, .int .i64 s4, .int .i64 s5], vl c a] w fun e w' => e = .returned (.tuple #[.slice none 0 0, .int .i64 120]) ∧ Below w.heap.size w w' := by
  have SZ := hide (fun w1 => size_bad (s5 := s5) H w1)
  obtain ⟨W1, hW1⟩ : ∃ W, (w.alloc (.cells #[.int .i64 s0, .int .i64 s1, .int .i64 s2, .int .i64 s3, .int .i64 s4, .int .i64 s5] 23)).alloc (.cells #[.int .i64 c.ph, .int .i64 c.co, .int .u64 c.ro, .slice a.aa c.na a.ca, .slice a.ra c.nr a.cr, .slice a.wa c.nw a.cw, .slice a.oa c.no a.cb, .slice a.fa c.fr.length a.cf, .slice a.ga c.gr.length a.cg, .slice a.qa c.qu.length a.cq, .int .u64 (c.cn 0), .int .u64 (c.cn 1), .int .u64 (c.cn 2), .int .u64 (c.cn 3)] 33) = W := ⟨_, rfl⟩
  have RM := hide (show W1.rowIs w.heap.size 23 6 (lrow [.int .i64 s0, .int .i64 s1, .int .i64 s2, .int .i64 s3, .int .i64 s4, .int .i64 s5]) by rw [← hW1]; exact (rowL_alloc w [.int .i64 s0, .int .i64 s1, .int .i64 s2, .int .i64 s3, .int .i64 s4, .int .i64 s5] _ rfl).alloc _)
  have HB1 := hide (show Below w.heap.size w W1 by rw [← hW1]; exact ((Below.refl _ w).alloc (Nat.le_refl _) _).alloc (by simp) _)
  obtain ⟨sb, hsb⟩ : ∃ sb, w.heap.size = sb := ⟨_, rfl⟩
  have z0 := RM.out.cell (i := 0) (by decide)
  have z1 := RM.out.cell (i := 1) (by decide)
  have z2 := RM.out.cell (i := 2) (by decide)
  have z3 := RM.out.cell (i := 3) (by decide)
  have z4 := RM.out.cell (i := 4) (by decide)
  have z5 := RM.out.cell (i := 5) (by decide)
  simp only [lrow] at z0 z1 z2 z3 z4 z5
  simp only [vl]
  clear H
  go_enter Try.func18, Try.ntmps18
  go_upto_region 1 with (fail)
  try simp only [hW1]
  try simp only [hsb]
  rw [hsb] at RM z0 z1 z2 z3 z4 z5
  go_wp2_with (go_at_call 39; refine (SZ.out _).mono ?_; rintro e w1 ⟨rfl, hb1⟩; have HB2 := hide hb1; clear hb1; clear z0 z1 z2 z3 z4 z5)
  exact bodyPost_ret (results_tmp2 (by rfl) _ _ _) rfl ⟨rfl, HB1.out.trans (HB2.out.mono HB1.out.size)⟩
end Vw
end Go.Proofs.Ytecjegjnnahddaa

/-
  View, pure: what is seen is laid, and seen again the same
-/
namespace Go.Proofs.Ytecjegjnnahddaa
open Go.RowKit
set_option linter.unusedVariables false
set_option linter.unusedSimpArgs false
set_option linter.unnecessarySimpa false
set_option maxRecDepth 20000
set_option linter.unusedSectionVars false
namespace Vw
open Shape

theorem bitN (b : Bool) (n : Int) : bit b n = if b = true then n else 0 := by cases b <;> rfl
theorem unpacked (u o f t : Bool) (ag ge : Int) (h0 : 0 ≤ ag) (h1 : ag ≤ 255) (h2 : 0 ≤ ge) (h3 : ge ≤ 4294967295) :
    bitB (packW u o f t ag ge) 1 = u ∧ packW u o f t ag ge / 2 % 2 = (if o = true then 1 else 0) ∧ bitB (packW u o f t ag ge) 4 = f ∧ bitB (packW u o f t ag ge) 8 = t ∧ packW u o f t ag ge / 256 % 256 = ag ∧ packW u o f t ag ge / 4294967296 = ge := by
  unfold packW bitB
  simp only [bitN]
  cases u <;> cases o <;> cases f <;> cases t <;> simp <;> omega
theorem al_congr {o : Nat} {nx ny : Int → Int} (h : ∀ c : Int, 1 ≤ c → c ≤ (o : Int) → nx c = ny c) : ∀ (k : Nat) (seen : List Int) (cur : Int), al o nx k seen cur = al o ny k seen cur
  | 0, _, _ => rfl
  | k + 1, seen, cur => by
    simp only [al]
    split
    · rename_i hc
      rw [h cur hc.1 hc.2.1]
      exact al_congr h k _ _
    · rfl
theorem al_head {o : Nat} {nx : Int → Int} : ∀ (k : Nat) (seen : List Int) (cur : Int), ∃ t, (al o nx k seen cur).1 = seen ++ t
  | 0, seen, cur => ⟨[], by simp [al]⟩
  | k + 1, seen, cur => by
    simp only [al]
    split
    · obtain ⟨t, ht⟩ := al_head k (seen ++ [cur]) (nx cur)
      exact ⟨cur :: t, by rw [ht]; simp⟩
    · exact ⟨[], by simp⟩
/-- A list that is seen begins at the head's number, or is empty. -/
theorem al_first {o : Nat} (ho : 1 ≤ o) {nx : Int → Int} {cur : Int} : (1 ≤ cur ∧ cur ≤ (o : Int) ∧ (al o nx o [] cur).1.headD 0 = cur) ∨ (¬ (1 ≤ cur ∧ cur ≤ (o : Int)) ∧ al o nx o [] cur = ([], cur)) := by
  by_cases h : 1 ≤ cur ∧ cur ≤ (o : Int)
  · left
    refine ⟨h.1, h.2, ?_⟩
    obtain ⟨k, rfl⟩ : ∃ k, o = k + 1 := ⟨o - 1, by omega⟩
    simp only [al]
    rw [if_pos ⟨h.1, h.2, by simp⟩]
    obtain ⟨t, ht⟩ := al_head (o := k + 1) (nx := nx) k ([] ++ [cur]) (nx cur)
    rw [ht]
    simp
  · right
    exact ⟨h, al_stop _ _ _ (fun hc => h ⟨hc.1, hc.2.1⟩)⟩
/-- .. and laid from its first number it is seen the same; where it ended at nought, so it does again. -/
theorem al_again {o : Nat} (ho : 1 ≤ o) (ho2 : o ≤ 64) {nx ny : Int → Int} (h : ∀ c : Int, 1 ≤ c → c ≤ (o : Int) → ny c = nx c) (cur : Int) : (al o ny o [] (hdV (al o nx o [] cur).1 % 4294967296)).1 = (al o nx o [] cur).1 ∧ ((al o nx o [] cur).2 = 0 → (al o ny o [] (hdV (al o nx o [] cur).1 % 4294967296)).2 = 0) := by
  rw [al_congr h]
  rcases al_first ho (nx := nx) (cur := cur) with ⟨h1, h2, h3⟩ | ⟨h1, h2⟩
  · have e : hdV (al o nx o [] cur).1 % 4294967296 = cur := by unfold hdV hd; rw [h3]; omega
    rw [e]
    exact ⟨rfl, fun h => h⟩
  · have e : hdV (al o nx o [] cur).1 % 4294967296 = 0 := by rw [h2]; rfl
    rw [e, al_stop o nx o (by omega), h2]
    exact ⟨rfl, fun _ => rfl⟩
section
variable {x : Sh} {f : Nat → Int} (H : x.Ok) (hf : ∀ i, i < size x → 0 ≤ f i ∧ f i < 18446744073709551616)
include H hf
theorem z0 : 0 ≤ f 0 ∧ f 0 < 18446744073709551616 := hf 0 (by have := lay_out x; omega)
theorem mo_cv : mo (cv x f) = f 0 % 8 + f 0 / 8 % 2 * 8 + f 0 / 256 * 256 := by
  have h0 := z0 H hf
  have hm : momV 0 (f 0 / 8 % 2) (f 0 / 256) = f 0 / 8 % 2 * 8 + f 0 / 256 * 256 := by
    unfold momV momB
    rw [if_pos (by simp; omega)]
    omega
  show bits .or .u64 (momV 0 (f 0 / 8 % 2) (f 0 / 256)) (IntKind.u64.wrap (f 0 % 8)) = _
  rw [hm, wrapU, show f 0 % 8 % 18446744073709551616 = f 0 % 8 by omega]
  rw [u64_or _ _ (by omega) (by omega) (by omega) (by omega), Nat.or_comm, ← u64_or _ _ (by omega) (by omega) (by omega) (by omega)]
  rw [or3 _ _ (by omega) (by omega) (by omega) (by omega) (by omega)]
  omega
theorem head_cv {j : Nat} (hj : j < x.o) : lwF x (cv x f) (pO x j) = packW (bitB (f (pO x j)) 1) (ownB (f (pO x j) / 2 % 2 == f 0 / 8 % 2) (f 0 / 8 % 2)) (bitB (f (pO x j)) 4) (bitB (f (pO x j)) 8) (f (pO x j) / 256 % 256) (f (pO x j) / 4294967296) := by
  have h1 := (at_obj H hj).1
  have hw : 0 < ow x := by have := lay_out x; omega
  have hp := hf (pO x j) (by omega)
  have := lw_obj (x := x) (c := cv x f) (j := j) (q := 0) hw
  rw [Nat.add_zero] at this
  rw [this]
  show packV _ _ _ _ _ _ _ = _
  unfold packV
  have hb : packB (f (pO x j) / 256 % 256) (f (pO x j) / 4294967296) (f 0 / 8 % 2) = true := by simp [packB]; omega
  exact if_pos hb
theorem obj_again {j : Nat} (hj : j < x.o) : ObE (obAt x (lwF x (cv x f)) j) (obAt x f j) := by
  have h1 := (at_obj H hj).1
  have hl := lay_out x
  have hp := hf (pO x j) (by omega)
  have hh := head_cv H hf hj
  have h0 : lwF x (cv x f) 0 = f 0 % 8 + f 0 / 8 % 2 * 8 + f 0 / 256 * 256 := mo_cv H hf
  have hz := z0 H hf
  have hu := unpacked (bitB (f (pO x j)) 1) (ownB (f (pO x j) / 2 % 2 == f 0 / 8 % 2) (f 0 / 8 % 2)) (bitB (f (pO x j)) 4) (bitB (f (pO x j)) 8) (f (pO x j) / 256 % 256) (f (pO x j) / 4294967296) (by omega) (by omega) (by omega) (by omega)
  have e1 := lw_obj (x := x) (c := cv x f) (j := j) (q := 1) (by omega)
  have e2 := lw_obj (x := x) (c := cv x f) (j := j) (q := 2) (by omega)
  unfold ObE obAt
  simp only [hh, h0, hu]
  refine ⟨trivial, ?_, trivial, trivial, trivial, trivial, e1, e2, trivial, fun i hi => ?_⟩
  · have e : (f 0 % 8 + f 0 / 8 % 2 * 8 + f 0 / 256 * 256) / 8 % 2 = f 0 / 8 % 2 := by omega
    rw [e]
    have hc : f 0 / 8 % 2 = 0 ∨ f 0 / 8 % 2 = 1 := by omega
    have hb : f (pO x j) / 2 % 2 = 0 ∨ f (pO x j) / 2 % 2 = 1 := by omega
    rcases hc with hc | hc <;> rcases hb with hb | hb <;> rw [hc, hb] <;> rfl
  · have e3 := lw_obj (x := x) (c := cv x f) (j := j) (q := 3 + i) (by (try simp only at hi); omega)
    rw [e3]
    unfold obW
    rw [if_neg (by omega), if_neg (by omega), if_neg (by omega), if_pos (by show 3 + i - 3 < x.s; omega)]
    show f (pO x j + (3 + (3 + i - 3))) = _
    rw [show 3 + (3 + i - 3) = 3 + i by omega]
theorem nxt_again (q : Nat) (hq : q = 1 ∨ q = 2) (c : Int) (h1 : 1 ≤ c) (h2 : c ≤ (x.o : Int)) : nxt x (lwF x (cv x f)) q c = nxt x f q c := by
  unfold nxt
  have hl := lay_out x
  rw [lw_obj (by omega)]
  rcases hq with rfl | rfl <;> rfl
theorem list_again (a q : Nat) (hq : q = 1 ∨ q = 2) (ha : lwF x (cv x f) a = hdV (lst x f a q).1) : (lst x (lwF x (cv x f)) a q).1 = (lst x f a q).1 ∧ ((lst x f a q).2 = 0 → (lst x (lwF x (cv x f)) a q).2 = 0) := by
  have h := al_again (o := x.o) H.o1 H.o2 (nx := nxt x f q) (ny := nxt x (lwF x (cv x f)) q) (nxt_again H hf q hq) (f a % 4294967296)
  unfold lst
  rw [ha]
  exact h
/-- What is laid for what is seen shows the same. -/
theorem cv_again : Cq (cv x (lwF x (cv x f))) (cv x f) := by
  have hm : lwF x (cv x f) 0 = _ := mo_cv H hf
  have hz := z0 H hf
  have hl := lay_out x
  refine ⟨?_, ?_, ?_, ⟨lw_cn (x := x) (c := cv x f) (i := 0) (by decide), lw_cn (x := x) (c := cv x f) (i := 1) (by decide), lw_cn (x := x) (c := cv x f) (i := 2) (by decide), lw_cn (x := x) (c := cv x f) (i := 3) (by decide)⟩, ⟨rfl, fun i hi => ?_⟩, ⟨rfl, fun j hj => ⟨rfl, fun i hi => ?_⟩⟩, ⟨rfl, fun i hi => ?_⟩, ⟨rfl, fun j hj => obj_again H hf hj⟩, (list_again H hf 1 1 (.inl rfl) rfl).1, (list_again H hf 2 1 (.inl rfl) rfl).1, (list_again H hf 3 2 (.inr rfl) rfl).1⟩
  · show lwF x (cv x f) 0 % 8 = f 0 % 8
    rw [hm]; omega
  · show lwF x (cv x f) 0 / 8 % 2 = f 0 / 8 % 2
    rw [hm]; omega
  · show lwF x (cv x f) 0 / 256 = f 0 / 256
    rw [hm]; omega
  · show lwF x (cv x f) (8 + i) = f (8 + i)
    rw [lw_ack hi, if_pos (show i < (cv x f).na from hi)]
    rfl
  · show lwF x (cv x f) (bR x + j * x.r + i) = f (bR x + j * x.r + i)
    rw [lw_root hj hi, if_pos (show i < (cv x f).rn j from hi)]
    rfl
  · show lwF x (cv x f) (bK x + i) = f (bK x + i)
    rw [lw_weak hi, if_pos (show i < (cv x f).nw from hi)]
    rfl
end
end Vw
end Go.Proofs.Ytecjegjnnahddaa

/-
  View, pure: views that show the same: what is told of one holds of the other
-/
namespace Go.Proofs.Ytecjegjnnahddaa
open Go.RowKit
set_option linter.unusedVariables false
set_option linter.unusedSimpArgs false
set_option linter.unnecessarySimpa false
namespace Vw
open Shape

theorem Cq.at {c d : Cv} (h : Cq d c) {j : Nat} (hj : j < c.no) : ObE (d.ob j) (c.ob j) := h.ob.2 j (by rw [h.ob.1]; exact hj)
theorem Cq.vl {c d : Cv} (h : Cq d c) (a : Av) : vl d a = vl c a := by
  unfold Vw.vl
  rw [h.ph, h.co, h.ro, h.ac.1, h.rt.1, h.wk.1, h.ob.1, h.fr, h.gr, h.qu, h.cn.1, h.cn.2.1, h.cn.2.2.1, h.cn.2.2.2]
theorem Cq.shows {c d : Cv} (h : Cq d c) {w : World} {a : Av} (hs : Shows w d a) : Shows w c a := by
  refine ⟨?_, fun j hj => ?_, ?_, fun j hj => ?_, ?_, ?_, ?_⟩
  · intro j hj
    obtain ⟨b, off, e, hb, hc⟩ := hs.ac j (by rw [h.ac.1]; exact hj)
    exact ⟨b, off, e, hb, by rw [hc, h.ac.2 j (by rw [h.ac.1]; exact hj)]⟩
  · have hj' : j < d.nr := by rw [h.rt.1]; exact hj
    obtain ⟨b, off, ai, ci, e, hb, hc, hss⟩ := hs.rt j hj'
    have e1 := h.rt.2 j hj'
    refine ⟨b, off, ai, ci, e, hb, by rw [hc, e1.1], fun i hi => ?_⟩
    obtain ⟨b2, o2, e2, hb2, hc2⟩ := hss i (by rw [e1.1]; exact hi)
    exact ⟨b2, o2, e2, hb2, by rw [hc2, e1.2 i (by rw [e1.1]; exact hi)]⟩
  · intro j hj
    obtain ⟨b, off, e, hb, hc⟩ := hs.wk j (by rw [h.wk.1]; exact hj)
    exact ⟨b, off, e, hb, by rw [hc, h.wk.2 j (by rw [h.wk.1]; exact hj)]⟩
  · have hj' : j < d.no := by rw [h.ob.1]; exact hj
    obtain ⟨b, off, ai, ci, e, hb, hc, hss⟩ := hs.ob j hj'
    obtain ⟨e1, e2, e3, e4, e5, e6, e7, e8, e9, e10⟩ := h.at hj
    refine ⟨b, off, ai, ci, e, hb, fun q hq => ?_, fun i hi => ?_⟩
    · rw [hc q hq, e9]
      match q, hq with
      | 0, _ => simp only [Ob.cell, e1]
      | 1, _ => simp only [Ob.cell, e2]
      | 2, _ => simp only [Ob.cell, e3]
      | 3, _ => simp only [Ob.cell, e4]
      | 4, _ => simp only [Ob.cell, e5]
      | 5, _ => simp only [Ob.cell, e6]
      | 6, _ => simp only [Ob.cell, e7]
      | 7, _ => simp only [Ob.cell, e8]
      | 8, _ => simp only [Ob.cell]
    · obtain ⟨b2, o2, e2', hb2, hc2⟩ := hss i (by rw [e9]; exact hi)
      exact ⟨b2, o2, e2', hb2, by rw [hc2, e10 i (by rw [e9]; exact hi)]⟩
  · rw [← h.fr]; exact hs.fr
  · rw [← h.gr]; exact hs.gr
  · rw [← h.qu]; exact hs.qu
theorem Cq.good {c d : Cv} (h : Cq d c) {u : Int} (hg : good c u) : good d u := by
  obtain ⟨h1, h2, h3, h4⟩ := hg
  have e := h.at (j := (u % 4294967296).toNat - 1) (by omega)
  exact ⟨h1, by rw [h.ob.1]; exact h2, by rw [e.1]; exact h3, by rw [e.2.2.2.2.2.1]; exact h4⟩
theorem Cq.obOk {c d : Cv} (h : Cq d c) {j : Nat} (hj : j < c.no) (ho : obOk c j) : obOk d j := by
  obtain ⟨e1, e2, e3, e4, e5, e6, e7, e8, e9, e10⟩ := h.at hj
  obtain ⟨h1, h2⟩ := ho
  unfold Vw.obOk
  rw [e1, e2, e6, h.fr, e9]
  exact ⟨h1, fun hu => ⟨(h2 hu).1, fun q hq => by rw [e10 q (by rw [e9]; exact hq)]; exact (h2 hu).2 q hq⟩⟩
theorem Cq.ha {c d : Cv} (h : Cq d c) (ho : HaOk c) : HaOk d := by
  refine ⟨fun i hi => ?_, fun j hj i hi => ?_, fun j hj hu i hi => ?_⟩
  · rw [h.wk.2 i hi]
    exact fun hn => h.good (ho.wk i (by rw [← h.wk.1]; exact hi) hn)
  · have e := h.rt.2 j hj
    rw [e.2 i hi]
    exact fun hn => h.good (ho.rt j (by rw [← h.rt.1]; exact hj) i (by rw [← e.1]; exact hi) hn)
  · have hj' : j < c.no := by rw [← h.ob.1]; exact hj
    obtain ⟨e1, e2, e3, e4, e5, e6, e7, e8, e9, e10⟩ := h.at hj'
    rw [e10 i hi]
    exact fun hn => h.good (ho.ob j hj' (by rw [← e1]; exact hu) i (by rw [← e9]; exact hi) hn)
section
variable {x : Sh} {f : Nat → Int} (H : x.Ok) (hf : ∀ i, i < size x → 0 ≤ f i ∧ f i < 18446744073709551616)
include H hf
theorem sound_again (h : Sound x f) : Sound x (lwF x (cv x f)) := by
  have Q := cv_again H hf
  have K := cv_ok H hf
  obtain ⟨h1, ⟨h2, h3, h4⟩, h5, h6, h7, h8⟩ := h
  refine ⟨by rw [Q.ph]; exact h1, ⟨(list_again H hf 1 1 (.inl rfl) rfl).2 h2, (list_again H hf 2 1 (.inl rfl) rfl).2 h3, (list_again H hf 3 2 (.inr rfl) rfl).2 h4⟩, by rw [Q.gr]; exact h5, fun j hj => ?_, fun i hi => ?_, Q.ha h8⟩
  · exact Q.obOk (by rw [← Q.ob.1]; exact hj) (h6 j (by rw [← Q.ob.1]; exact hj))
  · rw [Q.qu] at hi
    have hr := K.qr i hi
    obtain ⟨e1, e2, e3, e4, -⟩ := Q.at (j := i.toNat - 1) (by omega)
    obtain ⟨q1, q2, q3⟩ := h7 i hi
    exact ⟨by rw [e1]; exact q1, by rw [e3]; exact q2, by rw [e4]; exact q3⟩
theorem bnd_cv : Bnd (cv x f) := by
  have K := cv_ok H hf
  have hl := lay_out x
  have hz := (sizes H).2.2.2.2
  have h0 := hf 0 (by omega)
  refine ⟨?_, fun i hi => hf (4 + i) (by omega), fun i hi => hf (8 + i) ?_, K.rt, K.wk, fun j hj => ⟨?_, ?_, ?_, K.sl j hj⟩⟩
  · show 0 ≤ f 0 / 256
    omega
  · have : i < x.h := hi
    omega
  all_goals
    have hj : j < x.o := hj
    have h1 : (j + 1) * ow x ≤ x.o * ow x := Nat.mul_le_mul_right _ hj
    rw [Nat.succ_mul] at h1
    have h2 : pO x j = bO x + j * ow x := rfl
  · have := hf (pO x j) (by omega)
    show 0 ≤ f (pO x j) / 4294967296
    omega
  · exact hf (pO x j + 1) (by omega)
  · exact hf (pO x j + 2) (by omega)
end
end Vw
end Go.Proofs.Ytecjegjnnahddaa

/-
  View, pure: a fresh memory is sound.
-/
namespace Go.Proofs.Ytecjegjnnahddaa
open Go.RowKit
set_option linter.unusedVariables false
set_option linter.unusedSimpArgs false
set_option linter.unnecessarySimpa false
namespace Vw
open Shape

theorem F_zero {x : Sh} : ∀ {m j : Nat}, ¬ j = 1 → (∀ i, i < m → ¬ j = bO x + i * ow x + 1) → F x m j = 0
  | 0, j, h1, _ => by simp [F, putF, h1]
  | m + 1, j, h1, h2 => by
    have ih := F_zero (m := m) h1 (fun i hi => h2 i (by omega))
    simp only [F, putF]
    rw [if_neg (h2 m (by omega))]
    exact ih
def rng (k : Nat) : List Int := (List.range k).map fun (i : Nat) => (i : Int) + 1
theorem rng_more (k : Nat) : rng (k + 1) = rng k ++ [(k : Int) + 1] := by simp [rng, List.range_succ]
theorem rng_mem {k : Nat} {c : Int} : c ∈ rng k ↔ 1 ≤ c ∧ c ≤ (k : Int) := by
  simp only [rng, List.mem_map, List.mem_range]
  constructor
  · rintro ⟨i, hi, rfl⟩; omega
  · intro h; exact ⟨c.toNat - 1, by omega, by omega⟩
theorem al_rng {o : Nat} {nx : Int → Int} (hn : ∀ k, k < o → nx ((k : Int) + 1) = if k + 1 < o then (k : Int) + 2 else 0) : ∀ (d k : Nat), k + d = o → al o nx d (rng k) (if k < o then (k : Int) + 1 else 0) = (rng o, 0)
  | 0, k, h => by
    have : k = o := by omega
    subst this
    simp [al]
  | d + 1, k, h => by
    have hk : k < o := by omega
    simp only [al]
    rw [if_pos hk, if_pos ⟨by omega, by omega, fun hm => by have := rng_mem.1 hm; omega⟩, ← rng_more, hn k hk]
    have ih := al_rng hn d (k + 1) (by omega)
    rw [← ih]
    congr 1
theorem pO_link (x : Sh) (j : Nat) : pO x j + 1 = bO x + j * ow x + 1 := rfl
theorem fresh_free {x : Sh} (H : x.Ok) : lst x (F x (x.o - 1)) 1 1 = (rng x.o, 0) := by
  unfold lst
  rw [F_free (bO8 x)]
  have h1 := H.o1
  have h2 := H.o2
  have := al_rng (o := x.o) (nx := nxt x (F x (x.o - 1)) 1) (fun k hk => by
    unfold nxt
    rw [show ((k : Int) + 1).toNat - 1 = k by omega, pO_link, F_link]
    by_cases hk2 : k + 1 < x.o
    · rw [if_pos (by omega), if_pos hk2]; omega
    · rw [if_neg (by omega), if_neg hk2]; rfl) x.o 0 (by omega)
  rw [if_pos (by omega)] at this
  simpa [rng] using this
theorem fresh_low {x : Sh} (H : x.Ok) {i : Nat} (hi : ¬ i = 1) (h8 : i < bO x + 1) : F x (x.o - 1) i = 0 := F_zero hi (fun j _ h => by have := bO8 x; omega)
theorem fresh_obj {x : Sh} (H : x.Ok) {j q : Nat} (hq : ¬ q = 1) (hq2 : q < ow x) : F x (x.o - 1) (pO x j + q) = 0 := by
  refine F_zero (by have := bO8 x; unfold pO; omega) (fun i _ h => ?_)
  unfold pO at h
  have h3 := ow3 x
  rcases Nat.lt_trichotomy i j with l | l | l
  · have := at_lt (x := x) l
    have h5 : (i + 1) * ow x ≤ j * ow x := Nat.mul_le_mul_right _ l
    rw [Nat.succ_mul] at h5
    omega
  · subst l; omega
  · have h5 : (j + 1) * ow x ≤ i * ow x := Nat.mul_le_mul_right _ l
    rw [Nat.succ_mul] at h5
    omega
theorem stop0 (o : Nat) (nx : Int → Int) (k : Nat) : al o nx k [] 0 = ([], 0) := al_stop o nx k (by omega)
theorem fresh_sound {x : Sh} (H : x.Ok) : Sound x (F x (x.o - 1)) := by
  have b8 := bO8 x
  have L := lay_out x
  have f0 : F x (x.o - 1) 0 = 0 := fresh_low H (by omega) (by omega)
  have f2 : F x (x.o - 1) 2 = 0 := fresh_low H (by omega) (by omega)
  have f3 : F x (x.o - 1) 3 = 0 := fresh_low H (by omega) (by omega)
  have g2 : lst x (F x (x.o - 1)) 2 1 = ([], 0) := by unfold lst; rw [f2]; exact stop0 _ _ _
  have g3 : lst x (F x (x.o - 1)) 3 2 = ([], 0) := by unfold lst; rw [f3]; exact stop0 _ _ _
  have g1 := fresh_free H
  have hz : ∀ u, u = 0 → hOk (cv x (F x (x.o - 1))) u := fun u hu h => absurd hu h
  have h0 : ∀ j, F x (x.o - 1) (pO x j) = 0 := fun j => by have := fresh_obj H (j := j) (q := 0) (by omega) (by have := ow3 x; omega); simpa using this
  have hsl : ∀ j q, q < x.s → F x (x.o - 1) (pO x j + (3 + q)) = 0 := fun j q hq => fresh_obj H (by omega) (by omega)
  refine ⟨?_, ⟨?_, ?_, ?_⟩, ?_, ?_, ?_, ?_⟩
  · simp [cv, f0]
  · rw [g1]
  · rw [g2]
  · rw [g3]
  · simp [cv, g2]
  · intro j hj
    simp only [cv] at hj
    refine ⟨fun hu => ?_, fun _ => ⟨.inl ?_, fun q hq => ?_⟩⟩
    · simp [cv, obAt, bitB, h0] at hu
    · simp only [cv, g1]; exact rng_mem.2 ⟨by omega, by omega⟩
    · exact hsl j q hq
  · intro i hi
    simp [cv, g3] at hi
  · refine ⟨fun i hi => hz _ ?_, fun j hj i hi => hz _ ?_, fun j hj hu => ?_⟩
    · simp only [cv] at hi ⊢
      exact fresh_low H (by omega) (by omega)
    · simp only [cv] at hi hj ⊢
      have := (at_root H hj).1
      exact fresh_low H (by omega) (by omega)
    · simp [cv, obAt, bitB, h0] at hu
end Vw
end Go.Proofs.Ytecjegjnnahddaa

/-
  View: Check of the package
-/
namespace Go.Proofs.Ytecjegjnnahddaa
open Go.RowKit
set_option linter.unusedVariables false
set_option linter.unusedSimpArgs false
set_option linter.unnecessarySimpa false
set_option maxRecDepth 20000
namespace Vw
open Shape

set_option maxHeartbeats 2000000 in
theorem check_yes {o s h r k b off z cap : Nat} {s5 : Int} {B : Nat} {f : Nat → Int} (H : (⟨o, s, h, r, k⟩ : Sh).Ok) (hz : size ⟨o, s, h, r, k⟩ = z) (hc : z ≤ cap) {w : World} (hS : Sees w B (some ⟨b, off, none⟩) z f) (hB : B ≤ w.heap.size) (hf : ∀ i, i < z → 0 ≤ f i ∧ f i < 18446744073709551616) (hs : Sound ⟨o, s, h, r, k⟩ f) :
    Calls Try.prog 11 #[.agg #[.int .i64 (o : Int), .int .i64 (s : Int), .int .i64 (h : Int), .int .i64 (r : Int), .int .i64 (k : Int), .int .i64 s5], .slice (some ⟨b, off, none⟩) z cap] w fun e w' => e = .returned (.int .i64 0) ∧ Below w.heap.size w w' := by
  obtain ⟨W0, hW0, B0, K⟩ := box w (o : Int) (s : Int) (h : Int) (r : Int) (k : Int) s5
  have HB := hide B0
  have MO := hide (fun w1 => memoryOf_ok (s5 := s5) H (some ⟨b, off, none⟩) z cap hz w1)
  have IS := hide (fun (V : World) (hb : Below w.heap.size w V) => call_yes (isSound_ok (b := b) (off := off) (s5 := s5) H hz hc (w := V) (hS.below hb hB) (by have := hb.size; omega) hf) hs)
  clear H hz hS hB hf hs
  obtain ⟨-, l0, x0, x1, x2, x3, x4, x5⟩ := K.out W0 (Below.refl _ _)
  clear B0
  go_enter Try.func11, Try.ntmps11
  go_upto_region 2 with (go_at_call 30; refine (MO.out _).mono ?_; rintro e w2 ⟨rfl, hb2⟩; have HB2 := hide hb2; clear hb2)
  obtain ⟨W3, hW3⟩ : ∃ W3, w2.alloc (.cells #[.int .i64 (o : Int), .int .i64 (s : Int), .int .i64 (h : Int), .int .i64 (r : Int), .int .i64 (k : Int), .int .i64 s5, .slice (some ⟨b, off, none⟩) z cap] 70) = W3 := ⟨_, rfl⟩
  have HB3 := hide (show Below w.heap.size w W3 by rw [← hW3]; exact (HB.out.trans (HB2.out.mono HB.out.size)).trans ((Below.refl _ w2).alloc (by have := HB.out.size; have := HB2.out.size; omega) _))
  have R3 : W3.rowIs w2.heap.size 70 7 (lrow [.int .i64 (o : Int), .int .i64 (s : Int), .int .i64 (h : Int), .int .i64 (r : Int), .int .i64 (k : Int), .int .i64 s5, .slice (some ⟨b, off, none⟩) z cap]) := by rw [← hW3]; exact rowL_alloc w2 [.int .i64 (o : Int), .int .i64 (s : Int), .int .i64 (h : Int), .int .i64 (r : Int), .int .i64 (k : Int), .int .i64 s5, .slice (some ⟨b, off, none⟩) z cap] _ rfl
  have d0 := R3.cell (i := 0) (by decide)
  have d1 := R3.cell (i := 1) (by decide)
  have d2 := R3.cell (i := 2) (by decide)
  have d3 := R3.cell (i := 3) (by decide)
  have d4 := R3.cell (i := 4) (by decide)
  have d5 := R3.cell (i := 5) (by decide)
  have d6 := R3.cell (i := 6) (by decide)
  simp only [lrow] at d0 d1 d2 d3 d4 d5 d6
  simp only [hW3]
  clear hW3 R3
  go_wp2_with (go_at_call 35; refine (IS.out _ HB3.out).mono ?_; rintro e w4 ⟨rfl, hb4⟩; have HB4 := hide hb4; clear hb4)
  go_ret
  exact ⟨rfl, HB3.out.trans (HB4.out.mono HB3.out.size)⟩

set_option maxHeartbeats 2000000 in
theorem check_no {o s h r k b off z cap : Nat} {s5 : Int} {B : Nat} {f : Nat → Int} (H : (⟨o, s, h, r, k⟩ : Sh).Ok) (hz : size ⟨o, s, h, r, k⟩ = z) (hc : z ≤ cap) {w : World} (hS : Sees w B (some ⟨b, off, none⟩) z f) (hB : B ≤ w.heap.size) (hf : ∀ i, i < z → 0 ≤ f i ∧ f i < 18446744073709551616) (hs : ¬ Sound ⟨o, s, h, r, k⟩ f) :
    Calls Try.prog 11 #[.agg #[.int .i64 (o : Int), .int .i64 (s : Int), .int .i64 (h : Int), .int .i64 (r : Int), .int .i64 (k : Int), .int .i64 s5], .slice (some ⟨b, off, none⟩) z cap] w fun e w' => e = .returned (.int .i64 130) ∧ Below w.heap.size w w' := by
  obtain ⟨W0, hW0, B0, K⟩ := box w (o : Int) (s : Int) (h : Int) (r : Int) (k : Int) s5
  have HB := hide B0
  have MO := hide (fun w1 => memoryOf_ok (s5 := s5) H (some ⟨b, off, none⟩) z cap hz w1)
  have IS := hide (fun (V : World) (hb : Below w.heap.size w V) => call_no (isSound_ok (b := b) (off := off) (s5 := s5) H hz hc (w := V) (hS.below hb hB) (by have := hb.size; omega) hf) hs)
  clear H hz hS hB hf hs
  obtain ⟨-, l0, x0, x1, x2, x3, x4, x5⟩ := K.out W0 (Below.refl _ _)
  clear B0
  go_enter Try.func11, Try.ntmps11
  go_upto_region 2 with (go_at_call 30; refine (MO.out _).mono ?_; rintro e w2 ⟨rfl, hb2⟩; have HB2 := hide hb2; clear hb2)
  obtain ⟨W3, hW3⟩ : ∃ W3, w2.alloc (.cells #[.int .i64 (o : Int), .int .i64 (s : Int), .int .i64 (h : Int), .int .i64 (r : Int), .int .i64 (k : Int), .int .i64 s5, .slice (some ⟨b, off, none⟩) z cap] 70) = W3 := ⟨_, rfl⟩
  have HB3 := hide (show Below w.heap.size w W3 by rw [← hW3]; exact (HB.out.trans (HB2.out.mono HB.out.size)).trans ((Below.refl _ w2).alloc (by have := HB.out.size; have := HB2.out.size; omega) _))
  have R3 : W3.rowIs w2.heap.size 70 7 (lrow [.int .i64 (o : Int), .int .i64 (s : Int), .int .i64 (h : Int), .int .i64 (r : Int), .int .i64 (k : Int), .int .i64 s5, .slice (some ⟨b, off, none⟩) z cap]) := by rw [← hW3]; exact rowL_alloc w2 [.int .i64 (o : Int), .int .i64 (s : Int), .int .i64 (h : Int), .int .i64 (r : Int), .int .i64 (k : Int), .int .i64 s5, .slice (some ⟨b, off, none⟩) z cap] _ rfl
  have d0 := R3.cell (i := 0) (by decide)
  have d1 := R3.cell (i := 1) (by decide)
  have d2 := R3.cell (i := 2) (by decide)
  have d3 := R3.cell (i := 3) (by decide)
  have d4 := R3.cell (i := 4) (by decide)
  have d5 := R3.cell (i := 5) (by decide)
  have d6 := R3.cell (i := 6) (by decide)
  simp only [lrow] at d0 d1 d2 d3 d4 d5 d6
  simp only [hW3]
  clear hW3 R3
  go_wp2_with (go_at_call 35; refine (IS.out _ HB3.out).mono ?_; rintro e w4 ⟨rfl, hb4⟩; have HB4 := hide hb4; clear hb4)
  go_ret
  exact ⟨rfl, HB3.out.trans (HB4.out.mono HB3.out.size)⟩
end Vw
end Go.Proofs.Ytecjegjnnahddaa

/-
  View: the example: a fresh memory is seen, and is sound
-/
namespace Go.Proofs.Ytecjegjnnahddaa
open Go.RowKit
set_option linter.unusedVariables false
set_option linter.unusedSimpArgs false
set_option linter.unnecessarySimpa false
set_option maxRecDepth 20000
namespace Vw
open Shape

theorem ok2 : (⟨2, 1, 1, 1, 0⟩ : Sh).Ok := ⟨by decide, by decide, by decide, by decide, by decide, by decide, by decide, by decide⟩
theorem sz2 : size ⟨2, 1, 1, 1, 0⟩ = 18 := rfl
/-- The lookers' contracts at the example. -/
theorem fresh2 (w : World) : Calls Try.prog 19 #[.agg #[.int .i64 2, .int .i64 1, .int .i64 1, .int .i64 1, .int .i64 0, .int .i64 0]] w fun e w' => (∃ g, e = .returned (.tuple #[.slice (some ⟨g, 0, none⟩) 18 18, .int .i64 0]) ∧ IsRow w' g 18 18 (F ⟨2, 1, 1, 1, 0⟩ 1)) ∧ Below w.heap.size w w' := by
  have := fresh_ok (s5 := 0) ok2 w
  refine Calls.mono (R := _) (by simpa [sz2] using this) ?_
  intro e w' h
  obtain ⟨g, h1, h2, h3, h4⟩ := h
  exact ⟨⟨g, h1, h2⟩, h4⟩
theorem row_bnd {w : World} {g n cap : Nat} {f : Nat → Int} (h : IsRow w g n cap f) : ∀ i, i < n → 0 ≤ f i ∧ f i < 18446744073709551616 := fun i hi => by have := h.word hi; omega
theorem look2 {w : World} {g : Nat} (h : IsRow w g 18 18 (F ⟨2, 1, 1, 1, 0⟩ 1)) : Calls Try.prog 9 #[.agg #[.int .i64 2, .int .i64 1, .int .i64 1, .int .i64 1, .int .i64 0, .int .i64 0], .slice (some ⟨g, 0, none⟩) 18 18] w fun e w' => (∃ (c : Cv) (a : Av) (b0 o0 b1 o1 c1 : Nat) (a1 : Option Addr), e = .returned (.tuple #[.agg #[.int .i64 c.ph, .int .i64 c.co, .int .u64 c.ro, .slice a.aa c.na a.ca, .slice a.ra c.nr a.cr, .slice a.wa c.nw a.cw, .slice (some ⟨b1, o1, none⟩) 2 a.cb, .slice (some ⟨b0, o0, none⟩) 2 a.cf, .slice a.ga c.gr.length a.cg, .slice a.qa c.qu.length a.cq, .int .u64 (c.cn 0), .int .u64 (c.cn 1), .int .u64 (c.cn 2), .int .u64 (c.cn 3)], .int .i64 0]) ∧ b0 < w'.heap.size ∧ b1 < w'.heap.size ∧ w'.cell? ⟨b0, o0, none⟩ = some (.int .i64 1) ∧ w'.cell? ⟨b0, o0 + 1, none⟩ = some (.int .i64 2) ∧ w'.cell? ⟨b1, o1 + 9 + 8, none⟩ = some (.slice a1 1 c1)) ∧ Below w.heap.size w w' := by
  have := Look_ok (s5 := 0) ok2 sz2 (Nat.le_refl 18) w h.sees (Nat.le_refl _) (row_bnd h)
  refine Calls.mono this ?_
  rintro e w' ⟨⟨a, rfl, HO⟩, hb⟩
  have hfr : (cv ⟨2, 1, 1, 1, 0⟩ (F ⟨2, 1, 1, 1, 0⟩ 1)).fr = [1, 2] := congrArg Prod.fst (fresh_free ok2)
  have hS := HO.out.shows
  obtain ⟨b0, o0, e0, l0, c0⟩ := hS.fr 0 1 (by rw [hfr]; rfl)
  obtain ⟨b0', o0', e0', l0', c0'⟩ := hS.fr 1 2 (by rw [hfr]; rfl)
  rw [e0] at e0'
  cases e0'
  obtain ⟨b1, o1, a1, c1, e1, l1, hc1, _⟩ := hS.ob 1 (by decide)
  refine ⟨⟨cv ⟨2, 1, 1, 1, 0⟩ (F ⟨2, 1, 1, 1, 0⟩ 1), a, b0, o0, b1, o1, c1, a1, ?_, l0, l1, by simpa using c0, c0', hc1 8 (by decide)⟩, hb⟩
  unfold vl
  rw [e0, e1, hfr]
  rfl
theorem check2 {w : World} {g : Nat} (h : IsRow w g 18 18 (F ⟨2, 1, 1, 1, 0⟩ 1)) : Calls Try.prog 11 #[.agg #[.int .i64 2, .int .i64 1, .int .i64 1, .int .i64 1, .int .i64 0, .int .i64 0], .slice (some ⟨g, 0, none⟩) 18 18] w fun e w' => e = .returned (.int .i64 0) ∧ Below w.heap.size w w' :=
  check_yes (s5 := 0) ok2 sz2 (Nat.le_refl 18) h.sees (Nat.le_refl _) (row_bnd h) (fresh_sound ok2)

set_option maxHeartbeats 4000000 in
theorem awake_ok (w : World) : Calls Try.prog 6 #[] w fun e w' => e = .returned (.bool true) ∧ Below w.heap.size w w' := by
  go_enter Try.func6, Try.ntmps6
  go_upto_region 2 with (fail)
  obtain ⟨W0, hW0, B0, K⟩ := box w 2 1 1 1 0 0
  have HB := hide B0
  obtain ⟨-, l0, x0, x1, x2, x3, x4, x5⟩ := K.out W0 (Below.refl _ _)
  simp only [hW0]
  clear B0 hW0
  go_upto_region 3 with (go_at_call 19; refine (fresh2 _).mono ?_; rintro e w1 ⟨⟨g, rfl, R1⟩, hb1⟩; have HB1 := hide hb1; have HR1 := hide R1; clear hb1 R1)
  obtain ⟨hbw, l1, y0, y1, y2, y3, y4, y5⟩ := K.out w1 HB1.out
  clear hbw x0 x1 x2 x3 x4 x5
  have LK := hide (look2 HR1.out)
  go_upto_region 4 with (go_at_call 9; refine LK.out.mono ?_; rintro e w2 ⟨⟨c, a, b0, o0, b1, o1, c1, a1, rfl, hb0, hb1', hc0, hc0', hc1⟩, hb2⟩; have HB2 := hide hb2; clear hb2)
  obtain ⟨W3, hW3⟩ : ∃ W3, w2.alloc (.cells #[.int .i64 c.ph, .int .i64 c.co, .int .u64 c.ro, .slice a.aa c.na a.ca, .slice a.ra c.nr a.cr, .slice a.wa c.nw a.cw, .slice (some ⟨b1, o1, none⟩) 2 a.cb, .slice (some ⟨b0, o0, none⟩) 2 a.cf, .slice a.ga c.gr.length a.cg, .slice a.qa c.qu.length a.cq, .int .u64 (c.cn 0), .int .u64 (c.cn 1), .int .u64 (c.cn 2), .int .u64 (c.cn 3)] 33) = W3 := ⟨_, rfl⟩
  have B3 : Below w2.heap.size w2 W3 := by rw [← hW3]; exact (Below.refl _ w2).alloc (Nat.le_refl _) _
  have R3 : W3.rowIs w2.heap.size 33 14 (lrow [.int .i64 c.ph, .int .i64 c.co, .int .u64 c.ro, .slice a.aa c.na a.ca, .slice a.ra c.nr a.cr, .slice a.wa c.nw a.cw, .slice (some ⟨b1, o1, none⟩) 2 a.cb, .slice (some ⟨b0, o0, none⟩) 2 a.cf, .slice a.ga c.gr.length a.cg, .slice a.qa c.qu.length a.cq, .int .u64 (c.cn 0), .int .u64 (c.cn 1), .int .u64 (c.cn 2), .int .u64 (c.cn 3)]) := by rw [← hW3]; exact rowL_alloc w2 [.int .i64 c.ph, .int .i64 c.co, .int .u64 c.ro, .slice a.aa c.na a.ca, .slice a.ra c.nr a.cr, .slice a.wa c.nw a.cw, .slice (some ⟨b1, o1, none⟩) 2 a.cb, .slice (some ⟨b0, o0, none⟩) 2 a.cf, .slice a.ga c.gr.length a.cg, .slice a.qa c.qu.length a.cq, .int .u64 (c.cn 0), .int .u64 (c.cn 1), .int .u64 (c.cn 2), .int .u64 (c.cn 3)] _ rfl
  have HB3 := hide (HB2.out.trans (B3.mono HB2.out.size))
  have HB13 := hide (HB1.out.trans (HB3.out.mono HB1.out.size))
  have z6 : W3.cell? ⟨w2.heap.size, 6, none⟩ = some (.slice (some ⟨b1, o1, none⟩) 2 a.cb) := R3.cell (i := 6) (by decide)
  have z7 : W3.cell? ⟨w2.heap.size, 7, none⟩ = some (.slice (some ⟨b0, o0, none⟩) 2 a.cf) := R3.cell (i := 7) (by decide)
  have k0 : W3.cell? ⟨b0, o0, none⟩ = some (.int .i64 1) := (B3.cell (p := ⟨b0, o0, none⟩) hb0).trans hc0
  have k1 : W3.cell? ⟨b0, o0 + 1, none⟩ = some (.int .i64 2) := (B3.cell (p := ⟨b0, o0 + 1, none⟩) hb0).trans hc0'
  have k2 : W3.cell? ⟨b1, o1 + 9 + 8, none⟩ = some (.slice a1 1 c1) := (B3.cell (p := ⟨b1, o1 + 9 + 8, none⟩) hb1').trans hc1
  have R13 := hide (HR1.out.below HB3.out)
  have CK := hide (check2 R13.out)
  simp only [hW3]
  clear hW3 B3 R3 y0 y1 y2 y3 y4 y5 hc0 hc0' hc1
  obtain ⟨-, -, y0, y1, y2, y3, y4, y5⟩ := K.out W3 HB13.out
  go_wp2_with (go_at_call 11; refine CK.out.mono ?_; rintro e w5 ⟨rfl, hb5⟩; have HB5 := hide hb5; clear hb5)
  go_ret
  exact ⟨rfl, (K.out _ (HB13.out.trans (HB5.out.mono HB13.out.size))).1⟩
end Vw
end Go.Proofs.Ytecjegjnnahddaa

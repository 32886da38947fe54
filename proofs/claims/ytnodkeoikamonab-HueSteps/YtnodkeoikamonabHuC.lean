/-
  Hue: slotsOf, sheltered
-/
import Derived.Test.YtnodkeoikamonabHuB
import Derived.Test.YtnodkeoikamonabGrU0
namespace Go.Proofs.Ytnodkeoikamonab
open Go.RowKit
set_option linter.unusedVariables false
set_option linter.unusedSimpArgs false
set_option linter.unnecessarySimpa false
set_option maxRecDepth 20000
namespace Hu
open Gr
/-- Slots that are nil have no room. -/
def Ncp (w : World) (oa : Option Addr) (os : List Ob) : Prop :=
  ∀ j o, os[j]? = some o → ∃ b off ai ci, oa = some ⟨b, off, none⟩ ∧ b < w.heap.size ∧ w.cell? ⟨b, off + j * 9 + 8, none⟩ = some (.slice ai o.sl.length ci) ∧ (ai = none → ci = 0)
theorem Ncp.below {w w' : World} {oa : Option Addr} {os : List Ob} (h : Ncp w oa os) (hb : Below w.heap.size w w') : Ncp w' oa os := fun j o hj => by
  obtain ⟨b, off, ai, ci, e, hl, hc, hs⟩ := h j o hj
  exact ⟨b, off, ai, ci, e, Nat.lt_of_lt_of_le hl hb.size, (hb.cell (p := ⟨b, off + j * 9 + 8, none⟩) hl).trans hc, hs⟩
theorem Ncp.nil {w : World} {b off : Nat} {os : List Ob} (h : Ncp w (some ⟨b, off, none⟩) os) {j : Nat} {o : Ob} (ho : os[j]? = some o) {ai : Option Addr} {n ci : Nat} (hc : w.cell? ⟨b, off + j * 9 + 8, none⟩ = some (.slice ai n ci)) : ai = none → ci = 0 := by
  obtain ⟨b', off', ai', ci', e, _, hc', hs⟩ := h j o ho
  cases e
  rw [hc] at hc'
  simp at hc'
  obtain ⟨rfl, _, rfl⟩ := hc'
  exact hs

set_option maxHeartbeats 2000000 in
theorem slotsOf_ok {os : List Ob} {ws : List Int} {oa : Option Addr} {cb g : Nat} {w : World} (hS : Sob w oa os) (hB : Bd os) (hN : Ncp w oa os) (hnl : nsl os os.length ≤ 17592186044416) (R : w.rowIs g 69 os.length (fun i => .int .i64 (col os ws i))) (c : Int) : Calls Try.prog 48 #[kv oa os.length cb g, .int .i64 c] w fun e w' => Ut w w' e (so os ws c os.length) := by
  obtain ⟨W0, hW0, B0, R0⟩ := kbox w (.slice oa os.length cb) (.slice (some ⟨g, 0, none⟩) os.length os.length)
  have d0 : W0.cell? ⟨w.heap.size, 0, none⟩ = some (.slice oa os.length cb) := R0.cell (i := 0) (by decide)
  have d1 : W0.cell? ⟨w.heap.size, 1, none⟩ = some (.slice (some ⟨g, 0, none⟩) os.length os.length) := R0.cell (i := 1) (by decide)
  have l0 : w.heap.size < W0.heap.size := R0.lt
  have HB0 := hide B0
  have HR0 := hide R0
  have HG0 := hide (row_on R B0)
  have HS0 := hide (hS.below B0)
  have hno := hB.no
  have HN0 := hide (hN.below B0)
  have DF := hide (fun (wx : World) (hb : Below W0.heap.size W0 wx) => show wx.cell? ⟨w.heap.size, 0, none⟩ = some (.slice oa os.length cb) from (row_on R0 hb).cell (i := 0) (by decide))
  obtain ⟨n, hn⟩ : ∃ n, os.length = n := ⟨_, rfl⟩
  have LE := hide (fun (k : Nat) (hk : k + 1 ≤ n) => Nat.le_trans (nsl_mono os hk) (by rw [← hn]; exact hnl))
  simp only [kv]
  rw [hn] at hW0 d0 d1 HG0 hno DF ⊢
  have Hn := hide hn
  obtain ⟨iU, hiU, hzU, hsU, hyU⟩ := infoU
  obtain ⟨z, hz⟩ : ∃ z, W0.heap.size = z := ⟨_, rfl⟩
  have Hz := hide hz
  have hgz : g < z := by rw [← hz]; exact HG0.out.lt
  rw [hz] at l0
  clear B0 R0 hS hB R hn HR0 hz hN hnl
  go_enter Try.func48, Try.ntmps48
  go_wp2_with fail
  clear hW0 d0 d1
  go_loopw [5, 11] (fun v i wr => ∃ (k : Nat), k ≤ n ∧ i = .int .i64 k ∧ Hid (wr.ownsRow z 22 1 v (so os ws c k).length (ucs (so os ws c k))) ∧ Hid (Below z W0 wr)) (fun _ i _ => n - (intOf i).toNat)
  case atStart => exact ⟨0, Nat.zero_le _, rfl, ⟨rfl, .inl ⟨rfl, rfl⟩⟩, Below.refl _ _⟩
  case round =>
    obtain ⟨k, hk, rfl, HO, HB⟩ := hrel
    obtain ⟨la, cp, rfl⟩ := own_slice HO.out
    have hzw : z ≤ wr.heap.size := by have := HB.out.size; rw [Hz.out] at this; exact this
    by_cases hlt : k < n
    · have hkn : (k : Int) < (n : Int) := by omega
      have gx := (HB.out.cell (p := ⟨g, k, none⟩) hgz).trans (HG0.out.cell hlt)
      obtain ⟨o, ho⟩ : ∃ o, os[k]? = some o := ⟨os[k]'(by rw [Hn.out]; exact hlt), by simp [Hn.out, hlt]⟩
      have HBw := hide (show Below W0.heap.size W0 wr by rw [Hz.out]; exact HB.out)
      obtain ⟨bo, off, ai, ci, hoa, hbl2, hoc, hse⟩ := HS0.out.below HBw.out k o ho
      have HNw := HN0.out.below HBw.out
      subst hoa
      have o8 : wr.cell? ⟨bo, off + k * 9 + 8, none⟩ = some (.slice ai o.sl.length ci) := hoc 8 (by decide)
      have hnil := HNw.nil ho o8
      have hnl2 := fun e => nil_len hse e
      have d0 := DF.out wr HBw.out
      have ST := hide (show so os ws c (k + 1) = so os ws c k ++ (if col os ws k = c then o.sl else []) by simp only [so, sls_at ho])
      have LN : (so os ws c k).length + o.sl.length ≤ 17592186044416 := by
        have h1 := so_len os ws c k
        have h2 := LE.out k hlt
        simp only [nsl, sls_at ho] at h2
        omega
      obtain ⟨l, hl⟩ : ∃ l, so os ws c k = l := ⟨_, rfl⟩
      rw [hl] at HO ST LN ⊢
      obtain ⟨ln, hln⟩ : ∃ ln, l.length = ln := ⟨_, rfl⟩
      rw [hln] at HO LN ⊢
      have HLn := hide hln
      obtain ⟨m, hm⟩ : ∃ m, o.sl.length = m := ⟨_, rfl⟩
      rw [hm] at o8 LN hnl2
      have HNIL := hide (fun e => show m = 0 ∧ ci = 0 from ⟨hnl2 e, hnil e⟩)
      have Hm := hide hm
      have NEW := hide (news_u hse)
      obtain ⟨cq, hcq⟩ : ∃ cq, col os ws k = cq := ⟨_, rfl⟩
      rw [hcq] at gx ST
      have HO3 := HO.out
      clear hl hln hcq hm hoc hse ho HNw hnil hnl2
      by_cases h1 : cq = c
      · have h1b : (cq == c) = true := by simp [h1]
        have ST2 := hide (show so os ws c (k + 1) = l ++ o.sl by rw [ST.out, if_pos h1])
        clear h1 ST
        go_wp2_with (at_builtin; refine wpList_append_opt rfl (.tmp 19) (.tmp 25) 23 rfl z 22 iU (.int .u64 0) 1 8 Try.underlying23 hiU hzU hsU hyU rfl (by decide) (.slice la ln cp) ln (ucs l) rfl HO.out ai m ci (ucs o.sl) rfl HNIL.out (by rw [ucs_len, Hm.out]; omega) NEW.out (ucs_one _) (by unfold maxLen; omega) (by omega) (by omega) ?_; intro v2 w2 hown hgr _; obtain ⟨la3, cp3, rfl⟩ := own_slice hown; have HO4 := hide hown; have HB4 := hide (Gr.below_grown HB.out HO.out hgr (by omega)); clear hown hgr)
        go_roundw
        case rel =>
          refine ⟨k + 1, by omega, by go_num, ?_, HB4.out⟩
          show World.ownsRow _ _ _ _ _ _ _
          rw [ST2.out, ucs_app, List.length_append, HLn.out, Hm.out]
          exact HO4.out
        case measure => simp [intOf]; omega
      · have h1b : (cq == c) = false := by simp [h1]
        have ST2 := hide (show so os ws c (k + 1) = l by rw [ST.out, if_neg h1]; simp)
        clear h1 ST
        go_wp2_with fail
        go_roundw
        case rel =>
          refine ⟨k + 1, by omega, by go_num, ?_, HB.out⟩
          show World.ownsRow _ _ _ _ _ _ _
          rw [ST2.out, HLn.out]
          exact HO.out
        case measure => simp [intOf]; omega
    · have hkn : ¬ (k : Int) < (n : Int) := by omega
      obtain rfl : k = n := by omega
      go_wp2_with fail
      go_ret
      exact ⟨_, _, rfl, owns_low HO.out (by omega), HB0.out.trans (HB.out.mono (by omega))⟩
end Hu
end Go.Proofs.Ytnodkeoikamonab

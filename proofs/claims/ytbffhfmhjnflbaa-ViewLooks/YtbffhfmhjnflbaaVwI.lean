/-
  View: what is sound: the objects, the queue, a handle
-/
import Derived.Test.YtbffhfmhjnflbaaVwH
namespace Go.Proofs.Ytbffhfmhjnflbaa
open Go.RowKit
set_option linter.unusedVariables false
set_option linter.unusedSimpArgs false
set_option linter.unnecessarySimpa false
set_option maxRecDepth 20000
namespace Vw
open Shape

/-- A bool that tells whether something holds. -/
def Tells (e : Ending) (p : Prop) : Prop := ∃ v, e = .returned (.bool v) ∧ (v = true ↔ p)
theorem Tells.yes {p : Prop} (h : p) : Tells (.returned (.bool true)) p := ⟨true, rfl, by simp [h]⟩
theorem Tells.no {p : Prop} (h : ¬ p) : Tells (.returned (.bool false)) p := ⟨false, rfl, by simp [h]⟩
theorem Tells.get {e : Ending} {p : Prop} (h : Tells e p) : (p ∧ e = .returned (.bool true)) ∨ (¬ p ∧ e = .returned (.bool false)) := by
  obtain ⟨v, rfl, hv⟩ := h
  cases v
  · exact .inr ⟨fun h => (by have := hv.2 h; cases this), rfl⟩
  · exact .inl ⟨hv.1 rfl, rfl⟩
theorem vbox (w : World) (c : Cv) (a : Av) : ∃ W0, w.alloc (.cells #[.int .i64 c.ph, .int .i64 c.co, .int .u64 c.ro, .slice a.aa c.na a.ca, .slice a.ra c.nr a.cr, .slice a.wa c.nw a.cw, .slice a.oa c.no a.cb, .slice a.fa c.fr.length a.cf, .slice a.ga c.gr.length a.cg, .slice a.qa c.qu.length a.cq, .int .u64 (c.cn 0), .int .u64 (c.cn 1), .int .u64 (c.cn 2), .int .u64 (c.cn 3)] 33) = W0 ∧ Below w.heap.size w W0 ∧ W0.rowIs w.heap.size 33 14 (lrow [.int .i64 c.ph, .int .i64 c.co, .int .u64 c.ro, .slice a.aa c.na a.ca, .slice a.ra c.nr a.cr, .slice a.wa c.nw a.cw, .slice a.oa c.no a.cb, .slice a.fa c.fr.length a.cf, .slice a.ga c.gr.length a.cg, .slice a.qa c.qu.length a.cq, .int .u64 (c.cn 0), .int .u64 (c.cn 1), .int .u64 (c.cn 2), .int .u64 (c.cn 3)]) := ⟨_, rfl, (Below.refl _ w).alloc (Nat.le_refl _) _, rowL_alloc w [.int .i64 c.ph, .int .i64 c.co, .int .u64 c.ro, .slice a.aa c.na a.ca, .slice a.ra c.nr a.cr, .slice a.wa c.nw a.cw, .slice a.oa c.no a.cb, .slice a.fa c.fr.length a.cf, .slice a.ga c.gr.length a.cg, .slice a.qa c.qu.length a.cq, .int .u64 (c.cn 0), .int .u64 (c.cn 1), .int .u64 (c.cn 2), .int .u64 (c.cn 3)] _ rfl⟩

set_option maxHeartbeats 2000000 in
theorem objectsSound_ok {c : Cv} {a : Av} {w : World} (hS : Shows w c a) (hc : c.Ok) : Calls Try.prog 61 #[vl c a] w fun e w' => Tells e (∀ j, j < c.no → obOk c j) ∧ Below w.heap.size w w' := by
  obtain ⟨aa, ca, ra, cr, wa, cw, oa, cb, fa, cf, ga, cg, qa, cq⟩ := a
  simp only [vl]
  have HS := hide hS
  have HC := hide hc
  have hno := hc.no
  clear hS hc
  obtain ⟨W0, hW0, B0, R0⟩ := vbox w c ⟨aa, ca, ra, cr, wa, cw, oa, cb, fa, cf, ga, cg, qa, cq⟩
  simp only at hW0 R0
  have HB := hide B0
  have HR := hide R0
  have l0 : w.heap.size < W0.heap.size := R0.lt
  have c6 := R0.cell (i := 6) (by decide)
  simp only [lrow] at c6
  clear B0 R0
  go_enter Try.func61, Try.ntmps61
  go_wp2_with fail
  go_loopw [9] (fun i wr => ∃ k : Nat, k ≤ c.no ∧ i = .int .i64 k ∧ Hid (∀ j, j < k → obOk c j) ∧ Hid (Below W0.heap.size W0 wr)) (fun i _ => c.no - (intOf i).toNat)
  case atStart => exact ⟨0, Nat.zero_le _, rfl, fun q hq => absurd hq (by omega), Below.refl _ _⟩
  case round =>
    obtain ⟨k, hk, rfl, HK, HW⟩ := hrel
    have HBr := hide (HB.out.trans (HW.out.mono HB.out.size))
    clear c6
    by_cases hlt : k < c.no
    · have hkn : (k : Int) < (c.no : Int) := by omega
      have Sw := HS.out.below HBr.out
      obtain ⟨b, off, ai, ci, hoa, hbl, hoc, hse⟩ := Sw.ob k hlt
      simp only at hoa
      subst hoa
      cases hobx : c.ob k with
      | mk us li fi ta ag ge lk nx ns sl =>
      have hns := HC.out.ns k hlt
      have HOB := hide hobx
      simp only [hobx] at hoc hse hns
      simp only [Ob.cell] at hoc
      have o0 : wr.cell? ⟨b, off + k * 9, none⟩ = some (.bool us) := by simpa using hoc 0 (by decide)
      have o1 : wr.cell? ⟨b, off + k * 9 + 1, none⟩ = some (.bool li) := by simpa using hoc 1 (by decide)
      have o2 : wr.cell? ⟨b, off + k * 9 + 2, none⟩ = some (.bool fi) := by simpa using hoc 2 (by decide)
      have o3 : wr.cell? ⟨b, off + k * 9 + 3, none⟩ = some (.bool ta) := by simpa using hoc 3 (by decide)
      have o4 : wr.cell? ⟨b, off + k * 9 + 4, none⟩ = some (.int .i64 ag) := by simpa using hoc 4 (by decide)
      have o5 : wr.cell? ⟨b, off + k * 9 + 5, none⟩ = some (.int .u64 ge) := by simpa using hoc 5 (by decide)
      have o6 : wr.cell? ⟨b, off + k * 9 + 6, none⟩ = some (.int .u64 lk) := by simpa using hoc 6 (by decide)
      have o7 : wr.cell? ⟨b, off + k * 9 + 7, none⟩ = some (.int .u64 nx) := by simpa using hoc 7 (by decide)
      have o8 : wr.cell? ⟨b, off + k * 9 + 8, none⟩ = some (.slice ai ns ci) := by simpa using hoc 8 (by decide)

      have HSE := hide hse
      clear hobx hoc hse Sw
      go_upto_region 4 with (fail)
      obtain ⟨W4, hW4, B4, R4⟩ := obox wr us li fi ta ag ge lk nx ai ns ci
      have HB4 := hide (HW.out.trans (B4.mono HW.out.size))
      have HBw := hide (HB.out.trans (HB4.out.mono HB.out.size))
      have p0 : W4.cell? ⟨wr.heap.size, 0, none⟩ = some (.bool us) := R4.cell (i := 0) (by decide)
      have p1 : W4.cell? ⟨wr.heap.size, 1, none⟩ = some (.bool li) := R4.cell (i := 1) (by decide)
      have p2 : W4.cell? ⟨wr.heap.size, 2, none⟩ = some (.bool fi) := R4.cell (i := 2) (by decide)
      have p3 : W4.cell? ⟨wr.heap.size, 3, none⟩ = some (.bool ta) := R4.cell (i := 3) (by decide)
      have p4 : W4.cell? ⟨wr.heap.size, 4, none⟩ = some (.int .i64 ag) := R4.cell (i := 4) (by decide)
      have p5 : W4.cell? ⟨wr.heap.size, 5, none⟩ = some (.int .u64 ge) := R4.cell (i := 5) (by decide)
      have p6 : W4.cell? ⟨wr.heap.size, 6, none⟩ = some (.int .u64 lk) := R4.cell (i := 6) (by decide)
      have p7 : W4.cell? ⟨wr.heap.size, 7, none⟩ = some (.int .u64 nx) := R4.cell (i := 7) (by decide)
      have p8 : W4.cell? ⟨wr.heap.size, 8, none⟩ = some (.slice ai ns ci) := R4.cell (i := 8) (by decide)
      have c7 : W4.cell? ⟨w.heap.size, 7, none⟩ = some (.slice fa c.fr.length cf) := (row_on HR.out HB4.out).cell (i := 7) (by decide)
      have SE4 := hide (sees_on HSE.out B4)
      have CO := hide (contains_ok (w := W4) (cap := cf) (c := (k : Int) + 1) (HS.out.below HBw.out).fr rfl HC.out.fr)
      obtain ⟨q, hq⟩ : ∃ q, decide (((k : Int) + 1) ∈ c.fr) = q := ⟨_, rfl⟩
      rw [hq] at CO
      have HQ := hide hq
      simp only [hW4]
      have hl4 : wr.heap.size < W4.heap.size := R4.lt
      clear hW4 o0 o1 o2 o3 o4 o5 o6 o7 o8 hq R4 B4
      go_upto_region 5 with (go_at_call 86; refine CO.out.mono ?_; rintro e w1 ⟨rfl, hq⟩; obtain rfl := hq.symm; clear hq)
      cases us
      · have UN := hide (unusedSound_ok (u := false) (l := li) (fi := fi) (ta := ta) (ag := ag) (ge := ge) (lk := lk) (nx := nx) (cap := ci) (q := q) SE4.out hns)
        obtain ⟨CC, hCC⟩ : ∃ C : Prop, ((q = true ∨ ge = 4294967295) ∧ ∀ i, i < ns → sl i = 0) = C := ⟨_, rfl⟩
        rw [hCC] at UN
        have HCC := hide hCC
        clear hCC
        have IFF := hide (show obOk c k ↔ CC by
          rw [← HCC.out]
          unfold obOk
          rw [HOB.out]
          constructor
          · intro h2
            have h3 := h2.2 rfl
            exact ⟨h3.1.imp (fun h4 => by rw [← HQ.out]; simpa using h4) id, h3.2⟩
          · intro h2
            exact ⟨fun h3 => (by cases h3), fun _ => ⟨h2.1.imp (fun h4 => by rw [← HQ.out] at h4; simpa using h4) id, h2.2⟩⟩)
        by_cases hcc : CC
        · have UN2 := hide (show Calls Try.prog 88 #[.agg #[.bool false, .bool li, .bool fi, .bool ta, .int .i64 ag, .int .u64 ge, .int .u64 lk, .int .u64 nx, .slice ai ns ci], .bool q] W4 fun e w' => e = .returned (.bool true) ∧ Below W4.heap.size W4 w' from UN.out.mono (by rintro e w' ⟨⟨v, rfl, hv⟩, hb⟩; rw [hv.2 hcc]; exact ⟨rfl, hb⟩))
          have OKK := hide (IFF.out.2 hcc)
          clear hcc UN
          go_wp2_with (go_at_call 88; refine UN2.out.mono ?_; rintro e w2 ⟨rfl, hb2⟩; have HB5 := hide (HB4.out.trans (hb2.mono HB4.out.size)); clear hb2)
          go_roundw
          case rel => exact ⟨k + 1, by omega, by go_num, fun j hj => by (by_cases e : j < k); exact HK.out j e; (cases (show j = k by omega)); exact OKK.out, HB5.out⟩
          case measure => simp [intOf]; omega
        · have UN2 := hide (show Calls Try.prog 88 #[.agg #[.bool false, .bool li, .bool fi, .bool ta, .int .i64 ag, .int .u64 ge, .int .u64 lk, .int .u64 nx, .slice ai ns ci], .bool q] W4 fun e w' => e = .returned (.bool false) ∧ Below W4.heap.size W4 w' from UN.out.mono (by rintro e w' ⟨⟨v, rfl, hv⟩, hb⟩; rw [show v = false from by cases v; rfl; exact absurd (hv.1 rfl) hcc]; exact ⟨rfl, hb⟩))
          have OKK := hide (fun h1 => hcc (IFF.out.1 h1))
          clear hcc UN
          go_wp2_with (go_at_call 88; refine UN2.out.mono ?_; rintro e w2 ⟨rfl, hb2⟩; have HB5 := hide (HB4.out.trans (hb2.mono HB4.out.size)); clear hb2)
          go_ret
          exact ⟨Tells.no (fun h1 => OKK.out (h1 k hlt)), HB.out.trans (HB5.out.mono HB.out.size)⟩
      · have UN := hide (usedSound_ok (u := true) (l := li) (fi := fi) (ta := ta) (ag := ag) (ge := ge) (lk := lk) (nx := nx) (ao := ai) (n := ns) (cap := ci) (q := q) W4)
        obtain ⟨v, hv⟩ : ∃ v, (li && !q) = v := ⟨_, rfl⟩
        rw [hv] at UN
        have IFF := hide (show obOk c k ↔ v = true by
          rw [← hv]
          unfold obOk
          rw [HOB.out]
          have h1 := HQ.out
          constructor
          · intro h2
            have h3 := h2.1 rfl
            have h4 : q = false := by rw [← h1]; simpa using h3.2
            simp [h4]
            exact h3.1
          · intro h2
            simp only [Bool.and_eq_true, Bool.not_eq_true'] at h2
            refine ⟨fun _ => ⟨h2.1, ?_⟩, fun h3 => (by cases h3)⟩
            have h4 := h2.2
            rw [← h1] at h4
            simpa using h4)
        clear hv
        cases v
        · go_wp2_with (go_at_call 87; refine UN.out.mono ?_; rintro e w2 ⟨rfl, hb2⟩; have HB5 := hide (HB4.out.trans (hb2.mono HB4.out.size)); clear hb2)
          go_ret
          exact ⟨Tells.no (fun h1 => absurd (IFF.out.1 (h1 k hlt)) (by simp)), HB.out.trans (HB5.out.mono HB.out.size)⟩
        · have EX := hide (show True from trivial)
          go_wp2_with (go_at_call 87; refine UN.out.mono ?_; rintro e w2 ⟨rfl, hb2⟩; have HB5 := hide (HB4.out.trans (hb2.mono HB4.out.size)); have q0 : w2.cell? ⟨wr.heap.size, 0, none⟩ = some (.bool true) := (hb2.cell (p := ⟨wr.heap.size, 0, none⟩) hl4).trans p0; clear hb2)
          go_roundw
          case rel => exact ⟨k + 1, by omega, by go_num, fun j hj => by (by_cases e : j < k); exact HK.out j e; (cases (show j = k by omega)); exact IFF.out.2 (by simp), HB5.out⟩
          case measure => simp [intOf]; omega
    · have hkn : ¬ (k : Int) < (c.no : Int) := by omega
      have ALL := hide (show ∀ j, j < c.no → obOk c j from fun j hj => HK.out j (by omega))
      go_wp2_with fail
      go_ret
      exact ⟨Tells.yes ALL.out, HBr.out⟩

set_option maxHeartbeats 2000000 in
theorem queueSound_ok {c : Cv} {a : Av} {w : World} (hS : Shows w c a) (hc : c.Ok) : Calls Try.prog 62 #[vl c a] w fun e w' => Tells e (∀ i, i ∈ c.qu → quOk c i) ∧ Below w.heap.size w w' := by
  obtain ⟨aa, ca, ra, cr, wa, cw, oa, cb, fa, cf, ga, cg, qa, cq⟩ := a
  simp only [vl]
  have HS := hide hS
  have HC := hide hc
  have hno := hc.no
  have hqu := hc.qu
  obtain ⟨n, hn⟩ : ∃ n, c.qu.length = n := ⟨_, rfl⟩
  have HN := hide hn
  clear hS hc
  obtain ⟨W0, hW0, B0, R0⟩ := vbox w c ⟨aa, ca, ra, cr, wa, cw, oa, cb, fa, cf, ga, cg, qa, cq⟩
  simp only at hW0 R0
  rw [hn] at hqu hW0 R0
  rw [hn]
  have HB := hide B0
  have HR := hide R0
  have l0 : w.heap.size < W0.heap.size := R0.lt
  have c9 : W0.cell? ⟨w.heap.size, 9, none⟩ = some (.slice qa n cq) := R0.cell (i := 9) (by decide)
  clear B0 R0 hn
  go_enter Try.func62, Try.ntmps62
  go_wp2_with fail
  go_loopw [9] (fun i wr => ∃ t : Nat, t ≤ n ∧ i = .int .i64 t ∧ Hid (∀ x, x ∈ c.qu.take t → quOk c x) ∧ Hid (Below W0.heap.size W0 wr)) (fun i _ => n - (intOf i).toNat)
  case atStart => exact ⟨0, Nat.zero_le _, rfl, show ∀ x, x ∈ _ → _ by simp, Below.refl _ _⟩
  case round =>
    obtain ⟨t, ht, rfl, HK, HW⟩ := hrel
    have HBr := hide (HB.out.trans (HW.out.mono HB.out.size))
    clear c9
    by_cases hlt : t < n
    · have hkn : (t : Int) < (n : Int) := by omega
      obtain ⟨x, hx⟩ : ∃ x, c.qu[t]? = some x := ⟨c.qu[t]'(by rw [HN.out]; exact hlt), List.getElem?_eq_getElem _⟩
      have Sw := HS.out.below HBr.out
      obtain ⟨bq, oq, hqa, hbq, hcq⟩ := Sw.qu t x hx
      simp only at hqa
      subst hqa
      have HX := hide hx
      have hxr := HC.out.qr x (List.mem_of_getElem? hx)
      obtain ⟨k, rfl⟩ : ∃ k : Nat, x = (k : Int) + 1 := ⟨x.toNat - 1, by omega⟩
      have hko : k < c.no := by omega
      have hko2 : (k : Int) < (c.no : Int) := by omega
      obtain ⟨b, off, ai, ci, hoa, hbl, hoc, hse⟩ := Sw.ob k hko
      simp only at hoa
      subst hoa
      cases hobx : c.ob k with
      | mk us li fi ta ag ge lk nx ns sl =>
      have HOB := hide hobx
      simp only [hobx] at hoc
      simp only [Ob.cell] at hoc
      have o0 : wr.cell? ⟨b, off + k * 9, none⟩ = some (.bool us) := by simpa using hoc 0 (by decide)
      have o1 : wr.cell? ⟨b, off + k * 9 + 1, none⟩ = some (.bool li) := by simpa using hoc 1 (by decide)
      have o2 : wr.cell? ⟨b, off + k * 9 + 2, none⟩ = some (.bool fi) := by simpa using hoc 2 (by decide)
      have o3 : wr.cell? ⟨b, off + k * 9 + 3, none⟩ = some (.bool ta) := by simpa using hoc 3 (by decide)
      have o4 : wr.cell? ⟨b, off + k * 9 + 4, none⟩ = some (.int .i64 ag) := by simpa using hoc 4 (by decide)
      have o5 : wr.cell? ⟨b, off + k * 9 + 5, none⟩ = some (.int .u64 ge) := by simpa using hoc 5 (by decide)
      have o6 : wr.cell? ⟨b, off + k * 9 + 6, none⟩ = some (.int .u64 lk) := by simpa using hoc 6 (by decide)
      have o7 : wr.cell? ⟨b, off + k * 9 + 7, none⟩ = some (.int .u64 nx) := by simpa using hoc 7 (by decide)
      have o8 : wr.cell? ⟨b, off + k * 9 + 8, none⟩ = some (.slice ai ns ci) := by simpa using hoc 8 (by decide)

      have c6 : wr.cell? ⟨w.heap.size, 6, none⟩ = some (.slice (some ⟨b, off, none⟩) c.no cb) := (row_on HR.out HW.out).cell (i := 6) (by decide)
      have IFF := hide (show quOk c ((k : Int) + 1) ↔ us = true ∧ fi = true ∧ ta = true by
        unfold quOk
        rw [show ((k : Int) + 1).toNat - 1 = k by omega, HOB.out])
      clear hobx hoc hse Sw hx
      go_upto_region 5 with (fail)
      obtain ⟨W4, hW4, B4, R4⟩ := obox wr us li fi ta ag ge lk nx ai ns ci
      have HB4 := hide (HW.out.trans (B4.mono HW.out.size))
      have p0 : W4.cell? ⟨wr.heap.size, 0, none⟩ = some (.bool us) := R4.cell (i := 0) (by decide)
      have p1 : W4.cell? ⟨wr.heap.size, 1, none⟩ = some (.bool li) := R4.cell (i := 1) (by decide)
      have p2 : W4.cell? ⟨wr.heap.size, 2, none⟩ = some (.bool fi) := R4.cell (i := 2) (by decide)
      have p3 : W4.cell? ⟨wr.heap.size, 3, none⟩ = some (.bool ta) := R4.cell (i := 3) (by decide)
      have p4 : W4.cell? ⟨wr.heap.size, 4, none⟩ = some (.int .i64 ag) := R4.cell (i := 4) (by decide)
      have p5 : W4.cell? ⟨wr.heap.size, 5, none⟩ = some (.int .u64 ge) := R4.cell (i := 5) (by decide)
      have p6 : W4.cell? ⟨wr.heap.size, 6, none⟩ = some (.int .u64 lk) := R4.cell (i := 6) (by decide)
      have p7 : W4.cell? ⟨wr.heap.size, 7, none⟩ = some (.int .u64 nx) := R4.cell (i := 7) (by decide)
      have p8 : W4.cell? ⟨wr.heap.size, 8, none⟩ = some (.slice ai ns ci) := R4.cell (i := 8) (by decide)
      simp only [hW4]
      clear hW4 o0 o1 o2 o3 o4 o5 o6 o7 o8 c6 R4 B4 hcq
      have NO := hide (show ¬ (us = true ∧ fi = true ∧ ta = true) → ¬ ∀ i, i ∈ c.qu → quOk c i from fun h1 h2 => h1 (IFF.out.1 (h2 _ (List.mem_of_getElem? HX.out))))
      cases us
      · go_wp2_with fail
        go_ret
        have NO2 := NO.out (by simp)
        exact ⟨Tells.no NO2, HB.out.trans (HB4.out.mono HB.out.size)⟩
      · cases fi
        · go_wp2_with fail
          go_ret
          have NO2 := NO.out (by simp)
          exact ⟨Tells.no NO2, HB.out.trans (HB4.out.mono HB.out.size)⟩
        · cases ta
          · go_wp2_with fail
            go_ret
            have NO2 := NO.out (by simp)
            exact ⟨Tells.no NO2, HB.out.trans (HB4.out.mono HB.out.size)⟩
          · have YES := hide (IFF.out.2 ⟨rfl, rfl, rfl⟩)
            clear IFF NO
            go_wp2_with fail
            go_roundw
            case rel =>
              refine ⟨t + 1, by omega, by go_num, ?_, HB4.out⟩
              intro y hy
              rw [List.take_add_one, HX.out] at hy
              simp at hy
              rcases hy with hy | hy
              · exact HK.out y hy
              · rw [hy]; exact YES.out
            case measure => simp [intOf]; omega
    · have hkn : ¬ (t : Int) < (n : Int) := by omega
      have ALL := hide (show ∀ i, i ∈ c.qu → quOk c i from fun i hi => HK.out i (by rw [List.take_of_length_le (by rw [HN.out]; omega)]; exact hi))
      go_wp2_with fail
      go_ret
      exact ⟨Tells.yes ALL.out, HBr.out⟩
end Vw
end Go.Proofs.Ytbffhfmhjnflbaa

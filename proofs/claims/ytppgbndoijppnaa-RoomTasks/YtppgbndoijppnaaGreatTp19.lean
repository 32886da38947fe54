/-
  Lemmas: MakeG.
-/
import Derived.Test.YtppgbndoijppnaaGreatTp12
namespace Go.Proofs.YtppgbndoijppnaaGreat
set_option maxHeartbeats 8000000
open Go.RowKit
set_option linter.unusedVariables false
set_option linter.unusedSimpArgs false
set_option maxRecDepth 20000
section
namespace OfAny
theorem info114 : (Tryz.prog.info? 184).map (fun i => (i.zero.map Value.cells, i.size, i.bytes)) = some (some #[.slice none 0 0], 1, 24) := by kernel_rfl
theorem info98z : (Tryz.prog.info? 48).map (fun i => (i.zero, i.size, i.bytes)) = some (some .nilIface, 1, 16) := by kernel_rfl
theorem info98 : ∃ i, Tryz.prog.info? 48 = some i ∧ i.zero = some .nilIface ∧ i.size = 1 ∧ i.bytes = 16 := by
  have h := info98z
  cases hp : Tryz.prog.info? 48 with
  | none => rw [hp] at h; cases h
  | some i => rw [hp] at h; simp at h; exact ⟨i, rfl, h.1, h.2.1, h.2.2⟩
variable {K : Kd} {mk : Value} {w : World} {base B : Nat} {P : Par} {blk0 : Rl → Nat} {c0 : Rl → Option Row} {ao : Option Addr} {cap : Nat}
theorem makeTasks_any (H : Has w base blk0 c0) (hc : ∀ r, r ≠ .mem → r ≠ .words → c0 r = none) (S : SeesH w B ao P.nh P.jn P.jb) (hB : B ≤ base) (hb : base ≤ w.heap.size) (hn : P.nh ≤ 8) (hj : ∀ h, h < P.nh → P.jn h ≤ 256) (hjw : ∀ h, h < P.nh → ∀ j, j < P.jn h → (P.jb h j).wf) (MK : ∀ w', Below base w w' → MakesAt K mk w') :
    Calls Tryz.prog 79 #[.slice ao P.nh cap, mk] w fun e w' => Below base w w' ∧
      ((AllOk K P ∧ ∃ blk c, e = .returned (.tuple #[.slice (some ⟨blk .tasks, 0, none⟩) P.nh P.nh, .int .i64 0]) ∧ Has w' base blk c ∧ Made K P blk0 c0 blk c (mUp P.jn P.nh 0)) ∨
       ∃ er, FirstErr K P er ∧ e = .returned (.tuple #[.slice none 0 0, .int .i64 er])) := by
  have hmk := run_make_z (P := Tryz.prog) 158 184 _ 1 24 Tryz.underlying158 info114 P.nh (by omega) (by omega) w
  obtain ⟨w0, hw0⟩ : ∃ w0, w.alloc (.cells (madeCells #[.slice none 0 0] (P.nh * 1)) 184) = w0 := ⟨_, rfl⟩
  have hrow : w0.rowIs w.heap.size 184 P.nh (fun _ => .slice none 0 0) := by rw [← hw0, Nat.mul_one]; exact World.rowIs_made w _ P.nh 184
  have M0 : Made K P blk0 c0 (upd blk0 .tasks w.heap.size) (upd c0 .tasks (some ⟨184, P.nh, fun _ => .slice none 0 0⟩)) (mUp P.jn 0 0) := by
    refine ⟨by simp [upd], by simp [upd], by simp [upd], by simp [upd], ?_, ⟨_, upd_same _ _ _, fun h hh => ?_⟩, fun h hh j hj => ?_⟩
    · exact ⟨by simpa [upd] using hc .run (by simp) (by simp), by simpa [upd] using hc .going (by simp) (by simp), by simpa [upd] using hc .answers (by simp) (by simp), by simpa [upd] using hc .steps (by simp) (by simp), fun h => by simpa [upd] using hc (.arow h) (by simp) (by simp)⟩
    · have e : mUp P.jn 0 0 h = 0 := by unfold mUp; rw [if_neg (by omega)]; split <;> rfl
      rw [e]
      exact .inl ⟨rfl, rfl, by simpa [upd] using hc (.trow h) (by simp) (by simp)⟩
    · have e : mUp P.jn 0 0 h = 0 := by unfold mUp; rw [if_neg (by omega)]; split <;> rfl
      omega
  have H0 : Has w0 base (upd blk0 .tasks w.heap.size) (upd c0 .tasks (some ⟨184, P.nh, fun _ => .slice none 0 0⟩)) :=
    H.add .tasks w.heap.size _ hb (Nat.le_refl _) (S := fun _ => False) (by rw [← hw0]; exact (Touch.refl w _).alloc _) (fun _ _ _ _ => id) hrow
  have B0 : Below base w w0 := by rw [← hw0]; exact (Below.refl base w).alloc hb _
  have bt0 : (upd blk0 .tasks w.heap.size) .tasks = w.heap.size := by simp [upd]
  have HS := hide S
  have HJ := hide hj
  have HJW := hide hjw
  have HMK := hide MK
  have HH0 := hide H0
  have HM0 := hide M0
  have HB0 := hide B0
  clear H hc S hj hjw MK H0 M0 B0 hrow
  rw [hw0] at hmk
  go_enter Tryz.func79, Tryz.ntmps79
  go_wp2_with fail
  go_loopw [18] (fun i wr => ∃ k blk c, k ≤ P.nh ∧ i = .int .i64 (k : Nat) ∧ Has wr base blk c ∧ Made K P blk0 c0 blk c (mUp P.jn k 0) ∧ blk .tasks = w.heap.size ∧ Below base w wr ∧ (∀ h, h < k → ∀ j, j < P.jn h → K.err h (P.jb h j) = 0)) (fun i _ => P.nh - (intOf i).toNat)
  case atStart => exact ⟨0, _, _, Nat.zero_le _, rfl, HH0.out, HM0.out, bt0, HB0.out, fun h hh => by omega⟩
  case round =>
    obtain ⟨k, blk, c, hk, rfl, H1, M1, bt1, B1, hok⟩ := hrel
    by_cases hlt : k < P.nh
    · obtain ⟨b, off, ao', cap', rfl, hbl, hcc, hsj⟩ := HS.out k hlt
      have hcc1 := (B1.cell (p := ⟨b, off + k, none⟩) (by show b < base; omega)).trans hcc
      have hkn : (k : Int) < (P.nh : Int) := by omega
      have hjk := HJ.out k hlt
      have HH1 := hide H1
      have HM1 := hide M1
      have HB1 := hide B1
      have HOK := hide hok
      have HSJ := hide hsj
      clear H1 M1 B1 hok hsj hcc
      go_wp2_with fail
      go_loopw [25] (fun i wr => ∃ j blk c, j ≤ P.jn k ∧ i = .int .i64 (j : Nat) ∧ Has wr base blk c ∧ Made K P blk0 c0 blk c (mUp P.jn k j) ∧ blk .tasks = w.heap.size ∧ Below base w wr ∧ (∀ j', j' < j → K.err k (P.jb k j') = 0)) (fun i _ => P.jn k - (intOf i).toNat)
      case atStart => exact ⟨0, blk, c, Nat.zero_le _, rfl, HH1.out, HM1.out, bt1, HB1.out, fun j hj => by omega⟩
      case round =>
        obtain ⟨j, blk', c', hjl, rfl, H2, M2, bt2, B2, hok2⟩ := hrel
        have HH2 := hide H2
        have HM2 := hide M2
        have HB2 := hide B2
        have HOK2 := hide hok2
        clear H2 M2 hok2
        by_cases hlt2 : j < P.jn k
        · obtain ⟨b', off', rfl, hbl', hcell⟩ := HSJ.out j hlt2
          have hcx : ∀ q, q < 5 → wr.cell? ⟨b', off' + j * 5 + q, none⟩ = some ((P.jb k j).cell q) := fun q hq => (B2.cell (p := ⟨b', off' + j * 5 + q, none⟩) (by show b' < base; omega)).trans (hcell q hq)
          have p0 := hcx 0 (by omega)
          have p1 := hcx 1 (by omega)
          have p2 := hcx 2 (by omega)
          have p3 := hcx 3 (by omega)
          have p4 := hcx 4 (by omega)
          simp only [Jb.cell, Nat.add_zero] at p0 p1 p2 p3 p4
          have hjn : (j : Int) < (P.jn k : Int) := by omega
          clear hcell hcx
          have hsz := HB2.out.size
          obtain ⟨T, eT, hT⟩ := HM2.out.tasks
          have GT := hide (hT k hlt)
          rw [mUp_self] at GT
          have t0 := HH2.out.cell eT (i := k) hlt
          have lt := HH2.out.lt eT
          have bT := HH2.out.new _ _ eT
          rw [bt2] at t0 lt bT
          obtain ⟨tv, htv⟩ : ∃ tv, T k = tv := ⟨_, rfl⟩
          simp only [htv] at t0 GT
          clear hT
          by_cases her : K.err k (P.jb k j) = 0
          · go_wp2_with fail
            refine ((HMK.out _ (HB2.out.alloc (by omega) _) k (P.jb k j) (by omega) (by omega) (HJW.out k hlt j hlt2)).1 her).mono ?_
            rintro e w2 ⟨nb, RR, rfl, row2, hnb, hg2⟩
            have s2 := hg2.size
            simp only [World.size_alloc] at s2 hnb
            have TW := ((Touch.refl wr (fun _ => False)).alloc (.cells #[.int .i64 (P.jb k j).kind, .int .i64 (P.jb k j).a, .int .i64 (P.jb k j).b, .int .i64 (P.jb k j).c, .int .u64 (P.jb k j).h] 52)).trans (Touch.of_grown_none hg2 _)
            have HA := HH2.out.taskT k j nb RR (by omega) TW (fun _ _ _ _ => id) row2.row row2.inj (fun i x e => .inr (by have := hnb i x e; omega))
            have eTA : (updT c' k j RR) .tasks = some ⟨184, P.nh, T⟩ := by rw [updT_other _ _ _ _ (by simp)]; exact eT
            have t2 : w2.cell? ⟨w.heap.size, k, none⟩ = some tv := by have := HA.cell eTA (i := k) hlt; rw [updT_other _ _ _ _ (by simp), bt2] at this; simpa [htv] using this
            have lt2 : w.heap.size < w2.heap.size := by omega
            have GT2 : Grows (updT blk' k j nb) (updT c' k j RR) (.trow k) 48 1 j (ifs K P (updT blk' k j nb) k j) tv := by
              rw [ifs_congr (blk := blk') (fun i hi => updT_other _ _ _ _ (fun q => by simp; omega))]
              exact GT.out.updT (by simp) _ _
            have BW := hide ((HB2.out.alloc (by omega) (.cells #[.int .i64 (P.jb k j).kind, .int .i64 (P.jb k j).a, .int .i64 (P.jb k j).b, .int .i64 (P.jb k j).c, .int .u64 (P.jb k j).h] 52)).trans (below_of_grown_none hg2 base (by simp; omega)))
            have HHA := hide HA
            have HRR := hide row2.lies
            have GTA := hide GT2
            have ETA := hide eTA
            clear row2 hg2 HA GT2 TW eTA p0 p1 p2 p3 p4 t0
            obtain ⟨i98, hi98, hz98, hs98, hy98⟩ := info98
            go_wp2_with (at_builtin; refine wpList_append_own_at _ rfl (.tmp 44) (.tmp 46) 184 rfl base 48 i98 .nilIface 1 16 Tryz.underlying184 hi98 hz98 hs98 hy98 rfl (by decide) tv j (ifs K P (updT blk' k j nb) k j) rfl (GTA.out.owns (HHA.out.alloc _) (ifs_length _ _ _ _ _)) ⟨w2.heap.size, 0, none⟩ 1 1 [.iface (K.tid (P.jb k j)) (.pointer (some ⟨nb 0, 0, none⟩))] rfl rfl (cell_one_new _ _ _) (by intro u hu; simp at hu; subst hu; rfl) (by unfold maxLen; omega) (by omega) (by simp; omega) ?_; intro v3 w3 hown3 hg3 _ hat3; obtain ⟨nb2, F, cp, rfl, H3, G3, hbn, hnb2⟩ := Grows.appended GTA.out HHA.out (by omega) ((Touch.refl w2 (fun _ => False)).alloc _) hown3 hg3 hat3; have E3 := hide (show (upd (updT c' k j RR) (.trow k) (some ⟨48, cp * 1, F⟩)) .tasks = some ⟨184, P.nh, T⟩ from (by rw [upd_other _ _ (by simp)]; exact ETA.out)); have t3 : w3.cell? ⟨w.heap.size, k, none⟩ = some tv := (by have := H3.cell E3.out (i := k) hlt; rw [upd_other _ _ (by simp), updT_other _ _ _ _ (by simp), bt2] at this; simpa [htv] using this); have f3 : w3.frozen? ⟨w.heap.size, k, none⟩ = false := (by have := H3.frozen E3.out k; rw [upd_other _ _ (by simp), updT_other _ _ _ _ (by simp), bt2] at this; exact this); have HH3 := hide H3; have GG3 := hide G3; have BB3 := hide ((BW.out.alloc (by omega) (.cells #[.iface (K.tid (P.jb k j)) (.pointer (some ⟨nb 0, 0, none⟩))] 48)).grown hg3 (by simp; omega) (fun i hi => ((GTA.out.owns HHA.out (ifs_length _ _ _ _ _)).lt i hi).1)); clear H3 G3 hown3 hg3 hat3)
            go_roundw
            case rel =>
              have H4 := HH3.out.set .tasks E3.out k (.slice (some ⟨nb2, 0, none⟩) (j + 1) cp)
              rw [upd_other (r' := Rl.tasks) (r := Rl.trow k) _ nb2 (by simp), updT_other (r := Rl.tasks) blk' k j nb (by simp), bt2] at H4
              refine ⟨j + 1, _, _, by omega, by go_num, H4, ?_, ?_, BB3.out.setCell bT _, fun j' hj' => ?_⟩
              · have M4 := HM2.out
                rcases GG3.out with ⟨h0, _⟩ | ⟨cp', F', e1, e2, e3, e4, e5⟩
                · omega
                · have ecp : cp' = cp := by simpa using e1.symm
                  subst ecp
                  rw [upd_same] at e2
                  cases e2
                  refine M4.more hlt HRR.out eT rfl ?_ e3 e4
                  have e6 : ifs K P (updT blk' k j nb) k (j + 1) = ifs K P (updT blk' k j nb) k j ++ [.iface (K.tid (P.jb k j)) (.pointer (some ⟨nb 0, 0, none⟩))] := by simp [ifs, updT]
                  rw [e6]; exact e5
              · simpa [upd, updT] using bt2
              · rcases Nat.lt_succ_iff_lt_or_eq.1 hj' with h | rfl
                · exact HOK2.out j' h
                · exact her
            case measure => simp [intOf]; omega
          · go_wp2_with (go_at_call 108; refine ((HMK.out _ (HB2.out.alloc (by omega) _) k (P.jb k j) (by omega) (by omega) (HJW.out k hlt j hlt2)).2 her).mono ?_; rintro e w2 ⟨rfl, hg2⟩; have BW := hide ((HB2.out.alloc (by omega) (.cells #[.int .i64 (P.jb k j).kind, .int .i64 (P.jb k j).a, .int .i64 (P.jb k j).b, .int .i64 (P.jb k j).c, .int .u64 (P.jb k j).h] 52)).trans (below_of_grown_none hg2 base (by simp; omega))); clear hg2)
            go_ret2
            exact ⟨BW.out, .inr ⟨K.err k (P.jb k j), ⟨k, j, hlt, hlt2, rfl, her, HOK.out, HOK2.out⟩, rfl⟩⟩
        · obtain rfl : j = P.jn k := by omega
          have M3 := HM2.out
          rw [mUp_next] at M3
          have HM3 := hide M3
          clear M3
          go_wp2_with fail
          go_roundw
          case rel => exact ⟨k + 1, blk', c', by omega, by go_num, HH2.out, HM3.out, bt2, HB2.out, fun h hh j' hj' => by rcases Nat.lt_succ_iff_lt_or_eq.1 hh with e | rfl; exact HOK.out h e j' hj'; exact HOK2.out j' hj'⟩
          case measure => simp [intOf]; omega
    · obtain rfl : k = P.nh := by omega
      go_wp2_with fail
      go_ret2
      exact ⟨B1, .inl ⟨hok, blk, c, by rw [bt1]; rfl, H1, M1⟩⟩
end OfAny
end
end Go.Proofs.YtppgbndoijppnaaGreat

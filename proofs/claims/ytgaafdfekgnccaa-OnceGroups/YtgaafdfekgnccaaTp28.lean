/-
  Lemmas: OgW.
-/
import Derived.Test.YtgaafdfekgnccaaTp27
/-
  OnceGroups walked: the calls of all lists, one behind the other.
-/
namespace Go.Proofs.Ytgaafdfekgnccaa
namespace Og
open Go.RowKit Go.Deep
set_option linter.unusedVariables false
set_option linter.unusedSimpArgs false
set_option maxRecDepth 100000

theorem info_int : (Try.prog.info? 3).map (fun i => (i.zero.map Value.cells, i.size, i.bytes)) = some (some #[.int .i64 0], 1, 8) := by kernel_rfl
theorem meas_b {k n : Nat} (h : k < n) : n - (intOf (.int .i64 ((k : Int) + 1))).toNat < n - (intOf (.int .i64 (k : Int))).toNat := by
  simp only [intOf]
  omega
theorem vi_b {i : Nat} : Value.int .i64 ((i : Int) + 1) = .int .i64 ((i + 1 : Nat) : Int) := by simp

/-- The world in which the calls begin. -/
def started (w : World) (n : Nat) : World :=
  (((w.alloc (.cells (madeCells #[.int .i64 0] n) 3)).alloc (.cells #[.slice (some ⟨w.heap.size, 0, none⟩) n n] 31)).alloc (.cells (madeCells #[.int .i64 0] n) 3)).alloc (.cells #[.slice (some ⟨w.heap.size + 1 + 1, 0, none⟩) n n] 31)

theorem started_below (w : World) (n : Nat) : Below w.heap.size w (started w n) := by
  unfold started
  exact ((((Below.refl _ w).alloc (Nat.le_refl _) _).alloc (by simp) _).alloc (by simp; omega) _).alloc (by simp; omega) _
theorem started_size (w : World) (n : Nat) : (started w n).heap.size = w.heap.size + 4 := by unfold started; simp

theorem grp_start {w2 w3 w4 : World} {n : Nat} (h2 : n ≤ 64) (hw : w3 = grouped w2 n) (hb : Below w3.heap.size w3 w4) :
    Grp (w4.heap.size + 4) (started w4 n) w2.heap.size w4.heap.size (w4.heap.size + 1 + 1) (w2.heap.size + 1) n ⟨w4.heap.size + 1, 0, none⟩ ⟨w4.heap.size + 1 + 1 + 1, 0, none⟩ (fun _ => false) := by
  subst hw
  have hz := grouped_size w2 n
  have hz4 := hb.size
  have hs := hb.trans ((started_below w4 n).mono hz4)
  have lt : w2.heap.size < (grouped w2 n).heap.size := by omega
  have lt1 : w2.heap.size + 1 < (grouped w2 n).heap.size := by omega
  refine ⟨by rw [started_size]; exact Nat.le_refl _, h2, ?_, ?_, ?_, ?_, ?_, ?_, by omega, by omega, by omega, by omega, by simp, by simp, by omega, by omega, by omega, by simp; omega, by simp; omega, by simp, by simp; omega, by simp, by simp, by omega, by omega, by omega⟩
  · rw [hs.cell (p := ⟨w2.heap.size + 1, 0, none⟩) lt1]; exact grouped_g w2 n
  · exact (grouped_keys w2 n).of_block (hs.block _ lt)
  · unfold started
    exact ((((World.rowIs_made w4 (.int .i64 0) n 3).alloc _).alloc _).alloc _).congr (fun i hi => by simp [Cf])
  · have h := World.rowIs_made ((w4.alloc (.cells (madeCells #[.int .i64 0] n) 3)).alloc (.cells #[.slice (some ⟨w4.heap.size, 0, none⟩) n n] 31)) (.int .i64 0) n 3
    have h' := (h.alloc (.cells #[.slice (some ⟨w4.heap.size + 1 + 1, 0, none⟩) n n] 31)).congr (g := Cf (fun _ => false)) (fun i hi => by simp [Cf])
    simpa [started] using h'
  · have h := rowIs_one (w4.alloc (.cells (madeCells #[.int .i64 0] n) 3)) (.slice (some ⟨w4.heap.size, 0, none⟩) n n) 31
    exact ((h.alloc _).alloc _).cell' (by simp) (by decide)
  · have h := rowIs_one (((w4.alloc (.cells (madeCells #[.int .i64 0] n) 3)).alloc (.cells #[.slice (some ⟨w4.heap.size, 0, none⟩) n n] 31)).alloc (.cells (madeCells #[.int .i64 0] n) 3)) (.slice (some ⟨w4.heap.size + 1 + 1, 0, none⟩) n n) 31
    exact h.cell' (by simp) (by decide)

theorem pass {s : Nat} {V w' : World} {b gc ge gb n : Nat} {cp ep : Addr} {d : Nat → Bool} (G : Grp s V b gc ge gb n cp ep d) (T : Touch V w' (fun x => x = b ∨ x = gc ∨ x = ge)) {a : Addr} {x : Value} (ha : s ≤ a.block) (hx : V.cell? a = some x) : w'.cell? a = some x := by
  have lt := World.block_lt_of_cell? _ _ hx
  have l1 := G.lb; have l2 := G.lc; have l3 := G.le
  exact (World.cell?_of_block (w := V) (T.block _ lt (by omega))).trans hx

/-- A round at a key that is there: the call, and what is read behind it. -/
theorem round_right {s B : Nat} {w wy : World} {b gc ge gb n : Nat} {cp ep : Addr} {d : Nat → Bool} (G : Grp s wy b gc ge gb n cp ep d) (hB : Below B w wy) (kk : Nat) (hk : kk < n) (fl : Bool) (lb : B ≤ b) (lc : B ≤ gc) (le : B ≤ ge) (hBs : B ≤ s) :
    Calls Try.prog 8 #[.pointer (some ⟨gb, 0, none⟩), .int .i64 kk, .func (.func 9) #[] #[.pointer (some cp), .pointer (some ⟨wy.heap.size, 0, none⟩), .pointer (some ep), .pointer (some ⟨wy.heap.size + 1, 0, none⟩)]]
      ((wy.alloc (.cells #[.int .i64 kk] 3)).alloc (.cells #[.bool fl] 4)) fun e w' =>
      e = .returned (.tuple #[.bool (!d kk), .bool (!d kk && fl), .int .i64 0]) ∧ Grp s w' b gc ge gb n cp ep (did d kk) ∧ Below B w w' ∧ w'.cell? cp = some (.slice (some ⟨gc, 0, none⟩) n n) ∧ w'.cell? ep = some (.slice (some ⟨ge, 0, none⟩) n n) ∧
        w'.cell? ⟨wy.heap.size, 0, none⟩ = some (.int .i64 kk) ∧ w'.cell? ⟨wy.heap.size + 1, 0, none⟩ = some (.bool fl) ∧ w'.cell? ⟨gc, kk, none⟩ = some (.int .i64 1) ∧ w'.cell? ⟨ge, kk, none⟩ = some (.int .i64 1) := by
  have hs := G.size
  have b2 : Below wy.heap.size wy ((wy.alloc (.cells #[.int .i64 kk] 3)).alloc (.cells #[.bool fl] 4)) := ((Below.refl _ wy).alloc (Nat.le_refl _) _).alloc (by simp) _
  have c1 : ((wy.alloc (.cells #[.int .i64 kk] 3)).alloc (.cells #[.bool fl] 4)).cell? ⟨wy.heap.size, 0, none⟩ = some (.int .i64 kk) := ((rowIs_one wy (.int .i64 kk) 3).alloc _).cell' rfl (by decide)
  have c2 : ((wy.alloc (.cells #[.int .i64 kk] 3)).alloc (.cells #[.bool fl] 4)).cell? ⟨wy.heap.size + 1, 0, none⟩ = some (.bool fl) := (rowIs_one (wy.alloc (.cells #[.int .i64 kk] 3)) (.bool fl) 4).cell' (by simp) (by decide)
  have hz : ((wy.alloc (.cells #[.int .i64 kk] 3)).alloc (.cells #[.bool fl] 4)).heap.size = wy.heap.size + 2 := by simp
  generalize (wy.alloc (.cells #[.int .i64 kk] 3)).alloc (.cells #[.bool fl] 4) = V at *
  have GV := G.below (b2.mono hs)
  refine (call_right GV kk hk ⟨wy.heap.size, 0, none⟩ ⟨wy.heap.size + 1, 0, none⟩ fl c1 c2 hs (by simp; omega) (by simp; omega) (by simp; omega)).mono ?_
  rintro e w' ⟨rfl, hG, hT⟩
  have hb' : Below B V w' := hT.below (fun k h => by rcases h with rfl | rfl | rfl <;> assumption) (by omega)
  refine ⟨rfl, hG, (hB.trans (b2.mono (by omega))).trans hb', hG.c, hG.e, pass GV hT hs c1, pass GV hT (by simp; omega) c2, ?_, ?_⟩
  · rw [hG.called.cell hk]; simp [Cf, did]
  · rw [hG.ended.cell hk]; simp [Cf, did]

/-- A round at a wrong key. -/
theorem round_wrong {s B : Nat} {w wy : World} {b gc ge gb n : Nat} {cp ep : Addr} {d : Nat → Bool} (G : Grp s wy b gc ge gb n cp ep d) (hB : Below B w wy) (key : Int) (hk : ¬ (0 ≤ key ∧ key < n)) (fl : Bool) (hBs : B ≤ s) :
    Calls Try.prog 8 #[.pointer (some ⟨gb, 0, none⟩), .int .i64 key, .func (.func 9) #[] #[.pointer (some cp), .pointer (some ⟨wy.heap.size, 0, none⟩), .pointer (some ep), .pointer (some ⟨wy.heap.size + 1, 0, none⟩)]]
      ((wy.alloc (.cells #[.int .i64 key] 3)).alloc (.cells #[.bool fl] 4)) fun e w' =>
      e = .returned (.tuple #[.bool false, .bool false, .int .i64 2]) ∧ Grp s w' b gc ge gb n cp ep d ∧ Below B w w' := by
  have hs := G.size
  have b2 : Below wy.heap.size wy ((wy.alloc (.cells #[.int .i64 key] 3)).alloc (.cells #[.bool fl] 4)) := ((Below.refl _ wy).alloc (Nat.le_refl _) _).alloc (by simp) _
  generalize (wy.alloc (.cells #[.int .i64 key] 3)).alloc (.cells #[.bool fl] 4) = V at *
  have GV := G.below (b2.mono hs)
  refine (call_wrong GV key hk ⟨wy.heap.size, 0, none⟩ ⟨wy.heap.size + 1, 0, none⟩).mono ?_
  rintro e w' ⟨rfl, hT⟩
  exact ⟨rfl, GV.below (hT.mono GV.size), (hB.trans (b2.mono (by omega))).trans (hT.mono (by have := GV.size; omega))⟩

set_option maxHeartbeats 3200000 in
theorem walk_good {w : World} {n : Nat} {aoc aof : Option Addr} {nc cc nf cf : Nat} {ln : Nat → Nat} {ks : Nat → Nat → Int} {fls : Nat → Bool} (h1 : 1 ≤ n) (h2 : n ≤ 64) (hc : nc ≤ 64) (hnf : nf ≤ maxLen)
    (SC : SeesC w w.heap.size aoc nc ln ks) (SF : SeesB w w.heap.size aof nf fls) :
    Calls Try.prog 3 #[.int .i64 n, .slice aoc nc cc, .slice aof nf cf] w fun e w' => e = .returned (.bool true) ∧ Below w.heap.size w w' := by
  have h3 : ¬ ((n : Int) < 1) := by omega
  have h4 : ¬ ((n : Int) > 64) := by omega
  have h5 : ¬ ((nc : Int) > 64) := by omega
  have HSC := hide SC
  have HSF := hide SF
  have hmk := run_make_z (P := Try.prog) 31 3 _ 1 8 Try.underlying31 info_int n (by omega) (by omega)
  have hmf : ∀ (fn : Fn) (first cap : Array Value) (w : World), (Instr.makeFunc fn first cap).run Try.prog w = .ok (.func fn first cap) w := fun _ _ _ _ => rfl
  clear SC SF
  go_enter Try.func3, Try.ntmps3
  go_wp2_with (first
    | (go_at_call 4; refine (Once.awake_any _).mono ?_; rintro e w1 ⟨rfl, b1⟩; have B1 := hide b1; clear b1)
    | (go_at_call 5; with_reducible refine (do_none 0 (.func 6) #[] #[] _).mono ?_; rintro e w2 ⟨rfl, b2⟩; have B2 := hide (B1.out.trans (b2.mono B1.out.size)); clear b2)
    | (go_at_call 7; refine (group_good _ n h1 h2).mono ?_; rintro e w3 ⟨rfl, hw3⟩; have HW3 := hide hw3; clear hw3)
    | (go_at_call 5; with_reducible refine (do_nilf 0 _ _).mono ?_; rintro e w4 ⟨rfl, b4⟩; have B4 := hide b4; clear b4))
  have GS := hide (grp_start h2 HW3.out B4.out)
  have BS := hide (show Below w.heap.size w (started w4 n) from (B2.out.trans (((HW3.out ▸ grouped_below w2 n : Below w2.heap.size w2 w3).mono B2.out.size))).trans ((B4.out.trans ((started_below w4 n).mono B4.out.size)).mono (by have := B2.out.size; have := grouped_size w2 n; rw [HW3.out]; omega)))
  change Code.wp Try.prog _ _ _ (started w4 n)
  generalize hX : started w4 n = X at GS BS
  generalize hgc : w4.heap.size = gc at GS
  generalize hb0 : w2.heap.size = b0 at GS
  have L0 : w.heap.size ≤ b0 := hb0 ▸ B2.out.size
  have L1 : w.heap.size ≤ gc := by have h1 := B4.out.size; have h2 := grouped_size w2 n; rw [HW3.out] at h1; omega
  clear hX B4 HW3 B2 B1
  go_loopw [80] (fun v80 wr => ∃ (k : Nat) (d : Nat → Bool), k ≤ nc ∧ v80 = .int .i64 (k : Int) ∧ Grp (gc + 4) wr b0 gc (gc + 1 + 1) (b0 + 1) n ⟨gc + 1, 0, none⟩ ⟨gc + 1 + 1 + 1, 0, none⟩ d ∧ Below w.heap.size w wr) (fun v80 _ => nc - (intOf v80).toNat)
  case atStart => exact ⟨0, fun _ => false, Nat.zero_le _, rfl, GS.out, BS.out⟩
  case round =>
    obtain ⟨k, d, hk, rfl, hG, hB⟩ := hrel
    have HG := hide hG
    have HB := hide hB
    clear hG hB GS BS
    by_cases hlt : k < nc
    · obtain ⟨bl, ol, ai, ci, rfl, hbl, hcl, hSI, hli⟩ := HSC.out k hlt
      obtain ⟨m, hm⟩ : ∃ m, ln k = m := ⟨_, rfl⟩
      rw [hm] at hcl hSI hli
      have hcl' : wr.cell? ⟨bl, ol + k, none⟩ = some (.slice ai m ci) := by rw [HB.out.cell (p := ⟨bl, ol + k, none⟩) hbl]; exact hcl
      have hlt' : (k : Int) < nc := by omega
      have HSI := hide hSI
      clear hSI hcl hm
      go_wp2_with fail
      go_loopw [86] (fun v86 wy => ∃ (q : Nat) (d' : Nat → Bool), q ≤ m ∧ v86 = .int .i64 (q : Int) ∧ Grp (gc + 4) wy b0 gc (gc + 1 + 1) (b0 + 1) n ⟨gc + 1, 0, none⟩ ⟨gc + 1 + 1 + 1, 0, none⟩ d' ∧ Below w.heap.size w wy) (fun v86 _ => m - (intOf v86).toNat)
      case atStart => exact ⟨0, d, Nat.zero_le _, rfl, HG.out, HB.out⟩
      case round =>
        obtain ⟨q, d', hq, rfl, hGy, hBy⟩ := hrel
        obtain ⟨wy, hwy⟩ : ∃ W, W = wr := ⟨_, rfl⟩
        subst hwy
        have HGy := hide hGy
        have HBy := hide hBy
        clear hGy hBy HG HB hcl'
        by_cases hql : q < m
        · obtain ⟨bi, oi, rfl, hbi, hci⟩ := HSI.out q hql
          have hci' : wy.cell? ⟨bi, oi + q, none⟩ = some (.int .i64 (ks k q)) := by rw [HBy.out.cell (p := ⟨bi, oi + q, none⟩) hbi]; exact hci
          have hql' : (q : Int) < m := by omega
          have HWR := hide (show wrap64 ((q : Int) + 1) = (q : Int) + 1 by unfold maxLen at hli; unfold wrap64; omega)
          clear hci
          generalize ks k q = x at hci'
          by_cases hx0 : x < 0
          · have hx1 : ¬ 0 ≤ x := by omega
            · as_aux_lemma =>
              have HR := hide (round_wrong HGy.out HBy.out x (by omega) false (by omega))
              go_wp2_with (go_at_call 8; refine HR.out.mono ?_; rintro e wz ⟨rfl, hGz, hBz⟩; have HGz := hide hGz; have HBz := hide hBz; clear hGz hBz)
              go_roundw
              case rel => exact ⟨q + 1, d', hql, by rw [HWR.out]; exact vi_b, HGz.out, HBz.out⟩
              case measure => rw [HWR.out]; exact meas_b hql
          · have hx1 : 0 ≤ x := by omega
            by_cases hxn : x < n
            · obtain ⟨kk, rfl⟩ : ∃ kk : Nat, x = (kk : Int) := ⟨x.toNat, by omega⟩
              have hkn : kk < n := by omega
              have hkn' : ¬ (n : Int) ≤ kk := by omega
              by_cases hnfk : kk < nf
              · cases hd : d' kk
                · as_aux_lemma =>
                  obtain ⟨bf, of, rfl, hbf, hcf⟩ := HSF.out kk hnfk
                  have hcf1 : (wy.alloc (.cells #[.int .i64 kk] 3)).cell? ⟨bf, of + kk, none⟩ = some (.bool (fls kk)) := by rw [World.cell?_alloc_past _ _ _ (by have := HBy.out.size; show bf < _; omega), HBy.out.cell (p := ⟨bf, of + kk, none⟩) hbf]; exact hcf
                  have hn1 : (kk : Int) < nf := by omega
                  clear hcf
                  have c1 : (wy.alloc (.cells #[.int .i64 kk] 3)).cell? ⟨gc + 1, 0, none⟩ = some (.slice (some ⟨gc, 0, none⟩) n n) := by rw [World.cell?_alloc_past _ _ _ (by have := HGy.out.size; show gc + 1 < _; omega)]; exact HGy.out.c
                  have c2 : (wy.alloc (.cells #[.int .i64 kk] 3)).cell? ⟨gc, kk, none⟩ = some (.int .i64 0) := by rw [World.cell?_alloc_past _ _ _ (by have := HGy.out.size; show gc < _; omega), HGy.out.called.cell hkn]; simp [Cf, hd]
                  have HR := hide (round_right HGy.out HBy.out kk hkn (fls kk) L0 L1 (by omega) (by omega))
                  rw [hd] at HR
                  go_wp2_with (go_at_call 8; refine HR.out.mono ?_; rintro e wz ⟨rfl, hGz, hBz, z1, z2, z3, z4, z5, z6⟩; have HGz := hide hGz; have HBz := hide hBz; clear hGz hBz)
                  go_roundw
                  case rel => exact ⟨q + 1, did d' kk, hql, by rw [HWR.out]; exact vi_b, HGz.out, HBz.out⟩
                  case measure => rw [HWR.out]; exact meas_b hql
                · as_aux_lemma =>
                  obtain ⟨bf, of, rfl, hbf, hcf⟩ := HSF.out kk hnfk
                  have hcf1 : (wy.alloc (.cells #[.int .i64 kk] 3)).cell? ⟨bf, of + kk, none⟩ = some (.bool (fls kk)) := by rw [World.cell?_alloc_past _ _ _ (by have := HBy.out.size; show bf < _; omega), HBy.out.cell (p := ⟨bf, of + kk, none⟩) hbf]; exact hcf
                  have hn1 : (kk : Int) < nf := by omega
                  clear hcf
                  have c1 : (wy.alloc (.cells #[.int .i64 kk] 3)).cell? ⟨gc + 1, 0, none⟩ = some (.slice (some ⟨gc, 0, none⟩) n n) := by rw [World.cell?_alloc_past _ _ _ (by have := HGy.out.size; show gc + 1 < _; omega)]; exact HGy.out.c
                  have c2 : (wy.alloc (.cells #[.int .i64 kk] 3)).cell? ⟨gc, kk, none⟩ = some (.int .i64 1) := by rw [World.cell?_alloc_past _ _ _ (by have := HGy.out.size; show gc < _; omega), HGy.out.called.cell hkn]; simp [Cf, hd]
                  have HR := hide (round_right HGy.out HBy.out kk hkn (fls kk) L0 L1 (by omega) (by omega))
                  rw [hd] at HR
                  go_wp2_with (go_at_call 8; refine HR.out.mono ?_; rintro e wz ⟨rfl, hGz, hBz, z1, z2, z3, z4, z5, z6⟩; have HGz := hide hGz; have HBz := hide hBz; clear hGz hBz)
                  go_roundw
                  case rel => exact ⟨q + 1, did d' kk, hql, by rw [HWR.out]; exact vi_b, HGz.out, HBz.out⟩
                  case measure => rw [HWR.out]; exact meas_b hql
              · cases hd : d' kk
                · as_aux_lemma =>
                  have hn1 : ¬ (kk : Int) < nf := by omega
                  have hn2 : (nf : Int) ≤ kk := by omega
                  have c1 : (wy.alloc (.cells #[.int .i64 kk] 3)).cell? ⟨gc + 1, 0, none⟩ = some (.slice (some ⟨gc, 0, none⟩) n n) := by rw [World.cell?_alloc_past _ _ _ (by have := HGy.out.size; show gc + 1 < _; omega)]; exact HGy.out.c
                  have c2 : (wy.alloc (.cells #[.int .i64 kk] 3)).cell? ⟨gc, kk, none⟩ = some (.int .i64 0) := by rw [World.cell?_alloc_past _ _ _ (by have := HGy.out.size; show gc < _; omega), HGy.out.called.cell hkn]; simp [Cf, hd]
                  have HR := hide (round_right HGy.out HBy.out kk hkn false L0 L1 (by omega) (by omega))
                  rw [hd] at HR
                  go_wp2_with (go_at_call 8; refine HR.out.mono ?_; rintro e wz ⟨rfl, hGz, hBz, z1, z2, z3, z4, z5, z6⟩; have HGz := hide hGz; have HBz := hide hBz; clear hGz hBz)
                  go_roundw
                  case rel => exact ⟨q + 1, did d' kk, hql, by rw [HWR.out]; exact vi_b, HGz.out, HBz.out⟩
                  case measure => rw [HWR.out]; exact meas_b hql
                · as_aux_lemma =>
                  have hn1 : ¬ (kk : Int) < nf := by omega
                  have hn2 : (nf : Int) ≤ kk := by omega
                  have c1 : (wy.alloc (.cells #[.int .i64 kk] 3)).cell? ⟨gc + 1, 0, none⟩ = some (.slice (some ⟨gc, 0, none⟩) n n) := by rw [World.cell?_alloc_past _ _ _ (by have := HGy.out.size; show gc + 1 < _; omega)]; exact HGy.out.c
                  have c2 : (wy.alloc (.cells #[.int .i64 kk] 3)).cell? ⟨gc, kk, none⟩ = some (.int .i64 1) := by rw [World.cell?_alloc_past _ _ _ (by have := HGy.out.size; show gc < _; omega), HGy.out.called.cell hkn]; simp [Cf, hd]
                  have HR := hide (round_right HGy.out HBy.out kk hkn false L0 L1 (by omega) (by omega))
                  rw [hd] at HR
                  go_wp2_with (go_at_call 8; refine HR.out.mono ?_; rintro e wz ⟨rfl, hGz, hBz, z1, z2, z3, z4, z5, z6⟩; have HGz := hide hGz; have HBz := hide hBz; clear hGz hBz)
                  go_roundw
                  case rel => exact ⟨q + 1, did d' kk, hql, by rw [HWR.out]; exact vi_b, HGz.out, HBz.out⟩
                  case measure => rw [HWR.out]; exact meas_b hql
            · obtain ⟨xx, rfl⟩ : ∃ kk : Nat, x = (kk : Int) := ⟨x.toNat, by omega⟩
              have hxn' : (n : Int) ≤ xx := by omega
              have hxn2 : ¬ xx < n := by omega
              by_cases hnfk : xx < nf
              · as_aux_lemma =>
                obtain ⟨bf, of, rfl, hbf, hcf⟩ := HSF.out xx hnfk
                have hcf1 : (wy.alloc (.cells #[.int .i64 (xx : Int)] 3)).cell? ⟨bf, of + xx, none⟩ = some (.bool (fls xx)) := by rw [World.cell?_alloc_past _ _ _ (by have := HBy.out.size; show bf < _; omega), HBy.out.cell (p := ⟨bf, of + xx, none⟩) hbf]; exact hcf
                have hn1 : (xx : Int) < nf := by omega
                clear hcf
                have HR := hide (round_wrong HGy.out HBy.out (xx : Int) (by omega) (fls xx) (by omega))
                go_wp2_with (go_at_call 8; refine HR.out.mono ?_; rintro e wz ⟨rfl, hGz, hBz⟩; have HGz := hide hGz; have HBz := hide hBz; clear hGz hBz)
                go_roundw
                case rel => exact ⟨q + 1, d', hql, by rw [HWR.out]; exact vi_b, HGz.out, HBz.out⟩
                case measure => rw [HWR.out]; exact meas_b hql
              · as_aux_lemma =>
                have hn1 : ¬ (xx : Int) < nf := by omega
                have hn2 : (nf : Int) ≤ xx := by omega
                have HR := hide (round_wrong HGy.out HBy.out (xx : Int) (by omega) false (by omega))
                go_wp2_with (go_at_call 8; refine HR.out.mono ?_; rintro e wz ⟨rfl, hGz, hBz⟩; have HGz := hide hGz; have HBz := hide hBz; clear hGz hBz)
                go_roundw
                case rel => exact ⟨q + 1, d', hql, by rw [HWR.out]; exact vi_b, HGz.out, HBz.out⟩
                case measure => rw [HWR.out]; exact meas_b hql
        · have hql' : ¬ (q : Int) < m := by omega
          as_aux_lemma =>
            go_wp2_with fail
            go_roundw
            case rel => exact ⟨k + 1, d', hlt, vi_b, HGy.out, HBy.out⟩
            case measure => exact meas_b hlt
    · have hlt' : ¬ (k : Int) < nc := by omega
      go_wp2_with fail
      go_ret
      exact ⟨rfl, HB.out⟩
end Og
end Go.Proofs.Ytgaafdfekgnccaa

/-
  New and Words: a memory made of a row of words, and a row of words made of a memory.
-/
import Derived.Test.YtdbiphibdaghkaaView
namespace Go.Proofs.Ytdbiphibdaghkaa
open Go.RowKit
set_option linter.unusedVariables false
set_option maxRecDepth 20000
set_option linter.unusedSimpArgs false

theorem info110 : (Try.prog.info? 125).map (fun i => (i.zero.map Value.cells, i.size, i.bytes)) = some (some #[.int .u64 0], 1, 8) := by kernel_rfl
theorem info46 : (Try.prog.info? 43).map (fun i => (i.zero.map Value.cells, i.size, i.bytes)) = some (some #[.int .u64 0], 1, 8) := by kernel_rfl
theorem info48 : (Try.prog.info? 46).map (fun i => (i.zero.map Value.cells, i.size, i.bytes)) = some (some #[.int .i64 0, .int .i64 0, .int .i64 0, .int .u64 0, .int .u64 0, .bool false], 6, 48) := by kernel_rfl

/-- 'make([]T, n)' as one equation. -/
theorem run_make_z {P : Program} (t e : TypeId) (zc : Array Value) (size bytes : Nat) (ht : P.underlying t = some (.slice e)) (hinfo : (P.info? e).map (fun i => (i.zero.map Value.cells, i.size, i.bytes)) = some (some zc, size, bytes))
    (n : Nat) (hbytes : bytes * n ≤ 281474976710656) (h63 : n ≤ 9223372036854775807) (w : World) :
    (Instr.makeSlice t (.int .i64 (n : Int)) (.int .i64 (n : Int))).run P w = .ok (.slice (some ⟨w.heap.size, 0, none⟩) n n) (w.alloc (.cells (madeCells zc (n * size)) e)) := by
  obtain ⟨i, hi, hzz⟩ := Option.map_eq_some_iff.1 hinfo
  simp only [Prod.mk.injEq] at hzz
  obtain ⟨hz, hs, hb⟩ := hzz
  obtain ⟨z, hz, hzc⟩ := Option.map_eq_some_iff.1 hz
  have hbi : (i.bytes : Int) * (n : Int) ≤ 281474976710656 := by
    rw [hb]
    have h : ((bytes * n : Nat) : Int) ≤ 281474976710656 := by omega
    rwa [Int.natCast_mul] at h
  have hr := run_make (P := P) w t e i z ht hi hz .i64 .i64 n n (by omega) (Int.le_refl _) hbi (by omega)
  simpa [hs, hzc] using hr

theorem rowIs_one (w : World) (o : Value) (t : TypeId) : (w.alloc (.cells #[o] t)).rowIs w.heap.size t 1 (fun _ => o) :=
  World.rowIs_alloc w #[o] t _ (fun i hi => by have h0 : i = 0 := (by simpa using hi); subst h0; rfl)

theorem new_long {w : World} {ao : Option Addr} {n cap : Nat} (hn : 4096 < n) :
    Calls Try.prog 43 #[.slice ao n cap] w fun e w' => e = .returned (.tuple #[.pointer none, .int .i64 1]) ∧ w' = w := by
  go_enter Try.func43, Try.ntmps43
  go_wp2
  refine bodyPost_ret (v := .tuple #[.pointer none, .int .i64 1]) (by simp [results, Try.results14, go_sem]) rfl ⟨rfl, rfl⟩

set_option maxHeartbeats 800000 in
theorem new_mem {w : World} {ao : Option Addr} {n cap : Nat} {f : Nat → Int} (h : Sees w w.heap.size ao n f) (hf : ∀ i, i < n → 0 ≤ f i ∧ f i ≤ 18446744073709551615) (hn : n ≤ 4096) :
    Calls Try.prog 43 #[.slice ao n cap] w fun e w' => ∃ bm bw, e = .returned (.tuple #[.pointer (some ⟨bm, 0, none⟩), .int .i64 0]) ∧ IsMem w' bm bw n f ∧ Below w.heap.size w w' ∧ w.heap.size ≤ bm ∧ w.heap.size ≤ bw := by
  have H := hide h
  clear h
  have hmk := run_make_z (P := Try.prog) 145 125 _ 1 8 Try.underlying145 info110 n (by omega) (by omega)
  have m0 : IsMem ((w.alloc (.cells (madeCells #[.int .u64 0] n) 125)).alloc (.cells #[.slice (some ⟨w.heap.size, 0, none⟩) n n] 147)) (w.heap.size + 1) w.heap.size n (fun _ => 0) :=
    ⟨by have := rowIs_one (w.alloc (.cells (madeCells #[.int .u64 0] n) 125)) (.slice (some ⟨w.heap.size, 0, none⟩) n n) 147; simpa using this, (World.rowIs_made w (.int .u64 0) n 125).alloc _, hn, fun _ _ => by simp⟩
  have M0 := hide m0
  clear m0
  have b0 : Below w.heap.size w ((w.alloc (.cells (madeCells #[.int .u64 0] n) 125)).alloc (.cells #[.slice (some ⟨w.heap.size, 0, none⟩) n n] 147)) := ((Below.refl _ w).alloc (Nat.le_refl _) _).alloc (by simp) _
  have B0 := hide b0
  clear b0
  have HF := hide hf
  clear hf
  go_enter Try.func43, Try.ntmps43
  go_wp2_with fail
  go_loopw [17] (fun i wr => ∃ (k : Nat) (fk : Nat → Int), k ≤ n ∧ i = .int .i64 k ∧ IsMem wr (w.heap.size + 1) w.heap.size n fk ∧ (∀ j, j < k → fk j = f j) ∧ Below w.heap.size w wr) (fun i _ => n - (intOf i).toNat)
  case atStart => exact ⟨0, fun _ => 0, Nat.zero_le _, rfl, by simpa using M0.out, fun j hj => absurd hj (Nat.not_lt_zero _), by simpa using B0.out⟩
  case round =>
    obtain ⟨k, fk, hk, rfl, hm, he, hb⟩ := hrel
    have HE := hide he
    clear he
    by_cases hlt : k < n
    · obtain ⟨b, off, rfl, hbl, hcc⟩ := H.out k hlt
      have hcx : wr.cell? ⟨b, off + k, none⟩ = some (.int .u64 (f k)) := (hb.cell (p := ⟨b, off + k, none⟩) hbl).trans hcc
      have hc := hm.head.cell (i := 0) (by omega)
      have hcw := hm.row.cell hlt
      have hfz := hm.row.frozen k
      go_wp2_with (go_at_call 68; refine (word_store _ _ _ _ _ hcw hfz).mono ?_; rintro e w' ⟨rfl, rfl⟩)
      go_roundw
      case rel => exact ⟨k + 1, putF fk k (f k), by omega, by go_num, hm.set k _ (HF.out k hlt), fun j hj => by (unfold putF; split; (subst_vars; rfl); exact HE.out j (by omega)), hb.setCell (Nat.le_refl _) _⟩
      case measure => simp [intOf]; omega
    · go_wp2
      have hkn : k = n := by omega
      refine bodyPost_ret (v := .tuple #[.pointer (some ⟨w.heap.size + 1, 0, none⟩), .int .i64 0]) (by simp [results, Try.results14, go_sem]) rfl ⟨_, _, rfl, hm.congr (fun i hi => HE.out i (by omega)), hb, by omega, by omega⟩

set_option maxHeartbeats 800000 in
theorem words_mem {w : World} {bm bw n : Nat} {f : Nat → Int} (hm0 : IsMem w bm bw n f) :
    Calls Try.prog 49 #[.pointer (some ⟨bm, 0, none⟩)] w fun e w' => ∃ g, e = .returned (.slice (some ⟨g, 0, none⟩) n n) ∧ IsRow w' g n n f ∧ Below w.heap.size w w' ∧ w.heap.size ≤ g := by
  have hmost := hm0.most
  have hmk := run_make_z (P := Try.prog) 22 43 _ 1 8 Try.underlying22 info46 n (by omega) (by omega)
  have r0 : IsRow (w.alloc (.cells (madeCells #[.int .u64 0] n) 43)) w.heap.size n n (fun _ => 0) := ⟨Nat.le_refl _, by unfold maxLen; omega, ⟨_, World.rowIs_made w (.int .u64 0) n 43, fun _ _ => rfl⟩, fun _ _ => by simp⟩
  have R0 := hide r0
  clear r0
  have M0 := hide hm0
  have l1 := hm0.head.lt
  have l2 := hm0.row.lt
  have b0 : Below w.heap.size w (w.alloc (.cells (madeCells #[.int .u64 0] n) 43)) := (Below.refl _ w).alloc (Nat.le_refl _) _
  have B0 := hide b0
  clear b0
  go_enter Try.func49, Try.ntmps49
  go_wp2_with (go_at_call 72; refine (size_mem hm0).mono ?_; rintro e w' ⟨rfl, hw⟩; obtain rfl := hw.symm)
  go_loopw [10] (fun i wr => ∃ (k : Nat) (fk : Nat → Int), k ≤ n ∧ i = .int .i64 k ∧ IsRow wr w.heap.size n n fk ∧ (∀ j, j < k → fk j = f j) ∧ Below w.heap.size w wr) (fun i _ => n - (intOf i).toNat)
  case atStart => exact ⟨0, fun _ => 0, Nat.zero_le _, rfl, by simpa using R0.out, fun j hj => absurd hj (Nat.not_lt_zero _), by simpa using B0.out⟩
  case round =>
    obtain ⟨k, fk, hk, rfl, hr, he, hb⟩ := hrel
    have HE := hide he
    clear he
    by_cases hlt : k < n
    · have hm := M0.out.below hb
      have hc := hm.head.cell (i := 0) (by omega)
      have hcw := hm.row.cell hlt
      have hcr := hr.cell hlt
      have hfr := hr.frozen k
      go_wp2_with (go_at_call 73; refine (word_load _ _ _ _ hcw).mono ?_; rintro e w' ⟨rfl, rfl⟩)
      go_roundw
      case rel => exact ⟨k + 1, putF fk k (f k), by omega, by go_num, hr.set k _ (M0.out.word k hlt), fun j hj => by (unfold putF; split; (subst_vars; rfl); exact HE.out j (by omega)), hb.setCell (Nat.le_refl _) _⟩
      case measure => simp [intOf]; omega
    · go_wp2
      go_ret
      exact ⟨_, rfl, hr.congr (fun i hi => HE.out i (by omega)), hb, Nat.le_refl _⟩
end Go.Proofs.Ytdbiphibdaghkaa

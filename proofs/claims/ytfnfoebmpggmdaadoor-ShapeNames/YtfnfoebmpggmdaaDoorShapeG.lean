/-
  Shape: numbers below a hundred as texts; what a word is called.
-/
import Derived.Test.YtfnfoebmpggmdaaDoorLb
import Derived.Test.YtfnfoebmpggmdaaDoorShapeN
import Derived.Lib.Walk
import Derived.Lib.ItoaNum
import Derived.WalkKit
import Derived.Lib.Strings
import Derived.Lib.ItoaWalk
import Derived.Lib.Hide
import Derived.BigCall
import Derived.Laws.Concat
import Derived.Laws.IdiomStrings
namespace Go.Proofs.YtfnfoebmpggmdaaDoor
open Go.RowKit Go.Lib
set_option linter.unusedVariables false
set_option linter.unusedSimpArgs false
set_option linter.unnecessarySimpa false
set_option maxRecDepth 20000
namespace Shape

theorem small_ba (x : ByteArray) (l : List UInt8) (h : x.data.toList = l) : x = ⟨l.toArray⟩ := by
  subst h
  cases x
  simp

set_option maxHeartbeats 2000000 in
theorem small_ok (i : Nat) (h : i < 100) (w : World) : Calls Tryd.prog 48 #[.int .i64 (i : Int)] w fun e w' => e = .returned (.string ⟨(Lib.decDigits i).toArray⟩) ∧ w' = w := by
  go_enter Tryd.func48, Tryd.ntmps48
  go_name_bytes_deep 45 SM hSM
  have eSM : SM = Lib.smalls := by rw [← hSM]; decide +kernel
  subst eSM
  clear hSM
  go_name_bytes_deep 30 DG hDG
  have eDG : DG = Lib.digits36 := by rw [← hDG]; decide +kernel
  subst eDG
  clear hDG
  by_cases h10 : i < 10
  · have hsl : ∀ w, (Instr.slice 9 (.string Lib.digits36) (some (.int .i64 (i : Int))) (some (.int .i64 ((i : Int) + 1))) none).run Tryd.prog w = .ok (.string (Lib.digits36.extract i (i + 1))) w := fun w => by
      rw [run_slice_string w 9 Lib.digits36 .i64 .i64 _ _ Tryd.underlying9 (by omega) (by omega) (by rw [Lib.digits36_size]; omega), show ((i : Int)).toNat = i by omega, show ((i : Int) + 1).toNat = i + 1 by omega]
    go_wp2
    go_ret
    refine ⟨?_, rfl⟩
    show Ending.returned (Value.string (Lib.digits36.extract i (i + 1))) = _
    rw [small_ba (Lib.digits36.extract i (i + 1)) (Lib.decDigits i) (by rw [Lib.extract_data]; exact Lib.digits36_piece h10)]
  · have hsl : ∀ w, (Instr.slice 9 (.string Lib.smalls) (some (.int .i64 ((i : Int) * 2))) (some (.int .i64 ((i : Int) * 2 + 2))) none).run Tryd.prog w = .ok (.string (Lib.smalls.extract (i * 2) (i * 2 + 2))) w := fun w => by
      rw [run_slice_string w 9 Lib.smalls .i64 .i64 _ _ Tryd.underlying9 (by omega) (by omega) (by rw [Lib.smalls_size]; omega), show ((i : Int) * 2).toNat = i * 2 by omega, show ((i : Int) * 2 + 2).toNat = i * 2 + 2 by omega]
    go_wp2
    go_ret
    refine ⟨?_, rfl⟩
    show Ending.returned (Value.string (Lib.smalls.extract (i * 2) (i * 2 + 2))) = _
    rw [small_ba (Lib.smalls.extract (i * 2) (i * 2 + 2)) (Lib.decDigits i) (by rw [Lib.extract_data]; exact Lib.smalls_piece h10 h)]

theorem fmt_ok (i : Nat) (h : i < 100) (w : World) : Calls Tryd.prog 47 #[.int .i64 (i : Int), .int .i64 10] w fun e w' => e = .returned (.string ⟨(Lib.decDigits i).toArray⟩) ∧ w' = w := by
  go_enter Tryd.func47, Tryd.ntmps47
  go_wp2_with (go_at_call 48; refine (small_ok i h _).mono ?_; rintro e w' ⟨rfl, rfl⟩)
  go_ret
  exact ⟨rfl, rfl⟩
theorem iitoa_ok (i : Nat) (h : i < 100) (w : World) : Calls Tryd.prog 46 #[.int .i64 (i : Int)] w fun e w' => e = .returned (.string ⟨(Lib.decDigits i).toArray⟩) ∧ w' = w := by
  go_enter Tryd.func46, Tryd.ntmps46
  go_wp2_with (go_at_call 47; refine (fmt_ok i h _).mono ?_; rintro e w' ⟨rfl, rfl⟩)
  go_ret
  exact ⟨rfl, rfl⟩
theorem itoa_ok (i : Nat) (h : i < 100) (w : World) : Calls Tryd.prog 45 #[.int .i64 (i : Int)] w fun e w' => e = .returned (.string ⟨(Lib.decDigits i).toArray⟩) ∧ w' = w := by
  go_enter Tryd.func45, Tryd.ntmps45
  go_wp2_with (go_at_call 46; refine (iitoa_ok i h _).mono ?_; rintro e w' ⟨rfl, rfl⟩)
  go_ret
  exact ⟨rfl, rfl⟩

theorem dd_one (i : Nat) (h : i < 10) : Lib.decDigits i = [UInt8.ofNat (48 + i)] := Lib.decDigits_one h
theorem dd_len (i : Nat) (h : i < 100) : (Lib.decDigits i).length ≤ 2 := by
  by_cases h1 : i < 10
  · rw [Lib.decDigits_one h1]; simp
  · rw [Lib.decDigits_two h1 h]; simp
theorem conv1 (w : World) (i : Nat) (h : i < 10) : (convert 61 9 (.slice (some ⟨w.heap.size, 0, none⟩) 1 1)).run Tryd.prog (w.alloc (.cells #[.int .u8 (48 + (i : Int))] 5)) = .ok (.string ⟨(Lib.decDigits i).toArray⟩) (w.alloc (.cells #[.int .u8 (48 + (i : Int))] 5)) := by
  rw [dd_one i h]
  have := run_convert_bytes_back (P := Tryd.prog) (w.alloc (.cells #[.int .u8 (48 + (i : Int))] 5)) 61 9 5 ⟨w.heap.size, 0, none⟩ 1 [UInt8.ofNat (48 + i)] Tryd.underlying61 Tryd.underlying5 Tryd.underlying9 (fun j hj => by
    have hj' : j = 0 := by simpa using hj
    subst hj'
    have e : ((UInt8.ofNat (48 + i)).toNat : Int) = 48 + (i : Int) := by
      have : (UInt8.ofNat (48 + i)).toNat = 48 + i := by simp [UInt8.toNat_ofNat]; omega
      rw [this]; simp
    simp [Addr.add, e]
    omega)
  simpa using this

theorem dec1 (i : Nat) (h : i < 10) (w : World) : Calls Tryd.prog 24 #[.int .i64 (i : Int)] w fun e w' => e = .returned (.string ⟨(Lib.decDigits i).toArray⟩) ∧ Below w.heap.size w w' := by
  have e1 : IntKind.u8.wrap (48 + (i : Int)) = 48 + (i : Int) := by simp [IntKind.wrap, IntKind.signed, IntKind.bits]; omega
  have h' : (i : Int) < 10 := by omega
  have hc := conv1 w i h
  go_enter Tryd.func24, Tryd.ntmps24
  go_wp2_with fail
  go_ret
  exact ⟨rfl, (Below.refl _ w).alloc (Nat.le_refl _) _⟩
theorem dec_ok (i : Nat) (h : i < 100) (w : World) : Calls Tryd.prog 24 #[.int .i64 (i : Int)] w fun e w' => e = .returned (.string ⟨(Lib.decDigits i).toArray⟩) ∧ Below w.heap.size w w' := by
  by_cases h1 : i < 10
  · exact dec1 i h1 w
  · have h' : ¬ (i : Int) < 10 := by omega
    obtain ⟨q, hq⟩ : ∃ q, i / 10 = q := ⟨_, rfl⟩
    obtain ⟨m, hm⟩ : ∃ m, i % 10 = m := ⟨_, rfl⟩
    have eq : (i : Int).tdiv 10 = (q : Int) := by rw [Int.tdiv_eq_ediv_of_nonneg (by omega)]; omega
    have em : (i : Int).tmod 10 = (m : Int) := by rw [Int.tmod_eq_emod_of_nonneg (by omega)]; omega
    have q10 : q < 10 := by omega
    have m10 : m < 10 := by omega
    have ED := hide (show Lib.decDigits i = Lib.decDigits q ++ Lib.decDigits m from by rw [Lib.decDigits_two h1 h, dd_one q q10, dd_one m m10, ← hq, ← hm]; rfl)
    have D1 := hide (fun w1 => dec1 q q10 w1)
    have D2 := hide (fun w1 => dec1 m m10 w1)
    have HA := run_string_add_lists (P := Tryd.prog) (x := Lib.decDigits q) (y := Lib.decDigits m)
    obtain ⟨X, hX⟩ : ∃ X, (⟨(Lib.decDigits q).toArray⟩ : ByteArray) = X := ⟨_, rfl⟩
    obtain ⟨Y, hY⟩ : ∃ Y, (⟨(Lib.decDigits m).toArray⟩ : ByteArray) = Y := ⟨_, rfl⟩
    have sX : X.size ≤ 2 := by rw [← hX]; have := dd_len q (by omega); simpa [ByteArray.size] using this
    have sY : Y.size ≤ 2 := by rw [← hY]; have := dd_len m (by omega); simpa [ByteArray.size] using this
    have hs : ¬ (9223372036854775807 < X.size + Y.size) := by omega
    have EX := hide (show X ++ Y = ⟨(Lib.decDigits i).toArray⟩ from by rw [ED.out, ← hX, ← hY, ByteArray.mk_append_mk])
    rw [hX] at D1
    rw [hY] at D2
    clear hX hY HA hq hm h1
    go_enter Tryd.func24, Tryd.ntmps24
    go_wp2_with (first | (have hz := HB1.out; clear hz; go_at_call 24; refine (D2.out _).mono ?_; rintro e w2 ⟨rfl, hb2⟩; have HB2 := hide (HB1.out.trans (hb2.mono HB1.out.size)); clear hb2) | (go_at_call 24; refine (D1.out _).mono ?_; rintro e w1 ⟨rfl, hb1⟩; have HB1 := hide hb1; clear hb1))
    go_ret
    exact ⟨by rw [← EX.out]; rfl, HB2.out⟩

theorem rdec1 (i : Nat) (h : i < 10) (w : World) : Calls Tryd.prog 43 #[.int .i64 (i : Int)] w fun e w' => e = .returned (.string ⟨(Lib.decDigits i).toArray⟩) ∧ Below w.heap.size w w' := by
  have e1 : IntKind.u8.wrap (48 + (i : Int)) = 48 + (i : Int) := by simp [IntKind.wrap, IntKind.signed, IntKind.bits]; omega
  have h' : (i : Int) < 10 := by omega
  have hc := conv1 w i h
  go_enter Tryd.func43, Tryd.ntmps43
  go_wp2_with fail
  go_ret
  exact ⟨rfl, (Below.refl _ w).alloc (Nat.le_refl _) _⟩
theorem rdec_ok (i : Nat) (h : i < 100) (w : World) : Calls Tryd.prog 43 #[.int .i64 (i : Int)] w fun e w' => e = .returned (.string ⟨(Lib.decDigits i).toArray⟩) ∧ Below w.heap.size w w' := by
  by_cases h1 : i < 10
  · exact rdec1 i h1 w
  · have h' : ¬ (i : Int) < 10 := by omega
    obtain ⟨q, hq⟩ : ∃ q, i / 10 = q := ⟨_, rfl⟩
    obtain ⟨m, hm⟩ : ∃ m, i % 10 = m := ⟨_, rfl⟩
    have eq : (i : Int).tdiv 10 = (q : Int) := by rw [Int.tdiv_eq_ediv_of_nonneg (by omega)]; omega
    have em : (i : Int).tmod 10 = (m : Int) := by rw [Int.tmod_eq_emod_of_nonneg (by omega)]; omega
    have q10 : q < 10 := by omega
    have m10 : m < 10 := by omega
    have ED := hide (show Lib.decDigits i = Lib.decDigits q ++ Lib.decDigits m from by rw [Lib.decDigits_two h1 h, dd_one q q10, dd_one m m10, ← hq, ← hm]; rfl)
    have D1 := hide (fun w1 => rdec1 q q10 w1)
    have D2 := hide (fun w1 => rdec1 m m10 w1)
    have HA := run_string_add_lists (P := Tryd.prog) (x := Lib.decDigits q) (y := Lib.decDigits m)
    obtain ⟨X, hX⟩ : ∃ X, (⟨(Lib.decDigits q).toArray⟩ : ByteArray) = X := ⟨_, rfl⟩
    obtain ⟨Y, hY⟩ : ∃ Y, (⟨(Lib.decDigits m).toArray⟩ : ByteArray) = Y := ⟨_, rfl⟩
    have sX : X.size ≤ 2 := by rw [← hX]; have := dd_len q (by omega); simpa [ByteArray.size] using this
    have sY : Y.size ≤ 2 := by rw [← hY]; have := dd_len m (by omega); simpa [ByteArray.size] using this
    have hs : ¬ (9223372036854775807 < X.size + Y.size) := by omega
    have EX := hide (show X ++ Y = ⟨(Lib.decDigits i).toArray⟩ from by rw [ED.out, ← hX, ← hY, ByteArray.mk_append_mk])
    rw [hX] at D1
    rw [hY] at D2
    clear hX hY HA hq hm h1
    go_enter Tryd.func43, Tryd.ntmps43
    go_wp2_with (first | (have hz := HB1.out; clear hz; go_at_call 43; refine (D2.out _).mono ?_; rintro e w2 ⟨rfl, hb2⟩; have HB2 := hide (HB1.out.trans (hb2.mono HB1.out.size)); clear hb2) | (go_at_call 43; refine (D1.out _).mono ?_; rintro e w1 ⟨rfl, hb1⟩; have HB1 := hide hb1; clear hb1))
    go_ret
    exact ⟨by rw [← EX.out]; rfl, HB2.out⟩

theorem tail_app (xs ys : List Nat) : tail (xs ++ ys) = tail xs ++ tail ys := by
  induction xs with
  | nil => rfl
  | cons n xs ih => simp [tail, ih]
theorem take_snoc (ns : List Nat) {j n : Nat} (h : ns[j]? = some n) : tail (ns.take (j + 1)) = tail (ns.take j) ++ (32 :: Lib.decDigits n) := by
  rw [List.take_add_one, h, tail_app]
  simp [tail]

set_option maxHeartbeats 1000000 in
theorem numbered_ok {w : World} {b cap : Nat} (p : List UInt8) (ns : List Nat) (hp : p.length ≤ 10) (hn : ns.length ≤ 2) (hb : b < w.heap.size) (h100 : ∀ j n : Nat, ns[j]? = some n → n < 100) (hc : ∀ j n : Nat, ns[j]? = some n → w.cell? ⟨b, j, none⟩ = some (.int .i64 (n : Int))) :
    Calls Tryd.prog 41 #[.string ⟨p.toArray⟩, .slice (some ⟨b, 0, none⟩) ns.length cap] w fun e w' => e = .returned (.string ⟨(p ++ tail ns).toArray⟩) ∧ w' = w := by
  have HC := hide hc
  have HH := hide h100
  obtain ⟨N, hN⟩ : ∃ N, ns.length = N := ⟨_, rfl⟩
  have HN := hide hN
  rw [hN] at hn
  rw [hN]
  clear hc h100 hN
  obtain ⟨S0, hS0⟩ : ∃ S0, (⟨p.toArray⟩ : ByteArray) = S0 := ⟨_, rfl⟩
  have HS0 := hide (show S0 = ⟨(p ++ tail (ns.take 0)).toArray⟩ ∧ S0.size ≤ 10 from by rw [← hS0]; exact ⟨by simp [tail], by simpa [ByteArray.size] using hp⟩)
  rw [hS0]
  clear hS0
  go_enter Tryd.func41, Tryd.ntmps41
  go_wp2_with fail
  go_loopw [0, 9] (fun v0 v9 wr => ∃ (j : Nat) (S : ByteArray), j ≤ N ∧ v9 = .int .i64 (j : Int) ∧ v0 = .string S ∧ Hid (S = ⟨(p ++ tail (ns.take j)).toArray⟩ ∧ S.size ≤ 10 + 3 * j) ∧ wr = w) (fun _ v9 _ => N - (RowKit.intOf v9).toNat)
  case atStart => exact ⟨0, S0, Nat.zero_le _, rfl, rfl, HS0.out, rfl⟩
  case round =>
    obtain ⟨j, S, hj, rfl, rfl, hS, rfl⟩ := hrel
    by_cases hlt : j < N
    · have hlt' : (j : Int) < (N : Int) := by omega
      obtain ⟨n, hjn⟩ : ∃ n, ns[j]? = some n := ⟨ns[j]'(by rw [HN.out]; exact hlt), by simp⟩
      have hcell := HC.out j n hjn
      have n100 := HH.out j n hjn
      have IT := hide (fun w1 => itoa_ok n n100 w1)
      obtain ⟨T, hT⟩ : ∃ T, (⟨(Lib.decDigits n).toArray⟩ : ByteArray) = T := ⟨_, rfl⟩
      rw [hT] at IT
      have sT : T.size ≤ 2 := by rw [← hT]; have := dd_len n n100; simpa [ByteArray.size] using this
      have sS := hS.out.2
      have h1 : ¬ (9223372036854775807 < 1 + T.size) := by omega
      have h2 : ¬ (9223372036854775807 < S.size + (1 + T.size)) := by omega
      have ES := hide (show S ++ ((⟨#[32]⟩ : ByteArray) ++ T) = ⟨(p ++ tail (ns.take (j + 1))).toArray⟩ ∧ (S ++ ((⟨#[32]⟩ : ByteArray) ++ T)).size ≤ 10 + 3 * (j + 1) from by
        refine ⟨?_, ?_⟩
        · rw [hS.out.1, ← hT, show (⟨#[32]⟩ : ByteArray) = ⟨([32] : List UInt8).toArray⟩ from rfl, ByteArray.mk_append_mk, ByteArray.mk_append_mk, take_snoc ns hjn]
          simp
        · simp only [ByteArray.size_append, show (⟨#[32]⟩ : ByteArray).size = 1 from rfl]
          omega)
      clear hT n100 sS
      go_wp2_with (go_at_call 45; refine (IT.out _).mono ?_; rintro e wq ⟨rfl, hwq⟩; obtain rfl := hwq.symm)
      go_roundw
      case rel => exact ⟨j + 1, _, by omega, by go_num, rfl, ES.out, (by first | trivial | rfl)⟩
      case measure => simp [RowKit.intOf]; omega
    · go_wp2_with fail
      go_ret
      have e : j = N := by omega
      refine ⟨?_, rfl⟩
      have := hS.out.1
      rw [e, ← HN.out, List.take_length] at this
      rw [← this]; rfl

theorem num1 (p : List UInt8) (hp : p.length ≤ 10) (n : Nat) (h : n < 100) (w : World) {b : Nat} (hb : b < w.heap.size) (hc : w.cell? ⟨b, 0, none⟩ = some (.int .i64 (n : Int))) : Calls Tryd.prog 41 #[.string ⟨p.toArray⟩, .slice (some ⟨b, 0, none⟩) 1 1] w fun e w' => e = .returned (.string ⟨(render (p, [n])).toArray⟩) ∧ w' = w :=
  numbered_ok (cap := 1) p [n] hp (by simp) hb (fun j m hj => by match j, hj with | 0, hj => (cases hj; exact h)) (fun j m hj => by match j, hj with | 0, hj => (cases hj; exact hc))
theorem num2 (p : List UInt8) (hp : p.length ≤ 10) (n m : Nat) (h : n < 100) (h' : m < 100) (w : World) {b : Nat} (hb : b < w.heap.size) (hc : w.cell? ⟨b, 0, none⟩ = some (.int .i64 (n : Int))) (hc' : w.cell? ⟨b, 1, none⟩ = some (.int .i64 (m : Int))) : Calls Tryd.prog 41 #[.string ⟨p.toArray⟩, .slice (some ⟨b, 0, none⟩) 2 2] w fun e w' => e = .returned (.string ⟨(render (p, [n, m])).toArray⟩) ∧ w' = w :=
  numbered_ok (cap := 2) p [n, m] hp (by simp) hb (fun j q hj => by match j, hj with | 0, hj => (cases hj; exact h) | 1, hj => (cases hj; exact h')) (fun j q hj => by match j, hj with | 0, hj => (cases hj; exact hc) | 1, hj => (cases hj; exact hc'))

theorem own0 (i : Nat) (hi : i < 100) (w : World) : Calls Tryd.prog 42 #[.int .i64 (i : Int), .int .i64 0] w fun e w' => e = .returned (.string ⟨(render (tHead, [i])).toArray⟩) ∧ Below w.heap.size w w' := by
  have NU := hide (fun (w1 : World) (b : Nat) (hb : b < w1.heap.size) (hc : w1.cell? ⟨b, 0, none⟩ = some (.int .i64 (i : Int))) => show Calls Tryd.prog 41 #[.string ⟨#[104, 101, 97, 100]⟩, .slice (some ⟨b, 0, none⟩) 1 1] w1 fun e w' => e = .returned (.string ⟨(render (tHead, [i])).toArray⟩) ∧ w' = w1 from num1 tHead (by decide) i hi w1 hb hc)
  go_enter Tryd.func42, Tryd.ntmps42
  go_wp2_with (go_at_call 41; refine (NU.out _ _ (by simp) (by simp)).mono ?_; rintro e wq ⟨rfl, hwq⟩; obtain rfl := hwq.symm)
  go_ret
  exact ⟨rfl, (Below.refl _ w).alloc (Nat.le_refl _) _⟩

theorem own1 (i : Nat) (hi : i < 100) (w : World) : Calls Tryd.prog 42 #[.int .i64 (i : Int), .int .i64 1] w fun e w' => e = .returned (.string ⟨(render (tLink, [i])).toArray⟩) ∧ Below w.heap.size w w' := by
  have NU := hide (fun (w1 : World) (b : Nat) (hb : b < w1.heap.size) (hc : w1.cell? ⟨b, 0, none⟩ = some (.int .i64 (i : Int))) => show Calls Tryd.prog 41 #[.string ⟨#[108, 105, 110, 107]⟩, .slice (some ⟨b, 0, none⟩) 1 1] w1 fun e w' => e = .returned (.string ⟨(render (tLink, [i])).toArray⟩) ∧ w' = w1 from num1 tLink (by decide) i hi w1 hb hc)
  go_enter Tryd.func42, Tryd.ntmps42
  go_wp2_with (go_at_call 41; refine (NU.out _ _ (by simp) (by simp)).mono ?_; rintro e wq ⟨rfl, hwq⟩; obtain rfl := hwq.symm)
  go_ret
  exact ⟨rfl, (Below.refl _ w).alloc (Nat.le_refl _) _⟩

theorem own2 (i : Nat) (hi : i < 100) (w : World) : Calls Tryd.prog 42 #[.int .i64 (i : Int), .int .i64 2] w fun e w' => e = .returned (.string ⟨(render (tNext, [i])).toArray⟩) ∧ Below w.heap.size w w' := by
  have NU := hide (fun (w1 : World) (b : Nat) (hb : b < w1.heap.size) (hc : w1.cell? ⟨b, 0, none⟩ = some (.int .i64 (i : Int))) => show Calls Tryd.prog 41 #[.string ⟨#[110, 101, 120, 116]⟩, .slice (some ⟨b, 0, none⟩) 1 1] w1 fun e w' => e = .returned (.string ⟨(render (tNext, [i])).toArray⟩) ∧ w' = w1 from num1 tNext (by decide) i hi w1 hb hc)
  go_enter Tryd.func42, Tryd.ntmps42
  go_wp2_with (go_at_call 41; refine (NU.out _ _ (by simp) (by simp)).mono ?_; rintro e wq ⟨rfl, hwq⟩; obtain rfl := hwq.symm)
  go_ret
  exact ⟨rfl, (Below.refl _ w).alloc (Nat.le_refl _) _⟩

theorem own3 (i q : Nat) (hi : i < 100) (hq : q < 90) (w : World) : Calls Tryd.prog 42 #[.int .i64 (i : Int), .int .i64 ((q : Int) + 3)] w fun e w' => e = .returned (.string ⟨(render (tSlot, [i, q])).toArray⟩) ∧ Below w.heap.size w w' := by
  have NU := hide (fun (w1 : World) (b : Nat) (hb : b < w1.heap.size) (hc : w1.cell? ⟨b, 0, none⟩ = some (.int .i64 (i : Int))) (hc' : w1.cell? ⟨b, 1, none⟩ = some (.int .i64 (q : Int))) => show Calls Tryd.prog 41 #[.string ⟨#[115, 108, 111, 116]⟩, .slice (some ⟨b, 0, none⟩) 2 2] w1 fun e w' => e = .returned (.string ⟨(render (tSlot, [i, q])).toArray⟩) ∧ w' = w1 from num2 tSlot (by decide) i q hi (by omega) w1 hb hc hc')
  have e0 : ¬ (q : Int) + 3 = 0 := by omega
  have e1 : ¬ (q : Int) + 3 = 1 := by omega
  have e2 : ¬ (q : Int) + 3 = 2 := by omega
  have e3 : (q : Int) + 3 - 3 = (q : Int) := by omega
  go_enter Tryd.func42, Tryd.ntmps42
  go_wp2_with (go_at_call 41; refine (NU.out _ _ (by simp) (by simp) (by simp)).mono ?_; rintro e wq ⟨rfl, hwq⟩; obtain rfl := hwq.symm)
  go_ret
  exact ⟨rfl, (Below.refl _ w).alloc (Nat.le_refl _) _⟩
theorem own_ok (i q : Nat) (hi : i < 100) (hq : q < 90) (w : World) : Calls Tryd.prog 42 #[.int .i64 (i : Int), .int .i64 (q : Int)] w fun e w' => e = .returned (.string ⟨(render (oword i q)).toArray⟩) ∧ Below w.heap.size w w' := by
  by_cases h0 : q = 0
  · subst h0; exact own0 i hi w
  · by_cases h1 : q = 1
    · subst h1; exact own1 i hi w
    · by_cases h2 : q = 2
      · subst h2; exact own2 i hi w
      · obtain ⟨p, rfl⟩ : ∃ p, q = p + 3 := ⟨q - 3, by omega⟩
        have e : oword i (p + 3) = (tSlot, [i, p]) := by unfold oword; rw [if_neg (by omega), if_neg (by omega), if_neg (by omega), Nat.add_sub_cancel]
        rw [e]
        have := own3 i p hi (by omega) w
        simpa using this

end Shape
end Go.Proofs.YtfnfoebmpggmdaaDoor

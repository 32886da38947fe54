/-
  Lemmas: RoomRF.
-/
import Derived.Test.YtppgbndoijppnaaGreatTp31
import Derived.Test.YtppgbndoijppnaaGreatTp26
import Derived.Test.YtppgbndoijppnaaGreatTp32
import Derived.Test.YtppgbndoijppnaaGreatTp38
namespace Go.Proofs.YtppgbndoijppnaaGreat
set_option maxHeartbeats 8000000
open Go.RowKit
set_option linter.unusedVariables false
set_option linter.unusedSimpArgs false
set_option maxRecDepth 20000
section
namespace Rom
open Hp
theorem rg4_any {w : World} {g n cap : Nat} {f f' : Nat → Int} {x : Stp} {sh : Shp} {hand ia r0 r1 r2 : Int} (hr : IsRow w g n cap f) (h5 : Shape.R5 sh.a sh.b sh.c sh.d sh.e) (h2 : 0 ≤ r2 ∧ r2 ≤ 18446744073709551615)
  (hx : stepOf n f ⟨hand, 2, linkAt sh ia, 0, idx r2, true⟩ = x) (hf' : wordsOf n f ⟨hand, 2, linkAt sh ia, 0, idx r2, true⟩ = f') :
  Calls Tryz.prog 59 #[.agg (tk sh hand ⟨2, ia, 0, 0, 0⟩ 5 ⟨r0, r1, r2, 0, 0, 0, 0, 0⟩ ⟨false, 0⟩).toArray, .slice (some ⟨g, 0, none⟩) n cap] w fun e w' =>
   e = .returned (.tuple #[.agg (tk sh hand ⟨2, ia, 0, 0, 0⟩ 6 ⟨r0, r1, r2, 0, 0, 0, 0, 0⟩ ⟨false, 0⟩).toArray, x.val, .bool false]) ∧ IsRow w' g n cap f' ∧ w.grownBy w' (some g) := by
 have DO := hide (fun (w' : World) (hr' : IsRow w' g n cap f) => ref_do (s := ⟨hand, 2, linkAt sh ia, 0, idx r2, true⟩) hr' ⟨idx_lo r2, by have := idx_hi r2; show idx r2 ≤ _; omega⟩ ⟨by show (1 : Int) ≤ 2; decide, by show (2 : Int) ≤ 5; decide⟩)
 rw [hx, hf'] at DO
 have OBJ := hide (fun (i : Int) (w1 : World) => rhead_any h5 i w1)
 have BES := hide (fun (i k : Int) (hk : 0 ≤ k ∧ k ≤ 100) (w1 : World) => rbeside_any h5 i k hk w1)
 have IX := hide (fun w1 : World => index_ref r2 h2.1 (by omega) w1)
 have BL := hide (beside_link h5 ia)
 have lg := hr.lt
 obtain ⟨l0, hl0⟩ : ∃ l, tk sh hand ⟨2, ia, 0, 0, 0⟩ 5 ⟨r0, r1, r2, 0, 0, 0, 0, 0⟩ ⟨false, 0⟩ = l := ⟨_, rfl⟩
 have hl0' : l0.length = 28 := by rw [← hl0]; rfl
 obtain ⟨lt, hlt⟩ : ∃ l, tk sh hand ⟨2, ia, 0, 0, 0⟩ 6 ⟨r0, r1, r2, 0, 0, 0, 0, 0⟩ ⟨false, 0⟩ = l := ⟨_, rfl⟩
 have HTK := hide (show IsTk lt from by rw [← hlt]; exact tk_is _ _ _ _ _ _)
 have HLT := hide (show lt.length = 28 from by rw [← hlt]; rfl)
 rw [hl0, hlt]
 obtain ⟨W4, hW4⟩ : ∃ W4, (((w.alloc (.cells l0.toArray 59)).alloc (.cells tk0.toArray 59)).alloc (.cells [Value.int .i64 0, .int .i64 0, .int .i64 0, .int .u64 0, .int .u64 0, .bool false].toArray 69)).alloc (.cells [Value.int .i64 0, .int .i64 0, .int .i64 0, .int .u64 0, .int .u64 0, .bool false].toArray 69) = W4 := ⟨_, rfl⟩
 have RV4 := hide (show RV w g n cap l0 f zst W4 from by rw [← hW4]; exact RV.start hr hl0')
 have GS := hide (show ∀ (j : Nat) (v : Value), ([.int .i64 sh.a, .int .i64 sh.b, .int .i64 sh.c, .int .i64 sh.d, .int .i64 sh.e, .int .i64 sh.f] : List Value)[j]? = some v → l0[j]? = some v from by
  intro j v hj
  have hj6 : j < 6 := (List.getElem?_eq_some_iff.1 hj).1
  rw [← hl0]
  match j, hj6 with
  | 0, _ | 1, _ | 2, _ | 3, _ | 4, _ | 5, _ => exact hj)
 have G6 := hide (show l0[6]? = some (.int .i64 hand) from by rw [← hl0]; rfl)
 have c6 := RV4.out.cell G6.out
 have G8 := hide (show l0[8]? = some (.int .i64 ia) from by rw [← hl0]; rfl)
 have c8 := RV4.out.cell G8.out
 have G12 := hide (show l0[12]? = some (.int .i64 5) from by rw [← hl0]; rfl)
 have c12 := RV4.out.cell G12.out
 have G15 := hide (show l0[15]? = some (.int .u64 r2) from by rw [← hl0]; rfl)
 have c15 := RV4.out.cell G15.out
 obtain ⟨dT, hdT1, hdT2⟩ := row79
 obtain ⟨dS, hdS1, hdS2⟩ := row46
 obtain ⟨dH, hdH1, hdH2⟩ := rowSh
 have HD := hide (And.intro hdT1 (And.intro hdT2 (And.intro hdS1 hdS2)))
 have HDS := hide (And.intro hdH1 hdH2)
 have sz4 := RV4.out.size
 have HL0 := hide hl0
 have HLTE := hide hlt
 clear hx hf' hr h5 hl0 hl0' hlt hdT1 hdT2 hdS1 hdS2 hdH1 hdH2 h2
 simp only [tk0] at hW4
 go_enter Tryz.func59, Tryz.ntmps59
 go_upto_region 25 with (fail)
 clear hW4
 refine RG.regionB 14 (ks := [(0, 117), (1, 118), (2, 119), (3, 120), (4, 121), (5, 122), (6, 123), (7, 124), (8, 125), (9, 126), (10, 127), (11, 128), (12, 129)]) (vals := fun i => match i with
   | 0 => .slice (some ⟨g, 0, none⟩) n cap
   | 1 => .pointer (some ⟨w.heap.size, 6, none⟩)
   | 2 => .int .i64 hand
   | 3 => .pointer (some ⟨w.heap.size, 0, none⟩)
   | 4 => sh.val
   | 5 => .int .i64 ia
   | 6 => .int .i64 (linkAt sh ia)
   | 7 => .pointer (some ⟨w.heap.size, 13, none⟩)
   | 8 => .pointer (some ⟨w.heap.size, 15, none⟩)
   | 9 => .int .u64 r2
   | 10 => .int .i64 (idx r2)
   | 11 => .int .u64 (idx r2)
   | 12 => x.val
   | _ => undef) (x := 3) (WI := fun L v_ w' => RG.SN (fun c_ w' => RT w g n cap l0 (cond c_ f' f) w') (w.heap.size + 4) (w.heap.size + 3) x (L 12) (L 13) w') (by kernel_rfl) (by kernel_rfl) rfl (by kernel_rfl) (by kernel_rfl) (RG.SN.start (RV4.out.rt.belowB (B := w.heap.size + 4) (by omega) (⟨rfl, rfl, rfl, Nat.le_refl _, fun _ _ => rfl⟩ : Below (w.heap.size + 4) W4 { W4 with drawn := W4.drawn + 1 }) sz4) sz4 (rowIs.there RV4.out.sv.drew (by simp [Stp.cells]))) ?does ?fin
 case does =>
  intro i o ho
  have hi : i < 14 := RG.lt_of ho rfl
  match i, hi with
  | 0, _ => cases ho; exact RG.rN rfl rfl (fun L a w' hI hdp => ex_move rfl (hI.fx 1 rfl))
  | 1, _ => cases ho; exact RG.rN rfl rfl (fun L a w' hI hdp => ex_fieldo rfl (hI.fx 2 rfl) (by simp [go_sem]))
  | 2, _ => cases ho; exact RG.rN rfl rfl (fun L a w' hI hdp => ex_load rfl (hI.pure 1 _ _ rfl (hdp ⟨1, .data⟩ (by simp) rfl)) (agg_i w') (hI.world.inv.cell G6.out))
  | 3, _ => cases ho; exact RG.rN rfl rfl (fun L a w' hI hdp => ex_fieldo rfl (hI.fx 2 rfl) (by simp [go_sem]))
  | 4, _ => cases ho; exact RG.rN rfl rfl (fun L a w' hI hdp => ex_load_row (cs := [.int .i64 sh.a, .int .i64 sh.b, .int .i64 sh.c, .int .i64 sh.d, .int .i64 sh.e, .int .i64 sh.f]) rfl (hI.pure 3 _ _ rfl (hdp ⟨3, .data⟩ (by simp) rfl)) (hI.world.inv.part GS.out) HDS.out.1 HDS.out.2 sizeSh)
  | 5, _ => cases ho; exact RG.rN rfl rfl (fun L a w' hI hdp => ex_move rfl (hI.fx 8 rfl))
  | 6, _ => cases ho; exact RG.Does.call rfl (fun L a w' hI hdp => call3 rfl (hI.pure 4 _ _ rfl (hdp ⟨4, .data⟩ (by simp) rfl)) (hI.pure 5 _ _ rfl (hdp ⟨5, .data⟩ (by simp) rfl)) rfl rfl (by simp [go_sem])) (fun L v_ w2 hI hL => ((fun w9 : World => (BL.out ▸ BES.out ia 1 (by omega) w9)) w2).mono (by rintro e w3 ⟨rfl, hb_⟩; exact ⟨rfl, RG.SN.skip (by decide) (by decide) (RG.SN.grow (fun c_ w1_ w2_ hb_ hs_ h_ => h_.belowB (by omega) hb_ hs_) (by omega) hI (hb_.mono hI.le))⟩))
  | 7, _ => cases ho; exact RG.rN rfl rfl (fun L a w' hI hdp => ex_fieldo rfl (hI.fx 2 rfl) (by simp [go_sem]))
  | 8, _ => cases ho; exact RG.rN rfl rfl (fun L a w' hI hdp => ex_r2 rfl (hI.pure 7 _ _ rfl (hdp ⟨7, .data⟩ (by simp) rfl)) rfl)
  | 9, _ => cases ho; exact RG.rN rfl rfl (fun L a w' hI hdp => ex_load rfl (hI.pure 8 _ _ rfl (hdp ⟨8, .data⟩ (by simp) rfl)) (agg_u64 w') (hI.world.inv.cell G15.out))
  | 10, _ => cases ho; exact RG.Does.ask rfl (fun L v_ w' h => RG.SN.skip (by decide) (by decide) h) (fun L a w' hI hdp => call1 rfl (hI.pure 9 _ _ rfl (hdp ⟨9, .data⟩ (by simp) rfl)) rfl (by simp [go_sem])) (fun w9 : World => IX.out w9)
  | 11, _ => cases ho; exact RG.rN rfl rfl (fun L a w' hI hdp => ex_convu rfl (hI.pure 10 _ _ rfl (hdp ⟨10, .data⟩ (by simp) rfl)) (by have := idx_lo r2; omega) (by have := idx_hi r2; omega))
  | 12, _ => cases ho; exact RG.Does.call rfl (fun L a w' hI hdp => call6 rfl (hI.pure 0 _ _ rfl (hdp ⟨0, .data⟩ (by simp) rfl)) (hI.pure 2 _ _ rfl (hdp ⟨2, .data⟩ (by simp) rfl)) rfl (hI.pure 6 _ _ rfl (hdp ⟨6, .data⟩ (by simp) rfl)) rfl (hI.pure 11 _ _ rfl (hdp ⟨11, .data⟩ (by simp) rfl)) rfl (by simp [go_sem])) (RG.SN.calls (fun w2 hI hB => (DO.out w2 hI.row).mono (by rintro e w3 ⟨rfl, a1, a2⟩; have := a2.size; exact ⟨rfl, hI.act a1 a2, a2.block _ (by omega) (by simp; omega), by omega⟩)) (by decide))
  | 13, _ => cases ho; exact RG.Does.put (ls := x.cells) rfl rfl rfl size46 (by simp [Stp.cells, Value.oneCell']) (fun L a w' hI hL hdp => ⟨(hI.pure 12 _ _ rfl (hdp ⟨12, .data⟩ (by simp) rfl)), by obtain ⟨e2, e3⟩ := RG.SN.put (fun c_ w1_ w2_ ht_ h_ => h_.touchE (by omega) ht_) hI.world (hdp ⟨12, .data⟩ (by simp) rfl); exact ⟨w.heap.size + 3, 0, hI.fx 7 rfl, e2, by show RG.SN (fun c_ w' => RT w g n cap l0 (cond c_ f' f) w') (w.heap.size + 4) (w.heap.size + 3) x (upd L 13 true 12) (upd L 13 true 13) _; rw [upd_same, upd_other _ _ (show 12 ≠ 13 by decide)]; exact e3⟩⟩)
 case fin =>
  intro L a' w1 hI hall
  have hw := hI.world
  simp only [hall 12 (by decide), hall 13 (by decide)] at hw
  have ea := act_all a' 156 (by rw [hI.sz]; rfl) hI.df
  simp only [List.range, List.range.loop, List.map] at ea
  rw [hI.fx 0 rfl, hI.fx 1 rfl, hI.fx 2 rfl, hI.fx 4 rfl, hI.fx 5 rfl, hI.fx 6 rfl, hI.fx 7 rfl, hI.fx 8 rfl, hI.fx 9 rfl, hI.fx 10 rfl, hI.fx 11 rfl, hI.fx 12 rfl, hI.fx 13 rfl, hI.fx 14 rfl, hI.fx 15 rfl, hI.fx 16 rfl, hI.fx 17 rfl, hI.fx 18 rfl, hI.fx 19 rfl, hI.fx 20 rfl, hI.fx 21 rfl, hI.fx 22 rfl, hI.fx 23 rfl, hI.fx 24 rfl, hI.fx 25 rfl, hI.fx 26 rfl, hI.fx 27 rfl, hI.fx 28 rfl, hI.fx 29 rfl, hI.fx 30 rfl, hI.fx 31 rfl, hI.fx 32 rfl, hI.fx 33 rfl, hI.fx 34 rfl, hI.fx 35 rfl, hI.fx 36 rfl, hI.fx 37 rfl, hI.fx 38 rfl, hI.fx 39 rfl, hI.fx 40 rfl, hI.fx 41 rfl, hI.fx 42 rfl, hI.fx 43 rfl, hI.fx 44 rfl, hI.fx 45 rfl, hI.fx 46 rfl, hI.fx 47 rfl, hI.fx 48 rfl, hI.fx 49 rfl, hI.fx 50 rfl, hI.fx 51 rfl, hI.fx 52 rfl, hI.fx 53 rfl, hI.fx 54 rfl, hI.fx 55 rfl, hI.fx 56 rfl, hI.fx 57 rfl, hI.fx 58 rfl, hI.fx 59 rfl, hI.fx 60 rfl, hI.fx 61 rfl, hI.fx 62 rfl, hI.fx 63 rfl, hI.fx 64 rfl, hI.fx 65 rfl, hI.fx 66 rfl, hI.fx 67 rfl, hI.fx 68 rfl, hI.fx 69 rfl, hI.fx 70 rfl, hI.fx 71 rfl, hI.fx 72 rfl, hI.fx 73 rfl, hI.fx 74 rfl, hI.fx 75 rfl, hI.fx 76 rfl, hI.fx 77 rfl, hI.fx 78 rfl, hI.fx 79 rfl, hI.fx 80 rfl, hI.fx 81 rfl, hI.fx 82 rfl, hI.fx 83 rfl, hI.fx 84 rfl, hI.fx 85 rfl, hI.fx 86 rfl, hI.fx 87 rfl, hI.fx 88 rfl, hI.fx 89 rfl, hI.fx 90 rfl, hI.fx 91 rfl, hI.fx 92 rfl, hI.fx 93 rfl, hI.fx 94 rfl, hI.fx 95 rfl, hI.fx 96 rfl, hI.fx 97 rfl, hI.fx 98 rfl, hI.fx 99 rfl, hI.fx 100 rfl, hI.fx 101 rfl, hI.fx 102 rfl, hI.fx 103 rfl, hI.fx 104 rfl, hI.fx 105 rfl, hI.fx 106 rfl, hI.fx 107 rfl, hI.fx 108 rfl, hI.fx 109 rfl, hI.fx 110 rfl, hI.fx 111 rfl, hI.fx 112 rfl, hI.fx 113 rfl, hI.fx 114 rfl, hI.fx 115 rfl, hI.fx 116 rfl, hI.fx 130 rfl, hI.fx 131 rfl, hI.fx 132 rfl, hI.fx 133 rfl, hI.fx 134 rfl, hI.fx 135 rfl, hI.fx 136 rfl, hI.fx 137 rfl, hI.fx 138 rfl, hI.fx 139 rfl, hI.fx 140 rfl, hI.fx 141 rfl, hI.fx 142 rfl, hI.fx 143 rfl, hI.fx 144 rfl, hI.fx 145 rfl, hI.fx 146 rfl, hI.fx 147 rfl, hI.fx 148 rfl, hI.fx 149 rfl, hI.fx 150 rfl, hI.fx 151 rfl, hI.fx 152 rfl, hI.fx 153 rfl, hI.fx 154 rfl, hI.fx 155 rfl] at ea
  clear hI hall
  obtain ⟨us, hus⟩ : ∃ us : Nat → Value, ∀ k, a'.eval (.tmp k) = us k := ⟨_, fun _ => rfl⟩
  simp only [hus] at ea
  simp only [show ∀ (ts : Array Value) (ds) (i : Nat), (Act.mk ts ds).eval (.tmp i) = ts.getD i undef from fun _ _ _ => rfl] at ea
  simp at ea
  subst ea
  have RT1 := hide (show RT w g n cap l0 f' w1 from hw.inv)
  have RQ := hide (hw.sto rfl)
  have szq := hw.le
  have l3q : w.heap.size + 3 < w1.heap.size := by omega
  clear hw
  obtain ⟨s0, s1, s2, s3, s4, s5⟩ := stp6 RQ.out
  obtain ⟨V, hV⟩ : ∃ V, (w1.setCell ⟨w.heap.size, 12, none⟩ (.int .i64 6)) = V := ⟨_, rfl⟩
  have hset : (l0.set 12 (.int .i64 6)) = lt := by rw [← HL0.out, ← HLTE.out]; rfl
  have RTV := hide (show RT w g n cap lt f' V from by
   rw [← hV, ← hset]
   exact (RT1.out.set 12 (by omega) (.int .i64 6)))
  have tV : Touch w1 V (fun k => k = w.heap.size) := by
   rw [← hV]
   exact (Touch.setCell (S := fun k => k = w.heap.size) (Touch.refl w1 _) ⟨w.heap.size, 12, none⟩ (.inl rfl) _)
  have SV := hide (rangeAt_block RQ.out (tV.block (w.heap.size + 3) l3q (by omega)))
  have lqV : w.heap.size + 3 < V.heap.size := Nat.lt_of_lt_of_le l3q tV.size
  clear tV
  have d12 := RT1.out.tk.cell (i := 12) (by omega)
  rw [lrow_of G12.out] at d12
  have df12 := RT1.out.frozen 12
  have lp1 : w.heap.size < w1.heap.size := by omega
  go_upto_region 32 with (fail)
  clear hV hset s0 s1 s2 s3 s4 s5
  refine ret5 RTV.out SV.out lqV HTK.out (by kernel_rfl) (by kernel_rfl) rfl rfl rfl rfl rfl rfl rfl rfl rfl rfl rfl rfl rfl rfl (by simp) (by simp) (by decide) (by simp) ?_
  intro a' w' pC pD pe hdf rC rD hrow hgro
  rename_i K2 hK2
  refine hK2 _ _ ?_
  go_wp2
  exact bodyPost_ret (v := .tuple #[.agg lt.toArray, x.val, .bool false]) (ret5v rfl HTK.out pC pD pe rC rD) hdf ⟨rfl, hrow, hgro⟩
theorem rg5_any {w : World} {g n cap : Nat} {f f' : Nat → Int} {x : Stp} {sh : Shp} {hand ia r0 r1 r2 : Int} (hr : IsRow w g n cap f) (h5 : Shape.R5 sh.a sh.b sh.c sh.d sh.e) (h2 : 0 ≤ r2 ∧ r2 ≤ 18446744073709551615)
  (hx : stepOf n f ⟨hand, 5, 1, r2, bmp r2 ia, true⟩ = x) (hf' : wordsOf n f ⟨hand, 5, 1, r2, bmp r2 ia, true⟩ = f') :
  Calls Tryz.prog 59 #[.agg (tk sh hand ⟨2, ia, 0, 0, 0⟩ 6 ⟨r0, r1, r2, 0, 0, 0, 0, 0⟩ ⟨false, 0⟩).toArray, .slice (some ⟨g, 0, none⟩) n cap] w fun e w' =>
   e = .returned (.tuple #[.agg (tk sh hand ⟨2, ia, 0, 0, 0⟩ (if x.ok = true then 7 else 4) ⟨r0, r1, r2, 0, 0, 0, 0, 0⟩ ⟨false, 0⟩).toArray, x.val, .bool false]) ∧ IsRow w' g n cap f' ∧ w.grownBy w' (some g) := by
 have DO := hide (fun (w' : World) (hr' : IsRow w' g n cap f) => ref_do (s := ⟨hand, 5, 1, r2, bmp r2 ia, true⟩) hr' ⟨bmp_lo _ _, bmp_hi _ _⟩ ⟨by show (1 : Int) ≤ 5; decide, by show (5 : Int) ≤ 5; decide⟩)
 rw [hx, hf'] at DO
 have OBJ := hide (fun (i : Int) (w1 : World) => rhead_any h5 i w1)
 have BES := hide (fun (i k : Int) (hk : 0 ≤ k ∧ k ≤ 100) (w1 : World) => rbeside_any h5 i k hk w1)
 have BP := hide (fun w1 : World => bump_ref r2 ia h2.1 (by omega) w1)
 have lg := hr.lt
 obtain ⟨l0, hl0⟩ : ∃ l, tk sh hand ⟨2, ia, 0, 0, 0⟩ 6 ⟨r0, r1, r2, 0, 0, 0, 0, 0⟩ ⟨false, 0⟩ = l := ⟨_, rfl⟩
 have hl0' : l0.length = 28 := by rw [← hl0]; rfl
 obtain ⟨lt, hlt⟩ : ∃ l, tk sh hand ⟨2, ia, 0, 0, 0⟩ (if x.ok = true then 7 else 4) ⟨r0, r1, r2, 0, 0, 0, 0, 0⟩ ⟨false, 0⟩ = l := ⟨_, rfl⟩
 have HTK := hide (show IsTk lt from by rw [← hlt]; exact tk_is _ _ _ _ _ _)
 have HLT := hide (show lt.length = 28 from by rw [← hlt]; rfl)
 rw [hl0, hlt]
 obtain ⟨W4, hW4⟩ : ∃ W4, (((w.alloc (.cells l0.toArray 59)).alloc (.cells tk0.toArray 59)).alloc (.cells [Value.int .i64 0, .int .i64 0, .int .i64 0, .int .u64 0, .int .u64 0, .bool false].toArray 69)).alloc (.cells [Value.int .i64 0, .int .i64 0, .int .i64 0, .int .u64 0, .int .u64 0, .bool false].toArray 69) = W4 := ⟨_, rfl⟩
 have RV4 := hide (show RV w g n cap l0 f zst W4 from by rw [← hW4]; exact RV.start hr hl0')
 have GS := hide (show ∀ (j : Nat) (v : Value), ([.int .i64 sh.a, .int .i64 sh.b, .int .i64 sh.c, .int .i64 sh.d, .int .i64 sh.e, .int .i64 sh.f] : List Value)[j]? = some v → l0[j]? = some v from by
  intro j v hj
  have hj6 : j < 6 := (List.getElem?_eq_some_iff.1 hj).1
  rw [← hl0]
  match j, hj6 with
  | 0, _ | 1, _ | 2, _ | 3, _ | 4, _ | 5, _ => exact hj)
 have G6 := hide (show l0[6]? = some (.int .i64 hand) from by rw [← hl0]; rfl)
 have c6 := RV4.out.cell G6.out
 have G8 := hide (show l0[8]? = some (.int .i64 ia) from by rw [← hl0]; rfl)
 have c8 := RV4.out.cell G8.out
 have G12 := hide (show l0[12]? = some (.int .i64 6) from by rw [← hl0]; rfl)
 have c12 := RV4.out.cell G12.out
 have G15 := hide (show l0[15]? = some (.int .u64 r2) from by rw [← hl0]; rfl)
 have c15 := RV4.out.cell G15.out
 obtain ⟨dT, hdT1, hdT2⟩ := row79
 obtain ⟨dS, hdS1, hdS2⟩ := row46
 obtain ⟨dH, hdH1, hdH2⟩ := rowSh
 have HD := hide (And.intro hdT1 (And.intro hdT2 (And.intro hdS1 hdS2)))
 have HDS := hide (And.intro hdH1 hdH2)
 have sz4 := RV4.out.size
 have HL0 := hide hl0
 have HLTE := hide hlt
 clear hx hf' hr h5 hl0 hl0' hlt hdT1 hdT2 hdS1 hdS2 hdH1 hdH2 h2
 simp only [tk0] at hW4
 go_enter Tryz.func59, Tryz.ntmps59
 go_upto_region 27 with (fail)
 clear hW4
 refine RG.regionB 13 (ks := [(0, 132), (1, 133), (2, 134), (3, 135), (4, 136), (5, 137), (6, 138), (7, 139), (8, 140), (9, 141), (10, 142), (11, 143)]) (vals := fun i => match i with
   | 0 => .slice (some ⟨g, 0, none⟩) n cap
   | 1 => .pointer (some ⟨w.heap.size, 6, none⟩)
   | 2 => .int .i64 hand
   | 3 => .pointer (some ⟨w.heap.size, 13, none⟩)
   | 4 => .pointer (some ⟨w.heap.size, 15, none⟩)
   | 5 => .int .u64 r2
   | 6 => .pointer (some ⟨w.heap.size, 13, none⟩)
   | 7 => .pointer (some ⟨w.heap.size, 15, none⟩)
   | 8 => .int .u64 r2
   | 9 => .int .i64 ia
   | 10 => .int .u64 (bmp r2 ia)
   | 11 => x.val
   | _ => undef) (x := 3) (WI := fun L v_ w' => RG.SN (fun c_ w' => RT w g n cap l0 (cond c_ f' f) w') (w.heap.size + 4) (w.heap.size + 3) x (L 11) (L 12) w') (by kernel_rfl) (by kernel_rfl) rfl (by kernel_rfl) (by kernel_rfl) (RG.SN.start (RV4.out.rt.belowB (B := w.heap.size + 4) (by omega) (⟨rfl, rfl, rfl, Nat.le_refl _, fun _ _ => rfl⟩ : Below (w.heap.size + 4) W4 { W4 with drawn := W4.drawn + 1 }) sz4) sz4 (rowIs.there RV4.out.sv.drew (by simp [Stp.cells]))) ?does ?fin
 case does =>
  intro i o ho
  have hi : i < 13 := RG.lt_of ho rfl
  match i, hi with
  | 0, _ => cases ho; exact RG.rN rfl rfl (fun L a w' hI hdp => ex_move rfl (hI.fx 1 rfl))
  | 1, _ => cases ho; exact RG.rN rfl rfl (fun L a w' hI hdp => ex_fieldo rfl (hI.fx 2 rfl) (by simp [go_sem]))
  | 2, _ => cases ho; exact RG.rN rfl rfl (fun L a w' hI hdp => ex_load rfl (hI.pure 1 _ _ rfl (hdp ⟨1, .data⟩ (by simp) rfl)) (agg_i w') (hI.world.inv.cell G6.out))
  | 3, _ => cases ho; exact RG.rN rfl rfl (fun L a w' hI hdp => ex_fieldo rfl (hI.fx 2 rfl) (by simp [go_sem]))
  | 4, _ => cases ho; exact RG.rN rfl rfl (fun L a w' hI hdp => ex_r2 rfl (hI.pure 3 _ _ rfl (hdp ⟨3, .data⟩ (by simp) rfl)) rfl)
  | 5, _ => cases ho; exact RG.rN rfl rfl (fun L a w' hI hdp => ex_load rfl (hI.pure 4 _ _ rfl (hdp ⟨4, .data⟩ (by simp) rfl)) (agg_u64 w') (hI.world.inv.cell G15.out))
  | 6, _ => cases ho; exact RG.rN rfl rfl (fun L a w' hI hdp => ex_fieldo rfl (hI.fx 2 rfl) (by simp [go_sem]))
  | 7, _ => cases ho; exact RG.rN rfl rfl (fun L a w' hI hdp => ex_r2 rfl (hI.pure 6 _ _ rfl (hdp ⟨6, .data⟩ (by simp) rfl)) rfl)
  | 8, _ => cases ho; exact RG.rN rfl rfl (fun L a w' hI hdp => ex_load rfl (hI.pure 7 _ _ rfl (hdp ⟨7, .data⟩ (by simp) rfl)) (agg_u64 w') (hI.world.inv.cell G15.out))
  | 9, _ => cases ho; exact RG.rN rfl rfl (fun L a w' hI hdp => ex_move rfl (hI.fx 8 rfl))
  | 10, _ => cases ho; exact RG.Does.ask rfl (fun L v_ w' h => RG.SN.skip (by decide) (by decide) h) (fun L a w' hI hdp => call2 rfl (hI.pure 8 _ _ rfl (hdp ⟨8, .data⟩ (by simp) rfl)) (hI.pure 9 _ _ rfl (hdp ⟨9, .data⟩ (by simp) rfl)) rfl (by simp [go_sem])) (fun w9 : World => BP.out w9)
  | 11, _ => cases ho; exact RG.Does.call rfl (fun L a w' hI hdp => call6 rfl (hI.pure 0 _ _ rfl (hdp ⟨0, .data⟩ (by simp) rfl)) (hI.pure 2 _ _ rfl (hdp ⟨2, .data⟩ (by simp) rfl)) rfl rfl (hI.pure 5 _ _ rfl (hdp ⟨5, .data⟩ (by simp) rfl)) (hI.pure 10 _ _ rfl (hdp ⟨10, .data⟩ (by simp) rfl)) rfl (by simp [go_sem])) (RG.SN.calls (fun w2 hI hB => (DO.out w2 hI.row).mono (by rintro e w3 ⟨rfl, a1, a2⟩; have := a2.size; exact ⟨rfl, hI.act a1 a2, a2.block _ (by omega) (by simp; omega), by omega⟩)) (by decide))
  | 12, _ => cases ho; exact RG.Does.put (ls := x.cells) rfl rfl rfl size46 (by simp [Stp.cells, Value.oneCell']) (fun L a w' hI hL hdp => ⟨(hI.pure 11 _ _ rfl (hdp ⟨11, .data⟩ (by simp) rfl)), by obtain ⟨e2, e3⟩ := RG.SN.put (fun c_ w1_ w2_ ht_ h_ => h_.touchE (by omega) ht_) hI.world (hdp ⟨11, .data⟩ (by simp) rfl); exact ⟨w.heap.size + 3, 0, hI.fx 7 rfl, e2, by show RG.SN (fun c_ w' => RT w g n cap l0 (cond c_ f' f) w') (w.heap.size + 4) (w.heap.size + 3) x (upd L 12 true 11) (upd L 12 true 12) _; rw [upd_same, upd_other _ _ (show 11 ≠ 12 by decide)]; exact e3⟩⟩)
 case fin =>
  intro L a' w1 hI hall
  have hw := hI.world
  simp only [hall 11 (by decide), hall 12 (by decide)] at hw
  have ea := act_all a' 156 (by rw [hI.sz]; rfl) hI.df
  simp only [List.range, List.range.loop, List.map] at ea
  rw [hI.fx 0 rfl, hI.fx 1 rfl, hI.fx 2 rfl, hI.fx 4 rfl, hI.fx 5 rfl, hI.fx 6 rfl, hI.fx 7 rfl, hI.fx 8 rfl, hI.fx 9 rfl, hI.fx 10 rfl, hI.fx 11 rfl, hI.fx 12 rfl, hI.fx 13 rfl, hI.fx 14 rfl, hI.fx 15 rfl, hI.fx 16 rfl, hI.fx 17 rfl, hI.fx 18 rfl, hI.fx 19 rfl, hI.fx 20 rfl, hI.fx 21 rfl, hI.fx 22 rfl, hI.fx 23 rfl, hI.fx 24 rfl, hI.fx 25 rfl, hI.fx 26 rfl, hI.fx 27 rfl, hI.fx 28 rfl, hI.fx 29 rfl, hI.fx 30 rfl, hI.fx 31 rfl, hI.fx 32 rfl, hI.fx 33 rfl, hI.fx 34 rfl, hI.fx 35 rfl, hI.fx 36 rfl, hI.fx 37 rfl, hI.fx 38 rfl, hI.fx 39 rfl, hI.fx 40 rfl, hI.fx 41 rfl, hI.fx 42 rfl, hI.fx 43 rfl, hI.fx 44 rfl, hI.fx 45 rfl, hI.fx 46 rfl, hI.fx 47 rfl, hI.fx 48 rfl, hI.fx 49 rfl, hI.fx 50 rfl, hI.fx 51 rfl, hI.fx 52 rfl, hI.fx 53 rfl, hI.fx 54 rfl, hI.fx 55 rfl, hI.fx 56 rfl, hI.fx 57 rfl, hI.fx 58 rfl, hI.fx 59 rfl, hI.fx 60 rfl, hI.fx 61 rfl, hI.fx 62 rfl, hI.fx 63 rfl, hI.fx 64 rfl, hI.fx 65 rfl, hI.fx 66 rfl, hI.fx 67 rfl, hI.fx 68 rfl, hI.fx 69 rfl, hI.fx 70 rfl, hI.fx 71 rfl, hI.fx 72 rfl, hI.fx 73 rfl, hI.fx 74 rfl, hI.fx 75 rfl, hI.fx 76 rfl, hI.fx 77 rfl, hI.fx 78 rfl, hI.fx 79 rfl, hI.fx 80 rfl, hI.fx 81 rfl, hI.fx 82 rfl, hI.fx 83 rfl, hI.fx 84 rfl, hI.fx 85 rfl, hI.fx 86 rfl, hI.fx 87 rfl, hI.fx 88 rfl, hI.fx 89 rfl, hI.fx 90 rfl, hI.fx 91 rfl, hI.fx 92 rfl, hI.fx 93 rfl, hI.fx 94 rfl, hI.fx 95 rfl, hI.fx 96 rfl, hI.fx 97 rfl, hI.fx 98 rfl, hI.fx 99 rfl, hI.fx 100 rfl, hI.fx 101 rfl, hI.fx 102 rfl, hI.fx 103 rfl, hI.fx 104 rfl, hI.fx 105 rfl, hI.fx 106 rfl, hI.fx 107 rfl, hI.fx 108 rfl, hI.fx 109 rfl, hI.fx 110 rfl, hI.fx 111 rfl, hI.fx 112 rfl, hI.fx 113 rfl, hI.fx 114 rfl, hI.fx 115 rfl, hI.fx 116 rfl, hI.fx 117 rfl, hI.fx 118 rfl, hI.fx 119 rfl, hI.fx 120 rfl, hI.fx 121 rfl, hI.fx 122 rfl, hI.fx 123 rfl, hI.fx 124 rfl, hI.fx 125 rfl, hI.fx 126 rfl, hI.fx 127 rfl, hI.fx 128 rfl, hI.fx 129 rfl, hI.fx 130 rfl, hI.fx 131 rfl, hI.fx 144 rfl, hI.fx 145 rfl, hI.fx 146 rfl, hI.fx 147 rfl, hI.fx 148 rfl, hI.fx 149 rfl, hI.fx 150 rfl, hI.fx 151 rfl, hI.fx 152 rfl, hI.fx 153 rfl, hI.fx 154 rfl, hI.fx 155 rfl] at ea
  clear hI hall
  obtain ⟨us, hus⟩ : ∃ us : Nat → Value, ∀ k, a'.eval (.tmp k) = us k := ⟨_, fun _ => rfl⟩
  simp only [hus] at ea
  simp only [show ∀ (ts : Array Value) (ds) (i : Nat), (Act.mk ts ds).eval (.tmp i) = ts.getD i undef from fun _ _ _ => rfl] at ea
  simp at ea
  subst ea
  have RT1 := hide (show RT w g n cap l0 f' w1 from hw.inv)
  have RQ := hide (hw.sto rfl)
  have szq := hw.le
  have l3q : w.heap.size + 3 < w1.heap.size := by omega
  clear hw
  obtain ⟨s0, s1, s2, s3, s4, s5⟩ := stp6 RQ.out
  cases hok : x.ok with
  | true =>
   obtain ⟨V, hV⟩ : ∃ V, (w1.setCell ⟨w.heap.size, 12, none⟩ (.int .i64 7)) = V := ⟨_, rfl⟩
   have hset : (l0.set 12 (.int .i64 7)) = lt := by rw [← HL0.out, ← HLTE.out, hok]; rfl
   have RTV := hide (show RT w g n cap lt f' V from by
    rw [← hV, ← hset]
    exact (RT1.out.set 12 (by omega) (.int .i64 7)))
   have tV : Touch w1 V (fun k => k = w.heap.size) := by
    rw [← hV]
    exact (Touch.setCell (S := fun k => k = w.heap.size) (Touch.refl w1 _) ⟨w.heap.size, 12, none⟩ (.inl rfl) _)
   have SV := hide (rangeAt_block RQ.out (tV.block (w.heap.size + 3) l3q (by omega)))
   have lqV : w.heap.size + 3 < V.heap.size := Nat.lt_of_lt_of_le l3q tV.size
   clear tV
   have s5' : w1.cell? ⟨w.heap.size + 3, 5, none⟩ = some (.bool true) := by rw [s5, hok]
   clear s5 hok
   have d12 := RT1.out.tk.cell (i := 12) (by omega)
   rw [lrow_of G12.out] at d12
   have df12 := RT1.out.frozen 12
   have lp1 : w.heap.size < w1.heap.size := by omega
   go_upto_region 32 with (fail)
   clear hV hset s0 s1 s2 s3 s4 s5'
   refine ret5 RTV.out SV.out lqV HTK.out (by kernel_rfl) (by kernel_rfl) rfl rfl rfl rfl rfl rfl rfl rfl rfl rfl rfl rfl rfl rfl (by simp) (by simp) (by decide) (by simp) ?_
   intro a' w' pC pD pe hdf rC rD hrow hgro
   rename_i K2 hK2
   refine hK2 _ _ ?_
   go_wp2
   exact bodyPost_ret (v := .tuple #[.agg lt.toArray, x.val, .bool false]) (ret5v rfl HTK.out pC pD pe rC rD) hdf ⟨rfl, hrow, hgro⟩
  | false =>
   obtain ⟨V, hV⟩ : ∃ V, (w1.setCell ⟨w.heap.size, 12, none⟩ (.int .i64 4)) = V := ⟨_, rfl⟩
   have hset : (l0.set 12 (.int .i64 4)) = lt := by rw [← HL0.out, ← HLTE.out, hok]; rfl
   have RTV := hide (show RT w g n cap lt f' V from by
    rw [← hV, ← hset]
    exact (RT1.out.set 12 (by omega) (.int .i64 4)))
   have tV : Touch w1 V (fun k => k = w.heap.size) := by
    rw [← hV]
    exact (Touch.setCell (S := fun k => k = w.heap.size) (Touch.refl w1 _) ⟨w.heap.size, 12, none⟩ (.inl rfl) _)
   have SV := hide (rangeAt_block RQ.out (tV.block (w.heap.size + 3) l3q (by omega)))
   have lqV : w.heap.size + 3 < V.heap.size := Nat.lt_of_lt_of_le l3q tV.size
   clear tV
   have s5' : w1.cell? ⟨w.heap.size + 3, 5, none⟩ = some (.bool false) := by rw [s5, hok]
   clear s5 hok
   have d12 := RT1.out.tk.cell (i := 12) (by omega)
   rw [lrow_of G12.out] at d12
   have df12 := RT1.out.frozen 12
   have lp1 : w.heap.size < w1.heap.size := by omega
   go_upto_region 30 with (fail)
   clear hV hset s0 s1 s2 s3 s4 s5'
   refine ret5 RTV.out SV.out lqV HTK.out (by kernel_rfl) (by kernel_rfl) rfl rfl rfl rfl rfl rfl rfl rfl rfl rfl rfl rfl rfl rfl (by simp) (by simp) (by decide) (by simp) ?_
   intro a' w' pC pD pe hdf rC rD hrow hgro
   rename_i K2 hK2
   refine hK2 _ _ ?_
   go_wp2
   exact bodyPost_ret (v := .tuple #[.agg lt.toArray, x.val, .bool false]) (ret5v rfl HTK.out pC pD pe rC rD) hdf ⟨rfl, hrow, hgro⟩
theorem rg6_any {w : World} {g n cap : Nat} {f f' : Nat → Int} {x : Stp} {sh : Shp} {hand ia r0 r1 r2 : Int} (hr : IsRow w g n cap f) (h5 : Shape.R5 sh.a sh.b sh.c sh.d sh.e) (hi : ia ≤ 9223372036854775807)
  (hx : stepOf n f ⟨hand, 4, 5, 0, 1, true⟩ = x) (hf' : wordsOf n f ⟨hand, 4, 5, 0, 1, true⟩ = f') :
  Calls Tryz.prog 59 #[.agg (tk sh hand ⟨2, ia, 0, 0, 0⟩ 7 ⟨r0, r1, r2, 0, 0, 0, 0, 0⟩ ⟨false, 0⟩).toArray, .slice (some ⟨g, 0, none⟩) n cap] w fun e w' =>
   e = .returned (.tuple #[.agg (tk sh hand ⟨2, ia, 0, 0, 0⟩ 7 ⟨r0, r1, r2, 0, 0, 0, 0, 0⟩ ⟨true, mx0 ia⟩).toArray, x.val, .bool true]) ∧ IsRow w' g n cap f' ∧ w.grownBy w' (some g) := by
 have DO := hide (fun (w' : World) (hr' : IsRow w' g n cap f) => ref_do (s := ⟨hand, 4, 5, 0, 1, true⟩) hr' ⟨by show (0 : Int) ≤ 1; decide, by show (1 : Int) ≤ 18446744073709551615; decide⟩ ⟨by show (1 : Int) ≤ 4; decide, by show (4 : Int) ≤ 5; decide⟩)
 rw [hx, hf'] at DO
 have OBJ := hide (fun (i : Int) (w1 : World) => rhead_any h5 i w1)
 have BES := hide (fun (i k : Int) (hk : 0 ≤ k ∧ k ≤ 100) (w1 : World) => rbeside_any h5 i k hk w1)
 have gm := mx0_bd ia hi
 have gw : IntKind.u64.wrap (mx0 ia) = mx0 ia := by rw [IntKind.wrap_u64]; omega
 have gx : (if ia < 0 then (0 : Int) else ia) = mx0 ia := rfl
 have lg := hr.lt
 obtain ⟨l0, hl0⟩ : ∃ l, tk sh hand ⟨2, ia, 0, 0, 0⟩ 7 ⟨r0, r1, r2, 0, 0, 0, 0, 0⟩ ⟨false, 0⟩ = l := ⟨_, rfl⟩
 have hl0' : l0.length = 28 := by rw [← hl0]; rfl
 obtain ⟨lt, hlt⟩ : ∃ l, tk sh hand ⟨2, ia, 0, 0, 0⟩ 7 ⟨r0, r1, r2, 0, 0, 0, 0, 0⟩ ⟨true, mx0 ia⟩ = l := ⟨_, rfl⟩
 have HTK := hide (show IsTk lt from by rw [← hlt]; exact tk_is _ _ _ _ _ _)
 have HLT := hide (show lt.length = 28 from by rw [← hlt]; rfl)
 rw [hl0, hlt]
 obtain ⟨W4, hW4⟩ : ∃ W4, (((w.alloc (.cells l0.toArray 59)).alloc (.cells tk0.toArray 59)).alloc (.cells [Value.int .i64 0, .int .i64 0, .int .i64 0, .int .u64 0, .int .u64 0, .bool false].toArray 69)).alloc (.cells [Value.int .i64 0, .int .i64 0, .int .i64 0, .int .u64 0, .int .u64 0, .bool false].toArray 69) = W4 := ⟨_, rfl⟩
 have RV4 := hide (show RV w g n cap l0 f zst W4 from by rw [← hW4]; exact RV.start hr hl0')
 have GS := hide (show ∀ (j : Nat) (v : Value), ([.int .i64 sh.a, .int .i64 sh.b, .int .i64 sh.c, .int .i64 sh.d, .int .i64 sh.e, .int .i64 sh.f] : List Value)[j]? = some v → l0[j]? = some v from by
  intro j v hj
  have hj6 : j < 6 := (List.getElem?_eq_some_iff.1 hj).1
  rw [← hl0]
  match j, hj6 with
  | 0, _ | 1, _ | 2, _ | 3, _ | 4, _ | 5, _ => exact hj)
 have G6 := hide (show l0[6]? = some (.int .i64 hand) from by rw [← hl0]; rfl)
 have c6 := RV4.out.cell G6.out
 have G8 := hide (show l0[8]? = some (.int .i64 ia) from by rw [← hl0]; rfl)
 have c8 := RV4.out.cell G8.out
 have G12 := hide (show l0[12]? = some (.int .i64 7) from by rw [← hl0]; rfl)
 have c12 := RV4.out.cell G12.out
 obtain ⟨dT, hdT1, hdT2⟩ := row79
 obtain ⟨dS, hdS1, hdS2⟩ := row46
 obtain ⟨dH, hdH1, hdH2⟩ := rowSh
 have HD := hide (And.intro hdT1 (And.intro hdT2 (And.intro hdS1 hdS2)))
 have HDS := hide (And.intro hdH1 hdH2)
 have sz4 := RV4.out.size
 have HL0 := hide hl0
 have HLTE := hide hlt
 clear hx hf' hr h5 hl0 hl0' hlt hdT1 hdT2 hdS1 hdS2 hdH1 hdH2 hi gm
 simp only [tk0] at hW4
 go_enter Tryz.func59, Tryz.ntmps59
 go_wp2_with fail
 clear hW4
 refine (DO.out _ RV4.out.rt.row).mono ?_
 rintro e w1 ⟨rfl, hr1, hg1⟩
 simp only [Stp.val]
 have RV1 := hide (RV4.out.act hr1 hg1)
 clear hr1 hg1
 obtain ⟨V, hV⟩ : ∃ V, ((((((((w1.setCell ⟨w.heap.size + 3, 0, none⟩ (.int .i64 x.hand)).setCell ⟨w.heap.size + 3, 1, none⟩ (.int .i64 x.act)).setCell ⟨w.heap.size + 3, 2, none⟩ (.int .i64 x.at_)).setCell ⟨w.heap.size + 3, 3, none⟩ (.int .u64 x.had)).setCell ⟨w.heap.size + 3, 4, none⟩ (.int .u64 x.put)).setCell ⟨w.heap.size + 3, 5, none⟩ (.bool x.ok)).setCell ⟨w.heap.size, 22, none⟩ (.bool true)).setCell ⟨w.heap.size, 23, none⟩ (.int .u64 (mx0 ia))) = V := ⟨_, rfl⟩
 have hset : ((l0.set 22 (.bool true)).set 23 (.int .u64 (mx0 ia))) = lt := by rw [← HL0.out, ← HLTE.out]; rfl
 have RVV := hide (show RV w g n cap lt f' x.cells V from by
  rw [← hV, ← hset]
  exact (((RV1.out.put6 x).set 22 (by omega) (.bool true)).set 23 (by omega) (.int .u64 (mx0 ia))))
 have RTV := hide RVV.out.rt
 have SV := hide RVV.out.range
 have lqV : w.heap.size + 3 < V.heap.size := by have := RVV.out.size; omega
 have z0 := RV1.out.scell (i := 0) rfl
 have zf0 := RV1.out.sv.frozen 0
 have z1 := RV1.out.scell (i := 1) rfl
 have zf1 := RV1.out.sv.frozen 1
 have z2 := RV1.out.scell (i := 2) rfl
 have zf2 := RV1.out.sv.frozen 2
 have z3 := RV1.out.scell (i := 3) rfl
 have zf3 := RV1.out.sv.frozen 3
 have z4 := RV1.out.scell (i := 4) rfl
 have zf4 := RV1.out.sv.frozen 4
 have z5 := RV1.out.scell (i := 5) rfl
 have zf5 := RV1.out.sv.frozen 5
 have d12 := RV1.out.cell G12.out
 have df12 := RV1.out.rt.frozen 12
 have d22 := RV1.out.rt.tk.cell (i := 22) (by omega)
 have df22 := RV1.out.rt.frozen 22
 have d23 := RV1.out.rt.tk.cell (i := 23) (by omega)
 have df23 := RV1.out.rt.frozen 23
 have lp1 : w.heap.size + 3 < w1.heap.size := by have := RV1.out.size; omega
 have lp2 : w.heap.size < w1.heap.size := by omega
 go_upto_region 6 with (fail)
 clear hV hset
 refine ret5 RTV.out SV.out lqV HTK.out (by kernel_rfl) (by kernel_rfl) rfl rfl rfl rfl rfl rfl rfl rfl rfl rfl rfl rfl rfl rfl (by simp) (by simp) (by decide) (by simp) ?_
 intro a' w' pC pD pe hdf rC rD hrow hgro
 rename_i K2 hK2
 refine hK2 _ _ ?_
 go_wp2
 exact bodyPost_ret (v := .tuple #[.agg lt.toArray, x.val, .bool true]) (ret5v rfl HTK.out pC pD pe rC rD) hdf ⟨rfl, hrow, hgro⟩
end Rom
end
end Go.Proofs.YtppgbndoijppnaaGreat

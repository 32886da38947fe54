/-
  View: ViewReplays: the law
-/
import Derived.Test.YtnkbimnjeppjlaaVwY
namespace Go.Proofs.Ytnkbimnjeppjlaa
open Go.RowKit
set_option linter.unusedVariables false
set_option linter.unusedSimpArgs false
set_option linter.unnecessarySimpa false
set_option maxRecDepth 20000
namespace Vw
open Shape

theorem owns_keep1 {w w' : World} {base : Nat} {e : TypeId} {size : Nat} {v : Value} {n : Nat} {xs : List Value} (h : w.ownsRow base e size v n xs) (hk : ∀ b, v.ownBlock = some b → w'.heap[b]? = w.heap[b]?) : w'.ownsRow base e size v n xs := by
  obtain ⟨hl, h | ⟨g, cap, cur, rfl, hb, hg, hc, hm, hs, ht⟩⟩ := h
  · exact ⟨hl, .inl h⟩
  · exact ⟨hl, .inr ⟨g, cap, cur, rfl, hb, by rw [hk g rfl]; exact hg, hc, hm, hs, ht⟩⟩
set_option maxHeartbeats 8000000 in
theorem replays_walk {ao sa : Option Addr} {m cap ns cs : Nat} {n : Int} {f : Nat → Int} {a : Nat → Sp} {w : World} (hS : Sees w w.heap.size ao m f) (hN : ao = none → m = 0 ∧ cap = 0) (hP : SeesP w sa ns a) (hsN : sa = none → ns = 0 ∧ cs = 0) (hcs : ns ≤ cs) (hcs2 : cs ≤ 9223372036854775807) (hb1 : (m + 1) * 8 ≤ 140737488355328) (hb2 : (ns + 1) * 48 ≤ 140737488355328) :
    Calls Try.prog 4 #[.slice ao m cap, .slice sa ns cs, .int .i64 n] w fun e w' => e = .returned (.bool true) ∧ Below w.heap.size w w' := by
  have HS := hide hS
  have HN := hide hN
  have HP := hide hP
  have HSN := hide hsN
  obtain ⟨D, hD⟩ : ∃ D, rd m ns n a f = D := ⟨_, rfl⟩
  have HD := hide hD
  have hL : D.2.1 ≤ m := by
    rw [← hD]
    unfold rd
    split
    · exact Nat.zero_le _
    · split
      · exact Nat.zero_le _
      · cases rp m a f n.toNat with
        | none => exact Nat.zero_le _
        | some g' => exact Nat.le_refl _
  clear hS hN hP hsN hD
  obtain ⟨iP, zP, hiP, hzP, hsP, hyP, hcP⟩ := infoP
  have hns9 : (ns : Int) ≤ 9223372036854775807 := by omega
  go_enter Try.func4, Try.ntmps4
  go_upto_region 3 with (go_at_call 7; refine (awake_ok _).mono ?_; rintro e w1 ⟨rfl, hb⟩; have HB1 := hide hb; clear hb)
  have S1 := hide (sees_on HS.out HB1.out)
  have LE := hide (lent_ok S1.out HN.out hb1)
  go_upto_region 4 with (go_at_call 8; refine LE.out.mono ?_; rintro e w2 ⟨⟨g2, c2, rfl, hc2, HL2⟩, hb⟩; have HB2 := hide (HB1.out.trans (hb.mono HB1.out.size)); clear hb)
  have P2 := hide (HP.out.on HB2.out)
  go_upto_region 5 with (first
    | (at_builtin; refine wpList_append_opt rfl (.tmp 22) (.tmp 23) 45 rfl w2.heap.size 47 iP zP 6 48 Try.underlying45 hiP hzP hsP hyP hcP (by decide) (.slice (some ⟨w2.heap.size, 0, none⟩) 0 0) 0 [] rfl (by have := World.ownsRow_lit (base := w2.heap.size) (e := 47) (size := 6) w2 #[] 0 (by simp) (by unfold maxLen; omega) rfl; simpa using this) sa ns cs (spc ns a) rfl HSN.out (by rw [spc_len]) (spc_news (P2.out.on ((Below.refl _ w2).alloc (Nat.le_refl _) _))) (spc_one ns a) (by unfold maxLen; omega) (by omega) (by simp) ?_; intro v4 w4 hown4 hgrow4 hnn; rw [Nat.zero_add, List.nil_append] at hown4; obtain ⟨g4, c4, rfl, hg4, _⟩ := owned_some hown4 (fun he => by have := hnn he; cases this); have B4 := hide (show Below w2.heap.size w2 w4 from ((Below.refl _ w2).alloc (Nat.le_refl _) (.cells #[] 47)).grown hgrow4 (by simp) (by simp [Value.ownBlock])); have O4 := hide hown4; clear hown4 hgrow4 hnn)
    | (at_builtin; refine wpList_append_opt rfl (.tmp 24) (.tmp 26) 45 rfl w2.heap.size 47 iP zP 6 48 Try.underlying45 hiP hzP hsP hyP hcP (by decide) (.slice (some ⟨g4, 0, none⟩) ns c4) ns (spc ns a) rfl (O4.out.alloc _) (some ⟨w4.heap.size, 0, none⟩) 1 1 [.int .i64 777, .int .i64 0, .int .i64 0, .int .u64 0, .int .u64 0, .bool false] rfl (fun h => by cases h) rfl (fun ad had q u hu => by cases had; exact cells_new w4 _ _ q u hu) (by simp [Value.oneCell']) (by unfold maxLen; omega) (by omega) (by have := B4.out.size; simp; omega) ?_; intro v5 w5 hown5 hgrow5 hnn5; rw [spc_more] at hown5; obtain ⟨g5, c5, rfl, hg5, hc5, hc5m⟩ := owned_some hown5 (fun he => by have := hnn5 he; cases this); have O5 := hide hown5; have B5 := hide (below_grown (B4.out.alloc B4.out.size _) (O4.out.alloc _) hgrow5 (by have := B4.out.size; simp; omega)); clear hown5 hgrow5 hnn5))
  have HB5 := hide (HB2.out.trans (B5.out.mono HB2.out.size))
  have L5 := hide (owns_on HL2.out B5.out)
  have hc5b : c5 ≤ 9223372036854775807 := by unfold maxLen at hc5m; omega
  have hc5i : (ns : Int) ≤ (c5 : Int) := by omega
  have hc50 : ¬ c5 = 0 := by omega
  have SP5 := hide (steps_see O5.out)
  have RR := hide (replay_r (cap := cap) (cs := cs) (n := n) (sees_on HS.out HB5.out) HN.out (HP.out.on HB5.out) hcs hcs2 (by omega))
  rw [HD.out] at RR
  clear HL2 O4 B4 S1 LE P2 hg4 hzP hsP hyP hcP hiP hc5m
  go_upto_region 6 with (go_at_call 16; refine RR.out.mono ?_; rintro e w6 ⟨⟨go6, gc6, rfl, HW6⟩, hb⟩; have HB6 := hide hb; clear hb)
  have RV := hide (fun (V : World) (hb : Below w5.heap.size w5 V) => replay_v (cap := c2) (cs := c5) (n := n) (lent_sees (owns_on L5.out hb)) ((SP5.out.1).on hb) (by omega) hc5b (by omega))
  rw [HD.out] at RV
  clear RR
  go_upto_region 7 with (go_at_call 17; refine (RV.out _ HB6.out).mono ?_; rintro e w7 ⟨⟨go7, gc7, rfl, HW7⟩, hb⟩; have HB7 := hide hb; clear hb)
  have HB67 := hide (HB6.out.trans (HB7.out.mono HB6.out.size))
  go_upto_region 8 with (go_at_call 17; refine (RV.out _ HB67.out).mono ?_; rintro e w8 ⟨⟨go8, gc8, rfl, HW8⟩, hb⟩; have HB8 := hide hb; clear hb)
  have HB58 := hide (HB67.out.trans (HB8.out.mono HB67.out.size))
  have HW68 := hide (owns_on HW6.out (HB7.out.trans (HB8.out.mono HB7.out.size)))
  have HW78 := hide (owns_on HW7.out HB8.out)
  have L8 := hide (owns_on L5.out HB58.out)
  have O8 := hide (owns_on O5.out HB58.out)
  have z56 := HB6.out.size
  have z67 := HB7.out.size
  have z78 := HB8.out.size
  have SW := hide (same_words (cap := gc7) (cap' := gc6) (owns_sees HW78.out) (owns_sees HW68.out) (fun _ _ => rfl) (by omega))
  obtain ⟨L, hLL⟩ : ∃ L, D.2.1 = L := ⟨_, rfl⟩
  obtain ⟨gw, hgw⟩ : ∃ g, D.2.2 = g := ⟨_, rfl⟩
  obtain ⟨er, her⟩ : ∃ e, D.1 = e := ⟨_, rfl⟩
  rw [hLL] at hL
  rw [hLL] at SW
  rw [hLL, hgw] at HW68 HW78 HW8
  rw [hLL, her]
  have BL6 := hide (show ∀ b, (Value.slice go6 D.2.1 gc6).ownBlock = some b → b < w6.heap.size from fun b e => (HW6.out.lt b e).2)
  have BL7 := hide (show ∀ b, (Value.slice go7 D.2.1 gc7).ownBlock = some b → w6.heap.size ≤ b ∧ b < w7.heap.size from fun b e => HW7.out.lt b e)
  have BL8 := hide (show ∀ b, (Value.slice go8 L gc8).ownBlock = some b → w7.heap.size ≤ b from fun b e => (HW8.out.lt b e).1)
  have BL2 : g2 < w5.heap.size := (L5.out.lt g2 rfl).2
  have BL5 : g5 < w5.heap.size := (O5.out.lt g5 rfl).2
  rw [hLL] at BL6 BL7
  clear RV HW6 HW7 HD hLL hgw her L5 O5 SP5 HB67
  go_upto_region 10 with (go_at_call 18; refine SW.out.mono ?_; rintro e w9 ⟨rfl, mm, rfl⟩)
  obtain ⟨W9, hW9⟩ : ∃ W, w8.drewN mm = W := ⟨_, rfl⟩
  have R7 := hide (show W9.ownsRow w6.heap.size 27 1 (.slice go7 L gc7) L (wcs L gw) by rw [← hW9]; exact HW78.out)
  have R6 := hide (show W9.ownsRow w5.heap.size 27 1 (.slice go6 L gc6) L (wcs L gw) by rw [← hW9]; exact HW68.out)
  have R8 := hide (show W9.ownsRow w7.heap.size 27 1 (.slice go8 L gc8) L (wcs L gw) by rw [← hW9]; exact HW8.out)
  have RI := hide (show W9.ownsRow w1.heap.size 27 1 (.slice (some ⟨g2, 0, none⟩) (m + 1) c2) (m + 1) (wcs (m + 1) (marked m f)) by rw [← hW9]; exact L8.out)
  have RS := hide (show W9.ownsRow w2.heap.size 47 6 (.slice (some ⟨g5, 0, none⟩) (ns + 1) c5) (ns + 1) (spc (ns + 1) (mk777 ns a)) by rw [← hW9]; exact O8.out)
  have HB9 := hide (show Below w5.heap.size w5 W9 by rw [← hW9]; exact below_drewN HB58.out mm)
  have sz9 : w8.heap.size = W9.heap.size := by rw [← hW9]; rfl
  simp only [hW9]
  clear hW9 HW68 HW78 HW8 L8 O8 HB58 SW HB6 HB7 HB8
  have hLi : (L : Int) ≤ 9223372036854775807 := by omega
  go_wp2_with fail
  go_loopw [71] (fun i wr => ∃ (k : Nat) (g' : Nat → Int), k ≤ L ∧ i = .int .i64 k ∧ Hid (wr.ownsRow w6.heap.size 27 1 (.slice go7 L gc7) L (wcs L g')) ∧ Hid (∀ b, ¬ some b = (Value.slice go7 L gc7).ownBlock → wr.heap[b]? = W9.heap[b]?) ∧ Hid (Below w6.heap.size W9 wr)) (fun i _ => L - (intOf i).toNat)
  case atStart => exact ⟨0, gw, Nat.zero_le _, rfl, R7.out, fun _ _ => rfl, Below.refl _ _⟩
  case round =>
    obtain ⟨k, g', hk, rfl, HO, HK, HW⟩ := hrel
    by_cases hlt : k < L
    · have hkn : (k : Int) < (L : Int) := by omega
      obtain ⟨bw, hbw, hbw1, hbw2, ck, fk⟩ := owns_cell HO.out (wcs_get g' hlt)
      subst hbw
      go_wp2_with fail
      go_roundw
      case rel => exact ⟨k + 1, putF g' k 99, by omega, by go_num, owns_put HO.out k 99, fun b hb => (Below.heap_setCell _ _ _ _ (fun e => hb (by simp only at e; rw [e]; rfl))).trans (HK.out b hb), HW.out.setCell hbw1 _⟩
      case measure => simp [intOf]; omega
    · have hkn : ¬ (k : Int) < (L : Int) := by omega
      obtain ⟨V, hV⟩ : ∃ V, V = wr := ⟨_, rfl⟩
      subst hV
      have KP := hide (show ∀ (base : Nat) (e : TypeId) (size : Nat) (v : Value) (n : Nat) (xs : List Value), W9.ownsRow base e size v n xs → (∀ b, v.ownBlock = some b → ¬ some b = (Value.slice go7 L gc7).ownBlock) → V.ownsRow base e size v n xs from fun _ _ _ _ _ _ h1 h2 => owns_keep1 h1 (fun b hb => HK.out b (h2 b hb)))
      have V6 := hide (KP.out _ _ _ _ _ _ R6.out (fun b hb e => by have := BL6.out b hb; have := (BL7.out b e.symm).1; omega))
      have V8 := hide (KP.out _ _ _ _ _ _ R8.out (fun b hb e => by have := BL8.out b hb; have := (BL7.out b e.symm).2; omega))
      have VI := hide (KP.out _ _ _ _ _ _ RI.out (fun b hb e => by simp [Value.ownBlock] at hb; have := (BL7.out b e.symm).1; omega))
      have VS := hide (KP.out _ _ _ _ _ _ RS.out (fun b hb e => by simp [Value.ownBlock] at hb; have := (BL7.out b e.symm).1; omega))
      have HBV := hide (HB5.out.trans ((HB9.out.trans (HW.out.mono z56)).mono HB5.out.size))
      clear KP R6 R7 R8 RI RS HO HK HW BL6 BL7 BL8
      go_wp2_with fail
      go_loopw [80] (fun i wr => ∃ k : Nat, k ≤ ns ∧ i = .int .i64 k ∧ Hid (Below V.heap.size V wr)) (fun i _ => ns - (intOf i).toNat)
      case atStart => exact ⟨0, Nat.zero_le _, rfl, Below.refl _ _⟩
      case round =>
        obtain ⟨k, hk, rfl, HW⟩ := hrel
        have HBr := hide (HBV.out.trans (HW.out.mono HBV.out.size))
        have QS := steps_see (owns_on VS.out HW.out)
        by_cases hlt : k < ns
        · have hkn2 : (k : Int) < (ns : Int) := by omega
          have hkn3 : (k : Int) < ((ns + 1 : Nat) : Int) := by omega
          obtain ⟨b, off, e0, hbl, o0, o1, o2, o3, o4, o5⟩ := (HP.out.on HBr.out).cells hlt
          subst e0
          obtain ⟨b9, off9, e9, hbl9, q0, q1, q2, q3, q4, q5⟩ := QS.1.cells hlt
          cases e9
          obtain ⟨x, hx⟩ : ∃ x, a k = x := ⟨_, rfl⟩
          rw [hx] at o0 o1 o2 o3 o4 o5 q0 q1 q2 q3 q4 q5
          obtain ⟨ha, ac, at', hd, pt, ok⟩ := x
          simp only [Nat.zero_add] at o0 o1 o2 o3 o4 o5 q0 q1 q2 q3 q4 q5
          clear hx QS
          go_upto_region 18 with (fail)
          obtain ⟨W4, hW4, B4, R4⟩ := sbox wr ha ac at' hd pt ok
          have HB4 := hide (HW.out.trans (B4.mono HW.out.size))
          have p0 : W4.cell? ⟨wr.heap.size, 0, none⟩ = some (.int .i64 ha) := R4.cell (i := 0) (by decide)
          have p1 : W4.cell? ⟨wr.heap.size, 1, none⟩ = some (.int .i64 ac) := R4.cell (i := 1) (by decide)
          have p2 : W4.cell? ⟨wr.heap.size, 2, none⟩ = some (.int .i64 at') := R4.cell (i := 2) (by decide)
          have p3 : W4.cell? ⟨wr.heap.size, 3, none⟩ = some (.int .u64 hd) := R4.cell (i := 3) (by decide)
          have p4 : W4.cell? ⟨wr.heap.size, 4, none⟩ = some (.int .u64 pt) := R4.cell (i := 4) (by decide)
          have p5 : W4.cell? ⟨wr.heap.size, 5, none⟩ = some (.bool ok) := R4.cell (i := 5) (by decide)
          have r0 := (B4.cell (p := ⟨g5, k * 6, none⟩) hbl9).trans q0
          have r1 := (B4.cell (p := ⟨g5, k * 6 + 1, none⟩) hbl9).trans q1
          have r2 := (B4.cell (p := ⟨g5, k * 6 + 2, none⟩) hbl9).trans q2
          have r3 := (B4.cell (p := ⟨g5, k * 6 + 3, none⟩) hbl9).trans q3
          have r4 := (B4.cell (p := ⟨g5, k * 6 + 4, none⟩) hbl9).trans q4
          have r5 := (B4.cell (p := ⟨g5, k * 6 + 5, none⟩) hbl9).trans q5
          simp only [hW4]
          clear hW4 R4 B4 o0 o1 o2 o3 o4 o5 q0 q1 q2 q3 q4 q5
          go_quiet (fail)
          go_wp2
          go_roundw
          case rel => exact ⟨k + 1, by omega, by go_num, below_drewN HB4.out _⟩
          case measure => simp [intOf]; omega
        · have hkn2 : ¬ (k : Int) < (ns : Int) := by omega
          have SW2 := hide (same_words (cap := gc8) (cap' := gc6) (owns_sees (owns_on V8.out HW.out)) (owns_sees (owns_on V6.out HW.out)) (fun _ _ => rfl) (by omega))
          have WHO := hide (fun mq => whole_ok (w := wr.drewN mq) (cap := cap) (ao := ao) (owns_on VI.out (below_drewN HW.out mq)) hc2 hb1 (sees_on HS.out (below_drewN HBr.out mq)))
          have c777 := QS.2
          have hnn : (ns : Int) < ((ns + 1 : Nat) : Int) := by omega
          clear QS
          go_wp2_with (first
            | (go_at_call 18; refine SW2.out.mono ?_; rintro e v1 ⟨rfl, m1, rfl⟩)
            | (go_at_call 15; refine (WHO.out _).mono ?_; rintro e v2 ⟨rfl, m2, rfl⟩; have c778 : ((wr.drewN m1).drewN m2).cell? ⟨g5, ns * 6, none⟩ = some (.int .i64 777) := c777))
          go_ret
          exact ⟨rfl, below_drewN HBr.out _⟩
end Vw
end Go.Proofs.Ytnkbimnjeppjlaa

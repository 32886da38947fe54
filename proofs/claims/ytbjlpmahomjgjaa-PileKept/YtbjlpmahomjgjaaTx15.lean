/-
  Lemmas: PileKW.
-/
import Derived.Test.YtbjlpmahomjgjaaTx14
import Derived.Test.YtbjlpmahomjgjaaTp20
import Derived.Deep.CutRange
import Derived.Deep.CutBlock
import Derived.Deep.QuietTactic
set_option linter.unusedVariables false
set_option linter.unusedSimpArgs false
set_option linter.unnecessarySimpa false
set_option maxRecDepth 20000
namespace Go.Proofs.Ytbjlpmahomjgjaa
open Go.RowKit
namespace PKept

def gp (jb : Nat → Nat → Jb) (an : Nat → Nat → Ans) (h k : Nat) : Bool := decide ((jb h k).kind = 1) && (an h k).ok
def xp (jb : Nat → Nat → Jb) (h k : Nat) : Int := (jb h k).h
def gq (jb : Nat → Nat → Jb) (an : Nat → Nat → Ans) (h k : Nat) : Bool := decide ((jb h k).kind = 2) && (an h k).ok
def xq (an : Nat → Nat → Ans) (h k : Nat) : Int := (an h k).val

theorem infoB : (Try.prog.info? 4).map (fun i => (i.zero.map Value.cells, i.size, i.bytes)) = some (some #[.bool false], 1, 1) := by kernel_rfl
theorem aggU (w : World) : (isAgg 42).run Try.prog w = .ok false w := by simp [go_sem]
theorem sizeU : (Try.prog.info? 42).map (·.size) = some 1 := by kernel_rfl
theorem callAlong (args : Array Value) (w : World) : (callFunc 48 args).run Try.prog w = .ok (.enter 48 args) w := by simp [go_sem]

theorem call3 {ev : Operand → Value} {o : Oper} {w : World} {f : FuncId} {x0 x1 x2 : Operand} {ts : Array TypeId} {v0 v1 v2 : Value} (ho : o.op = Op.call { callee := Callee.value (Operand.func f), args := #[x0, x1, x2], argTypes := ts }) (h0 : ev x0 = v0) (h1 : ev x1 = v1) (h2 : ev x2 = v2) (hf : ev (Operand.func f) = .func (.func f) #[] #[]) (hcf : (callFunc f #[v0, v1, v2]).run Try.prog w = .ok (.enter f #[v0, v1, v2]) w) : (execOp ev o).run Try.prog w = .ok (.enter f #[v0, v1, v2]) w := by
  simp [execOp, ho, h0, h1, h2, hf, hcf, go_sem]
theorem pc_app (a b : List Nat) : pc (a ++ b) = pc a ++ pc b := by simp [pc]

theorem take_more {l : List Nat} {i q : Nat} (h : l[i]? = some q) : l.take (i + 1) = l.take i ++ [q] := by rw [List.take_add_one, h]; rfl
theorem not_yet {l : List Nat} {i q : Nat} (hnd : l.Nodup) (h : l[i]? = some q) : ¬ q ∈ l.take i := fun hm => by
  have := (List.take_sublist (i + 1) l).nodup hnd
  rw [take_more h] at this
  exact (List.nodup_append.1 this).2.2 q hm q (List.mem_singleton.2 rfl) rfl
theorem up_w {k : Nat} (h : (k : Int) ≤ 9223372036854775805) : wrap64 ((k : Int) + 1) = ((k + 1 : Nat) : Int) := by unfold wrap64; omega
theorem meas_w {k n : Nat} (h : k < n) : n - (intOf (.int .i64 ((k + 1 : Nat) : Int))).toNat < n - (intOf (.int .i64 (k : Int))).toNat := by
  show n - ((k + 1 : Nat) : Int).toNat < n - (k : Int).toNat
  omega

theorem own_pop {w : World} {base g n cap : Nat} {l : List Int} {x : Int} (h : w.ownsRow base 42 1 (.slice (some ⟨g, 0, none⟩) (n + 1) cap) (n + 1) (wc (l ++ [x]))) : w.ownsRow base 42 1 (.slice (some ⟨g, 0, none⟩) n cap) n (wc l) := by
  have hl := h.1
  rw [wc_len, List.length_append] at hl
  obtain ⟨g', cap', F, e, hb, R, hp, hc, hm⟩ := row_of_owns h (by omega)
  cases e
  refine owns_of_row (n := n) R (fun q u hq => hp q u ?_) (by rw [wc_len]; simp at hl; omega) (by omega) hm hb
  rw [wc_more, List.getElem?_append_left (List.getElem?_eq_some_iff.1 hq).1]
  exact hq
theorem pop_nums {n cap : Nat} (h : n + 1 ≤ cap) (hn : n ≤ 4096) : wrap64 ((n : Int) + 1 - 1) = (n : Int) ∧ wrap64 (n : Int) = (n : Int) ∧ IntKind.i64.wrap (n : Int) = (n : Int) ∧ (n : Int) ≤ (cap : Int) ∧ ¬ (cap : Int) < (n : Int) ∧ n ≤ cap ∧ ¬ cap < n := by
  refine ⟨by unfold wrap64; omega, by unfold wrap64; omega, by rw [IntKind.wrap_i64]; omega, by omega, by omega, by omega, by omega⟩
theorem own_cap {w : World} {base g n cap : Nat} {e : TypeId} {xs : List Value} (h : w.ownsRow base e 1 (.slice (some ⟨g, 0, none⟩) n cap) n xs) (hn : 0 < n) : n ≤ cap ∧ base ≤ g ∧ g < w.heap.size := by
  obtain ⟨g', cap', F, e, hb, R, hp, hc, hm⟩ := row_of_owns h hn
  cases e
  exact ⟨hc, hb, R.lt⟩

theorem took_below {B g n cap : Nat} {W wr w1 : World} (HB : Below B W wr) (hB : B ≤ wr.heap.size) (hg : B ≤ g) (t : Touch wr w1 (fun b => some b = (Value.slice (some ⟨g, 0, none⟩) n cap).ownBlock)) : Below B W w1 :=
  HB.trans (t.below (fun q hq => by have : g = q := (by simpa [Value.ownBlock] using hq.symm); omega) hB)

theorem take_moreI {l : List Int} {i : Nat} {x : Int} (h : l[i]? = some x) : l.take (i + 1) = l.take i ++ [x] := by rw [List.take_add_one, h]; rfl
theorem in_left {L LY : List Int} {i : Nat} {x : Int} (hc : ∀ v, L.count v + (LY.take i).count v = LY.count v) (hx : LY[i]? = some x) : x ∈ L := by
  have h1 := (List.take_sublist (i + 1) LY).count_le x
  rw [take_moreI hx, List.count_append] at h1
  have h2 := hc x
  simp at h1
  exact List.count_pos_iff.1 (by omega)

set_option maxHeartbeats 16000000 in
theorem whole_any {w : World} {wa aoh aa : Option Addr} {wcap hcap acap n r nh : Nat} {f : Nat → Int} {jn : Nat → Nat} {jb : Nat → Nat → Jb} {an : Nat → Nat → Ans} {l0 l1 : List Nat} (hr1 : 1 ≤ r) (hr : r ≤ 64) (hn : n = 2 + 2 * r) (hnh : nh ≤ 8) (hjn : ∀ h, h < nh → jn h ≤ 256)
    (SW : Sees w w.heap.size wa n f) (hf : ∀ i, i < n → 0 ≤ f i ∧ f i ≤ 18446744073709551615) (SH : SeesH w w.heap.size aoh nh jn jb) (SA : SeesA w w.heap.size aa nh jn an)
    (C0 : Ln f (f 0 % 4294967296) l0) (C1 : Ln f (f 1 % 4294967296) l1) (hlen : l0.length + l1.length = r) (hnd : (l0 ++ l1).Nodup) (hq : ∀ q, q ∈ l0 ++ l1 → 1 ≤ q ∧ q ≤ r)
    (hcount : ∀ v, (sel2 (gp jb an) (xp jb) jn nh).count v = (sel2 (gq jb an) (xq an) jn nh).count v + (l0.map fun q => f (2 * q + 1)).count v) :
    Calls Try.prog 26 #[.int .i64 (r : Int), .slice wa n wcap, .slice aoh nh hcap, .slice aa nh acap] w fun e w' => e = .returned (.bool true) ∧ Below w.heap.size w w' := by
  obtain ⟨iN, hiN, hzN, hsN, hyN⟩ := infoNe
  have hmk := run_make_z (P := Try.prog) 77 4 _ 1 1 Try.underlying77 infoB (r + 1) (by omega) (by omega)
  simp only [Nat.mul_one] at hmk
  obtain ⟨r1, hr1'⟩ : ∃ r1, r1 = r + 1 := ⟨_, rfl⟩
  rw [← hr1'] at hmk
  have HCS := hide (show wrap64 (2 * (r : Int)) = 2 * (r : Int) ∧ wrap64 (2 + 2 * (r : Int)) = (n : Int) ∧ wrap64 ((r : Int) + 1) = (r1 : Int) from ⟨by unfold wrap64; omega, by unfold wrap64; omega, by unfold wrap64; omega⟩)
  obtain ⟨W1, hW1⟩ : ∃ W1, w.alloc (.cells (madeCells #[.bool false] r1) 4) = W1 := ⟨_, rfl⟩
  have B1 : Below w.heap.size w W1 := by rw [← hW1]; exact (Below.refl _ w).alloc (Nat.le_refl _) _
  have R1 : W1.rowIs w.heap.size 4 r1 (fun _ => .bool false) := by rw [← hW1]; exact World.rowIs_made w _ r1 _
  have z1 : W1.heap.size = w.heap.size + 1 := by rw [← hW1]; simp
  have HN := hide (show 1 ≤ r ∧ r ≤ 64 ∧ n = 2 + 2 * r ∧ nh ≤ 8 ∧ r1 = r + 1 ∧ l0.length + l1.length = r from ⟨hr1, hr, hn, hnh, hr1', hlen⟩)
  obtain ⟨b, off, rfl, hb, hw0⟩ := SW 0 (by omega)
  have hw1 : w.cell? ⟨b, off + 1, none⟩ = some (.int .u64 (f 1)) := by obtain ⟨b', off', e, _, h⟩ := SW 1 (by omega); cases e; exact h
  have AL := hide (fun (l : List Nat) (hd : Int) (hhd : 0 ≤ hd ∧ hd ≤ 18446744073709551615) (C : Ln f (hd % 4294967296) l) (hll : l.length ≤ r) (hqq : ∀ q, q ∈ l → 2 * q < n) (W' : World) (hB : Below w.heap.size w W') => along_any (cap := wcap) ((SW.below hB (Nat.le_refl _)).mono hB.size) hhd hf C hll hqq hr (by omega))
  have A0 := hide (AL.out l0 (f 0) (hf 0 (by omega)) C0 (by omega) (fun q hqq => by have := hq q (List.mem_append_left _ hqq); omega))
  have A1 := hide (AL.out l1 (f 1) (hf 1 (by omega)) C1 (by omega) (fun q hqq => by have := hq q (List.mem_append_right _ hqq); omega))
  have HSW := hide SW
  have HSH := hide SH
  have HSA := hide SA
  have HQ := hide (And.intro hnd hq)
  have HC := hide hcount
  have HJN := hide hjn
  have HB1 := hide B1
  have HR1 := hide R1
  have HW01 := hide (And.intro hw0 hw1)
  have hw0' : W1.cell? ⟨b, off, none⟩ = some (.int .u64 (f 0)) := (B1.cell (p := ⟨b, off, none⟩) hb).trans hw0
  have g0 : (0 : Int) < (n : Int) := by omega
  have g1 : (1 : Int) < (n : Int) := by omega
  obtain ⟨c1, c2, c3⟩ := HCS.out
  clear hr1 hr hn hnh hr1' hlen hjn SW hf SH SA C0 C1 hnd hq hcount AL B1 R1 hw0 hw1
  go_enter Try.func26, Try.ntmps26
  go_wp2_with (go_at_call 48
               refine (A0.out _ HB1.out).mono ?_
               rintro e W2 ⟨v0, rfl, own0, B12⟩
               obtain ⟨ao0, cp0, rfl⟩ := own_slice own0
               have HO0 := hide own0
               have HB12 := hide B12
               clear own0 B12 hw0')
  clear hmk hW1 c1 c2 c3 HCS A0
  have HB02 := hide (HB1.out.trans (HB12.out.mono (by omega)))
  have HC2 := hide (fun (w' : World) (hB : Below W2.heap.size W2 w') => show w'.cell? ⟨b, off + 1 * 1, none⟩ = some (.int .u64 (f 1)) from (hB.cell (p := ⟨b, off + 1 * 1, none⟩) (Nat.lt_of_lt_of_le hb HB02.out.size)).trans ((HB02.out.cell (p := ⟨b, off + 1, none⟩) hb).trans HW01.out.2))
  have MX := hide (show 0 + l0.length ≤ maxLen ∧ (0 + l0.length) * 8 ≤ 140737488355328 ∧ l0.length + l1.length ≤ maxLen ∧ (l0.length + l1.length) * 8 ≤ 140737488355328 from by have := HN.out; unfold maxLen; omega)
  go_cut [11] from 41 to 50 (fun s11 wx => wx.ownsRow W2.heap.size 3 1 s11 r (pc (l0 ++ l1)) ∧ Below W2.heap.size W2 wx)
  case first =>
    refine RH.region (ks := [(1, 42), (3, 44), (4, 45), (5, 46), (6, 47), (7, 48)]) (vals := fun i => match i with
        | 1 => .slice ao0 l0.length cp0
        | 3 => .slice (some ⟨b, off, none⟩) n wcap
        | 4 => .slice (some ⟨b, off, none⟩) n wcap
        | 5 => .pointer (some ⟨b, off + 1 * 1, none⟩)
        | 6 => .int .u64 (f 1)
        | 7 => .int .i64 (r : Int)
        | _ => undef) (xs := [41, 43, 49, 50, 11]) (WI := fun L s w' => AA W2 l0 l1 (L 0) (L 2) (L 8) (L 9) (L 10) (s 41) (s 43) (s 49) (s 50) (s 11) w') (by kernel_rfl) ?gg ?bk rfl ?dd ?xx ?loc ?w0 ?does ?fin
    case gg =>
      intro i o ho
      have hi : i < 11 := by have := (Array.getElem?_eq_some_iff.1 ho).1; simpa using this
      match i, hi with
      | 0, _ | 1, _ | 2, _ | 3, _ | 4, _ | 5, _ | 6, _ | 7, _ | 8, _ | 9, _ | 10, _ => injection ho with ho; subst ho; rfl
    case bk =>
      intro i o ho
      have hi : i < 11 := by have := (Array.getElem?_eq_some_iff.1 ho).1; simpa using this
      match i, hi with
      | 0, _ | 1, _ | 2, _ | 3, _ | 4, _ | 5, _ | 6, _ | 7, _ | 8, _ | 9, _ | 10, _ => injection ho with ho; subst ho; simp [Region.binds]
    case dd =>
      intro k' hk'
      have hk2 : k' < 237 := by
        simp [RetN.D] at hk'
        omega
      simpa using hk2
    case xx =>
      intro k' hk'
      have hk2 : k' < 237 := by
        simp at hk'
        omega
      simpa using hk2
    case loc =>
      intro L s s' w' hs h
      rw [← hs 41 rfl, ← hs 43 rfl, ← hs 49 rfl, ← hs 50 rfl, ← hs 11 rfl]
      exact h
    case w0 => exact fun s => AA.start
    case does =>
      intro i o ho
      have hi : i < 11 := by have := (Array.getElem?_eq_some_iff.1 ho).1; simpa using this
      match i, hi with
      | 0, _ => injection ho with ho; subst ho; exact .own 41 rfl rfl rfl (fun L a w' K hI hL hd hk => wp_value (ex_bslice0 rfl) (hk _ _ (by show AA W2 l0 l1 (upd L 0 true 0) (upd L 0 true 2) (upd L 0 true 8) (upd L 0 true 9) (upd L 0 true 10) _ _ _ _ _ _; rw [upd_same, upd_other _ _ (show 2 ≠ 0 by decide), upd_other _ _ (show 8 ≠ 0 by decide), upd_other _ _ (show 9 ≠ 0 by decide), upd_other _ _ (show 10 ≠ 0 by decide)]; exact AA.build hI.world hL)))
      | 1, _ => injection ho with ho; subst ho; exact RH.Does.read rfl (fun L s w' h => AA.skip (by decide) (by decide) (by decide) (by decide) (by decide) h) (fun L a w' hI hd => ex_move rfl (hI.fix 10 (Reg.notD rfl) rfl))
      | 2, _ => injection ho with ho; subst ho; exact .own 43 rfl rfl rfl (fun L a w' K hI hL hd hk => by have h0 := (hd ⟨0, .data⟩ (by simp) rfl); have N0 := own_news (owns_keep HO0.out (fun b _ hlt => hI.world.bel.block b hlt)); exact wp_append_opt (.tmp 41) (.tmp 42) 26 rfl W2.heap.size 3 iN (.int .i64 0) 1 8 Try.underlying26 hiN hzN hsN hyN rfl (by decide) _ 0 [] rfl (hI.world.a h0 hL) ao0 l0.length cp0 (pc l0) (hI.pure 1 _ _ rfl (hd ⟨1, .data⟩ (by simp) rfl)) N0.1 N0.2.1 N0.2.2 (pc_one l0) MX.out.1 MX.out.2.1 hI.world.bel.size (fun v w'' own gr => hk w'' v (by show AA W2 l0 l1 (upd L 2 true 0) (upd L 2 true 2) (upd L 2 true 8) (upd L 2 true 9) (upd L 2 true 10) _ _ _ _ _ _; rw [upd_other _ _ (show 0 ≠ 2 by decide), upd_same, upd_other _ _ (show 8 ≠ 2 by decide), upd_other _ _ (show 9 ≠ 2 by decide), upd_other _ _ (show 10 ≠ 2 by decide)]; exact AA.app1 hI.world hL h0 own gr)))
      | 3, _ => injection ho with ho; subst ho; exact RH.Does.read rfl (fun L s w' h => AA.skip (by decide) (by decide) (by decide) (by decide) (by decide) h) (fun L a w' hI hd => ex_move rfl (hI.fix 1 (Reg.notD rfl) rfl))
      | 4, _ => injection ho with ho; subst ho; exact RH.Does.read rfl (fun L s w' h => AA.skip (by decide) (by decide) (by decide) (by decide) (by decide) h) (fun L a w' hI hd => ex_move rfl (hI.fix 1 (Reg.notD rfl) rfl))
      | 5, _ => injection ho with ho; subst ho; exact RH.Does.read rfl (fun L s w' h => AA.skip (by decide) (by decide) (by decide) (by decide) (by decide) h) (fun L a w' hI hd => ex_index (i := 1) rfl (hI.pure 4 _ _ rfl (hd ⟨4, .data⟩ (by simp) rfl)) rfl (by have := HN.out; omega) Try.underlying24 sizeU)
      | 6, _ => injection ho with ho; subst ho; exact RH.Does.read rfl (fun L s w' h => AA.skip (by decide) (by decide) (by decide) (by decide) (by decide) h) (fun L a w' hI hd => ex_load rfl (hI.pure 5 _ _ rfl (hd ⟨5, .data⟩ (by simp) rfl)) (aggU w') (HC2.out w' hI.world.bel))
      | 7, _ => injection ho with ho; subst ho; exact RH.Does.read rfl (fun L s w' h => AA.skip (by decide) (by decide) (by decide) (by decide) (by decide) h) (fun L a w' hI hd => ex_move rfl (hI.fix 0 (Reg.notD rfl) rfl))
      | 8, _ => injection ho with ho; subst ho; exact RH.Does.call rfl rfl rfl (fun L a w' hI hd => call3 rfl (hI.pure 3 _ _ rfl (hd ⟨3, .data⟩ (by simp) rfl)) (hI.pure 6 _ _ rfl (hd ⟨6, .data⟩ (by simp) rfl)) (hI.pure 7 _ _ rfl (hd ⟨7, .data⟩ (by simp) rfl)) rfl (callAlong _ _)) (fun L s w' h hL => (A1.out w' (HB02.out.trans (h.bel.mono HB02.out.size))).mono (by rintro e w'' ⟨v, rfl, hv, hbv⟩; refine ⟨v, rfl, ?_⟩; show AA W2 l0 l1 (upd L 8 true 0) (upd L 8 true 2) (upd L 8 true 8) (upd L 8 true 9) (upd L 8 true 10) _ _ _ _ _ _; rw [upd_other _ _ (show 0 ≠ 8 by decide), upd_other _ _ (show 2 ≠ 8 by decide), upd_same, upd_other _ _ (show 9 ≠ 8 by decide), upd_other _ _ (show 10 ≠ 8 by decide)]; exact AA.called h hL hbv hv))
      | 9, _ => injection ho with ho; subst ho; exact .own 50 rfl rfl rfl (fun L a w' K hI hL hd hk => by have h2 := (hd ⟨2, .data⟩ (by simp) rfl); have h8 := (hd ⟨8, .data⟩ (by simp) rfl); obtain ⟨ao1, cp1, e1⟩ := own_slice (hI.world.c h8 hL); have N1 := own_news (by have := hI.world.c h8 hL; rw [e1] at this; exact this); exact wp_append_opt (.tmp 43) (.tmp 49) 26 rfl W2.heap.size 3 iN (.int .i64 0) 1 8 Try.underlying26 hiN hzN hsN hyN rfl (by decide) _ l0.length (pc l0) rfl (hI.world.b h2 hL) ao1 l1.length cp1 (pc l1) e1 N1.1 N1.2.1 N1.2.2 (pc_one l1) MX.out.2.2.1 MX.out.2.2.2 hI.world.bel.size (fun v w'' own gr => hk w'' v (by show AA W2 l0 l1 (upd L 9 true 0) (upd L 9 true 2) (upd L 9 true 8) (upd L 9 true 9) (upd L 9 true 10) _ _ _ _ _ _; rw [upd_other _ _ (show 0 ≠ 9 by decide), upd_other _ _ (show 2 ≠ 9 by decide), upd_other _ _ (show 8 ≠ 9 by decide), upd_same, upd_other _ _ (show 10 ≠ 9 by decide)]; exact AA.app2 hI.world hL h2 h8 own gr)))
      | 10, _ => injection ho with ho; subst ho; exact RH.Does.copy (x := 11) (y := 50) rfl rfl rfl rfl (fun ev w' => ex_assign rfl rfl) (fun L s w' h hL hd => by show AA W2 l0 l1 (upd L 10 true 0) (upd L 10 true 2) (upd L 10 true 8) (upd L 10 true 9) (upd L 10 true 10) _ _ _ _ _ _; rw [upd_other _ _ (show 0 ≠ 10 by decide), upd_other _ _ (show 2 ≠ 10 by decide), upd_other _ _ (show 8 ≠ 10 by decide), upd_other _ _ (show 9 ≠ 10 by decide), upd_same]; exact AA.told h (hd ⟨9, .data⟩ (by simp) rfl))
    case fin =>
      intro L a' wx hI hall
      have hw := hI.world
      simp only [hall 0 (by decide), hall 2 (by decide), hall 8 (by decide), hall 9 (by decide), hall 10 (by decide)] at hw
      have hfin := hw.e rfl
      rw [← hw.f rfl] at hfin
      have hbelx := hw.bel
      have ea := act_all a' 237 (by rw [hI.sz]; rfl) hI.df
      simp only [List.range, List.range.loop, List.map] at ea
      rw [hI.fix 0 (Reg.notD rfl) rfl, hI.fix 1 (Reg.notD rfl) rfl, hI.fix 2 (Reg.notD rfl) rfl, hI.fix 3 (Reg.notD rfl) rfl, hI.fix 4 (Reg.notD rfl) rfl, hI.fix 5 (Reg.notD rfl) rfl, hI.fix 6 (Reg.notD rfl) rfl, hI.fix 7 (Reg.notD rfl) rfl, hI.fix 8 (Reg.notD rfl) rfl, hI.fix 9 (Reg.notD rfl) rfl, hI.fix 10 (Reg.notD rfl) rfl, hI.fix 12 (Reg.notD rfl) rfl, hI.fix 13 (Reg.notD rfl) rfl, hI.fix 14 (Reg.notD rfl) rfl, hI.fix 15 (Reg.notD rfl) rfl, hI.fix 16 (Reg.notD rfl) rfl, hI.fix 17 (Reg.notD rfl) rfl, hI.fix 18 (Reg.notD rfl) rfl, hI.fix 19 (Reg.notD rfl) rfl, hI.fix 20 (Reg.notD rfl) rfl, hI.fix 21 (Reg.notD rfl) rfl, hI.fix 22 (Reg.notD rfl) rfl, hI.fix 23 (Reg.notD rfl) rfl, hI.fix 24 (Reg.notD rfl) rfl, hI.fix 25 (Reg.notD rfl) rfl, hI.fix 26 (Reg.notD rfl) rfl, hI.fix 27 (Reg.notD rfl) rfl, hI.fix 28 (Reg.notD rfl) rfl, hI.fix 29 (Reg.notD rfl) rfl, hI.fix 30 (Reg.notD rfl) rfl, hI.fix 31 (Reg.notD rfl) rfl, hI.fix 32 (Reg.notD rfl) rfl, hI.fix 33 (Reg.notD rfl) rfl, hI.fix 34 (Reg.notD rfl) rfl, hI.fix 35 (Reg.notD rfl) rfl, hI.fix 36 (Reg.notD rfl) rfl, hI.fix 37 (Reg.notD rfl) rfl, hI.fix 38 (Reg.notD rfl) rfl, hI.fix 39 (Reg.notD rfl) rfl, hI.fix 40 (Reg.notD rfl) rfl, hI.fix 51 (Reg.notD rfl) rfl, hI.fix 52 (Reg.notD rfl) rfl, hI.fix 53 (Reg.notD rfl) rfl, hI.fix 54 (Reg.notD rfl) rfl, hI.fix 55 (Reg.notD rfl) rfl, hI.fix 56 (Reg.notD rfl) rfl, hI.fix 57 (Reg.notD rfl) rfl, hI.fix 58 (Reg.notD rfl) rfl, hI.fix 59 (Reg.notD rfl) rfl, hI.fix 60 (Reg.notD rfl) rfl, hI.fix 61 (Reg.notD rfl) rfl, hI.fix 62 (Reg.notD rfl) rfl, hI.fix 63 (Reg.notD rfl) rfl, hI.fix 64 (Reg.notD rfl) rfl, hI.fix 65 (Reg.notD rfl) rfl, hI.fix 66 (Reg.notD rfl) rfl, hI.fix 67 (Reg.notD rfl) rfl, hI.fix 68 (Reg.notD rfl) rfl, hI.fix 69 (Reg.notD rfl) rfl, hI.fix 70 (Reg.notD rfl) rfl, hI.fix 71 (Reg.notD rfl) rfl, hI.fix 72 (Reg.notD rfl) rfl, hI.fix 73 (Reg.notD rfl) rfl, hI.fix 74 (Reg.notD rfl) rfl, hI.fix 75 (Reg.notD rfl) rfl, hI.fix 76 (Reg.notD rfl) rfl, hI.fix 77 (Reg.notD rfl) rfl, hI.fix 78 (Reg.notD rfl) rfl, hI.fix 79 (Reg.notD rfl) rfl, hI.fix 80 (Reg.notD rfl) rfl, hI.fix 81 (Reg.notD rfl) rfl, hI.fix 82 (Reg.notD rfl) rfl, hI.fix 83 (Reg.notD rfl) rfl, hI.fix 84 (Reg.notD rfl) rfl, hI.fix 85 (Reg.notD rfl) rfl, hI.fix 86 (Reg.notD rfl) rfl, hI.fix 87 (Reg.notD rfl) rfl, hI.fix 88 (Reg.notD rfl) rfl, hI.fix 89 (Reg.notD rfl) rfl, hI.fix 90 (Reg.notD rfl) rfl, hI.fix 91 (Reg.notD rfl) rfl, hI.fix 92 (Reg.notD rfl) rfl, hI.fix 93 (Reg.notD rfl) rfl, hI.fix 94 (Reg.notD rfl) rfl, hI.fix 95 (Reg.notD rfl) rfl, hI.fix 96 (Reg.notD rfl) rfl, hI.fix 97 (Reg.notD rfl) rfl, hI.fix 98 (Reg.notD rfl) rfl, hI.fix 99 (Reg.notD rfl) rfl, hI.fix 100 (Reg.notD rfl) rfl, hI.fix 101 (Reg.notD rfl) rfl, hI.fix 102 (Reg.notD rfl) rfl, hI.fix 103 (Reg.notD rfl) rfl, hI.fix 104 (Reg.notD rfl) rfl, hI.fix 105 (Reg.notD rfl) rfl, hI.fix 106 (Reg.notD rfl) rfl, hI.fix 107 (Reg.notD rfl) rfl, hI.fix 108 (Reg.notD rfl) rfl, hI.fix 109 (Reg.notD rfl) rfl, hI.fix 110 (Reg.notD rfl) rfl, hI.fix 111 (Reg.notD rfl) rfl, hI.fix 112 (Reg.notD rfl) rfl, hI.fix 113 (Reg.notD rfl) rfl, hI.fix 114 (Reg.notD rfl) rfl, hI.fix 115 (Reg.notD rfl) rfl, hI.fix 116 (Reg.notD rfl) rfl, hI.fix 117 (Reg.notD rfl) rfl, hI.fix 118 (Reg.notD rfl) rfl, hI.fix 119 (Reg.notD rfl) rfl, hI.fix 120 (Reg.notD rfl) rfl, hI.fix 121 (Reg.notD rfl) rfl, hI.fix 122 (Reg.notD rfl) rfl, hI.fix 123 (Reg.notD rfl) rfl, hI.fix 124 (Reg.notD rfl) rfl, hI.fix 125 (Reg.notD rfl) rfl, hI.fix 126 (Reg.notD rfl) rfl, hI.fix 127 (Reg.notD rfl) rfl, hI.fix 128 (Reg.notD rfl) rfl, hI.fix 129 (Reg.notD rfl) rfl, hI.fix 130 (Reg.notD rfl) rfl, hI.fix 131 (Reg.notD rfl) rfl, hI.fix 132 (Reg.notD rfl) rfl, hI.fix 133 (Reg.notD rfl) rfl, hI.fix 134 (Reg.notD rfl) rfl, hI.fix 135 (Reg.notD rfl) rfl, hI.fix 136 (Reg.notD rfl) rfl, hI.fix 137 (Reg.notD rfl) rfl, hI.fix 138 (Reg.notD rfl) rfl, hI.fix 139 (Reg.notD rfl) rfl, hI.fix 140 (Reg.notD rfl) rfl, hI.fix 141 (Reg.notD rfl) rfl, hI.fix 142 (Reg.notD rfl) rfl, hI.fix 143 (Reg.notD rfl) rfl, hI.fix 144 (Reg.notD rfl) rfl, hI.fix 145 (Reg.notD rfl) rfl, hI.fix 146 (Reg.notD rfl) rfl, hI.fix 147 (Reg.notD rfl) rfl, hI.fix 148 (Reg.notD rfl) rfl, hI.fix 149 (Reg.notD rfl) rfl, hI.fix 150 (Reg.notD rfl) rfl, hI.fix 151 (Reg.notD rfl) rfl, hI.fix 152 (Reg.notD rfl) rfl, hI.fix 153 (Reg.notD rfl) rfl, hI.fix 154 (Reg.notD rfl) rfl, hI.fix 155 (Reg.notD rfl) rfl, hI.fix 156 (Reg.notD rfl) rfl, hI.fix 157 (Reg.notD rfl) rfl, hI.fix 158 (Reg.notD rfl) rfl, hI.fix 159 (Reg.notD rfl) rfl, hI.fix 160 (Reg.notD rfl) rfl, hI.fix 161 (Reg.notD rfl) rfl, hI.fix 162 (Reg.notD rfl) rfl, hI.fix 163 (Reg.notD rfl) rfl, hI.fix 164 (Reg.notD rfl) rfl, hI.fix 165 (Reg.notD rfl) rfl, hI.fix 166 (Reg.notD rfl) rfl, hI.fix 167 (Reg.notD rfl) rfl, hI.fix 168 (Reg.notD rfl) rfl, hI.fix 169 (Reg.notD rfl) rfl, hI.fix 170 (Reg.notD rfl) rfl, hI.fix 171 (Reg.notD rfl) rfl, hI.fix 172 (Reg.notD rfl) rfl, hI.fix 173 (Reg.notD rfl) rfl, hI.fix 174 (Reg.notD rfl) rfl, hI.fix 175 (Reg.notD rfl) rfl, hI.fix 176 (Reg.notD rfl) rfl, hI.fix 177 (Reg.notD rfl) rfl, hI.fix 178 (Reg.notD rfl) rfl, hI.fix 179 (Reg.notD rfl) rfl, hI.fix 180 (Reg.notD rfl) rfl, hI.fix 181 (Reg.notD rfl) rfl, hI.fix 182 (Reg.notD rfl) rfl, hI.fix 183 (Reg.notD rfl) rfl, hI.fix 184 (Reg.notD rfl) rfl, hI.fix 185 (Reg.notD rfl) rfl, hI.fix 186 (Reg.notD rfl) rfl, hI.fix 187 (Reg.notD rfl) rfl, hI.fix 188 (Reg.notD rfl) rfl, hI.fix 189 (Reg.notD rfl) rfl, hI.fix 190 (Reg.notD rfl) rfl, hI.fix 191 (Reg.notD rfl) rfl, hI.fix 192 (Reg.notD rfl) rfl, hI.fix 193 (Reg.notD rfl) rfl, hI.fix 194 (Reg.notD rfl) rfl, hI.fix 195 (Reg.notD rfl) rfl, hI.fix 196 (Reg.notD rfl) rfl, hI.fix 197 (Reg.notD rfl) rfl, hI.fix 198 (Reg.notD rfl) rfl, hI.fix 199 (Reg.notD rfl) rfl, hI.fix 200 (Reg.notD rfl) rfl, hI.fix 201 (Reg.notD rfl) rfl, hI.fix 202 (Reg.notD rfl) rfl, hI.fix 203 (Reg.notD rfl) rfl, hI.fix 204 (Reg.notD rfl) rfl, hI.fix 205 (Reg.notD rfl) rfl, hI.fix 206 (Reg.notD rfl) rfl, hI.fix 207 (Reg.notD rfl) rfl, hI.fix 208 (Reg.notD rfl) rfl, hI.fix 209 (Reg.notD rfl) rfl, hI.fix 210 (Reg.notD rfl) rfl, hI.fix 211 (Reg.notD rfl) rfl, hI.fix 212 (Reg.notD rfl) rfl, hI.fix 213 (Reg.notD rfl) rfl, hI.fix 214 (Reg.notD rfl) rfl, hI.fix 215 (Reg.notD rfl) rfl, hI.fix 216 (Reg.notD rfl) rfl, hI.fix 217 (Reg.notD rfl) rfl, hI.fix 218 (Reg.notD rfl) rfl, hI.fix 219 (Reg.notD rfl) rfl, hI.fix 220 (Reg.notD rfl) rfl, hI.fix 221 (Reg.notD rfl) rfl, hI.fix 222 (Reg.notD rfl) rfl, hI.fix 223 (Reg.notD rfl) rfl, hI.fix 224 (Reg.notD rfl) rfl, hI.fix 225 (Reg.notD rfl) rfl, hI.fix 226 (Reg.notD rfl) rfl, hI.fix 227 (Reg.notD rfl) rfl, hI.fix 228 (Reg.notD rfl) rfl, hI.fix 229 (Reg.notD rfl) rfl, hI.fix 230 (Reg.notD rfl) rfl, hI.fix 231 (Reg.notD rfl) rfl, hI.fix 232 (Reg.notD rfl) rfl, hI.fix 233 (Reg.notD rfl) rfl, hI.fix 234 (Reg.notD rfl) rfl, hI.fix 235 (Reg.notD rfl) rfl, hI.fix 236 (Reg.notD rfl) rfl] at ea
      clear hI hall hw
      generalize a'.eval (.tmp 11) = u11 at ea hfin
      generalize a'.eval (.tmp 41) = u41 at ea
      generalize a'.eval (.tmp 42) = u42 at ea
      generalize a'.eval (.tmp 43) = u43 at ea
      generalize a'.eval (.tmp 44) = u44 at ea
      generalize a'.eval (.tmp 45) = u45 at ea
      generalize a'.eval (.tmp 46) = u46 at ea
      generalize a'.eval (.tmp 47) = u47 at ea
      generalize a'.eval (.tmp 48) = u48 at ea
      generalize a'.eval (.tmp 49) = u49 at ea
      generalize a'.eval (.tmp 50) = u50 at ea
      simp only [show ∀ (ts : Array Value) (ds) (i : Nat), (Act.mk ts ds).eval (.tmp i) = ts.getD i undef from fun _ _ _ => rfl] at ea
      simp (maxSteps := 4000000) at ea
      subst ea
      go_wp2_with fail
      go_meet
      case rel => exact ⟨by rw [← HN.out.2.2.2.2.2, pc_app]; exact hfin, hbelx⟩
  case rest =>
    obtain ⟨ownA, B23⟩ := hcut
    obtain ⟨W3, hW3⟩ : ∃ x, x = wc := ⟨_, rfl⟩
    subst hW3
    obtain ⟨ga, ca, Fa, e11, hga, RA, hpa, hca, -⟩ := row_of_owns ownA (by have := HN.out; omega)
    subst e11
    have z2 := HB12.out.size
    have z3 := B23.size
    have cellA := hide (fun (i q : Nat) (hi : (l0 ++ l1)[i]? = some q) => show W3.cell? ⟨ga, i, none⟩ = some (.int .i64 (q : Int)) from by
      have hil := (List.getElem?_eq_some_iff.1 hi).1
      rw [List.length_append] at hil
      rw [RA.cell (i := i) (by have := HN.out; omega)]
      exact congrArg some (hpa i _ (by simp only [pc, List.getElem?_map, hi]; rfl)))
    have RS := HR1.out.of_block ((B23.block w.heap.size (by omega)).trans (HB12.out.block w.heap.size (by omega)))
    have lga := RA.lt
    have HRS := hide RS
    have O3 := hide (owns_keep HO0.out (fun q _ hlt => B23.block q hlt))
    have HB03 := hide (HB02.out.trans (B23.mono HB02.out.size))
    clear A1 HW01 HC2 MX HR1 HO0 HB12 HB1 HB02 RA hpa hca ownA B23 RS
    go_wp2_with fail
    go_loopw [12] (fun vi wr => ∃ i : Nat, i ≤ r ∧ vi = .int .i64 (i : Int) ∧ wr.rowIs w.heap.size 4 r1 (fun j => .bool (decide (j ∈ (l0 ++ l1).take i))) ∧ Touch W3 wr (fun q => q = w.heap.size)) (fun vi _ => r - (intOf vi).toNat)
    case atStart => exact ⟨0, Nat.zero_le _, rfl, World.rowIs.congr HRS.out (fun i hi => by simp), Touch.refl _ _⟩
    case round =>
      obtain ⟨i, hi, rfl, RW, TW⟩ := hrel
      have HRW := hide RW
      have HTW := hide TW
      by_cases hlt : i < r
      · have hlt' : (i : Int) < (r : Int) := by omega
        obtain ⟨q, hqi⟩ : ∃ q, (l0 ++ l1)[i]? = some q := ⟨_, List.getElem?_eq_getElem (by rw [List.length_append]; have := HN.out; omega)⟩
        have hqr := HQ.out.2 q (List.mem_of_getElem? hqi)
        have hq1 : ¬ (r : Int) < (q : Int) := by omega
        have hq2 : (q : Int) < (r1 : Int) := by have := HN.out; omega
        have hq3 : q < r1 := by omega
        have hno := not_yet HQ.out.1 hqi
        have ca0 : wr.cell? ⟨ga, i, none⟩ = some (.int .i64 (q : Int)) := (World.cell?_of_block (a := ⟨ga, i, none⟩) (TW.block ga lga (by omega))).trans (cellA.out i q hqi)
        have cs0 : wr.cell? ⟨w.heap.size, q, none⟩ = some (.bool false) := by rw [RW.cell (i := q) hq3, decide_eq_false hno]
        have fs0 := RW.frozen q
        have HGK := hide (And.intro (up_w (k := i) (by have := HN.out; omega)) (meas_w hlt))
        have HMORE := hide (take_more hqi)
        have lw := RW.lt
        have lga' : ga < wr.heap.size := Nat.lt_of_lt_of_le lga TW.size
        clear RW TW hno hqr
        go_wp2_with fail
        go_roundw
        case rel =>
          refine ⟨i + 1, hlt, congrArg (Value.int .i64) HGK.out.1, World.rowIs.congr (HRW.out.set q (.bool true)) (fun j hj => ?_), Touch.setCell HTW.out ⟨w.heap.size, q, none⟩ (.inl rfl) _⟩
          rw [HMORE.out]
          by_cases e : j = q
          · subst e; simp
          · simp [e]
        case measure => rw [HGK.out.1]; exact HGK.out.2
      · have hlt' : ¬ (i : Int) < (r : Int) := by omega
        obtain ⟨W4, hW4⟩ : ∃ x, x = wr := ⟨_, rfl⟩
        subst hW4
        have B4 := hide (show Below w.heap.size w W4 from HB03.out.trans (TW.below (fun q hq => by omega) (by omega)))
        have O4 := hide (owns_keep O3.out (fun q hq hlt => TW.block q hlt (fun e => by have := (O3.out.lt q hq).1; omega)))
        clear HRW HTW RW TW HRS O3 HB03 cellA
        obtain ⟨iU, hiU, hzU, hsU, hyU⟩ := info46e
        have HSW4 := hide (HSW.out.below B4.out (Nat.le_refl _))
        have HSH4 := hide (HSH.out.below B4.out (Nat.le_refl _))
        have HSA4 := hide (HSA.out.below B4.out (Nat.le_refl _))
        have s4 := B4.out.size
        clear HSW HSH HSA lga hga
        go_wp2_with fail
        go_loopw [13, 14] (fun vl vh wr => ∃ h : Nat, h ≤ nh ∧ vh = .int .i64 (h : Int) ∧ wr.ownsRow W4.heap.size 42 1 vl (sel2 (gp jb an) (xp jb) jn h).length (wc (sel2 (gp jb an) (xp jb) jn h)) ∧ Below W4.heap.size W4 wr) (fun _ vh _ => nh - (intOf vh).toNat)
        case atStart => exact ⟨0, Nat.zero_le _, rfl, by exact World.ownsRow_nil _ _ _ _, Below.refl _ _⟩
        case round =>
          obtain ⟨h, hh, rfl, OW, BW⟩ := hrel
          have HO := hide OW
          have HB := hide BW
          obtain ⟨WA, hWA⟩ : ∃ x, x = wr := ⟨_, rfl⟩
          subst hWA
          by_cases hlt2 : h < nh
          · have hlt2' : (h : Int) < (nh : Int) := by omega
            obtain ⟨hb', ho', aj, cj, eah, hbh, hc1, SJ⟩ := HSH4.out h hlt2
            obtain ⟨ab, ao', av, cv, eaa, hab, hc2, SJA⟩ := HSA4.out h hlt2
            have HGK := hide (And.intro (up_w (k := h) (by have := HN.out; omega)) (meas_w hlt2))
            have hjk := HJN.out h hlt2
            have hL0 := sel2_len (gp jb an) (xp jb) jn h (fun i hi => HJN.out i (by omega))
            have HLEN := hide (show (sel2 (gp jb an) (xp jb) jn h).length ≤ 2048 by have := HN.out; omega)
            obtain ⟨LA, hLA⟩ : ∃ L, sel2 (gp jb an) (xp jb) jn h = L := ⟨_, rfl⟩
            rw [hLA] at OW HO HLEN
            have HLA := hide hLA
            obtain ⟨jk, hjke⟩ : ∃ x, jn h = x := ⟨_, rfl⟩
            rw [hjke] at hjk hc1 SJ hc2 SJA
            have HJK := hide (And.intro hjke hjk)
            have HSJ := hide SJ
            have HSJA := hide SJA
            subst eah
            subst eaa
            have d1 : WA.cell? ⟨hb', ho' + h, none⟩ = some (.slice aj jk cj) := (BW.cell (p := ⟨hb', ho' + h, none⟩) (by show hb' < _; omega)).trans hc1
            have d2 : WA.cell? ⟨ab, ao' + h, none⟩ = some (.slice av jk cv) := (BW.cell (p := ⟨ab, ao' + h, none⟩) (by show ab < _; omega)).trans hc2
            have HCC := hide (And.intro hc1 hc2)
            have sA := BW.size
            have g1' : hb' < WA.heap.size := by omega
            have g2' : ab < WA.heap.size := by omega
            clear OW BW SJ SJA hc1 hc2 hLA hjke hjk hL0
            go_wp2_with fail
            go_quiet (fail)
            go_wp2_with fail
            clear d1 d2
            go_loopw [13, 15] (fun vl vk wy => ∃ k : Nat, k ≤ jk ∧ vk = .int .i64 (k : Int) ∧ wy.ownsRow W4.heap.size 42 1 vl (LA ++ sel (gp jb an h) (xp jb h) k).length (wc (LA ++ sel (gp jb an h) (xp jb h) k)) ∧ Below W4.heap.size W4 wy) (fun _ vk _ => jk - (intOf vk).toNat)
            case atStart => exact ⟨0, Nat.zero_le _, rfl, by show World.ownsRow _ _ _ _ _ (LA ++ []).length (wc (LA ++ [])); rw [List.append_nil]; exact HO.out, ⟨HB.out.os, HB.out.tape, HB.out.output, HB.out.size, HB.out.block⟩⟩
            case round =>
              obtain ⟨k, hk, rfl, OK, BK⟩ := hrel
              have HOK := hide OK
              have HBK := hide BK
              have sk := BK.size
              have e1 : wr.cell? ⟨hb', ho' + h, none⟩ = some (.slice aj jk cj) := (BK.cell (p := ⟨hb', ho' + h, none⟩) (by show hb' < _; omega)).trans HCC.out.1
              have e2 : wr.cell? ⟨ab, ao' + h, none⟩ = some (.slice av jk cv) := (BK.cell (p := ⟨ab, ao' + h, none⟩) (by show ab < _; omega)).trans HCC.out.2
              have g3' : hb' < wr.heap.size := by omega
              have g4' : ab < wr.heap.size := by omega
              by_cases hlt3 : k < jk
              · have hlt3' : (k : Int) < (jk : Int) := by omega
                obtain ⟨jb1, jo1, eaj, hbj, hjc⟩ := HSJ.out k hlt3
                obtain ⟨ab1, ao1, eav, hba, hac⟩ := HSJA.out k hlt3
                subst eaj
                subst eav
                have HGK2 := hide (And.intro (up_w (k := k) (by have := HJK.out.2; omega)) (meas_w hlt3))
                have j0 : wr.cell? ⟨jb1, jo1 + k * 5, none⟩ = some (.int .i64 (jb h k).kind) := (BK.cell (p := ⟨jb1, jo1 + k * 5, none⟩) (by show jb1 < _; omega)).trans (hjc 0 (by omega))
                have j4 : wr.cell? ⟨jb1, jo1 + k * 5 + 4, none⟩ = some (.int .u64 (jb h k).h) := (BK.cell (p := ⟨jb1, jo1 + k * 5 + 4, none⟩) (by show jb1 < _; omega)).trans (hjc 4 (by omega))
                have a0 : wr.cell? ⟨ab1, ao1 + k * 2, none⟩ = some (.bool (an h k).ok) := (BK.cell (p := ⟨ab1, ao1 + k * 2, none⟩) (by show ab1 < _; omega)).trans (hac 0 (by omega))
                have g5' : jb1 < wr.heap.size := by omega
                have g6' : ab1 < wr.heap.size := by omega
                have HSEL := hide (show sel (gp jb an h) (xp jb h) (k + 1) = if gp jb an h k = true then sel (gp jb an h) (xp jb h) k ++ [xp jb h k] else sel (gp jb an h) (xp jb h) k from rfl)
                have hgp : gp jb an h k = (decide ((jb h k).kind = 1) && (an h k).ok) := rfl
                have hxp : xp jb h k = (jb h k).h := rfl
                have hsl := sel_len (gp jb an h) (xp jb h) k
                have HLL := hide (show (LA ++ sel (gp jb an h) (xp jb h) k).length ≤ 2304 by rw [List.length_append]; have := HLEN.out; have := HJK.out.2; omega)
                obtain ⟨kd, hkd⟩ : ∃ x, (jb h k).kind = x := ⟨_, rfl⟩
                obtain ⟨xv, hxv⟩ : ∃ x, (jb h k).h = x := ⟨_, rfl⟩
                obtain ⟨ok, hok⟩ : ∃ x, (an h k).ok = x := ⟨_, rfl⟩
                rw [hkd] at j0 hgp
                rw [hxv] at j4 hxp
                rw [hok] at a0 hgp
                rw [hgp, hxp] at HSEL
                obtain ⟨LK, hLK⟩ : ∃ L, sel (gp jb an h) (xp jb h) k = L := ⟨_, rfl⟩
                rw [hLK] at OK HOK HLL HSEL
                clear OK BK hjc hac hgp hxp hsl hkd hxv hok hLK
                by_cases hkd1 : kd = 1
                · subst hkd1
                  cases ok with
                  | true =>
                    obtain ⟨aol, cpl, rfl⟩ := own_slice HOK.out
                    have mx : (LA ++ LK).length + 1 ≤ maxLen := by have := HLL.out; unfold maxLen; omega
                    have my : ((LA ++ LK).length + 1) * 8 ≤ 140737488355328 := by have := HLL.out; omega
                    obtain ⟨nL, hnL⟩ : ∃ x, (LA ++ LK).length = x := ⟨_, rfl⟩
                    rw [hnL] at HOK mx my
                    rw [hnL]
                    have HNL := hide hnL
                    clear hnL
                    go_wp2_with (at_builtin
                                 refine wpList_append_opt rfl (.tmp 127) (.tmp 136) 24 rfl W4.heap.size 42 iU (.int .u64 0) 1 8 Try.underlying24 hiU hzU hsU hyU rfl (by decide) (.slice aol nL cpl) nL (wc (LA ++ LK)) rfl (HOK.out.alloc _) (some ⟨wr.heap.size, 0, none⟩) 1 1 [.int .u64 xv] rfl (fun h => by cases h) rfl (fun ad had j u hu => by cases had; rw [Go.WideShapes.add_plain]; match j, hu with | 0, hu => injection hu with hu; subst hu; simp) (by simp [Value.oneCell']) mx my (by simp; omega) ?_
                                 intro v1 w1 hown hgrow _
                                 have O2 := hide hown
                                 have B2 := hide (grown_below HBK.out HBK.out.size HOK.out hgrow)
                                 clear hown hgrow)
                    go_roundw
                    case rel =>
                      refine ⟨k + 1, hlt3, congrArg (Value.int .i64) HGK2.out.1, ?_, B2.out⟩
                      rw [HSEL.out, if_pos (by decide), ← List.append_assoc, wc_more, List.length_append, HNL.out]
                      exact O2.out
                    case measure => rw [HGK2.out.1]; exact HGK2.out.2
                  | false =>
                    go_wp2_with fail
                    go_roundw
                    case rel =>
                      refine ⟨k + 1, hlt3, congrArg (Value.int .i64) HGK2.out.1, ?_, HBK.out⟩
                      rw [HSEL.out, if_neg (by decide)]
                      exact HOK.out
                    case measure => rw [HGK2.out.1]; exact HGK2.out.2
                · have hkd2 : ¬ (decide (kd = 1) && ok) = true := by simp [hkd1]
                  go_wp2_with fail
                  go_roundw
                  case rel =>
                    refine ⟨k + 1, hlt3, congrArg (Value.int .i64) HGK2.out.1, ?_, HBK.out⟩
                    rw [HSEL.out, if_neg hkd2]
                    exact HOK.out
                  case measure => rw [HGK2.out.1]; exact HGK2.out.2
              · have hlt3' : ¬ (k : Int) < (jk : Int) := by omega
                obtain rfl : k = jk := by omega
                clear OK BK
                go_wp2_with fail
                go_roundw
                case rel =>
                  refine ⟨h + 1, hlt2, congrArg (Value.int .i64) HGK.out.1, ?_, HBK.out⟩
                  have e : sel2 (gp jb an) (xp jb) jn (h + 1) = LA ++ sel (gp jb an h) (xp jb h) k := by
                    rw [sel2, HLA.out, HJK.out.1]
                  rw [e]
                  exact HOK.out
                case measure => rw [HGK.out.1]; exact HGK.out.2
          · have hlt2' : ¬ (h : Int) < (nh : Int) := by omega
            obtain rfl : nh = h := by omega
            have hL0 := sel2_len (gp jb an) (xp jb) jn nh HJN.out
            have HPL := hide (show (sel2 (gp jb an) (xp jb) jn nh).length ≤ 2048 by have := HN.out; omega)
            obtain ⟨PL, hPL⟩ : ∃ L, sel2 (gp jb an) (xp jb) jn nh = L := ⟨_, rfl⟩
            rw [hPL] at HO HC HPL
            clear OW BW hL0 hPL hh hlt hlt' hi
            go_wp2_with fail
            go_loopw [13, 16] (fun vl vh wr => ∃ (h : Nat) (L : List Int), h ≤ nh ∧ vh = .int .i64 (h : Int) ∧ L.length ≤ 2048 ∧ wr.ownsRow W4.heap.size 42 1 vl L.length (wc L) ∧ (∀ v, L.count v + (sel2 (gq jb an) (xq an) jn h).count v = PL.count v) ∧ Below W4.heap.size W4 wr) (fun _ vh _ => nh - (intOf vh).toNat)
            case atStart => exact ⟨0, PL, Nat.zero_le _, rfl, HPL.out, HO.out, fun v => rfl, HB.out⟩
            case round =>
              obtain ⟨h, L, hh, rfl, hLl, OW, hct, BW⟩ := hrel
              have HO4 := hide OW
              have HB4 := hide BW
              have HCT := hide (And.intro hLl hct)
              obtain ⟨WB, hWB⟩ : ∃ x, x = wr := ⟨_, rfl⟩
              subst hWB
              by_cases hlt2 : h < nh
              · have hlt2' : (h : Int) < (nh : Int) := by omega
                obtain ⟨hb', ho', aj, cj, eah, hbh, hc1, SJ⟩ := HSH4.out h hlt2
                obtain ⟨ab, ao', av, cv, eaa, hab, hc2, SJA⟩ := HSA4.out h hlt2
                have HGK := hide (And.intro (up_w (k := h) (by have := HN.out; omega)) (meas_w hlt2))
                have hjk := HJN.out h hlt2
                obtain ⟨jk, hjke⟩ : ∃ x, jn h = x := ⟨_, rfl⟩
                rw [hjke] at hjk hc1 SJ hc2 SJA
                have HJK := hide (And.intro hjke hjk)
                have HSJ := hide SJ
                have HSJA := hide SJA
                have HNOW := hide (fun (k : Nat) (hk : k < jk) (hg : gq jb an h k = true) => sel2_now (x := xq an) (jn := jn) (nh := nh) hlt2 (by rw [hjke]; exact hk) hg)
                subst eah
                subst eaa
                have d1 : WB.cell? ⟨hb', ho' + h, none⟩ = some (.slice aj jk cj) := (BW.cell (p := ⟨hb', ho' + h, none⟩) (by show hb' < _; omega)).trans hc1
                have HCC := hide (And.intro hc1 hc2)
                have sA := BW.size
                have g1' : hb' < WB.heap.size := by omega
                clear OW BW SJ SJA hc1 hc2 hjke hjk hct hLl
                go_wp2_with fail
                clear d1
                go_loopw [13, 17] (fun vl vk wy => ∃ (k : Nat) (L : List Int), k ≤ jk ∧ vk = .int .i64 (k : Int) ∧ L.length ≤ 2048 ∧ wy.ownsRow W4.heap.size 42 1 vl L.length (wc L) ∧ (∀ v, L.count v + ((sel2 (gq jb an) (xq an) jn h).count v + (sel (gq jb an h) (xq an h) k).count v) = PL.count v) ∧ Below W4.heap.size W4 wy) (fun _ vk _ => jk - (intOf vk).toNat)
                case atStart => exact ⟨0, L, Nat.zero_le _, rfl, HCT.out.1, HO4.out, fun v => HCT.out.2 v, ⟨HB4.out.os, HB4.out.tape, HB4.out.output, HB4.out.size, HB4.out.block⟩⟩
                case round =>
                  clear HCT HO4 HB4 g1'
                  obtain ⟨k, L, hk, rfl, hLl, OK, hct, BK⟩ := hrel
                  have HOK := hide OK
                  have HBK := hide BK
                  have HCT := hide (And.intro hLl hct)
                  have sk := BK.size
                  have rdAt := hide (fun (wy : World) (hB : Below W4.heap.size W4 wy) => show wy.cell? ⟨hb', ho' + h, none⟩ = some (.slice aj jk cj) ∧ wy.cell? ⟨ab, ao' + h, none⟩ = some (.slice av jk cv) ∧ hb' < wy.heap.size ∧ ab < wy.heap.size from ⟨(hB.cell (p := ⟨hb', ho' + h, none⟩) (by show hb' < _; omega)).trans HCC.out.1, (hB.cell (p := ⟨ab, ao' + h, none⟩) (by show ab < _; omega)).trans HCC.out.2, by have := hB.size; omega, by have := hB.size; omega⟩)
                  obtain ⟨e1, e2, g3', g4'⟩ := rdAt.out wr BK
                  by_cases hlt3 : k < jk
                  · have hlt3' : (k : Int) < (jk : Int) := by omega
                    obtain ⟨jb1, jo1, eaj, hbj, hjc⟩ := HSJ.out k hlt3
                    obtain ⟨ab1, ao1, eav, hba, hac⟩ := HSJA.out k hlt3
                    subst eaj
                    subst eav
                    have HGK2 := hide (And.intro (up_w (k := k) (by have := HJK.out.2; omega)) (meas_w hlt3))
                    have rdK := hide (fun (wy : World) (hB : Below W4.heap.size W4 wy) => show wy.cell? ⟨jb1, jo1 + k * 5, none⟩ = some (.int .i64 (jb h k).kind) ∧ wy.cell? ⟨ab1, ao1 + k * 2, none⟩ = some (.bool (an h k).ok) ∧ wy.cell? ⟨ab1, ao1 + k * 2 + 1, none⟩ = some (.int .u64 (an h k).val) ∧ jb1 < wy.heap.size ∧ ab1 < wy.heap.size from ⟨(hB.cell (p := ⟨jb1, jo1 + k * 5, none⟩) (by show jb1 < _; omega)).trans (hjc 0 (by omega)), (hB.cell (p := ⟨ab1, ao1 + k * 2, none⟩) (by show ab1 < _; omega)).trans (hac 0 (by omega)), (hB.cell (p := ⟨ab1, ao1 + k * 2 + 1, none⟩) (by show ab1 < _; omega)).trans (hac 1 (by omega)), by have := hB.size; omega, by have := hB.size; omega⟩)
                    have HSEL := hide (show sel (gq jb an h) (xq an h) (k + 1) = if gq jb an h k = true then sel (gq jb an h) (xq an h) k ++ [xq an h k] else sel (gq jb an h) (xq an h) k from rfl)
                    have HN1 := hide (HNOW.out k hlt3)
                    have hgq : gq jb an h k = (decide ((jb h k).kind = 2) && (an h k).ok) := rfl
                    have hxq : xq an h k = (an h k).val := rfl
                    obtain ⟨kd, hkd⟩ : ∃ x, (jb h k).kind = x := ⟨_, rfl⟩
                    obtain ⟨xv, hxv⟩ : ∃ x, (an h k).val = x := ⟨_, rfl⟩
                    obtain ⟨ok, hok⟩ : ∃ x, (an h k).ok = x := ⟨_, rfl⟩
                    rw [hkd] at rdK hgq
                    rw [hxv] at rdK hxq
                    rw [hok] at rdK hgq
                    rw [hgq, hxq] at HSEL HN1
                    obtain ⟨j0, a0, a1, g5', g6'⟩ := rdK.out wr BK
                    clear OK BK hjc hac hgq hxq hkd hxv hok hct hLl
                    by_cases hkd1 : kd = 2
                    · subst hkd1
                      cases ok with
                      | true =>
                        have hmem : xv ∈ L := by
                          have h1 := HC.out xv
                          have h2 := HN1.out (by decide)
                          have h3 := HCT.out.2 xv
                          exact List.count_pos_iff.1 (by omega)
                        obtain ⟨nl, hnl⟩ : ∃ nl, L.length = nl + 1 := ⟨L.length - 1, by have := List.length_pos_of_mem hmem; omega⟩
                        have hnl2 : nl + 1 ≤ 2048 := by have := HCT.out.1; omega
                        have hOK := HOK.out
                        rw [hnl] at hOK
                        obtain ⟨g', cap', e5, hg', hgl'⟩ := hOK.form (by omega)
                        subst e5
                        have hcap := (own_cap hOK (by omega)).1
                        have TK := hide (take_any hOK hmem (by omega))
                        have HNL := hide hnl
                        obtain ⟨q1, q2, q3, q4, q5, q6, q7⟩ := pop_nums hcap (by omega)
                        clear hnl hOK HOK hmem
                        go_wp2_with (go_at_call 49
                                     refine TK.out.mono ?_
                                     rintro e w1 ⟨rfl, L1, hperm, own1, t1⟩
                                     have B5 := hide (took_below HBK.out sk hg' t1)
                                     have HP5 := hide hperm
                                     have HO5 := hide own1
                                     obtain ⟨e1', e2', g7', g8'⟩ := rdAt.out w1 B5.out
                                     obtain ⟨j0', a0', a1', g9', g10'⟩ := rdK.out w1 B5.out
                                     clear own1 t1 hperm e1 e2 j0 a0 a1 g3' g4' g5' g6')
                        go_roundw
                        case rel =>
                          clear q1 q2 q3 q4 q5 q6 q7
                          have hl1 := took_len HP5.out
                          rw [HNL.out] at hl1
                          have hl2 : L1.length = nl := by omega
                          refine ⟨k + 1, L1, hlt3, congrArg (Value.int .i64) HGK2.out.1, by omega, by rw [hl2]; exact own_pop HO5.out, fun v => ?_, B5.out⟩
                          rw [HSEL.out, if_pos (by decide), List.count_append]
                          have h1 := took_count HP5.out v
                          have h2 := HCT.out.2 v
                          omega
                        case measure => rw [HGK2.out.1]; exact HGK2.out.2
                      | false =>
                        go_wp2_with fail
                        go_roundw
                        case rel =>
                          refine ⟨k + 1, L, hlt3, congrArg (Value.int .i64) HGK2.out.1, HCT.out.1, HOK.out, fun v => ?_, HBK.out⟩
                          rw [HSEL.out, if_neg (by decide)]
                          exact HCT.out.2 v
                        case measure => rw [HGK2.out.1]; exact HGK2.out.2
                    · have hkd2 : ¬ (decide (kd = 2) && ok) = true := by simp [hkd1]
                      go_wp2_with fail
                      go_roundw
                      case rel =>
                        refine ⟨k + 1, L, hlt3, congrArg (Value.int .i64) HGK2.out.1, HCT.out.1, HOK.out, fun v => ?_, HBK.out⟩
                        rw [HSEL.out, if_neg hkd2]
                        exact HCT.out.2 v
                      case measure => rw [HGK2.out.1]; exact HGK2.out.2
                  · have hlt3' : ¬ (k : Int) < (jk : Int) := by omega
                    obtain rfl : jk = k := by omega
                    clear OK BK hct hLl
                    go_wp2_with fail
                    go_roundw
                    case rel =>
                      refine ⟨h + 1, L, hlt2, congrArg (Value.int .i64) HGK.out.1, HCT.out.1, HOK.out, fun v => ?_, HBK.out⟩
                      rw [sel2, HJK.out.1, List.count_append]
                      exact HCT.out.2 v
                    case measure => rw [HGK.out.1]; exact HGK.out.2
              · have hlt2' : ¬ (h : Int) < (nh : Int) := by omega
                obtain rfl : nh = h := by omega
                obtain ⟨LY, hLY⟩ : ∃ L, (l0.map fun q => f (2 * q + 1)) = L := ⟨_, rfl⟩
                have hc0 : ∀ v, L.count v = LY.count v := fun v => by
                  have h1 := hct v
                  have h2 := HC.out v
                  rw [hLY] at h2
                  omega
                have hl : L.length = l0.length := by rw [same_len hc0, ← hLY, List.length_map]
                have HLY := hide hLY
                have HC0 := hide hc0
                have HHL := hide hl
                have hO6 := HO4.out
                rw [hl] at hO6
                obtain ⟨aol, cpl, rfl⟩ := own_slice hO6
                have HO6 := hide hO6
                clear OW BW hLY hc0 hl hO6 hct hLl hh HPL HO HB
                go_wp2_with fail
                go_loopw [13, 18] (fun vl vi wr => ∃ (i : Nat) (L : List Int), i ≤ l0.length ∧ vi = .int .i64 (i : Int) ∧ L.length + i = l0.length ∧ wr.ownsRow W4.heap.size 42 1 vl L.length (wc L) ∧ (∀ v, L.count v + (LY.take i).count v = LY.count v) ∧ Below W4.heap.size W4 wr) (fun _ vi _ => l0.length - (intOf vi).toNat)
                case atStart => exact ⟨0, L, Nat.zero_le _, rfl, HHL.out, by rw [HHL.out]; exact HO6.out, fun v => HC0.out v, HB4.out⟩
                case round =>
                  clear HO4 HB4 HC0 HHL HO6 HCT
                  obtain ⟨i, L, hi, rfl, hLl, OK, hct, BK⟩ := hrel
                  have HOK := hide OK
                  have HBK := hide BK
                  have HCT := hide (And.intro hLl hct)
                  have sk := BK.size
                  by_cases hlt3 : i < l0.length
                  · have hlt3' : (i : Int) < (l0.length : Int) := by omega
                    obtain ⟨q, hqi⟩ : ∃ q, l0[i]? = some q := ⟨_, List.getElem?_eq_getElem hlt3⟩
                    have hqr := HQ.out.2 q (List.mem_append_left _ (List.mem_of_getElem? hqi))
                    obtain ⟨g0', c0', F0, e0, hb0, R0, hp0, hcap0, -⟩ := row_of_owns O4.out (by omega)
                    cases e0
                    have cq : wr.cell? ⟨g0', i, none⟩ = some (.int .i64 (q : Int)) := by
                      refine (BK.cell (p := ⟨g0', i, none⟩) R0.lt).trans ?_
                      rw [R0.cell (i := i) (by omega)]
                      exact congrArg some (hp0 i _ (by simp only [pc, List.getElem?_map, hqi]; rfl))
                    have g1' : g0' < wr.heap.size := Nat.lt_of_lt_of_le R0.lt BK.size
                    have hqn : 2 * q + 1 < n := by have := HN.out; omega
                    have cw : wr.cell? ⟨b, off + (2 * q + 1), none⟩ = some (.int .u64 (f (2 * q + 1))) := by
                      obtain ⟨b2, off2, e2, hb2, hc2⟩ := HSW4.out (2 * q + 1) hqn
                      cases e2
                      exact (BK.cell (p := ⟨b, off + (2 * q + 1), none⟩) (by show b < _; omega)).trans hc2
                    have g2' : b < wr.heap.size := by omega
                    obtain ⟨x, hx⟩ : ∃ x, f (2 * q + 1) = x := ⟨_, rfl⟩
                    rw [hx] at cw
                    have hLYi : LY[i]? = some x := by rw [← HLY.out, List.getElem?_map, hqi]; exact congrArg some hx
                    have HMORE := hide (take_moreI hLYi)
                    have hmem := in_left hct hLYi
                    obtain ⟨nl, hnl⟩ : ∃ nl, L.length = nl + 1 := ⟨L.length - 1, by have := List.length_pos_of_mem hmem; omega⟩
                    have hl64 : l0.length ≤ 64 := by have := HN.out; omega
                    rw [hnl] at OK
                    obtain ⟨g', cap', e5, hg', hgl'⟩ := OK.form (by omega)
                    subst e5
                    have hcap := (own_cap OK (by omega)).1
                    have TK := hide (take_any OK hmem (by omega))
                    have HNL := hide hnl
                    have HGK2 := hide (And.intro (up_w (k := i) (by omega)) (meas_w hlt3))
                    have HQS := hide (pop_nums hcap (by omega))
                    have HWR := hide (show wrap64 (2 * (q : Int)) = 2 * (q : Int) ∧ wrap64 (2 * (q : Int) + 1) = ((2 * q + 1 : Nat) : Int) ∧ ((2 * q + 1 : Nat) : Int) < (n : Int) from by have := HN.out; refine ⟨?_, ?_, ?_⟩ <;> (try unfold wrap64) <;> omega)
                    obtain ⟨q1, q2, q3, q4, q5, q6, q7⟩ := HQS.out
                    obtain ⟨w1', w2', w3'⟩ := HWR.out
                    obtain ⟨q2n, hq2n⟩ : ∃ k2, k2 = 2 * q + 1 := ⟨_, rfl⟩
                    rw [← hq2n] at w2' w3' cw
                    clear hnl OK HOK hmem hct hLl hqr hLYi hx R0 hp0 hcap0 hb0 BK hq2n hqn hl64 HQS HWR
                    go_wp2_with (go_at_call 49
                                 refine TK.out.mono ?_
                                 rintro e w1 ⟨rfl, L1, hperm, own1, t1⟩
                                 have B5 := hide (took_below HBK.out sk hg' t1)
                                 have HP5 := hide hperm
                                 have HO5 := hide own1
                                 clear own1 t1 hperm cq cw)
                    go_roundw
                    case rel =>
                      clear q1 q2 q3 q4 q5 q6 q7 w1' w2' w3'
                      have hl1 := took_len HP5.out
                      have hl0 := HCT.out.1
                      rw [HNL.out] at hl1 hl0
                      have hl2 : L1.length = nl := by omega
                      refine ⟨i + 1, L1, hlt3, congrArg (Value.int .i64) HGK2.out.1, by omega, by rw [hl2]; exact own_pop HO5.out, fun v => ?_, B5.out⟩
                      rw [HMORE.out, List.count_append]
                      have h1 := took_count HP5.out v
                      have h2 := HCT.out.2 v
                      omega
                    case measure => rw [HGK2.out.1]; exact HGK2.out.2
                  · have hlt3' : ¬ (i : Int) < (l0.length : Int) := by omega
                    clear OK BK hct hLl
                    go_wp2_with fail
                    go_ret
                    exact ⟨rfl, B4.out.trans (HBK.out.mono s4)⟩
end PKept
end Go.Proofs.Ytbjlpmahomjgjaa

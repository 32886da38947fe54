/-
  Lemmas: VwRs.
-/
import Derived.Test.YtecjegjnnahddaaTp16
/-
  View: the document's Sound
-/
namespace Go.Proofs.Ytecjegjnnahddaa
open Go.RowKit
set_option linter.unusedVariables false
set_option linter.unusedSimpArgs false
set_option linter.unnecessarySimpa false
set_option maxRecDepth 20000
namespace LtC
open Lt (up up_same up_other)
variable {cs : List Nat} {ra rb : Nat} {S : Nat → (Nat → Value) → World → Prop} {L : Nat → Bool} {s : Nat → Value} {w : World}
theorem WI.past {m j : Nat} (h : WI cs ra rb S L s w) (hm : cs[m]? = some j) (hL : L j = true) : ∃ n, m < n ∧ S n s w := by
  obtain ⟨⟨n, hn, hLn, hS⟩, hr⟩ := h
  exact ⟨n, (hLn m j hm).1 hL, hS⟩
variable {P : Program} {Q : Exit → Act → World → Prop} {ks : List (Nat × Nat)} {vals : Nat → Value} {xs : List Nat} {a0 : Act} {i m : Nat} {o : Oper}
/-- It stands beside the chain: it tells a slot that the chain does not speak of. -/
theorem side {x : Nat} (hi : cs.contains i = false) (hra : cs.contains ra = true) (hd : o.dst = some x) (hx : xs.contains x = true) (hn : Lt.look ks i = none) (hS : ∀ n s w v, S n s w → S n (fun k => if k = x then v else s k) w)
    (h : ∀ L a w, LtH.In ks vals xs (WI cs ra rb S) a0 L a w → L i = false → (∀ e ∈ o.after, Region.binds .any e = true → L e.on = true) → ∃ v, (execOp a.eval o).run P w = .ok (.value v) w) : LtH.Does P Q ks vals xs (WI cs ra rb S) a0 i o :=
  .own x hd hx hn fun L a w K hI hL hdep hk => by
    obtain ⟨v, hv⟩ := h L a w hI hL hdep
    refine Lt.wp_value hv ?_
    rw [hd]
    refine hk w v ?_
    obtain ⟨⟨n, h1, h2, h3⟩, h4⟩ := hI.world.pass hi hra
    exact ⟨⟨n, h1, h2, hS _ _ _ _ h3⟩, h4⟩
end LtC
namespace Vw
open Shape

/-- What a call of along leaves, link by link: the number at the end. -/
def AlS (wr : World) (c mv e s1 : Nat) (R : List Int × Int) : Nat → (Nat → Value) → World → Prop
  | 0, s, w => Below wr.heap.size wr w
  | 1, s, w => Below wr.heap.size wr w ∧ ∃ fa cf, s c = .tuple #[.slice fa R.1.length cf, .int .i64 R.2]
  | 2, s, w => Below wr.heap.size wr w ∧ ∃ fa cf, s mv = .tuple #[.slice fa R.1.length cf, .int .i64 R.2]
  | 3, s, w => Below wr.heap.size wr w ∧ (∃ fa cf, s mv = .tuple #[.slice fa R.1.length cf, .int .i64 R.2]) ∧ s e = .int .i64 R.2
  | _, s, w => Below wr.heap.size wr w ∧ (∃ fa cf, s mv = .tuple #[.slice fa R.1.length cf, .int .i64 R.2]) ∧ s s1 = .int .i64 R.2
theorem AlS.low {wr : World} {c mv e s1 : Nat} {R : List Int × Int} {n : Nat} {s : Nat → Value} {w : World} (h : AlS wr c mv e s1 R n s w) : Below wr.heap.size wr w := by
  match n, h with
  | 0, h => exact h
  | 1, h => exact h.1
  | 2, h => exact h.1
  | 3, h => exact h.1
  | n + 4, h => exact h.1
theorem AlS.tup {wr : World} {c mv e s1 : Nat} {R : List Int × Int} {n : Nat} {s : Nat → Value} {w : World} (h : AlS wr c mv e s1 R n s w) (hn : 1 < n) : ∃ fa cf, s mv = .tuple #[.slice fa R.1.length cf, .int .i64 R.2] := by
  match n, h with
  | 0, h => omega
  | 1, h => omega
  | 2, h => exact h.2
  | 3, h => exact h.2.1
  | n + 4, h => exact h.2.1
theorem AlS.local {wr : World} {c mv e s1 : Nat} {R : List Int × Int} {n : Nat} {s s' : Nat → Value} {w : World} (h1 : s c = s' c) (h2 : s mv = s' mv) (h3 : s e = s' e) (h4 : s s1 = s' s1) (h : AlS wr c mv e s1 R n s w) : AlS wr c mv e s1 R n s' w := by
  match n, h with
  | 0, h => exact h
  | 1, h => simp only [AlS] at h ⊢; rw [← h1]; exact h
  | 2, h => simp only [AlS] at h ⊢; rw [← h2]; exact h
  | 3, h => simp only [AlS] at h ⊢; rw [← h2, ← h3]; exact h
  | n + 4, h => simp only [AlS] at h ⊢; rw [← h2, ← h4]; exact h
theorem AlS.other {wr : World} {c mv e s1 x : Nat} {R : List Int × Int} {n : Nat} {s : Nat → Value} {w : World} {v : Value} (h : AlS wr c mv e s1 R n s w) (h1 : c ≠ x) (h2 : mv ≠ x) (h3 : e ≠ x) (h4 : s1 ≠ x) : AlS wr c mv e s1 R n (fun k => if k = x then v else s k) w :=
  h.local (by simp [h1]) (by simp [h2]) (by simp [h3]) (by simp [h4])
theorem ex_idxN {ev : Operand → Value} {o : Oper} {w : World} {x y : Operand} {b off n cap k : Nat} (ho : o.op = .indexAddr 24 x y) (hx : ev x = .slice (some ⟨b, off, none⟩) n cap) (hy : ev y = .int .i64 (k : Int)) (hk : k < n) : (execOp ev o).run Try.prog w = .ok (.value (.pointer (some ⟨b, off + k, none⟩))) w := by
  have hk' : (k : Int) < (n : Int) := by omega
  simp [execOp, ho, hx, hy, go_sem, hk']
def lkE (c : Cv) (u : Int) : List Int × Int := al c.no (fun x => (c.ob (x.toNat - 1)).lk % 4294967296) c.no [] (u % 4294967296)
def nxE (c : Cv) (u : Int) : List Int × Int := al c.no (fun x => (c.ob (x.toNat - 1)).nx % 4294967296) c.no [] (u % 4294967296)
theorem Shows.links {w : World} {c : Cv} {a : Av} (h : Shows w c a) : Links w a.oa c.no (fun j => (c.ob j).lk) (fun j => (c.ob j).nx) := fun j hj => by
  obtain ⟨b, off, ai, ci, e, hl, hc, _⟩ := h.ob j hj
  exact ⟨b, off, e, hl, by simpa [Ob.cell] using hc 6 (by decide), by simpa [Ob.cell] using hc 7 (by decide)⟩
def Pk (c : Cv) (j : Nat) : Prop := obOk c j ∧ (((j : Int) + 1) ∈ c.qu → quOk c ((j : Int) + 1)) ∧ ((c.ob j).us = true → ∀ i, i < (c.ob j).ns → hOk c ((c.ob j).sl i))
theorem pk_iff {c : Cv} {j : Nat} {us li fi ta : Bool} {ag ge lk nx : Int} {ns : Nat} {sl : Nat → Int} (h : c.ob j = ⟨us, li, fi, ta, ag, ge, lk, nx, ns, sl⟩) : Pk c j ↔ ((us = true → li = true ∧ ¬ ((j : Int) + 1) ∈ c.fr) ∧ (us = false → (((j : Int) + 1) ∈ c.fr ∨ ge = 4294967295) ∧ ∀ q, q < ns → sl q = 0)) ∧ (((j : Int) + 1) ∈ c.qu → us = true ∧ fi = true ∧ ta = true) ∧ (us = true → ∀ i, i < ns → hOk c (sl i)) := by
  unfold Pk obOk quOk
  rw [show ((j : Int) + 1).toNat - 1 = j by omega, h]
theorem clean_yes {w : World} {B : Nat} {ao : Option Addr} {n cap : Nat} {g : Nat → Int} (h : Sees w B ao n g) (hn : n ≤ 70000) (hp : ∀ q, q < n → g q = 0) : Calls Try.prog 64 #[.slice ao n cap] w fun e w' => e = .returned (.bool true) ∧ w' = w :=
  (clean_ok h hn).mono (by rintro e w' ⟨ht, hb⟩; rcases ht.get with ⟨_, h2⟩ | ⟨h1, _⟩; exact ⟨h2, hb⟩; exact absurd hp h1)
theorem clean_no {w : World} {B : Nat} {ao : Option Addr} {n cap : Nat} {g : Nat → Int} (h : Sees w B ao n g) (hn : n ≤ 70000) (hp : ¬ ∀ q, q < n → g q = 0) : Calls Try.prog 64 #[.slice ao n cap] w fun e w' => e = .returned (.bool false) ∧ w' = w :=
  (clean_ok h hn).mono (by rintro e w' ⟨ht, hb⟩; rcases ht.get with ⟨h1, _⟩ | ⟨_, h2⟩; exact absurd h1 hp; exact ⟨h2, hb⟩)
theorem ex_idxR {ev : Operand → Value} {o : Oper} {w : World} {x y : Operand} {b off n cap k : Nat} (ho : o.op = .indexAddr 28 x y) (hx : ev x = .slice (some ⟨b, off, none⟩) n cap) (hy : ev y = .int .i64 (k : Int)) (hk : (k : Int) < (n : Int)) : (execOp ev o).run Try.prog w = .ok (.value (.pointer (some ⟨b, off + k, none⟩))) w := by
  simp [execOp, ho, hx, hy, go_sem, hk]
set_option maxHeartbeats 16000000 in
theorem sound13 {c : Cv} {a : Av} {w : World} (hS : Shows w c a) (hc : c.Ok) (hlw : ∀ j, j < c.no → (0 ≤ (c.ob j).lk ∧ (c.ob j).lk < 18446744073709551616) ∧ 0 ≤ (c.ob j).nx ∧ (c.ob j).nx < 18446744073709551616) {b off z cap : Nat} {f : Nat → Int} (hs : Sees w w.heap.size (some ⟨b, off, none⟩) z f) (hz : 8 ≤ z) (hf : ∀ i, i < z → 0 ≤ f i ∧ f i < 18446744073709551616) : Calls Try.prog 36 #[vl c a, .slice (some ⟨b, off, none⟩) z cap] w fun e w' => Tells e (c.ph = 0 ∧ (lkE c (f 1)).2 = 0 ∧ (lkE c (f 2)).2 = 0 ∧ (nxE c (f 3)).2 = 0 ∧ c.gr = [] ∧ (∀ j, j < c.no → Pk c j) ∧ (∀ j, j < c.nr → ∀ i, i < c.rn j → hOk c (c.rt j i)) ∧ (∀ i, i < c.nw → hOk c (c.wk i))) ∧ Below w.heap.size w w' := by
  obtain ⟨aa, ca, ra, cr, wa, cw, oa, cb, fa, cf, ga, cg, qa, cq⟩ := a
  have RI := hide (fun (V : World) (hV : Below w.heap.size w V) (ao : Option Addr) (n cp : Nat) (g : Nat → Int) (h1 : Sees V V.heap.size ao n g) (h2 : n ≤ 70000) (h3 : ∀ i, i < n → 0 ≤ g i ∧ g i < 18446744073709551616) => right_ok (cap := cp) (hS.below hV) hc h1 h2 h3)
  have hno := hc.no
  have AL1 := hide (fun (V : World) (hV : Below w.heap.size w V) => along_false (cb := cb) (hd := f 1) (hS.below hV).links hc.no (fun j hj => (hlw j hj).1) (hf 1 (by omega)).1 (hf 1 (by omega)).2)
  have AL2 := hide (fun (V : World) (hV : Below w.heap.size w V) => along_false (cb := cb) (hd := f 2) (hS.below hV).links hc.no (fun j hj => (hlw j hj).1) (hf 2 (by omega)).1 (hf 2 (by omega)).2)
  have AL3 := hide (fun (V : World) (hV : Below w.heap.size w V) => along_true (cb := cb) (hd := f 3) (hS.below hV).links hc.no (fun j hj => (hlw j hj).2) (hf 3 (by omega)).1 (hf 3 (by omega)).2)
  simp only [vl] at AL1 AL2 AL3 RI ⊢
  obtain ⟨R1, hR1⟩ : ∃ R1, lkE c (f 1) = R1 := ⟨_, rfl⟩
  obtain ⟨R2, hR2⟩ : ∃ R2, lkE c (f 2) = R2 := ⟨_, rfl⟩
  obtain ⟨R3, hR3⟩ : ∃ R3, nxE c (f 3) = R3 := ⟨_, rfl⟩
  rw [hR1, hR2, hR3]
  unfold lkE at hR1 hR2
  unfold nxE at hR3
  rw [hR1] at AL1
  rw [hR2] at AL2
  rw [hR3] at AL3
  have HCE := hide (fun (V : World) (hV : Below w.heap.size w V) (i : Nat) (hi : i < z) => show V.cell? ⟨b, off + i, none⟩ = some (.int .u64 (f i)) by
    obtain ⟨b1, o1, e1, hl, hc⟩ := hs i hi
    cases e1
    exact (hV.cell (p := ⟨b, off + i, none⟩) hl).trans hc)
  obtain ⟨V0, hW0, B0, R0⟩ := vbox w c ⟨aa, ca, ra, cr, wa, cw, oa, cb, fa, cf, ga, cg, qa, cq⟩
  simp only at hW0 R0
  have HV0 := hide B0
  have HX0 := hide (Below.refl V0.heap.size V0)
  have RX := hide R0
  have l0 : w.heap.size < V0.heap.size := R0.lt
  have HS := hide hS
  have HC := hide hc
  clear B0 R0 hS hc hs hf hR1 hR2 hR3 hlw
  go_enter Try.func36, Try.ntmps36
  go_upto_region 1 with (fail)
  clear hW0
  refine LtH.region2 (ks := [(0, 16), (1, 17), (2, 18), (3, 19), (4, 20)]) (vals := fun iv => match iv with | 0 => .pointer (some ⟨w.heap.size, 6, none⟩) | 1 => .slice oa c.no cb | 2 => .slice (some ⟨b, off, none⟩) z cap | 3 => .pointer (some ⟨b, off + 1, none⟩) | 4 => .int .u64 (f 1) | _ => undef) (xs := [21, 15, 23, 6, 22, 5]) (WI := LtC.WI [5, 6, 8, 10] 5 4 (AlS V0 21 15 23 6 R1)) (by kernel_rfl) ?Agd ?Abk rfl ?Add ?Axx ?Alc ?Ast ?Ado ?Afi
  case Agd =>
    intro iq oq ho
    have hiq : iq < 11 := by have := (Array.getElem?_eq_some_iff.1 ho).1; simpa using this
    match iq, hiq with
    | 0, _ | 1, _ | 2, _ | 3, _ | 4, _ | 5, _ | 6, _ | 7, _ | 8, _ | 9, _ | 10, _ => injection ho with ho; subst ho; rfl
  case Abk =>
    intro iq oq ho
    have hiq : iq < 11 := by have := (Array.getElem?_eq_some_iff.1 ho).1; simpa using this
    match iq, hiq with
    | 0, _ | 1, _ | 2, _ | 3, _ | 4, _ | 5, _ | 6, _ | 7, _ | 8, _ | 9, _ | 10, _ => injection ho with ho; subst ho; simp [Region.binds]
  case Add =>
    intro kq hk
    have hk2 : kq < 153 := by
      simp [Lt.D] at hk
      omega
    exact hk2
  case Axx =>
    intro kq hk
    have hk2 : kq < 153 := by
      simp at hk
      omega
    exact hk2
  case Alc =>
    rintro L s1 s2 w1 hx ⟨⟨n1, h1, h2, h3⟩, h4⟩
    exact ⟨⟨n1, h1, h2, AlS.local (hx 21 rfl) (hx 15 rfl) (hx 23 rfl) (hx 6 rfl) h3⟩, h4⟩
  case Ast => exact LtC.WI.start ⟨rfl, rfl, rfl, Nat.le_refl _, fun _ _ => rfl⟩
  case Ado =>
    intro iq oq ho
    have hiq : iq < 11 := by have := (Array.getElem?_eq_some_iff.1 ho).1; simpa using this
    match iq, hiq with
    | 0, _ => injection ho with ho; subst ho; exact LtC.read rfl rfl rfl (fun L a w' hI hL hq => Lt.ex_field rfl (hI.fix 2 (Lt.notD rfl) rfl) (by simp [go_sem]))
    | 1, _ => injection ho with ho; subst ho; exact LtC.read rfl rfl rfl (fun L a w' hI hL hq => Lt.ex_load rfl (hI.pure 0 _ _ rfl (hq ⟨0, .data⟩ (by simp) rfl)) (by simp [go_sem]) (by obtain ⟨n1, hn1⟩ := hI.world.any; exact (row_on RX.out (HX0.out.trans (hn1.low.mono HX0.out.size))).cell (i := 6) (by decide)))
    | 2, _ => injection ho with ho; subst ho; exact LtC.read rfl rfl rfl (fun L a w' hI hL hq => Lt.ex_move rfl (hI.fix 1 (Lt.notD rfl) rfl))
    | 3, _ => injection ho with ho; subst ho; exact LtC.read rfl rfl rfl (fun L a w' hI hL hq => ex_idxN (k := 1) rfl (hI.pure 2 _ _ rfl (hq ⟨2, .data⟩ (by simp) rfl)) rfl (by omega))
    | 4, _ => injection ho with ho; subst ho; exact LtC.read rfl rfl rfl (fun L a w' hI hL hq => Lt.ex_load rfl (hI.pure 3 _ _ rfl (hq ⟨3, .data⟩ (by simp) rfl)) (by simp [go_sem]) (by obtain ⟨n1, hn1⟩ := hI.world.any; exact HCE.out _ (HV0.out.trans (hn1.low.mono HV0.out.size)) 1 (by omega)))
    | 5, _ => injection ho with ho; subst ho; exact LtC.call (m := 0) (args := fun _ => #[.slice oa c.no cb, .int .u64 (f 1), .bool false]) (by decide) rfl rfl rfl rfl (fun L hq e => hq ⟨4, .data⟩ (by simp) rfl) (fun L hq m1 j1 e1 _ => absurd e1 (by omega)) (fun L a w' hI hq hS => Lt.call3 rfl (hI.pure 1 _ _ rfl (hq ⟨1, .data⟩ (by simp) rfl)) (hI.pure 4 _ _ rfl (hq ⟨4, .data⟩ (by simp) rfl)) rfl rfl (by simp [go_sem])) (fun s w1 hS => (AL1.out w1 (HV0.out.trans (hS.low.mono HV0.out.size))).mono (by rintro e w2 ⟨⟨fa1, cf1, rfl, -⟩, hb⟩; exact ⟨_, rfl, hS.low.trans (hb.mono hS.low.size), fa1, cf1, by simp⟩))
    | 6, _ => injection ho with ho; subst ho; exact LtC.link (m := 1) (by decide) rfl rfl rfl rfl (fun L _ e => absurd e (by decide)) (fun L hq m1 j1 e1 hj => by (cases (show m1 = 0 from (by omega))); cases hj; exact hq ⟨5, .data⟩ (by simp) rfl) (fun L a w' Kq hI hq hS hk => Lt.wp_value (Lt.ex_move rfl rfl) (hk _ _ (by obtain ⟨h1, fa1, cf1, h2⟩ := hS; exact ⟨h1, fa1, cf1, by simpa using h2⟩)))
    | 7, _ => injection ho with ho; subst ho; exact LtC.side rfl rfl rfl rfl rfl (fun n s w' v hS => hS.other (by decide) (by decide) (by decide) (by decide)) (fun L a w' hI hL hq => by obtain ⟨n1, hn, hS⟩ := hI.world.past (m := 1) rfl (hq ⟨6, .data⟩ (by simp) rfl); obtain ⟨fa1, cf1, h2⟩ := hS.tup hn; exact ⟨_, Lt.ex_extract rfl h2 rfl⟩)
    | 8, _ => injection ho with ho; subst ho; exact LtC.link (m := 2) (by decide) rfl rfl rfl rfl (fun L _ e => absurd e (by decide)) (fun L hq m1 j1 e1 hj => by (cases (show m1 = 1 from (by omega))); cases hj; exact hq ⟨6, .data⟩ (by simp) rfl) (fun L a w' Kq hI hq hS hk => by obtain ⟨h1, fa1, cf1, h2⟩ := hS; exact Lt.wp_value (Lt.ex_extract rfl h2 rfl) (hk _ _ ⟨h1, ⟨fa1, cf1, by simpa using h2⟩, by simp⟩))
    | 9, _ => injection ho with ho; subst ho; exact LtC.side rfl rfl rfl rfl rfl (fun n s w' v hS => hS.other (by decide) (by decide) (by decide) (by decide)) (fun L a w' hI hL hq => ⟨_, Lt.ex_assign rfl rfl⟩)
    | 10, _ => injection ho with ho; subst ho; exact LtC.link (m := 3) (by decide) rfl rfl rfl rfl (fun L _ e => absurd e (by decide)) (fun L hq m1 j1 e1 hj => by (cases (show m1 = 2 from (by omega))); cases hj; exact hq ⟨8, .data⟩ (by simp) rfl) (fun L a w' Kq hI hq hS hk => by obtain ⟨h1, ⟨fa1, cf1, h2⟩, h3⟩ := hS; exact Lt.wp_value (Lt.ex_assign rfl h3) (hk _ _ ⟨h1, ⟨fa1, cf1, by simpa using h2⟩, by simp⟩))
  case Afi =>
    intro L a' V1 hI hall
    obtain ⟨hb1, -, e6⟩ := hI.world.done (fun i hi => hall i (by simp at hi ⊢; omega))
    have hfr := LtH.frame hI [5, 6, 15, 16, 17, 18, 19, 20, 21, 22, 23] rfl rfl (fun x hx => by simp at hx ⊢; omega)
    obtain ⟨t5, e5⟩ : ∃ t, a'.eval (.tmp 5) = t := ⟨_, rfl⟩
    obtain ⟨t15, e15⟩ : ∃ t, a'.eval (.tmp 15) = t := ⟨_, rfl⟩
    obtain ⟨t16, e16⟩ : ∃ t, a'.eval (.tmp 16) = t := ⟨_, rfl⟩
    obtain ⟨t17, e17⟩ : ∃ t, a'.eval (.tmp 17) = t := ⟨_, rfl⟩
    obtain ⟨t18, e18⟩ : ∃ t, a'.eval (.tmp 18) = t := ⟨_, rfl⟩
    obtain ⟨t19, e19⟩ : ∃ t, a'.eval (.tmp 19) = t := ⟨_, rfl⟩
    obtain ⟨t20, e20⟩ : ∃ t, a'.eval (.tmp 20) = t := ⟨_, rfl⟩
    obtain ⟨t21, e21⟩ : ∃ t, a'.eval (.tmp 21) = t := ⟨_, rfl⟩
    obtain ⟨t22, e22⟩ : ∃ t, a'.eval (.tmp 22) = t := ⟨_, rfl⟩
    obtain ⟨t23, e23⟩ : ∃ t, a'.eval (.tmp 23) = t := ⟨_, rfl⟩
    simp only at e6
    rw [hfr]
    simp only [LtH.lay, List.foldl, e5, e6, e15, e16, e17, e18, e19, e20, e21, e22, e23]
    have HV1 := hide (HV0.out.trans (hb1.mono HV0.out.size))
    have HX1 := hide (HX0.out.trans (hb1.mono HX0.out.size))
    clear hfr hI hall hb1 e5 e6 e15 e16 e17 e18 e19 e20 e21 e22 e23
    simp only [Act.put, List.setIfInBounds_toArray, List.set_cons_succ, List.set_cons_zero]
    go_upto_region 2 with (fail)
    refine LtH.region2 (ks := [(0, 25), (1, 26), (2, 27), (3, 28), (4, 29)]) (vals := fun iv => match iv with | 0 => .pointer (some ⟨w.heap.size, 6, none⟩) | 1 => .slice oa c.no cb | 2 => .slice (some ⟨b, off, none⟩) z cap | 3 => .pointer (some ⟨b, off + 2, none⟩) | 4 => .int .u64 (f 2) | _ => undef) (xs := [30, 24, 32, 8, 31, 7]) (WI := LtC.WI [5, 6, 8, 10] 5 4 (AlS V1 30 24 32 8 R2)) (by kernel_rfl) ?Bgd ?Bbk rfl ?Bdd ?Bxx ?Blc ?Bst ?Bdo ?Bfi
    case Bgd =>
      intro iq oq ho
      have hiq : iq < 11 := by have := (Array.getElem?_eq_some_iff.1 ho).1; simpa using this
      match iq, hiq with
      | 0, _ | 1, _ | 2, _ | 3, _ | 4, _ | 5, _ | 6, _ | 7, _ | 8, _ | 9, _ | 10, _ => injection ho with ho; subst ho; rfl
    case Bbk =>
      intro iq oq ho
      have hiq : iq < 11 := by have := (Array.getElem?_eq_some_iff.1 ho).1; simpa using this
      match iq, hiq with
      | 0, _ | 1, _ | 2, _ | 3, _ | 4, _ | 5, _ | 6, _ | 7, _ | 8, _ | 9, _ | 10, _ => injection ho with ho; subst ho; simp [Region.binds]
    case Bdd =>
      intro kq hk
      have hk2 : kq < 153 := by
        simp [Lt.D] at hk
        omega
      exact hk2
    case Bxx =>
      intro kq hk
      have hk2 : kq < 153 := by
        simp at hk
        omega
      exact hk2
    case Blc =>
      rintro L s1 s2 w1 hx ⟨⟨n1, h1, h2, h3⟩, h4⟩
      exact ⟨⟨n1, h1, h2, AlS.local (hx 30 rfl) (hx 24 rfl) (hx 32 rfl) (hx 8 rfl) h3⟩, h4⟩
    case Bst => exact LtC.WI.start ⟨rfl, rfl, rfl, Nat.le_refl _, fun _ _ => rfl⟩
    case Bdo =>
      intro iq oq ho
      have hiq : iq < 11 := by have := (Array.getElem?_eq_some_iff.1 ho).1; simpa using this
      match iq, hiq with
      | 0, _ => injection ho with ho; subst ho; exact LtC.read rfl rfl rfl (fun L a w' hI hL hq => Lt.ex_field rfl (hI.fix 2 (Lt.notD rfl) rfl) (by simp [go_sem]))
      | 1, _ => injection ho with ho; subst ho; exact LtC.read rfl rfl rfl (fun L a w' hI hL hq => Lt.ex_load rfl (hI.pure 0 _ _ rfl (hq ⟨0, .data⟩ (by simp) rfl)) (by simp [go_sem]) (by obtain ⟨n1, hn1⟩ := hI.world.any; exact (row_on RX.out (HX1.out.trans (hn1.low.mono HX1.out.size))).cell (i := 6) (by decide)))
      | 2, _ => injection ho with ho; subst ho; exact LtC.read rfl rfl rfl (fun L a w' hI hL hq => Lt.ex_move rfl (hI.fix 1 (Lt.notD rfl) rfl))
      | 3, _ => injection ho with ho; subst ho; exact LtC.read rfl rfl rfl (fun L a w' hI hL hq => ex_idxN (k := 2) rfl (hI.pure 2 _ _ rfl (hq ⟨2, .data⟩ (by simp) rfl)) rfl (by omega))
      | 4, _ => injection ho with ho; subst ho; exact LtC.read rfl rfl rfl (fun L a w' hI hL hq => Lt.ex_load rfl (hI.pure 3 _ _ rfl (hq ⟨3, .data⟩ (by simp) rfl)) (by simp [go_sem]) (by obtain ⟨n1, hn1⟩ := hI.world.any; exact HCE.out _ (HV1.out.trans (hn1.low.mono HV1.out.size)) 2 (by omega)))
      | 5, _ => injection ho with ho; subst ho; exact LtC.call (m := 0) (args := fun _ => #[.slice oa c.no cb, .int .u64 (f 2), .bool false]) (by decide) rfl rfl rfl rfl (fun L hq e => hq ⟨4, .data⟩ (by simp) rfl) (fun L hq m1 j1 e1 _ => absurd e1 (by omega)) (fun L a w' hI hq hS => Lt.call3 rfl (hI.pure 1 _ _ rfl (hq ⟨1, .data⟩ (by simp) rfl)) (hI.pure 4 _ _ rfl (hq ⟨4, .data⟩ (by simp) rfl)) rfl rfl (by simp [go_sem])) (fun s w1 hS => (AL2.out w1 (HV1.out.trans (hS.low.mono HV1.out.size))).mono (by rintro e w2 ⟨⟨fa1, cf1, rfl, -⟩, hb⟩; exact ⟨_, rfl, hS.low.trans (hb.mono hS.low.size), fa1, cf1, by simp⟩))
      | 6, _ => injection ho with ho; subst ho; exact LtC.link (m := 1) (by decide) rfl rfl rfl rfl (fun L _ e => absurd e (by decide)) (fun L hq m1 j1 e1 hj => by (cases (show m1 = 0 from (by omega))); cases hj; exact hq ⟨5, .data⟩ (by simp) rfl) (fun L a w' Kq hI hq hS hk => Lt.wp_value (Lt.ex_move rfl rfl) (hk _ _ (by obtain ⟨h1, fa1, cf1, h2⟩ := hS; exact ⟨h1, fa1, cf1, by simpa using h2⟩)))
      | 7, _ => injection ho with ho; subst ho; exact LtC.side rfl rfl rfl rfl rfl (fun n s w' v hS => hS.other (by decide) (by decide) (by decide) (by decide)) (fun L a w' hI hL hq => by obtain ⟨n1, hn, hS⟩ := hI.world.past (m := 1) rfl (hq ⟨6, .data⟩ (by simp) rfl); obtain ⟨fa1, cf1, h2⟩ := hS.tup hn; exact ⟨_, Lt.ex_extract rfl h2 rfl⟩)
      | 8, _ => injection ho with ho; subst ho; exact LtC.link (m := 2) (by decide) rfl rfl rfl rfl (fun L _ e => absurd e (by decide)) (fun L hq m1 j1 e1 hj => by (cases (show m1 = 1 from (by omega))); cases hj; exact hq ⟨6, .data⟩ (by simp) rfl) (fun L a w' Kq hI hq hS hk => by obtain ⟨h1, fa1, cf1, h2⟩ := hS; exact Lt.wp_value (Lt.ex_extract rfl h2 rfl) (hk _ _ ⟨h1, ⟨fa1, cf1, by simpa using h2⟩, by simp⟩))
      | 9, _ => injection ho with ho; subst ho; exact LtC.side rfl rfl rfl rfl rfl (fun n s w' v hS => hS.other (by decide) (by decide) (by decide) (by decide)) (fun L a w' hI hL hq => ⟨_, Lt.ex_assign rfl rfl⟩)
      | 10, _ => injection ho with ho; subst ho; exact LtC.link (m := 3) (by decide) rfl rfl rfl rfl (fun L _ e => absurd e (by decide)) (fun L hq m1 j1 e1 hj => by (cases (show m1 = 2 from (by omega))); cases hj; exact hq ⟨8, .data⟩ (by simp) rfl) (fun L a w' Kq hI hq hS hk => by obtain ⟨h1, ⟨fa1, cf1, h2⟩, h3⟩ := hS; exact Lt.wp_value (Lt.ex_assign rfl h3) (hk _ _ ⟨h1, ⟨fa1, cf1, by simpa using h2⟩, by simp⟩))
    case Bfi =>
      intro L a' V2 hI hall
      obtain ⟨hb2, -, e8⟩ := hI.world.done (fun i hi => hall i (by simp at hi ⊢; omega))
      have hfr := LtH.frame hI [7, 8, 24, 25, 26, 27, 28, 29, 30, 31, 32] rfl rfl (fun x hx => by simp at hx ⊢; omega)
      obtain ⟨t7, e7⟩ : ∃ t, a'.eval (.tmp 7) = t := ⟨_, rfl⟩
      obtain ⟨t24, e24⟩ : ∃ t, a'.eval (.tmp 24) = t := ⟨_, rfl⟩
      obtain ⟨t25, e25⟩ : ∃ t, a'.eval (.tmp 25) = t := ⟨_, rfl⟩
      obtain ⟨t26, e26⟩ : ∃ t, a'.eval (.tmp 26) = t := ⟨_, rfl⟩
      obtain ⟨t27, e27⟩ : ∃ t, a'.eval (.tmp 27) = t := ⟨_, rfl⟩
      obtain ⟨t28, e28⟩ : ∃ t, a'.eval (.tmp 28) = t := ⟨_, rfl⟩
      obtain ⟨t29, e29⟩ : ∃ t, a'.eval (.tmp 29) = t := ⟨_, rfl⟩
      obtain ⟨t30, e30⟩ : ∃ t, a'.eval (.tmp 30) = t := ⟨_, rfl⟩
      obtain ⟨t31, e31⟩ : ∃ t, a'.eval (.tmp 31) = t := ⟨_, rfl⟩
      obtain ⟨t32, e32⟩ : ∃ t, a'.eval (.tmp 32) = t := ⟨_, rfl⟩
      simp only at e8
      rw [hfr]
      simp only [LtH.lay, List.foldl, e7, e8, e24, e25, e26, e27, e28, e29, e30, e31, e32]
      have HV2 := hide (HV1.out.trans (hb2.mono HV1.out.size))
      have HX2 := hide (HX1.out.trans (hb2.mono HX1.out.size))
      clear hfr hI hall hb2 e7 e8 e24 e25 e26 e27 e28 e29 e30 e31 e32
      simp only [Act.put, List.setIfInBounds_toArray, List.set_cons_succ, List.set_cons_zero]
      go_upto_region 3 with (fail)
      refine LtH.region2 (ks := [(0, 34), (1, 35), (2, 36), (3, 37), (4, 38)]) (vals := fun iv => match iv with | 0 => .pointer (some ⟨w.heap.size, 6, none⟩) | 1 => .slice oa c.no cb | 2 => .slice (some ⟨b, off, none⟩) z cap | 3 => .pointer (some ⟨b, off + 3, none⟩) | 4 => .int .u64 (f 3) | _ => undef) (xs := [39, 33, 41, 10, 40, 9]) (WI := LtC.WI [5, 6, 8, 10] 5 4 (AlS V2 39 33 41 10 R3)) (by kernel_rfl) ?Cgd ?Cbk rfl ?Cdd ?Cxx ?Clc ?Cst ?Cdo ?Cfi
      case Cgd =>
        intro iq oq ho
        have hiq : iq < 11 := by have := (Array.getElem?_eq_some_iff.1 ho).1; simpa using this
        match iq, hiq with
        | 0, _ | 1, _ | 2, _ | 3, _ | 4, _ | 5, _ | 6, _ | 7, _ | 8, _ | 9, _ | 10, _ => injection ho with ho; subst ho; rfl
      case Cbk =>
        intro iq oq ho
        have hiq : iq < 11 := by have := (Array.getElem?_eq_some_iff.1 ho).1; simpa using this
        match iq, hiq with
        | 0, _ | 1, _ | 2, _ | 3, _ | 4, _ | 5, _ | 6, _ | 7, _ | 8, _ | 9, _ | 10, _ => injection ho with ho; subst ho; simp [Region.binds]
      case Cdd =>
        intro kq hk
        have hk2 : kq < 153 := by
          simp [Lt.D] at hk
          omega
        exact hk2
      case Cxx =>
        intro kq hk
        have hk2 : kq < 153 := by
          simp at hk
          omega
        exact hk2
      case Clc =>
        rintro L s1 s2 w1 hx ⟨⟨n1, h1, h2, h3⟩, h4⟩
        exact ⟨⟨n1, h1, h2, AlS.local (hx 39 rfl) (hx 33 rfl) (hx 41 rfl) (hx 10 rfl) h3⟩, h4⟩
      case Cst => exact LtC.WI.start ⟨rfl, rfl, rfl, Nat.le_refl _, fun _ _ => rfl⟩
      case Cdo =>
        intro iq oq ho
        have hiq : iq < 11 := by have := (Array.getElem?_eq_some_iff.1 ho).1; simpa using this
        match iq, hiq with
        | 0, _ => injection ho with ho; subst ho; exact LtC.read rfl rfl rfl (fun L a w' hI hL hq => Lt.ex_field rfl (hI.fix 2 (Lt.notD rfl) rfl) (by simp [go_sem]))
        | 1, _ => injection ho with ho; subst ho; exact LtC.read rfl rfl rfl (fun L a w' hI hL hq => Lt.ex_load rfl (hI.pure 0 _ _ rfl (hq ⟨0, .data⟩ (by simp) rfl)) (by simp [go_sem]) (by obtain ⟨n1, hn1⟩ := hI.world.any; exact (row_on RX.out (HX2.out.trans (hn1.low.mono HX2.out.size))).cell (i := 6) (by decide)))
        | 2, _ => injection ho with ho; subst ho; exact LtC.read rfl rfl rfl (fun L a w' hI hL hq => Lt.ex_move rfl (hI.fix 1 (Lt.notD rfl) rfl))
        | 3, _ => injection ho with ho; subst ho; exact LtC.read rfl rfl rfl (fun L a w' hI hL hq => ex_idxN (k := 3) rfl (hI.pure 2 _ _ rfl (hq ⟨2, .data⟩ (by simp) rfl)) rfl (by omega))
        | 4, _ => injection ho with ho; subst ho; exact LtC.read rfl rfl rfl (fun L a w' hI hL hq => Lt.ex_load rfl (hI.pure 3 _ _ rfl (hq ⟨3, .data⟩ (by simp) rfl)) (by simp [go_sem]) (by obtain ⟨n1, hn1⟩ := hI.world.any; exact HCE.out _ (HV2.out.trans (hn1.low.mono HV2.out.size)) 3 (by omega)))
        | 5, _ => injection ho with ho; subst ho; exact LtC.call (m := 0) (args := fun _ => #[.slice oa c.no cb, .int .u64 (f 3), .bool true]) (by decide) rfl rfl rfl rfl (fun L hq e => hq ⟨4, .data⟩ (by simp) rfl) (fun L hq m1 j1 e1 _ => absurd e1 (by omega)) (fun L a w' hI hq hS => Lt.call3 rfl (hI.pure 1 _ _ rfl (hq ⟨1, .data⟩ (by simp) rfl)) (hI.pure 4 _ _ rfl (hq ⟨4, .data⟩ (by simp) rfl)) rfl rfl (by simp [go_sem])) (fun s w1 hS => (AL3.out w1 (HV2.out.trans (hS.low.mono HV2.out.size))).mono (by rintro e w2 ⟨⟨fa1, cf1, rfl, -⟩, hb⟩; exact ⟨_, rfl, hS.low.trans (hb.mono hS.low.size), fa1, cf1, by simp⟩))
        | 6, _ => injection ho with ho; subst ho; exact LtC.link (m := 1) (by decide) rfl rfl rfl rfl (fun L _ e => absurd e (by decide)) (fun L hq m1 j1 e1 hj => by (cases (show m1 = 0 from (by omega))); cases hj; exact hq ⟨5, .data⟩ (by simp) rfl) (fun L a w' Kq hI hq hS hk => Lt.wp_value (Lt.ex_move rfl rfl) (hk _ _ (by obtain ⟨h1, fa1, cf1, h2⟩ := hS; exact ⟨h1, fa1, cf1, by simpa using h2⟩)))
        | 7, _ => injection ho with ho; subst ho; exact LtC.side rfl rfl rfl rfl rfl (fun n s w' v hS => hS.other (by decide) (by decide) (by decide) (by decide)) (fun L a w' hI hL hq => by obtain ⟨n1, hn, hS⟩ := hI.world.past (m := 1) rfl (hq ⟨6, .data⟩ (by simp) rfl); obtain ⟨fa1, cf1, h2⟩ := hS.tup hn; exact ⟨_, Lt.ex_extract rfl h2 rfl⟩)
        | 8, _ => injection ho with ho; subst ho; exact LtC.link (m := 2) (by decide) rfl rfl rfl rfl (fun L _ e => absurd e (by decide)) (fun L hq m1 j1 e1 hj => by (cases (show m1 = 1 from (by omega))); cases hj; exact hq ⟨6, .data⟩ (by simp) rfl) (fun L a w' Kq hI hq hS hk => by obtain ⟨h1, fa1, cf1, h2⟩ := hS; exact Lt.wp_value (Lt.ex_extract rfl h2 rfl) (hk _ _ ⟨h1, ⟨fa1, cf1, by simpa using h2⟩, by simp⟩))
        | 9, _ => injection ho with ho; subst ho; exact LtC.side rfl rfl rfl rfl rfl (fun n s w' v hS => hS.other (by decide) (by decide) (by decide) (by decide)) (fun L a w' hI hL hq => ⟨_, Lt.ex_assign rfl rfl⟩)
        | 10, _ => injection ho with ho; subst ho; exact LtC.link (m := 3) (by decide) rfl rfl rfl rfl (fun L _ e => absurd e (by decide)) (fun L hq m1 j1 e1 hj => by (cases (show m1 = 2 from (by omega))); cases hj; exact hq ⟨8, .data⟩ (by simp) rfl) (fun L a w' Kq hI hq hS hk => by obtain ⟨h1, ⟨fa1, cf1, h2⟩, h3⟩ := hS; exact Lt.wp_value (Lt.ex_assign rfl h3) (hk _ _ ⟨h1, ⟨fa1, cf1, by simpa using h2⟩, by simp⟩))
      case Cfi =>
        intro L a' V3 hI hall
        obtain ⟨hb3, -, e10⟩ := hI.world.done (fun i hi => hall i (by simp at hi ⊢; omega))
        have hfr := LtH.frame hI [9, 10, 33, 34, 35, 36, 37, 38, 39, 40, 41] rfl rfl (fun x hx => by simp at hx ⊢; omega)
        obtain ⟨t9, e9⟩ : ∃ t, a'.eval (.tmp 9) = t := ⟨_, rfl⟩
        obtain ⟨t33, e33⟩ : ∃ t, a'.eval (.tmp 33) = t := ⟨_, rfl⟩
        obtain ⟨t34, e34⟩ : ∃ t, a'.eval (.tmp 34) = t := ⟨_, rfl⟩
        obtain ⟨t35, e35⟩ : ∃ t, a'.eval (.tmp 35) = t := ⟨_, rfl⟩
        obtain ⟨t36, e36⟩ : ∃ t, a'.eval (.tmp 36) = t := ⟨_, rfl⟩
        obtain ⟨t37, e37⟩ : ∃ t, a'.eval (.tmp 37) = t := ⟨_, rfl⟩
        obtain ⟨t38, e38⟩ : ∃ t, a'.eval (.tmp 38) = t := ⟨_, rfl⟩
        obtain ⟨t39, e39⟩ : ∃ t, a'.eval (.tmp 39) = t := ⟨_, rfl⟩
        obtain ⟨t40, e40⟩ : ∃ t, a'.eval (.tmp 40) = t := ⟨_, rfl⟩
        obtain ⟨t41, e41⟩ : ∃ t, a'.eval (.tmp 41) = t := ⟨_, rfl⟩
        simp only at e10
        rw [hfr]
        simp only [LtH.lay, List.foldl, e9, e10, e33, e34, e35, e36, e37, e38, e39, e40, e41]
        have HV3 := hide (HV2.out.trans (hb3.mono HV2.out.size))
        have HX3 := hide (HX2.out.trans (hb3.mono HX2.out.size))
        clear hfr hI hall hb3 e9 e10 e33 e34 e35 e36 e37 e38 e39 e40 e41
        simp only [Act.put, List.setIfInBounds_toArray, List.set_cons_succ, List.set_cons_zero]
        have x0 : V3.cell? ⟨w.heap.size, 0, none⟩ = some (.int .i64 c.ph) := (row_on RX.out HX3.out).cell (i := 0) (by decide)
        have x8 : V3.cell? ⟨w.heap.size, 8, none⟩ = some (.slice ga c.gr.length cg) := (row_on RX.out HX3.out).cell (i := 8) (by decide)
        cases d1 : (c.ph != 0)
        rotate_left
        · have NO := hide (show ¬ (c.ph = 0) by simpa using d1)
          go_wp2_with fail
          go_ret
          exact ⟨Tells.no (fun h => NO.out h.1), HV3.out⟩
        cases d2 : (R1.2 != 0)
        rotate_left
        · have NO := hide (show ¬ (R1.2 = 0) by simpa using d2)
          go_wp2_with fail
          go_ret
          exact ⟨Tells.no (fun h => NO.out h.2.1), HV3.out⟩
        cases d3 : (R2.2 != 0)
        rotate_left
        · have NO := hide (show ¬ (R2.2 = 0) by simpa using d3)
          go_wp2_with fail
          go_ret
          exact ⟨Tells.no (fun h => NO.out h.2.2.1), HV3.out⟩
        cases d4 : (R3.2 != 0)
        rotate_left
        · have NO := hide (show ¬ (R3.2 = 0) by simpa using d4)
          go_wp2_with fail
          go_ret
          exact ⟨Tells.no (fun h => NO.out h.2.2.2.1), HV3.out⟩
        cases d5 : ((c.gr.length : Int) != 0)
        rotate_left
        · have NO := hide (show ¬ (c.gr = []) from fun h => by rw [h] at d5; simp at d5)
          go_wp2_with fail
          go_ret
          exact ⟨Tells.no (fun h => NO.out h.2.2.2.2.1), HV3.out⟩
        have Y1 := hide (show c.ph = 0 by simpa using d1)
        have Y2 := hide (show R1.2 = 0 by simpa using d2)
        have Y3 := hide (show R2.2 = 0 by simpa using d3)
        have Y4 := hide (show R3.2 = 0 by simpa using d4)
        have Y5 := hide (show c.gr = [] by simp at d5; exact d5)
        go_wp2_with fail
        go_loopw [11] (fun i wr => ∃ k : Nat, k ≤ c.no ∧ i = .int .i64 ((k : Int) + 1) ∧ Hid (∀ j, j < k → Pk c j) ∧ Hid (Below V0.heap.size V0 wr)) (fun i _ => c.no + 1 - (intOf i).toNat)
        case atStart => exact ⟨0, Nat.zero_le _, rfl, fun q hq => absurd hq (by omega), HX3.out⟩
        case round =>
          obtain ⟨k, hk, rfl, HK, HXr⟩ := hrel
          have HVr := hide (HV0.out.trans (HXr.out.mono HV0.out.size))
          clear x0 x8
          have x6 : wr.cell? ⟨w.heap.size, 6, none⟩ = some (.slice oa c.no cb) := (row_on RX.out HXr.out).cell (i := 6) (by decide)
          by_cases hlt : k < c.no
          · have hkn : (k : Int) < (c.no : Int) := by omega
            have hkl : (k : Int) + 1 ≤ (c.no : Int) := by omega
            obtain ⟨b', off', ai, ci, hoa, hbl, hoc, hse⟩ := (HS.out.below HVr.out).ob k hlt
            simp only at hoa
            subst hoa
            cases hobx : c.ob k with
            | mk us li fi ta ag ge lk nx ns sl =>
            have hns := HC.out.ns k hlt
            have hsl := HC.out.sl k hlt
            have HOB := hide hobx
            simp only [hobx] at hoc hse hns hsl
            simp only [Ob.cell] at hoc
            have o0 : wr.cell? ⟨b', off' + k * 9, none⟩ = some (.bool us) := by simpa using hoc 0 (by decide)
            have o1 : wr.cell? ⟨b', off' + k * 9 + 1, none⟩ = some (.bool li) := by simpa using hoc 1 (by decide)
            have o2 : wr.cell? ⟨b', off' + k * 9 + 2, none⟩ = some (.bool fi) := by simpa using hoc 2 (by decide)
            have o3 : wr.cell? ⟨b', off' + k * 9 + 3, none⟩ = some (.bool ta) := by simpa using hoc 3 (by decide)
            have o4 : wr.cell? ⟨b', off' + k * 9 + 4, none⟩ = some (.int .i64 ag) := by simpa using hoc 4 (by decide)
            have o5 : wr.cell? ⟨b', off' + k * 9 + 5, none⟩ = some (.int .u64 ge) := by simpa using hoc 5 (by decide)
            have o6 : wr.cell? ⟨b', off' + k * 9 + 6, none⟩ = some (.int .u64 lk) := by simpa using hoc 6 (by decide)
            have o7 : wr.cell? ⟨b', off' + k * 9 + 7, none⟩ = some (.int .u64 nx) := by simpa using hoc 7 (by decide)
            have o8 : wr.cell? ⟨b', off' + k * 9 + 8, none⟩ = some (.slice ai ns ci) := by simpa using hoc 8 (by decide)
            have HSE := hide hse
            have HSL := hide hsl
            clear hobx hoc hse hsl
            go_upto_region 10 with (fail)
            obtain ⟨W4, hW4, B4, R4⟩ := obox wr us li fi ta ag ge lk nx ai ns ci
            have HX4 := hide (HXr.out.trans (B4.mono HXr.out.size))
            have HV4 := hide (HV0.out.trans (HX4.out.mono HV0.out.size))
            have p0 : W4.cell? ⟨wr.heap.size, 0, none⟩ = some (.bool us) := R4.cell (i := 0) (by decide)
            have p1 : W4.cell? ⟨wr.heap.size, 1, none⟩ = some (.bool li) := R4.cell (i := 1) (by decide)
            have p2 : W4.cell? ⟨wr.heap.size, 2, none⟩ = some (.bool fi) := R4.cell (i := 2) (by decide)
            have p3 : W4.cell? ⟨wr.heap.size, 3, none⟩ = some (.bool ta) := R4.cell (i := 3) (by decide)
            have p4 : W4.cell? ⟨wr.heap.size, 4, none⟩ = some (.int .i64 ag) := R4.cell (i := 4) (by decide)
            have p5 : W4.cell? ⟨wr.heap.size, 5, none⟩ = some (.int .u64 ge) := R4.cell (i := 5) (by decide)
            have p6 : W4.cell? ⟨wr.heap.size, 6, none⟩ = some (.int .u64 lk) := R4.cell (i := 6) (by decide)
            have p7 : W4.cell? ⟨wr.heap.size, 7, none⟩ = some (.int .u64 nx) := R4.cell (i := 7) (by decide)
            have p8 : W4.cell? ⟨wr.heap.size, 8, none⟩ = some (.slice ai ns ci) := R4.cell (i := 8) (by decide)
            have c0 : W4.cell? ⟨w.heap.size, 0, none⟩ = some (.int .i64 c.ph) := (row_on RX.out HX4.out).cell (i := 0) (by decide)
            have c1 : W4.cell? ⟨w.heap.size, 1, none⟩ = some (.int .i64 c.co) := (row_on RX.out HX4.out).cell (i := 1) (by decide)
            have c2 : W4.cell? ⟨w.heap.size, 2, none⟩ = some (.int .u64 c.ro) := (row_on RX.out HX4.out).cell (i := 2) (by decide)
            have c3 : W4.cell? ⟨w.heap.size, 3, none⟩ = some (.slice aa c.na ca) := (row_on RX.out HX4.out).cell (i := 3) (by decide)
            have c4 : W4.cell? ⟨w.heap.size, 4, none⟩ = some (.slice ra c.nr cr) := (row_on RX.out HX4.out).cell (i := 4) (by decide)
            have c5 : W4.cell? ⟨w.heap.size, 5, none⟩ = some (.slice wa c.nw cw) := (row_on RX.out HX4.out).cell (i := 5) (by decide)
            have c6 : W4.cell? ⟨w.heap.size, 6, none⟩ = some (.slice (some ⟨b', off', none⟩) c.no cb) := (row_on RX.out HX4.out).cell (i := 6) (by decide)
            have c7 : W4.cell? ⟨w.heap.size, 7, none⟩ = some (.slice fa c.fr.length cf) := (row_on RX.out HX4.out).cell (i := 7) (by decide)
            have c8 : W4.cell? ⟨w.heap.size, 8, none⟩ = some (.slice ga c.gr.length cg) := (row_on RX.out HX4.out).cell (i := 8) (by decide)
            have c9 : W4.cell? ⟨w.heap.size, 9, none⟩ = some (.slice qa c.qu.length cq) := (row_on RX.out HX4.out).cell (i := 9) (by decide)
            have c10 : W4.cell? ⟨w.heap.size, 10, none⟩ = some (.int .u64 (c.cn 0)) := (row_on RX.out HX4.out).cell (i := 10) (by decide)
            have c11 : W4.cell? ⟨w.heap.size, 11, none⟩ = some (.int .u64 (c.cn 1)) := (row_on RX.out HX4.out).cell (i := 11) (by decide)
            have c12 : W4.cell? ⟨w.heap.size, 12, none⟩ = some (.int .u64 (c.cn 2)) := (row_on RX.out HX4.out).cell (i := 12) (by decide)
            have c13 : W4.cell? ⟨w.heap.size, 13, none⟩ = some (.int .u64 (c.cn 3)) := (row_on RX.out HX4.out).cell (i := 13) (by decide)
            have SE4 := hide (sees_on HSE.out B4)
            have CO := hide (inside_ok (w := W4) (cap := cf) (c := (k : Int) + 1) (HS.out.below HV4.out).fr rfl HC.out.fr)
            have CQ := hide (inside_ok (w := W4) (cap := cq) (c := (k : Int) + 1) (HS.out.below HV4.out).qu rfl HC.out.qu)
            obtain ⟨q, hq⟩ : ∃ q, decide (((k : Int) + 1) ∈ c.fr) = q := ⟨_, rfl⟩
            obtain ⟨qq, hqq⟩ : ∃ q, decide (((k : Int) + 1) ∈ c.qu) = q := ⟨_, rfl⟩
            rw [hq] at CO
            rw [hqq] at CQ
            have HQ := hide hq
            have HQQ := hide hqq
            simp only [hW4]
            have hl4 : wr.heap.size < W4.heap.size := R4.lt
            clear hW4 o0 o1 o2 o3 o4 o5 o6 o7 o8 hq hqq R4 B4 x6
            go_upto_region 11 with (go_at_call 49; refine CO.out.mono ?_; rintro e w1 ⟨rfl, hq⟩; obtain rfl := hq.symm; clear hq)
            cases us
            · by_cases hcl : ∀ i, i < ns → sl i = 0
              · have CL := hide (clean_yes (cap := ci) SE4.out hns hcl)
                have HCL := hide hcl
                clear hcl
                cases q
                · cases dge : (ge != 4294967295)
                  · have HGE := hide (show ge = 4294967295 by simpa using dge)
                    cases qq
                    · go_wp2_with (first | (go_at_call 64; refine CL.out.mono ?_; rintro e w1 ⟨rfl, hq⟩; obtain rfl := hq.symm; clear hq) | (go_at_call 49; refine CQ.out.mono ?_; rintro e w1 ⟨rfl, hq⟩; obtain rfl := hq.symm; clear hq) | (go_at_call 65; refine RR.out.mono ?_; rintro e w5 ⟨rfl, hb5⟩; have HB5 := hide hb5; clear hb5))
                      go_roundw
                      case rel => exact ⟨k + 1, by omega, by go_num, fun j hj => by (by_cases e : j < k); exact HK.out j e; (cases (show j = k by omega)); exact (pk_iff HOB.out).2 (⟨⟨by simp, fun _ => ⟨.inr HGE.out, HCL.out⟩⟩, fun h => absurd h (by have := HQQ.out; simpa using this), by simp⟩), HX4.out⟩
                      case measure => simp [intOf]; omega
                    · skip
                      go_wp2_with (first | (go_at_call 64; refine CL.out.mono ?_; rintro e w1 ⟨rfl, hq⟩; obtain rfl := hq.symm; clear hq) | (go_at_call 49; refine CQ.out.mono ?_; rintro e w1 ⟨rfl, hq⟩; obtain rfl := hq.symm; clear hq) | (go_at_call 65; refine RR.out.mono ?_; rintro e w5 ⟨rfl, hb5⟩; have HB5 := hide hb5; clear hb5))
                      go_ret
                      exact ⟨Tells.no (fun h => absurd ((pk_iff HOB.out).1 (h.2.2.2.2.2.1 k hlt)) (fun h => absurd (h.2.1 (by have := HQQ.out; simpa using this)).1 (by simp))), HV4.out⟩
                  · have HGE := hide (show ¬ ge = 4294967295 by simpa using dge)
                    go_wp2_with (first | (go_at_call 64; refine CL.out.mono ?_; rintro e w1 ⟨rfl, hq⟩; obtain rfl := hq.symm; clear hq) | (go_at_call 49; refine CQ.out.mono ?_; rintro e w1 ⟨rfl, hq⟩; obtain rfl := hq.symm; clear hq) | (go_at_call 65; refine RR.out.mono ?_; rintro e w5 ⟨rfl, hb5⟩; have HB5 := hide hb5; clear hb5))
                    go_ret
                    exact ⟨Tells.no (fun h => absurd ((pk_iff HOB.out).1 (h.2.2.2.2.2.1 k hlt)) (fun h => (h.1.2 rfl).1.elim (by have := HQ.out; simpa using this) HGE.out)), HV4.out⟩
                · cases qq
                  · go_wp2_with (first | (go_at_call 64; refine CL.out.mono ?_; rintro e w1 ⟨rfl, hq⟩; obtain rfl := hq.symm; clear hq) | (go_at_call 49; refine CQ.out.mono ?_; rintro e w1 ⟨rfl, hq⟩; obtain rfl := hq.symm; clear hq) | (go_at_call 65; refine RR.out.mono ?_; rintro e w5 ⟨rfl, hb5⟩; have HB5 := hide hb5; clear hb5))
                    go_roundw
                    case rel => exact ⟨k + 1, by omega, by go_num, fun j hj => by (by_cases e : j < k); exact HK.out j e; (cases (show j = k by omega)); exact (pk_iff HOB.out).2 (⟨⟨by simp, fun _ => ⟨.inl (by have := HQ.out; simpa using this), HCL.out⟩⟩, fun h => absurd h (by have := HQQ.out; simpa using this), by simp⟩), HX4.out⟩
                    case measure => simp [intOf]; omega
                  · skip
                    go_wp2_with (first | (go_at_call 64; refine CL.out.mono ?_; rintro e w1 ⟨rfl, hq⟩; obtain rfl := hq.symm; clear hq) | (go_at_call 49; refine CQ.out.mono ?_; rintro e w1 ⟨rfl, hq⟩; obtain rfl := hq.symm; clear hq) | (go_at_call 65; refine RR.out.mono ?_; rintro e w5 ⟨rfl, hb5⟩; have HB5 := hide hb5; clear hb5))
                    go_ret
                    exact ⟨Tells.no (fun h => absurd ((pk_iff HOB.out).1 (h.2.2.2.2.2.1 k hlt)) (fun h => absurd (h.2.1 (by have := HQQ.out; simpa using this)).1 (by simp))), HV4.out⟩
              · have CL := hide (clean_no (cap := ci) SE4.out hns hcl)
                have HCL := hide hcl
                clear hcl
                cases q
                · cases dge : (ge != 4294967295)
                  · go_wp2_with (first | (go_at_call 64; refine CL.out.mono ?_; rintro e w1 ⟨rfl, hq⟩; obtain rfl := hq.symm; clear hq) | (go_at_call 49; refine CQ.out.mono ?_; rintro e w1 ⟨rfl, hq⟩; obtain rfl := hq.symm; clear hq) | (go_at_call 65; refine RR.out.mono ?_; rintro e w5 ⟨rfl, hb5⟩; have HB5 := hide hb5; clear hb5))
                    go_ret
                    exact ⟨Tells.no (fun h => absurd ((pk_iff HOB.out).1 (h.2.2.2.2.2.1 k hlt)) (fun h => HCL.out (h.1.2 rfl).2)), HV4.out⟩
                  · skip
                    go_wp2_with (first | (go_at_call 64; refine CL.out.mono ?_; rintro e w1 ⟨rfl, hq⟩; obtain rfl := hq.symm; clear hq) | (go_at_call 49; refine CQ.out.mono ?_; rintro e w1 ⟨rfl, hq⟩; obtain rfl := hq.symm; clear hq) | (go_at_call 65; refine RR.out.mono ?_; rintro e w5 ⟨rfl, hb5⟩; have HB5 := hide hb5; clear hb5))
                    go_ret
                    exact ⟨Tells.no (fun h => absurd ((pk_iff HOB.out).1 (h.2.2.2.2.2.1 k hlt)) (fun h => HCL.out (h.1.2 rfl).2)), HV4.out⟩
                · skip
                  go_wp2_with (first | (go_at_call 64; refine CL.out.mono ?_; rintro e w1 ⟨rfl, hq⟩; obtain rfl := hq.symm; clear hq) | (go_at_call 49; refine CQ.out.mono ?_; rintro e w1 ⟨rfl, hq⟩; obtain rfl := hq.symm; clear hq) | (go_at_call 65; refine RR.out.mono ?_; rintro e w5 ⟨rfl, hb5⟩; have HB5 := hide hb5; clear hb5))
                  go_ret
                  exact ⟨Tells.no (fun h => absurd ((pk_iff HOB.out).1 (h.2.2.2.2.2.1 k hlt)) (fun h => HCL.out (h.1.2 rfl).2)), HV4.out⟩
            · cases q
              · cases li
                · go_wp2_with (first | (go_at_call 64; refine CL.out.mono ?_; rintro e w1 ⟨rfl, hq⟩; obtain rfl := hq.symm; clear hq) | (go_at_call 49; refine CQ.out.mono ?_; rintro e w1 ⟨rfl, hq⟩; obtain rfl := hq.symm; clear hq) | (go_at_call 65; refine RR.out.mono ?_; rintro e w5 ⟨rfl, hb5⟩; have HB5 := hide hb5; clear hb5))
                  go_ret
                  exact ⟨Tells.no (fun h => absurd ((pk_iff HOB.out).1 (h.2.2.2.2.2.1 k hlt)) (fun h => absurd (h.1.1 rfl).1 (by simp))), HV4.out⟩
                · by_cases hri : ∀ i, i < ns → hOk c (sl i)
                  · have RR := hide (call_yes (RI.out W4 HV4.out ai ns ci sl SE4.out hns HSL.out) hri)
                    have HRI := hide hri
                    clear hri
                    cases qq
                    · go_wp2_with (first | (go_at_call 64; refine CL.out.mono ?_; rintro e w1 ⟨rfl, hq⟩; obtain rfl := hq.symm; clear hq) | (go_at_call 49; refine CQ.out.mono ?_; rintro e w1 ⟨rfl, hq⟩; obtain rfl := hq.symm; clear hq) | (go_at_call 65; refine RR.out.mono ?_; rintro e w5 ⟨rfl, hb5⟩; have HB5 := hide hb5; clear hb5))
                      go_roundw
                      case rel => exact ⟨k + 1, by omega, by go_num, fun j hj => by (by_cases e : j < k); exact HK.out j e; (cases (show j = k by omega)); exact (pk_iff HOB.out).2 (⟨⟨fun _ => ⟨rfl, by have := HQ.out; simpa using this⟩, by simp⟩, fun h => absurd h (by have := HQQ.out; simpa using this), fun _ => HRI.out⟩), HX4.out.trans (HB5.out.mono HX4.out.size)⟩
                      case measure => simp [intOf]; omega
                    · cases fi
                      · go_wp2_with (first | (go_at_call 64; refine CL.out.mono ?_; rintro e w1 ⟨rfl, hq⟩; obtain rfl := hq.symm; clear hq) | (go_at_call 49; refine CQ.out.mono ?_; rintro e w1 ⟨rfl, hq⟩; obtain rfl := hq.symm; clear hq) | (go_at_call 65; refine RR.out.mono ?_; rintro e w5 ⟨rfl, hb5⟩; have HB5 := hide hb5; clear hb5))
                        go_ret
                        exact ⟨Tells.no (fun h => absurd ((pk_iff HOB.out).1 (h.2.2.2.2.2.1 k hlt)) (fun h => absurd (h.2.1 (by have := HQQ.out; simpa using this)).2.1 (by simp))), HV4.out⟩
                      · cases ta
                        · go_wp2_with (first | (go_at_call 64; refine CL.out.mono ?_; rintro e w1 ⟨rfl, hq⟩; obtain rfl := hq.symm; clear hq) | (go_at_call 49; refine CQ.out.mono ?_; rintro e w1 ⟨rfl, hq⟩; obtain rfl := hq.symm; clear hq) | (go_at_call 65; refine RR.out.mono ?_; rintro e w5 ⟨rfl, hb5⟩; have HB5 := hide hb5; clear hb5))
                          go_ret
                          exact ⟨Tells.no (fun h => absurd ((pk_iff HOB.out).1 (h.2.2.2.2.2.1 k hlt)) (fun h => absurd (h.2.1 (by have := HQQ.out; simpa using this)).2.2 (by simp))), HV4.out⟩
                        · skip
                          go_wp2_with (first | (go_at_call 64; refine CL.out.mono ?_; rintro e w1 ⟨rfl, hq⟩; obtain rfl := hq.symm; clear hq) | (go_at_call 49; refine CQ.out.mono ?_; rintro e w1 ⟨rfl, hq⟩; obtain rfl := hq.symm; clear hq) | (go_at_call 65; refine RR.out.mono ?_; rintro e w5 ⟨rfl, hb5⟩; have HB5 := hide hb5; clear hb5))
                          go_roundw
                          case rel => exact ⟨k + 1, by omega, by go_num, fun j hj => by (by_cases e : j < k); exact HK.out j e; (cases (show j = k by omega)); exact (pk_iff HOB.out).2 (⟨⟨fun _ => ⟨rfl, by have := HQ.out; simpa using this⟩, by simp⟩, fun _ => ⟨rfl, rfl, rfl⟩, fun _ => HRI.out⟩), HX4.out.trans (HB5.out.mono HX4.out.size)⟩
                          case measure => simp [intOf]; omega
                  · have RR := hide (call_no (RI.out W4 HV4.out ai ns ci sl SE4.out hns HSL.out) hri)
                    have HRI := hide hri
                    clear hri
                    cases qq
                    · go_wp2_with (first | (go_at_call 64; refine CL.out.mono ?_; rintro e w1 ⟨rfl, hq⟩; obtain rfl := hq.symm; clear hq) | (go_at_call 49; refine CQ.out.mono ?_; rintro e w1 ⟨rfl, hq⟩; obtain rfl := hq.symm; clear hq) | (go_at_call 65; refine RR.out.mono ?_; rintro e w5 ⟨rfl, hb5⟩; have HB5 := hide hb5; clear hb5))
                      go_ret
                      exact ⟨Tells.no (fun h => absurd ((pk_iff HOB.out).1 (h.2.2.2.2.2.1 k hlt)) (fun h => HRI.out (h.2.2 rfl))), HV4.out.trans (HB5.out.mono HV4.out.size)⟩
                    · cases fi
                      · go_wp2_with (first | (go_at_call 64; refine CL.out.mono ?_; rintro e w1 ⟨rfl, hq⟩; obtain rfl := hq.symm; clear hq) | (go_at_call 49; refine CQ.out.mono ?_; rintro e w1 ⟨rfl, hq⟩; obtain rfl := hq.symm; clear hq) | (go_at_call 65; refine RR.out.mono ?_; rintro e w5 ⟨rfl, hb5⟩; have HB5 := hide hb5; clear hb5))
                        go_ret
                        exact ⟨Tells.no (fun h => absurd ((pk_iff HOB.out).1 (h.2.2.2.2.2.1 k hlt)) (fun h => absurd (h.2.1 (by have := HQQ.out; simpa using this)).2.1 (by simp))), HV4.out⟩
                      · cases ta
                        · go_wp2_with (first | (go_at_call 64; refine CL.out.mono ?_; rintro e w1 ⟨rfl, hq⟩; obtain rfl := hq.symm; clear hq) | (go_at_call 49; refine CQ.out.mono ?_; rintro e w1 ⟨rfl, hq⟩; obtain rfl := hq.symm; clear hq) | (go_at_call 65; refine RR.out.mono ?_; rintro e w5 ⟨rfl, hb5⟩; have HB5 := hide hb5; clear hb5))
                          go_ret
                          exact ⟨Tells.no (fun h => absurd ((pk_iff HOB.out).1 (h.2.2.2.2.2.1 k hlt)) (fun h => absurd (h.2.1 (by have := HQQ.out; simpa using this)).2.2 (by simp))), HV4.out⟩
                        · skip
                          go_wp2_with (first | (go_at_call 64; refine CL.out.mono ?_; rintro e w1 ⟨rfl, hq⟩; obtain rfl := hq.symm; clear hq) | (go_at_call 49; refine CQ.out.mono ?_; rintro e w1 ⟨rfl, hq⟩; obtain rfl := hq.symm; clear hq) | (go_at_call 65; refine RR.out.mono ?_; rintro e w5 ⟨rfl, hb5⟩; have HB5 := hide hb5; clear hb5))
                          go_ret
                          exact ⟨Tells.no (fun h => absurd ((pk_iff HOB.out).1 (h.2.2.2.2.2.1 k hlt)) (fun h => HRI.out (h.2.2 rfl))), HV4.out.trans (HB5.out.mono HV4.out.size)⟩
              · skip
                go_wp2_with (first | (go_at_call 64; refine CL.out.mono ?_; rintro e w1 ⟨rfl, hq⟩; obtain rfl := hq.symm; clear hq) | (go_at_call 49; refine CQ.out.mono ?_; rintro e w1 ⟨rfl, hq⟩; obtain rfl := hq.symm; clear hq) | (go_at_call 65; refine RR.out.mono ?_; rintro e w5 ⟨rfl, hb5⟩; have HB5 := hide hb5; clear hb5))
                go_ret
                exact ⟨Tells.no (fun h => absurd ((pk_iff HOB.out).1 (h.2.2.2.2.2.1 k hlt)) (fun h => absurd (by have := HQ.out; simpa using this) (h.1.1 rfl).2)), HV4.out⟩
          · have hkl : ¬ (k : Int) + 1 ≤ (c.no : Int) := by omega
            have HPK := hide (show ∀ j, j < c.no → Pk c j from fun j hj => HK.out j (by omega))
            clear HK
            go_wp2_with fail
            go_loopw [14] (fun i wr => ∃ k : Nat, k ≤ c.nr ∧ i = .int .i64 k ∧ Hid (∀ j, j < k → ∀ i, i < c.rn j → hOk c (c.rt j i)) ∧ Hid (Below V0.heap.size V0 wr)) (fun i _ => c.nr - (intOf i).toNat)
            case atStart => exact ⟨0, Nat.zero_le _, rfl, fun q hq => absurd hq (by omega), HXr.out⟩
            case round =>
              clear hkl hk HXr HVr x6
              obtain ⟨k, hk, rfl, HK, HXr⟩ := hrel
              have HVr := hide (HV0.out.trans (HXr.out.mono HV0.out.size))
              have hnr := HC.out.nr
              by_cases hlt : k < c.nr
              · have hkn : (k : Int) < (c.nr : Int) := by omega
                obtain ⟨b2, off2, ai, ci, hra, hbl, hcc, hse⟩ := (HS.out.below HVr.out).rt k hlt
                simp only at hra
                subst hra
                have x4 : wr.cell? ⟨w.heap.size, 4, none⟩ = some (.slice (some ⟨b2, off2, none⟩) c.nr cr) := (row_on RX.out HXr.out).cell (i := 4) (by decide)
                have HSE := hide hse
                clear hse
                have RT := hide (fun (V : World) (hV : Below wr.heap.size wr V) => RI.out V (HV0.out.trans ((HXr.out.trans (hV.mono HXr.out.size)).mono HV0.out.size)) ai (c.rn k) ci (c.rt k) (sees_on HSE.out hV) (HC.out.rn k hlt) (HC.out.rt k hlt))
                by_cases hri : ∀ i, i < c.rn k → hOk c (c.rt k i)
                · have RR := hide (fun (V : World) (hV : Below wr.heap.size wr V) => call_yes (RT.out V hV) hri)
                  have HRI := hide hri
                  clear hri
                  go_upto_region 22 with (fail)
                  refine Lt.region (ks := [(0, 141), (1, 142), (2, 143), (3, 144), (4, 145), (5, 146), (6, 147), (7, 148)]) (vals := fun iv => match iv with
                      | 0 => .agg #[.int .i64 c.ph, .int .i64 c.co, .int .u64 c.ro, .slice aa c.na ca, .slice (some ⟨b2, off2, none⟩) c.nr cr, .slice wa c.nw cw, .slice oa c.no cb, .slice fa c.fr.length cf, .slice ga c.gr.length cg, .slice qa c.qu.length cq, .int .u64 (c.cn 0), .int .u64 (c.cn 1), .int .u64 (c.cn 2), .int .u64 (c.cn 3)]
                      | 1 => .pointer (some ⟨w.heap.size, 4, none⟩)
                      | 2 => .slice (some ⟨b2, off2, none⟩) c.nr cr
                      | 3 => .int .i64 (k : Int)
                      | 4 => .pointer (some ⟨b2, off2 + k, none⟩)
                      | 5 => .slice ai (c.rn k) ci
                      | 6 => .bool true
                      | 7 => .bool false
                      | _ => undef) (WI := fun w' => Below wr.heap.size wr w') (by kernel_rfl) ?bk rfl ?dd (⟨rfl, rfl, rfl, Nat.le_refl _, fun _ _ => rfl⟩) ?does ?fin
                  case bk =>
                    intro iq oq ho
                    have hiq : iq < 8 := by have := (Array.getElem?_eq_some_iff.1 ho).1; simpa using this
                    match iq, hiq with
                    | 0, _ | 1, _ | 2, _ | 3, _ | 4, _ | 5, _ | 6, _ | 7, _ => injection ho with ho; subst ho; simp [Region.binds]
                  case dd =>
                    intro k hk
                    have hk' : k < 153 := by
                      simp [Lt.D] at hk
                      omega
                    simpa using hk'
                  case does =>
                    intro iq oq ho
                    have hiq : iq < 8 := by have := (Array.getElem?_eq_some_iff.1 ho).1; simpa using this
                    match iq, hiq with
                    | 0, _ => injection ho with ho; subst ho; exact Lt.Does.read rfl (fun Lq aq w' hI hq => Lt.wn0 rfl) (fun Lq aq w' hI hq => Lt.ex_load_row rfl (hI.fix 2 (Lt.notD rfl)) (rngL (row_on RX.out (HXr.out.trans (hI.world.mono HXr.out.size))) rfl) (by kernel_rfl) (by kernel_rfl))
                    | 1, _ => injection ho with ho; subst ho; exact Lt.Does.read rfl (fun Lq aq w' hI hq => Lt.wn0 rfl) (fun Lq aq w' hI hq => Lt.ex_field rfl (hI.fix 2 (Lt.notD rfl)) (by simp [go_sem]))
                    | 2, _ => injection ho with ho; subst ho; exact Lt.Does.read rfl (fun Lq aq w' hI hq => Lt.wn0 rfl) (fun Lq aq w' hI hq => Lt.ex_load rfl (hI.pure 1 _ _ rfl (hq ⟨1, .data⟩ (by simp) rfl)) (by simp [go_sem]) ((row_on RX.out (HXr.out.trans (hI.world.mono HXr.out.size))).cell (i := 4) (by decide)))
                    | 3, _ => injection ho with ho; subst ho; exact Lt.Does.read rfl (fun Lq aq w' hI hq => Lt.wn0 rfl) (fun Lq aq w' hI hq => Lt.ex_move rfl (hI.fix 14 (Lt.notD rfl)))
                    | 4, _ => injection ho with ho; subst ho; exact Lt.Does.read rfl (fun Lq aq w' hI hq => Lt.wn0 rfl) (fun Lq aq w' hI hq => ex_idxR rfl (hI.pure 2 _ _ rfl (hq ⟨2, .data⟩ (by simp) rfl)) (hI.pure 3 _ _ rfl (hq ⟨3, .data⟩ (by simp) rfl)) hkn)
                    | 5, _ => injection ho with ho; subst ho; exact Lt.Does.read rfl (fun Lq aq w' hI hq => Lt.wn0 rfl) (fun Lq aq w' hI hq => Lt.ex_load rfl (hI.pure 4 _ _ rfl (hq ⟨4, .data⟩ (by simp) rfl)) (by simp [go_sem]) ((hI.world.cell (p := ⟨b2, off2 + k, none⟩) hbl).trans hcc))
                    | 6, _ => injection ho with ho; subst ho; exact Lt.Does.call rfl (fun Lq aq w' hI hq => Lt.wn0 rfl) (fun Lq aq w' hI hq => Lt.call2 rfl (hI.pure 0 _ _ rfl (hq ⟨0, .data⟩ (by simp) rfl)) (hI.pure 5 _ _ rfl (hq ⟨5, .data⟩ (by simp) rfl)) rfl (by simp [go_sem])) (fun w1 hw1 => (RR.out w1 hw1).mono (by rintro e w2 ⟨rfl, hb⟩; exact ⟨rfl, hw1.trans (hb.mono hw1.size)⟩))
                    | 7, _ => injection ho with ho; subst ho; exact Lt.Does.read rfl (fun Lq aq w' hI hq => Lt.wn0 rfl) (fun Lq aq w' hI hq => ex_not rfl (hI.pure 6 _ _ rfl (hq ⟨6, .data⟩ (by simp) rfl)))
                  case fin =>
                    intro Lq a' w' hI hall
                    have HF := hide hI.world
                    have hfr := lt_frame hI [141, 142, 143, 144, 145, 146, 147, 148] rfl (fun x hx => by simp at hx ⊢; omega)
                    have e141 : a'.eval (.tmp 141) = _ := hI.pure 0 _ _ rfl (hall 0 (by decide))
                    have e142 : a'.eval (.tmp 142) = _ := hI.pure 1 _ _ rfl (hall 1 (by decide))
                    have e143 : a'.eval (.tmp 143) = _ := hI.pure 2 _ _ rfl (hall 2 (by decide))
                    have e144 : a'.eval (.tmp 144) = _ := hI.pure 3 _ _ rfl (hall 3 (by decide))
                    have e145 : a'.eval (.tmp 145) = _ := hI.pure 4 _ _ rfl (hall 4 (by decide))
                    have e146 : a'.eval (.tmp 146) = _ := hI.pure 5 _ _ rfl (hall 5 (by decide))
                    have e147 : a'.eval (.tmp 147) = _ := hI.pure 6 _ _ rfl (hall 6 (by decide))
                    have e148 : a'.eval (.tmp 148) = _ := hI.pure 7 _ _ rfl (hall 7 (by decide))
                    rw [hfr]
                    simp only [LtH.lay, List.foldl, e141, e142, e143, e144, e145, e146, e147, e148]
                    clear hfr hI hall e141 e142 e143 e144 e145 e146 e147 e148
                    simp only [Act.put, List.setIfInBounds_toArray, List.set_cons_succ, List.set_cons_zero]
                    go_wp2_with fail
                    go_roundw
                    case rel => exact ⟨k + 1, by omega, by go_num, fun j hj => by (by_cases e : j < k); exact HK.out j e; (cases (show j = k by omega)); exact HRI.out, HXr.out.trans (HF.out.mono HXr.out.size)⟩
                    case measure => simp [intOf]; omega
                · have RR := hide (fun (V : World) (hV : Below wr.heap.size wr V) => call_no (RT.out V hV) hri)
                  have HRI := hide hri
                  clear hri
                  go_upto_region 22 with (fail)
                  refine Lt.region (ks := [(0, 141), (1, 142), (2, 143), (3, 144), (4, 145), (5, 146), (6, 147), (7, 148)]) (vals := fun iv => match iv with
                      | 0 => .agg #[.int .i64 c.ph, .int .i64 c.co, .int .u64 c.ro, .slice aa c.na ca, .slice (some ⟨b2, off2, none⟩) c.nr cr, .slice wa c.nw cw, .slice oa c.no cb, .slice fa c.fr.length cf, .slice ga c.gr.length cg, .slice qa c.qu.length cq, .int .u64 (c.cn 0), .int .u64 (c.cn 1), .int .u64 (c.cn 2), .int .u64 (c.cn 3)]
                      | 1 => .pointer (some ⟨w.heap.size, 4, none⟩)
                      | 2 => .slice (some ⟨b2, off2, none⟩) c.nr cr
                      | 3 => .int .i64 (k : Int)
                      | 4 => .pointer (some ⟨b2, off2 + k, none⟩)
                      | 5 => .slice ai (c.rn k) ci
                      | 6 => .bool false
                      | 7 => .bool true
                      | _ => undef) (WI := fun w' => Below wr.heap.size wr w') (by kernel_rfl) ?bk rfl ?dd (⟨rfl, rfl, rfl, Nat.le_refl _, fun _ _ => rfl⟩) ?does ?fin
                  case bk =>
                    intro iq oq ho
                    have hiq : iq < 8 := by have := (Array.getElem?_eq_some_iff.1 ho).1; simpa using this
                    match iq, hiq with
                    | 0, _ | 1, _ | 2, _ | 3, _ | 4, _ | 5, _ | 6, _ | 7, _ => injection ho with ho; subst ho; simp [Region.binds]
                  case dd =>
                    intro k hk
                    have hk' : k < 153 := by
                      simp [Lt.D] at hk
                      omega
                    simpa using hk'
                  case does =>
                    intro iq oq ho
                    have hiq : iq < 8 := by have := (Array.getElem?_eq_some_iff.1 ho).1; simpa using this
                    match iq, hiq with
                    | 0, _ => injection ho with ho; subst ho; exact Lt.Does.read rfl (fun Lq aq w' hI hq => Lt.wn0 rfl) (fun Lq aq w' hI hq => Lt.ex_load_row rfl (hI.fix 2 (Lt.notD rfl)) (rngL (row_on RX.out (HXr.out.trans (hI.world.mono HXr.out.size))) rfl) (by kernel_rfl) (by kernel_rfl))
                    | 1, _ => injection ho with ho; subst ho; exact Lt.Does.read rfl (fun Lq aq w' hI hq => Lt.wn0 rfl) (fun Lq aq w' hI hq => Lt.ex_field rfl (hI.fix 2 (Lt.notD rfl)) (by simp [go_sem]))
                    | 2, _ => injection ho with ho; subst ho; exact Lt.Does.read rfl (fun Lq aq w' hI hq => Lt.wn0 rfl) (fun Lq aq w' hI hq => Lt.ex_load rfl (hI.pure 1 _ _ rfl (hq ⟨1, .data⟩ (by simp) rfl)) (by simp [go_sem]) ((row_on RX.out (HXr.out.trans (hI.world.mono HXr.out.size))).cell (i := 4) (by decide)))
                    | 3, _ => injection ho with ho; subst ho; exact Lt.Does.read rfl (fun Lq aq w' hI hq => Lt.wn0 rfl) (fun Lq aq w' hI hq => Lt.ex_move rfl (hI.fix 14 (Lt.notD rfl)))
                    | 4, _ => injection ho with ho; subst ho; exact Lt.Does.read rfl (fun Lq aq w' hI hq => Lt.wn0 rfl) (fun Lq aq w' hI hq => ex_idxR rfl (hI.pure 2 _ _ rfl (hq ⟨2, .data⟩ (by simp) rfl)) (hI.pure 3 _ _ rfl (hq ⟨3, .data⟩ (by simp) rfl)) hkn)
                    | 5, _ => injection ho with ho; subst ho; exact Lt.Does.read rfl (fun Lq aq w' hI hq => Lt.wn0 rfl) (fun Lq aq w' hI hq => Lt.ex_load rfl (hI.pure 4 _ _ rfl (hq ⟨4, .data⟩ (by simp) rfl)) (by simp [go_sem]) ((hI.world.cell (p := ⟨b2, off2 + k, none⟩) hbl).trans hcc))
                    | 6, _ => injection ho with ho; subst ho; exact Lt.Does.call rfl (fun Lq aq w' hI hq => Lt.wn0 rfl) (fun Lq aq w' hI hq => Lt.call2 rfl (hI.pure 0 _ _ rfl (hq ⟨0, .data⟩ (by simp) rfl)) (hI.pure 5 _ _ rfl (hq ⟨5, .data⟩ (by simp) rfl)) rfl (by simp [go_sem])) (fun w1 hw1 => (RR.out w1 hw1).mono (by rintro e w2 ⟨rfl, hb⟩; exact ⟨rfl, hw1.trans (hb.mono hw1.size)⟩))
                    | 7, _ => injection ho with ho; subst ho; exact Lt.Does.read rfl (fun Lq aq w' hI hq => Lt.wn0 rfl) (fun Lq aq w' hI hq => ex_not rfl (hI.pure 6 _ _ rfl (hq ⟨6, .data⟩ (by simp) rfl)))
                  case fin =>
                    intro Lq a' w' hI hall
                    have HF := hide hI.world
                    have hfr := lt_frame hI [141, 142, 143, 144, 145, 146, 147, 148] rfl (fun x hx => by simp at hx ⊢; omega)
                    have e141 : a'.eval (.tmp 141) = _ := hI.pure 0 _ _ rfl (hall 0 (by decide))
                    have e142 : a'.eval (.tmp 142) = _ := hI.pure 1 _ _ rfl (hall 1 (by decide))
                    have e143 : a'.eval (.tmp 143) = _ := hI.pure 2 _ _ rfl (hall 2 (by decide))
                    have e144 : a'.eval (.tmp 144) = _ := hI.pure 3 _ _ rfl (hall 3 (by decide))
                    have e145 : a'.eval (.tmp 145) = _ := hI.pure 4 _ _ rfl (hall 4 (by decide))
                    have e146 : a'.eval (.tmp 146) = _ := hI.pure 5 _ _ rfl (hall 5 (by decide))
                    have e147 : a'.eval (.tmp 147) = _ := hI.pure 6 _ _ rfl (hall 6 (by decide))
                    have e148 : a'.eval (.tmp 148) = _ := hI.pure 7 _ _ rfl (hall 7 (by decide))
                    rw [hfr]
                    simp only [LtH.lay, List.foldl, e141, e142, e143, e144, e145, e146, e147, e148]
                    clear hfr hI hall e141 e142 e143 e144 e145 e146 e147 e148
                    simp only [Act.put, List.setIfInBounds_toArray, List.set_cons_succ, List.set_cons_zero]
                    go_wp2_with fail
                    go_ret
                    exact ⟨Tells.no (fun h => HRI.out (h.2.2.2.2.2.2.1 k hlt)), HV0.out.trans ((HXr.out.trans (HF.out.mono HXr.out.size)).mono HV0.out.size)⟩
              · have hkn : ¬ (k : Int) < (c.nr : Int) := by omega
                have c0 : wr.cell? ⟨w.heap.size, 0, none⟩ = some (.int .i64 c.ph) := (row_on RX.out HXr.out).cell (i := 0) (by decide)
                have c1 : wr.cell? ⟨w.heap.size, 1, none⟩ = some (.int .i64 c.co) := (row_on RX.out HXr.out).cell (i := 1) (by decide)
                have c2 : wr.cell? ⟨w.heap.size, 2, none⟩ = some (.int .u64 c.ro) := (row_on RX.out HXr.out).cell (i := 2) (by decide)
                have c3 : wr.cell? ⟨w.heap.size, 3, none⟩ = some (.slice aa c.na ca) := (row_on RX.out HXr.out).cell (i := 3) (by decide)
                have c4 : wr.cell? ⟨w.heap.size, 4, none⟩ = some (.slice ra c.nr cr) := (row_on RX.out HXr.out).cell (i := 4) (by decide)
                have c5 : wr.cell? ⟨w.heap.size, 5, none⟩ = some (.slice wa c.nw cw) := (row_on RX.out HXr.out).cell (i := 5) (by decide)
                have c6 : wr.cell? ⟨w.heap.size, 6, none⟩ = some (.slice oa c.no cb) := (row_on RX.out HXr.out).cell (i := 6) (by decide)
                have c7 : wr.cell? ⟨w.heap.size, 7, none⟩ = some (.slice fa c.fr.length cf) := (row_on RX.out HXr.out).cell (i := 7) (by decide)
                have c8 : wr.cell? ⟨w.heap.size, 8, none⟩ = some (.slice ga c.gr.length cg) := (row_on RX.out HXr.out).cell (i := 8) (by decide)
                have c9 : wr.cell? ⟨w.heap.size, 9, none⟩ = some (.slice qa c.qu.length cq) := (row_on RX.out HXr.out).cell (i := 9) (by decide)
                have c10 : wr.cell? ⟨w.heap.size, 10, none⟩ = some (.int .u64 (c.cn 0)) := (row_on RX.out HXr.out).cell (i := 10) (by decide)
                have c11 : wr.cell? ⟨w.heap.size, 11, none⟩ = some (.int .u64 (c.cn 1)) := (row_on RX.out HXr.out).cell (i := 11) (by decide)
                have c12 : wr.cell? ⟨w.heap.size, 12, none⟩ = some (.int .u64 (c.cn 2)) := (row_on RX.out HXr.out).cell (i := 12) (by decide)
                have c13 : wr.cell? ⟨w.heap.size, 13, none⟩ = some (.int .u64 (c.cn 3)) := (row_on RX.out HXr.out).cell (i := 13) (by decide)
                have RT := hide (RI.out wr HVr.out wa c.nw cw c.wk (HS.out.below HVr.out).wk HC.out.nw HC.out.wk)
                by_cases hri : ∀ i, i < c.nw → hOk c (c.wk i)
                · have RR := hide (call_yes RT.out hri)
                  have HRI := hide hri
                  clear hri
                  go_wp2_with (go_at_call 65; refine RR.out.mono ?_; rintro e w5 ⟨rfl, hb5⟩; have HB5 := hide hb5; clear hb5)
                  go_ret
                  exact ⟨Tells.yes ⟨Y1.out, Y2.out, Y3.out, Y4.out, Y5.out, HPK.out, fun j hj => HK.out j (by omega), HRI.out⟩, HVr.out.trans (HB5.out.mono HVr.out.size)⟩
                · have RR := hide (call_no RT.out hri)
                  have HRI := hide hri
                  clear hri
                  go_wp2_with (go_at_call 65; refine RR.out.mono ?_; rintro e w5 ⟨rfl, hb5⟩; have HB5 := hide hb5; clear hb5)
                  go_ret
                  exact ⟨Tells.no (fun h => HRI.out h.2.2.2.2.2.2.2), HVr.out.trans (HB5.out.mono HVr.out.size)⟩
end Vw
end Go.Proofs.Ytecjegjnnahddaa

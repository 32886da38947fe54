/-
  Lemmas: RoomIe, RoomIr.
-/
import Derived.Test.YtidihnnmdmlgfaaGreatTq52
namespace Go.Proofs.YtidihnnmdmlgfaaGreat
set_option maxHeartbeats 8000000
open Go.RowKit
set_option linter.unusedVariables false
set_option linter.unusedSimpArgs false
set_option maxRecDepth 20000
section
namespace Rom
open Hp
theorem init_none {sh : Shp} {hv : Int} {j : Jb} : holdS (rinit sh hv j) = 0 ∧ gvS (rinit sh hv j) = 0 := by
  unfold holdS gvS rinit
  by_cases hk : j.kind = 1
  · simp [hk]
  · simp only [hk, if_false, false_and, not_false_eq_true, true_and]
    split <;> simp
section
variable {sh : Shp} {P : Par} {Ow : Nat → Nat → List Int} {f f' : Nat → Int} {done : Nat → Nat} {cur : Nat → RmS} {ans : Nat → Nat → Ans} {k h : Nat} {C : List Int} {pl pl' : Int → Pl}
variable (h5 : Shape.R5 sh.a sh.b sh.c sh.d sh.e) (hn : (P.n : Int) = all0 sh) (I : Inv sh P Ow f done cur ans k C pl) (hh : h < P.nh) (hdn : done h < P.jn h) (hk6 : k < 65536)
include h5 hn I hh hdn hk6
theorem end_any {hand : Int} {j : Jb} {st g xb gn sl : Int} {told a : Ans} (hs : cur h = ⟨hand, j, st, g, xb, gn, sl, told⟩) (W : Wf sh (cur h)) (hj : j = P.jb h (done h)) (hv : Int) (he : ∀ d, d < P.jn h → rerr false sh hv (P.jb h d) = 0)
    (ha : a = (rnext sh (cur h) (stepOf P.n f (rreq sh (cur h)))).told) (O : OwF P Ow h (done h) a) (hends : rends sh (cur h) (stepOf P.n f (rreq sh (cur h))) = true) :
    ∃ pl', Inv sh P Ow (wordsOf P.n f (rreq sh (cur h))) (upd done h (done h + 1)) (upd cur h (rinit sh hv (P.jb h (done h + 1)))) (upd ans h (upd (ans h) (done h) a)) (k + 1) C pl' := by
  have H := I.hand h hh hdn
  have N := n13 h5 hn
  have hst := W.st
  have hth := W.th
  have MK := I.mak h
  have DY := I.dy h
  have UM := I.um h hh hdn
  have OWN := I.own h hh
  have UNI := I.uni h hh
  have h64 := h5.1.2
  have hjk : (P.jb h (done h)).kind = j.kind := by rw [hj]
  have hnext : ∀ {pl' : Int → Pl}, (∀ (q : Nat) x, (Ow h (done h + 1))[q]? = some x → x ≠ 0 → there sh x ∧ pl' x = .own h) → ∀ f', done h + 1 < P.jn h → Hand sh f' pl' h (rinit sh hv (P.jb h (done h + 1))) ∧ (rinit sh hv (P.jb h (done h + 1))).st = (if (rinit sh hv (P.jb h (done h + 1))).j.kind = 1 then 0 else (rinit sh hv (P.jb h (done h + 1))).st) := fun {pl'} ho f' hl => by
    refine hand_init (he _ hl) (fun hk2 => ?_)
    obtain ⟨q, hq⟩ := O.next hl hk2
    have ht := err_there (he _ hl) (by omega)
    exact (ho q _ hq (by have := ht.1; omega)).2
  rw [hs] at H hst hth ha hends ⊢
  rw [hs] at MK UM DY
  simp only at hst hth MK UM DY
  have t0 := H.t0
  simp only at t0
  rcases hst with ⟨hk, h'⟩ | ⟨hk, h'⟩
  · have hkk : (P.jb h (done h)).kind = 1 := by rw [hjk]; exact hk
    have nogiv : ∀ x, ¬ GivS (cur h) x := fun x hx => by rw [hs] at hx; exact hx.1 hk
    have nody : ∀ x, there sh x → ¬ pl x = .dy h := fun x hx e => (DY x hx e).2.2.1 hk
    have st05 : st = 0 ∨ st = 5 := by
      rcases h' with h' | h' | h' | h' | h' | h'
      · exact .inl h'
      · subst h'; simp [rends, hk] at hends
      · subst h'; simp [rends, hk] at hends
      · subst h'; simp [rends, hk] at hends
      · subst h'; simp [rends, hk] at hends
      · exact .inr h'
    rcases st05 with rfl | rfl
    · -- refused
      have er : rreq sh ⟨hand, j, 0, g, xb, gn, sl, told⟩ = ⟨hand, 1, 1, 0, 0, true⟩ := by simp [rreq, hk]
      rw [er] at ha hends ⊢
      obtain ⟨ef, eh⟩ := load_eff (f := f) (hand := hand) (p := 1) (n := P.n) (by omega)
      have hnt : ¬ there sh (idx (f 1)) := fun ht => by
        simp only [rends, hk, if_true, eh] at hends
        rw [show (Int.toNat 1) = 1 from rfl] at hends
        simp [ht] at hends
      have ea : a = ⟨false, 0⟩ := by
        rw [ha]
        simp only [rnext, hk, if_true, eh]
        rw [show (Int.toNat 1) = 1 from rfl, if_neg hnt]
        exact t0
      have hOw : Ow h (done h + 1) = Ow h (done h) := O.same hkk (by rw [ea]; decide)
      have tb0 : ∀ x, tb x (P.jb h (done h)) a = 0 := fun x => by unfold tb; rw [ea]; simp
      have hown : ∀ (q : Nat) x, (Ow h (done h + 1))[q]? = some x → x ≠ 0 → there sh x ∧ pl x = .own h := fun q x hq h0 => by
        rw [hOw] at hq
        obtain ⟨hx, ho⟩ := OWN q x hq h0
        exact ⟨hx, ho.elim id (fun h => absurd h.2 (nogiv x))⟩
      rw [ef]
      exact ⟨pl, I.over hh hdn (Sv.refl _ _) (.inr rfl) (fun _ _ => Iff.rfl) (fun _ _ _ _ => rfl) (fun _ _ _ _ => rfl) (fun x hx => ⟨fun e => absurd (MK x hx e).2.2.2.1 (by decide), nody x hx⟩) (hnext hown _) hown (by rw [hOw]; exact UNI) (fun x _ => by rw [tb0]; rfl) (fun x hx => I.us x hx) (fun _ h => absurd h (by rw [ea]; decide)) hk6 h64 (by rw [hs, ea]; simp [mkJ, bkJ, holdS, gvS, hk, hkk]) (fun _ => init_none) (by rw [ea]; simp [mkJ, bkJ, hkk])⟩
    · -- told
      have htg := hth hk (by decide)
      have hpm := (H.m3 hk (.inr (.inr rfl))).2
      have hgn := H.m4 hk (.inr rfl)
      simp only at hpm hgn
      have hus := UM hk rfl
      have hx64 : 0 ≤ idx g ∧ idx g < 4294967296 := ⟨idx_lo g, idx_hi g⟩
      have hg := I.gn _ htg
      rw [hpm] at hg
      simp only [lv] at hg
      have er : rreq sh ⟨hand, j, 5, g, xb, gn, sl, told⟩ = ⟨hand, 4, 4, 0, 1, true⟩ := by simp [rreq, hk]
      rw [er] at ha hends ⊢
      have ef := add_eff (f := f) (hand := hand) (p := 4) (n := P.n) (by omega)
      have ea : a = ⟨true, hd (idx g) gn⟩ := by
        rw [ha]
        simp [rnext, hk]
      have hix : idx (hd (idx g) gn) = idx g := hd_idx hx64
      have hOw : Ow h (done h + 1) = Ow h (done h) ++ [idx g] := by
        have hwr : wrap64 (bits .and .u64 (hd (idx g) gn) 4294967295) = idx g := by
          rw [wrap64_low _ (hd_lo _ _) (by have := hd_hi (idx g) gn; omega)]
          exact hix
        have := O.more hkk (by rw [ea])
        rw [this, ea, hwr]
      have tb1 : ∀ x, tb x (P.jb h (done h)) a = if x = idx g then 1 else 0 := fun x => by
        unfold tb
        rw [ea, hix]
        by_cases e : x = idx g
        · rw [if_pos e, if_pos ⟨hkk, rfl, e.symm⟩]
        · rw [if_neg e, if_neg (fun h => e h.2.2.symm)]
      have o1 : ∀ {x}, x ≠ idx g → updI pl (idx g) (Pl.own h) x = pl x := fun e => updI_other _ _ e
      have s1 : updI pl (idx g) (Pl.own h) (idx g) = Pl.own h := updI_same _ _ _
      have notin : ∀ (q : Nat), (Ow h (done h))[q]? = some (idx g) → False := fun q hq => by
        obtain ⟨_, ho⟩ := OWN q _ hq (by have := htg.1; omega)
        rcases ho with ho | ho
        · rw [hpm] at ho; cases ho
        · exact nogiv _ ho.2
      have split : ∀ (q : Nat) x, (Ow h (done h + 1))[q]? = some x → (Ow h (done h))[q]? = some x ∨ (q = (Ow h (done h)).length ∧ x = idx g) := fun q x hq => by
        rw [hOw] at hq
        rcases Nat.lt_or_ge q (Ow h (done h)).length with hl | hl
        · rw [List.getElem?_append_left hl] at hq; exact .inl hq
        · rw [List.getElem?_append_right hl] at hq
          have : q - (Ow h (done h)).length = 0 := by
            have := (List.getElem?_eq_some_iff.1 hq).1
            simp at this; omega
          rw [this] at hq
          simp at hq
          exact .inr ⟨by omega, hq.symm⟩
      have hown : ∀ (q : Nat) x, (Ow h (done h + 1))[q]? = some x → x ≠ 0 → there sh x ∧ updI pl (idx g) (Pl.own h) x = .own h := fun q x hq h0 => by
        rcases split q x hq with hq | ⟨_, rfl⟩
        · obtain ⟨hx, ho⟩ := OWN q x hq h0
          have ne : x ≠ idx g := fun e => by subst e; exact notin q hq
          exact ⟨hx, (o1 ne).trans (ho.elim id (fun h => absurd h.2 (nogiv x)))⟩
        · exact ⟨htg, s1⟩
      rw [ef]
      refine ⟨updI pl (idx g) (.own h), I.over hh hdn (sv_low h5 _ (.inl rfl)) ?ht ?hfr ?hpl ?hpi ?hno (hnext hown _) hown ?huni ?hgn ?hus ?htl hk6 h64 (by rw [hs, ea]; simp [mkJ, bkJ, holdS, gvS, hk, hkk]) (fun _ => init_none) ?h45⟩
      case h45 =>
        have c4 := I.c45.1
        have ck := I.ck.1
        rw [ea]
        simp only [mkJ, bkJ, hkk]
        unfold putF
        exact ⟨by simp; omega, by simp⟩
      case ht =>
        by_cases e : there sh (idx (f 1))
        · exact .inl e
        · exact .inr (lnk_put (by decide) e)
      case hfr =>
        intro x hx
        by_cases e : x = idx g
        · subst e; rw [s1, hpm]; exact ⟨fun h => (by cases h), fun h => (by cases h)⟩
        · rw [o1 e]
      case hpl =>
        intro i hi x hx
        refine o1 (fun e => ?_)
        subst e; rw [hpm] at hx
        rcases hx with h | h | h
        · cases h; exact hi rfl
        · cases h
        · cases h
      case hpi =>
        intro i hi x hx
        refine o1 (fun e => ?_)
        subst e; rw [s1] at hx
        rcases hx with h | h <;> cases h
      case hno =>
        intro x hx
        by_cases e : x = idx g
        · subst e; rw [s1]; exact ⟨fun h => (by cases h), fun h => (by cases h)⟩
        · rw [o1 e]; exact ⟨fun h => e (MK x hx h).2.2.2.2.symm, nody x hx⟩
      case huni =>
        intro q q' x hq hq' h0
        rcases split q x hq with hq | ⟨h1, e1⟩
        · rcases split q' x hq' with hq' | ⟨h2, e2⟩
          · exact UNI q q' x hq hq' h0
          · subst e2; exact (notin q hq).elim
        · rcases split q' x hq' with hq' | ⟨h2, e2⟩
          · subst e1; exact (notin q' hq').elim
          · omega
      case hgn =>
        intro x hx
        rw [tb1]
        by_cases e : x = idx g
        · subst e; rw [s1, hpm, if_pos rfl]; rfl
        · rw [o1 e, if_neg e]; rfl
      case hus =>
        intro x hx
        by_cases e : x = idx g
        · subst e; rw [s1]
          exact ⟨fun h => (by rcases h with h | ⟨_, h⟩ <;> cases h), fun _ => hus⟩
        · rw [o1 e]; exact I.us x hx
      case htl =>
        intro _ _
        refine ⟨idx g, htg, ?_, by omega, by rw [tb1, if_pos rfl]⟩
        rw [ea]
        show hd (idx g) gn = _
        rw [hgn]
        congr 1
        omega
  · have hk2 : (P.jb h (done h)).kind = 2 := by
      rcases err_two (he _ hdn) with h1 | h1
      · rw [hjk] at h1; exact absurd h1 hk
      · exact h1.1
    have nomk : ∀ x, there sh x → ¬ pl x = .mk h := fun x hx e => hk (MK x hx e).2.2.1
    have st6 : st = 6 := by simpa [rends, hk] using hends
    subst st6
    have er : rreq sh ⟨hand, j, 6, g, xb, gn, sl, told⟩ = ⟨hand, 4, 5, 0, 1, true⟩ := by simp [rreq, hk]
    rw [er] at ha hends ⊢
    have ef := add_eff (f := f) (hand := hand) (p := 5) (n := P.n) (by omega)
    obtain ⟨q0, hq0, hOw⟩ := O.back hk2
    rw [← hj] at hq0
    have ht := H.ga hk
    simp only at ht
    have tb0 : ∀ x, tb x (P.jb h (done h)) a = 0 := fun x => by unfold tb; rw [if_neg (by omega)]
    have split : ∀ (q : Nat) x, (Ow h (done h + 1))[q]? = some x → x ≠ 0 → q ≠ q0 ∧ (Ow h (done h))[q]? = some x := fun q x hq h0 => by
      rw [hOw, List.getElem?_set] at hq
      by_cases e : q0 = q
      · rw [if_pos e] at hq
        split at hq
        · cases hq; exact absurd rfl h0
        · cases hq
      · rw [if_neg e] at hq; exact ⟨fun h => e h.symm, hq⟩
    have hown : ∀ (q : Nat) x, (Ow h (done h + 1))[q]? = some x → x ≠ 0 → there sh x ∧ pl x = .own h := fun q x hq h0 => by
      obtain ⟨hne, hq⟩ := split q x hq h0
      obtain ⟨hx, ho⟩ := OWN q x hq h0
      refine ⟨hx, ho.elim id (fun hg => ?_)⟩
      have hg2 := hg.2
      rw [hs] at hg2
      have e : j.a = x := hg2.2.1
      subst e
      exact absurd (UNI q q0 _ hq hq0 h0) hne
    rw [ef]
    refine ⟨pl, I.over hh hdn (sv_low h5 _ (.inr rfl)) ?ht (fun _ _ => Iff.rfl) (fun _ _ _ _ => rfl) (fun _ _ _ _ => rfl) (fun x hx => ⟨nomk x hx, fun e => absurd (DY x hx e).2.2.2.1 (by decide)⟩) (hnext hown _) hown ?huni (fun x _ => by rw [tb0]; rfl) (fun x hx => I.us x hx) (fun h1 _ => absurd (h1.symm.trans hk2) (by decide)) hk6 h64 (by rw [hs]; simp [mkJ, bkJ, holdS, gvS, hk, hk2]) (fun _ => init_none) ?h45⟩
    case h45 =>
      have c5 := I.c45.2
      have ck := I.ck.2
      simp only [mkJ, bkJ, hk2]
      unfold putF
      exact ⟨by simp, by simp; omega⟩
    case ht =>
      by_cases e : there sh (idx (f 1))
      · exact .inl e
      · exact .inr (lnk_put (by decide) e)
    case huni =>
      intro q q' x hq hq' h0
      exact UNI q q' x (split q x hq h0).2 (split q' x hq' h0).2 h0
end
end Rom
end
section
namespace Rom
open Hp
theorem F_zero {x : Shape.Sh} : ∀ {m j : Nat}, ¬ j = 1 → (∀ i, i < m → ¬ j = Shape.bO x + i * Shape.ow x + 1) → Shape.F x m j = 0
  | 0, j, h1, _ => by simp [Shape.F, putF, h1]
  | m + 1, j, h1, h2 => by
    have ih := F_zero (m := m) h1 (fun i hi => h2 i (by omega))
    simp only [Shape.F, putF]
    rw [if_neg (h2 m (by omega))]
    exact ih
theorem free0 (sh : Shp) : ff sh 1 = 1 := Shape.F_free (Shape.bO8 _) _
section
variable {sh : Shp} (h5 : Shape.R5 sh.a sh.b sh.c sh.d sh.e)
include h5
theorem link_of {i : Nat} (hi : there sh ((i : Int) + 1)) : (linkAt sh ((i : Int) + 1)).toNat = Shape.bO (fsh sh) + i * Shape.ow (fsh sh) + 1 := by
  have h := (link_nat h5 hi).1
  obtain ⟨⟨a1, _⟩, ⟨b1, _⟩, ⟨c1, _⟩, ⟨d1, _⟩, e1, _⟩ := h5
  have e : ((Shape.bO (fsh sh) + i * Shape.ow (fsh sh) + 1 : Nat) : Int) = base0 sh + ((i : Int) + 1 - 1) * (3 + sh.b) + 1 := by
    unfold Shape.bO Shape.bK Shape.bR Shape.ow fsh base0
    simp only [Int.natCast_add, Int.natCast_mul, Int.toNat_of_nonneg b1, Int.toNat_of_nonneg (show 0 ≤ sh.c by omega), Int.toNat_of_nonneg (show 0 ≤ sh.d by omega), Int.toNat_of_nonneg e1]
    rw [show (i : Int) + 1 - 1 = i by omega]
    rfl
  omega
theorem lnk0 {i : Nat} (hi : there sh ((i : Int) + 1)) : lnk sh (ff sh) ((i : Int) + 1) = if i + 1 < sh.a.toNat then (i : Int) + 2 else 0 := by
  have hb := hi.2
  have h64 := h5.1.2
  unfold lnk ff
  rw [link_of h5 hi, Shape.F_link]
  by_cases e : i < sh.a.toNat - 1
  · rw [if_pos e, if_pos (by omega)]; unfold idx; omega
  · rw [if_neg e, if_neg (by omega)]; rfl
theorem head0 {x : Int} (hx : there sh x) : ff sh (headAt sh x).toNat = 0 := by
  have h := head_nat h5 hx
  refine F_zero (by omega) (fun i hi e => ?_)
  have ht : there sh ((i : Int) + 1) := ⟨by omega, by omega⟩
  rw [← link_of h5 ht] at e
  exact hl_ne h5 hx ht e
theorem chain0 : ∀ n i : Nat, i + n = sh.a.toNat → Ch sh (ff sh) (if n = 0 then 0 else (i : Int) + 1) ((List.range' i n).map (fun (k : Nat) => (k : Int) + 1))
  | 0, i, h => rfl
  | n + 1, i, h => by
    have ht : there sh ((i : Int) + 1) := ⟨by omega, by omega⟩
    show Ch sh (ff sh) (if n + 1 = 0 then 0 else (i : Int) + 1) (((i : Int) + 1) :: (List.range' (i + 1) n).map (fun (k : Nat) => (k : Int) + 1))
    rw [if_neg (by omega)]
    refine ⟨rfl, ht, ?_⟩
    have ih := chain0 n (i + 1) (by omega)
    rw [lnk0 h5 ht]
    by_cases e : n = 0
    · rw [if_pos e] at ih
      rw [if_neg (by omega)]
      exact ih
    · rw [if_neg e] at ih
      rw [if_pos (by omega)]
      rw [show (i : Int) + 2 = ((i + 1 : Nat) : Int) + 1 by omega]
      exact ih
end
def Ow (P : Par) (dn : Nat → Nat) (an : Nat → Nat → Ans) (h k : Nat) : List Int := (ownN (P.jb h) (dn h) (an h) k).getD []
theorem ownN_prev {jb : Nat → Jb} {dn : Nat} {an : Nat → Ans} {k : Nat} (h : ∃ l, ownN jb dn an (k + 1) = some l) : ∃ l, ownN jb dn an k = some l := by
  obtain ⟨l, h⟩ := h
  cases e : ownN jb dn an k with
  | some l => exact ⟨l, rfl⟩
  | none =>
    have : ownN jb dn an (k + 1) = none := by
      show (match ownN jb dn an k with | none => none | some l => _) = _
      rw [e]
    rw [this] at h; cases h
theorem ownN_le {jb : Nat → Jb} {dn : Nat} {an : Nat → Ans} {k : Nat} : ∀ d, (∃ l, ownN jb dn an (k + d) = some l) → ∃ l, ownN jb dn an k = some l
  | 0, h => h
  | d + 1, h => ownN_le d (ownN_prev h)
section
variable {P : Par} {dn : Nat → Nat} {an : Nat → Nat → Ans} {h k : Nat} (H : ∀ h, h < P.nh → ∃ l, ownN (P.jb h) (dn h) (an h) (min (P.jn h) (dn h + 1)) = some l) (hh : h < P.nh)
include H hh
theorem Ow.eq (hk : k ≤ P.jn h) (hd : k ≤ dn h + 1) : ownN (P.jb h) (dn h) (an h) k = some (Ow P dn an h k) := by
  obtain ⟨l, e⟩ := ownN_le (jb := P.jb h) (dn := dn h) (an := an h) (k := k) (min (P.jn h) (dn h + 1) - k) (by rw [show k + (min (P.jn h) (dn h + 1) - k) = min (P.jn h) (dn h + 1) by omega]; exact H h hh)
  unfold Ow
  rw [e]; rfl
theorem Ow.at_ (hk : k < P.jn h) (hd : k ≤ dn h) (hj : (P.jb h k).kind = 2) : ∃ q : Nat, (Ow P dn an h k)[q]? = some (P.jb h k).a ∧ Ow P dn an h (k + 1) = (Ow P dn an h k).set q 0 := by
  have e0 := Ow.eq H hh (k := k) (by omega) (by omega)
  have e1 := Ow.eq H hh (k := k + 1) (by omega) (by omega)
  rcases lastAt_cases (Ow P dn an h k) (P.jb h k).a (Ow P dn an h k).length with hl | ⟨q, hq, hl, hx⟩
  · exfalso
    have : ownN (P.jb h) (dn h) (an h) (k + 1) = none := by
      show (match ownN (P.jb h) (dn h) (an h) k with | none => none | some l => _) = _
      rw [e0]
      simp only
      rw [if_pos hj, hl, if_pos (by decide)]
    rw [this] at e1; cases e1
  · have e2 := ownN_back e0 hj hl
    rw [e1] at e2
    exact ⟨q, hx, Option.some.inj e2⟩
end
theorem owF {P : Par} {dn : Nat → Nat} {an : Nat → Nat → Ans} (H : ∀ h, h < P.nh → ∃ l, ownN (P.jb h) (dn h) (an h) (min (P.jn h) (dn h + 1)) = some l) {h d : Nat} (hh : h < P.nh) (hk : d < P.jn h) (hd : d < dn h) : OwF P (Ow P dn an) h d (an h d) where
  back := fun hj => Ow.at_ H hh hk (by omega) hj
  more := fun hj ho => by
    have e0 := Ow.eq H hh (k := d) (by omega) (by omega)
    have e1 := Ow.eq H hh (k := d + 1) (by omega) (by omega)
    rw [ownN_more e0 (by omega) hd ho] at e1
    exact (Option.some.inj e1).symm
  same := fun hj ho => by
    have e0 := Ow.eq H hh (k := d) (by omega) (by omega)
    have e1 := Ow.eq H hh (k := d + 1) (by omega) (by omega)
    rw [ownN_same e0 (by omega) (fun h => ho h.2)] at e1
    exact (Option.some.inj e1).symm
  next := fun hl hj => by
    obtain ⟨q, hq, _⟩ := Ow.at_ H hh hl (by omega) hj
    exact ⟨q, hq⟩
section
variable {sh : Shp} {P : Par}
def objs (sh : Shp) : List Int := (List.range' 0 sh.a.toNat).map (fun (k : Nat) => (k : Int) + 1)
theorem objs_mem (x : Int) : x ∈ objs sh ↔ there sh x := by
  unfold objs there
  simp only [List.mem_map, List.mem_range'_1]
  constructor
  · rintro ⟨i, hi, rfl⟩; omega
  · intro h; exact ⟨x.toNat - 1, by omega, by omega⟩
theorem inv_0 (h5 : Shape.R5 sh.a sh.b sh.c sh.d sh.e) {dn : Nat → Nat} {an : Nat → Nat → Ans} (H : ∀ h, h < P.nh → ∃ l, ownN (P.jb h) (dn h) (an h) (min (P.jn h) (dn h + 1)) = some l) (hok : ∀ h, h < P.nh → ∀ j, j < P.jn h → rerr false sh h (P.jb h j) = 0) :
    Inv sh P (Ow P dn an) (ff sh) (fun _ => 0) (fun h => rinit sh h (P.jb h 0)) (fun _ _ => ⟨false, 0⟩) 0 (objs sh) (fun _ => .free) := by
  have f1 : ff sh 1 = 1 := free0 sh
  have own0 : ∀ h, Ow P dn an h 0 = [] := fun h => rfl
  have t0 : ∀ x, tot (tb x) P (fun _ => 0) (fun _ _ => ⟨false, 0⟩) = 0 := fun x => by
    unfold tot
    exact sm_zero _ (fun i hi => rfl)
  refine ⟨?_, ?_, fun x => ?_, fun h hh hd => ?_, fun h x _ e => (by cases e), fun h x _ e => (by cases e), fun h hh q x hq _ => ?_, fun h hh q q' x hq => ?_, ?_, fun x hx => ?_, fun x hx => ⟨fun _ => by unfold usd; rw [head0 h5 hx]; rfl, fun ⟨_, e⟩ => (by cases e)⟩, fun h hh hd hk hs => ?_, ?cn, ?c45, ?ck, fun h hh j hj => absurd hj (Nat.not_lt_zero j), fun h hh j hj => absurd hj (Nat.not_lt_zero j)⟩
  · have := chain0 h5 sh.a.toNat 0 (by omega)
    rw [if_neg (by have := h5.1.1; omega)] at this
    rw [f1]
    exact this
  · unfold objs
    exact List.pairwise_map.2 ((List.nodup_range' (step := 1)).imp (fun hne e => hne (by omega)))
  · rw [objs_mem]; exact ⟨fun h => ⟨h, rfl⟩, fun h => h.1⟩
  · refine (hand_init (hok h hh 0 hd) (fun hk => ?_)).1
    exfalso
    obtain ⟨q, hq, _⟩ := Ow.at_ H hh hd (Nat.zero_le _) hk
    rw [own0] at hq
    simp at hq
  · rw [own0] at hq; simp at hq
  · rw [own0] at hq; simp at hq
  · rw [f1]; unfold tag; decide
  · rw [t0]; unfold gen; rw [head0 h5 hx]; exact ⟨by decide, rfl, Nat.le_refl _⟩
  · have h2 := (hand_init (f := ff sh) (pl := fun _ => .own h) (h := h) (hok h hh 0 hd) (fun _ => rfl)).2
    rw [if_pos hk, hs] at h2
    cases h2
  case cn =>
    have z : ∀ g : Jb → Ans → Nat, tot g P (fun _ => 0) (fun _ _ => ⟨false, 0⟩) = 0 := fun g => by unfold tot; exact sm_zero _ (fun i hi => rfl)
    have u1 : und holdS P (fun _ => 0) (fun h => rinit sh h (P.jb h 0)) = 0 := sm_zero _ (fun i hi => by split; exact init_none.1; rfl)
    have u2 : und gvS P (fun _ => 0) (fun h => rinit sh h (P.jb h 0)) = 0 := sm_zero _ (fun i hi => by split; exact init_none.2; rfl)
    rw [z, z, u1, u2]
    simp [objs]
  case c45 =>
    have z : ∀ g : Jb → Ans → Nat, tot g P (fun _ => 0) (fun _ _ => ⟨false, 0⟩) = 0 := fun g => by unfold tot; exact sm_zero _ (fun i hi => rfl)
    have b8 := Shape.bO8 (fsh sh)
    rw [z, z]
    exact ⟨F_zero (by omega) (fun i _ e => by omega), F_zero (by omega) (fun i _ e => by omega)⟩
  case ck =>
    have z : ∀ g : Jb → Ans → Nat, tot g P (fun _ => 0) (fun _ _ => ⟨false, 0⟩) = 0 := fun g => by unfold tot; exact sm_zero _ (fun i hi => rfl)
    rw [z, z]
    exact ⟨Nat.le_refl _, Nat.le_refl _⟩
theorem inv_run (h5 : Shape.R5 sh.a sh.b sh.c sh.d sh.e) (hn : (P.n : Int) = all0 sh) (hjw : ∀ h, h < P.nh → ∀ j, j < P.jn h → (P.jb h j).wf) (hok : AllOk (kRom false sh) P) {M : Nat} (hM : M ≤ 65536) (HO : Owned P (runSt P (st0 (kRom false sh) P (ff sh)) M)) : ∀ m, m ≤ M →
    ∃ C pl, Inv sh P (Ow P (runSt P (st0 (kRom false sh) P (ff sh)) M).done (runSt P (st0 (kRom false sh) P (ff sh)) M).ans) (runSt P (st0 (kRom false sh) P (ff sh)) m).f (runSt P (st0 (kRom false sh) P (ff sh)) m).done (runSt P (st0 (kRom false sh) P (ff sh)) m).cur (runSt P (st0 (kRom false sh) P (ff sh)) m).ans (runSt P (st0 (kRom false sh) P (ff sh)) m).k C pl := by
  have hok' : ∀ h, h < P.nh → ∀ j, j < P.jn h → rerr false sh h (P.jb h j) = 0 := fun h hh j hj => hok h hh j hj
  intro m
  induction m with
  | zero => intro _; exact ⟨objs sh, fun _ => .free, inv_0 h5 HO hok'⟩
  | succ m ih =>
    intro hm
    obtain ⟨C, pl, I⟩ := ih (by omega)
    have hW := (wf_run h5 (fun i _ => ff_bd h5 i) hjw hok m).2
    rcases run_succ_cases P (st0 (kRom false sh) P (ff sh)) rfl m with ⟨e, _⟩ | ⟨h, ht, hh, hd, hk, e⟩
    · rw [e]; exact ⟨C, pl, I⟩
    · obtain ⟨hj, W⟩ := hW h hh hd
      have st2 := stays P (st0 (kRom false sh) P (ff sh)) rfl (m + 1) h (M - (m + 1))
      rw [show m + 1 + (M - (m + 1)) = M by omega] at st2
      rw [e] at st2 ⊢
      have hk6 : (runSt P (st0 (kRom false sh) P (ff sh)) m).k < 65536 := by omega
      generalize runSt P (st0 (kRom false sh) P (ff sh)) m = st at I hd hj W st2 hk6 ⊢
      obtain ⟨s, hs⟩ : ∃ s, st.cur h = s := ⟨_, rfl⟩
      obtain ⟨hand, j, sta, g, xb, gn, sl, told⟩ := s
      cases hen : rends sh (st.cur h) (stepOf P.n st.f (rreq sh (st.cur h))) with
      | false =>
        have e1 : (stepSt P st h).done = st.done := by simp [stepSt, kRom, hen]
        have e2 : (stepSt P st h).cur = upd st.cur h (rnext sh (st.cur h) (stepOf P.n st.f (rreq sh (st.cur h)))) := by simp [stepSt, kRom, hen]
        have e3 : (stepSt P st h).ans = st.ans := by simp [stepSt, kRom, hen]
        rw [e1, e2, e3]
        have hk12 : j.kind = 1 ∨ ¬ j.kind = 1 := by omega
        rcases hk12 with hk1 | hk1
        · exact step_m h5 hn I hh hd hk6 hs W hk1 (by rw [hen]; decide)
        · exact step_g h5 hn I hh hd hk6 hs W hk1 (by rw [hen]; decide)
      | true =>
        have e1 : (stepSt P st h).done = upd st.done h (st.done h + 1) := by simp [stepSt, kRom, hen]
        have e2 : (stepSt P st h).cur = upd st.cur h (rinit sh h (P.jb h (st.done h + 1))) := by simp [stepSt, kRom, hen]
        have e3 : (stepSt P st h).ans = upd st.ans h (upd (st.ans h) (st.done h) (rnext sh (st.cur h) (stepOf P.n st.f (rreq sh (st.cur h)))).told) := by simp [stepSt, kRom, hen]
        obtain ⟨sd, sa⟩ := st2
        rw [e1, upd_same] at sd sa
        have ea := sa (st.done h) (by omega)
        rw [e3, upd_same, upd_same] at ea
        rw [e1, e2, e3]
        have O := owF HO hh hd (show st.done h < _ by omega)
        rw [ea] at O
        obtain ⟨pl', I'⟩ := end_any h5 hn I hh hd hk6 hs W (by rw [← hj, hs]) (h : Int) (hok' h hh) rfl O hen
        exact ⟨C, pl', I'⟩
end
end Rom
end
end Go.Proofs.YtidihnnmdmlgfaaGreat

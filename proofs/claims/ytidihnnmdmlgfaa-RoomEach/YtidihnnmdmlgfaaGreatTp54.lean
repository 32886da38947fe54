/-
  Lemmas: RoomIe, RoomIr, RoomIl, RoomEA.
-/
import Derived.Test.YtidihnnmdmlgfaaGreatTp53
import Derived.Test.YtidihnnmdmlgfaaGreatTp22
namespace Go.Proofs.YtidihnnmdmlgfaaGreat
set_option maxHeartbeats 8000000
open Go.RowKit
set_option linter.unusedVariables false
set_option linter.unusedSimpArgs false
set_option maxRecDepth 20000
section
namespace Rom
open Hp
theorem init_none {sh : Shp} {hv : Int} {j : Jb} : holdS (rinit sh hv j) = 0 ∧ gvS (rinit sh hv j) = 0 := by
  unfold holdS gvS rinit
  by_cases hk : j.kind = 1
  · simp [hk]
  · simp only [hk, if_false, false_and, not_false_eq_true, true_and]
    split <;> simp
section
variable {sh : Shp} {P : Par} {Ow : Nat → Nat → List Int} {f f' : Nat → Int} {done : Nat → Nat} {cur : Nat → RmS} {ans : Nat → Nat → Ans} {k h : Nat} {C : List Int} {pl pl' : Int → Pl}
variable (h5 : Shape.R5 sh.a sh.b sh.c sh.d sh.e) (hn : (P.n : Int) = all0 sh) (I : Inv sh P Ow f done cur ans k C pl) (hh : h < P.nh) (hdn : done h < P.jn h) (hk6 : k < 65536)
include h5 hn I hh hdn hk6
theorem end_any {hand : Int} {j : Jb} {st g xb gn sl : Int} {told a : Ans} (hs : cur h = ⟨hand, j, st, g, xb, gn, sl, told⟩) (W : Wf sh (cur h)) (hj : j = P.jb h (done h)) (hv : Int) (he : ∀ d, d < P.jn h → rerr false sh hv (P.jb h d) = 0)
    (ha : a = (rnext sh (cur h) (stepOf P.n f (rreq sh (cur h)))).told) (O : OwF P Ow h (done h) a) (hends : rends sh (cur h) (stepOf P.n f (rreq sh (cur h))) = true) :
    ∃ pl', Inv sh P Ow (wordsOf P.n f (rreq sh (cur h))) (upd done h (done h + 1)) (upd cur h (rinit sh hv (P.jb h (done h + 1)))) (upd ans h (upd (ans h) (done h) a)) (k + 1) C pl' := by
  have H := I.hand h hh hdn
  have N := n13 h5 hn
  have hst := W.st
  have hth := W.th
  have MK := I.mak h
  have DY := I.dy h
  have UM := I.um h hh hdn
  have OWN := I.own h hh
  have UNI := I.uni h hh
  have h64 := h5.1.2
  have hjk : (P.jb h (done h)).kind = j.kind := by rw [hj]
  have hnext : ∀ {pl' : Int → Pl}, (∀ (q : Nat) x, (Ow h (done h + 1))[q]? = some x → x ≠ 0 → there sh x ∧ pl' x = .own h) → ∀ f', done h + 1 < P.jn h → Hand sh f' pl' h (rinit sh hv (P.jb h (done h + 1))) ∧ (rinit sh hv (P.jb h (done h + 1))).st = (if (rinit sh hv (P.jb h (done h + 1))).j.kind = 1 then 0 else (rinit sh hv (P.jb h (done h + 1))).st) := fun {pl'} ho f' hl => by
    refine hand_init (he _ hl) (fun hk2 => ?_)
    obtain ⟨q, hq⟩ := O.next hl hk2
    have ht := err_there (he _ hl) (by omega)
    exact (ho q _ hq (by have := ht.1; omega)).2
  rw [hs] at H hst hth ha hends ⊢
  rw [hs] at MK UM DY
  simp only at hst hth MK UM DY
  have t0 := H.t0
  simp only at t0
  rcases hst with ⟨hk, h'⟩ | ⟨hk, h'⟩
  · have hkk : (P.jb h (done h)).kind = 1 := by rw [hjk]; exact hk
    have nogiv : ∀ x, ¬ GivS (cur h) x := fun x hx => by rw [hs] at hx; exact hx.1 hk
    have nody : ∀ x, there sh x → ¬ pl x = .dy h := fun x hx e => (DY x hx e).2.2.1 hk
    have st05 : st = 0 ∨ st = 5 := by
      rcases h' with h' | h' | h' | h' | h' | h'
      · exact .inl h'
      · subst h'; simp [rends, hk] at hends
      · subst h'; simp [rends, hk] at hends
      · subst h'; simp [rends, hk] at hends
      · subst h'; simp [rends, hk] at hends
      · exact .inr h'
    rcases st05 with rfl | rfl
    · -- refused
      have er : rreq sh ⟨hand, j, 0, g, xb, gn, sl, told⟩ = ⟨hand, 1, 1, 0, 0, true⟩ := by simp [rreq, hk]
      rw [er] at ha hends ⊢
      obtain ⟨ef, eh⟩ := load_eff (f := f) (hand := hand) (p := 1) (n := P.n) (by omega)
      have hnt : ¬ there sh (idx (f 1)) := fun ht => by
        simp only [rends, hk, if_true, eh] at hends
        rw [show (Int.toNat 1) = 1 from rfl] at hends
        simp [ht] at hends
      have ea : a = ⟨false, 0⟩ := by
        rw [ha]
        simp only [rnext, hk, if_true, eh]
        rw [show (Int.toNat 1) = 1 from rfl, if_neg hnt]
        exact t0
      have hOw : Ow h (done h + 1) = Ow h (done h) := O.same hkk (by rw [ea]; decide)
      have tb0 : ∀ x, tb x (P.jb h (done h)) a = 0 := fun x => by unfold tb; rw [ea]; simp
      have hown : ∀ (q : Nat) x, (Ow h (done h + 1))[q]? = some x → x ≠ 0 → there sh x ∧ pl x = .own h := fun q x hq h0 => by
        rw [hOw] at hq
        obtain ⟨hx, ho⟩ := OWN q x hq h0
        exact ⟨hx, ho.elim id (fun h => absurd h.2 (nogiv x))⟩
      rw [ef]
      exact ⟨pl, I.over hh hdn (Sv.refl _ _) (.inr rfl) (fun _ _ => Iff.rfl) (fun _ _ _ _ => rfl) (fun _ _ _ _ => rfl) (fun x hx => ⟨fun e => absurd (MK x hx e).2.2.2.1 (by decide), nody x hx⟩) (hnext hown _) hown (by rw [hOw]; exact UNI) (fun x _ => by rw [tb0]; rfl) (fun x hx => I.us x hx) (fun _ h => absurd h (by rw [ea]; decide)) hk6 h64 (by rw [hs, ea]; simp [mkJ, bkJ, holdS, gvS, hk, hkk]) (fun _ => init_none) (by rw [ea]; simp [mkJ, bkJ, hkk])⟩
    · -- told
      have htg := hth hk (by decide)
      have hpm := (H.m3 hk (.inr (.inr rfl))).2
      have hgn := H.m4 hk (.inr rfl)
      simp only at hpm hgn
      have hus := UM hk rfl
      have hx64 : 0 ≤ idx g ∧ idx g < 4294967296 := ⟨idx_lo g, idx_hi g⟩
      have hg := I.gn _ htg
      rw [hpm] at hg
      simp only [lv] at hg
      have er : rreq sh ⟨hand, j, 5, g, xb, gn, sl, told⟩ = ⟨hand, 4, 4, 0, 1, true⟩ := by simp [rreq, hk]
      rw [er] at ha hends ⊢
      have ef := add_eff (f := f) (hand := hand) (p := 4) (n := P.n) (by omega)
      have ea : a = ⟨true, hd (idx g) gn⟩ := by
        rw [ha]
        simp [rnext, hk]
      have hix : idx (hd (idx g) gn) = idx g := hd_idx hx64
      have hOw : Ow h (done h + 1) = Ow h (done h) ++ [idx g] := by
        have hwr : wrap64 (bits .and .u64 (hd (idx g) gn) 4294967295) = idx g := by
          rw [wrap64_low _ (hd_lo _ _) (by have := hd_hi (idx g) gn; omega)]
          exact hix
        have := O.more hkk (by rw [ea])
        rw [this, ea, hwr]
      have tb1 : ∀ x, tb x (P.jb h (done h)) a = if x = idx g then 1 else 0 := fun x => by
        unfold tb
        rw [ea, hix]
        by_cases e : x = idx g
        · rw [if_pos e, if_pos ⟨hkk, rfl, e.symm⟩]
        · rw [if_neg e, if_neg (fun h => e h.2.2.symm)]
      have o1 : ∀ {x}, x ≠ idx g → updI pl (idx g) (Pl.own h) x = pl x := fun e => updI_other _ _ e
      have s1 : updI pl (idx g) (Pl.own h) (idx g) = Pl.own h := updI_same _ _ _
      have notin : ∀ (q : Nat), (Ow h (done h))[q]? = some (idx g) → False := fun q hq => by
        obtain ⟨_, ho⟩ := OWN q _ hq (by have := htg.1; omega)
        rcases ho with ho | ho
        · rw [hpm] at ho; cases ho
        · exact nogiv _ ho.2
      have split : ∀ (q : Nat) x, (Ow h (done h + 1))[q]? = some x → (Ow h (done h))[q]? = some x ∨ (q = (Ow h (done h)).length ∧ x = idx g) := fun q x hq => by
        rw [hOw] at hq
        rcases Nat.lt_or_ge q (Ow h (done h)).length with hl | hl
        · rw [List.getElem?_append_left hl] at hq; exact .inl hq
        · rw [List.getElem?_append_right hl] at hq
          have : q - (Ow h (done h)).length = 0 := by
            have := (List.getElem?_eq_some_iff.1 hq).1
            simp at this; omega
          rw [this] at hq
          simp at hq
          exact .inr ⟨by omega, hq.symm⟩
      have hown : ∀ (q : Nat) x, (Ow h (done h + 1))[q]? = some x → x ≠ 0 → there sh x ∧ updI pl (idx g) (Pl.own h) x = .own h := fun q x hq h0 => by
        rcases split q x hq with hq | ⟨_, rfl⟩
        · obtain ⟨hx, ho⟩ := OWN q x hq h0
          have ne : x ≠ idx g := fun e => by subst e; exact notin q hq
          exact ⟨hx, (o1 ne).trans (ho.elim id (fun h => absurd h.2 (nogiv x)))⟩
        · exact ⟨htg, s1⟩
      rw [ef]
      refine ⟨updI pl (idx g) (.own h), I.over hh hdn (sv_low h5 _ (.inl rfl)) ?ht ?hfr ?hpl ?hpi ?hno (hnext hown _) hown ?huni ?hgn ?hus ?htl hk6 h64 (by rw [hs, ea]; simp [mkJ, bkJ, holdS, gvS, hk, hkk]) (fun _ => init_none) ?h45⟩
      case h45 =>
        have c4 := I.c45.1
        have ck := I.ck.1
        rw [ea]
        simp only [mkJ, bkJ, hkk]
        unfold putF
        exact ⟨by simp; omega, by simp⟩
      case ht =>
        by_cases e : there sh (idx (f 1))
        · exact .inl e
        · exact .inr (lnk_put (by decide) e)
      case hfr =>
        intro x hx
        by_cases e : x = idx g
        · subst e; rw [s1, hpm]; exact ⟨fun h => (by cases h), fun h => (by cases h)⟩
        · rw [o1 e]
      case hpl =>
        intro i hi x hx
        refine o1 (fun e => ?_)
        subst e; rw [hpm] at hx
        rcases hx with h | h | h
        · cases h; exact hi rfl
        · cases h
        · cases h
      case hpi =>
        intro i hi x hx
        refine o1 (fun e => ?_)
        subst e; rw [s1] at hx
        rcases hx with h | h <;> cases h
      case hno =>
        intro x hx
        by_cases e : x = idx g
        · subst e; rw [s1]; exact ⟨fun h => (by cases h), fun h => (by cases h)⟩
        · rw [o1 e]; exact ⟨fun h => e (MK x hx h).2.2.2.2.symm, nody x hx⟩
      case huni =>
        intro q q' x hq hq' h0
        rcases split q x hq with hq | ⟨h1, e1⟩
        · rcases split q' x hq' with hq' | ⟨h2, e2⟩
          · exact UNI q q' x hq hq' h0
          · subst e2; exact (notin q hq).elim
        · rcases split q' x hq' with hq' | ⟨h2, e2⟩
          · subst e1; exact (notin q' hq').elim
          · omega
      case hgn =>
        intro x hx
        rw [tb1]
        by_cases e : x = idx g
        · subst e; rw [s1, hpm, if_pos rfl]; rfl
        · rw [o1 e, if_neg e]; rfl
      case hus =>
        intro x hx
        by_cases e : x = idx g
        · subst e; rw [s1]
          exact ⟨fun h => (by rcases h with h | ⟨_, h⟩ <;> cases h), fun _ => hus⟩
        · rw [o1 e]; exact I.us x hx
      case htl =>
        intro _ _
        refine ⟨idx g, htg, ?_, by omega, by rw [tb1, if_pos rfl]⟩
        rw [ea]
        show hd (idx g) gn = _
        rw [hgn]
        congr 1
        omega
  · have hk2 : (P.jb h (done h)).kind = 2 := by
      rcases err_two (he _ hdn) with h1 | h1
      · rw [hjk] at h1; exact absurd h1 hk
      · exact h1.1
    have nomk : ∀ x, there sh x → ¬ pl x = .mk h := fun x hx e => hk (MK x hx e).2.2.1
    have st6 : st = 6 := by simpa [rends, hk] using hends
    subst st6
    have er : rreq sh ⟨hand, j, 6, g, xb, gn, sl, told⟩ = ⟨hand, 4, 5, 0, 1, true⟩ := by simp [rreq, hk]
    rw [er] at ha hends ⊢
    have ef := add_eff (f := f) (hand := hand) (p := 5) (n := P.n) (by omega)
    obtain ⟨q0, hq0, hOw⟩ := O.back hk2
    rw [← hj] at hq0
    have ht := H.ga hk
    simp only at ht
    have tb0 : ∀ x, tb x (P.jb h (done h)) a = 0 := fun x => by unfold tb; rw [if_neg (by omega)]
    have split : ∀ (q : Nat) x, (Ow h (done h + 1))[q]? = some x → x ≠ 0 → q ≠ q0 ∧ (Ow h (done h))[q]? = some x := fun q x hq h0 => by
      rw [hOw, List.getElem?_set] at hq
      by_cases e : q0 = q
      · rw [if_pos e] at hq
        split at hq
        · cases hq; exact absurd rfl h0
        · cases hq
      · rw [if_neg e] at hq; exact ⟨fun h => e h.symm, hq⟩
    have hown : ∀ (q : Nat) x, (Ow h (done h + 1))[q]? = some x → x ≠ 0 → there sh x ∧ pl x = .own h := fun q x hq h0 => by
      obtain ⟨hne, hq⟩ := split q x hq h0
      obtain ⟨hx, ho⟩ := OWN q x hq h0
      refine ⟨hx, ho.elim id (fun hg => ?_)⟩
      have hg2 := hg.2
      rw [hs] at hg2
      have e : j.a = x := hg2.2.1
      subst e
      exact absurd (UNI q q0 _ hq hq0 h0) hne
    rw [ef]
    refine ⟨pl, I.over hh hdn (sv_low h5 _ (.inr rfl)) ?ht (fun _ _ => Iff.rfl) (fun _ _ _ _ => rfl) (fun _ _ _ _ => rfl) (fun x hx => ⟨nomk x hx, fun e => absurd (DY x hx e).2.2.2.1 (by decide)⟩) (hnext hown _) hown ?huni (fun x _ => by rw [tb0]; rfl) (fun x hx => I.us x hx) (fun h1 _ => absurd (h1.symm.trans hk2) (by decide)) hk6 h64 (by rw [hs]; simp [mkJ, bkJ, holdS, gvS, hk, hk2]) (fun _ => init_none) ?h45⟩
    case h45 =>
      have c5 := I.c45.2
      have ck := I.ck.2
      simp only [mkJ, bkJ, hk2]
      unfold putF
      exact ⟨by simp, by simp; omega⟩
    case ht =>
      by_cases e : there sh (idx (f 1))
      · exact .inl e
      · exact .inr (lnk_put (by decide) e)
    case huni =>
      intro q q' x hq hq' h0
      exact UNI q q' x (split q x hq h0).2 (split q' x hq' h0).2 h0
end
end Rom
end
section
namespace Rom
open Hp
theorem F_zero {x : Shape.Sh} : ∀ {m j : Nat}, ¬ j = 1 → (∀ i, i < m → ¬ j = Shape.bO x + i * Shape.ow x + 1) → Shape.F x m j = 0
  | 0, j, h1, _ => by simp [Shape.F, putF, h1]
  | m + 1, j, h1, h2 => by
    have ih := F_zero (m := m) h1 (fun i hi => h2 i (by omega))
    simp only [Shape.F, putF]
    rw [if_neg (h2 m (by omega))]
    exact ih
theorem free0 (sh : Shp) : ff sh 1 = 1 := Shape.F_free (Shape.bO8 _) _
section
variable {sh : Shp} (h5 : Shape.R5 sh.a sh.b sh.c sh.d sh.e)
include h5
theorem link_of {i : Nat} (hi : there sh ((i : Int) + 1)) : (linkAt sh ((i : Int) + 1)).toNat = Shape.bO (fsh sh) + i * Shape.ow (fsh sh) + 1 := by
  have h := (link_nat h5 hi).1
  obtain ⟨⟨a1, _⟩, ⟨b1, _⟩, ⟨c1, _⟩, ⟨d1, _⟩, e1, _⟩ := h5
  have e : ((Shape.bO (fsh sh) + i * Shape.ow (fsh sh) + 1 : Nat) : Int) = base0 sh + ((i : Int) + 1 - 1) * (3 + sh.b) + 1 := by
    unfold Shape.bO Shape.bK Shape.bR Shape.ow fsh base0
    simp only [Int.natCast_add, Int.natCast_mul, Int.toNat_of_nonneg b1, Int.toNat_of_nonneg (show 0 ≤ sh.c by omega), Int.toNat_of_nonneg (show 0 ≤ sh.d by omega), Int.toNat_of_nonneg e1]
    rw [show (i : Int) + 1 - 1 = i by omega]
    rfl
  omega
theorem lnk0 {i : Nat} (hi : there sh ((i : Int) + 1)) : lnk sh (ff sh) ((i : Int) + 1) = if i + 1 < sh.a.toNat then (i : Int) + 2 else 0 := by
  have hb := hi.2
  have h64 := h5.1.2
  unfold lnk ff
  rw [link_of h5 hi, Shape.F_link]
  by_cases e : i < sh.a.toNat - 1
  · rw [if_pos e, if_pos (by omega)]; unfold idx; omega
  · rw [if_neg e, if_neg (by omega)]; rfl
theorem head0 {x : Int} (hx : there sh x) : ff sh (headAt sh x).toNat = 0 := by
  have h := head_nat h5 hx
  refine F_zero (by omega) (fun i hi e => ?_)
  have ht : there sh ((i : Int) + 1) := ⟨by omega, by omega⟩
  rw [← link_of h5 ht] at e
  exact hl_ne h5 hx ht e
theorem chain0 : ∀ n i : Nat, i + n = sh.a.toNat → Ch sh (ff sh) (if n = 0 then 0 else (i : Int) + 1) ((List.range' i n).map (fun (k : Nat) => (k : Int) + 1))
  | 0, i, h => rfl
  | n + 1, i, h => by
    have ht : there sh ((i : Int) + 1) := ⟨by omega, by omega⟩
    show Ch sh (ff sh) (if n + 1 = 0 then 0 else (i : Int) + 1) (((i : Int) + 1) :: (List.range' (i + 1) n).map (fun (k : Nat) => (k : Int) + 1))
    rw [if_neg (by omega)]
    refine ⟨rfl, ht, ?_⟩
    have ih := chain0 n (i + 1) (by omega)
    rw [lnk0 h5 ht]
    by_cases e : n = 0
    · rw [if_pos e] at ih
      rw [if_neg (by omega)]
      exact ih
    · rw [if_neg e] at ih
      rw [if_pos (by omega)]
      rw [show (i : Int) + 2 = ((i + 1 : Nat) : Int) + 1 by omega]
      exact ih
end
def Ow (P : Par) (dn : Nat → Nat) (an : Nat → Nat → Ans) (h k : Nat) : List Int := (ownN (P.jb h) (dn h) (an h) k).getD []
theorem ownN_prev {jb : Nat → Jb} {dn : Nat} {an : Nat → Ans} {k : Nat} (h : ∃ l, ownN jb dn an (k + 1) = some l) : ∃ l, ownN jb dn an k = some l := by
  obtain ⟨l, h⟩ := h
  cases e : ownN jb dn an k with
  | some l => exact ⟨l, rfl⟩
  | none =>
    have : ownN jb dn an (k + 1) = none := by
      show (match ownN jb dn an k with | none => none | some l => _) = _
      rw [e]
    rw [this] at h; cases h
theorem ownN_le {jb : Nat → Jb} {dn : Nat} {an : Nat → Ans} {k : Nat} : ∀ d, (∃ l, ownN jb dn an (k + d) = some l) → ∃ l, ownN jb dn an k = some l
  | 0, h => h
  | d + 1, h => ownN_le d (ownN_prev h)
section
variable {P : Par} {dn : Nat → Nat} {an : Nat → Nat → Ans} {h k : Nat} (H : ∀ h, h < P.nh → ∃ l, ownN (P.jb h) (dn h) (an h) (min (P.jn h) (dn h + 1)) = some l) (hh : h < P.nh)
include H hh
theorem Ow.eq (hk : k ≤ P.jn h) (hd : k ≤ dn h + 1) : ownN (P.jb h) (dn h) (an h) k = some (Ow P dn an h k) := by
  obtain ⟨l, e⟩ := ownN_le (jb := P.jb h) (dn := dn h) (an := an h) (k := k) (min (P.jn h) (dn h + 1) - k) (by rw [show k + (min (P.jn h) (dn h + 1) - k) = min (P.jn h) (dn h + 1) by omega]; exact H h hh)
  unfold Ow
  rw [e]; rfl
theorem Ow.at_ (hk : k < P.jn h) (hd : k ≤ dn h) (hj : (P.jb h k).kind = 2) : ∃ q : Nat, (Ow P dn an h k)[q]? = some (P.jb h k).a ∧ Ow P dn an h (k + 1) = (Ow P dn an h k).set q 0 := by
  have e0 := Ow.eq H hh (k := k) (by omega) (by omega)
  have e1 := Ow.eq H hh (k := k + 1) (by omega) (by omega)
  rcases lastAt_cases (Ow P dn an h k) (P.jb h k).a (Ow P dn an h k).length with hl | ⟨q, hq, hl, hx⟩
  · exfalso
    have : ownN (P.jb h) (dn h) (an h) (k + 1) = none := by
      show (match ownN (P.jb h) (dn h) (an h) k with | none => none | some l => _) = _
      rw [e0]
      simp only
      rw [if_pos hj, hl, if_pos (by decide)]
    rw [this] at e1; cases e1
  · have e2 := ownN_back e0 hj hl
    rw [e1] at e2
    exact ⟨q, hx, Option.some.inj e2⟩
end
theorem owF {P : Par} {dn : Nat → Nat} {an : Nat → Nat → Ans} (H : ∀ h, h < P.nh → ∃ l, ownN (P.jb h) (dn h) (an h) (min (P.jn h) (dn h + 1)) = some l) {h d : Nat} (hh : h < P.nh) (hk : d < P.jn h) (hd : d < dn h) : OwF P (Ow P dn an) h d (an h d) where
  back := fun hj => Ow.at_ H hh hk (by omega) hj
  more := fun hj ho => by
    have e0 := Ow.eq H hh (k := d) (by omega) (by omega)
    have e1 := Ow.eq H hh (k := d + 1) (by omega) (by omega)
    rw [ownN_more e0 (by omega) hd ho] at e1
    exact (Option.some.inj e1).symm
  same := fun hj ho => by
    have e0 := Ow.eq H hh (k := d) (by omega) (by omega)
    have e1 := Ow.eq H hh (k := d + 1) (by omega) (by omega)
    rw [ownN_same e0 (by omega) (fun h => ho h.2)] at e1
    exact (Option.some.inj e1).symm
  next := fun hl hj => by
    obtain ⟨q, hq, _⟩ := Ow.at_ H hh hl (by omega) hj
    exact ⟨q, hq⟩
section
variable {sh : Shp} {P : Par}
def objs (sh : Shp) : List Int := (List.range' 0 sh.a.toNat).map (fun (k : Nat) => (k : Int) + 1)
theorem objs_mem (x : Int) : x ∈ objs sh ↔ there sh x := by
  unfold objs there
  simp only [List.mem_map, List.mem_range'_1]
  constructor
  · rintro ⟨i, hi, rfl⟩; omega
  · intro h; exact ⟨x.toNat - 1, by omega, by omega⟩
theorem inv_0 (h5 : Shape.R5 sh.a sh.b sh.c sh.d sh.e) {dn : Nat → Nat} {an : Nat → Nat → Ans} (H : ∀ h, h < P.nh → ∃ l, ownN (P.jb h) (dn h) (an h) (min (P.jn h) (dn h + 1)) = some l) (hok : ∀ h, h < P.nh → ∀ j, j < P.jn h → rerr false sh h (P.jb h j) = 0) :
    Inv sh P (Ow P dn an) (ff sh) (fun _ => 0) (fun h => rinit sh h (P.jb h 0)) (fun _ _ => ⟨false, 0⟩) 0 (objs sh) (fun _ => .free) := by
  have f1 : ff sh 1 = 1 := free0 sh
  have own0 : ∀ h, Ow P dn an h 0 = [] := fun h => rfl
  have t0 : ∀ x, tot (tb x) P (fun _ => 0) (fun _ _ => ⟨false, 0⟩) = 0 := fun x => by
    unfold tot
    exact sm_zero _ (fun i hi => rfl)
  refine ⟨?_, ?_, fun x => ?_, fun h hh hd => ?_, fun h x _ e => (by cases e), fun h x _ e => (by cases e), fun h hh q x hq _ => ?_, fun h hh q q' x hq => ?_, ?_, fun x hx => ?_, fun x hx => ⟨fun _ => by unfold usd; rw [head0 h5 hx]; rfl, fun ⟨_, e⟩ => (by cases e)⟩, fun h hh hd hk hs => ?_, ?cn, ?c45, ?ck, fun h hh j hj => absurd hj (Nat.not_lt_zero j), fun h hh j hj => absurd hj (Nat.not_lt_zero j)⟩
  · have := chain0 h5 sh.a.toNat 0 (by omega)
    rw [if_neg (by have := h5.1.1; omega)] at this
    rw [f1]
    exact this
  · unfold objs
    exact List.pairwise_map.2 ((List.nodup_range' (step := 1)).imp (fun hne e => hne (by omega)))
  · rw [objs_mem]; exact ⟨fun h => ⟨h, rfl⟩, fun h => h.1⟩
  · refine (hand_init (hok h hh 0 hd) (fun hk => ?_)).1
    exfalso
    obtain ⟨q, hq, _⟩ := Ow.at_ H hh hd (Nat.zero_le _) hk
    rw [own0] at hq
    simp at hq
  · rw [own0] at hq; simp at hq
  · rw [own0] at hq; simp at hq
  · rw [f1]; unfold tag; decide
  · rw [t0]; unfold gen; rw [head0 h5 hx]; exact ⟨by decide, rfl, Nat.le_refl _⟩
  · have h2 := (hand_init (f := ff sh) (pl := fun _ => .own h) (h := h) (hok h hh 0 hd) (fun _ => rfl)).2
    rw [if_pos hk, hs] at h2
    cases h2
  case cn =>
    have z : ∀ g : Jb → Ans → Nat, tot g P (fun _ => 0) (fun _ _ => ⟨false, 0⟩) = 0 := fun g => by unfold tot; exact sm_zero _ (fun i hi => rfl)
    have u1 : und holdS P (fun _ => 0) (fun h => rinit sh h (P.jb h 0)) = 0 := sm_zero _ (fun i hi => by split; exact init_none.1; rfl)
    have u2 : und gvS P (fun _ => 0) (fun h => rinit sh h (P.jb h 0)) = 0 := sm_zero _ (fun i hi => by split; exact init_none.2; rfl)
    rw [z, z, u1, u2]
    simp [objs]
  case c45 =>
    have z : ∀ g : Jb → Ans → Nat, tot g P (fun _ => 0) (fun _ _ => ⟨false, 0⟩) = 0 := fun g => by unfold tot; exact sm_zero _ (fun i hi => rfl)
    have b8 := Shape.bO8 (fsh sh)
    rw [z, z]
    exact ⟨F_zero (by omega) (fun i _ e => by omega), F_zero (by omega) (fun i _ e => by omega)⟩
  case ck =>
    have z : ∀ g : Jb → Ans → Nat, tot g P (fun _ => 0) (fun _ _ => ⟨false, 0⟩) = 0 := fun g => by unfold tot; exact sm_zero _ (fun i hi => rfl)
    rw [z, z]
    exact ⟨Nat.le_refl _, Nat.le_refl _⟩
theorem inv_run (h5 : Shape.R5 sh.a sh.b sh.c sh.d sh.e) (hn : (P.n : Int) = all0 sh) (hjw : ∀ h, h < P.nh → ∀ j, j < P.jn h → (P.jb h j).wf) (hok : AllOk (kRom false sh) P) {M : Nat} (hM : M ≤ 65536) (HO : Owned P (runSt P (st0 (kRom false sh) P (ff sh)) M)) : ∀ m, m ≤ M →
    ∃ C pl, Inv sh P (Ow P (runSt P (st0 (kRom false sh) P (ff sh)) M).done (runSt P (st0 (kRom false sh) P (ff sh)) M).ans) (runSt P (st0 (kRom false sh) P (ff sh)) m).f (runSt P (st0 (kRom false sh) P (ff sh)) m).done (runSt P (st0 (kRom false sh) P (ff sh)) m).cur (runSt P (st0 (kRom false sh) P (ff sh)) m).ans (runSt P (st0 (kRom false sh) P (ff sh)) m).k C pl := by
  have hok' : ∀ h, h < P.nh → ∀ j, j < P.jn h → rerr false sh h (P.jb h j) = 0 := fun h hh j hj => hok h hh j hj
  intro m
  induction m with
  | zero => intro _; exact ⟨objs sh, fun _ => .free, inv_0 h5 HO hok'⟩
  | succ m ih =>
    intro hm
    obtain ⟨C, pl, I⟩ := ih (by omega)
    have hW := (wf_run h5 (fun i _ => ff_bd h5 i) hjw hok m).2
    rcases run_succ_cases P (st0 (kRom false sh) P (ff sh)) rfl m with ⟨e, _⟩ | ⟨h, ht, hh, hd, hk, e⟩
    · rw [e]; exact ⟨C, pl, I⟩
    · obtain ⟨hj, W⟩ := hW h hh hd
      have st2 := stays P (st0 (kRom false sh) P (ff sh)) rfl (m + 1) h (M - (m + 1))
      rw [show m + 1 + (M - (m + 1)) = M by omega] at st2
      rw [e] at st2 ⊢
      have hk6 : (runSt P (st0 (kRom false sh) P (ff sh)) m).k < 65536 := by omega
      generalize runSt P (st0 (kRom false sh) P (ff sh)) m = st at I hd hj W st2 hk6 ⊢
      obtain ⟨s, hs⟩ : ∃ s, st.cur h = s := ⟨_, rfl⟩
      obtain ⟨hand, j, sta, g, xb, gn, sl, told⟩ := s
      cases hen : rends sh (st.cur h) (stepOf P.n st.f (rreq sh (st.cur h))) with
      | false =>
        have e1 : (stepSt P st h).done = st.done := by simp [stepSt, kRom, hen]
        have e2 : (stepSt P st h).cur = upd st.cur h (rnext sh (st.cur h) (stepOf P.n st.f (rreq sh (st.cur h)))) := by simp [stepSt, kRom, hen]
        have e3 : (stepSt P st h).ans = st.ans := by simp [stepSt, kRom, hen]
        rw [e1, e2, e3]
        have hk12 : j.kind = 1 ∨ ¬ j.kind = 1 := by omega
        rcases hk12 with hk1 | hk1
        · exact step_m h5 hn I hh hd hk6 hs W hk1 (by rw [hen]; decide)
        · exact step_g h5 hn I hh hd hk6 hs W hk1 (by rw [hen]; decide)
      | true =>
        have e1 : (stepSt P st h).done = upd st.done h (st.done h + 1) := by simp [stepSt, kRom, hen]
        have e2 : (stepSt P st h).cur = upd st.cur h (rinit sh h (P.jb h (st.done h + 1))) := by simp [stepSt, kRom, hen]
        have e3 : (stepSt P st h).ans = upd st.ans h (upd (st.ans h) (st.done h) (rnext sh (st.cur h) (stepOf P.n st.f (rreq sh (st.cur h)))).told) := by simp [stepSt, kRom, hen]
        obtain ⟨sd, sa⟩ := st2
        rw [e1, upd_same] at sd sa
        have ea := sa (st.done h) (by omega)
        rw [e3, upd_same, upd_same] at ea
        rw [e1, e2, e3]
        have O := owF HO hh hd (show st.done h < _ by omega)
        rw [ea] at O
        obtain ⟨pl', I'⟩ := end_any h5 hn I hh hd hk6 hs W (by rw [← hj, hs]) (h : Int) (hok' h hh) rfl O hen
        exact ⟨C, pl', I'⟩
end
end Rom
end
section
namespace Rom
open Hp
def tl1 (i : Int) (jb : Nat → Jb) (an : Nat → Ans) : Nat → List Int
  | 0 => []
  | k + 1 => if tb i (jb k) (an k) = 1 then tl1 i jb an k ++ [(an k).val / 4294967296] else tl1 i jb an k
def tlh (i : Int) (P : Par) (done : Nat → Nat) (ans : Nat → Nat → Ans) : Nat → List Int
  | 0 => []
  | h + 1 => tlh i P done ans h ++ tl1 i (P.jb h) (ans h) (done h)
theorem tb_le (x : Int) (j : Jb) (a : Ans) : tb x j a ≤ 1 := by unfold tb; split <;> omega
theorem tl1_len (i : Int) (jb : Nat → Jb) (an : Nat → Ans) : ∀ k, (tl1 i jb an k).length = sm (fun j => tb i (jb j) (an j)) k
  | 0 => rfl
  | k + 1 => by
    show (if tb i (jb k) (an k) = 1 then tl1 i jb an k ++ [(an k).val / 4294967296] else tl1 i jb an k).length = sm (fun j => tb i (jb j) (an j)) k + tb i (jb k) (an k)
    have ih := tl1_len i jb an k
    have := tb_le i (jb k) (an k)
    split
    · rename_i e; rw [List.length_append, ih, e]; rfl
    · rename_i e; rw [ih]; omega
theorem tlh_len (i : Int) (P : Par) (done : Nat → Nat) (ans : Nat → Nat → Ans) : ∀ h, (tlh i P done ans h).length = sm (fun h => sm (fun j => tb i (P.jb h j) (ans h j)) (done h)) h
  | 0 => rfl
  | h + 1 => by
    show (tlh i P done ans h ++ tl1 i (P.jb h) (ans h) (done h)).length = sm _ h + sm (fun j => tb i (P.jb h j) (ans h j)) (done h)
    rw [List.length_append, tlh_len i P done ans h, tl1_len]
theorem tl1_mem {i : Int} {jb : Nat → Jb} {an : Nat → Ans} {g : Int} : ∀ {k}, g ∈ tl1 i jb an k → ∃ j, j < k ∧ (jb j).kind = 1 ∧ (an j).ok = true ∧ idx (an j).val = i ∧ g = (an j).val / 4294967296
  | 0, h => by simp [tl1] at h
  | k + 1, h => by
    unfold tl1 at h
    split at h
    · rename_i e
      rw [List.mem_append] at h
      rcases h with h | h
      · obtain ⟨j, h1, h2⟩ := tl1_mem h
        exact ⟨j, by omega, h2⟩
      · simp at h
        unfold tb at e
        split at e
        · rename_i c; exact ⟨k, by omega, c.1, c.2.1, c.2.2, h⟩
        · cases e
    · obtain ⟨j, h1, h2⟩ := tl1_mem h
      exact ⟨j, by omega, h2⟩
theorem tlh_mem {i : Int} {P : Par} {done : Nat → Nat} {ans : Nat → Nat → Ans} {g : Int} : ∀ {h}, g ∈ tlh i P done ans h → ∃ h', h' < h ∧ ∃ j, j < done h' ∧ (P.jb h' j).kind = 1 ∧ (ans h' j).ok = true ∧ idx (ans h' j).val = i ∧ g = (ans h' j).val / 4294967296
  | 0, h => by simp [tlh] at h
  | n + 1, h => by
    unfold tlh at h
    rw [List.mem_append] at h
    rcases h with h | h
    · obtain ⟨h', h1, h2⟩ := tlh_mem h
      exact ⟨h', by omega, h2⟩
    · exact ⟨n, by omega, tl1_mem h⟩
section
variable {sh : Shp} {P : Par} {Ow : Nat → Nat → List Int} {f : Nat → Int} {done : Nat → Nat} {cur : Nat → RmS} {ans : Nat → Nat → Ans} {k : Nat} {C : List Int} {pl : Int → Pl} (I : Inv sh P Ow f done cur ans k C pl)
include I
theorem val_eq {h j h' j' : Nat} (hh : h < P.nh) (hj : j < done h) (hh' : h' < P.nh) (hj' : j' < done h') (k1 : (P.jb h j).kind = 1) (o1 : (ans h j).ok = true) (k2 : (P.jb h' j').kind = 1) (o2 : (ans h' j').ok = true) (ei : idx (ans h j).val = idx (ans h' j').val) (eg : (ans h j).val / 4294967296 = (ans h' j').val / 4294967296) : h = h' ∧ j = j' := by
  refine I.td h hh j hj h' hh' j' hj' k1 o1 k2 o2 ?_
  unfold idx at ei
  omega
theorem tl1_nodup {i : Int} {h : Nat} (hh : h < P.nh) : ∀ n, n ≤ done h → (tl1 i (P.jb h) (ans h) n).Nodup
  | 0, _ => List.nodup_nil
  | n + 1, hn => by
    have ih := tl1_nodup (i := i) hh n (by omega)
    unfold tl1
    split
    · rename_i e
      unfold tb at e
      split at e
      · rename_i c
        refine List.nodup_append.2 ⟨ih, List.nodup_cons.2 ⟨by simp, List.nodup_nil⟩, fun a ha b hb => ?_⟩
        simp at hb
        intro e2
        obtain ⟨j, h1, h2, h3, h4, h5⟩ := tl1_mem ha
        have := (val_eq I hh (show j < done h by omega) hh (show n < done h by omega) h2 h3 c.1 c.2.1 (h4.trans c.2.2.symm) (by rw [← h5, e2, hb])).2
        omega
      · cases e
    · exact ih
theorem tlh_nodup {i : Int} : ∀ n, n ≤ P.nh → (tlh i P done ans n).Nodup
  | 0, _ => List.nodup_nil
  | n + 1, hn => by
    unfold tlh
    refine List.nodup_append.2 ⟨tlh_nodup (i := i) n (by omega), tl1_nodup I (by omega) _ (Nat.le_refl _), fun a ha b hb e => ?_⟩
    subst e
    obtain ⟨h', h1, j, h2, h3, h4, h5, h6⟩ := tlh_mem ha
    obtain ⟨j', g2, g3, g4, g5, g6⟩ := tl1_mem hb
    have := (val_eq I (show h' < P.nh by omega) h2 (show n < P.nh by omega) g2 h3 h4 g3 g4 (h5.trans g5.symm) (h6.symm.trans g6)).1
    omega
theorem tlh_lt {i g : Int} (h64 : sh.a ≤ 64) (hk : k < 4294967296) (hg : g ∈ tlh i P done ans P.nh) : 0 ≤ g ∧ g < (tlh i P done ans P.nh).length := by
  obtain ⟨h', h1, j, h2, h3, h4, h5, h6⟩ := tlh_mem hg
  obtain ⟨x, g', hx, g0, g1, hv⟩ := I.tl h' h1 j h2 h3 h4
  have hc := (I.gn x hx).2.2
  have hx1 := hx.1
  have hx2 := hx.2
  have ex : x = i := by rw [← h5, hv, hd_idx (by omega)]
  subst ex
  have eg : g = g' := by rw [h6, hv]; unfold hd; omega
  rw [tlh_len]
  unfold tot at g1
  omega
end
end Rom
end
section
namespace Rom
open PKept
theorem wp_append_one {P : Program} {w : World} {o : Oper} {a : Act} {K : Act → World → Prop} {Q : Exit → Act → World → Prop} (s x : Operand) (t : TypeId)
    (ho : o.op = .call { callee := .builtin .append, args := #[s, x], argTypes := #[t, t] })
    (base : Nat) (e : TypeId) (i : TypeInfo) (z : Value) (size bytes : Nat) (ht : P.underlying t = some (.slice e)) (hi : P.info? e = some i) (hz : i.zero = some z)
    (hsize : i.size = size) (hby : i.bytes = bytes) (hzs : z.cells.size = size) (hsz : 0 < size)
    (v : Value) (n : Nat) (xs : List Value) (hs : a.eval s = v) (hown : w.ownsRow base e size v n xs)
    (ad : Addr) (m c : Nat) (news : List Value) (hx : a.eval x = .slice (some ad) m c) (hl : news.length = m * size) (hnews : ∀ j u, news[j]? = some u → w.cell? (ad.add j) = some u) (h1 : ∀ u ∈ news, u.oneCell' = true)
    (h63 : n + m ≤ maxLen) (hbytes : (n + m) * bytes ≤ 140737488355328) (hbase : base ≤ w.heap.size)
    (h : ∀ v' w', w'.ownsRow base e size v' (n + m) (xs ++ news) → w.grownBy w' v.ownBlock → (v'.ownBlock = v.ownBlock ∨ v'.ownBlock = some w.heap.size) → K (a.put o.dst v') w') : o.wp P a w K Q := by
  obtain ⟨v', w', hr, h2, h3, _, h4⟩ := run_append_own_at (P := P) (w := w) base t o.type e i z size bytes ht hi hz hsize hby hzs hsz v n xs hown ad m c news hl hnews h1 h63 hbytes hbase
  unfold Oper.wp execOp
  simp only [ho, resolve, invoke, builtin, Sem.run_bind, Sem.run_pure, Result.andThen_ok, List.map_toArray, List.map_cons, List.map_nil, hs, hx, hr]
  exact h v' w' h2 h3 h4
theorem ex_bslice1w {ev : Operand → Value} {o : Oper} {w : World} {x : Operand} {v : Int} (ho : o.op = .buildSlice 24 1 #[(0, x)]) (hx : ev x = .int .u64 v) : (execOp ev o).run Tryz.prog w = .ok (.value (.slice (some ⟨w.heap.size, 0, none⟩) 1 1)) (w.alloc (.cells #[.int .u64 v] 38)) := by
  simp [execOp, ho, hx, go_sem]
theorem ex_shr32 {ev : Operand → Value} {o : Oper} {w : World} {x y : Operand} {v : Int} {t : TypeId} (ho : o.op = .binOp .shr 38 x y t) (hx : ev x = .int .u64 v) (hy : ev y = .int .u64 32) : (execOp ev o).run Tryz.prog w = .ok (.value (.int .u64 (v / 4294967296))) w := by
  simp [execOp, ho, hx, hy, go_sem]
theorem one_neww {w : World} {q : Nat} {hv : Int} (hc : w.cell? ⟨q, 0, none⟩ = some (.int .u64 hv)) {j : Nat} {u : Value} (hj : [Value.int .u64 hv][j]? = some u) : w.cell? (Addr.add ⟨q, 0, none⟩ j) = some u := by
  have h0 : j = 0 := by have := (List.getElem?_eq_some_iff.1 hj).1; simp at this; exact this
  subst h0
  rw [Go.WideShapes.add_plain]
  cases hj
  exact hc
theorem one_onew {hv : Int} : ∀ u ∈ [Value.int .u64 hv], u.oneCell' = true := fun u hu => by
  simp at hu
  subst hu
  rfl
theorem aggSU (w : World) : (isAgg 24).run Tryz.prog w = .ok false w := by simp [go_sem]
theorem sizeSU : (Tryz.prog.info? 24).map (·.size) = some 1 := by kernel_rfl
theorem TL.cong {w : World} {T B n : Nat} {F : Nat → Value} {L L' : Nat → List Int} (h : TL w T B n F L) (e : ∀ i, L i = L' i) : TL w T B n F L' := by
  have : L = L' := funext e
  rw [← this]; exact h
theorem below_grow {Z : Nat} {a w1 wa : World} {r : Option Nat} (HB : Below Z a w1) (hZ : Z ≤ w1.heap.size) (gr : w1.grownBy wa r) (hr : ∀ b, r = some b → Z ≤ b) : Below Z a wa :=
  ⟨gr.os.trans HB.os, gr.tape.trans HB.tape, gr.output.trans HB.output, Nat.le_trans HB.size gr.size, fun k hk => (gr.block k (Nat.lt_of_lt_of_le hk hZ) (fun e => by have := hr k e.symm; omega)).trans (HB.block k hk)⟩
theorem wp_storeS {P : Program} {Q : Exit → Act → World → Prop} {K : Act → World → Prop} {a : Act} {o : Oper} {w : World} {ty : TypeId} {x y : Operand} {b off : Nat} {ao : Option Addr} {n m : Nat} {u : Value} (ho : o.op = .store ty x y) (hd : o.dst = none) (hx : a.eval x = .pointer (some ⟨b, off, none⟩)) (hy : a.eval y = .slice ao n m) (hs : (Go.sizeOf ty).run P w = .ok 1 w) (hc : w.cell? ⟨b, off, none⟩ = some u) (hf : w.frozen? ⟨b, off, none⟩ = false) (h : K (a.put o.dst undef) (w.setCell ⟨b, off, none⟩ (.slice ao n m))) : o.wp P a w K Q := by
  simp only [Oper.wp, execOp, ho, hx, hy]
  simp [go_sem, hc, hf, hs, Oper.upon]
  exact h
def EA (W4 : World) (T B n : Nat) (F : Nat → Value) (L : Nat → List Int) (i : Nat) (gv : Int) : Nat → (Nat → Value) → World → Prop
  | 0, _, w' => Below W4.heap.size W4 w'
  | 1, s, w' => Below W4.heap.size W4 w' ∧ ∃ q, s 89 = .slice (some ⟨q, 0, none⟩) 1 1 ∧ w'.cell? ⟨q, 0, none⟩ = some (.int .u64 gv)
  | 2, s, w' => ∃ w1, Below W4.heap.size W4 w1 ∧ w1.grownBy w' (F i).ownBlock ∧ w'.ownsRow B 38 1 (s 90) ((L i).length + 1) (wc (L i) ++ [.int .u64 gv]) ∧ ((s 90).ownBlock = (F i).ownBlock ∨ (s 90).ownBlock = some w1.heap.size)
  | _, _, w' => ∃ w1 wa v', Below W4.heap.size W4 w1 ∧ w1.grownBy wa (F i).ownBlock ∧ wa.ownsRow B 38 1 v' ((L i).length + 1) (wc (L i) ++ [.int .u64 gv]) ∧ (v'.ownBlock = (F i).ownBlock ∨ v'.ownBlock = some w1.heap.size) ∧ w' = wa.setCell ⟨T, i, none⟩ v'
theorem EA.local {W4 : World} {T B n : Nat} {F : Nat → Value} {L : Nat → List Int} {i : Nat} {gv : Int} {m : Nat} {s s' : Nat → Value} {w' : World} (h89 : s 89 = s' 89) (h90 : s 90 = s' 90) (h : EA W4 T B n F L i gv m s w') : EA W4 T B n F L i gv m s' w' := by
  match m with
  | 0 => exact h
  | 1 => exact ⟨h.1, h89 ▸ h.2⟩
  | 2 => obtain ⟨w1, a, b, c, d⟩ := h; exact ⟨w1, a, b, h90 ▸ c, h90 ▸ d⟩
  | _ + 3 => exact h
theorem EA.past {W4 : World} {T B n : Nat} {F : Nat → Value} {L : Nat → List Int} {i : Nat} {gv : Int} {m : Nat} {s : Nat → Value} {w' : World} (h : EA W4 T B n F L i gv m s w') {b : Nat} (hb : b < W4.heap.size) (hT : b ≠ T) (hF : (F i).ownBlock ≠ some b) : w'.heap[b]? = W4.heap[b]? := by
  match m with
  | 0 => exact Below.block h b hb
  | 1 => exact h.1.block b hb
  | 2 => obtain ⟨w1, h1, h2, _⟩ := h; exact (h2.block b (Nat.lt_of_lt_of_le hb h1.size) (fun e => hF e.symm)).trans (h1.block b hb)
  | _ + 3 =>
    obtain ⟨w1, wa, v', h1, h2, _, _, rfl⟩ := h
    rw [Below.heap_setCell _ _ _ _ (by exact hT)]
    exact (h2.block b (Nat.lt_of_lt_of_le hb h1.size) (fun e => hF e.symm)).trans (h1.block b hb)
theorem EA.done {W4 : World} {T B n Z : Nat} {F : Nat → Value} {L : Nat → List Int} {i : Nat} {gv : Int} {s : Nat → Value} {w0 w' : World} (H : TL W4 T B n F L) (hi : i < n) (hZ : Z ≤ T) (HB : Below Z w0 W4) (h : EA W4 T B n F L i gv 3 s w') :
    ∃ F', TL w' T B n F' (fun j => if j = i then L i ++ [gv] else L j) ∧ Below Z w0 w' := by
  obtain ⟨w1, wa, v', h1, h2, h3, h4, rfl⟩ := h
  have H1 := H.keep h1
  have ht := H.tb
  have hb := H.bs
  exact ⟨_, H1.app hi h3 h2 h4, (below_grow (HB.trans (h1.mono (by omega))) (by have := h1.size; omega) h2 (fun b e => by have := ((H.own i hi).lt b e).1; omega)).setCell (show Z ≤ T by exact hZ) _⟩
end Rom
end
end Go.Proofs.YtidihnnmdmlgfaaGreat

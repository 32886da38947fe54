/-
  Lemmas: RoomIs.
-/
import Derived.Test.YtidihnnmdmlgfaaGreatTq51
namespace Go.Proofs.YtidihnnmdmlgfaaGreat
set_option maxHeartbeats 8000000
open Go.RowKit
set_option linter.unusedVariables false
set_option linter.unusedSimpArgs false
set_option maxRecDepth 20000
section
namespace Rom
open Hp
theorem n13 {sh : Shp} (h5 : Shape.R5 sh.a sh.b sh.c sh.d sh.e) {n : Nat} (hn : (n : Int) = all0 sh) : 13 ≤ (n : Int) := by
  obtain ⟨want, hw1, hw2, _⟩ := size_nat h5
  have : all0 sh = sizeOf sh := rfl
  omega
theorem sv_low {sh : Shp} (h5 : Shape.R5 sh.a sh.b sh.c sh.d sh.e) {f : Nat → Int} {p : Nat} (v : Int) (hp : p = 4 ∨ p = 5) : Sv sh f (putF f p v) := ⟨by unfold putF; rw [if_neg (by omega)], fun x hx => putLow h5 (by omega) hx⟩
theorem hand_m {sh : Shp} {f : Nat → Int} {pl : Int → Pl} {h : Nat} {s : RmS} (hk : s.j.kind = 1) (t0 : s.told = ⟨false, 0⟩) (m1 : s.st = 1 ∨ s.st = 2 → Rd f s.g) (m2 : s.st = 2 → f 1 = s.g → s.xb = lnk sh f (idx s.g))
    (m3 : s.st = 3 ∨ s.st = 4 ∨ s.st = 5 → there sh (idx s.g) ∧ pl (idx s.g) = .mk h) (m4 : s.st = 4 ∨ s.st = 5 → s.gn = gen sh f (idx s.g)) : Hand sh f pl h s :=
  ⟨fun _ => m1, fun _ => m2, fun _ => m3, fun _ => m4, fun h => absurd hk h, fun h => absurd hk h, fun h => absurd hk h, fun h => absurd hk h, fun h => absurd hk h, fun h => absurd hk h, t0⟩
theorem hand_g {sh : Shp} {f : Nat → Int} {pl : Int → Pl} {h : Nat} {s : RmS} (hk : ¬ s.j.kind = 1) (t0 : s.told = ⟨false, 0⟩) (ga : there sh s.j.a) (g0 : s.st = 0 ∨ s.st = 1 ∨ s.st = 2 → pl s.j.a = .own h) (g2 : s.st = 2 → s.gn = gen sh f s.j.a)
    (g3 : s.st = 3 ∨ s.st = 4 ∨ s.st = 5 → pl s.j.a = .dy h) (g4 : s.st = 4 ∨ s.st = 5 → Rd f s.g) (g5 : s.st = 5 → lnk sh f s.j.a = idx s.g) : Hand sh f pl h s :=
  ⟨fun h => absurd h hk, fun h => absurd h hk, fun h => absurd h hk, fun h => absurd h hk, fun _ => ga, fun _ => g0, fun _ => g2, fun _ => g3, fun _ => g4, fun _ => g5, t0⟩
theorem lnk_put {sh : Shp} {f : Nat → Int} {p : Nat} {v x : Int} (hp : p ≠ 0) (hx : ¬ there sh x) : lnk sh (putF f p v) x = lnk sh f x := by
  unfold lnk linkAt putF
  rw [if_neg hx, if_neg (by simpa using fun h => hp h.symm)]
theorem put45 {f : Nat → Int} {p : Nat} {v : Int} (h4 : p ≠ 4) (h5 : p ≠ 5) : putF f p v 4 = f 4 ∧ putF f p v 5 = f 5 := by
  unfold putF; rw [if_neg (fun h => h4 h.symm), if_neg (fun h => h5 h.symm)]; exact ⟨rfl, rfl⟩
theorem bmp_idx {g i : Int} (hi : 0 ≤ i ∧ i < 4294967296) : idx (bmp g i) = i := by
  unfold idx bmp hd; omega
theorem bmp_tag {g i : Int} (hg : 0 ≤ tag g ∧ tag g < 4294967295) : tag (bmp g i) = tag g + 1 := by
  unfold tag bmp hd at *; omega
theorem hd_idx {x g : Int} (hx : 0 ≤ x ∧ x < 4294967296) : idx (hd x g) = x := by
  unfold idx hd; omega
theorem use_gen {j : Jb} {gn : Int} (hg : 0 ≤ gn) : useW j gn / 4294967296 = gn ∧ useW j gn % 2 = 1 := by
  unfold useW packW bit
  constructor
  · repeat' split
    all_goals omega
  · repeat' split
    all_goals first | omega | simp_all
structure OwF (P : Par) (Ow : Nat → Nat → List Int) (h d : Nat) (a : Ans) : Prop where
  back : (P.jb h d).kind = 2 → ∃ q : Nat, (Ow h d)[q]? = some (P.jb h d).a ∧ Ow h (d + 1) = (Ow h d).set q 0
  more : (P.jb h d).kind = 1 → a.ok = true → Ow h (d + 1) = Ow h d ++ [wrap64 (bits .and .u64 a.val 4294967295)]
  same : (P.jb h d).kind = 1 → ¬ a.ok = true → Ow h (d + 1) = Ow h d
  next : d + 1 < P.jn h → (P.jb h (d + 1)).kind = 2 → ∃ q : Nat, (Ow h (d + 1))[q]? = some (P.jb h (d + 1)).a
section
variable {sh : Shp} {P : Par} {Ow : Nat → Nat → List Int} {f f' : Nat → Int} {done : Nat → Nat} {cur : Nat → RmS} {ans : Nat → Nat → Ans} {k h : Nat} {C : List Int} {pl pl' : Int → Pl}
theorem err_two {sh : Shp} {h : Int} {j : Jb} (he : rerr false sh h j = 0) : j.kind = 1 ∨ (j.kind = 2 ∧ there sh j.a) := by
  by_cases h1 : j.kind = 1
  · exact .inl h1
  · right
    refine ⟨?_, err_there he h1⟩
    simp only [rerr, if_neg (show ¬ false = true by decide), if_neg h1] at he
    by_cases h2 : j.kind = 2
    · exact h2
    · rw [if_neg h2] at he; cases he
theorem hand_init {j : Jb} {hv : Int} (he : rerr false sh hv j = 0) (ho : j.kind = 2 → pl j.a = .own h) : Hand sh f pl h (rinit sh hv j) ∧ (rinit sh hv j).st = (if (rinit sh hv j).j.kind = 1 then 0 else (rinit sh hv j).st) := by
  rcases err_two he with hk | ⟨hk, ht⟩
  · refine ⟨hand_m hk rfl ?_ ?_ ?_ ?_, ?_⟩
    · simp [rinit, hk]
    · simp [rinit, hk]
    · simp [rinit, hk]
    · simp [rinit, hk]
    · simp [rinit, hk]
  · have hk1 : ¬ j.kind = 1 := by omega
    have hst : (rinit sh hv j).st = 0 ∨ (rinit sh hv j).st = 1 := by
      simp only [rinit, if_neg hk1]
      split
      · exact .inl rfl
      · exact .inr rfl
    have n2 : ∀ v : Int, 2 ≤ v → ¬ (rinit sh hv j).st = v := fun v hv' e => by omega
    refine ⟨hand_g hk1 rfl ht (fun _ => ho hk) (fun e => absurd e (n2 2 (by decide))) (fun e => ?_) (fun e => ?_) (fun e => absurd e (n2 5 (by decide))), ?_⟩
    · rcases e with e | e | e
      · exact absurd e (n2 3 (by decide))
      · exact absurd e (n2 4 (by decide))
      · exact absurd e (n2 5 (by decide))
    · rcases e with e | e
      · exact absurd e (n2 4 (by decide))
      · exact absurd e (n2 5 (by decide))
    · rw [if_neg (show ¬ (rinit sh hv j).j.kind = 1 from hk1)]
variable (h5 : Shape.R5 sh.a sh.b sh.c sh.d sh.e) (hn : (P.n : Int) = all0 sh) (I : Inv sh P Ow f done cur ans k C pl) (hh : h < P.nh) (hdn : done h < P.jn h) (hk6 : k < 65536)
include h5 hn I hh hdn hk6
theorem step_m {hand : Int} {j : Jb} {st g xb gn sl : Int} {told : Ans} (hs : cur h = ⟨hand, j, st, g, xb, gn, sl, told⟩) (W : Wf sh (cur h)) (hk : j.kind = 1) (hne : ¬ rends sh (cur h) (stepOf P.n f (rreq sh (cur h))) = true) :
    ∃ C' pl', Inv sh P Ow (wordsOf P.n f (rreq sh (cur h))) done (upd cur h (rnext sh (cur h) (stepOf P.n f (rreq sh (cur h))))) ans (k + 1) C' pl' := by
  have H := I.hand h hh hdn
  have N := n13 h5 hn
  have p1 : (0 : Int) ≤ 1 ∧ (1 : Int) < P.n := by omega
  have hst := W.st
  have hth := W.th
  have hxb := W.xb
  have MK := I.mak h
  have DY := I.dy h
  have UM := I.um h hh hdn
  have nogiv : ∀ {s' : RmS} x, GivS (cur h) x → GivS s' x := fun x hx => absurd (by rw [hs]; exact hk) hx.1
  have nody : ∀ x, there sh x → ¬ pl x = .dy h := fun x hx e => (DY x hx e).2.2.1 (by rw [hs]; exact hk)
  rw [hs] at H hst hth hxb MK UM hne ⊢
  simp only at hst hth hxb MK UM
  have t0 := H.t0
  rcases hst with ⟨-, rfl | rfl | rfl | rfl | rfl | rfl⟩ | ⟨h', _⟩
  · -- load Free
    have er : rreq sh ⟨hand, j, 0, g, xb, gn, sl, told⟩ = ⟨hand, 1, 1, 0, 0, true⟩ := by simp [rreq, hk]
    rw [er] at hne ⊢
    obtain ⟨ef, eh⟩ := load_eff (f := f) (hand := hand) p1
    by_cases ht : there sh (idx (f 1))
    · have en : rnext sh ⟨hand, j, 0, g, xb, gn, sl, told⟩ (stepOf P.n f ⟨hand, 1, 1, 0, 0, true⟩) = ⟨hand, j, 1, f 1, xb, gn, sl, told⟩ := by
        simp only [rnext, hk, if_true, eh]
        rw [if_pos (show there sh (idx (f (Int.toNat 1))) from ht)]; rfl
      rw [ef, en]
      exact ⟨C, pl, I.still hh hdn (Sv.refl _ _) (.inr rfl) (hand_m hk t0 (fun _ => ⟨Int.le_refl _, fun _ => rfl⟩) (fun e => by simp at e) (fun e => by simp at e) (fun e => by simp at e))
        (fun x hx e => absurd (MK x hx e).2.2.2.1 (by decide)) (fun x hx e => absurd e (nody x hx)) nogiv (fun _ e => by simp at e) (by rw [hs]; simp [holdS, gvS, hk]) ⟨rfl, rfl⟩⟩
    · exfalso
      apply hne
      simp only [rends, hk, if_true, eh]
      show (!decide (there sh (idx (f 1)))) = true
      simp [ht]
  · -- load the link
    have htg := hth hk (by decide)
    have hL := link_nat h5 htg
    have er : rreq sh ⟨hand, j, 1, g, xb, gn, sl, told⟩ = ⟨hand, 1, linkAt sh (idx g), 0, 0, true⟩ := by simp [rreq, hk]
    rw [er]
    obtain ⟨ef, eh⟩ := load_eff (f := f) (hand := hand) (p := linkAt sh (idx g)) (n := P.n) (by omega)
    have en : rnext sh ⟨hand, j, 1, g, xb, gn, sl, told⟩ (stepOf P.n f ⟨hand, 1, linkAt sh (idx g), 0, 0, true⟩) = ⟨hand, j, 2, g, lnk sh f (idx g), gn, sl, told⟩ := by
      simp only [rnext, hk, if_true, eh]; rfl
    rw [ef, en]
    exact ⟨C, pl, I.still hh hdn (Sv.refl _ _) (.inr rfl) (hand_m hk t0 (fun _ => H.m1 hk (.inl rfl)) (fun _ _ => rfl) (fun e => by simp at e) (fun e => by simp at e))
      (fun x hx e => absurd (MK x hx e).2.2.2.1 (by decide)) (fun x hx e => absurd e (nody x hx)) nogiv (fun _ e => by simp at e) (by rw [hs]; simp [holdS, gvS, hk]) ⟨rfl, rfl⟩⟩
  · -- CAS Free
    have htg := hth hk (by decide)
    have hxb' := hxb hk (by decide) (by decide)
    have er : rreq sh ⟨hand, j, 2, g, xb, gn, sl, told⟩ = ⟨hand, 5, 1, g, bmp g xb, true⟩ := by simp [rreq, hk]
    rw [er]
    by_cases ho : f 1 = g
    · obtain ⟨ef, eo⟩ := cas_yes (f := f) (hand := hand) (v := bmp g xb) p1 (show f (1 : Int).toNat = g from ho)
      have en : rnext sh ⟨hand, j, 2, g, xb, gn, sl, told⟩ (stepOf P.n f ⟨hand, 5, 1, g, bmp g xb, true⟩) = ⟨hand, j, 3, g, xb, gn, sl, told⟩ := by
        simp [rnext, hk, eo]
      rw [ef, en, show (1 : Int).toNat = 1 from rfl]
      have hx := H.m2 hk rfl ho
      simp only at hx
      have hc := I.chain
      rw [ho] at hc
      match hC : C, hc with
      | [], hc =>
        exfalso
        have := htg.1
        have hc' : idx g = 0 := hc
        omega
      | x0 :: C1, hc =>
        obtain ⟨e0, ht0, hc1⟩ := hc
        have hnod := I.nod
        have hfree := I.free
        have pf : pl x0 = .free := ((hfree x0).1 (by simp)).2
        have hn0 : x0 ∉ C1 := (List.nodup_cons.1 hnod).1
        have eg : tag (bmp g xb) = tag (f 1) + 1 := by rw [ho]; have := I.tagk; rw [ho] at this; exact bmp_tag (by omega)
        have o1 : ∀ {x}, x ≠ x0 → updI pl x0 (Pl.mk h) x = pl x := fun e => updI_other _ _ e
        have s1 : updI pl x0 (Pl.mk h) x0 = Pl.mk h := updI_same _ _ _
        refine ⟨C1, updI pl x0 (.mk h), I.goes hh hdn ?ch (List.nodup_cons.1 hnod).2 ?free (hand_m hk t0 (fun e => by simp at e) (fun e => by simp at e) (fun _ => ?m3) (fun e => by simp at e)) ?hpl ?hpi (fun i _ x hx' _ => ⟨(put1 h5 hx').1, (put1 h5 hx').2.1⟩) (fun i _ x hx' _ => (put1 h5 hx').2.2) (.inr ?h1) ?mk ?dy ?own nogiv ?gn ?us (fun _ e => by simp at e) (by rw [hs]; simp [holdS, gvS, hk]) (put45 (by decide) (by decide))⟩
        case ch =>
          show Ch sh (putF f 1 (bmp g xb)) (idx (putF f 1 (bmp g xb) 1)) C1
          rw [show putF f 1 (bmp g xb) 1 = bmp g xb by simp [putF], bmp_idx hxb', hx, e0]
          exact Ch.congr (fun y hy => (put1 h5 ((hfree y).1 (by simp [hy])).1).2.2) hc1
        case free =>
          intro x
          by_cases e : x = x0
          · subst e
            rw [s1]
            exact ⟨fun h => absurd h hn0, fun h => (by cases h.2)⟩
          · rw [o1 e, ← hfree x]
            simp [e]
        case m3 => exact ⟨htg, by show updI pl x0 (Pl.mk h) (idx g) = _; rw [e0]; exact s1⟩
        case hpl =>
          intro i hi x hx'
          exact o1 (fun e => by subst e; rw [pf] at hx'; rcases hx' with h | h | h <;> cases h)
        case hpi =>
          intro i hi x hx'
          refine o1 (fun e => ?_)
          subst e; rw [s1] at hx'
          rcases hx' with h | h
          · cases h; exact hi rfl
          · cases h
        case h1 => show tag (putF f 1 (bmp g xb) 1) = _; rw [show putF f 1 (bmp g xb) 1 = bmp g xb by simp [putF]]; exact eg
        case mk =>
          intro x hx' e
          by_cases ex : x = x0
          · exact ⟨hk, .inl rfl, e0.trans ex.symm⟩
          · rw [o1 ex] at e
            exact absurd (MK x hx' e).2.2.2.1 (by decide)
        case dy =>
          intro x hx' e
          by_cases ex : x = x0
          · subst ex; rw [s1] at e; cases e
          · rw [o1 ex] at e
            exact absurd e (nody x hx')
        case own =>
          intro x hx' e
          refine .inl ((o1 (fun ex => ?_)).trans e)
          subst ex; rw [pf] at e; cases e
        case gn =>
          intro x hx'
          rw [(put1 h5 hx').1]
          refine ⟨(I.gn x hx').1, ?_⟩
          by_cases ex : x = x0
          · subst ex; rw [s1, pf]; rfl
          · rw [o1 ex]
        case us =>
          intro x hx'
          rw [(put1 h5 hx').2.1]
          by_cases ex : x = x0
          · subst ex; rw [s1]
            exact ⟨fun h => (by rcases h with h | ⟨_, h⟩ <;> cases h), fun ⟨_, h⟩ => (by cases h)⟩
          · rw [o1 ex]; exact I.us x hx'
    · obtain ⟨ef, eo⟩ := cas_no (f := f) (hand := hand) (v := bmp g xb) p1 (show ¬ f (1 : Int).toNat = g from ho)
      have en : rnext sh ⟨hand, j, 2, g, xb, gn, sl, told⟩ (stepOf P.n f ⟨hand, 5, 1, g, bmp g xb, true⟩) = ⟨hand, j, 0, g, xb, gn, sl, told⟩ := by
        simp [rnext, hk, eo]
      rw [ef, en]
      exact ⟨C, pl, I.still hh hdn (Sv.refl _ _) (.inr rfl) (hand_m hk t0 (fun e => by simp at e) (fun e => by simp at e) (fun e => by simp at e) (fun e => by simp at e))
        (fun x hx e => absurd (MK x hx e).2.2.2.1 (by decide)) (fun x hx e => absurd e (nody x hx)) nogiv (fun _ e => by simp at e) (by rw [hs]; simp [holdS, gvS, hk]) ⟨rfl, rfl⟩⟩
  · -- load the head
    have htg := hth hk (by decide)
    have hL := head_nat h5 htg
    have er : rreq sh ⟨hand, j, 3, g, xb, gn, sl, told⟩ = ⟨hand, 1, headAt sh (idx g), 0, 0, true⟩ := by simp [rreq, hk]
    rw [er]
    obtain ⟨ef, eh⟩ := load_eff (f := f) (hand := hand) (p := headAt sh (idx g)) (n := P.n) (by omega)
    have en : rnext sh ⟨hand, j, 3, g, xb, gn, sl, told⟩ (stepOf P.n f ⟨hand, 1, headAt sh (idx g), 0, 0, true⟩) = ⟨hand, j, 4, g, xb, gen sh f (idx g), sl, told⟩ := by
      simp only [rnext, hk, if_true, eh]; rfl
    rw [ef, en]
    exact ⟨C, pl, I.still hh hdn (Sv.refl _ _) (.inr rfl) (hand_m hk t0 (fun e => by simp at e) (fun e => by simp at e) (fun _ => H.m3 hk (.inl rfl)) (fun _ => rfl))
      (fun x hx e => ⟨hk, .inr (.inl rfl), (MK x hx e).2.2.2.2⟩) (fun x hx e => absurd e (nody x hx)) nogiv (fun _ e => by simp at e) (by rw [hs]; simp [holdS, gvS, hk]) ⟨rfl, rfl⟩⟩
  · -- store the head
    have htg := hth hk (by decide)
    have hL := head_nat h5 htg
    have er : rreq sh ⟨hand, j, 4, g, xb, gn, sl, told⟩ = ⟨hand, 2, headAt sh (idx g), 0, useW j gn, true⟩ := by simp [rreq, hk]
    rw [er]
    have ef := store_eff (f := f) (hand := hand) (v := useW j gn) (p := headAt sh (idx g)) (n := P.n) (by omega)
    have en : rnext sh ⟨hand, j, 4, g, xb, gn, sl, told⟩ (stepOf P.n f ⟨hand, 2, headAt sh (idx g), 0, useW j gn, true⟩) = ⟨hand, j, 5, g, xb, gn, sl, told⟩ := by
      simp [rnext, hk]
    rw [ef, en]
    have hpm := (H.m3 hk (.inr (.inl rfl))).2
    have hgn := H.m4 hk (.inl rfl)
    simp only at hpm hgn
    obtain ⟨u1, u2⟩ := use_gen (j := j) (gn := gn) (by rw [hgn]; exact (I.gn _ htg).1)
    have hfr : ∀ x, there sh x → gen sh (putF f (headAt sh (idx g)).toNat (useW j gn)) x = gen sh f x := fun x hx => by
      rw [(putH h5 htg hx).2.1]
      split
      · rename_i e; rw [e, u1, hgn]
      · rfl
    have hus : ∀ x, there sh x → x ≠ idx g → usd sh (putF f (headAt sh (idx g)).toNat (useW j gn)) x = usd sh f x := fun x hx e => by
      rw [(putH h5 htg hx).2.2.1, if_neg e]
    have hlk : ∀ x, there sh x → lnk sh (putF f (headAt sh (idx g)).toNat (useW j gn)) x = lnk sh f x := fun x hx => (putH h5 htg hx).2.2.2
    have h1e : putF f (headAt sh (idx g)).toNat (useW j gn) 1 = f 1 := (putH h5 htg htg).1
    refine ⟨C, pl, I.goes hh hdn ?ch I.nod I.free (hand_m hk t0 (fun e => by simp at e) (fun e => by simp at e) (fun _ => ⟨htg, hpm⟩) (fun _ => by show gn = _; rw [hfr _ htg]; exact hgn)) (fun _ _ _ _ => rfl) (fun _ _ _ _ => rfl) (fun i hi x hx e => ⟨hfr x hx, hus x hx (fun ex => ?ne)⟩) (fun i _ x hx _ => hlk x hx) (.inl ⟨h1e, ?l1⟩) (fun x hx e => ⟨hk, .inr (.inr rfl), (MK x hx e).2.2.2.2⟩) (fun x hx e => absurd e (nody x hx)) (fun x _ e => .inl e) nogiv (fun x hx => by rw [hfr x hx]; exact ⟨(I.gn x hx).1, rfl⟩) ?us ?um (by rw [hs]; simp [holdS, gvS, hk]) (put45 (by omega) (by omega))⟩
    case ch => rw [h1e]; exact Ch.congr (fun y hy => hlk y ((I.free y).1 hy).1) I.chain
    case ne =>
      subst ex; rw [hpm] at e
      rcases e with e | e
      · cases e; exact hi rfl
      · cases e
    case l1 =>
      by_cases ht : there sh (idx (f 1))
      · exact hlk _ ht
      · exact lnk_put (by omega) ht
    case us =>
      intro x hx
      by_cases ex : x = idx g
      · subst ex; rw [hpm]
        exact ⟨fun h => (by rcases h with h | ⟨_, h⟩ <;> cases h), fun ⟨_, h⟩ => (by cases h)⟩
      · rw [hus x hx ex]; exact I.us x hx
    case um => intro _ _; show usd sh _ (idx g) = 1; rw [(putH h5 htg htg).2.2.1, if_pos rfl, u2]
  · exact absurd (by simp [rends, hk]) hne
  · exact absurd hk h'
theorem step_g {hand : Int} {j : Jb} {st g xb gn sl : Int} {told : Ans} (hs : cur h = ⟨hand, j, st, g, xb, gn, sl, told⟩) (W : Wf sh (cur h)) (hk : ¬ j.kind = 1) (hne : ¬ rends sh (cur h) (stepOf P.n f (rreq sh (cur h))) = true) :
    ∃ C' pl', Inv sh P Ow (wordsOf P.n f (rreq sh (cur h))) done (upd cur h (rnext sh (cur h) (stepOf P.n f (rreq sh (cur h))))) ans (k + 1) C' pl' := by
  have H := I.hand h hh hdn
  have N := n13 h5 hn
  have p1 : (0 : Int) ≤ 1 ∧ (1 : Int) < P.n := by omega
  have hst := W.st
  have hsl := W.sl
  have MK := I.mak h
  have DY := I.dy h
  have nomk : ∀ x, there sh x → ¬ pl x = .mk h := fun x hx e => hk (by have := (MK x hx e).2.2.1; rw [hs] at this; exact this)
  rw [hs] at H hst hsl DY hne ⊢
  simp only at hst hsl DY
  have t0 := H.t0
  have ht := H.ga hk
  simp only at ht
  have hHd := head_nat h5 ht
  have hLk := link_nat h5 ht
  rcases hst with ⟨h', _⟩ | ⟨-, rfl | rfl | rfl | rfl | rfl | rfl | rfl⟩
  · exact absurd h' hk
  · -- store 0 to a slot
    have hsn := hsl hk rfl
    have hS := slot_nat h5 hsn
    have hown : pl j.a = .own h := H.g0 hk (.inl rfl)
    have er : rreq sh ⟨hand, j, 0, g, xb, gn, sl, told⟩ = ⟨hand, 2, slotAt sh j.a sl, 0, 0, true⟩ := by simp [rreq, hk]
    rw [er]
    have ef := store_eff (f := f) (hand := hand) (v := 0) (p := slotAt sh j.a sl) (n := P.n) (by omega)
    rw [ef]
    have sv : Sv sh f (putF f (slotAt sh j.a sl).toNat 0) := ⟨(putS h5 hsn ht).1, fun x hx => (putS h5 hsn hx).2⟩
    have hl0 : there sh (idx (f 1)) ∨ lnk sh (putF f (slotAt sh j.a sl).toNat 0) (idx (f 1)) = lnk sh f (idx (f 1)) := by
      by_cases e : there sh (idx (f 1))
      · exact .inl e
      · exact .inr (lnk_put (by omega) e)
    have giv : ∀ {s' : RmS} x, GivS (cur h) x → GivS s' x := fun x hx => by
      rw [hs] at hx
      have h9 := hx.2.2
      simp at h9
    by_cases hmore : slotIn sh j.a (sl + 1)
    · have en : rnext sh ⟨hand, j, 0, g, xb, gn, sl, told⟩ (stepOf P.n f ⟨hand, 2, slotAt sh j.a sl, 0, 0, true⟩) = ⟨hand, j, 0, g, xb, gn, sl + 1, told⟩ := by
        simp [rnext, hk, hmore]
      rw [en]
      exact ⟨C, pl, I.still hh hdn sv hl0 (hand_g hk t0 ht (fun _ => hown) (fun e => by simp at e) (fun e => by simp at e) (fun e => by simp at e) (fun e => by simp at e))
        (fun x hx e => absurd e (nomk x hx)) (fun x hx e => absurd (DY x hx e).2.2.2.1 (by decide)) giv (fun a _ => absurd a hk) (by rw [hs]; simp [holdS, gvS, hk]) (put45 (by omega) (by omega))⟩
    · have en : rnext sh ⟨hand, j, 0, g, xb, gn, sl, told⟩ (stepOf P.n f ⟨hand, 2, slotAt sh j.a sl, 0, 0, true⟩) = ⟨hand, j, 1, g, xb, gn, sl + 1, told⟩ := by
        simp [rnext, hk, hmore]
      rw [en]
      exact ⟨C, pl, I.still hh hdn sv hl0 (hand_g hk t0 ht (fun _ => hown) (fun e => by simp at e) (fun e => by simp at e) (fun e => by simp at e) (fun e => by simp at e))
        (fun x hx e => absurd e (nomk x hx)) (fun x hx e => absurd (DY x hx e).2.2.2.1 (by decide)) giv (fun a _ => absurd a hk) (by rw [hs]; simp [holdS, gvS, hk]) (put45 (by omega) (by omega))⟩
  · -- load the head
    have hown : pl j.a = .own h := H.g0 hk (.inr (.inl rfl))
    have er : rreq sh ⟨hand, j, 1, g, xb, gn, sl, told⟩ = ⟨hand, 1, headAt sh j.a, 0, 0, true⟩ := by simp [rreq, hk]
    rw [er]
    obtain ⟨ef, eh⟩ := load_eff (f := f) (hand := hand) (p := headAt sh j.a) (n := P.n) (by omega)
    have en : rnext sh ⟨hand, j, 1, g, xb, gn, sl, told⟩ (stepOf P.n f ⟨hand, 1, headAt sh j.a, 0, 0, true⟩) = ⟨hand, j, 2, g, xb, gen sh f j.a, sl, told⟩ := by
      simp [rnext, hk, eh]; rfl
    rw [ef, en]
    exact ⟨C, pl, I.still hh hdn (Sv.refl _ _) (.inr rfl) (hand_g hk t0 ht (fun _ => hown) (fun _ => rfl) (fun e => by simp at e) (fun e => by simp at e) (fun e => by simp at e))
      (fun x hx e => absurd e (nomk x hx)) (fun x hx e => absurd (DY x hx e).2.2.2.1 (by decide)) (fun x hx => by rw [hs] at hx; have h9 := hx.2.2; simp at h9) (fun a _ => absurd a hk) (by rw [hs]; simp [holdS, gvS, hk]) ⟨rfl, rfl⟩⟩
  · -- store the head
    have hown : pl j.a = .own h := H.g0 hk (.inr (.inr rfl))
    have hgn : gn = gen sh f j.a := H.g2 hk rfl
    have hg := I.gn j.a ht
    rw [hown] at hg
    simp only [lv] at hg
    have er : rreq sh ⟨hand, j, 2, g, xb, gn, sl, told⟩ = ⟨hand, 2, headAt sh j.a, 0, hd 0 (nxg gn), true⟩ := by simp [rreq, hk]
    rw [er]
    have hnx : nxg gn = gn + 1 := by unfold nxg; rw [if_neg (by omega)]
    have hv1 : hd 0 (nxg gn) / 4294967296 = gn + 1 := by rw [hnx]; unfold Go.Proofs.YtidihnnmdmlgfaaGreat.hd; omega
    have hv2 : hd 0 (nxg gn) % 2 = 0 := by rw [hnx]; unfold Go.Proofs.YtidihnnmdmlgfaaGreat.hd; omega
    have ef := store_eff (f := f) (hand := hand) (v := hd 0 (nxg gn)) (p := headAt sh j.a) (n := P.n) (by omega)
    have en : rnext sh ⟨hand, j, 2, g, xb, gn, sl, told⟩ (stepOf P.n f ⟨hand, 2, headAt sh j.a, 0, hd 0 (nxg gn), true⟩) = ⟨hand, j, 3, g, xb, gn, sl, told⟩ := by
      have : ¬ gn = 4294967295 := by omega
      simp [rnext, hk, this]
    rw [ef, en]
    have PH := fun x (hx : there sh x) => putH h5 (f := f) (v := hd 0 (nxg gn)) ht hx
    generalize hd 0 (nxg gn) = v at PH hv1 hv2
    have o1 : ∀ {x}, x ≠ j.a → updI pl j.a (Pl.dy h) x = pl x := fun e => updI_other _ _ e
    have s1 : updI pl j.a (Pl.dy h) j.a = Pl.dy h := updI_same _ _ _
    refine ⟨C, updI pl j.a (.dy h), I.goes hh hdn ?ch I.nod ?free (hand_g hk t0 ht (fun e => by simp at e) (fun e => by simp at e) (fun _ => s1) (fun e => by simp at e) (fun e => by simp at e)) ?hpl ?hpi (fun i hi x hx e => ?hg) (fun i _ x hx _ => (PH x hx).2.2.2) (.inl ⟨(PH j.a ht).1, ?l1⟩) ?mk ?dy ?own (fun x hx => by rw [hs] at hx; have h9 := hx.2.2; simp at h9) ?gn ?us (fun a _ => absurd a hk) (by rw [hs]; simp [holdS, gvS, hk]) (put45 (by omega) (by omega))⟩
    case ch => rw [(PH j.a ht).1]; exact Ch.congr (fun y hy => (PH y ((I.free y).1 hy).1).2.2.2) I.chain
    case free =>
      intro x
      rw [I.free x]
      by_cases e : x = j.a
      · subst e; rw [s1, hown]
        exact ⟨fun h => (by cases h.2), fun h => (by cases h.2)⟩
      · rw [o1 e]
    case hpl =>
      intro i hi x hx
      refine o1 (fun e => ?_)
      subst e; rw [hown] at hx
      rcases hx with h | h | h
      · cases h
      · cases h; exact hi rfl
      · cases h
    case hpi =>
      intro i hi x hx
      refine o1 (fun e => ?_)
      subst e; rw [s1] at hx
      rcases hx with h | h
      · cases h
      · cases h; exact hi rfl
    case hg =>
      have ne : x ≠ j.a := fun ex => by
        subst ex; rw [hown] at e
        rcases e with e | e
        · cases e
        · cases e; exact hi rfl
      rw [(PH x hx).2.1, (PH x hx).2.2.1, if_neg ne, if_neg ne]
      exact ⟨rfl, rfl⟩
    case l1 =>
      by_cases e : there sh (idx (f 1))
      · exact (PH _ e).2.2.2
      · exact lnk_put (by omega) e
    case mk =>
      intro x hx e
      by_cases ex : x = j.a
      · subst ex; rw [s1] at e; cases e
      · rw [o1 ex] at e; exact absurd e (nomk x hx)
    case dy =>
      intro x hx e
      by_cases ex : x = j.a
      · exact ⟨hk, .inl rfl, ex.symm⟩
      · rw [o1 ex] at e; exact absurd (DY x hx e).2.2.2.1 (by decide)
    case own =>
      intro x hx e
      by_cases ex : x = j.a
      · exact .inr ⟨hk, ex.symm, .inl rfl⟩
      · exact .inl ((o1 ex).trans e)
    case gn =>
      intro x hx
      rw [(PH x hx).2.1]
      by_cases ex : x = j.a
      · subst ex; rw [s1, hown, if_pos rfl, hv1, hgn]
        exact ⟨by omega, by simp only [lv]; omega⟩
      · rw [o1 ex, if_neg ex]; exact ⟨(I.gn x hx).1, rfl⟩
    case us =>
      intro x hx
      rw [(PH x hx).2.2.1]
      by_cases ex : x = j.a
      · subst ex; rw [s1, if_pos rfl, hv2]
        exact ⟨fun _ => rfl, fun ⟨_, h⟩ => (by cases h)⟩
      · rw [o1 ex, if_neg ex]; exact I.us x hx
  · -- load Free
    have hdy : pl j.a = .dy h := H.g3 hk (.inl rfl)
    have er : rreq sh ⟨hand, j, 3, g, xb, gn, sl, told⟩ = ⟨hand, 1, 1, 0, 0, true⟩ := by simp [rreq, hk]
    rw [er]
    obtain ⟨ef, eh⟩ := load_eff (f := f) (hand := hand) p1
    have en : rnext sh ⟨hand, j, 3, g, xb, gn, sl, told⟩ (stepOf P.n f ⟨hand, 1, 1, 0, 0, true⟩) = ⟨hand, j, 4, f 1, xb, gn, sl, told⟩ := by
      simp [rnext, hk, eh]
    rw [ef, en]
    exact ⟨C, pl, I.still hh hdn (Sv.refl _ _) (.inr rfl) (hand_g hk t0 ht (fun e => by simp at e) (fun e => by simp at e) (fun _ => hdy) (fun _ => ⟨Int.le_refl _, fun _ => rfl⟩) (fun e => by simp at e))
      (fun x hx e => absurd e (nomk x hx)) (fun x hx e => ⟨hk, .inr (.inl rfl), (DY x hx e).2.2.2.2⟩) (fun x hx => by rw [hs] at hx; exact ⟨hk, hx.2.1, .inr (.inl rfl)⟩) (fun a _ => absurd a hk) (by rw [hs]; simp [holdS, gvS, hk]) ⟨rfl, rfl⟩⟩
  · -- store the link
    have hdy : pl j.a = .dy h := H.g3 hk (.inr (.inl rfl))
    have er : rreq sh ⟨hand, j, 4, g, xb, gn, sl, told⟩ = ⟨hand, 2, linkAt sh j.a, 0, idx g, true⟩ := by simp [rreq, hk]
    rw [er]
    have ef := store_eff (f := f) (hand := hand) (v := idx g) (p := linkAt sh j.a) (n := P.n) (by omega)
    have en : rnext sh ⟨hand, j, 4, g, xb, gn, sl, told⟩ (stepOf P.n f ⟨hand, 2, linkAt sh j.a, 0, idx g, true⟩) = ⟨hand, j, 5, g, xb, gn, sl, told⟩ := by
      simp [rnext, hk]
    rw [ef, en]
    have PH := fun x (hx : there sh x) => putL h5 (f := f) (v := idx g) ht hx
    have ii : idx (idx g) = idx g := by unfold idx; omega
    rw [ii] at PH
    have ne : ∀ x, there sh x → pl x = .free ∨ (∃ i, i ≠ h ∧ pl x = .dy i) → x ≠ j.a := fun x hx e ex => by
      subst ex; rw [hdy] at e
      rcases e with e | ⟨i, hi, e⟩
      · cases e
      · cases e; exact hi rfl
    refine ⟨C, pl, I.goes hh hdn ?ch I.nod I.free (hand_g hk t0 ht (fun e => by simp at e) (fun e => by simp at e) (fun _ => hdy) (fun _ => ?g4) (fun _ => ?g5)) (fun _ _ _ _ => rfl) (fun _ _ _ _ => rfl) (fun i _ x hx _ => ⟨(PH x hx).2.1, (PH x hx).2.2.1⟩) (fun i hi x hx e => ?hl) (.inl ⟨(PH j.a ht).1, ?l1⟩) (fun x hx e => absurd e (nomk x hx)) (fun x hx e => ⟨hk, .inr (.inr rfl), (DY x hx e).2.2.2.2⟩) (fun x _ e => .inl e) (fun x hx => by rw [hs] at hx; exact ⟨hk, hx.2.1, .inr (.inr (.inl rfl))⟩) (fun x hx => by rw [(PH x hx).2.1]; exact ⟨(I.gn x hx).1, rfl⟩) (fun x hx => by rw [(PH x hx).2.2.1]; exact I.us x hx) (fun a _ => absurd a hk) (by rw [hs]; simp [holdS, gvS, hk]) (put45 (by omega) (by omega))⟩
    case ch => rw [(PH j.a ht).1]; exact Ch.congr (fun y hy => by have hy' := (I.free y).1 hy; rw [(PH y hy'.1).2.2.2, if_neg (ne y hy'.1 (.inl hy'.2))]) I.chain
    case g4 => exact (H.g4 hk (.inl rfl)).keep (.inl (PH j.a ht).1)
    case g5 => show lnk sh _ j.a = idx g; rw [(PH j.a ht).2.2.2, if_pos rfl]
    case hl => rw [(PH x hx).2.2.2, if_neg (ne x hx (.inr ⟨i, hi, e⟩))]
    case l1 =>
      by_cases e : there sh (idx (f 1))
      · rw [(PH _ e).2.2.2, if_neg (ne _ e (.inl ?_))]
        have hc := I.chain
        have hf := I.free (idx (f 1))
        match C, hc, hf with
        | [], hc, _ => have := e.1; have hc' : idx (f 1) = 0 := hc; omega
        | x0 :: C1, hc, hf => exact (hf.1 (by rw [hc.1]; simp)).2
      · exact lnk_put (by omega) e
  · -- CAS Free
    have hdy : pl j.a = .dy h := H.g3 hk (.inr (.inr rfl))
    have hlk : lnk sh f j.a = idx g := H.g5 hk rfl
    have ha : 0 ≤ j.a ∧ j.a < 4294967296 := by have := ht.1; have := ht.2; have := h5.1.2; omega
    have er : rreq sh ⟨hand, j, 5, g, xb, gn, sl, told⟩ = ⟨hand, 5, 1, g, bmp g j.a, true⟩ := by simp [rreq, hk]
    rw [er]
    by_cases ho : f 1 = g
    · obtain ⟨ef, eo⟩ := cas_yes (f := f) (hand := hand) (v := bmp g j.a) p1 (show f (1 : Int).toNat = g from ho)
      have en : rnext sh ⟨hand, j, 5, g, xb, gn, sl, told⟩ (stepOf P.n f ⟨hand, 5, 1, g, bmp g j.a, true⟩) = ⟨hand, j, 6, g, xb, gn, sl, told⟩ := by
        simp [rnext, hk, eo]
      rw [ef, en, show (1 : Int).toNat = 1 from rfl]
      have eg : tag (bmp g j.a) = tag (f 1) + 1 := by rw [ho]; have := I.tagk; rw [ho] at this; exact bmp_tag (by omega)
      have e1 : putF f 1 (bmp g j.a) 1 = bmp g j.a := by simp [putF]
      have o1 : ∀ {x}, x ≠ j.a → updI pl j.a Pl.free x = pl x := fun e => updI_other _ _ e
      have s1 : updI pl j.a Pl.free j.a = Pl.free := updI_same _ _ _
      have hn0 : j.a ∉ C := fun hm => by have := ((I.free j.a).1 hm).2; rw [hdy] at this; cases this
      refine ⟨j.a :: C, updI pl j.a .free, I.goes hh hdn ?ch (List.nodup_cons.2 ⟨hn0, I.nod⟩) ?free (hand_g hk t0 ht (fun e => by simp at e) (fun e => by simp at e) (fun e => by simp at e) (fun e => by simp at e) (fun e => by simp at e)) ?hpl ?hpi (fun i _ x hx _ => ⟨(put1 h5 hx).1, (put1 h5 hx).2.1⟩) (fun i _ x hx _ => (put1 h5 hx).2.2) (.inr (by rw [e1]; exact eg)) ?mk ?dy ?own (fun x hx => by rw [hs] at hx; exact ⟨hk, hx.2.1, .inr (.inr (.inr rfl))⟩) ?gn ?us (fun a _ => absurd a hk) (by rw [hs]; simp [holdS, gvS, hk]) (put45 (by decide) (by decide))⟩
      case ch =>
        rw [e1, bmp_idx ha]
        refine ⟨rfl, ht, ?_⟩
        rw [(put1 h5 ht).2.2, hlk, ← ho]
        exact Ch.congr (fun y hy => (put1 h5 ((I.free y).1 hy).1).2.2) I.chain
      case free =>
        intro x
        by_cases e : x = j.a
        · subst e; rw [s1]; exact ⟨fun _ => ⟨ht, rfl⟩, fun _ => by simp⟩
        · rw [o1 e, ← I.free x]; simp [e]
      case hpl =>
        intro i hi x hx
        refine o1 (fun e => ?_)
        subst e; rw [hdy] at hx
        rcases hx with h | h | h
        · cases h
        · cases h
        · cases h; exact hi rfl
      case hpi =>
        intro i hi x hx
        refine o1 (fun e => ?_)
        subst e; rw [s1] at hx
        rcases hx with h | h <;> cases h
      case mk =>
        intro x hx e
        by_cases ex : x = j.a
        · subst ex; rw [s1] at e; cases e
        · rw [o1 ex] at e; exact absurd e (nomk x hx)
      case dy =>
        intro x hx e
        by_cases ex : x = j.a
        · subst ex; rw [s1] at e; cases e
        · rw [o1 ex] at e; exact absurd (DY x hx e).2.2.2.2.symm ex
      case own =>
        intro x hx e
        refine .inl ((o1 (fun ex => ?_)).trans e)
        subst ex; rw [hdy] at e; cases e
      case gn =>
        intro x hx
        rw [(put1 h5 hx).1]
        refine ⟨(I.gn x hx).1, ?_⟩
        by_cases ex : x = j.a
        · subst ex; rw [s1, hdy]; rfl
        · rw [o1 ex]
      case us =>
        intro x hx
        rw [(put1 h5 hx).2.1]
        by_cases ex : x = j.a
        · subst ex; rw [s1]
          exact ⟨fun _ => (I.us _ hx).1 (.inr ⟨h, hdy⟩), fun ⟨_, h⟩ => (by cases h)⟩
        · rw [o1 ex]; exact I.us x hx
    · obtain ⟨ef, eo⟩ := cas_no (f := f) (hand := hand) (v := bmp g j.a) p1 (show ¬ f (1 : Int).toNat = g from ho)
      have en : rnext sh ⟨hand, j, 5, g, xb, gn, sl, told⟩ (stepOf P.n f ⟨hand, 5, 1, g, bmp g j.a, true⟩) = ⟨hand, j, 3, g, xb, gn, sl, told⟩ := by
        simp [rnext, hk, eo]
      rw [ef, en]
      exact ⟨C, pl, I.still hh hdn (Sv.refl _ _) (.inr rfl) (hand_g hk t0 ht (fun e => by simp at e) (fun e => by simp at e) (fun _ => hdy) (fun e => by simp at e) (fun e => by simp at e))
        (fun x hx e => absurd e (nomk x hx)) (fun x hx e => ⟨hk, .inl rfl, (DY x hx e).2.2.2.2⟩) (fun x hx => by rw [hs] at hx; exact ⟨hk, hx.2.1, .inl rfl⟩) (fun a _ => absurd a hk) (by rw [hs]; simp [holdS, gvS, hk]) ⟨rfl, rfl⟩⟩
  · exact absurd (by simp [rends, hk]) hne
end
end Rom
end
end Go.Proofs.YtidihnnmdmlgfaaGreat

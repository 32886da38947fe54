/-
  Lemmas: RoomIs.
-/
import Derived.Test.YtidihnnmdmlgfaaGreatTp51
namespace Go.Proofs.YtidihnnmdmlgfaaGreat
set_option maxHeartbeats 8000000
open Go.RowKit
set_option linter.unusedVariables false
set_option linter.unusedSimpArgs false
set_option maxRecDepth 20000
section
namespace Rom
open Hp
inductive Pl where
  | free
  | mk (h : Nat)
  | own (h : Nat)
  | dy (h : Nat)
def updI {α : Type} (f : Int → α) (x : Int) (v : α) : Int → α := fun y => if y = x then v else f y
theorem updI_same {α : Type} (f : Int → α) (x : Int) (v : α) : updI f x v x = v := by simp [updI]
theorem updI_other {α : Type} (f : Int → α) {x y : Int} (v : α) (h : y ≠ x) : updI f x v y = f y := by simp [updI, h]
def tag (w : Int) : Int := w / 4294967296
def gen (sh : Shp) (f : Nat → Int) (x : Int) : Int := f (headAt sh x).toNat / 4294967296
def usd (sh : Shp) (f : Nat → Int) (x : Int) : Int := f (headAt sh x).toNat % 2
def lnk (sh : Shp) (f : Nat → Int) (x : Int) : Int := idx (f (linkAt sh x).toNat)
theorem pl_inj {b x y k l B : Int} (hb : 0 ≤ b) (hk : 0 ≤ k ∧ k < 3 + b) (hl : 0 ≤ l ∧ l < 3 + b) (e : B + (x - 1) * (3 + b) + k = B + (y - 1) * (3 + b) + l) : x = y ∧ k = l := by
  have e2 : (x - y) * (3 + b) = l - k := by
    have : (x - y) * (3 + b) = (x - 1) * (3 + b) - (y - 1) * (3 + b) := by rw [← Int.sub_mul]; congr 1; omega
    omega
  have hxy : x = y := by
    rcases Int.lt_trichotomy x y with h | h | h
    · have : (x - y) * (3 + b) ≤ (-1) * (3 + b) := Int.mul_le_mul_of_nonneg_right (by omega) (by omega)
      omega
    · exact h
    · have : 1 * (3 + b) ≤ (x - y) * (3 + b) := Int.mul_le_mul_of_nonneg_right (by omega) (by omega)
      omega
  subst hxy
  rw [Int.sub_self, Int.zero_mul] at e2
  exact ⟨rfl, by omega⟩
section
variable {sh : Shp} (h5 : Shape.R5 sh.a sh.b sh.c sh.d sh.e)
include h5
theorem head_nat {x : Int} (hx : there sh x) : ((headAt sh x).toNat : Int) = base0 sh + (x - 1) * (3 + sh.b) + 0 ∧ 8 ≤ headAt sh x ∧ headAt sh x < all0 sh := by
  have h := in_obj h5 hx (k := 0) (by have := h5.2.1; omega)
  have hb : 8 ≤ base0 sh := by
    obtain ⟨_, _, ⟨c1, _⟩, ⟨d1, _⟩, e1, _⟩ := h5
    have : 0 ≤ sh.c * sh.d := Int.mul_nonneg (by omega) (by omega)
    unfold base0; omega
  have e : headAt sh x = base0 sh + (x - 1) * (3 + sh.b) := by unfold headAt; rw [if_pos hx]; rfl
  omega
theorem link_nat {x : Int} (hx : there sh x) : ((linkAt sh x).toNat : Int) = base0 sh + (x - 1) * (3 + sh.b) + 1 ∧ 8 ≤ linkAt sh x ∧ linkAt sh x < all0 sh := by
  have h := in_obj h5 hx (k := 1) (by have := h5.2.1; omega)
  have := head_nat h5 hx
  have e : linkAt sh x = base0 sh + (x - 1) * (3 + sh.b) + 1 := by unfold linkAt; rw [if_pos hx]; rfl
  omega
theorem slot_nat {x s : Int} (hx : slotIn sh x s) : ((slotAt sh x s).toNat : Int) = base0 sh + (x - 1) * (3 + sh.b) + (3 + s) ∧ 8 ≤ slotAt sh x s ∧ slotAt sh x s < all0 sh := by
  have h := in_obj h5 hx.1 (k := 3 + s) (by have := hx.2; omega)
  have := head_nat h5 hx.1
  have e : slotAt sh x s = base0 sh + (x - 1) * (3 + sh.b) + 3 + s := by unfold slotAt; rw [if_pos hx]; rfl
  have := hx.2
  omega
theorem hh_ne {x y : Int} (hx : there sh x) (hy : there sh y) (h : x ≠ y) : (headAt sh x).toNat ≠ (headAt sh y).toNat := fun e => by
  have a := (head_nat h5 hx).1
  have b := (head_nat h5 hy).1
  rw [e, b] at a
  exact h (pl_inj h5.2.1.1 (by have := h5.2.1; omega) (by have := h5.2.1; omega) a).1.symm
theorem ll_ne {x y : Int} (hx : there sh x) (hy : there sh y) (h : x ≠ y) : (linkAt sh x).toNat ≠ (linkAt sh y).toNat := fun e => by
  have a := (link_nat h5 hx).1
  have b := (link_nat h5 hy).1
  rw [e, b] at a
  exact h (pl_inj h5.2.1.1 (by have := h5.2.1; omega) (by have := h5.2.1; omega) a).1.symm
theorem hl_ne {x y : Int} (hx : there sh x) (hy : there sh y) : (headAt sh x).toNat ≠ (linkAt sh y).toNat := fun e => by
  have a := (head_nat h5 hx).1
  have b := (link_nat h5 hy).1
  rw [e, b] at a
  have := (pl_inj h5.2.1.1 (by have := h5.2.1; omega) (by have := h5.2.1; omega) a).2
  omega
theorem sh_ne {x y s : Int} (hx : slotIn sh x s) (hy : there sh y) : (headAt sh y).toNat ≠ (slotAt sh x s).toNat := fun e => by
  have a := (slot_nat h5 hx).1
  have b := (head_nat h5 hy).1
  rw [← e, b] at a
  have := hx.2
  have := (pl_inj h5.2.1.1 (by have := h5.2.1; omega) (by have := h5.2.1; omega) a).2
  omega
theorem sl_ne {x y s : Int} (hx : slotIn sh x s) (hy : there sh y) : (linkAt sh y).toNat ≠ (slotAt sh x s).toNat := fun e => by
  have a := (slot_nat h5 hx).1
  have b := (link_nat h5 hy).1
  rw [← e, b] at a
  have := hx.2
  have := (pl_inj h5.2.1.1 (by have := h5.2.1; omega) (by have := h5.2.1; omega) a).2
  omega
theorem put1 {f : Nat → Int} {v x : Int} (hx : there sh x) : gen sh (putF f 1 v) x = gen sh f x ∧ usd sh (putF f 1 v) x = usd sh f x ∧ lnk sh (putF f 1 v) x = lnk sh f x := by
  have a := head_nat h5 hx
  have b := link_nat h5 hx
  unfold gen usd lnk putF
  rw [if_neg (by omega), if_neg (by omega)]
  exact ⟨rfl, rfl, rfl⟩
theorem putLow {f : Nat → Int} {p : Nat} {v x : Int} (hp : p < 8) (hx : there sh x) : gen sh (putF f p v) x = gen sh f x ∧ usd sh (putF f p v) x = usd sh f x ∧ lnk sh (putF f p v) x = lnk sh f x := by
  have a := head_nat h5 hx
  have b := link_nat h5 hx
  unfold gen usd lnk putF
  rw [if_neg (by omega), if_neg (by omega)]
  exact ⟨rfl, rfl, rfl⟩
theorem putS {f : Nat → Int} {y s v x : Int} (hy : slotIn sh y s) (hx : there sh x) : putF f (slotAt sh y s).toNat v 1 = f 1 ∧ gen sh (putF f (slotAt sh y s).toNat v) x = gen sh f x ∧ usd sh (putF f (slotAt sh y s).toNat v) x = usd sh f x ∧ lnk sh (putF f (slotAt sh y s).toNat v) x = lnk sh f x := by
  have a := slot_nat h5 hy
  unfold gen usd lnk putF
  rw [if_neg (by omega), if_neg (sh_ne h5 hy hx), if_neg (sl_ne h5 hy hx)]
  exact ⟨rfl, rfl, rfl, rfl⟩
theorem putH {f : Nat → Int} {y v x : Int} (hy : there sh y) (hx : there sh x) : putF f (headAt sh y).toNat v 1 = f 1 ∧ gen sh (putF f (headAt sh y).toNat v) x = (if x = y then v / 4294967296 else gen sh f x) ∧ usd sh (putF f (headAt sh y).toNat v) x = (if x = y then v % 2 else usd sh f x) ∧ lnk sh (putF f (headAt sh y).toNat v) x = lnk sh f x := by
  have a := head_nat h5 hy
  by_cases e : x = y
  · subst e
    unfold gen usd lnk putF
    rw [if_neg (by omega), if_pos rfl, if_pos rfl, if_pos rfl, if_neg (hl_ne h5 hx hx).symm]
    exact ⟨rfl, rfl, rfl, rfl⟩
  · unfold gen usd lnk putF
    rw [if_neg (by omega), if_neg (hh_ne h5 hx hy e), if_neg e, if_neg e, if_neg (hl_ne h5 hy hx).symm]
    exact ⟨rfl, rfl, rfl, rfl⟩
theorem putL {f : Nat → Int} {y v x : Int} (hy : there sh y) (hx : there sh x) : putF f (linkAt sh y).toNat v 1 = f 1 ∧ gen sh (putF f (linkAt sh y).toNat v) x = gen sh f x ∧ usd sh (putF f (linkAt sh y).toNat v) x = usd sh f x ∧ lnk sh (putF f (linkAt sh y).toNat v) x = (if x = y then idx v else lnk sh f x) := by
  have a := link_nat h5 hy
  by_cases e : x = y
  · subst e
    unfold gen usd lnk putF
    rw [if_neg (by omega), if_neg (hl_ne h5 hx hx), if_pos rfl, if_pos rfl]
    exact ⟨rfl, rfl, rfl, rfl⟩
  · unfold gen usd lnk putF
    rw [if_neg (by omega), if_neg (hl_ne h5 hx hy), if_neg (ll_ne h5 hx hy e), if_neg e]
    exact ⟨rfl, rfl, rfl, rfl⟩
end
section
variable {n : Nat} {f : Nat → Int} {hand p v old : Int}
theorem load_eff (hp : 0 ≤ p ∧ p < n) : wordsOf n f ⟨hand, 1, p, 0, 0, true⟩ = f ∧ (stepOf n f ⟨hand, 1, p, 0, 0, true⟩).had = f p.toNat := by
  have e : (stepOf n f ⟨hand, 1, p, 0, 0, true⟩).had = f p.toNat := by unfold stepOf; rw [if_pos hp]
  refine ⟨?_, e⟩
  unfold wordsOf
  rw [if_pos hp]
  have e2 : (stepOf n f ⟨hand, 1, p, 0, 0, true⟩).put = f p.toNat := by unfold stepOf; rw [if_pos hp]; simp [actOf, putBy]
  simp only [e2]
  exact putF_self _
theorem store_eff (hp : 0 ≤ p ∧ p < n) : wordsOf n f ⟨hand, 2, p, 0, v, true⟩ = putF f p.toNat v := by
  unfold wordsOf
  rw [if_pos hp]
  have e2 : (stepOf n f ⟨hand, 2, p, 0, v, true⟩).put = v := by unfold stepOf; rw [if_pos hp]; simp [actOf, putBy]
  simp only [e2]
theorem add_eff (hp : 0 ≤ p ∧ p < n) : wordsOf n f ⟨hand, 4, p, 0, 1, true⟩ = putF f p.toNat ((f p.toNat + 1) % 18446744073709551616) := by
  unfold wordsOf
  rw [if_pos hp]
  have e2 : (stepOf n f ⟨hand, 4, p, 0, 1, true⟩).put = (f p.toNat + 1) % 18446744073709551616 := by unfold stepOf; rw [if_pos hp]; simp [actOf, putBy]
  simp only [e2]
theorem cas_yes (hp : 0 ≤ p ∧ p < n) (ho : f p.toNat = old) : wordsOf n f ⟨hand, 5, p, old, v, true⟩ = putF f p.toNat v ∧ (stepOf n f ⟨hand, 5, p, old, v, true⟩).ok = true := by
  refine ⟨?_, by unfold stepOf; rw [if_pos hp]; simp [actOf, ho]⟩
  unfold wordsOf
  rw [if_pos hp]
  have e2 : (stepOf n f ⟨hand, 5, p, old, v, true⟩).put = v := by unfold stepOf; rw [if_pos hp]; simp [actOf, putBy, ho]
  simp only [e2]
theorem cas_no (hp : 0 ≤ p ∧ p < n) (ho : ¬ f p.toNat = old) : wordsOf n f ⟨hand, 5, p, old, v, true⟩ = f ∧ (stepOf n f ⟨hand, 5, p, old, v, true⟩).ok = false := by
  refine ⟨?_, by unfold stepOf; rw [if_pos hp]; simp [actOf, ho]⟩
  unfold wordsOf
  rw [if_pos hp]
  have e2 : (stepOf n f ⟨hand, 5, p, old, v, true⟩).put = f p.toNat := by unfold stepOf; rw [if_pos hp]; simp [actOf, putBy, ho]
  simp only [e2]
  exact putF_self _
end
def Ch (sh : Shp) (f : Nat → Int) : Int → List Int → Prop
  | p, [] => p = 0
  | p, x :: C => p = x ∧ there sh x ∧ Ch sh f (lnk sh f x) C
theorem Ch.congr {sh : Shp} {f f' : Nat → Int} : ∀ {C : List Int} {p : Int}, (∀ x, x ∈ C → lnk sh f' x = lnk sh f x) → Ch sh f p C → Ch sh f' p C
  | [], p, _, h => h
  | x :: C, p, hc, h => ⟨h.1, h.2.1, by rw [hc x (by simp)]; exact Ch.congr (fun y hy => hc y (by simp [hy])) h.2.2⟩
def Rd (f : Nat → Int) (g : Int) : Prop := tag g ≤ tag (f 1) ∧ (tag g = tag (f 1) → g = f 1)
structure Hand (sh : Shp) (f : Nat → Int) (pl : Int → Pl) (h : Nat) (s : RmS) : Prop where
  m1 : s.j.kind = 1 → s.st = 1 ∨ s.st = 2 → Rd f s.g
  m2 : s.j.kind = 1 → s.st = 2 → f 1 = s.g → s.xb = lnk sh f (idx s.g)
  m3 : s.j.kind = 1 → s.st = 3 ∨ s.st = 4 ∨ s.st = 5 → there sh (idx s.g) ∧ pl (idx s.g) = .mk h
  m4 : s.j.kind = 1 → s.st = 4 ∨ s.st = 5 → s.gn = gen sh f (idx s.g)
  ga : ¬ s.j.kind = 1 → there sh s.j.a
  g0 : ¬ s.j.kind = 1 → s.st = 0 ∨ s.st = 1 ∨ s.st = 2 → pl s.j.a = .own h
  g2 : ¬ s.j.kind = 1 → s.st = 2 → s.gn = gen sh f s.j.a
  g3 : ¬ s.j.kind = 1 → s.st = 3 ∨ s.st = 4 ∨ s.st = 5 → pl s.j.a = .dy h
  g4 : ¬ s.j.kind = 1 → s.st = 4 ∨ s.st = 5 → Rd f s.g
  g5 : ¬ s.j.kind = 1 → s.st = 5 → lnk sh f s.j.a = idx s.g
  t0 : s.told = ⟨false, 0⟩
theorem Rd.keep {f f' : Nat → Int} {g : Int} (h : Rd f g) (h1 : f' 1 = f 1 ∨ tag (f' 1) = tag (f 1) + 1) : Rd f' g := by
  obtain ⟨a, b⟩ := h
  rcases h1 with e | e
  · unfold Rd; rw [e]; exact ⟨a, b⟩
  · unfold Rd; rw [e]; exact ⟨by omega, fun h => by omega⟩
theorem Hand.keep {sh : Shp} {f f' : Nat → Int} {pl pl' : Int → Pl} {h : Nat} {s : RmS} (H : Hand sh f pl h s) (hpl : ∀ x, pl x = .mk h ∨ pl x = .own h ∨ pl x = .dy h → pl' x = pl x)
    (hg : ∀ x, there sh x → pl x = .mk h ∨ pl x = .own h → gen sh f' x = gen sh f x) (hl : ∀ x, there sh x → pl x = .dy h → lnk sh f' x = lnk sh f x)
    (h1 : (f' 1 = f 1 ∧ lnk sh f' (idx (f 1)) = lnk sh f (idx (f 1))) ∨ tag (f' 1) = tag (f 1) + 1) : Hand sh f' pl' h s where
  m1 := fun a b => (H.m1 a b).keep (h1.imp (fun h => h.1) id)
  m2 := fun a b e => by
    rcases h1 with ⟨e1, e2⟩ | e1
    · rw [e1] at e
      have := H.m2 a b e
      rw [← e] at this ⊢
      rw [e2]; exact this
    · have := (H.m1 a (.inr b)).1
      rw [← e, e1] at this
      omega
  m3 := fun a b => by
    obtain ⟨x, y⟩ := H.m3 a b
    exact ⟨x, (hpl _ (.inl y)).trans y⟩
  m4 := fun a b => by
    obtain ⟨x, y⟩ := H.m3 a (.inr b)
    rw [H.m4 a b, hg _ x (.inl y)]
  ga := H.ga
  g0 := fun a b => (hpl _ (.inr (.inl (H.g0 a b)))).trans (H.g0 a b)
  g2 := fun a b => by rw [H.g2 a b, hg _ (H.ga a) (.inr (H.g0 a (.inr (.inr b))))]
  g3 := fun a b => (hpl _ (.inr (.inr (H.g3 a b)))).trans (H.g3 a b)
  g4 := fun a b => (H.g4 a b).keep (h1.imp (fun h => h.1) id)
  g5 := fun a b => by rw [hl _ (H.ga a) (H.g3 a (.inr (.inr b))), H.g5 a b]
  t0 := H.t0
end Rom
end
section
namespace Rom
open Hp
def sm (f : Nat → Nat) : Nat → Nat
  | 0 => 0
  | n + 1 => sm f n + f n
theorem sm_congr {f g : Nat → Nat} : ∀ n, (∀ i, i < n → f i = g i) → sm f n = sm g n
  | 0, _ => rfl
  | n + 1, h => by
    show sm f n + f n = sm g n + g n
    rw [sm_congr n (fun i hi => h i (by omega)), h n (by omega)]
theorem sm_split (f : Nat → Nat) (h : Nat) : ∀ n, h < n → ∃ c, ∀ g : Nat → Nat, (∀ i, i < n → i ≠ h → g i = f i) → sm g n = c + g h
  | 0, hh => absurd hh (Nat.not_lt_zero h)
  | n + 1, hh => by
    by_cases e : h = n
    · subst e
      refine ⟨sm f h, fun g hg => ?_⟩
      show sm g h + g h = _
      rw [sm_congr h (fun i hi => hg i (by omega) (by omega))]
    · obtain ⟨c, hc⟩ := sm_split f h n (by omega)
      refine ⟨c + f n, fun g hg => ?_⟩
      show sm g n + g n = _
      rw [hc g (fun i hi hn => hg i (by omega) hn), hg n (by omega) (by omega)]
      omega
theorem sm_zero {f : Nat → Nat} : ∀ n, (∀ i, i < n → f i = 0) → sm f n = 0
  | 0, _ => rfl
  | n + 1, h => by
    show sm f n + f n = 0
    rw [sm_zero n (fun i hi => h i (by omega)), h n (by omega)]
def tot (g : Jb → Ans → Nat) (P : Par) (done : Nat → Nat) (ans : Nat → Nat → Ans) : Nat := sm (fun h => sm (fun j => g (P.jb h j) (ans h j)) (done h)) P.nh
theorem tot_over {g : Jb → Ans → Nat} {P : Par} {done : Nat → Nat} {ans : Nat → Nat → Ans} {h : Nat} (hh : h < P.nh) (a : Ans) : tot g P (upd done h (done h + 1)) (upd ans h (upd (ans h) (done h) a)) = tot g P done ans + g (P.jb h (done h)) a := by
  obtain ⟨c, hc⟩ := sm_split (fun h => sm (fun j => g (P.jb h j) (ans h j)) (done h)) h P.nh hh
  have u1 := hc _ (fun i _ _ => rfl)
  have u2 := hc (fun i => sm (fun j => g (P.jb i j) (upd ans h (upd (ans h) (done h) a) i j)) (upd done h (done h + 1) i)) (fun i _ hn => by rw [upd_other _ _ hn, upd_other _ _ hn])
  simp only [upd_same] at u2
  unfold tot
  rw [u1, u2]
  show c + (sm _ (done h) + g (P.jb h (done h)) (upd (ans h) (done h) a (done h))) = _
  rw [upd_same, sm_congr (done h) (fun i hi => by rw [upd_other _ _ (by omega)])]
  omega
def tb (x : Int) (j : Jb) (a : Ans) : Nat := if j.kind = 1 ∧ a.ok = true ∧ idx a.val = x then 1 else 0
def lv : Pl → Nat
  | .own _ => 1
  | _ => 0
def holdS (s : RmS) : Nat := if s.j.kind = 1 ∧ (s.st = 3 ∨ s.st = 4 ∨ s.st = 5) then 1 else 0
def gvS (s : RmS) : Nat := if ¬ s.j.kind = 1 ∧ s.st = 6 then 1 else 0
def mkJ (j : Jb) (a : Ans) : Nat := if j.kind = 1 ∧ a.ok = true then 1 else 0
def bkJ (j : Jb) (a : Ans) : Nat := if j.kind = 1 then 0 else 1
def und (g : RmS → Nat) (P : Par) (done : Nat → Nat) (cur : Nat → RmS) : Nat := sm (fun h => if done h < P.jn h then g (cur h) else 0) P.nh
theorem und_goes {g : RmS → Nat} {P : Par} {done : Nat → Nat} {cur : Nat → RmS} {h : Nat} (hh : h < P.nh) (hd : done h < P.jn h) (s' : RmS) : und g P done (upd cur h s') + g (cur h) = und g P done cur + g s' := by
  obtain ⟨c, hc⟩ := sm_split (fun h => if done h < P.jn h then g (cur h) else 0) h P.nh hh
  have u1 := hc _ (fun i _ _ => rfl)
  have u2 := hc (fun i => if done i < P.jn i then g (upd cur h s' i) else 0) (fun i _ hn => by rw [upd_other _ _ hn])
  simp only [if_pos hd, upd_same] at u1 u2
  unfold und
  omega
theorem und_over {g : RmS → Nat} {P : Par} {done : Nat → Nat} {cur : Nat → RmS} {h : Nat} (hh : h < P.nh) (hd : done h < P.jn h) (s' : RmS) (h0 : done h + 1 < P.jn h → g s' = 0) : und g P (upd done h (done h + 1)) (upd cur h s') + g (cur h) = und g P done cur := by
  obtain ⟨c, hc⟩ := sm_split (fun h => if done h < P.jn h then g (cur h) else 0) h P.nh hh
  have u1 := hc _ (fun i _ _ => rfl)
  have u2 := hc (fun i => if upd done h (done h + 1) i < P.jn i then g (upd cur h s' i) else 0) (fun i _ hn => by rw [upd_other _ _ hn, upd_other _ _ hn])
  simp only [if_pos hd, upd_same] at u1 u2
  have e : (if done h + 1 < P.jn h then g s' else 0) = 0 := by
    split
    · rename_i hl; exact h0 hl
    · rfl
  rw [e] at u2
  unfold und
  omega
def GivS (s : RmS) (x : Int) : Prop := ¬ s.j.kind = 1 ∧ s.j.a = x ∧ (s.st = 3 ∨ s.st = 4 ∨ s.st = 5 ∨ s.st = 6)
def Sv (sh : Shp) (f f' : Nat → Int) : Prop := f' 1 = f 1 ∧ ∀ x, there sh x → gen sh f' x = gen sh f x ∧ usd sh f' x = usd sh f x ∧ lnk sh f' x = lnk sh f x
theorem Sv.refl (sh : Shp) (f : Nat → Int) : Sv sh f f := ⟨rfl, fun x _ => ⟨rfl, rfl, rfl⟩⟩
structure Inv (sh : Shp) (P : Par) (Ow : Nat → Nat → List Int) (f : Nat → Int) (done : Nat → Nat) (cur : Nat → RmS) (ans : Nat → Nat → Ans) (k : Nat) (C : List Int) (pl : Int → Pl) : Prop where
  chain : Ch sh f (idx (f 1)) C
  nod : C.Nodup
  free : ∀ x, x ∈ C ↔ there sh x ∧ pl x = .free
  hand : ∀ h, h < P.nh → done h < P.jn h → Hand sh f pl h (cur h)
  mak : ∀ h x, there sh x → pl x = .mk h → h < P.nh ∧ done h < P.jn h ∧ (cur h).j.kind = 1 ∧ ((cur h).st = 3 ∨ (cur h).st = 4 ∨ (cur h).st = 5) ∧ idx (cur h).g = x
  dy : ∀ h x, there sh x → pl x = .dy h → h < P.nh ∧ done h < P.jn h ∧ ¬ (cur h).j.kind = 1 ∧ ((cur h).st = 3 ∨ (cur h).st = 4 ∨ (cur h).st = 5) ∧ (cur h).j.a = x
  own : ∀ h, h < P.nh → ∀ (q : Nat) x, (Ow h (done h))[q]? = some x → x ≠ 0 → there sh x ∧ (pl x = .own h ∨ (done h < P.jn h ∧ GivS (cur h) x))
  uni : ∀ h, h < P.nh → ∀ (q q' : Nat) x, (Ow h (done h))[q]? = some x → (Ow h (done h))[q']? = some x → x ≠ 0 → q = q'
  tagk : 0 ≤ tag (f 1) ∧ tag (f 1) ≤ k
  gn : ∀ x, there sh x → 0 ≤ gen sh f x ∧ gen sh f x + lv (pl x) = tot (tb x) P done ans ∧ tot (tb x) P done ans ≤ k
  us : ∀ x, there sh x → ((pl x = .free ∨ ∃ h, pl x = .dy h) → usd sh f x = 0) ∧ ((∃ h, pl x = .own h) → usd sh f x = 1)
  um : ∀ h, h < P.nh → done h < P.jn h → (cur h).j.kind = 1 → (cur h).st = 5 → usd sh f (idx (cur h).g) = 1
  cn : C.length + tot mkJ P done ans + und holdS P done cur = sh.a.toNat + tot bkJ P done ans + und gvS P done cur
  c45 : f 4 = (tot mkJ P done ans : Nat) ∧ f 5 = (tot bkJ P done ans : Nat)
  ck : tot mkJ P done ans ≤ k ∧ tot bkJ P done ans ≤ k
  tl : ∀ h, h < P.nh → ∀ j, j < done h → (P.jb h j).kind = 1 → (ans h j).ok = true → ∃ x g, there sh x ∧ 0 ≤ g ∧ g < tot (tb x) P done ans ∧ (ans h j).val = hd x g
  td : ∀ h, h < P.nh → ∀ j, j < done h → ∀ h', h' < P.nh → ∀ j', j' < done h' → (P.jb h j).kind = 1 → (ans h j).ok = true → (P.jb h' j').kind = 1 → (ans h' j').ok = true → (ans h j).val = (ans h' j').val → h = h' ∧ j = j'
section
variable {sh : Shp} {P : Par} {Ow : Nat → Nat → List Int} {f f' : Nat → Int} {done : Nat → Nat} {cur : Nat → RmS} {ans : Nat → Nat → Ans} {k h : Nat} {C C' : List Int} {pl pl' : Int → Pl}
theorem Inv.goes (I : Inv sh P Ow f done cur ans k C pl) (hh : h < P.nh) (hd : done h < P.jn h) {s' : RmS}
    (ch : Ch sh f' (idx (f' 1)) C') (nod : C'.Nodup) (free : ∀ x, x ∈ C' ↔ there sh x ∧ pl' x = .free) (HS : Hand sh f' pl' h s')
    (hpl : ∀ i, i ≠ h → ∀ x, pl x = .mk i ∨ pl x = .own i ∨ pl x = .dy i → pl' x = pl x)
    (hpi : ∀ i, i ≠ h → ∀ x, pl' x = .mk i ∨ pl' x = .dy i → pl' x = pl x)
    (hg : ∀ i, i ≠ h → ∀ x, there sh x → pl x = .mk i ∨ pl x = .own i → gen sh f' x = gen sh f x ∧ usd sh f' x = usd sh f x) (hl : ∀ i, i ≠ h → ∀ x, there sh x → pl x = .dy i → lnk sh f' x = lnk sh f x)
    (h1 : (f' 1 = f 1 ∧ lnk sh f' (idx (f 1)) = lnk sh f (idx (f 1))) ∨ tag (f' 1) = tag (f 1) + 1)
    (mk : ∀ x, there sh x → pl' x = .mk h → s'.j.kind = 1 ∧ (s'.st = 3 ∨ s'.st = 4 ∨ s'.st = 5) ∧ idx s'.g = x)
    (dy : ∀ x, there sh x → pl' x = .dy h → ¬ s'.j.kind = 1 ∧ (s'.st = 3 ∨ s'.st = 4 ∨ s'.st = 5) ∧ s'.j.a = x)
    (own : ∀ x, there sh x → pl x = .own h → pl' x = .own h ∨ GivS s' x) (giv : ∀ x, GivS (cur h) x → GivS s' x)
    (gn : ∀ x, there sh x → 0 ≤ gen sh f' x ∧ gen sh f' x + lv (pl' x) = gen sh f x + lv (pl x))
    (us : ∀ x, there sh x → ((pl' x = .free ∨ ∃ h, pl' x = .dy h) → usd sh f' x = 0) ∧ ((∃ h, pl' x = .own h) → usd sh f' x = 1))
    (um : s'.j.kind = 1 → s'.st = 5 → usd sh f' (idx s'.g) = 1) (hcn : C'.length + holdS s' + gvS (cur h) = C.length + holdS (cur h) + gvS s') (h45 : f' 4 = f 4 ∧ f' 5 = f 5) : Inv sh P Ow f' done (upd cur h s') ans (k + 1) C' pl' where
  chain := ch
  nod := nod
  free := free
  hand := fun i hi hl2 => by
    by_cases e : i = h
    · subst e; rw [upd_same]; exact HS
    · rw [upd_other _ _ e]
      exact (I.hand i hi hl2).keep (hpl i e) (fun x a b => (hg i e x a b).1) (hl i e) h1
  mak := fun i x hx e => by
    by_cases ei : i = h
    · subst ei; rw [upd_same]; exact ⟨hh, hd, mk x hx e⟩
    · rw [upd_other _ _ ei]
      exact I.mak i x hx ((hpi i ei x (.inl e)).symm.trans e)
  dy := fun i x hx e => by
    by_cases ei : i = h
    · subst ei; rw [upd_same]; exact ⟨hh, hd, dy x hx e⟩
    · rw [upd_other _ _ ei]
      exact I.dy i x hx ((hpi i ei x (.inr e)).symm.trans e)
  own := fun i hi q x hq h0 => by
    obtain ⟨hx, ho⟩ := I.own i hi q x hq h0
    refine ⟨hx, ?_⟩
    by_cases ei : i = h
    · subst ei
      rw [upd_same]
      rcases ho with ho | ⟨_, ho⟩
      · exact (own x hx ho).imp id (fun h => ⟨hd, h⟩)
      · exact .inr ⟨hd, giv x ho⟩
    · rw [upd_other _ _ ei]
      exact ho.imp (fun e => (hpl i ei x (.inr (.inl e))).trans e) id
  uni := I.uni
  tagk := by
    have := I.tagk
    rcases h1 with ⟨e, _⟩ | e
    · rw [e]; omega
    · rw [e]; omega
  gn := fun x hx => by
    obtain ⟨a, b, c⟩ := I.gn x hx
    obtain ⟨d, e⟩ := gn x hx
    exact ⟨d, by omega, by omega⟩
  us := us
  um := fun i hi hl2 => by
    by_cases ei : i = h
    · subst ei; rw [upd_same]; exact um
    · rw [upd_other _ _ ei]
      intro a b
      have hm := (I.hand i hi hl2).m3 a (.inr (.inr b))
      rw [(hg i ei _ hm.1 (.inl hm.2)).2]
      exact I.um i hi hl2 a b
  cn := by
    have a := und_goes (g := holdS) (cur := cur) hh hd s'
    have b := und_goes (g := gvS) (cur := cur) hh hd s'
    have c := I.cn
    omega
  c45 := by rw [h45.1, h45.2]; exact I.c45
  ck := ⟨by have := I.ck.1; omega, by have := I.ck.2; omega⟩
  tl := I.tl
  td := I.td
theorem Ch.sv (h : Sv sh f f') : ∀ {C : List Int} {p : Int}, Ch sh f p C → Ch sh f' p C
  | [], _, H => H
  | x :: C, p, H => ⟨H.1, H.2.1, by rw [(h.2 x H.2.1).2.2]; exact Ch.sv h H.2.2⟩
theorem Inv.still (I : Inv sh P Ow f done cur ans k C pl) (hh : h < P.nh) (hd : done h < P.jn h) {s' : RmS} (hv : Sv sh f f') (ht : there sh (idx (f 1)) ∨ lnk sh f' (idx (f 1)) = lnk sh f (idx (f 1))) (HS : Hand sh f' pl h s')
    (mk : ∀ x, there sh x → pl x = .mk h → s'.j.kind = 1 ∧ (s'.st = 3 ∨ s'.st = 4 ∨ s'.st = 5) ∧ idx s'.g = x)
    (dy : ∀ x, there sh x → pl x = .dy h → ¬ s'.j.kind = 1 ∧ (s'.st = 3 ∨ s'.st = 4 ∨ s'.st = 5) ∧ s'.j.a = x)
    (giv : ∀ x, GivS (cur h) x → GivS s' x) (um : s'.j.kind = 1 → s'.st = 5 → usd sh f' (idx s'.g) = 1) (hcn : holdS s' + gvS (cur h) = holdS (cur h) + gvS s') (h45 : f' 4 = f 4 ∧ f' 5 = f 5) : Inv sh P Ow f' done (upd cur h s') ans (k + 1) C pl := by
  refine I.goes hh hd (by rw [hv.1]; exact I.chain.sv hv) I.nod I.free HS (fun _ _ _ _ => rfl) (fun _ _ _ _ => rfl) (fun _ _ x hx _ => ⟨(hv.2 x hx).1, (hv.2 x hx).2.1⟩) (fun _ _ x hx _ => (hv.2 x hx).2.2) (.inl ⟨hv.1, ht.elim (fun h => (hv.2 _ h).2.2) id⟩) mk dy (fun x _ e => .inl e) giv (fun x hx => ?_) (fun x hx => ?_) um (by omega) h45
  · rw [(hv.2 x hx).1]; exact ⟨(I.gn x hx).1, rfl⟩
  · rw [(hv.2 x hx).2.1]; exact I.us x hx
theorem Inv.over (I : Inv sh P Ow f done cur ans k C pl) (hh : h < P.nh) (hdn : done h < P.jn h) {s0 : RmS} {a : Ans} (hv : Sv sh f f') (ht : there sh (idx (f 1)) ∨ lnk sh f' (idx (f 1)) = lnk sh f (idx (f 1)))
    (hfr : ∀ x, there sh x → (pl' x = .free ↔ pl x = .free)) (hpl : ∀ i, i ≠ h → ∀ x, pl x = .mk i ∨ pl x = .own i ∨ pl x = .dy i → pl' x = pl x)
    (hpi : ∀ i, i ≠ h → ∀ x, pl' x = .mk i ∨ pl' x = .dy i → pl' x = pl x) (hno : ∀ x, there sh x → ¬ pl' x = .mk h ∧ ¬ pl' x = .dy h)
    (hS : done h + 1 < P.jn h → Hand sh f' pl' h s0 ∧ s0.st = (if s0.j.kind = 1 then 0 else s0.st))
    (hown : ∀ (q : Nat) x, (Ow h (done h + 1))[q]? = some x → x ≠ 0 → there sh x ∧ pl' x = .own h) (huni : ∀ (q q' : Nat) x, (Ow h (done h + 1))[q]? = some x → (Ow h (done h + 1))[q']? = some x → x ≠ 0 → q = q')
    (hgn : ∀ x, there sh x → lv (pl' x) = lv (pl x) + tb x (P.jb h (done h)) a)
    (hus : ∀ x, there sh x → ((pl' x = .free ∨ ∃ h, pl' x = .dy h) → usd sh f x = 0) ∧ ((∃ h, pl' x = .own h) → usd sh f x = 1))
    (htl : (P.jb h (done h)).kind = 1 → a.ok = true → ∃ x, there sh x ∧ a.val = hd x (tot (tb x) P done ans) ∧ tot (tb x) P done ans < 4294967296 ∧ tb x (P.jb h (done h)) a = 1) (hk : k < 65536) (h64 : sh.a ≤ 64)
    (hcn : mkJ (P.jb h (done h)) a + gvS (cur h) = holdS (cur h) + bkJ (P.jb h (done h)) a) (hs0 : done h + 1 < P.jn h → holdS s0 = 0 ∧ gvS s0 = 0) (h45 : f' 4 = f 4 + (mkJ (P.jb h (done h)) a : Nat) ∧ f' 5 = f 5 + (bkJ (P.jb h (done h)) a : Nat)) :
    Inv sh P Ow f' (upd done h (done h + 1)) (upd cur h s0) (upd ans h (upd (ans h) (done h) a)) (k + 1) C pl' where
  chain := by rw [hv.1]; exact I.chain.sv hv
  nod := I.nod
  free := fun x => (I.free x).trans ⟨fun ⟨a, b⟩ => ⟨a, (hfr x a).2 b⟩, fun ⟨a, b⟩ => ⟨a, (hfr x a).1 b⟩⟩
  hand := fun i hi hl2 => by
    by_cases e : i = h
    · subst e; rw [upd_same] at hl2 ⊢; exact (hS hl2).1
    · rw [upd_other _ _ e] at hl2 ⊢
      exact (I.hand i hi hl2).keep (hpl i e) (fun x a b => (hv.2 x a).1) (fun x a b => (hv.2 x a).2.2) (.inl ⟨hv.1, ht.elim (fun h => (hv.2 _ h).2.2) id⟩)
  mak := fun i x hx e => by
    by_cases ei : i = h
    · subst ei; exact absurd e (hno x hx).1
    · rw [upd_other _ _ ei, upd_other _ _ ei]
      exact I.mak i x hx ((hpi i ei x (.inl e)).symm.trans e)
  dy := fun i x hx e => by
    by_cases ei : i = h
    · subst ei; exact absurd e (hno x hx).2
    · rw [upd_other _ _ ei, upd_other _ _ ei]
      exact I.dy i x hx ((hpi i ei x (.inr e)).symm.trans e)
  own := fun i hi q x hq h0 => by
    by_cases ei : i = h
    · subst ei
      rw [upd_same] at hq ⊢
      obtain ⟨a, b⟩ := hown q x hq h0
      exact ⟨a, .inl b⟩
    · rw [upd_other _ _ ei] at hq ⊢
      rw [upd_other _ _ ei]
      obtain ⟨hx, ho⟩ := I.own i hi q x hq h0
      exact ⟨hx, ho.imp (fun e => (hpl i ei x (.inr (.inl e))).trans e) id⟩
  uni := fun i hi => by
    by_cases ei : i = h
    · subst ei; rw [upd_same]; exact huni
    · rw [upd_other _ _ ei]; exact I.uni i hi
  tagk := by rw [hv.1]; have := I.tagk; omega
  gn := fun x hx => by
    obtain ⟨a1, b1, c1⟩ := I.gn x hx
    have e := hgn x hx
    have l1 : tb x (P.jb h (done h)) a ≤ 1 := by unfold tb; split <;> omega
    rw [tot_over hh, (hv.2 x hx).1]
    exact ⟨a1, by omega, by omega⟩
  us := fun x hx => by rw [(hv.2 x hx).2.1]; exact hus x hx
  um := fun i hi hl2 => by
    by_cases ei : i = h
    · subst ei
      rw [upd_same] at hl2 ⊢
      intro a1 b1
      have := (hS hl2).2
      rw [if_pos a1, b1] at this
      cases this
    · rw [upd_other _ _ ei] at hl2 ⊢
      intro a1 b1
      have hm := (I.hand i hi hl2).m3 a1 (.inr (.inr b1))
      rw [(hv.2 _ hm.1).2.1]
      exact I.um i hi hl2 a1 b1
  cn := by
    have a1 := und_over (g := holdS) (cur := cur) hh hdn s0 (fun h => (hs0 h).1)
    have b1 := und_over (g := gvS) (cur := cur) hh hdn s0 (fun h => (hs0 h).2)
    have c1 := I.cn
    rw [tot_over hh, tot_over hh]
    omega
  c45 := by
    rw [h45.1, h45.2, I.c45.1, I.c45.2, tot_over hh, tot_over hh]
    exact ⟨by omega, by omega⟩
  ck := by
    have l1 : mkJ (P.jb h (done h)) a ≤ 1 := by unfold mkJ; split <;> omega
    have l2 : bkJ (P.jb h (done h)) a ≤ 1 := by unfold bkJ; split <;> omega
    rw [tot_over hh, tot_over hh]
    exact ⟨by have := I.ck.1; omega, by have := I.ck.2; omega⟩
  tl := fun i hi j hj hk1 hok => by
    by_cases ei : i = h
    · subst ei
      rw [upd_same] at hj hok ⊢
      by_cases ej : j = done i
      · subst ej
        rw [upd_same] at hok ⊢
        obtain ⟨x, hx, hv1, hg1, ht1⟩ := htl hk1 hok
        exact ⟨x, _, hx, by omega, by rw [tot_over hh, ht1]; omega, hv1⟩
      · rw [upd_other _ _ ej] at hok ⊢
        obtain ⟨x, g, hx, hg, hg2, hv1⟩ := I.tl i hi j (by omega) hk1 hok
        exact ⟨x, g, hx, hg, by rw [tot_over hh]; omega, hv1⟩
    · rw [upd_other _ _ ei] at hj hok ⊢
      obtain ⟨x, g, hx, hg, hg2, hv1⟩ := I.tl i hi j hj hk1 hok
      exact ⟨x, g, hx, hg, by rw [tot_over hh]; omega, hv1⟩
  td := by
    have old : ∀ i, i < P.nh → ∀ j, j < upd done h (done h + 1) i → ¬ (i = h ∧ j = done h) → j < done i ∧ upd ans h (upd (ans h) (done h) a) i j = ans i j := fun i hi j hj hn => by
      by_cases ei : i = h
      · subst ei
        rw [upd_same] at hj ⊢
        have ej : j ≠ done i := fun e => hn ⟨rfl, e⟩
        exact ⟨by omega, upd_other _ _ ej⟩
      · rw [upd_other _ _ ei] at hj ⊢
        exact ⟨hj, rfl⟩
    have new : upd ans h (upd (ans h) (done h) a) h (done h) = a := by rw [upd_same, upd_same]
    have dif : (P.jb h (done h)).kind = 1 → a.ok = true → ∀ i, i < P.nh → ∀ j, j < done i → (P.jb i j).kind = 1 → (ans i j).ok = true → (ans i j).val = a.val → False := fun k1 o1 i hi j hj k2 o2 e => by
      obtain ⟨x, hx, hv1, hg1, ht1⟩ := htl k1 o1
      obtain ⟨y, g, hy, hg, hg2, hv2⟩ := I.tl i hi j hj k2 o2
      rw [hv1, hv2] at e
      have hc := (I.gn y hy).2.2
      have hxb := hx.2
      have hyb := hy.2
      have hx1 := hx.1
      have hy1 := hy.1
      unfold hd at e
      have exy : y = x := by omega
      subst exy
      omega
    intro i hi j hj i' hi' j' hj' k1 o1 k2 o2 e
    by_cases c1 : i = h ∧ j = done h
    · obtain ⟨rfl, rfl⟩ := c1
      rw [new] at o1 e
      by_cases c2 : i' = i ∧ j' = done i
      · exact ⟨c2.1.symm, c2.2.symm⟩
      · obtain ⟨a2, b2⟩ := old i' hi' j' hj' c2
        rw [b2] at o2 e
        exact (dif k1 o1 i' hi' j' a2 k2 o2 e.symm).elim
    · obtain ⟨a1, b1⟩ := old i hi j hj c1
      rw [b1] at o1 e
      by_cases c2 : i' = h ∧ j' = done h
      · obtain ⟨rfl, rfl⟩ := c2
        rw [new] at o2 e
        exact (dif k2 o2 i hi j a1 k1 o1 e).elim
      · obtain ⟨a2, b2⟩ := old i' hi' j' hj' c2
        rw [b2] at o2 e
        exact I.td i hi j a1 i' hi' j' a2 k1 o1 k2 o2 e
end
end Rom
end
end Go.Proofs.YtidihnnmdmlgfaaGreat
namespace Go.Proofs.YtidihnnmdmlgfaaGreat
set_option maxHeartbeats 8000000
open Go.RowKit
set_option linter.unusedVariables false
set_option linter.unusedSimpArgs false
set_option maxRecDepth 20000
section
namespace Rom
open Hp
theorem n13 {sh : Shp} (h5 : Shape.R5 sh.a sh.b sh.c sh.d sh.e) {n : Nat} (hn : (n : Int) = all0 sh) : 13 ≤ (n : Int) := by
  obtain ⟨want, hw1, hw2, _⟩ := size_nat h5
  have : all0 sh = sizeOf sh := rfl
  omega
theorem sv_low {sh : Shp} (h5 : Shape.R5 sh.a sh.b sh.c sh.d sh.e) {f : Nat → Int} {p : Nat} (v : Int) (hp : p = 4 ∨ p = 5) : Sv sh f (putF f p v) := ⟨by unfold putF; rw [if_neg (by omega)], fun x hx => putLow h5 (by omega) hx⟩
theorem hand_m {sh : Shp} {f : Nat → Int} {pl : Int → Pl} {h : Nat} {s : RmS} (hk : s.j.kind = 1) (t0 : s.told = ⟨false, 0⟩) (m1 : s.st = 1 ∨ s.st = 2 → Rd f s.g) (m2 : s.st = 2 → f 1 = s.g → s.xb = lnk sh f (idx s.g))
    (m3 : s.st = 3 ∨ s.st = 4 ∨ s.st = 5 → there sh (idx s.g) ∧ pl (idx s.g) = .mk h) (m4 : s.st = 4 ∨ s.st = 5 → s.gn = gen sh f (idx s.g)) : Hand sh f pl h s :=
  ⟨fun _ => m1, fun _ => m2, fun _ => m3, fun _ => m4, fun h => absurd hk h, fun h => absurd hk h, fun h => absurd hk h, fun h => absurd hk h, fun h => absurd hk h, fun h => absurd hk h, t0⟩
theorem hand_g {sh : Shp} {f : Nat → Int} {pl : Int → Pl} {h : Nat} {s : RmS} (hk : ¬ s.j.kind = 1) (t0 : s.told = ⟨false, 0⟩) (ga : there sh s.j.a) (g0 : s.st = 0 ∨ s.st = 1 ∨ s.st = 2 → pl s.j.a = .own h) (g2 : s.st = 2 → s.gn = gen sh f s.j.a)
    (g3 : s.st = 3 ∨ s.st = 4 ∨ s.st = 5 → pl s.j.a = .dy h) (g4 : s.st = 4 ∨ s.st = 5 → Rd f s.g) (g5 : s.st = 5 → lnk sh f s.j.a = idx s.g) : Hand sh f pl h s :=
  ⟨fun h => absurd h hk, fun h => absurd h hk, fun h => absurd h hk, fun h => absurd h hk, fun _ => ga, fun _ => g0, fun _ => g2, fun _ => g3, fun _ => g4, fun _ => g5, t0⟩
theorem lnk_put {sh : Shp} {f : Nat → Int} {p : Nat} {v x : Int} (hp : p ≠ 0) (hx : ¬ there sh x) : lnk sh (putF f p v) x = lnk sh f x := by
  unfold lnk linkAt putF
  rw [if_neg hx, if_neg (by simpa using fun h => hp h.symm)]
theorem put45 {f : Nat → Int} {p : Nat} {v : Int} (h4 : p ≠ 4) (h5 : p ≠ 5) : putF f p v 4 = f 4 ∧ putF f p v 5 = f 5 := by
  unfold putF; rw [if_neg (fun h => h4 h.symm), if_neg (fun h => h5 h.symm)]; exact ⟨rfl, rfl⟩
theorem bmp_idx {g i : Int} (hi : 0 ≤ i ∧ i < 4294967296) : idx (bmp g i) = i := by
  unfold idx bmp hd; omega
theorem bmp_tag {g i : Int} (hg : 0 ≤ tag g ∧ tag g < 4294967295) : tag (bmp g i) = tag g + 1 := by
  unfold tag bmp hd at *; omega
theorem hd_idx {x g : Int} (hx : 0 ≤ x ∧ x < 4294967296) : idx (hd x g) = x := by
  unfold idx hd; omega
theorem use_gen {j : Jb} {gn : Int} (hg : 0 ≤ gn) : useW j gn / 4294967296 = gn ∧ useW j gn % 2 = 1 := by
  unfold useW packW bit
  constructor
  · repeat' split
    all_goals omega
  · repeat' split
    all_goals first | omega | simp_all
structure OwF (P : Par) (Ow : Nat → Nat → List Int) (h d : Nat) (a : Ans) : Prop where
  back : (P.jb h d).kind = 2 → ∃ q : Nat, (Ow h d)[q]? = some (P.jb h d).a ∧ Ow h (d + 1) = (Ow h d).set q 0
  more : (P.jb h d).kind = 1 → a.ok = true → Ow h (d + 1) = Ow h d ++ [wrap64 (bits .and .u64 a.val 4294967295)]
  same : (P.jb h d).kind = 1 → ¬ a.ok = true → Ow h (d + 1) = Ow h d
  next : d + 1 < P.jn h → (P.jb h (d + 1)).kind = 2 → ∃ q : Nat, (Ow h (d + 1))[q]? = some (P.jb h (d + 1)).a
section
variable {sh : Shp} {P : Par} {Ow : Nat → Nat → List Int} {f f' : Nat → Int} {done : Nat → Nat} {cur : Nat → RmS} {ans : Nat → Nat → Ans} {k h : Nat} {C : List Int} {pl pl' : Int → Pl}
theorem err_two {sh : Shp} {h : Int} {j : Jb} (he : rerr false sh h j = 0) : j.kind = 1 ∨ (j.kind = 2 ∧ there sh j.a) := by
  by_cases h1 : j.kind = 1
  · exact .inl h1
  · right
    refine ⟨?_, err_there he h1⟩
    simp only [rerr, if_neg (show ¬ false = true by decide), if_neg h1] at he
    by_cases h2 : j.kind = 2
    · exact h2
    · rw [if_neg h2] at he; cases he
theorem hand_init {j : Jb} {hv : Int} (he : rerr false sh hv j = 0) (ho : j.kind = 2 → pl j.a = .own h) : Hand sh f pl h (rinit sh hv j) ∧ (rinit sh hv j).st = (if (rinit sh hv j).j.kind = 1 then 0 else (rinit sh hv j).st) := by
  rcases err_two he with hk | ⟨hk, ht⟩
  · refine ⟨hand_m hk rfl ?_ ?_ ?_ ?_, ?_⟩
    · simp [rinit, hk]
    · simp [rinit, hk]
    · simp [rinit, hk]
    · simp [rinit, hk]
    · simp [rinit, hk]
  · have hk1 : ¬ j.kind = 1 := by omega
    have hst : (rinit sh hv j).st = 0 ∨ (rinit sh hv j).st = 1 := by
      simp only [rinit, if_neg hk1]
      split
      · exact .inl rfl
      · exact .inr rfl
    have n2 : ∀ v : Int, 2 ≤ v → ¬ (rinit sh hv j).st = v := fun v hv' e => by omega
    refine ⟨hand_g hk1 rfl ht (fun _ => ho hk) (fun e => absurd e (n2 2 (by decide))) (fun e => ?_) (fun e => ?_) (fun e => absurd e (n2 5 (by decide))), ?_⟩
    · rcases e with e | e | e
      · exact absurd e (n2 3 (by decide))
      · exact absurd e (n2 4 (by decide))
      · exact absurd e (n2 5 (by decide))
    · rcases e with e | e
      · exact absurd e (n2 4 (by decide))
      · exact absurd e (n2 5 (by decide))
    · rw [if_neg (show ¬ (rinit sh hv j).j.kind = 1 from hk1)]
variable (h5 : Shape.R5 sh.a sh.b sh.c sh.d sh.e) (hn : (P.n : Int) = all0 sh) (I : Inv sh P Ow f done cur ans k C pl) (hh : h < P.nh) (hdn : done h < P.jn h) (hk6 : k < 65536)
include h5 hn I hh hdn hk6
theorem step_m {hand : Int} {j : Jb} {st g xb gn sl : Int} {told : Ans} (hs : cur h = ⟨hand, j, st, g, xb, gn, sl, told⟩) (W : Wf sh (cur h)) (hk : j.kind = 1) (hne : ¬ rends sh (cur h) (stepOf P.n f (rreq sh (cur h))) = true) :
    ∃ C' pl', Inv sh P Ow (wordsOf P.n f (rreq sh (cur h))) done (upd cur h (rnext sh (cur h) (stepOf P.n f (rreq sh (cur h))))) ans (k + 1) C' pl' := by
  have H := I.hand h hh hdn
  have N := n13 h5 hn
  have p1 : (0 : Int) ≤ 1 ∧ (1 : Int) < P.n := by omega
  have hst := W.st
  have hth := W.th
  have hxb := W.xb
  have MK := I.mak h
  have DY := I.dy h
  have UM := I.um h hh hdn
  have nogiv : ∀ {s' : RmS} x, GivS (cur h) x → GivS s' x := fun x hx => absurd (by rw [hs]; exact hk) hx.1
  have nody : ∀ x, there sh x → ¬ pl x = .dy h := fun x hx e => (DY x hx e).2.2.1 (by rw [hs]; exact hk)
  rw [hs] at H hst hth hxb MK UM hne ⊢
  simp only at hst hth hxb MK UM
  have t0 := H.t0
  rcases hst with ⟨-, rfl | rfl | rfl | rfl | rfl | rfl⟩ | ⟨h', _⟩
  · -- load Free
    have er : rreq sh ⟨hand, j, 0, g, xb, gn, sl, told⟩ = ⟨hand, 1, 1, 0, 0, true⟩ := by simp [rreq, hk]
    rw [er] at hne ⊢
    obtain ⟨ef, eh⟩ := load_eff (f := f) (hand := hand) p1
    by_cases ht : there sh (idx (f 1))
    · have en : rnext sh ⟨hand, j, 0, g, xb, gn, sl, told⟩ (stepOf P.n f ⟨hand, 1, 1, 0, 0, true⟩) = ⟨hand, j, 1, f 1, xb, gn, sl, told⟩ := by
        simp only [rnext, hk, if_true, eh]
        rw [if_pos (show there sh (idx (f (Int.toNat 1))) from ht)]; rfl
      rw [ef, en]
      exact ⟨C, pl, I.still hh hdn (Sv.refl _ _) (.inr rfl) (hand_m hk t0 (fun _ => ⟨Int.le_refl _, fun _ => rfl⟩) (fun e => by simp at e) (fun e => by simp at e) (fun e => by simp at e))
        (fun x hx e => absurd (MK x hx e).2.2.2.1 (by decide)) (fun x hx e => absurd e (nody x hx)) nogiv (fun _ e => by simp at e) (by rw [hs]; simp [holdS, gvS, hk]) ⟨rfl, rfl⟩⟩
    · exfalso
      apply hne
      simp only [rends, hk, if_true, eh]
      show (!decide (there sh (idx (f 1)))) = true
      simp [ht]
  · -- load the link
    have htg := hth hk (by decide)
    have hL := link_nat h5 htg
    have er : rreq sh ⟨hand, j, 1, g, xb, gn, sl, told⟩ = ⟨hand, 1, linkAt sh (idx g), 0, 0, true⟩ := by simp [rreq, hk]
    rw [er]
    obtain ⟨ef, eh⟩ := load_eff (f := f) (hand := hand) (p := linkAt sh (idx g)) (n := P.n) (by omega)
    have en : rnext sh ⟨hand, j, 1, g, xb, gn, sl, told⟩ (stepOf P.n f ⟨hand, 1, linkAt sh (idx g), 0, 0, true⟩) = ⟨hand, j, 2, g, lnk sh f (idx g), gn, sl, told⟩ := by
      simp only [rnext, hk, if_true, eh]; rfl
    rw [ef, en]
    exact ⟨C, pl, I.still hh hdn (Sv.refl _ _) (.inr rfl) (hand_m hk t0 (fun _ => H.m1 hk (.inl rfl)) (fun _ _ => rfl) (fun e => by simp at e) (fun e => by simp at e))
      (fun x hx e => absurd (MK x hx e).2.2.2.1 (by decide)) (fun x hx e => absurd e (nody x hx)) nogiv (fun _ e => by simp at e) (by rw [hs]; simp [holdS, gvS, hk]) ⟨rfl, rfl⟩⟩
  · -- CAS Free
    have htg := hth hk (by decide)
    have hxb' := hxb hk (by decide) (by decide)
    have er : rreq sh ⟨hand, j, 2, g, xb, gn, sl, told⟩ = ⟨hand, 5, 1, g, bmp g xb, true⟩ := by simp [rreq, hk]
    rw [er]
    by_cases ho : f 1 = g
    · obtain ⟨ef, eo⟩ := cas_yes (f := f) (hand := hand) (v := bmp g xb) p1 (show f (1 : Int).toNat = g from ho)
      have en : rnext sh ⟨hand, j, 2, g, xb, gn, sl, told⟩ (stepOf P.n f ⟨hand, 5, 1, g, bmp g xb, true⟩) = ⟨hand, j, 3, g, xb, gn, sl, told⟩ := by
        simp [rnext, hk, eo]
      rw [ef, en, show (1 : Int).toNat = 1 from rfl]
      have hx := H.m2 hk rfl ho
      simp only at hx
      have hc := I.chain
      rw [ho] at hc
      match hC : C, hc with
      | [], hc =>
        exfalso
        have := htg.1
        have hc' : idx g = 0 := hc
        omega
      | x0 :: C1, hc =>
        obtain ⟨e0, ht0, hc1⟩ := hc
        have hnod := I.nod
        have hfree := I.free
        have pf : pl x0 = .free := ((hfree x0).1 (by simp)).2
        have hn0 : x0 ∉ C1 := (List.nodup_cons.1 hnod).1
        have eg : tag (bmp g xb) = tag (f 1) + 1 := by rw [ho]; have := I.tagk; rw [ho] at this; exact bmp_tag (by omega)
        have o1 : ∀ {x}, x ≠ x0 → updI pl x0 (Pl.mk h) x = pl x := fun e => updI_other _ _ e
        have s1 : updI pl x0 (Pl.mk h) x0 = Pl.mk h := updI_same _ _ _
        refine ⟨C1, updI pl x0 (.mk h), I.goes hh hdn ?ch (List.nodup_cons.1 hnod).2 ?free (hand_m hk t0 (fun e => by simp at e) (fun e => by simp at e) (fun _ => ?m3) (fun e => by simp at e)) ?hpl ?hpi (fun i _ x hx' _ => ⟨(put1 h5 hx').1, (put1 h5 hx').2.1⟩) (fun i _ x hx' _ => (put1 h5 hx').2.2) (.inr ?h1) ?mk ?dy ?own nogiv ?gn ?us (fun _ e => by simp at e) (by rw [hs]; simp [holdS, gvS, hk]) (put45 (by decide) (by decide))⟩
        case ch =>
          show Ch sh (putF f 1 (bmp g xb)) (idx (putF f 1 (bmp g xb) 1)) C1
          rw [show putF f 1 (bmp g xb) 1 = bmp g xb by simp [putF], bmp_idx hxb', hx, e0]
          exact Ch.congr (fun y hy => (put1 h5 ((hfree y).1 (by simp [hy])).1).2.2) hc1
        case free =>
          intro x
          by_cases e : x = x0
          · subst e
            rw [s1]
            exact ⟨fun h => absurd h hn0, fun h => (by cases h.2)⟩
          · rw [o1 e, ← hfree x]
            simp [e]
        case m3 => exact ⟨htg, by show updI pl x0 (Pl.mk h) (idx g) = _; rw [e0]; exact s1⟩
        case hpl =>
          intro i hi x hx'
          exact o1 (fun e => by subst e; rw [pf] at hx'; rcases hx' with h | h | h <;> cases h)
        case hpi =>
          intro i hi x hx'
          refine o1 (fun e => ?_)
          subst e; rw [s1] at hx'
          rcases hx' with h | h
          · cases h; exact hi rfl
          · cases h
        case h1 => show tag (putF f 1 (bmp g xb) 1) = _; rw [show putF f 1 (bmp g xb) 1 = bmp g xb by simp [putF]]; exact eg
        case mk =>
          intro x hx' e
          by_cases ex : x = x0
          · exact ⟨hk, .inl rfl, e0.trans ex.symm⟩
          · rw [o1 ex] at e
            exact absurd (MK x hx' e).2.2.2.1 (by decide)
        case dy =>
          intro x hx' e
          by_cases ex : x = x0
          · subst ex; rw [s1] at e; cases e
          · rw [o1 ex] at e
            exact absurd e (nody x hx')
        case own =>
          intro x hx' e
          refine .inl ((o1 (fun ex => ?_)).trans e)
          subst ex; rw [pf] at e; cases e
        case gn =>
          intro x hx'
          rw [(put1 h5 hx').1]
          refine ⟨(I.gn x hx').1, ?_⟩
          by_cases ex : x = x0
          · subst ex; rw [s1, pf]; rfl
          · rw [o1 ex]
        case us =>
          intro x hx'
          rw [(put1 h5 hx').2.1]
          by_cases ex : x = x0
          · subst ex; rw [s1]
            exact ⟨fun h => (by rcases h with h | ⟨_, h⟩ <;> cases h), fun ⟨_, h⟩ => (by cases h)⟩
          · rw [o1 ex]; exact I.us x hx'
    · obtain ⟨ef, eo⟩ := cas_no (f := f) (hand := hand) (v := bmp g xb) p1 (show ¬ f (1 : Int).toNat = g from ho)
      have en : rnext sh ⟨hand, j, 2, g, xb, gn, sl, told⟩ (stepOf P.n f ⟨hand, 5, 1, g, bmp g xb, true⟩) = ⟨hand, j, 0, g, xb, gn, sl, told⟩ := by
        simp [rnext, hk, eo]
      rw [ef, en]
      exact ⟨C, pl, I.still hh hdn (Sv.refl _ _) (.inr rfl) (hand_m hk t0 (fun e => by simp at e) (fun e => by simp at e) (fun e => by simp at e) (fun e => by simp at e))
        (fun x hx e => absurd (MK x hx e).2.2.2.1 (by decide)) (fun x hx e => absurd e (nody x hx)) nogiv (fun _ e => by simp at e) (by rw [hs]; simp [holdS, gvS, hk]) ⟨rfl, rfl⟩⟩
  · -- load the head
    have htg := hth hk (by decide)
    have hL := head_nat h5 htg
    have er : rreq sh ⟨hand, j, 3, g, xb, gn, sl, told⟩ = ⟨hand, 1, headAt sh (idx g), 0, 0, true⟩ := by simp [rreq, hk]
    rw [er]
    obtain ⟨ef, eh⟩ := load_eff (f := f) (hand := hand) (p := headAt sh (idx g)) (n := P.n) (by omega)
    have en : rnext sh ⟨hand, j, 3, g, xb, gn, sl, told⟩ (stepOf P.n f ⟨hand, 1, headAt sh (idx g), 0, 0, true⟩) = ⟨hand, j, 4, g, xb, gen sh f (idx g), sl, told⟩ := by
      simp only [rnext, hk, if_true, eh]; rfl
    rw [ef, en]
    exact ⟨C, pl, I.still hh hdn (Sv.refl _ _) (.inr rfl) (hand_m hk t0 (fun e => by simp at e) (fun e => by simp at e) (fun _ => H.m3 hk (.inl rfl)) (fun _ => rfl))
      (fun x hx e => ⟨hk, .inr (.inl rfl), (MK x hx e).2.2.2.2⟩) (fun x hx e => absurd e (nody x hx)) nogiv (fun _ e => by simp at e) (by rw [hs]; simp [holdS, gvS, hk]) ⟨rfl, rfl⟩⟩
  · -- store the head
    have htg := hth hk (by decide)
    have hL := head_nat h5 htg
    have er : rreq sh ⟨hand, j, 4, g, xb, gn, sl, told⟩ = ⟨hand, 2, headAt sh (idx g), 0, useW j gn, true⟩ := by simp [rreq, hk]
    rw [er]
    have ef := store_eff (f := f) (hand := hand) (v := useW j gn) (p := headAt sh (idx g)) (n := P.n) (by omega)
    have en : rnext sh ⟨hand, j, 4, g, xb, gn, sl, told⟩ (stepOf P.n f ⟨hand, 2, headAt sh (idx g), 0, useW j gn, true⟩) = ⟨hand, j, 5, g, xb, gn, sl, told⟩ := by
      simp [rnext, hk]
    rw [ef, en]
    have hpm := (H.m3 hk (.inr (.inl rfl))).2
    have hgn := H.m4 hk (.inl rfl)
    simp only at hpm hgn
    obtain ⟨u1, u2⟩ := use_gen (j := j) (gn := gn) (by rw [hgn]; exact (I.gn _ htg).1)
    have hfr : ∀ x, there sh x → gen sh (putF f (headAt sh (idx g)).toNat (useW j gn)) x = gen sh f x := fun x hx => by
      rw [(putH h5 htg hx).2.1]
      split
      · rename_i e; rw [e, u1, hgn]
      · rfl
    have hus : ∀ x, there sh x → x ≠ idx g → usd sh (putF f (headAt sh (idx g)).toNat (useW j gn)) x = usd sh f x := fun x hx e => by
      rw [(putH h5 htg hx).2.2.1, if_neg e]
    have hlk : ∀ x, there sh x → lnk sh (putF f (headAt sh (idx g)).toNat (useW j gn)) x = lnk sh f x := fun x hx => (putH h5 htg hx).2.2.2
    have h1e : putF f (headAt sh (idx g)).toNat (useW j gn) 1 = f 1 := (putH h5 htg htg).1
    refine ⟨C, pl, I.goes hh hdn ?ch I.nod I.free (hand_m hk t0 (fun e => by simp at e) (fun e => by simp at e) (fun _ => ⟨htg, hpm⟩) (fun _ => by show gn = _; rw [hfr _ htg]; exact hgn)) (fun _ _ _ _ => rfl) (fun _ _ _ _ => rfl) (fun i hi x hx e => ⟨hfr x hx, hus x hx (fun ex => ?ne)⟩) (fun i _ x hx _ => hlk x hx) (.inl ⟨h1e, ?l1⟩) (fun x hx e => ⟨hk, .inr (.inr rfl), (MK x hx e).2.2.2.2⟩) (fun x hx e => absurd e (nody x hx)) (fun x _ e => .inl e) nogiv (fun x hx => by rw [hfr x hx]; exact ⟨(I.gn x hx).1, rfl⟩) ?us ?um (by rw [hs]; simp [holdS, gvS, hk]) (put45 (by omega) (by omega))⟩
    case ch => rw [h1e]; exact Ch.congr (fun y hy => hlk y ((I.free y).1 hy).1) I.chain
    case ne =>
      subst ex; rw [hpm] at e
      rcases e with e | e
      · cases e; exact hi rfl
      · cases e
    case l1 =>
      by_cases ht : there sh (idx (f 1))
      · exact hlk _ ht
      · exact lnk_put (by omega) ht
    case us =>
      intro x hx
      by_cases ex : x = idx g
      · subst ex; rw [hpm]
        exact ⟨fun h => (by rcases h with h | ⟨_, h⟩ <;> cases h), fun ⟨_, h⟩ => (by cases h)⟩
      · rw [hus x hx ex]; exact I.us x hx
    case um => intro _ _; show usd sh _ (idx g) = 1; rw [(putH h5 htg htg).2.2.1, if_pos rfl, u2]
  · exact absurd (by simp [rends, hk]) hne
  · exact absurd hk h'
theorem step_g {hand : Int} {j : Jb} {st g xb gn sl : Int} {told : Ans} (hs : cur h = ⟨hand, j, st, g, xb, gn, sl, told⟩) (W : Wf sh (cur h)) (hk : ¬ j.kind = 1) (hne : ¬ rends sh (cur h) (stepOf P.n f (rreq sh (cur h))) = true) :
    ∃ C' pl', Inv sh P Ow (wordsOf P.n f (rreq sh (cur h))) done (upd cur h (rnext sh (cur h) (stepOf P.n f (rreq sh (cur h))))) ans (k + 1) C' pl' := by
  have H := I.hand h hh hdn
  have N := n13 h5 hn
  have p1 : (0 : Int) ≤ 1 ∧ (1 : Int) < P.n := by omega
  have hst := W.st
  have hsl := W.sl
  have MK := I.mak h
  have DY := I.dy h
  have nomk : ∀ x, there sh x → ¬ pl x = .mk h := fun x hx e => hk (by have := (MK x hx e).2.2.1; rw [hs] at this; exact this)
  rw [hs] at H hst hsl DY hne ⊢
  simp only at hst hsl DY
  have t0 := H.t0
  have ht := H.ga hk
  simp only at ht
  have hHd := head_nat h5 ht
  have hLk := link_nat h5 ht
  rcases hst with ⟨h', _⟩ | ⟨-, rfl | rfl | rfl | rfl | rfl | rfl | rfl⟩
  · exact absurd h' hk
  · -- store 0 to a slot
    have hsn := hsl hk rfl
    have hS := slot_nat h5 hsn
    have hown : pl j.a = .own h := H.g0 hk (.inl rfl)
    have er : rreq sh ⟨hand, j, 0, g, xb, gn, sl, told⟩ = ⟨hand, 2, slotAt sh j.a sl, 0, 0, true⟩ := by simp [rreq, hk]
    rw [er]
    have ef := store_eff (f := f) (hand := hand) (v := 0) (p := slotAt sh j.a sl) (n := P.n) (by omega)
    rw [ef]
    have sv : Sv sh f (putF f (slotAt sh j.a sl).toNat 0) := ⟨(putS h5 hsn ht).1, fun x hx => (putS h5 hsn hx).2⟩
    have hl0 : there sh (idx (f 1)) ∨ lnk sh (putF f (slotAt sh j.a sl).toNat 0) (idx (f 1)) = lnk sh f (idx (f 1)) := by
      by_cases e : there sh (idx (f 1))
      · exact .inl e
      · exact .inr (lnk_put (by omega) e)
    have giv : ∀ {s' : RmS} x, GivS (cur h) x → GivS s' x := fun x hx => by
      rw [hs] at hx
      have h9 := hx.2.2
      simp at h9
    by_cases hmore : slotIn sh j.a (sl + 1)
    · have en : rnext sh ⟨hand, j, 0, g, xb, gn, sl, told⟩ (stepOf P.n f ⟨hand, 2, slotAt sh j.a sl, 0, 0, true⟩) = ⟨hand, j, 0, g, xb, gn, sl + 1, told⟩ := by
        simp [rnext, hk, hmore]
      rw [en]
      exact ⟨C, pl, I.still hh hdn sv hl0 (hand_g hk t0 ht (fun _ => hown) (fun e => by simp at e) (fun e => by simp at e) (fun e => by simp at e) (fun e => by simp at e))
        (fun x hx e => absurd e (nomk x hx)) (fun x hx e => absurd (DY x hx e).2.2.2.1 (by decide)) giv (fun a _ => absurd a hk) (by rw [hs]; simp [holdS, gvS, hk]) (put45 (by omega) (by omega))⟩
    · have en : rnext sh ⟨hand, j, 0, g, xb, gn, sl, told⟩ (stepOf P.n f ⟨hand, 2, slotAt sh j.a sl, 0, 0, true⟩) = ⟨hand, j, 1, g, xb, gn, sl + 1, told⟩ := by
        simp [rnext, hk, hmore]
      rw [en]
      exact ⟨C, pl, I.still hh hdn sv hl0 (hand_g hk t0 ht (fun _ => hown) (fun e => by simp at e) (fun e => by simp at e) (fun e => by simp at e) (fun e => by simp at e))
        (fun x hx e => absurd e (nomk x hx)) (fun x hx e => absurd (DY x hx e).2.2.2.1 (by decide)) giv (fun a _ => absurd a hk) (by rw [hs]; simp [holdS, gvS, hk]) (put45 (by omega) (by omega))⟩
  · -- load the head
    have hown : pl j.a = .own h := H.g0 hk (.inr (.inl rfl))
    have er : rreq sh ⟨hand, j, 1, g, xb, gn, sl, told⟩ = ⟨hand, 1, headAt sh j.a, 0, 0, true⟩ := by simp [rreq, hk]
    rw [er]
    obtain ⟨ef, eh⟩ := load_eff (f := f) (hand := hand) (p := headAt sh j.a) (n := P.n) (by omega)
    have en : rnext sh ⟨hand, j, 1, g, xb, gn, sl, told⟩ (stepOf P.n f ⟨hand, 1, headAt sh j.a, 0, 0, true⟩) = ⟨hand, j, 2, g, xb, gen sh f j.a, sl, told⟩ := by
      simp [rnext, hk, eh]; rfl
    rw [ef, en]
    exact ⟨C, pl, I.still hh hdn (Sv.refl _ _) (.inr rfl) (hand_g hk t0 ht (fun _ => hown) (fun _ => rfl) (fun e => by simp at e) (fun e => by simp at e) (fun e => by simp at e))
      (fun x hx e => absurd e (nomk x hx)) (fun x hx e => absurd (DY x hx e).2.2.2.1 (by decide)) (fun x hx => by rw [hs] at hx; have h9 := hx.2.2; simp at h9) (fun a _ => absurd a hk) (by rw [hs]; simp [holdS, gvS, hk]) ⟨rfl, rfl⟩⟩
  · -- store the head
    have hown : pl j.a = .own h := H.g0 hk (.inr (.inr rfl))
    have hgn : gn = gen sh f j.a := H.g2 hk rfl
    have hg := I.gn j.a ht
    rw [hown] at hg
    simp only [lv] at hg
    have er : rreq sh ⟨hand, j, 2, g, xb, gn, sl, told⟩ = ⟨hand, 2, headAt sh j.a, 0, hd 0 (nxg gn), true⟩ := by simp [rreq, hk]
    rw [er]
    have hnx : nxg gn = gn + 1 := by unfold nxg; rw [if_neg (by omega)]
    have hv1 : hd 0 (nxg gn) / 4294967296 = gn + 1 := by rw [hnx]; unfold Go.Proofs.YtidihnnmdmlgfaaGreat.hd; omega
    have hv2 : hd 0 (nxg gn) % 2 = 0 := by rw [hnx]; unfold Go.Proofs.YtidihnnmdmlgfaaGreat.hd; omega
    have ef := store_eff (f := f) (hand := hand) (v := hd 0 (nxg gn)) (p := headAt sh j.a) (n := P.n) (by omega)
    have en : rnext sh ⟨hand, j, 2, g, xb, gn, sl, told⟩ (stepOf P.n f ⟨hand, 2, headAt sh j.a, 0, hd 0 (nxg gn), true⟩) = ⟨hand, j, 3, g, xb, gn, sl, told⟩ := by
      have : ¬ gn = 4294967295 := by omega
      simp [rnext, hk, this]
    rw [ef, en]
    have PH := fun x (hx : there sh x) => putH h5 (f := f) (v := hd 0 (nxg gn)) ht hx
    generalize hd 0 (nxg gn) = v at PH hv1 hv2
    have o1 : ∀ {x}, x ≠ j.a → updI pl j.a (Pl.dy h) x = pl x := fun e => updI_other _ _ e
    have s1 : updI pl j.a (Pl.dy h) j.a = Pl.dy h := updI_same _ _ _
    refine ⟨C, updI pl j.a (.dy h), I.goes hh hdn ?ch I.nod ?free (hand_g hk t0 ht (fun e => by simp at e) (fun e => by simp at e) (fun _ => s1) (fun e => by simp at e) (fun e => by simp at e)) ?hpl ?hpi (fun i hi x hx e => ?hg) (fun i _ x hx _ => (PH x hx).2.2.2) (.inl ⟨(PH j.a ht).1, ?l1⟩) ?mk ?dy ?own (fun x hx => by rw [hs] at hx; have h9 := hx.2.2; simp at h9) ?gn ?us (fun a _ => absurd a hk) (by rw [hs]; simp [holdS, gvS, hk]) (put45 (by omega) (by omega))⟩
    case ch => rw [(PH j.a ht).1]; exact Ch.congr (fun y hy => (PH y ((I.free y).1 hy).1).2.2.2) I.chain
    case free =>
      intro x
      rw [I.free x]
      by_cases e : x = j.a
      · subst e; rw [s1, hown]
        exact ⟨fun h => (by cases h.2), fun h => (by cases h.2)⟩
      · rw [o1 e]
    case hpl =>
      intro i hi x hx
      refine o1 (fun e => ?_)
      subst e; rw [hown] at hx
      rcases hx with h | h | h
      · cases h
      · cases h; exact hi rfl
      · cases h
    case hpi =>
      intro i hi x hx
      refine o1 (fun e => ?_)
      subst e; rw [s1] at hx
      rcases hx with h | h
      · cases h
      · cases h; exact hi rfl
    case hg =>
      have ne : x ≠ j.a := fun ex => by
        subst ex; rw [hown] at e
        rcases e with e | e
        · cases e
        · cases e; exact hi rfl
      rw [(PH x hx).2.1, (PH x hx).2.2.1, if_neg ne, if_neg ne]
      exact ⟨rfl, rfl⟩
    case l1 =>
      by_cases e : there sh (idx (f 1))
      · exact (PH _ e).2.2.2
      · exact lnk_put (by omega) e
    case mk =>
      intro x hx e
      by_cases ex : x = j.a
      · subst ex; rw [s1] at e; cases e
      · rw [o1 ex] at e; exact absurd e (nomk x hx)
    case dy =>
      intro x hx e
      by_cases ex : x = j.a
      · exact ⟨hk, .inl rfl, ex.symm⟩
      · rw [o1 ex] at e; exact absurd (DY x hx e).2.2.2.1 (by decide)
    case own =>
      intro x hx e
      by_cases ex : x = j.a
      · exact .inr ⟨hk, ex.symm, .inl rfl⟩
      · exact .inl ((o1 ex).trans e)
    case gn =>
      intro x hx
      rw [(PH x hx).2.1]
      by_cases ex : x = j.a
      · subst ex; rw [s1, hown, if_pos rfl, hv1, hgn]
        exact ⟨by omega, by simp only [lv]; omega⟩
      · rw [o1 ex, if_neg ex]; exact ⟨(I.gn x hx).1, rfl⟩
    case us =>
      intro x hx
      rw [(PH x hx).2.2.1]
      by_cases ex : x = j.a
      · subst ex; rw [s1, if_pos rfl, hv2]
        exact ⟨fun _ => rfl, fun ⟨_, h⟩ => (by cases h)⟩
      · rw [o1 ex, if_neg ex]; exact I.us x hx
  · -- load Free
    have hdy : pl j.a = .dy h := H.g3 hk (.inl rfl)
    have er : rreq sh ⟨hand, j, 3, g, xb, gn, sl, told⟩ = ⟨hand, 1, 1, 0, 0, true⟩ := by simp [rreq, hk]
    rw [er]
    obtain ⟨ef, eh⟩ := load_eff (f := f) (hand := hand) p1
    have en : rnext sh ⟨hand, j, 3, g, xb, gn, sl, told⟩ (stepOf P.n f ⟨hand, 1, 1, 0, 0, true⟩) = ⟨hand, j, 4, f 1, xb, gn, sl, told⟩ := by
      simp [rnext, hk, eh]
    rw [ef, en]
    exact ⟨C, pl, I.still hh hdn (Sv.refl _ _) (.inr rfl) (hand_g hk t0 ht (fun e => by simp at e) (fun e => by simp at e) (fun _ => hdy) (fun _ => ⟨Int.le_refl _, fun _ => rfl⟩) (fun e => by simp at e))
      (fun x hx e => absurd e (nomk x hx)) (fun x hx e => ⟨hk, .inr (.inl rfl), (DY x hx e).2.2.2.2⟩) (fun x hx => by rw [hs] at hx; exact ⟨hk, hx.2.1, .inr (.inl rfl)⟩) (fun a _ => absurd a hk) (by rw [hs]; simp [holdS, gvS, hk]) ⟨rfl, rfl⟩⟩
  · -- store the link
    have hdy : pl j.a = .dy h := H.g3 hk (.inr (.inl rfl))
    have er : rreq sh ⟨hand, j, 4, g, xb, gn, sl, told⟩ = ⟨hand, 2, linkAt sh j.a, 0, idx g, true⟩ := by simp [rreq, hk]
    rw [er]
    have ef := store_eff (f := f) (hand := hand) (v := idx g) (p := linkAt sh j.a) (n := P.n) (by omega)
    have en : rnext sh ⟨hand, j, 4, g, xb, gn, sl, told⟩ (stepOf P.n f ⟨hand, 2, linkAt sh j.a, 0, idx g, true⟩) = ⟨hand, j, 5, g, xb, gn, sl, told⟩ := by
      simp [rnext, hk]
    rw [ef, en]
    have PH := fun x (hx : there sh x) => putL h5 (f := f) (v := idx g) ht hx
    have ii : idx (idx g) = idx g := by unfold idx; omega
    rw [ii] at PH
    have ne : ∀ x, there sh x → pl x = .free ∨ (∃ i, i ≠ h ∧ pl x = .dy i) → x ≠ j.a := fun x hx e ex => by
      subst ex; rw [hdy] at e
      rcases e with e | ⟨i, hi, e⟩
      · cases e
      · cases e; exact hi rfl
    refine ⟨C, pl, I.goes hh hdn ?ch I.nod I.free (hand_g hk t0 ht (fun e => by simp at e) (fun e => by simp at e) (fun _ => hdy) (fun _ => ?g4) (fun _ => ?g5)) (fun _ _ _ _ => rfl) (fun _ _ _ _ => rfl) (fun i _ x hx _ => ⟨(PH x hx).2.1, (PH x hx).2.2.1⟩) (fun i hi x hx e => ?hl) (.inl ⟨(PH j.a ht).1, ?l1⟩) (fun x hx e => absurd e (nomk x hx)) (fun x hx e => ⟨hk, .inr (.inr rfl), (DY x hx e).2.2.2.2⟩) (fun x _ e => .inl e) (fun x hx => by rw [hs] at hx; exact ⟨hk, hx.2.1, .inr (.inr (.inl rfl))⟩) (fun x hx => by rw [(PH x hx).2.1]; exact ⟨(I.gn x hx).1, rfl⟩) (fun x hx => by rw [(PH x hx).2.2.1]; exact I.us x hx) (fun a _ => absurd a hk) (by rw [hs]; simp [holdS, gvS, hk]) (put45 (by omega) (by omega))⟩
    case ch => rw [(PH j.a ht).1]; exact Ch.congr (fun y hy => by have hy' := (I.free y).1 hy; rw [(PH y hy'.1).2.2.2, if_neg (ne y hy'.1 (.inl hy'.2))]) I.chain
    case g4 => exact (H.g4 hk (.inl rfl)).keep (.inl (PH j.a ht).1)
    case g5 => show lnk sh _ j.a = idx g; rw [(PH j.a ht).2.2.2, if_pos rfl]
    case hl => rw [(PH x hx).2.2.2, if_neg (ne x hx (.inr ⟨i, hi, e⟩))]
    case l1 =>
      by_cases e : there sh (idx (f 1))
      · rw [(PH _ e).2.2.2, if_neg (ne _ e (.inl ?_))]
        have hc := I.chain
        have hf := I.free (idx (f 1))
        match C, hc, hf with
        | [], hc, _ => have := e.1; have hc' : idx (f 1) = 0 := hc; omega
        | x0 :: C1, hc, hf => exact (hf.1 (by rw [hc.1]; simp)).2
      · exact lnk_put (by omega) e
  · -- CAS Free
    have hdy : pl j.a = .dy h := H.g3 hk (.inr (.inr rfl))
    have hlk : lnk sh f j.a = idx g := H.g5 hk rfl
    have ha : 0 ≤ j.a ∧ j.a < 4294967296 := by have := ht.1; have := ht.2; have := h5.1.2; omega
    have er : rreq sh ⟨hand, j, 5, g, xb, gn, sl, told⟩ = ⟨hand, 5, 1, g, bmp g j.a, true⟩ := by simp [rreq, hk]
    rw [er]
    by_cases ho : f 1 = g
    · obtain ⟨ef, eo⟩ := cas_yes (f := f) (hand := hand) (v := bmp g j.a) p1 (show f (1 : Int).toNat = g from ho)
      have en : rnext sh ⟨hand, j, 5, g, xb, gn, sl, told⟩ (stepOf P.n f ⟨hand, 5, 1, g, bmp g j.a, true⟩) = ⟨hand, j, 6, g, xb, gn, sl, told⟩ := by
        simp [rnext, hk, eo]
      rw [ef, en, show (1 : Int).toNat = 1 from rfl]
      have eg : tag (bmp g j.a) = tag (f 1) + 1 := by rw [ho]; have := I.tagk; rw [ho] at this; exact bmp_tag (by omega)
      have e1 : putF f 1 (bmp g j.a) 1 = bmp g j.a := by simp [putF]
      have o1 : ∀ {x}, x ≠ j.a → updI pl j.a Pl.free x = pl x := fun e => updI_other _ _ e
      have s1 : updI pl j.a Pl.free j.a = Pl.free := updI_same _ _ _
      have hn0 : j.a ∉ C := fun hm => by have := ((I.free j.a).1 hm).2; rw [hdy] at this; cases this
      refine ⟨j.a :: C, updI pl j.a .free, I.goes hh hdn ?ch (List.nodup_cons.2 ⟨hn0, I.nod⟩) ?free (hand_g hk t0 ht (fun e => by simp at e) (fun e => by simp at e) (fun e => by simp at e) (fun e => by simp at e) (fun e => by simp at e)) ?hpl ?hpi (fun i _ x hx _ => ⟨(put1 h5 hx).1, (put1 h5 hx).2.1⟩) (fun i _ x hx _ => (put1 h5 hx).2.2) (.inr (by rw [e1]; exact eg)) ?mk ?dy ?own (fun x hx => by rw [hs] at hx; exact ⟨hk, hx.2.1, .inr (.inr (.inr rfl))⟩) ?gn ?us (fun a _ => absurd a hk) (by rw [hs]; simp [holdS, gvS, hk]) (put45 (by decide) (by decide))⟩
      case ch =>
        rw [e1, bmp_idx ha]
        refine ⟨rfl, ht, ?_⟩
        rw [(put1 h5 ht).2.2, hlk, ← ho]
        exact Ch.congr (fun y hy => (put1 h5 ((I.free y).1 hy).1).2.2) I.chain
      case free =>
        intro x
        by_cases e : x = j.a
        · subst e; rw [s1]; exact ⟨fun _ => ⟨ht, rfl⟩, fun _ => by simp⟩
        · rw [o1 e, ← I.free x]; simp [e]
      case hpl =>
        intro i hi x hx
        refine o1 (fun e => ?_)
        subst e; rw [hdy] at hx
        rcases hx with h | h | h
        · cases h
        · cases h
        · cases h; exact hi rfl
      case hpi =>
        intro i hi x hx
        refine o1 (fun e => ?_)
        subst e; rw [s1] at hx
        rcases hx with h | h <;> cases h
      case mk =>
        intro x hx e
        by_cases ex : x = j.a
        · subst ex; rw [s1] at e; cases e
        · rw [o1 ex] at e; exact absurd e (nomk x hx)
      case dy =>
        intro x hx e
        by_cases ex : x = j.a
        · subst ex; rw [s1] at e; cases e
        · rw [o1 ex] at e; exact absurd (DY x hx e).2.2.2.2.symm ex
      case own =>
        intro x hx e
        refine .inl ((o1 (fun ex => ?_)).trans e)
        subst ex; rw [hdy] at e; cases e
      case gn =>
        intro x hx
        rw [(put1 h5 hx).1]
        refine ⟨(I.gn x hx).1, ?_⟩
        by_cases ex : x = j.a
        · subst ex; rw [s1, hdy]; rfl
        · rw [o1 ex]
      case us =>
        intro x hx
        rw [(put1 h5 hx).2.1]
        by_cases ex : x = j.a
        · subst ex; rw [s1]
          exact ⟨fun _ => (I.us _ hx).1 (.inr ⟨h, hdy⟩), fun ⟨_, h⟩ => (by cases h)⟩
        · rw [o1 ex]; exact I.us x hx
    · obtain ⟨ef, eo⟩ := cas_no (f := f) (hand := hand) (v := bmp g j.a) p1 (show ¬ f (1 : Int).toNat = g from ho)
      have en : rnext sh ⟨hand, j, 5, g, xb, gn, sl, told⟩ (stepOf P.n f ⟨hand, 5, 1, g, bmp g j.a, true⟩) = ⟨hand, j, 3, g, xb, gn, sl, told⟩ := by
        simp [rnext, hk, eo]
      rw [ef, en]
      exact ⟨C, pl, I.still hh hdn (Sv.refl _ _) (.inr rfl) (hand_g hk t0 ht (fun e => by simp at e) (fun e => by simp at e) (fun _ => hdy) (fun e => by simp at e) (fun e => by simp at e))
        (fun x hx e => absurd e (nomk x hx)) (fun x hx e => ⟨hk, .inl rfl, (DY x hx e).2.2.2.2⟩) (fun x hx => by rw [hs] at hx; exact ⟨hk, hx.2.1, .inl rfl⟩) (fun a _ => absurd a hk) (by rw [hs]; simp [holdS, gvS, hk]) ⟨rfl, rfl⟩⟩
  · exact absurd (by simp [rends, hk]) hne
end
end Rom
end
end Go.Proofs.YtidihnnmdmlgfaaGreat

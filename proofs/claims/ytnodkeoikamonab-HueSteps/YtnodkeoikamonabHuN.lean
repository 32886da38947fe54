/-
  Hue, pure: the colours of objects, what the laws of the three colours ask, and what they tell.
-/
import Derived.Test.YtnodkeoikamonabGrN
namespace Go.Proofs.Ytnodkeoikamonab
set_option linter.unusedVariables false
set_option linter.unusedSimpArgs false
namespace Hu
open Gr

/-- The first one below n for which p holds, from 1 on; 0: none. -/
def fs (p : Nat → Bool) (n : Nat) : Nat := match (List.range n).find? p with | some i => i + 1 | none => 0
theorem find_range {p : Nat → Bool} {n i : Nat} (hi : i < n) (hp : p i = true) (hn : ∀ j, j < i → p j = false) : (List.range n).find? p = some i := by
  rw [List.find?_range_eq_some]
  exact ⟨hp, by simpa using hi, fun j hj => by simp [hn j hj]⟩
theorem fs_at {p : Nat → Bool} {n i : Nat} (hi : i < n) (hp : p i = true) (hn : ∀ j, j < i → p j = false) : fs p n = i + 1 := by
  unfold fs; rw [find_range hi hp hn]
theorem fs_none {p : Nat → Bool} {n : Nat} (hn : ∀ j, j < n → p j = false) : fs p n = 0 := by
  unfold fs
  have : (List.range n).find? p = none := by
    rw [List.find?_eq_none]
    intro x hx
    have := hn x (List.mem_range.1 hx)
    simp [this]
  rw [this]
theorem fs_zero {p : Nat → Bool} {n : Nat} : fs p n = 0 ↔ ∀ j, j < n → p j = false := by
  constructor
  · intro h j hj
    unfold fs at h
    split at h
    · omega
    · rename_i hf
      rw [List.find?_eq_none] at hf
      have := hf j (List.mem_range.2 hj)
      simpa using this
  · exact fs_none
theorem fs_le (p : Nat → Bool) (n : Nat) : fs p n ≤ n := by
  unfold fs
  split
  · rename_i i h
    have := List.mem_of_find?_eq_some h
    have := List.mem_range.1 this
    omega
  · omega
/-- The least of them, told by what it is. -/
theorem fs_least {p : Nat → Bool} {n r : Nat} (h0 : r = 0 → ∀ j, j < n → p j = false) (h1 : r ≠ 0 → r - 1 < n ∧ p (r - 1) = true ∧ ∀ j, j < n → p j = true → r ≤ j + 1) : fs p n = r := by
  by_cases e : r = 0
  · rw [fs_none (h0 e), e]
  · obtain ⟨h2, h3, h4⟩ := h1 e
    rw [fs_at h2 h3 (fun j hj => ?_)]
    · omega
    · cases hb : p j with
      | false => rfl
      | true => have := h4 j (by omega) hb; omega
def er (r : Nat) : Int := if r = 0 then 0 else 150
theorem er0 {r : Nat} (h : r = 0) : er r = 0 := by simp [er, h]
theorem er1 {r : Nat} (h : r ≠ 0) : er r = 150 := by simp [er, h]
theorem er_iff {r : Nat} : er r = 0 ↔ r = 0 := by unfold er; split <;> simp_all

/-- Its colour as long as nobody waits. -/
def look (o : Ob) : Int := if o.us = false then 0 else if o.li = true then 3 else 1
/-- Each object's colour: 0 out of use, 1 white, 2 grey, 3 black. -/
def col (os : List Ob) (ws : List Int) (i : Nat) : Int :=
  match os[i]? with
  | none => 0
  | some o => if look o = 3 then (if (i : Int) + 1 ∈ ws then 2 else 3) else look o
theorem look_cases (o : Ob) : (o.us = false ∧ look o = 0) ∨ (o.us = true ∧ o.li = true ∧ look o = 3) ∨ (o.us = true ∧ o.li = false ∧ look o = 1) := by
  unfold look
  cases o.us <;> cases o.li <;> simp
theorem col_nil {os : List Ob} {i : Nat} {o : Ob} (h : os[i]? = some o) : col os [] i = look o := by
  simp only [col, h]
  by_cases e : look o = 3
  · simp [e]
  · simp [e]
theorem col_out {os : List Ob} {ws : List Int} {i : Nat} (h : os.length ≤ i) : col os ws i = 0 := by
  unfold col
  rw [List.getElem?_eq_none h]
theorem col_snoc {os : List Ob} {ws : List Int} {x : Int} {i : Nat} : col os (ws ++ [x]) i = if x = (i : Int) + 1 ∧ col os ws i = 3 then 2 else col os ws i := by
  unfold col
  cases h : os[i]? with
  | none => simp
  | some o =>
    simp only
    by_cases e : look o = 3
    · simp only [e, if_true]
      by_cases e2 : (i : Int) + 1 ∈ ws
      · simp [e2]
      · by_cases e3 : x = (i : Int) + 1
        · subst e3; simp [e2]
        · have e4 : ¬ (i : Int) + 1 = x := fun h => e3 h.symm
          simp [e2, e3, e4]
    · simp [e]
theorem col_cases {os : List Ob} (ws : List Int) {i : Nat} {o : Ob} (h : os[i]? = some o) : (o.us = false ∧ col os ws i = 0) ∨ (o.us = true ∧ o.li = false ∧ col os ws i = 1) ∨ (o.us = true ∧ o.li = true ∧ (i : Int) + 1 ∈ ws ∧ col os ws i = 2) ∨ (o.us = true ∧ o.li = true ∧ ¬ (i : Int) + 1 ∈ ws ∧ col os ws i = 3) := by
  simp only [col, h]
  rcases look_cases o with ⟨h1, h2⟩ | ⟨h1, h2, h3⟩ | ⟨h1, h2, h3⟩
  · simp [h1, h2]
  · by_cases e : (i : Int) + 1 ∈ ws
    · simp [h1, h2, h3, e]
    · simp [h1, h2, h3, e]
  · simp [h1, h2, h3]
theorem col_rng (os : List Ob) (ws : List Int) (i : Nat) : 0 ≤ col os ws i ∧ col os ws i ≤ 3 := by
  cases h : os[i]? with
  | none => simp [col, h]
  | some o => rcases col_cases ws h with ⟨_, h⟩ | ⟨_, _, h⟩ | ⟨_, _, _, h⟩ | ⟨_, _, _, h⟩ <;> omega
theorem col_pos {os : List Ob} {ws : List Int} {i : Nat} (h : col os ws i ≠ 0) : i < os.length := by
  by_cases e : i < os.length
  · exact e
  · exact absurd (col_out (by omega)) h
/-- The number of the white object that a handle is good for; 0: none. -/
def wh (os : List Ob) (ws : List Int) (h : Int) : Nat := if gd os h ≠ 0 ∧ col os ws (gd os h - 1) = 1 then gd os h else 0
theorem wh_le (os : List Ob) (ws : List Int) (h : Int) : wh os ws h ≤ os.length := by
  unfold wh; split
  · exact gd_le _ _
  · omega
theorem wh_ne {os : List Ob} {ws : List Int} {h : Int} (hw : wh os ws h ≠ 0) : gd os h = wh os ws h ∧ gd os h ≠ 0 ∧ col os ws (gd os h - 1) = 1 := by
  unfold wh at hw ⊢
  split at hw
  · rename_i hc; rw [if_pos hc]; exact ⟨rfl, hc⟩
  · exact absurd rfl hw
theorem wh_col {os : List Ob} {ws : List Int} {h : Int} (hw : wh os ws h ≠ 0) : col os ws (wh os ws h - 1) = 1 := by
  obtain ⟨h1, h2, h3⟩ := wh_ne hw
  rw [← h1]; exact h3
def sls (os : List Ob) (i : Nat) : List Int := match os[i]? with | some o => o.sl | none => []
theorem sls_at {os : List Ob} {i : Nat} {o : Ob} (h : os[i]? = some o) : sls os i = o.sl := by simp [sls, h]
/-- The slots of the objects of a colour, of the first n. -/
def so (os : List Ob) (ws : List Int) (c : Int) : Nat → List Int
  | 0 => []
  | n + 1 => so os ws c n ++ (if col os ws n = c then sls os n else [])
theorem so_mem {os : List Ob} {ws : List Int} {c : Int} {h : Int} : ∀ {n : Nat}, h ∈ so os ws c n ↔ ∃ i, i < n ∧ col os ws i = c ∧ h ∈ sls os i
  | 0 => by simp [so]
  | n + 1 => by
    simp only [so, List.mem_append, so_mem (n := n)]
    constructor
    · rintro (⟨i, h1, h2⟩ | h1)
      · exact ⟨i, by omega, h2⟩
      · split at h1
        · rename_i e; exact ⟨n, by omega, e, h1⟩
        · simp at h1
    · rintro ⟨i, h1, h2, h3⟩
      by_cases e : i = n
      · subst e; right; rw [if_pos h2]; exact h3
      · exact .inl ⟨i, by omega, h2, h3⟩
/-- How many slots the first n have. -/
def nsl (os : List Ob) : Nat → Nat
  | 0 => 0
  | n + 1 => nsl os n + (sls os n).length
theorem so_len (os : List Ob) (ws : List Int) (c : Int) : ∀ n, (so os ws c n).length ≤ nsl os n
  | 0 => by simp [so, nsl]
  | n + 1 => by
    have := so_len os ws c n
    simp only [so, nsl, List.length_append]
    split
    · omega
    · simp; omega
theorem nsl_mono (os : List Ob) : ∀ {m n : Nat}, m ≤ n → nsl os m ≤ nsl os n
  | m, 0, h => by have : m = 0 := by omega
                  subst this; exact Nat.le_refl _
  | m, n + 1, h => by
    by_cases e : m = n + 1
    · subst e; exact Nat.le_refl _
    · have := nsl_mono os (m := m) (n := n) (by omega)
      simp only [nsl]; omega
/-- The numbers of the objects of a colour, of the first n. -/
def nb (os : List Ob) (ws : List Int) (c : Int) : Nat → List Int
  | 0 => []
  | n + 1 => nb os ws c n ++ (if col os ws n = c then [(n : Int) + 1] else [])
theorem nb_mem {os : List Ob} {ws : List Int} {c : Int} {x : Int} : ∀ {n : Nat}, x ∈ nb os ws c n ↔ ∃ i : Nat, i < n ∧ col os ws i = c ∧ x = (i : Int) + 1
  | 0 => by simp [nb]
  | n + 1 => by
    simp only [nb, List.mem_append, nb_mem (n := n)]
    constructor
    · rintro (⟨i, h1, h2⟩ | h1)
      · exact ⟨i, by omega, h2⟩
      · split at h1
        · rename_i e; simp at h1; exact ⟨n, by omega, e, h1⟩
        · simp at h1
    · rintro ⟨i, h1, h2, h3⟩
      by_cases e : i = n
      · subst e; right; rw [if_pos h2]; simp [h3]
      · exact .inl ⟨i, by omega, h2, h3⟩
theorem nb_len (os : List Ob) (ws : List Int) (c : Int) : ∀ n, (nb os ws c n).length ≤ n
  | 0 => by simp [nb]
  | n + 1 => by
    have := nb_len os ws c n
    simp only [nb, List.length_append]
    split <;> simp <;> omega
theorem nb_nodup (os : List Ob) (ws : List Int) (c : Int) : ∀ n, (nb os ws c n).Nodup
  | 0 => by simp [nb]
  | n + 1 => by
    have := nb_nodup os ws c n
    simp only [nb]
    split
    · rw [List.nodup_append]
      refine ⟨this, by simp, ?_⟩
      intro a ha b hb e
      obtain ⟨i, h1, _, h2⟩ := nb_mem.1 ha
      simp at hb
      omega
    · simpa using this

/-- Does a black one show a white one? -/
def stp (os : List Ob) (ws : List Int) (i : Nat) : Bool := decide (col os ws i = 3) && (sls os i).any (fun h => wh os ws h != 0)
theorem stp_iff {os : List Ob} {ws : List Int} {i : Nat} : stp os ws i = true ↔ col os ws i = 3 ∧ ∃ h ∈ sls os i, wh os ws h ≠ 0 := by simp [stp]
theorem stp_not {os : List Ob} {ws : List Int} {i : Nat} (h : col os ws i ≠ 3) : stp os ws i = false := by simp [stp, h]

/-- The objects, the white ones alone in use. -/
def lw (os : List Ob) (ws : List Int) : List Ob := os.mapIdx fun i o => { o with us := decide (col os ws i = 1) }
theorem lw_len (os : List Ob) (ws : List Int) : (lw os ws).length = os.length := by simp [lw]
theorem lw_get {os : List Ob} {ws : List Int} {i : Nat} {o : Ob} (h : os[i]? = some o) : (lw os ws)[i]? = some { o with us := decide (col os ws i = 1) } := by simp [lw, h]
theorem lw_sls (os : List Ob) (ws : List Int) (i : Nat) : sls (lw os ws) i = sls os i := by
  unfold sls
  cases h : os[i]? with
  | none => rw [List.getElem?_eq_none (by rw [lw_len]; exact List.getElem?_eq_none_iff.1 h)]
  | some o => rw [lw_get h]
theorem gd_lw (os : List Ob) (ws : List Int) (h : Int) : gd (lw os ws) h = wh os ws h := by
  unfold wh
  obtain ⟨k, hk⟩ : ∃ k, (h % 4294967296).toNat - 1 = k := ⟨_, rfl⟩
  cases ho : os[k]? with
  | none =>
    have e1 : gd os h = 0 := by simp only [gd, hk, ho]
    have e2 : (lw os ws)[k]? = none := List.getElem?_eq_none (by rw [lw_len]; exact List.getElem?_eq_none_iff.1 ho)
    have e3 : gd (lw os ws) h = 0 := by simp only [gd, hk, e2]
    rw [e1, e3]; simp
  | some o =>
    have e2 := lw_get (ws := ws) ho
    by_cases hc : 1 ≤ h % 4294967296 ∧ o.us = true ∧ o.ge = h / 4294967296
    · have e1 : gd os h = (h % 4294967296).toNat := by simp only [gd, hk, ho]; rw [if_pos hc]
      have e4 : gd os h - 1 = k := by rw [e1]; exact hk
      rw [e4]
      by_cases e5 : col os ws k = 1
      · have e3 : gd (lw os ws) h = (h % 4294967296).toNat := by
          simp only [gd, hk, e2]; rw [if_pos ⟨hc.1, by simpa using e5, hc.2.2⟩]
        rw [if_pos ⟨by omega, e5⟩, e3, e1]
      · have e3 : gd (lw os ws) h = 0 := by
          simp only [gd, hk, e2]; rw [if_neg (fun hx => e5 (by simpa using hx.2.1))]
        rw [if_neg (fun hx => e5 hx.2), e3]
    · have e1 : gd os h = 0 := by simp only [gd, hk, ho]; rw [if_neg hc]
      rw [e1]
      have e3 : gd (lw os ws) h = 0 := by
        simp only [gd, hk, e2]
        rw [if_neg]
        rintro ⟨h1, h2, h3⟩
        have h2 : col os ws k = 1 := by simpa using h2
        rcases col_cases ws ho with ⟨_, h⟩ | ⟨hu, _, _⟩ | ⟨_, _, _, h⟩ | ⟨_, _, _, h⟩
        · omega
        · exact hc ⟨h1, hu, h3⟩
        · omega
        · omega
      rw [e3]; simp
/-- In the shelter of a grey one. -/
def Sh (os : List Ob) (ws : List Int) (i : Nat) : Prop := Rc (lw os ws) (so os ws 2 os.length) (i + 1)
/-- Shown by a black one, and white. -/
def Sb (os : List Ob) (ws : List Int) (i : Nat) : Prop := ∃ h ∈ so os ws 3 os.length, wh os ws h = i + 1
noncomputable def shb (os : List Ob) (ws : List Int) (i : Nat) : Bool := @decide (Sh os ws i) (Classical.propDecidable _)
noncomputable def sbb (os : List Ob) (ws : List Int) (i : Nat) : Bool := @decide (Sb os ws i) (Classical.propDecidable _)
theorem shb_iff (os : List Ob) (ws : List Int) (i : Nat) : shb os ws i = true ↔ Sh os ws i := by simp [shb]
theorem sbb_iff (os : List Ob) (ws : List Int) (i : Nat) : sbb os ws i = true ↔ Sb os ws i := by simp [sbb]
/-- The weak law is broken there. -/
noncomputable def wkp (os : List Ob) (ws : List Int) (i : Nat) : Bool := sbb os ws i && !shb os ws i
theorem wkp_iff (os : List Ob) (ws : List Int) (i : Nat) : wkp os ws i = true ↔ Sb os ws i ∧ ¬ Sh os ws i := by
  have := shb_iff os ws i
  have := sbb_iff os ws i
  unfold wkp
  cases h1 : sbb os ws i <;> cases h2 : shb os ws i <;> simp_all
theorem Sb.col {os : List Ob} {ws : List Int} {i : Nat} (h : Sb os ws i) : col os ws i = 1 := by
  obtain ⟨x, _, h2⟩ := h
  have := wh_col (os := os) (ws := ws) (h := x) (by omega)
  rw [h2] at this
  simpa using this
theorem Sb.lt {os : List Ob} {ws : List Int} {i : Nat} (h : Sb os ws i) : i < os.length := col_pos (by rw [h.col]; omega)
/-- The lowest so far. -/
structure Lo (os : List Ob) (ws : List Int) (l : List Int) (r : Nat) : Prop where
  z : r = 0 → ∀ h ∈ l, wh os ws h ≠ 0 → shb os ws (wh os ws h - 1) = true
  p : r ≠ 0 → (∃ h ∈ l, wh os ws h = r ∧ shb os ws (r - 1) = false) ∧ ∀ h ∈ l, wh os ws h ≠ 0 → shb os ws (wh os ws h - 1) = false → r ≤ wh os ws h
theorem lo_nil (os : List Ob) (ws : List Int) : Lo os ws [] 0 := ⟨fun _ h hh => by simp at hh, fun h => absurd rfl h⟩
theorem Lo.skip {os : List Ob} {ws : List Int} {l : List Int} {r : Nat} {u : Int} (H : Lo os ws l r) (hu : wh os ws u = 0 ∨ shb os ws (wh os ws u - 1) = true ∨ (r ≠ 0 ∧ r ≤ wh os ws u)) : Lo os ws (l ++ [u]) r := by
  constructor
  · intro hr h hh h0
    rcases List.mem_append.1 hh with hh | hh
    · exact H.z hr h hh h0
    · simp at hh
      subst hh
      rcases hu with hu | hu | hu
      · exact absurd hu h0
      · exact hu
      · exact absurd hr hu.1
  · intro hr
    obtain ⟨⟨h, h1, h2⟩, h3⟩ := H.p hr
    refine ⟨⟨h, by simp [h1], h2⟩, fun x hx hx0 hx1 => ?_⟩
    rcases List.mem_append.1 hx with hx | hx
    · exact h3 x hx hx0 hx1
    · simp at hx
      subst hx
      rcases hu with hu | hu | hu
      · exact absurd hu hx0
      · rw [hu] at hx1; cases hx1
      · exact hu.2
theorem Lo.take {os : List Ob} {ws : List Int} {l : List Int} {r : Nat} {u : Int} (H : Lo os ws l r) (h0 : wh os ws u ≠ 0) (h1 : shb os ws (wh os ws u - 1) = false) (h2 : r = 0 ∨ wh os ws u < r) : Lo os ws (l ++ [u]) (wh os ws u) := by
  refine ⟨fun h => absurd h h0, fun _ => ⟨⟨u, by simp, rfl, h1⟩, fun x hx hx0 hx1 => ?_⟩⟩
  rcases List.mem_append.1 hx with hx | hx
  · by_cases e : r = 0
    · have := H.z e x hx hx0
      rw [hx1] at this; cases this
    · have := (H.p e).2 x hx hx0 hx1
      omega
  · simp at hx
    subst hx
    exact Nat.le_refl _
theorem Lo.fs {os : List Ob} {ws : List Int} {r : Nat} (H : Lo os ws (so os ws 3 os.length) r) : fs (wkp os ws) os.length = r := by
  refine fs_least (fun e j hj => ?_) (fun e => ?_)
  · cases hb : wkp os ws j with
    | false => rfl
    | true =>
      obtain ⟨⟨x, h1, h2⟩, h3⟩ := (wkp_iff os ws j).1 hb
      have := H.z e x h1 (by omega)
      rw [h2] at this
      exact absurd ((shb_iff os ws j).1 (by simpa using this)) h3
  · obtain ⟨⟨x, h1, h2, h3⟩, h4⟩ := H.p e
    have hl := wh_le os ws x
    refine ⟨by omega, ?_, fun j hj hp => ?_⟩
    · rw [wkp_iff]
      refine ⟨⟨x, h1, by omega⟩, fun hs => ?_⟩
      have := (shb_iff os ws (r - 1)).2 hs
      rw [h3] at this; cases this
    · obtain ⟨⟨y, h5, h6⟩, h7⟩ := (wkp_iff os ws j).1 hp
      have := h4 y h5 (by omega) (by
        rw [h6]
        cases hb : shb os ws (j + 1 - 1) with
        | false => rfl
        | true => exact absurd ((shb_iff os ws j).1 (by simpa using hb)) h7)
      omega

/-- A handle that is neither 0 nor good. -/
def bad (os : List Ob) (h : Int) : Bool := h != 0 && gd os h == 0
def badq (os : List Ob) (k : Int) : Bool := match os[k.toNat - 1]? with | some o => !(decide (1 ≤ k) && o.us) | none => true
def lo32 (h : Int) : Int := h % 4294967296
/-- The first bad one; 0: none. -/
def fb (os : List Ob) (l : List Int) : Int := (l.find? (bad os)).getD 0
theorem fb_zero {os : List Ob} {l : List Int} : fb os l = 0 ↔ ∀ h ∈ l, bad os h = false := by
  unfold fb
  cases hf : l.find? (bad os) with
  | none =>
    rw [List.find?_eq_none] at hf
    simp only [Option.getD, true_iff]
    intro h hh
    simpa using hf h hh
  | some x =>
    have h1 := List.find?_some hf
    have h2 := List.mem_of_find?_eq_some hf
    simp only [Option.getD]
    constructor
    · intro e
      subst e
      simp [bad] at h1
    · intro h
      rw [h x h2] at h1; cases h1
/-- What is wrong, in the order in which it is looked at. -/
def wr (os : List Ob) (rs : List (List Int)) (qu : List Int) (ls : List Int) : List Int := (rs.flatten.filter (bad os)).map lo32 ++ qu.filter (badq os) ++ (ls.filter (bad os)).map lo32
def s1 (l : List Int) : Int := l.headD 0
def s2 (l : List Int) : Int := match l with | [] => 0 | _ => 150
end Hu
end Go.Proofs.Ytnodkeoikamonab

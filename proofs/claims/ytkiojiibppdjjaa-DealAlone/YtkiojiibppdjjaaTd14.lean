/-
  Lemmas: HistG, DealN, DealAF, ListW, RHB, DealAB.
-/
import Derived.Test.YtkiojiibppdjjaaTp13
import Derived.Test.YtkiojiibppdjjaaTd01
import Derived.Test.YtkiojiibppdjjaaTd13
import Derived.Test.YtkiojiibppdjjaaTp20
import Derived.Test.YtkiojiibppdjjaaTp05
import Derived.Test.YtkiojiibppdjjaaTp03
set_option linter.unusedVariables false
set_option linter.unusedSimpArgs false
set_option linter.unnecessarySimpa false
set_option maxRecDepth 20000
namespace Go.Proofs.Ytkiojiibppdjjaa

variable {K : Kd} {P : Par} {f : Nat → Int}

theorem run_succ_cases (P : Par) (s : St K) (h0 : s.k = 0) (m : Nat) : (runSt P s (m + 1) = runSt P s m ∧ (runSt P s m).turn P < 0) ∨
    ∃ h : Nat, (runSt P s m).turn P = h ∧ h < P.nh ∧ (runSt P s m).done h < P.jn h ∧ (runSt P s m).k = m ∧ runSt P s (m + 1) = stepSt P (runSt P s m) h := by
  rcases turn_ok P (runSt P s m) with ⟨ht, _⟩ | ⟨h, ht, hh, hd⟩
  · left
    refine ⟨?_, by rw [ht]; decide⟩
    show (if _ then _ else _) = _
    rw [if_pos (by rw [ht]; decide)]
  · right
    refine ⟨h, ht, hh, hd, ?_, runSt_step ht⟩
    have hk := runSt_k P s h0 m
    rcases Nat.lt_or_ge (runSt P s m).k m with l | l
    · have := hk.2 l; rw [ht] at this; omega
    · omega

/-- Each step of a run. -/
theorem hist (P : Par) (s : St K) (h0 : s.k = 0) : ∀ m i, i < (runSt P s m).k → (runSt P s i).k = i ∧ (∃ h : Nat, (runSt P s i).turn P = h ∧ h < P.nh ∧ (runSt P s i).done h < P.jn h ∧ runSt P s (i + 1) = stepSt P (runSt P s i) h) ∧ (runSt P s m).s i = (runSt P s (i + 1)).s i
  | 0, i, hi => by have : (runSt P s 0).k = 0 := h0; omega
  | m + 1, i, hi => by
    rcases run_succ_cases P s h0 m with ⟨e, _⟩ | ⟨h, ht, hh, hd, hk, e⟩
    · rw [e] at hi ⊢
      exact hist P s h0 m i hi
    · have hk1 : (runSt P s (m + 1)).k = m + 1 := by rw [e]; show (runSt P s m).k + 1 = _; rw [hk]
      rw [hk1] at hi
      by_cases him : i = m
      · subst him
        exact ⟨hk, ⟨h, ht, hh, hd, e⟩, rfl⟩
      · obtain ⟨a, b, c⟩ := hist P s h0 m i (by rw [hk]; omega)
        refine ⟨a, b, ?_⟩
        rw [← c, e]
        show upd (runSt P s m).s (runSt P s m).k _ i = _
        rw [upd_other _ _ (by omega)]

theorem step_done (P : Par) (st : St K) (h h' : Nat) : st.done h' ≤ (stepSt P st h).done h' ∧ ∀ j, j < st.done h' → (stepSt P st h).ans h' j = st.ans h' j := by
  simp only [stepSt]
  split
  · by_cases e : h' = h
    · subst e
      rw [upd_same, upd_same]
      exact ⟨by omega, fun j hj => upd_other _ _ (by omega)⟩
    · rw [upd_other _ _ e, upd_other _ _ e]
      exact ⟨Nat.le_refl _, fun _ _ => rfl⟩
  · exact ⟨Nat.le_refl _, fun _ _ => rfl⟩

/-- What was told stays told. -/
theorem stays (P : Par) (s : St K) (h0 : s.k = 0) (i h' : Nat) : ∀ d, (runSt P s i).done h' ≤ (runSt P s (i + d)).done h' ∧ ∀ j, j < (runSt P s i).done h' → (runSt P s (i + d)).ans h' j = (runSt P s i).ans h' j
  | 0 => ⟨Nat.le_refl _, fun _ _ => rfl⟩
  | d + 1 => by
    obtain ⟨a, b⟩ := stays P s h0 i h' d
    rcases run_succ_cases P s h0 (i + d) with ⟨e, _⟩ | ⟨h, ht, hh, hd, hk, e⟩
    · rw [show i + (d + 1) = i + d + 1 by omega, e]
      exact ⟨a, b⟩
    · rw [show i + (d + 1) = i + d + 1 by omega, e]
      obtain ⟨x, y⟩ := step_done P (runSt P s (i + d)) h h'
      exact ⟨by omega, fun j hj => (y j (by omega)).trans (b j hj)⟩

/-- A run as long as its steps is the whole run. -/
theorem run_at_k (P : Par) (s : St K) (h0 : s.k = 0) (m : Nat) : runSt P s (runSt P s m).k = runSt P s m := by
  obtain ⟨h1, h2⟩ := runSt_k P s h0 m
  rcases Nat.lt_or_ge (runSt P s m).k m with l | l
  · -- the first time that none goes on
    induction m with
    | zero => omega
    | succ m ih =>
      rcases run_succ_cases P s h0 m with ⟨e, ht⟩ | ⟨h, ht, hh, hd, hk, e⟩
      · rw [e]
        obtain ⟨h1', h2'⟩ := runSt_k P s h0 m
        rcases Nat.lt_or_ge (runSt P s m).k m with l' | l'
        · exact ih h1' h2' l'
        · rw [show (runSt P s m).k = m by omega]
      · have : (runSt P s (m + 1)).k = m + 1 := by rw [e]; show (runSt P s m).k + 1 = _; rw [hk]
        omega
  · rw [show (runSt P s m).k = m by omega]

end Go.Proofs.Ytkiojiibppdjjaa

namespace Go.Proofs.Ytkiojiibppdjjaa
open Go.RowKit
namespace Deal

theorem act_ld {n : Nat} {f : Nat → Int} {hd a : Int} (h0 : 0 ≤ a) (h1 : a < n) : stepOf n f ⟨hd, 1, a, 0, 0, true⟩ = ⟨hd, 1, a, f a.toNat, f a.toNat, true⟩ := by
  unfold stepOf; rw [if_pos ⟨h0, h1⟩]; rfl
theorem act_ldw {n : Nat} {f : Nat → Int} {hd a : Int} (h0 : 0 ≤ a) (h1 : a < n) : wordsOf n f ⟨hd, 1, a, 0, 0, true⟩ = f := by
  unfold wordsOf; rw [if_pos ⟨h0, h1⟩, act_ld h0 h1]; exact putF_self _
theorem act_st {n : Nat} {f : Nat → Int} {hd a v : Int} (h0 : 0 ≤ a) (h1 : a < n) : stepOf n f ⟨hd, 2, a, 0, v, true⟩ = ⟨hd, 2, a, f a.toNat, v, true⟩ := by
  unfold stepOf; rw [if_pos ⟨h0, h1⟩]; rfl
theorem act_stw {n : Nat} {f : Nat → Int} {hd a v : Int} (h0 : 0 ≤ a) (h1 : a < n) : wordsOf n f ⟨hd, 2, a, 0, v, true⟩ = putF f a.toNat v := by
  unfold wordsOf; rw [if_pos ⟨h0, h1⟩, act_st h0 h1]
theorem act_ca {n : Nat} {f : Nat → Int} {hd a o v : Int} (h0 : 0 ≤ a) (h1 : a < n) (he : f a.toNat = o) : stepOf n f ⟨hd, 5, a, o, v, true⟩ = ⟨hd, 5, a, o, v, true⟩ := by
  subst he
  unfold stepOf; rw [if_pos ⟨h0, h1⟩]
  simp [actOf, putBy]
theorem act_caw {n : Nat} {f : Nat → Int} {hd a o v : Int} (h0 : 0 ≤ a) (h1 : a < n) (he : f a.toNat = o) : wordsOf n f ⟨hd, 5, a, o, v, true⟩ = putF f a.toNat v := by
  unfold wordsOf; rw [if_pos ⟨h0, h1⟩, act_ca h0 h1 he]

theorem curS {K : Kd} (P : Par) (st : St K) (h : Nat) : (stepSt P st h).cur h = (if K.ends (st.cur h) (stepOf P.n st.f (K.req (st.cur h))) = true then K.init h (P.jb h (st.done h + 1)) else K.next (st.cur h) (stepOf P.n st.f (K.req (st.cur h)))) := upd_same _ _ _
/-- Where one hand's run stands. -/
structure At (r : Int) (P : Par) (m : Nat) (s : DeS) (f : Nat → Int) (j : Nat) (A : Nat → Ans) : Prop where
  cur : (runSt P (st0 (kDeal r) P (fun _ => 0)) m).cur 0 = s
  f : (runSt P (st0 (kDeal r) P (fun _ => 0)) m).f = f
  done : (runSt P (st0 (kDeal r) P (fun _ => 0)) m).done 0 = j
  ans : ∀ i, i < j → (runSt P (st0 (kDeal r) P (fun _ => 0)) m).ans 0 i = A i

section
variable {r : Int} {P : Par} {m j : Nat} {s s' : DeS} {f : Nat → Int} {A : Nat → Ans} {hd a v o : Int} {tl : Ans}

theorem one_step (hnh : P.nh = 1) (hd : (runSt P (st0 (kDeal r) P (fun _ => 0)) m).done 0 < P.jn 0) : runSt P (st0 (kDeal r) P (fun _ => 0)) (m + 1) = stepSt P (runSt P (st0 (kDeal r) P (fun _ => 0)) m) 0 := by
  rcases turn_ok P (runSt P (st0 (kDeal r) P (fun _ => 0)) m) with ⟨_, hc⟩ | ⟨h, ht, hh, _⟩
  · exfalso
    rw [hnh] at hc
    simp [cnt, St.going, hd] at hc
  · obtain rfl : h = 0 := by omega
    exact runSt_step ht
theorem At.goes (H : At r P m s f j A) (hnh : P.nh = 1) (hj : j < P.jn 0) {x : Stp} (hx : stepOf P.n f (dreq r s) = x) {f' : Nat → Int} (hf : wordsOf P.n f (dreq r s) = f') (he : dends r s x = false) (hs : dnext r s x = s') : At r P (m + 1) s' f' j A := by
  have e := one_step (r := r) hnh (by rw [H.done]; exact hj)
  have ex : stepOf P.n (runSt P (st0 (kDeal r) P (fun _ => 0)) m).f ((kDeal r).req ((runSt P (st0 (kDeal r) P (fun _ => 0)) m).cur 0)) = x := by rw [H.cur, H.f]; exact hx
  have ee : ¬ (kDeal r).ends ((runSt P (st0 (kDeal r) P (fun _ => 0)) m).cur 0) (stepOf P.n (runSt P (st0 (kDeal r) P (fun _ => 0)) m).f ((kDeal r).req ((runSt P (st0 (kDeal r) P (fun _ => 0)) m).cur 0))) = true := by
    rw [ex, H.cur]
    exact fun h => by have := he.symm.trans h; cases this
  constructor
  · rw [e, curS, if_neg ee, ex, H.cur]
    exact hs
  · rw [e]
    show wordsOf P.n _ _ = _
    rw [H.f, H.cur]
    exact hf
  · rw [e]
    have ed : (stepSt P (runSt P (st0 (kDeal r) P (fun _ => 0)) m) 0).done = (runSt P (st0 (kDeal r) P (fun _ => 0)) m).done := if_neg ee
    rw [ed]
    exact H.done
  · intro i hi
    rw [e]
    have ea : (stepSt P (runSt P (st0 (kDeal r) P (fun _ => 0)) m) 0).ans = (runSt P (st0 (kDeal r) P (fun _ => 0)) m).ans := if_neg ee
    rw [ea]
    exact H.ans i hi
theorem At.over (H : At r P m s f j A) (hnh : P.nh = 1) (hj : j < P.jn 0) {x : Stp} (hx : stepOf P.n f (dreq r s) = x) {f' : Nat → Int} (hf : wordsOf P.n f (dreq r s) = f') (he : dends r s x = true) (ht : (dnext r s x).told = tl) : At r P (m + 1) (dinit 0 (P.jb 0 (j + 1))) f' (j + 1) (upd A j tl) := by
  have e := one_step (r := r) hnh (by rw [H.done]; exact hj)
  have ex : stepOf P.n (runSt P (st0 (kDeal r) P (fun _ => 0)) m).f ((kDeal r).req ((runSt P (st0 (kDeal r) P (fun _ => 0)) m).cur 0)) = x := by rw [H.cur, H.f]; exact hx
  have ee : (kDeal r).ends ((runSt P (st0 (kDeal r) P (fun _ => 0)) m).cur 0) (stepOf P.n (runSt P (st0 (kDeal r) P (fun _ => 0)) m).f ((kDeal r).req ((runSt P (st0 (kDeal r) P (fun _ => 0)) m).cur 0))) = true := by
    rw [ex, H.cur]
    exact he
  constructor
  · rw [e, curS, if_pos ee, H.done]
    rfl
  · rw [e]
    show wordsOf P.n _ _ = _
    rw [H.f, H.cur]
    exact hf
  · rw [e]
    have ed : (stepSt P (runSt P (st0 (kDeal r) P (fun _ => 0)) m) 0).done = upd (runSt P (st0 (kDeal r) P (fun _ => 0)) m).done 0 ((runSt P (st0 (kDeal r) P (fun _ => 0)) m).done 0 + 1) := if_pos ee
    rw [ed, upd_same, H.done]
  · intro i hi
    rw [e]
    have ea : (stepSt P (runSt P (st0 (kDeal r) P (fun _ => 0)) m) 0).ans = upd (runSt P (st0 (kDeal r) P (fun _ => 0)) m).ans 0 (upd ((runSt P (st0 (kDeal r) P (fun _ => 0)) m).ans 0) ((runSt P (st0 (kDeal r) P (fun _ => 0)) m).done 0) ((kDeal r).tell ((kDeal r).next ((runSt P (st0 (kDeal r) P (fun _ => 0)) m).cur 0) (stepOf P.n (runSt P (st0 (kDeal r) P (fun _ => 0)) m).f ((kDeal r).req ((runSt P (st0 (kDeal r) P (fun _ => 0)) m).cur 0)))))) := if_pos ee
    rw [ea, upd_same, H.done, ex, H.cur]
    by_cases ei : i = j
    · subst ei
      rw [upd_same, upd_same]
      exact ht
    · rw [upd_other _ _ ei, upd_other _ _ ei]
      exact H.ans i (by omega)
theorem At.load (H : At r P m s f j A) (hnh : P.nh = 1) (hj : j < P.jn 0) (q : dreq r s = ⟨hd, 1, a, 0, 0, true⟩) (h0 : 0 ≤ a) (h1 : a < P.n) (hv : f a.toNat = v) (he : dends r s ⟨hd, 1, a, v, v, true⟩ = false) (hs : dnext r s ⟨hd, 1, a, v, v, true⟩ = s') : At r P (m + 1) s' f j A :=
  H.goes hnh hj (by rw [q, act_ld h0 h1, hv]) (by rw [q]; exact act_ldw h0 h1) he hs
theorem At.loadE (H : At r P m s f j A) (hnh : P.nh = 1) (hj : j < P.jn 0) (q : dreq r s = ⟨hd, 1, a, 0, 0, true⟩) (h0 : 0 ≤ a) (h1 : a < P.n) (hv : f a.toNat = v) (he : dends r s ⟨hd, 1, a, v, v, true⟩ = true) (ht : (dnext r s ⟨hd, 1, a, v, v, true⟩).told = tl) : At r P (m + 1) (dinit 0 (P.jb 0 (j + 1))) f (j + 1) (upd A j tl) :=
  H.over hnh hj (by rw [q, act_ld h0 h1, hv]) (by rw [q]; exact act_ldw h0 h1) he ht
theorem At.store (H : At r P m s f j A) (hnh : P.nh = 1) (hj : j < P.jn 0) (q : dreq r s = ⟨hd, 2, a, 0, v, true⟩) (h0 : 0 ≤ a) (h1 : a < P.n) (he : ∀ x, dends r s x = false) (hs : ∀ x, dnext r s x = s') : At r P (m + 1) s' (putF f a.toNat v) j A :=
  H.goes hnh hj rfl (by rw [q]; exact act_stw h0 h1) (he _) (hs _)
theorem At.storeE (H : At r P m s f j A) (hnh : P.nh = 1) (hj : j < P.jn 0) (q : dreq r s = ⟨hd, 2, a, 0, v, true⟩) (h0 : 0 ≤ a) (h1 : a < P.n) (he : ∀ x, dends r s x = true) (ht : ∀ x, (dnext r s x).told = tl) : At r P (m + 1) (dinit 0 (P.jb 0 (j + 1))) (putF f a.toNat v) (j + 1) (upd A j tl) :=
  H.over hnh hj rfl (by rw [q]; exact act_stw h0 h1) (he _) (ht _)
theorem At.cas (H : At r P m s f j A) (hnh : P.nh = 1) (hj : j < P.jn 0) (q : dreq r s = ⟨hd, 5, a, o, v, true⟩) (h0 : 0 ≤ a) (h1 : a < P.n) (hv : f a.toNat = o) (he : dends r s ⟨hd, 5, a, o, v, true⟩ = false) (hs : dnext r s ⟨hd, 5, a, o, v, true⟩ = s') : At r P (m + 1) s' (putF f a.toNat v) j A :=
  H.goes hnh hj (by rw [q, act_ca h0 h1 hv]) (by rw [q]; exact act_caw h0 h1 hv) he hs
theorem At.casE (H : At r P m s f j A) (hnh : P.nh = 1) (hj : j < P.jn 0) (q : dreq r s = ⟨hd, 5, a, o, v, true⟩) (h0 : 0 ≤ a) (h1 : a < P.n) (hv : f a.toNat = o) (he : dends r s ⟨hd, 5, a, o, v, true⟩ = true) (ht : (dnext r s ⟨hd, 5, a, o, v, true⟩).told = tl) : At r P (m + 1) (dinit 0 (P.jb 0 (j + 1))) (putF f a.toNat v) (j + 1) (upd A j tl) :=
  H.over hnh hj (by rw [q, act_ca h0 h1 hv]) (by rw [q]; exact act_caw h0 h1 hv) he ht
end

/-- A list, laid and drawn at its end, stolen at its beginning. -/
def mdl (r : Nat) (l : List Int) (j : Jb) : List Int × Ans :=
  if j.kind = 1 then (if l.length < r then (l ++ [j.h], ⟨true, j.h⟩) else (l, ⟨false, 0⟩))
  else if l.length = 0 then (l, ⟨false, 0⟩)
  else if j.kind = 2 then (l.take (l.length - 1), ⟨true, (l[l.length - 1]?).getD 0⟩)
  else (l.drop 1, ⟨true, (l[0]?).getD 0⟩)
/-- Words that stand for a list, from number t on. -/
structure Wd (r : Nat) (l : List Int) (t : Nat) (f : Nat → Int) : Prop where
  top : f 0 = (t : Int)
  bot : f 1 = ((t + l.length : Nat) : Int)
  val : ∀ k v, l[k]? = some v → f (2 + (t + k) % r) = v
  len : l.length ≤ r

theorem ahd_small {x y : Int} (h1 : -1000 ≤ x - y) (h2 : x - y ≤ 1000) : ahd x y = x - y := by unfold ahd u64 wrap64; omega
theorem plc_nat {r : Nat} (p : Nat) : (plc (r : Int) (p : Int)).toNat = 2 + p % r := by
  unfold plc
  have : ((p : Int) % (r : Int)) = ((p % r : Nat) : Int) := by simp
  rw [this]
  omega
theorem plc_ok {r n : Nat} (h1 : 1 ≤ r) (hn : n = r + 2) (p : Nat) : 0 ≤ plc (r : Int) (p : Int) ∧ plc (r : Int) (p : Int) < (n : Int) := by
  unfold plc
  have : ((p : Int) % (r : Int)) = ((p % r : Nat) : Int) := by simp
  rw [this]
  have := Nat.mod_lt p (show 0 < r by omega)
  omega
theorem mod_ne {a b r : Nat} (h : a < b) (hb : b < a + r) : ¬ a % r = b % r := fun e => by
  have h1 : (b - a) % r = 0 := Nat.sub_mod_eq_zero_of_mod_eq e.symm
  rw [Nat.mod_eq_of_lt (by omega)] at h1
  omega
section
variable {r : Nat} {P : Par} {m j t : Nat} {l : List Int} {f : Nat → Int} {A : Nat → Ans}

theorem Wd.laid (W : Wd r l t f) (h1 : 1 ≤ r) (hl : l.length < r) (v : Int) : Wd r (l ++ [v]) t (putF (putF f (2 + (t + l.length) % r) v) 1 (((t + l.length : Nat) : Int) + 1)) := by
  refine ⟨?_, ?_, fun k u hk => ?_, by simp; omega⟩
  · show (if 0 = 1 then _ else (if 0 = 2 + (t + l.length) % r then _ else _)) = _
    rw [if_neg (by decide), if_neg (by omega)]
    exact W.top
  · show (if 1 = 1 then _ else _) = _
    rw [if_pos rfl]
    simp
    omega
  · show (if 2 + (t + k) % r = 1 then _ else (if 2 + (t + k) % r = 2 + (t + l.length) % r then _ else _)) = _
    rw [if_neg (by omega)]
    have hkl := (List.getElem?_eq_some_iff.1 hk).1
    rw [List.length_append] at hkl
    simp at hkl
    by_cases e : k = l.length
    · subst e
      rw [if_pos rfl]
      rw [List.getElem?_append_right (Nat.le_refl _), Nat.sub_self] at hk
      exact Option.some.inj hk
    · rw [if_neg (fun h => mod_ne (a := t + k) (b := t + l.length) (r := r) (by omega) (by omega) (by omega))]
      rw [List.getElem?_append_left (by omega)] at hk
      exact W.val k u hk
theorem Wd.drawn (W : Wd r l t f) (hl : 0 < l.length) {e : Int} (he : e = ((t + (l.length - 1) : Nat) : Int)) : Wd r (l.take (l.length - 1)) t (putF f 1 e) := by
  have hlen : (l.take (l.length - 1)).length = l.length - 1 := by simp
  refine ⟨?_, ?_, fun k u hk => ?_, by rw [hlen]; have := W.len; omega⟩
  · show (if 0 = 1 then _ else _) = _
    rw [if_neg (by decide)]
    exact W.top
  · show (if 1 = 1 then _ else _) = _
    rw [if_pos rfl, hlen]
    exact he
  · show (if 2 + (t + k) % r = 1 then _ else _) = _
    rw [if_neg (by omega)]
    have hkl := (List.getElem?_eq_some_iff.1 hk).1
    rw [hlen] at hkl
    rw [List.getElem?_take, if_pos hkl] at hk
    exact W.val k u hk
theorem Wd.stolen (W : Wd r l t f) (hl : 0 < l.length) : Wd r (l.drop 1) (t + 1) (putF f 0 ((t : Int) + 1)) := by
  have hlen : (l.drop 1).length = l.length - 1 := by simp
  refine ⟨?_, ?_, fun k u hk => ?_, by rw [hlen]; have := W.len; omega⟩
  · show (if 0 = 0 then _ else _) = _
    rw [if_pos rfl]
    simp
  · show (if 1 = 0 then _ else _) = _
    rw [if_neg (by decide), hlen, show t + 1 + (l.length - 1) = t + l.length by omega]
    exact W.bot
  · show (if 2 + (t + 1 + k) % r = 0 then _ else _) = _
    rw [if_neg (by omega)]
    rw [List.getElem?_drop] at hk
    rw [show t + 1 + k = t + (1 + k) by omega]
    exact W.val (1 + k) u hk
theorem Wd.back (W : Wd r l t f) {e : Int} (he : e = ((t + l.length : Nat) : Int)) (e0 : Int) : Wd r l t (putF (putF f 1 e0) 1 e) := by
  have : putF (putF f 1 e0) 1 e = f := by
    funext i
    show (if i = 1 then _ else (if i = 1 then _ else _)) = _
    by_cases h : i = 1
    · subst h; rw [if_pos rfl, he]; exact W.bot.symm
    · rw [if_neg h, if_neg h]
  rw [this]
  exact W
/-- One drawn, the last of all: top is one up, bottom as it was. -/
theorem Wd.lastOne (W : Wd r l t f) (hl : l.length = 1) {e e0 : Int} (he : e = ((t + 1 : Nat) : Int)) : Wd r [] (t + 1) (putF (putF (putF f 1 e0) 0 ((t : Int) + 1)) 1 e) := by
  refine ⟨?_, ?_, fun k u hk => ?_, Nat.zero_le _⟩
  · show (if 0 = 1 then _ else (if 0 = 0 then _ else _)) = _
    rw [if_neg (by decide), if_pos rfl]
    simp
  · show (if 1 = 1 then _ else _) = _
    rw [if_pos rfl]
    exact he
  · simp at hk

/-- One job, from one boundary to the next. -/
theorem job_done (h1 : 1 ≤ r) (h2 : r ≤ 64) (hn : P.n = r + 2) (hnh : P.nh = 1) (hj : j < P.jn 0) (hk : (P.jb 0 j).kind = 1 ∨ (P.jb 0 j).kind = 2 ∨ (P.jb 0 j).kind = 3) (ht : t + l.length ≤ 200) (H : At (r : Int) P m (dinit 0 (P.jb 0 j)) f j A) (W : Wd r l t f) :
    ∃ m' t' f', m' ≤ m + 6 ∧ t' + (mdl r l (P.jb 0 j)).1.length ≤ t + l.length + 1 ∧ At (r : Int) P m' (dinit 0 (P.jb 0 (j + 1))) f' (j + 1) (upd A j (mdl r l (P.jb 0 j)).2) ∧ Wd r (mdl r l (P.jb 0 j)).1 t' f' := by
  generalize P.jb 0 j = jb at hk H ⊢
  obtain ⟨b, hb⟩ : ∃ b : Nat, t + l.length = b := ⟨_, rfl⟩
  have hn0 : (0 : Int) < P.n := by omega
  have hn1 : (1 : Int) < P.n := by omega
  have hbt : f 1 = (b : Int) := by rw [W.bot, hb]
  have htp : f 0 = (t : Int) := W.top
  have hlr := W.len
  rcases hk with hk | hk | hk
  · have e0 : dinit 0 jb = ⟨0, jb, 0, 0, 0, jb.h, ⟨false, 0⟩⟩ := by simp [dinit, hk]
    rw [e0] at H
    have H1 := H.load (hd := 0) (a := 1) (v := (b : Int)) (s' := ⟨0, jb, 2, 0, (b : Int), jb.h, ⟨false, 0⟩⟩) hnh hj (by simp [dreq, hk]) (by decide) hn1 hbt (by simp [dends, hk]) (by simp [dnext, hk])
    have ha : ahd (b : Int) (t : Int) = (l.length : Int) := by rw [ahd_small (by omega) (by omega)]; omega
    by_cases hf : l.length < r
    · have hm : mdl r l jb = (l ++ [jb.h], ⟨true, jb.h⟩) := by simp [mdl, hk, hf]
      have hf' : ¬ (r : Int) ≤ (l.length : Int) := by omega
      have H2 := H1.load (hd := 0) (a := 0) (v := (t : Int)) (s' := ⟨0, jb, 3, (t : Int), (b : Int), jb.h, ⟨false, 0⟩⟩) hnh hj (by simp [dreq, hk]) (by decide) hn0 htp (by simp [dends, hk, ha, hf']) (by simp [dnext, hk, ha, hf'])
      have H3 := H2.store (hd := 0) (a := plc r b) (v := jb.h) (s' := ⟨0, jb, 5, (t : Int), (b : Int), jb.h, ⟨false, 0⟩⟩) hnh hj (by simp [dreq, hk]) (plc_ok h1 hn b).1 (plc_ok h1 hn b).2 (fun x => by simp [dends, hk]) (fun x => by simp [dnext, hk])
      have H4 := H3.storeE (hd := 0) (a := 1) (v := u64 ((b : Int) + 1)) (tl := ⟨true, jb.h⟩) hnh hj (by simp [dreq, hk]) (by decide) hn1 (fun x => by simp [dends, hk]) (fun x => by simp [dnext, hk])
      rw [hm]
      refine ⟨_, t, _, by omega, by first | (simp; done) | (simp; omega), H4, ?_⟩
      have := W.laid h1 hf jb.h
      rw [hb] at this
      rw [plc_nat, u64_id (by omega)]
      exact this
    · have hm : mdl r l jb = (l, ⟨false, 0⟩) := by simp [mdl, hk, hf]
      have hf' : (r : Int) ≤ (l.length : Int) := by omega
      have H2 := H1.loadE (hd := 0) (a := 0) (v := (t : Int)) (tl := ⟨false, 0⟩) hnh hj (by simp [dreq, hk]) (by decide) hn0 htp (by simp [dends, hk, ha, hf']) (by simp [dnext, hk, ha, hf'])
      rw [hm]
      exact ⟨_, t, _, by omega, by first | (simp; done) | (simp; omega), H2, W⟩
  · have e0 : dinit 0 jb = ⟨0, jb, 0, 0, 0, 0, ⟨false, 0⟩⟩ := by simp [dinit, hk]
    rw [e0] at H
    obtain ⟨en, hen⟩ : ∃ en, u64 ((b : Int) - 1) = en := ⟨_, rfl⟩
    obtain ⟨dd, hdd⟩ : ∃ d, (l.length : Int) - 1 = d := ⟨_, rfl⟩
    have ha : ahd en (t : Int) = dd := by rw [← hen, ← hdd]; unfold ahd u64 wrap64; omega
    have hen1 : u64 (en + 1) = (b : Int) := by rw [← hen]; unfold u64; omega
    have H1 := H.load (hd := 0) (a := 1) (v := (b : Int)) (s' := ⟨0, jb, 1, 0, en, 0, ⟨false, 0⟩⟩) hnh hj (by simp [dreq, hk]) (by decide) hn1 hbt (by simp [dends, hk]) (by simp [dnext, hk, hen])
    have H2 := H1.store (hd := 0) (a := 1) (v := en) (s' := ⟨0, jb, 2, 0, en, 0, ⟨false, 0⟩⟩) hnh hj (by simp [dreq, hk]) (by decide) hn1 (fun x => by simp [dends, hk]) (fun x => by simp [dnext, hk])
    have htp2 : putF f 1 en 0 = (t : Int) := by show (if 0 = 1 then _ else _) = _; rw [if_neg (by decide)]; exact htp
    by_cases hl : l.length = 0
    · have hm : mdl r l jb = (l, ⟨false, 0⟩) := by simp [mdl, hk, hl]
      have hneg : dd < 0 := by omega
      have H3 := H2.load (hd := 0) (a := 0) (v := (t : Int)) (s' := ⟨0, jb, 5, (t : Int), en, 0, ⟨false, 0⟩⟩) hnh hj (by simp [dreq, hk]) (by decide) hn0 htp2 (by simp [dends, hk]) (by simp [dnext, hk, ha, hneg])
      have H4 := H3.storeE (hd := 0) (a := 1) (v := (b : Int)) (tl := ⟨false, 0⟩) hnh hj (by simp [dreq, hk, hen1]) (by decide) hn1 (fun x => by simp [dends, hk]) (fun x => by simp [dnext, hk])
      rw [hm]
      exact ⟨_, t, _, by omega, by first | (simp; done) | (simp; omega), H4, W.back (by rw [hb]) en⟩
    · have hpos : ¬ dd < 0 := by omega
      have hene : en = ((t + (l.length - 1) : Nat) : Int) := by rw [← hen]; unfold u64; omega
      obtain ⟨v, hv⟩ : ∃ v, l[l.length - 1]? = some v := ⟨_, List.getElem?_eq_getElem (by omega)⟩
      have hm : mdl r l jb = (l.take (l.length - 1), ⟨true, v⟩) := by simp [mdl, hk, hl, hv]
      have H3 := H2.load (hd := 0) (a := 0) (v := (t : Int)) (s' := ⟨0, jb, 3, (t : Int), en, 0, ⟨false, 0⟩⟩) hnh hj (by simp [dreq, hk]) (by decide) hn0 htp2 (by simp [dends, hk]) (by simp [dnext, hk, ha, hpos])
      have hpv : putF f 1 en (plc r en).toNat = v := by
        rw [hene, plc_nat]
        show (if 2 + (t + (l.length - 1)) % r = 1 then _ else _) = _
        rw [if_neg (by omega)]
        exact W.val _ _ hv
      have hp0 : 0 ≤ plc (r : Int) en ∧ plc (r : Int) en < (P.n : Int) := by rw [hene]; exact plc_ok h1 hn _
      by_cases hl1 : l.length = 1
      · have hz : ¬ (0 : Int) < dd := by omega
        have H4 := H3.load (hd := 0) (a := plc r en) (v := v) (s' := ⟨0, jb, 4, (t : Int), en, v, ⟨false, 0⟩⟩) hnh hj (by simp [dreq, hk]) hp0.1 hp0.2 hpv (by simp [dends, hk, ha, hz]) (by simp [dnext, hk, ha, hz])
        have H5 := H4.cas (hd := 0) (a := 0) (o := (t : Int)) (v := u64 ((t : Int) + 1)) (s' := ⟨0, jb, 5, (t : Int), en, v, ⟨true, v⟩⟩) hnh hj (by simp [dreq, hk]) (by decide) hn0 htp2 (by simp [dends, hk]) (by simp [dnext, hk])
        have H6 := H5.storeE (hd := 0) (a := 1) (v := (b : Int)) (tl := ⟨true, v⟩) hnh hj (by simp [dreq, hk, hen1]) (by decide) hn1 (fun x => by simp [dends, hk]) (fun x => by simp [dnext, hk])
        rw [hm]
        have e1 : l.take (l.length - 1) = [] := by rw [hl1]; rfl
        rw [e1]
        rw [u64_id (by omega)] at H6
        exact ⟨_, t + 1, _, by omega, by first | (simp; done) | (simp; omega), H6, W.lastOne hl1 (by omega)⟩
      · have hz : (0 : Int) < dd := by omega
        have H4 := H3.loadE (hd := 0) (a := plc r en) (v := v) (tl := ⟨true, v⟩) hnh hj (by simp [dreq, hk]) hp0.1 hp0.2 hpv (by simp [dends, hk, ha, hz]) (by simp [dnext, hk, ha, hz])
        rw [hm]
        exact ⟨_, t, _, by omega, by first | (simp; done) | (simp; omega), H4, W.drawn (by omega) hene⟩
  · have e0 : dinit 0 jb = ⟨0, jb, 0, 0, 0, 0, ⟨false, 0⟩⟩ := by simp [dinit, hk]
    rw [e0] at H
    obtain ⟨dd, hdd⟩ : ∃ d, (l.length : Int) = d := ⟨_, rfl⟩
    have ha : ahd (b : Int) (t : Int) = dd := by rw [ahd_small (by omega) (by omega)]; omega
    have H1 := H.load (hd := 0) (a := 0) (v := (t : Int)) (s' := ⟨0, jb, 2, (t : Int), 0, 0, ⟨false, 0⟩⟩) hnh hj (by simp [dreq, hk]) (by decide) hn0 htp (by simp [dends, hk]) (by simp [dnext, hk])
    by_cases hl : l.length = 0
    · have hm : mdl r l jb = (l, ⟨false, 0⟩) := by simp [mdl, hk, hl]
      have hz : dd ≤ 0 := by omega
      have H2 := H1.loadE (hd := 0) (a := 1) (v := (b : Int)) (tl := ⟨false, 0⟩) hnh hj (by simp [dreq, hk]) (by decide) hn1 hbt (by simp [dends, hk, ha, hz]) (by simp [dnext, hk, ha, hz])
      rw [hm]
      exact ⟨_, t, _, by omega, by first | (simp; done) | (simp; omega), H2, W⟩
    · have hz : ¬ dd ≤ 0 := by omega
      obtain ⟨v, hv⟩ : ∃ v, l[0]? = some v := ⟨_, List.getElem?_eq_getElem (by omega)⟩
      have hm : mdl r l jb = (l.drop 1, ⟨true, v⟩) := by simp [mdl, hk, hl, hv]
      have H2 := H1.load (hd := 0) (a := 1) (v := (b : Int)) (s' := ⟨0, jb, 3, (t : Int), (b : Int), 0, ⟨false, 0⟩⟩) hnh hj (by simp [dreq, hk]) (by decide) hn1 hbt (by simp [dends, hk, ha, hz]) (by simp [dnext, hk, ha, hz])
      have hpv : f (plc r t).toNat = v := by
        rw [plc_nat]
        have := W.val 0 v hv
        rwa [Nat.add_zero] at this
      have H3 := H2.load (hd := 0) (a := plc r t) (v := v) (s' := ⟨0, jb, 4, (t : Int), (b : Int), v, ⟨false, 0⟩⟩) hnh hj (by simp [dreq, hk]) (plc_ok h1 hn t).1 (plc_ok h1 hn t).2 hpv (by simp [dends, hk]) (by simp [dnext, hk])
      have H4 := H3.casE (hd := 0) (a := 0) (o := (t : Int)) (v := u64 ((t : Int) + 1)) (tl := ⟨true, v⟩) hnh hj (by simp [dreq, hk]) (by decide) hn0 htp (by simp [dends, hk]) (by simp [dnext, hk])
      rw [hm]
      rw [u64_id (by omega)] at H4
      exact ⟨_, t + 1, _, by omega, by first | (simp; done) | (simp; omega), H4, W.stolen (by omega)⟩

/-- The list ahead of job i. -/
def aft (r : Nat) (P : Par) : Nat → List Int
  | 0 => []
  | i + 1 => (mdl r (aft r P i) (P.jb 0 i)).1
theorem alone_at (h1 : 1 ≤ r) (h2 : r ≤ 64) (hn : P.n = r + 2) (hnh : P.nh = 1) (hj100 : P.jn 0 ≤ 100) (hk : ∀ j, j < P.jn 0 → (P.jb 0 j).kind = 1 ∨ (P.jb 0 j).kind = 2 ∨ (P.jb 0 j).kind = 3) : ∀ j, j ≤ P.jn 0 → ∃ m t f A, m ≤ 6 * j ∧ t + (aft r P j).length ≤ j ∧ At (r : Int) P m (dinit 0 (P.jb 0 j)) f j A ∧ Wd r (aft r P j) t f ∧ ∀ i, i < j → A i = (mdl r (aft r P i) (P.jb 0 i)).2
  | 0, _ => ⟨0, 0, fun _ => 0, fun _ => ⟨false, 0⟩, Nat.le_refl _, Nat.le_refl _, ⟨rfl, rfl, rfl, fun i hi => absurd hi (Nat.not_lt_zero i)⟩, ⟨rfl, rfl, fun k v hk => by simp [aft] at hk, Nat.zero_le _⟩, fun i hi => absurd hi (Nat.not_lt_zero i)⟩
  | j + 1, hj => by
    obtain ⟨m, t, f, A, hm, ht, H, W, hA⟩ := alone_at h1 h2 hn hnh hj100 hk j (by omega)
    obtain ⟨m', t', f', hm', ht', H', W'⟩ := job_done h1 h2 hn hnh (by omega) (hk j (by omega)) (by omega) H W
    refine ⟨m', t', f', _, by omega, ?_, H', W', fun i hi => ?_⟩
    · show t' + (mdl r (aft r P j) (P.jb 0 j)).1.length ≤ j + 1
      omega
    · by_cases e : i = j
      · subst e; rw [upd_same]
      · rw [upd_other _ _ e]; exact hA i (by omega)
/-- Behind 4000 steps all jobs are told, as a list tells them. -/
theorem alone_all (h1 : 1 ≤ r) (h2 : r ≤ 64) (hn : P.n = r + 2) (hnh : P.nh = 1) (hj100 : P.jn 0 ≤ 100) (hk : ∀ j, j < P.jn 0 → (P.jb 0 j).kind = 1 ∨ (P.jb 0 j).kind = 2 ∨ (P.jb 0 j).kind = 3) : cnt ((runSt P (st0 (kDeal (r : Int)) P (fun _ => 0)) 4000).going P) P.nh = 0 ∧ (runSt P (st0 (kDeal (r : Int)) P (fun _ => 0)) 4000).done 0 = P.jn 0 ∧ ∀ i, i < P.jn 0 → (runSt P (st0 (kDeal (r : Int)) P (fun _ => 0)) 4000).ans 0 i = (mdl r (aft r P i) (P.jb 0 i)).2 := by
  obtain ⟨m, t, f, A, hm, ht, H, W, hA⟩ := alone_at h1 h2 hn hnh hj100 hk (P.jn 0) (Nat.le_refl _)
  have hturn : (runSt P (st0 (kDeal (r : Int)) P (fun _ => 0)) m).turn P < 0 := by
    rcases turn_ok P (runSt P (st0 (kDeal (r : Int)) P (fun _ => 0)) m) with ⟨e, _⟩ | ⟨h, _, hh, hd⟩
    · rw [e]; decide
    · obtain rfl : h = 0 := by omega
      rw [H.done] at hd
      omega
  have e := runSt_stuck hturn (4000 - m)
  rw [show m + (4000 - m) = 4000 by omega] at e
  rw [e]
  refine ⟨?_, H.done, fun i hi => (H.ans i hi).trans (hA i hi)⟩
  rw [hnh]
  simp [cnt, St.going, H.done]
end
end Deal
end Go.Proofs.Ytkiojiibppdjjaa

namespace Go.Proofs.Ytkiojiibppdjjaa
open Go.RowKit
namespace Deal

variable {w : World} {ao aoh aos : Option Addr} {cap caph caps : Nat} {P : Par} {most : Int} {sh : Shp}

/-- A run of one hand that was taken. -/
def TB (sh : Shp) (P : Par) (most : Int) (base : Nat) (er : Int) (sa : Option Addr) (k sc : Nat) (wa : Option Addr) (n wc : Nat) (en : Bool) (aa : Option Addr) (m ac : Nat) (w' : World) : Prop :=
  er = 0 → (1 ≤ sh.f ∧ sh.f ≤ 64) ∧ AllOk (kDeal sh.f) P ∧ Told (kDeal sh.f) P (runSt P (st0 (kDeal sh.f) P (fun _ => 0)) most.toNat) base (tv3 sa k sc wa n wc en aa m ac 0) w'

theorem TB.touch {base base' b : Nat} {er : Int} {sa wa aa : Option Addr} {k sc n wc m ac : Nat} {en : Bool} {w1 w2 : World} (h : TB sh P most base er sa k sc wa n wc en aa m ac w1) (ht : Touch w1 w2 (fun k => k = b)) (hb : b < base) (hbb : base' ≤ base) : TB sh P most base' er sa k sc wa n wc en aa m ac w2 := fun he =>
  ⟨(h he).1, (h he).2.1, told_touch (h he).2.2 ht hb hbb⟩

theorem play_tb (h1 : 1 ≤ sh.f) (h2 : sh.f ≤ 64) (hn : (P.n : Int) = 2 + sh.f) (S : Sees w w.heap.size ao P.n (fun _ => 0)) (SH : SeesH w w.heap.size aoh P.nh P.jn P.jb) (hn63 : P.nh ≤ 9223372036854775807) (SI : SeesI w w.heap.size aos P.ns P.sched) (hjw : ∀ h, h < P.nh → ∀ j, j < P.jn h → (P.jb h j).wf) :
    Calls Try.prog 36 #[sh.val, .slice ao P.n cap, .slice aoh P.nh caph, .slice aos P.ns caps, .int .i64 most] w fun e w' => Below w.heap.size w w' ∧ ∃ sa k sc wa n wc en aa m ac er, e = .returned (tv3 sa k sc wa n wc en aa m ac er) ∧ TB sh P most w.heap.size er sa k sc wa n wc en aa m ac w' := by
  refine (play_all h1 h2 hn S (fun i _ => ⟨Int.le_refl 0, by show (0 : Int) ≤ 18446744073709551615; decide⟩) SH hn63 SI hjw).mono fun e w' h => ?_
  refine ⟨h.1, ?_⟩
  rcases h.2 with ⟨er, hle, he⟩ | ⟨hn', hF, hok, v, he, hT⟩
  · refine ⟨none, 0, 0, none, 0, 0, false, none, 0, 0, er, he, fun h0 => ?_⟩
    rcases hle with ⟨_, rfl⟩ | ⟨_, h⟩
    · exact absurd h0 (by decide)
    · exact absurd h0 h.ne
  · obtain ⟨sa, k, sc, wa, n, wc, en, aa, m, ac, rfl⟩ := told_shape hT
    exact ⟨sa, k, sc, wa, n, wc, en, aa, m, ac, 0, he, fun _ => ⟨⟨h1, h2⟩, hok, hT⟩⟩

set_option maxHeartbeats 8000000 in
theorem fresh_any (hn : 1 ≤ sh.f ∧ sh.f ≤ 64 → (P.n : Int) = 2 + sh.f) (SH : SeesH w w.heap.size aoh P.nh P.jn P.jb) (hn63 : P.nh ≤ 9223372036854775807) (SI : SeesI w w.heap.size aos P.ns P.sched) (hjw : ∀ h, h < P.nh → ∀ j, j < P.jn h → (P.jb h j).wf) :
    Calls Try.prog 27 #[.agg #[.int .i64 sh.a, .int .i64 sh.b, .int .i64 sh.c, .int .i64 sh.d, .int .i64 sh.e, .int .i64 sh.f, .slice none 0 0, .slice aoh P.nh caph, .slice aos P.ns caps, .int .i64 most]] w fun e w' => Below w.heap.size w w' ∧ ∃ sa k sc wa n wc en aa m ac er, e = .returned (.tuple #[.agg #[.slice sa k sc, .slice wa n wc, .bool en], .slice aa m ac, .bool (er == 0)]) ∧ TB sh P most w.heap.size er sa k sc wa n wc en aa m ac w' := by
  have FB := hide (fun (h : sh.f < 1 ∨ 64 < sh.f) (w1 : World) => fresh_bad w1 sh h)
  have FO := hide (fun (h1 : 1 ≤ sh.f) (h2 : sh.f ≤ 64) (w1 : World) => fresh_ok w1 sh h1 h2 (want := P.n) (hn ⟨h1, h2⟩))
  have PL := hide (fun (h1 : 1 ≤ sh.f) (h2 : sh.f ≤ 64) (w1 : World) (B1 : Below w.heap.size w w1) ao cap (S : Sees w1 w1.heap.size ao P.n (fun _ => 0)) => play_tb (sh := sh) (most := most) (cap := cap) (caph := caph) (caps := caps) h1 h2 (hn ⟨h1, h2⟩) S ((SH.below B1 (Nat.le_refl _)).up B1.size) hn63 ((SI.below B1 (Nat.le_refl _)).up B1.size) hjw)
  have UP := hide (fun (base base' b : Nat) er sa k sc wa n wc en aa m ac (w1 w2 : World) => @TB.touch P most sh base base' b er sa wa aa k sc n wc m ac en w1 w2)
  obtain ⟨SB, hSB⟩ : ∃ SB, TB sh P most = SB := ⟨_, rfl⟩
  have NO := hide (fun base sa k sc wa n wc en aa m ac (w2 : World) => show SB base 120 sa k sc wa n wc en aa m ac w2 from by rw [← hSB]; exact fun h => absurd h (by decide))
  rw [hSB] at PL UP ⊢
  clear hSB
  obtain ⟨s0, s1, s2, s3, s4, s5⟩ := sh
  simp only [Shp.val] at PL FB FO ⊢
  clear SH SI hjw hn
  obtain ⟨W0, hW0⟩ : ∃ W0, (w.alloc (.cells #[.int .i64 s0, .int .i64 s1, .int .i64 s2, .int .i64 s3, .int .i64 s4, .int .i64 s5, .slice none 0 0, .slice aoh P.nh caph, .slice aos P.ns caps, .int .i64 most] 83)).alloc (.cells #[.slice none 0 0, .slice none 0 0, .bool false] 32) = W0 := ⟨_, rfl⟩
  have b0 : Below w.heap.size w W0 := by rw [← hW0]; exact ((Below.refl _ w).alloc (Nat.le_refl _) _).alloc (by simp) _
  have sz0 : W0.heap.size = w.heap.size + 2 := by rw [← hW0]; simp
  have R0 : W0.rowIs w.heap.size 83 10 (lrow [.int .i64 s0, .int .i64 s1, .int .i64 s2, .int .i64 s3, .int .i64 s4, .int .i64 s5, .slice none 0 0, .slice aoh P.nh caph, .slice aos P.ns caps, .int .i64 most]) := by rw [← hW0]; exact (rowL_alloc w [.int .i64 s0, .int .i64 s1, .int .i64 s2, .int .i64 s3, .int .i64 s4, .int .i64 s5, .slice none 0 0, .slice aoh P.nh caph, .slice aos P.ns caps, .int .i64 most] _ rfl).alloc _
  have RT : W0.rowIs (w.heap.size + 1) 32 3 (lrow [.slice none 0 0, .slice none 0 0, .bool false]) := by
    rw [← hW0]
    have := rowL_alloc (w.alloc (.cells #[.int .i64 s0, .int .i64 s1, .int .i64 s2, .int .i64 s3, .int .i64 s4, .int .i64 s5, .slice none 0 0, .slice aoh P.nh caph, .slice aos P.ns caps, .int .i64 most] 83)) [.slice none 0 0, .slice none 0 0, .bool false] 32 (n := 3) rfl
    rwa [World.size_alloc] at this
  have c0 : W0.cell? ⟨w.heap.size, 0, none⟩ = some (.int .i64 s0) := R0.cell (i := 0) (by omega)
  have c1 : W0.cell? ⟨w.heap.size, 1, none⟩ = some (.int .i64 s1) := R0.cell (i := 1) (by omega)
  have c2 : W0.cell? ⟨w.heap.size, 2, none⟩ = some (.int .i64 s2) := R0.cell (i := 2) (by omega)
  have c3 : W0.cell? ⟨w.heap.size, 3, none⟩ = some (.int .i64 s3) := R0.cell (i := 3) (by omega)
  have c4 : W0.cell? ⟨w.heap.size, 4, none⟩ = some (.int .i64 s4) := R0.cell (i := 4) (by omega)
  have c5 : W0.cell? ⟨w.heap.size, 5, none⟩ = some (.int .i64 s5) := R0.cell (i := 5) (by omega)
  have HR0 := hide R0
  have HRT := hide RT
  have HB0 := hide b0
  clear R0 RT b0
  go_enter Try.func27, Try.ntmps27
  by_cases hr : s5 < 1 ∨ 64 < s5
  · have HF := hide (FB.out hr)
    clear FB FO PL
    go_wp2_with fail
    refine (HF.out _).mono ?_
    rintro e w1 ⟨rfl, hg1⟩
    have b1 := below_of_grown_none hg1 _ (Nat.le_refl _)
    have hs1 := b1.size
    have RT1 := HRT.out.of_block (b1.block (w.heap.size + 1) (by omega))
    have z0 : w1.cell? ⟨w.heap.size + 1, 0, none⟩ = some (.slice none 0 0) := RT1.cell (i := 0) (by omega)
    have z1 : w1.cell? ⟨w.heap.size + 1, 1, none⟩ = some (.slice none 0 0) := RT1.cell (i := 1) (by omega)
    have z2 : w1.cell? ⟨w.heap.size + 1, 2, none⟩ = some (.bool false) := RT1.cell (i := 2) (by omega)
    have y0 := RT1.frozen 0
    have y1 := RT1.frozen 1
    have y2 := RT1.frozen 2
    have tt := touch3 w1 (w.heap.size + 1) (.slice none 0 0) (.slice none 0 0) (.bool false)
    have FIN := hide ((HB0.out.trans (b1.mono (by omega))).trans (tt.below (fun k hk => by omega) (by have := HB0.out.size; omega)))
    clear hg1 b1 RT1 tt c0 c1 c2 c3 c4 c5 hW0
    go_wp2_with fail
    go_light
    refine bodyPost_ret (v := .tuple #[.agg #[.slice none 0 0, .slice none 0 0, .bool false], .slice none 0 0, .bool false]) ?_ rfl ⟨FIN.out, none, 0, 0, none, 0, 0, false, none, 0, 0, 120, rfl, NO.out _ _ _ _ _ _ _ _ _ _ _ _⟩
    simp [results, Try.results27, go_sem, *]
  · have h1 : 1 ≤ s5 := by omega
    have h2 : s5 ≤ 64 := by omega
    have HF := hide (FO.out h1 h2)
    have HP := hide (PL.out h1 h2)
    clear FB FO PL
    go_wp2_with fail
    refine (HF.out _).mono ?_
    rintro e w3 ⟨g, rfl, RW, hg, hg3⟩
    have b3 := below_of_grown_none hg3 _ (Nat.le_refl _)
    have hs3 := b3.size
    have S3 := hide RW.sees
    have B3 := hide (HB0.out.trans (b3.mono (by omega)))
    have R3 := HR0.out.of_block (b3.block w.heap.size (by omega))
    have RT3 := hide (HRT.out.of_block (b3.block (w.heap.size + 1) (by omega)))
    have d0 : w3.cell? ⟨w.heap.size, 0, none⟩ = some (.int .i64 s0) := R3.cell (i := 0) (by omega)
    have d1 : w3.cell? ⟨w.heap.size, 1, none⟩ = some (.int .i64 s1) := R3.cell (i := 1) (by omega)
    have d2 : w3.cell? ⟨w.heap.size, 2, none⟩ = some (.int .i64 s2) := R3.cell (i := 2) (by omega)
    have d3 : w3.cell? ⟨w.heap.size, 3, none⟩ = some (.int .i64 s3) := R3.cell (i := 3) (by omega)
    have d4 : w3.cell? ⟨w.heap.size, 4, none⟩ = some (.int .i64 s4) := R3.cell (i := 4) (by omega)
    have d5 : w3.cell? ⟨w.heap.size, 5, none⟩ = some (.int .i64 s5) := R3.cell (i := 5) (by omega)
    have d7 : w3.cell? ⟨w.heap.size, 7, none⟩ = some (.slice aoh P.nh caph) := R3.cell (i := 7) (by omega)
    have d8 : w3.cell? ⟨w.heap.size, 8, none⟩ = some (.slice aos P.ns caps) := R3.cell (i := 8) (by omega)
    have d9 : w3.cell? ⟨w.heap.size, 9, none⟩ = some (.int .i64 most) := R3.cell (i := 9) (by omega)
    clear hg3 b3 RW R3 c0 c1 c2 c3 c4 c5 hW0
    go_wp2_with fail
    refine (HP.out w3 B3.out _ _ S3.out).mono ?_
    rintro e w1 ⟨hb1, sa, k, sc, wa, n, wc, en, aa, m, ac, er, rfl, hS⟩
    have hs1 := hb1.size
    have RT1 := RT3.out.of_block (hb1.block (w.heap.size + 1) (by omega))
    obtain ⟨W2, hW2⟩ : ∃ W2, w1.alloc (.cells #[.slice sa k sc, .slice wa n wc, .bool en] 32) = W2 := ⟨_, rfl⟩
    have R2 : W2.rowIs w1.heap.size 32 3 (lrow [.slice sa k sc, .slice wa n wc, .bool en]) := by rw [← hW2]; exact rowL_alloc w1 [.slice sa k sc, .slice wa n wc, .bool en] _ rfl
    have RT2 : W2.rowIs (w.heap.size + 1) 32 3 (lrow [.slice none 0 0, .slice none 0 0, .bool false]) := by rw [← hW2]; exact RT1.alloc _
    have B2 : Below w.heap.size w W2 := by rw [← hW2]; exact (B3.out.trans (hb1.mono B3.out.size)).alloc (by have := B3.out.size; omega) _
    have T2 : Touch w1 W2 (fun k => k = w.heap.size + 1) := by rw [← hW2]; exact (Touch.refl w1 _).alloc _
    have sz2 : W2.heap.size = w1.heap.size + 1 := by rw [← hW2]; simp
    have e0 : W2.cell? ⟨w1.heap.size, 0, none⟩ = some (.slice sa k sc) := R2.cell (i := 0) (by omega)
    have e1 : W2.cell? ⟨w1.heap.size, 1, none⟩ = some (.slice wa n wc) := R2.cell (i := 1) (by omega)
    have e2 : W2.cell? ⟨w1.heap.size, 2, none⟩ = some (.bool en) := R2.cell (i := 2) (by omega)
    have z0 : W2.cell? ⟨w.heap.size + 1, 0, none⟩ = some (.slice none 0 0) := RT2.cell (i := 0) (by omega)
    have z1 : W2.cell? ⟨w.heap.size + 1, 1, none⟩ = some (.slice none 0 0) := RT2.cell (i := 1) (by omega)
    have z2 : W2.cell? ⟨w.heap.size + 1, 2, none⟩ = some (.bool false) := RT2.cell (i := 2) (by omega)
    have y0 := RT2.frozen 0
    have y1 := RT2.frozen 1
    have y2 := RT2.frozen 2
    have tt := touch3 W2 (w.heap.size + 1) (.slice sa k sc) (.slice wa n wc) (.bool en)
    have FIN := hide (And.intro (B2.trans (tt.below (fun k hk => by omega) (by have := B3.out.size; omega))) (UP.out w3.heap.size w.heap.size (w.heap.size + 1) er sa k sc wa n wc en aa m ac w1 _ hS (T2.trans tt) (by omega) (by omega)))
    clear hb1 hS RT1 R2 RT2 B2 T2 tt d0 d1 d2 d3 d4 d5 d7 d8 d9
    unfold tv3
    go_wp2_with fail
    go_light
    refine bodyPost_ret (v := .tuple #[.agg #[.slice sa k sc, .slice wa n wc, .bool en], .slice aa m ac, .bool (er == 0)]) ?_ rfl ⟨FIN.out.1, sa, k, sc, wa, n, wc, en, aa, m, ac, er, rfl, FIN.out.2⟩
    simp [results, Try.results27, go_sem, *]
end Deal
end Go.Proofs.Ytkiojiibppdjjaa

namespace Go.Proofs.Ytkiojiibppdjjaa
open Go.RowKit
namespace PKept

def lenV : Value → Nat
  | .slice _ n _ => n
  | _ => 0
theorem own_slice {w : World} {base : Nat} {e : TypeId} {size : Nat} {v : Value} {n : Nat} {xs : List Value} (h : w.ownsRow base e size v n xs) : ∃ ao cp, v = .slice ao n cp := by
  obtain ⟨hl, ⟨rfl, rfl⟩ | ⟨g, cap, cur, rfl, _⟩⟩ := h
  · exact ⟨_, _, rfl⟩
  · exact ⟨_, _, rfl⟩
theorem grown_below {B : Nat} {w wr w1 : World} {v : Value} {o : Obj} {e : TypeId} {n : Nat} {xs : List Value} (HB : Below B w wr) (hB : B ≤ wr.heap.size) (HO : wr.ownsRow B e 1 v n xs) (G : (wr.alloc o).grownBy w1 v.ownBlock) : Below B w w1 := by
  have HA : Below B w (wr.alloc o) := HB.alloc hB o
  refine ⟨G.os.trans HA.os, G.tape.trans HA.tape, G.output.trans HA.output, Nat.le_trans HA.size G.size, fun k hk => ?_⟩
  refine (G.block k (by simp; omega) (fun e => ?_)).trans (HA.block k hk)
  have := (HO.lt k e.symm).1
  omega

/-- Words as cells. -/
def wc (l : List Int) : List Value := l.map fun x => Value.int .u64 x
theorem wc_len (l : List Int) : (wc l).length = l.length := by simp [wc]
theorem wc_more (l : List Int) (x : Int) : wc (l ++ [x]) = wc l ++ [.int .u64 x] := by simp [wc]
theorem wc_get {l : List Int} {j : Nat} {x : Int} (h : l[j]? = some x) : (wc l)[j]? = some (.int .u64 x) := by simp [wc, h]

/-- append at an operation, the appended whatever slice: nil, empty or not. -/
theorem wp_append_opt {P : Program} {w : World} {o : Oper} {a : Act} {K : Act → World → Prop} {Q : Exit → Act → World → Prop} (s x : Operand) (t : TypeId)
    (ho : o.op = .call { callee := .builtin .append, args := #[s, x], argTypes := #[t, t] })
    (base : Nat) (e : TypeId) (i : TypeInfo) (z : Value) (size bytes : Nat) (ht : P.underlying t = some (.slice e)) (hi : P.info? e = some i) (hz : i.zero = some z)
    (hsize : i.size = size) (hby : i.bytes = bytes) (hzs : z.cells.size = size) (hsz : 0 < size)
    (v : Value) (n : Nat) (xs : List Value) (hs : a.eval s = v) (hown : w.ownsRow base e size v n xs)
    (ao : Option Addr) (m c : Nat) (news : List Value) (hx : a.eval x = .slice ao m c) (hnil : ao = none → m = 0 ∧ c = 0) (hl : news.length = m * size) (hnews : ∀ ad, ao = some ad → ∀ j u, news[j]? = some u → w.cell? (ad.add j) = some u) (h1 : ∀ u ∈ news, u.oneCell' = true)
    (h63 : n + m ≤ maxLen) (hbytes : (n + m) * bytes ≤ 140737488355328) (hbase : base ≤ w.heap.size)
    (h : ∀ v' w', w'.ownsRow base e size v' (n + m) (xs ++ news) → w.grownBy w' v.ownBlock → K (a.put o.dst v') w') : o.wp P a w K Q := by
  cases ao with
  | none =>
    obtain ⟨rfl, rfl⟩ := hnil rfl
    have hn : news = [] := by simpa using hl
    subst hn
    have hrun := run_append_owned_none (P := P) (w := w) base t o.type e i size ht hi v n xs hown
    unfold Oper.wp
    simp [execOp, ho, resolve, invoke, builtin, hs, hx, hrun, Result.andThen]
    exact h v w (by simpa using hown) ⟨rfl, rfl, rfl, Nat.le_refl _, fun _ _ _ => rfl⟩
  | some ad =>
    obtain ⟨v', w', hr, h2, h3, _, _⟩ := run_append_own_at (P := P) w base t o.type e i z size bytes ht hi hz hsize hby hzs hsz v n xs hown ad m c news hl (hnews ad rfl) h1 h63 hbytes hbase
    unfold Oper.wp execOp
    simp only [ho, resolve, invoke, builtin, Sem.run_bind, Sem.run_pure, Result.andThen_ok, List.map_toArray, List.map_cons, List.map_nil, hs, hx, hr]
    exact h v' w' h2 h3

theorem owns_keep {w w' : World} {base : Nat} {e : TypeId} {size : Nat} {v : Value} {n : Nat} {xs : List Value} (h : w.ownsRow base e size v n xs) (hk : ∀ b, v.ownBlock = some b → b < w.heap.size → w'.heap[b]? = w.heap[b]?) : w'.ownsRow base e size v n xs := by
  obtain ⟨hl, h | ⟨g, cap, cur, rfl, hb, hg, hc, hm, hs, ht⟩⟩ := h
  · exact ⟨hl, .inl h⟩
  · refine ⟨hl, .inr ⟨g, cap, cur, rfl, hb, ?_, hc, hm, hs, ht⟩⟩
    rw [hk g (by simp [Value.ownBlock]) ?_]
    · exact hg
    · rcases Nat.lt_or_ge g w.heap.size with l | l
      · exact l
      · rw [Array.getElem?_eq_none l] at hg
        cases hg

/-- What a row of one's own tells to one that appends it. -/
theorem own_news {w : World} {B : Nat} {ao : Option Addr} {n cp : Nat} {xs : List Value} {e : TypeId} (h : w.ownsRow B e 1 (.slice ao n cp) n xs) : (ao = none → n = 0 ∧ cp = 0) ∧ xs.length = n * 1 ∧ ∀ ad, ao = some ad → ∀ j u, xs[j]? = some u → w.cell? (ad.add j) = some u := by
  refine ⟨fun e0 => ?_, h.1, fun ad e0 j u hj => ?_⟩
  · obtain ⟨hl, ⟨e1, e2⟩ | ⟨g, cap, cur, e1, _⟩⟩ := h
    · cases e1; exact ⟨rfl, rfl⟩
    · rw [e0] at e1; cases e1
  · have hjl := (List.getElem?_eq_some_iff.1 hj).1
    have hl := h.1
    obtain ⟨g, cap, F, e1, hb, R, hp, hc, _⟩ := row_of_owns h (by omega)
    rw [e0] at e1
    cases e1
    rw [Go.WideShapes.add_plain, Nat.zero_add, R.cell (i := j) (by omega)]
    exact congrArg some (hp j u hj)
end PKept
end Go.Proofs.Ytkiojiibppdjjaa

namespace Go.Proofs.Ytkiojiibppdjjaa
open Go.RowKit

namespace RH
open RetN (pv D)

theorem region2 {P : Program} {id : Nat} {ops : Array Oper} {Q : Exit → Act → World → Prop} {ks : List (Nat × Nat)} {vals : Nat → Value} {xs : List Nat} {WI : (Nat → Bool) → (Nat → Value) → World → Prop} {w0 : World} {a0 : Act}
    (hm : P.follows .mixedOrders = true) (hg : ∀ (i : Nat) (o : Oper), ops[i]? = some o → o.guard = none) (hback : ∀ (i : Nat) (o : Oper), ops[i]? = some o → ∀ e ∈ o.after, Region.binds .any e = true → e.on < i)
    (hgood : (ks.all fun p => (ks.all fun q => p.1 == q.1 || p.2 != q.2) && !xs.contains p.2) = true) (hD : ∀ k, D ks k → k < a0.tmps.size) (hX : ∀ k, xs.contains k = true → k < a0.tmps.size)
    (hloc : ∀ L s s' w, (∀ k, xs.contains k = true → s k = s' k) → WI L s w → WI L s' w) (hW0 : WI (fun _ => false) (fun k => a0.eval (.tmp k)) { w0 with drawn := w0.drawn + 1 })
    (does : ∀ (i : Nat) (o : Oper), ops[i]? = some o → Does P Q ks vals xs WI a0 i o)
    (fin : ∀ L a w, In ks vals xs WI a0 L a w → (∀ i, i < ops.size → L i = true) → Q .normal a w) :
    (Code.region id ops true).wp P Q a0 w0 := by
  simp only [List.all_eq_true, bne_iff_ne, Bool.or_eq_true, beq_iff_eq, Bool.and_eq_true, Bool.not_eq_true'] at hgood
  have pvm : ∀ {i d v}, pv ks vals i = some (d, v) → (i, d) ∈ ks := fun {i d v} h => by
    obtain ⟨d', h1, h2⟩ := Option.map_eq_some_iff.1 h
    cases h2; exact Reg.look_mem h1
  refine region_inv hm hg hback (fun L a w => In ks vals xs WI a0 L a w) ?step (fun L a w h hall => fin L a w h hall) ?start
  case start => exact ⟨rfl, rfl, fun _ _ _ => rfl, fun _ _ _ _ h => (by cases h), hW0⟩
  case step =>
    rintro L a w i o h ho hL hd
    have none_ok : ∀ {j d' v'}, Reg.look ks i = none → pv ks vals j = some (d', v') → upd L i true j = true → L j = true := fun {j d' v'} hlk hj hLj => by
      have hji : j ≠ i := fun e => by
        subst e
        obtain ⟨d'', h1, _⟩ := Option.map_eq_some_iff.1 hj
        rw [hlk] at h1; cases h1
      rwa [upd_other _ _ hji] at hLj
    rcases does i o ho with ⟨hdst, hwp⟩ | ⟨x, hdst, hx, hno, hwp⟩
    · refine hwp L a w _ h hL hd (fun w' v hv hW => ?_)
      cases hlk : Reg.look ks i with
      | none =>
        rw [hdst, hlk]
        exact ⟨h.sz, h.df, h.fix, fun j d' v' hj hLj => h.pure j d' v' hj (none_ok hlk hj hLj), hW⟩
      | some d =>
        have hv' := hv d (hdst.trans hlk)
        subst hv'
        rw [hdst, hlk]
        have hm' : (i, d) ∈ ks := Reg.look_mem hlk
        have hDd : D ks d := by simp only [D, List.any_eq_true, beq_iff_eq]; exact ⟨_, hm', rfl⟩
        have e : ∀ k : Nat, k ≠ d → (a.put (some d) (vals i)).eval (.tmp k) = a.eval (.tmp k) := fun k hk => put_other hk
        refine ⟨by rw [put_size]; exact h.sz, by rw [put_defs]; exact h.df, fun k hk hkx => ?_, fun j d' v' hj hLj => ?_, hloc _ _ _ _ (fun k hk => (e k (fun he => by subst he; rw [(hgood _ hm').2] at hk; cases hk)).symm) hW⟩
        · rw [e k (fun he => hk (he ▸ hDd))]; exact h.fix k hk hkx
        · by_cases hij : j = i
          · subst hij
            rw [pv, hlk] at hj
            cases hj
            exact put_eval (by rw [h.sz]; exact hD _ hDd)
          · rw [upd_other _ _ hij] at hLj
            have : d' ≠ d := by
              rcases (hgood _ hm').1 _ (pvm hj) with e1 | e1
              · exact absurd e1.symm hij
              · exact Ne.symm e1
            rw [e d' this]
            exact h.pure j d' v' hj hLj
    · refine hwp L a w _ h hL hd (fun w' v hW => ?_)
      have e : ∀ k : Nat, k ≠ x → (a.put (some x) v).eval (.tmp k) = a.eval (.tmp k) := fun k hk => put_other hk
      have ex : (a.put (some x) v).eval (.tmp x) = v := put_eval (by rw [h.sz]; exact hX x hx)
      refine ⟨by rw [put_size]; exact h.sz, by rw [put_defs]; exact h.df, fun k hk hkx => by rw [e k (fun he => by subst he; rw [hx] at hkx; cases hkx)]; exact h.fix k hk hkx, fun j d' v' hj hLj => ?_, hloc _ _ _ _ (fun k hk => ?_) hW⟩
      · rw [e d' (fun he => by subst he; have := (hgood _ (pvm hj)).2; rw [hx] at this; cases this)]
        exact h.pure j d' v' hj (none_ok hno hj hLj)
      · by_cases he : k = x
        · subst he; simp [ex]
        · simp [he, e k he]

end RH
end Go.Proofs.Ytkiojiibppdjjaa

namespace Go.Proofs.Ytkiojiibppdjjaa
open Go.RowKit
namespace Deal
open PKept

/-- One hand with these jobs. -/
def PA (n nj : Nat) (jb : Nat → Jb) : Par := ⟨n, 1, fun _ => nj, fun _ => jb, 0, fun _ => 0⟩
theorem told_alone {sh : Shp} {n0 nj : Nat} {jb : Nat → Jb} {base : Nat} {sa wa aa : Option Addr} {k sc n wc m ac : Nat} {en : Bool} {w : World} (hn : 1 ≤ sh.f ∧ sh.f ≤ 64 → (n0 : Int) = 2 + sh.f) (hj : nj ≤ 100) (T : TB sh (PA n0 nj jb) 4000 base 0 sa k sc wa n wc en aa m ac w) :
    ∃ r : Nat, sh.f = (r : Int) ∧ 1 ≤ r ∧ r ≤ 64 ∧ (∀ j, j < nj → (jb j).kind = 1 ∨ (jb j).kind = 2 ∨ (jb j).kind = 3) ∧ en = true ∧ m = 1 ∧ SeesA w w.heap.size aa 1 (fun _ => nj) (fun _ i => (mdl r (aft r (PA n0 nj jb) i) (jb i)).2) := by
  obtain ⟨⟨h1, h2⟩, hok, hT⟩ := T rfl
  have hn' := hn ⟨h1, h2⟩
  obtain ⟨r, hr⟩ : ∃ r : Nat, sh.f = (r : Int) := ⟨sh.f.toNat, by omega⟩
  rw [hr] at hok hT h1 h2 hn'
  have hk : ∀ j, j < nj → (jb j).kind = 1 ∨ (jb j).kind = 2 ∨ (jb j).kind = 3 := fun j hjj => (derr_cases (hok 0 (by show 0 < 1; decide) j hjj)).1
  obtain ⟨a1, a2, a3⟩ := alone_all (r := r) (P := PA n0 nj jb) (by omega) (by omega) (show n0 = r + 2 by omega) rfl hj hk
  refine ⟨r, hr, by omega, by omega, hk, ?_⟩
  obtain ⟨blk, c, g, sv, hv, H, G, GS, R, hg, hne⟩ := hT
  have e4 : (4000 : Int).toNat = 4000 := rfl
  rw [e4] at hv G
  simp only [tv3, Value.tuple.injEq] at hv
  simp at hv
  obtain ⟨⟨_, _, hen⟩, hans⟩ := hv
  have hm : m = 1 := hans.2.1
  refine ⟨by rw [hen]; simpa using a1, hm, ?_⟩
  have hS := seesA_of G.answers H
  rw [← hans.1] at hS
  intro h hh
  obtain rfl : h = 0 := by omega
  obtain ⟨b, off, av, cap, e, hl, hc, hjj⟩ := hS 0 (by show 0 < 1; decide)
  rw [a2] at hc hjj
  refine ⟨b, off, av, cap, e, hl, hc, fun j hj' => ?_⟩
  obtain ⟨b', off', e', hl', hc'⟩ := hjj j hj'
  refine ⟨b', off', e', hl', fun i hi => ?_⟩
  have hx := hc' i hi
  rw [a3 j hj'] at hx
  exact hx

/-- A list that is seen: whatever slice. -/
structure LS (w : World) (lo : Option Addr) (l : List Int) (cp : Nat) : Prop where
  nil : lo = none → l.length = 0 ∧ cp = 0
  cap : l.length ≤ cp
  see : ∀ k v, l[k]? = some v → ∃ b off, lo = some ⟨b, off, none⟩ ∧ b < w.heap.size ∧ w.cell? ⟨b, off + k, none⟩ = some (.int .u64 v)
theorem LS.below {w w' : World} {lo : Option Addr} {l : List Int} {cp : Nat} (h : LS w lo l cp) (hb : Below w.heap.size w w') : LS w' lo l cp :=
  ⟨h.nil, h.cap, fun k v hk => by obtain ⟨b, off, e, hl, hc⟩ := h.see k v hk; exact ⟨b, off, e, Nat.lt_of_lt_of_le hl hb.size, (hb.cell (p := ⟨b, off + k, none⟩) hl).trans hc⟩⟩
theorem LS.news {w : World} {lo : Option Addr} {l : List Int} {cp : Nat} (h : LS w lo l cp) : ∀ ad, lo = some ad → ∀ j u, (wc l)[j]? = some u → w.cell? (ad.add j) = some u := fun ad e j u hj => by
  simp only [wc, List.getElem?_map, Option.map_eq_some_iff] at hj
  obtain ⟨v, hv, rfl⟩ := hj
  obtain ⟨b, off, e', _, hc⟩ := h.see j v hv
  rw [e] at e'
  cases e'
  rw [Go.WideShapes.add_plain]
  exact hc
theorem LS.nilS (w : World) : LS w none [] 0 := ⟨fun _ => ⟨rfl, rfl⟩, Nat.le_refl _, fun k v hk => by simp at hk⟩
theorem LS.own {w : World} {B : Nat} {v : Value} {l : List Int} (h : w.ownsRow B 47 1 v l.length (wc l)) : ∃ lo cp, v = .slice lo l.length cp ∧ LS w lo l cp := by
  rcases Nat.eq_zero_or_pos l.length with e | e
  · have e' : l = [] := List.length_eq_zero_iff.1 e
    subst e'
    obtain ⟨_, ⟨rfl, _⟩ | ⟨g, cap, cur, rfl, _⟩⟩ := h
    · exact ⟨none, 0, rfl, LS.nilS w⟩
    · exact ⟨_, cap, rfl, fun h => (by cases h), Nat.zero_le _, fun k v hk => by simp at hk⟩
  · obtain ⟨g, cap, F, rfl, hb, R, hp, hc, _⟩ := row_of_owns h e
    refine ⟨_, cap, rfl, fun h => (by cases h), hc, fun k v hk => ⟨g, 0, rfl, R.lt, ?_⟩⟩
    have hkl := (List.getElem?_eq_some_iff.1 hk).1
    rw [Nat.zero_add, R.cell (i := k) (by omega)]
    exact congrArg some (hp k _ (wc_get hk))
theorem LS.take {w : World} {b off cp : Nat} {l : List Int} (h : LS w (some ⟨b, off, none⟩) l cp) : LS w (some ⟨b, off, none⟩) (l.take (l.length - 1)) cp :=
  ⟨fun e => (by cases e), by have := h.cap; simp; omega, fun k v hk => by
    rw [List.getElem?_take] at hk
    split at hk
    · exact h.see k v hk
    · cases hk⟩
theorem LS.drop {w : World} {b off cp : Nat} {l : List Int} (h : LS w (some ⟨b, off, none⟩) l cp) (hl : 0 < l.length) : LS w (some ⟨b, off + 1, none⟩) (l.drop 1) (cp - 1) :=
  ⟨fun e => (by cases e), by have := h.cap; simp; omega, fun k v hk => by
    rw [List.getElem?_drop] at hk
    obtain ⟨b', off', e, hl, hc⟩ := h.see _ v hk
    cases e
    exact ⟨b, off + 1, rfl, hl, by rw [show off + 1 + k = off + (1 + k) by omega]; exact hc⟩⟩

/-- 'l = append(append([]uint64{}, l...), h)': L0: the empty one is built; L1: l is read; L2: l is appended; L8: the list of h is built; L9: it is appended; L10: it is told. -/
structure AB (W : World) (l : List Int) (hv : Int) (v0 : Value) (L0 L1 L2 L8 L9 L10 : Bool) (s71 s73 s79 s80 s8 : Value) (w : World) : Prop where
  bel : Below W.heap.size W w
  d0 : L2 = true → L0 = true ∧ L1 = true
  d1 : L9 = true → L2 = true ∧ L8 = true
  d2 : L10 = true → L9 = true
  a : L0 = true → L2 = false → w.ownsRow W.heap.size 47 1 s71 0 []
  b : L2 = true → L9 = false → w.ownsRow W.heap.size 47 1 s73 l.length (wc l)
  c : L8 = true → L9 = false → ∃ q, s79 = .slice (some ⟨q, 0, none⟩) 1 1 ∧ q < w.heap.size ∧ w.cell? ⟨q, 0, none⟩ = some (.int .u64 hv) ∧ (L0 = true → L2 = false → s71.ownBlock ≠ some q)
  e : L9 = true → w.ownsRow W.heap.size 47 1 s80 (l ++ [hv]).length (wc (l ++ [hv]))
  f : L10 = true → s8 = s80
  g : L10 = false → s8 = v0
section
variable {W w w' : World} {l : List Int} {hv : Int} {v0 : Value} {L0 L1 L2 L8 L9 L10 : Bool} {s71 s73 s79 s80 s8 : Value}
theorem AB.start (hg : s8 = v0) : AB W l hv v0 false false false false false false s71 s73 s79 s80 s8 { W with drawn := W.drawn + 1 } :=
  ⟨⟨rfl, rfl, rfl, Nat.le_refl _, fun _ _ => rfl⟩, fun h => (by cases h), fun h => (by cases h), fun h => (by cases h), fun h => (by cases h), fun h => (by cases h), fun h => (by cases h), fun h => (by cases h), fun h => (by cases h), fun _ => hg⟩
theorem AB.skip {L : Nat → Bool} {i : Nat} (n0 : 0 ≠ i) (n1 : 1 ≠ i) (n2 : 2 ≠ i) (n8 : 8 ≠ i) (n9 : 9 ≠ i) (n10 : 10 ≠ i) (h : AB W l hv v0 (L 0) (L 1) (L 2) (L 8) (L 9) (L 10) s71 s73 s79 s80 s8 w) : AB W l hv v0 (upd L i true 0) (upd L i true 1) (upd L i true 2) (upd L i true 8) (upd L i true 9) (upd L i true 10) s71 s73 s79 s80 s8 w := by
  rwa [upd_other _ _ n0, upd_other _ _ n1, upd_other _ _ n2, upd_other _ _ n8, upd_other _ _ n9, upd_other _ _ n10]
theorem AB.no9 (h : AB W l hv v0 L0 L1 L2 L8 L9 L10 s71 s73 s79 s80 s8 w) (hL : L2 = false ∨ L8 = false) : L9 = false := by
  cases e : L9 with
  | false => rfl
  | true =>
    obtain ⟨a, b⟩ := h.d1 e
    rcases hL with hL | hL
    · rw [a] at hL; cases hL
    · rw [b] at hL; cases hL
theorem AB.no2 (h : AB W l hv v0 L0 L1 L2 L8 L9 L10 s71 s73 s79 s80 s8 w) (hL : L0 = false ∨ L1 = false) : L2 = false := by
  cases e : L2 with
  | false => rfl
  | true =>
    obtain ⟨a, b⟩ := h.d0 e
    rcases hL with hL | hL
    · rw [a] at hL; cases hL
    · rw [b] at hL; cases hL
theorem AB.no10 (h : AB W l hv v0 L0 L1 L2 L8 L9 L10 s71 s73 s79 s80 s8 w) (hL : L9 = false) : L10 = false := by
  cases e : L10 with
  | false => rfl
  | true => have := h.d2 e; rw [hL] at this; cases this
theorem AB.was (h : AB W l hv v0 L0 L1 L2 L8 L9 L10 s71 s73 s79 s80 s8 w) (hL : L1 = false) : s8 = v0 := h.g (h.no10 (h.no9 (.inl (h.no2 (.inr hL)))))
theorem AB.moved (h : AB W l hv v0 L0 L1 L2 L8 L9 L10 s71 s73 s79 s80 s8 w) (hL : L1 = false) : AB W l hv v0 L0 true L2 L8 L9 L10 s71 s73 s79 s80 s8 w :=
  ⟨h.bel, fun h2 => ⟨(h.d0 h2).1, rfl⟩, h.d1, h.d2, h.a, h.b, h.c, h.e, h.f, h.g⟩
theorem AB.build (h : AB W l hv v0 L0 L1 L2 L8 L9 L10 s71 s73 s79 s80 s8 w) (hL : L0 = false) : AB W l hv v0 true L1 L2 L8 L9 L10 (.slice (some ⟨w.heap.size, 0, none⟩) 0 0) s73 s79 s80 s8 (w.alloc (.cells #[] 47)) := by
  have h2 := h.no2 (.inl hL)
  have h9 := h.no9 (.inl h2)
  have B : Below w.heap.size w (w.alloc (.cells #[] 47)) := (Below.refl _ w).alloc (Nat.le_refl _) _
  subst h2 h9
  refine ⟨h.bel.alloc h.bel.size _, fun h => (by cases h), fun h => (by cases h), h.d2, fun _ _ => ?_, fun h => (by cases h), fun h8 _ => ?_, fun h => (by cases h), fun h10 => absurd (h.d2 h10) (by decide), h.g⟩
  · exact ⟨rfl, .inr ⟨w.heap.size, 0, #[], rfl, h.bel.size, by show (w.heap.push _)[w.heap.size]? = _; simp, Nat.le_refl _, by decide, rfl, rfl⟩⟩
  · obtain ⟨q, e1, hq, hc, _⟩ := h.c h8 rfl
    refine ⟨q, e1, Nat.lt_of_lt_of_le hq B.size, (B.cell (p := ⟨q, 0, none⟩) hq).trans hc, fun _ _ he => ?_⟩
    have h2 : w.heap.size = q := by simpa [Value.ownBlock] using he
    omega
theorem AB.built (h : AB W l hv v0 L0 L1 L2 L8 L9 L10 s71 s73 s79 s80 s8 w) (hL : L8 = false) : AB W l hv v0 L0 L1 L2 true L9 L10 s71 s73 (.slice (some ⟨w.heap.size, 0, none⟩) 1 1) s80 s8 (w.alloc (.cells #[.int .u64 hv] 47)) := by
  have h9 := h.no9 (.inr hL)
  subst h9
  refine ⟨h.bel.alloc h.bel.size _, h.d0, fun h => (by cases h), h.d2, fun a b => (h.a a b).alloc _, fun a b => (h.b a b).alloc _, fun _ _ => ⟨w.heap.size, rfl, by simp, by simp, fun a b he => ?_⟩, fun h => (by cases h), fun h10 => absurd (h.d2 h10) (by decide), h.g⟩
  have := ((h.a a b).lt _ he).2
  omega
theorem AB.app1 (h : AB W l hv v0 L0 L1 L2 L8 L9 L10 s71 s73 s79 s80 s8 w) (hL : L2 = false) (h0 : L0 = true) (h1 : L1 = true) {v : Value} (own : w'.ownsRow W.heap.size 47 1 v (0 + l.length) ([] ++ wc l)) (gr : w.grownBy w' s71.ownBlock) : AB W l hv v0 L0 L1 true L8 L9 L10 s71 v s79 s80 s8 w' := by
  have h9 := h.no9 (.inl hL)
  subst h9 hL
  rw [Nat.zero_add, List.nil_append] at own
  have ha := h.a h0 rfl
  refine ⟨⟨gr.os.trans h.bel.os, gr.tape.trans h.bel.tape, gr.output.trans h.bel.output, Nat.le_trans h.bel.size gr.size, fun k hk => (gr.block k (Nat.lt_of_lt_of_le hk h.bel.size) (fun e => by have := (ha.lt k e.symm).1; omega)).trans (h.bel.block k hk)⟩, fun _ => ⟨h0, h1⟩, fun h => (by cases h), h.d2, fun _ h => (by cases h), fun _ _ => own, fun h8 _ => ?_, fun h => (by cases h), fun h10 => absurd (h.d2 h10) (by decide), h.g⟩
  obtain ⟨q, e1, hq, hc, hn⟩ := h.c h8 rfl
  exact ⟨q, e1, Nat.lt_of_lt_of_le hq gr.size, (World.cell?_of_block (a := ⟨q, 0, none⟩) (gr.block q hq (fun e => hn h0 rfl e.symm))).trans hc, fun _ h => (by cases h)⟩
theorem AB.app2 (h : AB W l hv v0 L0 L1 L2 L8 L9 L10 s71 s73 s79 s80 s8 w) (hL : L9 = false) (h2 : L2 = true) (h8 : L8 = true) {v : Value} (own : w'.ownsRow W.heap.size 47 1 v (l.length + 1) (wc l ++ [.int .u64 hv])) (gr : w.grownBy w' s73.ownBlock) : AB W l hv v0 L0 L1 L2 L8 true L10 s71 s73 s79 v s8 w' := by
  subst hL h2 h8
  have hb := h.b rfl rfl
  refine ⟨⟨gr.os.trans h.bel.os, gr.tape.trans h.bel.tape, gr.output.trans h.bel.output, Nat.le_trans h.bel.size gr.size, fun k hk => (gr.block k (Nat.lt_of_lt_of_le hk h.bel.size) (fun e => by have := (hb.lt k e.symm).1; omega)).trans (h.bel.block k hk)⟩, h.d0, fun _ => ⟨rfl, rfl⟩, fun _ => rfl, fun _ h => (by cases h), fun _ h => (by cases h), fun _ h => (by cases h), fun _ => ?_, fun h10 => absurd (h.d2 h10) (by decide), h.g⟩
  rw [wc_more, List.length_append]
  exact own
theorem AB.told (h : AB W l hv v0 L0 L1 L2 L8 L9 L10 s71 s73 s79 s80 s8 w) (h9 : L9 = true) : AB W l hv v0 L0 L1 L2 L8 L9 true s71 s73 s79 s80 s80 w :=
  ⟨h.bel, h.d0, h.d1, fun _ => h9, h.a, h.b, h.c, h.e, fun _ => rfl, fun h => (by cases h)⟩
end
theorem one_news {w : World} {q : Nat} {hv : Int} (hc : w.cell? ⟨q, 0, none⟩ = some (.int .u64 hv)) {j : Nat} {u : Value} (hj : [Value.int .u64 hv][j]? = some u) : w.cell? (Addr.add ⟨q, 0, none⟩ j) = some u := by
  have h0 : j = 0 := by have := (List.getElem?_eq_some_iff.1 hj).1; simp at this; exact this
  subst h0
  rw [Go.WideShapes.add_plain]
  cases hj
  exact hc
theorem one_one {hv : Int} : ∀ u ∈ [Value.int .u64 hv], u.oneCell' = true := fun u hu => by
  simp at hu
  subst hu
  rfl
theorem wc_one (l : List Int) : ∀ u, u ∈ wc l → u.oneCell' = true := fun u hu => by
  obtain ⟨q, _, rfl⟩ := List.mem_map.1 hu
  rfl
theorem ex_bslice0u {ev : Operand → Value} {o : Oper} {w : World} (ho : o.op = .buildSlice 24 0 #[]) : (execOp ev o).run Try.prog w = .ok (.value (.slice (some ⟨w.heap.size, 0, none⟩) 0 0)) (w.alloc (.cells #[] 47)) := by
  simp [execOp, ho, go_sem]
theorem ex_bslice1u {ev : Operand → Value} {o : Oper} {w : World} {x : Operand} {v : Int} (ho : o.op = .buildSlice 24 1 #[(0, x)]) (hx : ev x = .int .u64 v) : (execOp ev o).run Try.prog w = .ok (.value (.slice (some ⟨w.heap.size, 0, none⟩) 1 1)) (w.alloc (.cells #[.int .u64 v] 47)) := by
  simp [execOp, ho, hx, go_sem]
theorem mdl_full {r : Nat} {l : List Int} {j : Jb} (hk : j.kind = 1) (hl : ¬ l.length < r) : mdl r l j = (l, ⟨false, 0⟩) := by simp [mdl, hk, hl]
theorem mdl_lay {r : Nat} {l : List Int} {j : Jb} (hk : j.kind = 1) (hl : l.length < r) : mdl r l j = (l ++ [j.h], ⟨true, j.h⟩) := by simp [mdl, hk, hl]
theorem mdl_none {r : Nat} {l : List Int} {j : Jb} (hk : ¬ j.kind = 1) (hl : l.length = 0) : mdl r l j = (l, ⟨false, 0⟩) := by simp [mdl, hk, hl]
theorem mdl_draw {r : Nat} {l : List Int} {j : Jb} {v : Int} (hk : j.kind = 2) (hl : ¬ l.length = 0) (hv : l[l.length - 1]? = some v) : mdl r l j = (l.take (l.length - 1), ⟨true, v⟩) := by simp [mdl, hk, hl, hv]
theorem mdl_steal {r : Nat} {l : List Int} {j : Jb} {v : Int} (hk1 : ¬ j.kind = 1) (hk2 : ¬ j.kind = 2) (hl : ¬ l.length = 0) (hv : l[0]? = some v) : mdl r l j = (l.drop 1, ⟨true, v⟩) := by simp [mdl, hk1, hk2, hl, hv]
end Deal
end Go.Proofs.Ytkiojiibppdjjaa

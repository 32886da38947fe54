/-
  Lemmas: RRetS, TallyN, TallyS.
-/
import Derived.Test.YtpghfebnggoacaaTp26
import Derived.Test.YtpghfebnggoacaaTp08
import Derived.Test.YtpghfebnggoacaaTp12
import Derived.Test.YtpghfebnggoacaaTp21
import Derived.Deep.CutRange
/-
  A region that draws its order, only reads by a table, and writes one cell that one of its operations read.
-/
namespace Go.Proofs.Ytpghfebnggoacaa
open Go.RowKit
set_option linter.unusedVariables false
set_option linter.unusedSimpArgs false
set_option linter.unnecessarySimpa false

namespace RetS
open RetN (pv D)

structure In (ks : List (Nat × Nat)) (vals : Nat → Value) (iR iM iS : Nat) (w0 w1 : World) (a0 : Act) (L : Nat → Bool) (a : Act) (w : World) : Prop where
  sz : a.tmps.size = a0.tmps.size
  df : a.defers = a0.defers
  fix : ∀ k, ¬ D ks k → a.eval (.tmp k) = a0.eval (.tmp k)
  pure : ∀ i d v, pv ks vals i = some (d, v) → L i = true → a.eval (.tmp d) = v
  m : L iM = true → L iR = true
  bef : L iS = true → L iR = true
  wb : L iS = false → w = w0
  wa : L iS = true → w = w1

theorem In.world {ks : List (Nat × Nat)} {vals : Nat → Value} {iR iM iS : Nat} {w0 w1 : World} {a0 : Act} {L : Nat → Bool} {a : Act} {w : World} (h : In ks vals iR iM iS w0 w1 a0 L a w) : w = w0 ∨ w = w1 := by
  cases hS : L iS with
  | false => exact .inl (h.wb hS)
  | true => exact .inr (h.wa hS)

theorem region {P : Program} {id : Nat} {ops : Array Oper} {Q : Exit → Act → World → Prop} {ks : List (Nat × Nat)} {vals : Nat → Value} {w0 w1 : World} {a0 : Act} {iR iM iS : Nat}
    (hm : P.follows .mixedOrders = true) (hg : ∀ (i : Nat) (o : Oper), ops[i]? = some o → o.guard = none) (hback : ∀ (i : Nat) (o : Oper), ops[i]? = some o → ∀ e ∈ o.after, Region.binds .any e = true → e.on < i)
    (hgood : (ks.all fun p => (ks.all fun q => p.1 == q.1 || p.2 != q.2) && p.1 != iS) = true) (hMS : iM ≠ iS) (hRM : iR ≠ iM) (hRS : iR ≠ iS) (hD : ∀ k, D ks k → k < a0.tmps.size)
    (hM : ∀ (o : Oper), ops[iM]? = some o → ∀ L : Nat → Bool, (∀ e ∈ o.after, Region.binds .any e = true → L e.on = true) → L iR = true)
    (kinds : ∀ (i : Nat) (o : Oper), ops[i]? = some o →
      (∃ d v, pv ks vals i = some (d, v) ∧ o.dst = some d ∧ ∀ L a w, In ks vals iR iM iS { w0 with drawn := w0.drawn + 1 } w1 a0 L a w → L i = false → (∀ e ∈ o.after, Region.binds .any e = true → L e.on = true) → (execOp a.eval o).run P w = .ok (.value v) w) ∨
      (i = iS ∧ ∀ L a w (K : Act → World → Prop), In ks vals iR iM iS { w0 with drawn := w0.drawn + 1 } w1 a0 L a w → (∀ e ∈ o.after, Region.binds .any e = true → L e.on = true) → w = { w0 with drawn := w0.drawn + 1 } → L iM = true ∧ ((∀ a', a'.tmps = a.tmps → a'.defers = a.defers → K a' w1) → o.wp P a w K Q)))
    (fin : ∀ L a, In ks vals iR iM iS { w0 with drawn := w0.drawn + 1 } w1 a0 L a w1 → (∀ i, i < ops.size → L i = true) → Q .normal a w1) (hS : iS < ops.size) :
    (Code.region id ops true).wp P Q a0 w0 := by
  simp only [Bool.and_eq_true, List.all_eq_true, bne_iff_ne, Bool.or_eq_true, beq_iff_eq] at hgood
  have pvm : ∀ {i d v}, pv ks vals i = some (d, v) → (i, d) ∈ ks := fun {i d v} h => by
    obtain ⟨d', h1, h2⟩ := Option.map_eq_some_iff.1 h
    cases h2; exact Reg.look_mem h1
  refine region_inv hm hg hback (fun L a w => In ks vals iR iM iS { w0 with drawn := w0.drawn + 1 } w1 a0 L a w) ?step (fun L a w h hall => by have := h.wa (hall iS hS); subst this; exact fin L a h hall) ?start
  case start => exact ⟨rfl, rfl, fun _ _ => rfl, fun _ _ _ _ h => (by cases h), fun h => (by cases h), fun h => (by cases h), fun _ => rfl, fun h => (by cases h)⟩
  case step =>
    rintro L a w i o h ho hL hd
    have hMo : i = iM → upd L i true iR = true := fun e => by
      subst e
      rw [upd_other _ _ hRM]
      exact hM o ho L hd
    have hmm : upd L i true iM = true → upd L i true iR = true := fun h1 => by
      by_cases e : i = iM
      · exact hMo e
      · rw [upd_other _ _ (Ne.symm e)] at h1
        by_cases e2 : i = iR
        · subst e2; exact upd_same _ _ _
        · rw [upd_other _ _ (Ne.symm e2)]; exact h.m h1
    rcases kinds i o ho with ⟨d, v, hv, hdst, hrun⟩ | ⟨rfl, hst⟩
    · refine wp_value (hrun L a w h hL hd) ?_
      rw [hdst]
      have hm' := pvm hv
      obtain ⟨hap, hnS⟩ := hgood _ hm'
      have hDd : D ks d := by simp only [D, List.any_eq_true, beq_iff_eq]; exact ⟨_, hm', rfl⟩
      have e : ∀ k : Nat, k ≠ d → (a.put (some d) v).eval (.tmp k) = a.eval (.tmp k) := fun k hk => put_other hk
      have uS : upd L i true iS = L iS := upd_other _ _ (Ne.symm hnS)
      refine ⟨by rw [put_size]; exact h.sz, by rw [put_defs]; exact h.df, fun k hk => ?_, fun j d' v' hj hLj => ?_, hmm, fun h1 => ?_, by rw [uS]; exact h.wb, by rw [uS]; exact h.wa⟩
      · rw [e k (fun he => hk (he ▸ hDd))]; exact h.fix k hk
      · by_cases hij : j = i
        · subst hij
          rw [hv] at hj; cases hj
          exact put_eval (by rw [h.sz]; exact hD _ hDd)
        · rw [upd_other _ _ hij] at hLj
          have : d' ≠ d := by
            rcases hap _ (pvm hj) with e1 | e1
            · exact absurd e1.symm hij
            · exact Ne.symm e1
          rw [e d' this]
          exact h.pure j d' v' hj hLj
      · rw [uS] at h1
        by_cases e2 : i = iR
        · subst e2; exact upd_same _ _ _
        · rw [upd_other _ _ (Ne.symm e2)]; exact h.bef h1
    · obtain ⟨hLM, hk⟩ := hst L a w _ h hd (h.wb hL)
      refine hk (fun a' e1 e2 => ?_)
      have ev : ∀ k : Nat, a'.eval (.tmp k) = a.eval (.tmp k) := fun k => by simp [Act.eval, e1]
      have nk : ∀ {j d v}, pv ks vals j = some (d, v) → j ≠ i := fun {j d v} hj => (hgood _ (pvm hj)).2
      exact ⟨by rw [e1]; exact h.sz, by rw [e2]; exact h.df, fun k hk => by rw [ev]; exact h.fix k hk, fun j d' v' hj hLj => by rw [ev]; exact h.pure j d' v' hj (by rwa [upd_other _ _ (nk hj)] at hLj), hmm, fun _ => by rw [upd_other _ _ hRS]; exact h.m hLM, fun h1 => (by rw [upd_same] at h1; cases h1), fun _ => rfl⟩
end RetS
end Go.Proofs.Ytpghfebnggoacaa

/-
  Nothing is lost: what the words of a tally are behind so many jobs of each hand, whatever the order.
-/
namespace Go.Proofs.Ytpghfebnggoacaa
open Go.RowKit
set_option linter.unusedVariables false
set_option linter.unusedSimpArgs false
namespace Tally

def sumN (g : Nat → Int) : Nat → Int
  | 0 => 0
  | n + 1 => sumN g n + g n
theorem sumN_congr {g g' : Nat → Int} : ∀ n, (∀ i, i < n → g i = g' i) → sumN g n = sumN g' n
  | 0, _ => rfl
  | n + 1, h => by simp only [sumN]; rw [sumN_congr n (fun i hi => h i (by omega)), h n (by omega)]
theorem sumN_upd (g : Nat → Int) (h : Nat) (v : Int) : ∀ n, h < n → sumN (fun i => if i = h then v else g i) n = sumN g n - g h + v
  | 0, hh => absurd hh (Nat.not_lt_zero h)
  | n + 1, hh => by
    simp only [sumN]
    by_cases e : h = n
    · subst e
      rw [if_pos rfl, sumN_congr (g' := g) h (fun i hi => by rw [if_neg (by omega)])]
      omega
    · rw [sumN_upd g h v n (by omega), if_neg (fun he => e he.symm)]
      omega

/-- What a job adds to word i. -/
def addC (j : Jb) (i : Nat) : Int := if j.kind = 1 ∧ j.a = i then j.h else 0
/-- Does a job raise word i? -/
def isMost (room : Int) (j : Jb) (i : Nat) : Prop := j.kind = 3 ∧ room + j.a = i
def addD (P : Par) (d : Nat → Nat) (i : Nat) : Int := sumN (fun h => sumN (fun k => addC (P.jb h k) i) (d h)) P.nh

theorem addD_more (P : Par) (d : Nat → Nat) (i h : Nat) (hh : h < P.nh) : addD P (upd d h (d h + 1)) i = addD P d i + addC (P.jb h (d h)) i := by
  unfold addD
  have e : (fun h' => sumN (fun k => addC (P.jb h' k) i) (upd d h (d h + 1) h')) = fun h' => if h' = h then sumN (fun k => addC (P.jb h k) i) (d h) + addC (P.jb h (d h)) i else (fun h' => sumN (fun k => addC (P.jb h' k) i) (d h')) h' := by
    funext h'
    by_cases e : h' = h
    · subst e; rw [upd_same, if_pos rfl]; rfl
    · rw [upd_other _ _ e, if_neg e]
  rw [e, sumN_upd _ _ _ _ hh]
  omega

structure Mx (room : Int) (P : Par) (f0 : Nat → Int) (d : Nat → Nat) (i : Nat) (v : Int) : Prop where
  ge : f0 i ≤ v
  all : ∀ h, h < P.nh → ∀ k, k < d h → isMost room (P.jb h k) i → (P.jb h k).h ≤ v
  one : v = f0 i ∨ ∃ h k, h < P.nh ∧ k < d h ∧ isMost room (P.jb h k) i ∧ (P.jb h k).h = v

theorem Mx.eq {room : Int} {P : Par} {f0 : Nat → Int} {d : Nat → Nat} {i : Nat} {v v' : Int} (m : Mx room P f0 d i v) (m' : Mx room P f0 d i v') : v = v' := by
  have key : ∀ {v v'}, Mx room P f0 d i v → Mx room P f0 d i v' → v ≤ v' := fun {v v'} m m' => by
    rcases m.one with h | ⟨h, k, h1, h2, h3, h4⟩
    · rw [h]; exact m'.ge
    · rw [← h4]; exact m'.all h h1 k h2 h3
  exact Int.le_antisymm (key m m') (key m' m)

/-- The words behind the first d h jobs of each hand h. -/
def Summed (room : Int) (P : Par) (f0 : Nat → Int) (d : Nat → Nat) (F : Nat → Int) : Prop :=
  ∀ i, i < P.n → ((i : Int) < room → F i = (f0 i + addD P d i) % 18446744073709551616) ∧ (room ≤ (i : Int) → Mx room P f0 d i (F i))

theorem Summed.eq {room : Int} {P : Par} {f0 : Nat → Int} {d : Nat → Nat} {F F' : Nat → Int} (h : Summed room P f0 d F) (h' : Summed room P f0 d F') : ∀ i, i < P.n → F i = F' i := fun i hi => by
  rcases Int.lt_or_le (i : Int) room with l | l
  · rw [(h i hi).1 l, (h' i hi).1 l]
  · exact ((h i hi).2 l).eq ((h' i hi).2 l)

theorem summed_start (room : Int) (P : Par) (f0 : Nat → Int) (hf : ∀ i, i < P.n → 0 ≤ f0 i ∧ f0 i ≤ 18446744073709551615) : Summed room P f0 (fun _ => 0) f0 := fun i hi => by
  have hz : addD P (fun _ => 0) i = 0 := by
    unfold addD
    have : ∀ n, sumN (fun h => sumN (fun k => addC (P.jb h k) i) 0) n = 0 := fun n => by
      induction n with
      | zero => rfl
      | succ n ih => simp only [sumN] at ih ⊢; rw [ih]; rfl
    exact this P.nh
  refine ⟨fun _ => ?_, fun _ => ⟨Int.le_refl _, fun h _ k hk => absurd hk (Nat.not_lt_zero k), .inl rfl⟩⟩
  rw [hz]
  have := hf i hi
  omega

/-- One job more. -/
theorem Summed.more {room : Int} {P : Par} {f0 : Nat → Int} {d : Nat → Nat} {F F' : Nat → Int} {h : Nat} (S : Summed room P f0 d F) (hh : h < P.nh)
    (hadd : ∀ i, i < P.n → (i : Int) < room → F' i = (F i + addC (P.jb h (d h)) i) % 18446744073709551616)
    (hmax : ∀ i, i < P.n → room ≤ (i : Int) → (isMost room (P.jb h (d h)) i → (F' i = F i ∧ (P.jb h (d h)).h ≤ F i) ∨ (F' i = (P.jb h (d h)).h ∧ F i ≤ F' i)) ∧ (¬ isMost room (P.jb h (d h)) i → F' i = F i)) :
    Summed room P f0 (upd d h (d h + 1)) F' := fun i hi => by
  refine ⟨fun hl => ?_, fun hl => ?_⟩
  · rw [hadd i hi hl, (S i hi).1 hl, addD_more P d i h hh]
    omega
  · obtain ⟨m1, m2, m3⟩ := (S i hi).2 hl
    obtain ⟨q1, q2⟩ := hmax i hi hl
    have up : ∀ {h' k'}, k' < upd d h (d h + 1) h' → k' < d h' ∨ (h' = h ∧ k' = d h) := fun {h' k'} hk => by
      by_cases e : h' = h
      · subst e; rw [upd_same] at hk
        rcases Nat.lt_succ_iff_lt_or_eq.1 hk with l | l
        · exact .inl l
        · exact .inr ⟨rfl, l⟩
      · rw [upd_other _ _ e] at hk; exact .inl hk
    have dn : ∀ {h' k'}, k' < d h' → k' < upd d h (d h + 1) h' := fun {h' k'} hk => by
      by_cases e : h' = h
      · subst e; rw [upd_same]; omega
      · rw [upd_other _ _ e]; exact hk
    by_cases hm : isMost room (P.jb h (d h)) i
    · rcases q1 hm with ⟨e, hle⟩ | ⟨e, hle⟩
      · rw [e]
        refine ⟨m1, fun h' hh' k' hk' hm' => ?_, ?_⟩
        · rcases up hk' with l | ⟨rfl, rfl⟩
          · exact m2 h' hh' k' l hm'
          · exact hle
        · rcases m3 with e3 | ⟨h', k', a1, a2, a3, a4⟩
          · exact .inl e3
          · exact .inr ⟨h', k', a1, dn a2, a3, a4⟩
      · refine ⟨Int.le_trans m1 hle, fun h' hh' k' hk' hm' => ?_, .inr ⟨h, d h, hh, by rw [upd_same]; omega, hm, e.symm⟩⟩
        rcases up hk' with l | ⟨rfl, rfl⟩
        · exact Int.le_trans (m2 h' hh' k' l hm') hle
        · rw [e]; exact Int.le_refl _
    · rw [q2 hm]
      refine ⟨m1, fun h' hh' k' hk' hm' => ?_, ?_⟩
      · rcases up hk' with l | ⟨rfl, rfl⟩
        · exact m2 h' hh' k' l hm'
        · exact absurd hm' hm
      · rcases m3 with e3 | ⟨h', k', a1, a2, a3, a4⟩
        · exact .inl e3
        · exact .inr ⟨h', k', a1, dn a2, a3, a4⟩

theorem Summed.congr {room : Int} {P : Par} {f0 : Nat → Int} {d d' : Nat → Nat} {F : Nat → Int} (S : Summed room P f0 d F) (h : ∀ i, i < P.nh → d' i = d i) : Summed room P f0 d' F := fun i hi => by
  have e : addD P d' i = addD P d i := by
    unfold addD
    exact sumN_congr _ (fun h' hh' => by rw [h h' hh'])
  refine ⟨fun hl => by rw [e]; exact (S i hi).1 hl, fun hl => ?_⟩
  obtain ⟨m1, m2, m3⟩ := (S i hi).2 hl
  refine ⟨m1, fun h' hh' k hk => m2 h' hh' k (by rw [← h h' hh']; exact hk), ?_⟩
  rcases m3 with e3 | ⟨h', k', a1, a2, a3, a4⟩
  · exact .inl e3
  · exact .inr ⟨h', k', a1, by rw [h h' a1]; exact a2, a3, a4⟩

theorem words_load (n : Nat) (f : Nat → Int) (hand at_ : Int) : wordsOf n f ⟨hand, 1, at_, 0, 0, true⟩ = f := by
  funext i
  unfold wordsOf
  split
  · rename_i hc
    have : (stepOf n f ⟨hand, 1, at_, 0, 0, true⟩).put = f at_.toNat := by
      simp only at hc
      simp [stepOf, hc, putBy, actOf]
    rw [this]
    unfold putF
    split
    · rename_i e; rw [e]
    · rfl
  · rfl

/-- Along a run. -/
structure NInv (room : Int) (P : Par) (f0 : Nat → Int) (st : St (kTally room)) : Prop where
  sum : Summed room P f0 st.done st.f
  wrd : ∀ i, i < P.n → 0 ≤ st.f i ∧ st.f i ≤ 18446744073709551615
  job : ∀ h, h < P.nh → st.done h < P.jn h → (st.cur h).j = P.jb h (st.done h)
  low : ∀ h, h < P.nh → st.done h < P.jn h → (st.cur h).j.kind = 3 → ¬ (st.cur h).st = 0 → (st.cur h).sn < (st.cur h).j.h

theorem ninv_start {room : Int} {P : Par} {f0 : Nat → Int} (hf : ∀ i, i < P.n → 0 ≤ f0 i ∧ f0 i ≤ 18446744073709551615) : NInv room P f0 (st0 (kTally room) P f0) :=
  ⟨summed_start room P f0 hf, hf, fun h hh hd => rfl, fun h hh hd _ h0 => absurd rfl h0⟩

set_option maxHeartbeats 2000000 in
theorem NInv.step {room : Int} {P : Par} {f0 : Nat → Int} {st : St (kTally room)} (I : NInv room P f0 st) (hr : 1 ≤ room ∧ room ≤ 64) (hn : (P.n : Int) = 2 * room) (hok : AllOk (kTally room) P) (hjw : ∀ h, h < P.nh → ∀ j, j < P.jn h → (P.jb h j).wf)
    {h : Nat} (hh : h < P.nh) (hd : st.done h < P.jn h) : NInv room P f0 (stepSt P st h) := by
  obtain ⟨s, hs⟩ : ∃ s : TaS, st.cur h = s := ⟨_, rfl⟩
  obtain ⟨x, hx⟩ : ∃ x, stepOf P.n st.f (treq room s) = x := ⟨_, rfl⟩
  obtain ⟨f', hf'⟩ : ∃ f', wordsOf P.n st.f (treq room s) = f' := ⟨_, rfl⟩
  have ej := I.job h hh hd
  rw [hs] at ej
  have fine := hok h hh _ hd
  have wf := hjw h hh _ hd
  rw [← ej] at fine wf
  have ef : (stepSt P st h).f = f' := by show wordsOf P.n st.f (treq room (st.cur h)) = f'; rw [hs]; exact hf'
  have e0 : (kTally room).ends (st.cur h) (stepOf P.n st.f ((kTally room).req (st.cur h))) = tends room s x := by
    show tends room (st.cur h) (stepOf P.n st.f (treq room (st.cur h))) = _
    rw [hs, hx]
  have en : (kTally room).next (st.cur h) (stepOf P.n st.f ((kTally room).req (st.cur h))) = tnext room s x := by
    show tnext room (st.cur h) (stepOf P.n st.f (treq room (st.cur h))) = _
    rw [hs, hx]
  have eT : tends room s x = true → (stepSt P st h).done = upd st.done h (st.done h + 1) ∧ (stepSt P st h).cur = upd st.cur h ((kTally room).init h (P.jb h (st.done h + 1))) := fun hb => by
    rw [hb] at e0
    constructor
    · show (if (kTally room).ends (st.cur h) (stepOf P.n st.f ((kTally room).req (st.cur h))) = true then _ else _) = _
      rw [if_pos e0]
    · show upd st.cur h (if (kTally room).ends (st.cur h) (stepOf P.n st.f ((kTally room).req (st.cur h))) = true then _ else _) = _
      rw [if_pos e0]
  have eF : tends room s x = false → (stepSt P st h).done = st.done ∧ (stepSt P st h).cur = upd st.cur h ((kTally room).next (st.cur h) (stepOf P.n st.f ((kTally room).req (st.cur h)))) := fun hb => by
    rw [hb] at e0
    constructor
    · show (if (kTally room).ends (st.cur h) (stepOf P.n st.f ((kTally room).req (st.cur h))) = true then _ else _) = _
      rw [if_neg (by rw [e0]; decide)]
    · show upd st.cur h (if (kTally room).ends (st.cur h) (stepOf P.n st.f ((kTally room).req (st.cur h))) = true then _ else _) = _
      rw [if_neg (by rw [e0]; decide)]
  have wrd' : ∀ i, i < P.n → 0 ≤ f' i ∧ f' i ≤ 18446744073709551615 → 0 ≤ (stepSt P st h).f i ∧ (stepSt P st h).f i ≤ 18446744073709551615 := fun i hi hb => by rw [ef]; exact hb
  -- an ended step
  have ended : tends room s x = true → Summed room P f0 (upd st.done h (st.done h + 1)) f' → (∀ i, i < P.n → 0 ≤ f' i ∧ f' i ≤ 18446744073709551615) → NInv room P f0 (stepSt P st h) := by
    intro he hS hw
    obtain ⟨e1, e2⟩ := eT he
    refine ⟨by rw [e1, ef]; exact hS, by rw [ef]; exact hw, fun i hi hdi => ?_, fun i hi hdi hk h0 => ?_⟩
    · rw [e1] at hdi ⊢
      rw [e2]
      by_cases e : i = h
      · subst e; rw [upd_same, upd_same]; rfl
      · rw [upd_other _ _ e] at hdi ⊢; rw [upd_other _ _ e]; exact I.job i hi hdi
    · rw [e1] at hdi
      rw [e2] at hk h0 ⊢
      by_cases e : i = h
      · subst e; rw [upd_same] at h0; exact absurd rfl h0
      · rw [upd_other _ _ e] at hdi hk h0 ⊢; exact I.low i hi hdi hk h0
  -- a step behind which it goes on
  have goes : tends room s x = false → f' = st.f → ((tnext room s x).j.kind = 3 → ¬ (tnext room s x).st = 0 → (tnext room s x).sn < (tnext room s x).j.h) → NInv room P f0 (stepSt P st h) := by
    intro he hF hlow
    obtain ⟨e1, e2⟩ := eF he
    obtain ⟨nx, hnx⟩ : ∃ nx : (kTally room).σ, (kTally room).next (st.cur h) (stepOf P.n st.f ((kTally room).req (st.cur h))) = nx := ⟨_, rfl⟩
    rw [hnx] at e2
    have nj : TaS.j nx = s.j := by have : tnext room s x = nx := en.symm.trans hnx; rw [← this]; exact tnext_j room s x
    have nl : (TaS.j nx).kind = 3 → ¬ TaS.st nx = 0 → TaS.sn nx < (TaS.j nx).h := by have : tnext room s x = nx := en.symm.trans hnx; rw [← this]; exact hlow
    clear hnx
    refine ⟨by rw [e1, ef, hF]; exact I.sum, by rw [ef, hF]; exact I.wrd, fun i hi hdi => ?_, fun i hi hdi hk h0 => ?_⟩
    · rw [e1] at hdi ⊢
      rw [e2]
      by_cases e : i = h
      · subst e; rw [upd_same]; exact nj.trans ej
      · rw [upd_other _ _ e]; exact I.job i hi hdi
    · rw [e1] at hdi
      rw [e2] at hk h0 ⊢
      by_cases e : i = h
      · subst e; rw [upd_same] at hk h0 ⊢; exact nl hk h0
      · rw [upd_other _ _ e] at hk h0 ⊢; exact I.low i hi hdi hk h0
  have jbe : P.jb h (st.done h) = s.j := ej.symm
  have cases := fine_cases (room := room) ⟨wf, fine⟩
  have hwj : 0 ≤ s.j.h ∧ s.j.h ≤ 18446744073709551615 := wf
  rcases cases with ⟨hk, ha, ha2⟩ | hk | ⟨hk, ha, ha2⟩
  · -- Count
    have e4 : treq room s = ⟨s.hand, 4, s.j.a, 0, s.j.h, true⟩ := by simp [treq, hk]
    have e5 : tends room s x = true := by simp [tends, hk]
    have hin : 0 ≤ s.j.a ∧ s.j.a < (P.n : Int) := by omega
    have hfe : f' = putF st.f s.j.a.toNat ((st.f s.j.a.toNat + s.j.h) % 18446744073709551616) := by
      rw [← hf', e4]; simp [wordsOf, stepOf, hin, putBy, actOf]
    refine ended e5 (I.sum.more hh (fun i hi hl => ?_) (fun i hi hl => ⟨fun hm => ?_, fun hm => ?_⟩)) (fun i hi => ?_)
    · rw [jbe, hfe]
      unfold putF addC
      by_cases e : i = s.j.a.toNat
      · subst e
        rw [if_pos rfl, if_pos ⟨hk, by omega⟩]
      · rw [if_neg e, if_neg (by omega), Int.add_zero]
        have := I.wrd i hi; omega
    · rw [jbe] at hm; have := hm.1; omega
    · rw [hfe]; unfold putF; rw [if_neg (by omega)]
    · rw [hfe]; unfold putF; split
      · omega
      · exact I.wrd i hi
  · -- Sum
    have e4 : treq room s = ⟨s.hand, 1, s.st, 0, 0, true⟩ := by simp [treq, hk]
    have hfe : f' = st.f := by
      rw [← hf', e4]; exact words_load _ _ _ _
    by_cases hlt : wrap64 (s.st + 1) < room
    · refine goes (by simp [tends, hk, hlt]) hfe (fun h3 _ => ?_)
      rw [tnext_j] at h3; omega
    · refine ended (by simp [tends, hk]; omega) ?_ (by rw [hfe]; exact I.wrd)
      rw [hfe]
      refine I.sum.more hh (fun i hi hl => ?_) (fun i hi hl => ⟨fun hm => ?_, fun _ => rfl⟩)
      · rw [jbe]; unfold addC; rw [if_neg (by omega), Int.add_zero]
        have := I.wrd i hi; omega
      · rw [jbe] at hm; have := hm.1; omega
  · -- Most
    have k1 : ¬ s.j.kind = 1 := by omega
    have k2 : ¬ s.j.kind = 2 := by omega
    have hin : 0 ≤ room + s.j.a ∧ room + s.j.a < (P.n : Int) := by omega
    have sumSame : Summed room P f0 st.done st.f := I.sum
    by_cases h0 : s.st = 0
    · have e4 : treq room s = ⟨s.hand, 1, room + s.j.a, 0, 0, true⟩ := by simp [treq, k1, k2, h0]
      have hxe : x.had = st.f (room + s.j.a).toNat := by rw [← hx, e4]; simp [stepOf, hin]
      have hfe : f' = st.f := by
        rw [← hf', e4]; exact words_load _ _ _ _
      by_cases hge : s.j.h ≤ x.had
      · refine ended (by simp [tends, k1, k2, h0, hge]) ?_ (by rw [hfe]; exact I.wrd)
        rw [hfe]
        refine I.sum.more hh (fun i hi hl => ?_) (fun i hi hl => ⟨fun hm => .inl ⟨rfl, ?_⟩, fun _ => rfl⟩)
        · rw [jbe]; unfold addC; rw [if_neg (by omega), Int.add_zero]
          have := I.wrd i hi; omega
        · rw [jbe] at hm ⊢
          have e : i = (room + s.j.a).toNat := by have := hm.2; omega
          rw [e, ← hxe]; exact hge
      · refine goes (by simp [tends, k1, k2, h0]; omega) hfe (fun _ _ => ?_)
        simp only [tnext, k1, k2, h0, hge, if_false, if_true]
        omega
    · have e4 : treq room s = ⟨s.hand, 5, room + s.j.a, s.sn, s.j.h, true⟩ := by simp [treq, k1, k2, h0]
      have low := I.low h hh hd
      rw [hs] at low
      have hlow := low hk h0
      by_cases heq : st.f (room + s.j.a).toNat = s.sn
      · have hxo : x.ok = true := by rw [← hx, e4]; simp [stepOf, hin, actOf, heq]
        have hfe : f' = putF st.f (room + s.j.a).toNat s.j.h := by
          rw [← hf', e4]; simp [wordsOf, stepOf, hin, putBy, actOf, heq]
        refine ended (by simp [tends, k1, k2, h0, hxo]) (I.sum.more hh (fun i hi hl => ?_) (fun i hi hl => ⟨fun hm => .inr ?_, fun hm => ?_⟩)) (fun i hi => ?_)
        · rw [jbe, hfe]; unfold addC putF; rw [if_neg (by omega), if_neg (by omega), Int.add_zero]
          have := I.wrd i hi; omega
        · rw [jbe] at hm ⊢
          have e : i = (room + s.j.a).toNat := by have := hm.2; omega
          rw [hfe]; unfold putF; rw [if_pos e]
          refine ⟨rfl, ?_⟩
          rw [e, heq]; omega
        · rw [jbe] at hm
          rw [hfe]; unfold putF
          rw [if_neg (fun e => hm ⟨hk, by omega⟩)]
        · rw [hfe]; unfold putF; split
          · exact hwj
          · exact I.wrd i hi
      · have hxo : x.ok = false := by rw [← hx, e4]; simp [stepOf, hin, actOf, heq]
        have hfe : f' = st.f := by
          rw [← hf', e4]
          funext i
          simp only [wordsOf, stepOf, hin, and_self, if_true]
          simp only [putF, putBy, actOf]
          split
          · rename_i e; subst e; simp [heq]
          · rfl
        refine goes (by simp [tends, k1, k2, h0, hxo]) hfe (fun _ h2 => ?_)
        simp [tnext, k1, k2, h0, hxo] at h2

theorem ninv_run {room : Int} {P : Par} {f0 : Nat → Int} (hf : ∀ i, i < P.n → 0 ≤ f0 i ∧ f0 i ≤ 18446744073709551615) (hr : 1 ≤ room ∧ room ≤ 64) (hn : (P.n : Int) = 2 * room) (hok : AllOk (kTally room) P) (hjw : ∀ h, h < P.nh → ∀ j, j < P.jn h → (P.jb h j).wf) : ∀ m, NInv room P f0 (runSt P (st0 (kTally room) P f0) m)
  | 0 => ninv_start hf
  | m + 1 => by
    have ih := ninv_run hf hr hn hok hjw m
    rcases turn_ok P (runSt P (st0 (kTally room) P f0) m) with ⟨ht, _⟩ | ⟨h, ht, hh, hd⟩
    · have := runSt_stuck (P := P) (st := st0 (kTally room) P f0) (m := m) (by rw [ht]; decide) 1
      rw [this]; exact ih
    · rw [runSt_step ht]
      exact ih.step hr hn hok hjw hh hd
end Tally
end Go.Proofs.Ytpghfebnggoacaa

/-
  summed: the statement's own words behind all jobs.
-/
namespace Go.Proofs.Ytpghfebnggoacaa
open Go.RowKit
set_option linter.unusedVariables false
set_option linter.unusedSimpArgs false
set_option linter.unnecessarySimpa false
set_option maxRecDepth 20000
namespace Tally

theorem fieldJ1 (w : World) (b : Nat) : (Instr.fieldAt 49 (.pointer (some ⟨b, 0, none⟩)) 1).run Try.prog w = .ok (.pointer (some ⟨b, 1, none⟩)) w := by simp [go_sem]
theorem fieldJ4 (w : World) (b : Nat) : (Instr.fieldAt 49 (.pointer (some ⟨b, 0, none⟩)) 4).run Try.prog w = .ok (.pointer (some ⟨b, 4, none⟩)) w := by simp [go_sem]
theorem agg_i (w : World) : (isAgg 3).run Try.prog w = .ok false w := by simp [go_sem]
theorem agg_u (w : World) : (isAgg 47).run Try.prog w = .ok false w := by simp [go_sem]
theorem sz47 : (Try.prog.info? 47).map (·.size) = some 1 := by kernel_rfl
theorem ex_addu {ev : Operand → Value} {o : Oper} {w : World} {x y : Operand} {a b : Int} (ho : o.op = .binOp .add 47 x y 47) (hx : ev x = .int .u64 a) (hy : ev y = .int .u64 b) : (execOp ev o).run Try.prog w = .ok (.value (.int .u64 ((a + b) % 18446744073709551616))) w := by
  have := wrap_u64 (a + b)
  simp [execOp, ho, hx, hy, go_sem, this]
theorem ex_addi {ev : Operand → Value} {o : Oper} {w : World} {x y : Operand} {a b c : Int} (ho : o.op = .binOp .add 3 x y 3) (hx : ev x = .int .i64 a) (hy : ev y = .int .i64 b) (hc : IntKind.i64.wrap (a + b) = c) : (execOp ev o).run Try.prog w = .ok (.value (.int .i64 c)) w := by
  simp [execOp, ho, hx, hy, go_sem, hc]
theorem ex_max {ev : Operand → Value} {o : Oper} {w : World} {x y : Operand} {a b : Int} (ho : o.op = .call { callee := .builtin .max, args := #[x, y], argTypes := #[47, 47] }) (hx : ev x = .int .u64 a) (hy : ev y = .int .u64 b) : (execOp ev o).run Try.prog w = .ok (.value (.int .u64 (if a < b then b else a))) w := by
  simp [execOp, ho, hx, hy, go_sem]
theorem wp_store1 {a : Act} {o : Oper} {w : World} {K : Act → World → Prop} {Q : Exit → Act → World → Prop} {x y : Operand} {g q : Nat} {v : Int} {u : Value} (ho : o.op = .store 47 x y) (hx : a.eval x = .pointer (some ⟨g, 0 + q * 1, none⟩)) (hy : a.eval y = .int .u64 v) (hc : w.cell? ⟨g, 0 + q * 1, none⟩ = some u) (hf : w.frozen? ⟨g, q, none⟩ = false)
    (h : K (a.put o.dst undef) (w.setCell ⟨g, q, none⟩ (.int .u64 v))) : o.wp Try.prog a w K Q := by
  have e : 0 + q * 1 = q := by omega
  rw [e] at hx hc
  simp only [Oper.wp, execOp, ho, hx, hy]
  simp [go_sem, hc, hf, Oper.upon]
  exact h
theorem notS {L : Nat → Bool} {iS iR : Nat} (hb : L iS = true → L iR = true) (hL : L iR = false) : L iS = false := by
  cases h : L iS with
  | false => rfl
  | true => rw [hb h] at hL; cases hL

variable {w : World} {ao aoh : Option Addr} {cap caph : Nat} {P : Par} {f : Nat → Int} {room : Int}

set_option maxHeartbeats 8000000 in
theorem summed_any (S : Sees w w.heap.size ao P.n f) (hnil : ao = none → P.n = 0 ∧ cap = 0) (hf : ∀ i, i < P.n → 0 ≤ f i ∧ f i ≤ 18446744073709551615) (SH : SeesH w w.heap.size aoh P.nh P.jn P.jb) (hr : 1 ≤ room ∧ room ≤ 64) (hn : (P.n : Int) = 2 * room) (hl : ¬ LongHands P.nh P.jn) (hok : AllOk (kTally room) P) (hjw : ∀ h, h < P.nh → ∀ j, j < P.jn h → (P.jb h j).wf) :
    Calls Try.prog 39 #[.slice ao P.n cap, .int .i64 room, .slice aoh P.nh caph] w fun e w' => ∃ g c F, e = .returned (.slice (some ⟨g, 0, none⟩) P.n c) ∧ IsRow w' g P.n c F ∧ Summed room P f P.jn F ∧ Below w.heap.size w w' := by
  have hnh : P.nh ≤ 8 := by rcases Nat.lt_or_ge 8 P.nh with l | l; exact absurd (.inl l) hl; exact l
  have hjn : ∀ i, i < P.nh → P.jn i ≤ 256 := fun i hi => by rcases Nat.lt_or_ge 256 (P.jn i) with l | l; exact absurd (.inr ⟨i, hi, l⟩) hl; exact l
  have hnm : P.n ≤ 128 := by omega
  have HS := hide S
  have HN := hide hnil
  have HF := hide hf
  have HSH := hide SH
  have HOK := hide hok
  have HJW := hide hjw
  have HJN := hide hjn
  clear S hnil hf SH hok hjw hjn hl
  obtain ⟨i46, hi46, hz46, hs46, hy46⟩ := info46e
  go_enter Try.func39, Try.ntmps39
  go_wp2_with (at_builtin; refine wpList_append_opt rfl (.tmp 11) (.tmp 12) 24 rfl w.heap.size 47 i46 (.int .u64 0) 1 8 Try.underlying24 hi46 hz46 hs46 hy46 rfl (by decide) (.slice (some ⟨w.heap.size, 0, none⟩) 0 0) 0 [] rfl (by have := World.ownsRow_lit (base := w.heap.size) (e := 47) (size := 1) w #[] 0 (by simp) (by unfold maxLen; omega) rfl; simpa using this) ao P.n cap (wordCells P.n f) rfl HN.out (by simp [wordCells]) (Sees.news (HS.out.alloc _)) (wordCells_one P.n f) (by unfold maxLen; omega) (by omega) (by simp) ?_; intro v4 w4 hown4 hgrow4 hnn; rw [Nat.zero_add, List.nil_append] at hown4; obtain ⟨g, c, rfl, rown, hgn⟩ := owned_row hown4 (fun he => by have := hnn he; cases this) HF.out; have B4 := hide (show Below w.heap.size w w4 from ((Below.refl _ w).alloc (Nat.le_refl _) (.cells #[] 47)).grown hgrow4 (by simp) (by simp [Value.ownBlock])); have R4 := hide rown; have s4 := B4.out.size; clear hown4 hgrow4 hnn rown)
  go_loopw [8] (fun i wr => ∃ H F, H ≤ P.nh ∧ i = .int .i64 (H : Nat) ∧ IsRow wr g P.n c F ∧ Summed room P f (mUp P.jn H 0) F ∧ Below w.heap.size w wr) (fun i _ => P.nh - (intOf i).toNat)
  case atStart => exact ⟨0, f, Nat.zero_le _, rfl, R4.out, (summed_start room P f HF.out).congr (fun i hi => by unfold mUp; rw [if_neg (by omega)]; split <;> rfl), B4.out⟩
  case round =>
    obtain ⟨H, F0, hH, rfl, R0, S0, B0⟩ := hrel
    have HR0 := hide R0
    have HS0 := hide S0
    have HB0 := hide B0
    by_cases hlt : H < P.nh
    · have hHn : (H : Int) < (P.nh : Int) := by omega
      obtain ⟨b, off, ao', cap', rfl, hbl, hcc, hjj⟩ := (HSH.out.below B0 (Nat.le_refl _)) H hlt
      have hjk := HJN.out H hlt
      have lb0 : b < wr.heap.size := World.block_lt_of_cell? _ _ hcc
      obtain ⟨w0, hw0⟩ : ∃ w0, w0 = wr := ⟨_, rfl⟩
      clear R0 S0
      go_wp2_with fail
      go_loopw [9] (fun i wr => ∃ k F, k ≤ P.jn H ∧ i = .int .i64 (k : Nat) ∧ IsRow wr g P.n c F ∧ Summed room P f (mUp P.jn H k) F ∧ Below w.heap.size w wr) (fun i _ => P.jn H - (intOf i).toNat)
      case atStart => exact ⟨0, F0, Nat.zero_le _, rfl, HR0.out, HS0.out, HB0.out⟩
      case round =>
        clear hcc lb0
        obtain ⟨k, F, hk, rfl, R1, S1, B1⟩ := hrel
        obtain ⟨b1, off1, ao1, cap1, he1, hbl1, hcc, hjj1⟩ := (HSH.out.below B1 (Nat.le_refl _)) H hlt
        cases he1
        have lb0 : b < wr.heap.size := World.block_lt_of_cell? _ _ hcc
        have HR1 := hide R1
        have HS1 := hide S1
        have HB1 := hide B1
        have sz1 := B1.size
        have lg := R1.lt
        by_cases hlk : k < P.jn H
        · have hkn : (k : Int) < (P.jn H : Int) := by omega
          obtain ⟨bj, offj, rfl, hblj, hcj⟩ := hjj1 k hlk
          have fine := HOK.out H hlt k hlk
          have jwf := HJW.out H hlt k hlk
          obtain ⟨jb, hjb⟩ : ∃ jb, P.jb H k = jb := ⟨_, rfl⟩
          rw [hjb] at hcj fine jwf
          have MORE := hide (fun (F' : Nat → Int) h1 h2 => (show Summed room P f (mUp P.jn H (k + 1)) F' from (S1.more (h := H) (F' := F') hlt h1 h2).congr (fun i hi => by
            by_cases e : i = H
            · subst e; rw [upd_same, mUp_self, mUp_self]
            · rw [upd_other _ _ e, mUp_succ _ _ _ _ e])))
          rw [mUp_self, hjb] at MORE
          obtain ⟨jk, ja, jbb, jc, jh⟩ := jb
          have p0 := hcj 0 (by omega)
          have p1 := hcj 1 (by omega)
          have p2 := hcj 2 (by omega)
          have p3 := hcj 3 (by omega)
          have p4 := hcj 4 (by omega)
          simp only [Jb.cell, Nat.add_zero] at p0 p1 p2 p3 p4
          have lbj : bj < wr.heap.size := World.block_lt_of_cell? _ _ p0
          have hwj : 0 ≤ jh ∧ jh ≤ 18446744073709551615 := jwf
          have cases := fine_cases (room := room) ⟨jwf, fine⟩
          simp only at cases
          obtain ⟨W, hW⟩ : ∃ W, wr.alloc (.cells #[.int .i64 jk, .int .i64 ja, .int .i64 jbb, .int .i64 jc, .int .u64 jh] 49) = W := ⟨_, rfl⟩
          have RJ : W.rowIs wr.heap.size 49 5 (lrow [.int .i64 jk, .int .i64 ja, .int .i64 jbb, .int .i64 jc, .int .u64 jh]) := by rw [← hW]; exact rowL_alloc wr [.int .i64 jk, .int .i64 ja, .int .i64 jbb, .int .i64 jc, .int .u64 jh] _ rfl
          have RW : IsRow W g P.n c F := by rw [← hW]; exact R1.alloc _
          have BW : Below w.heap.size w W := by rw [← hW]; exact B1.alloc sz1 _
          have szW : W.heap.size = wr.heap.size + 1 := by rw [← hW]; simp
          have j0 : W.cell? ⟨wr.heap.size, 0, none⟩ = some (.int .i64 jk) := RJ.cell (i := 0) (by omega)
          have j1 : W.cell? ⟨wr.heap.size, 1, none⟩ = some (.int .i64 ja) := RJ.cell (i := 1) (by omega)
          have j4 : W.cell? ⟨wr.heap.size, 4, none⟩ = some (.int .u64 jh) := RJ.cell (i := 4) (by omega)
          have HRW := hide RW
          have HBW := hide BW
          have HRJ := hide RJ
          have bound := hide R1.2.2.2
          clear R1 S1 B1 RJ RW BW hcj hjj1 hjj fine jwf
          rcases cases with ⟨rfl, ha, ha2⟩ | rfl | ⟨rfl, ha, ha2⟩
          · obtain ⟨q, rfl⟩ : ∃ q : Nat, ja = q := ⟨ja.toNat, by omega⟩
            have hqn : q < P.n := by omega
            have cq : W.cell? ⟨g, 0 + q * 1, none⟩ = some (.int .u64 (F q)) := by
              have := HRW.out.cell hqn
              simpa using this
            have fq : W.frozen? ⟨g, q, none⟩ = false := HRW.out.frozen q
            have KEEPJ : Hid (∀ (i : Nat) (u : Value), W.cell? ⟨wr.heap.size, i, none⟩ = some u → (({ W with drawn := W.drawn + 1 } : World).setCell ⟨g, q, none⟩ (.int .u64 ((F q + jh) % 18446744073709551616))).cell? ⟨wr.heap.size, i, none⟩ = some u) := fun i u hu => by
              have tt := Touch.setCell (S := fun k => k = g) (Touch.refl ({ W with drawn := W.drawn + 1 } : World) _) ⟨g, q, none⟩ (.inl rfl) (.int .u64 ((F q + jh) % 18446744073709551616))
              exact (World.cell?_of_block (a := ⟨wr.heap.size, i, none⟩) (tt.block wr.heap.size (by show wr.heap.size < W.heap.size; omega) (by omega))).trans hu
            have RELP : IsRow (({ W with drawn := W.drawn + 1 } : World).setCell ⟨g, q, none⟩ (.int .u64 ((F q + jh) % 18446744073709551616))) g P.n c (putF F q ((F q + jh) % 18446744073709551616)) ∧ Below w.heap.size w (({ W with drawn := W.drawn + 1 } : World).setCell ⟨g, q, none⟩ (.int .u64 ((F q + jh) % 18446744073709551616))) ∧ (({ W with drawn := W.drawn + 1 } : World).setCell ⟨g, q, none⟩ (.int .u64 ((F q + jh) % 18446744073709551616))).cell? ⟨wr.heap.size, 0, none⟩ = some (.int .i64 1) := by
              refine ⟨(show IsRow ({ W with drawn := W.drawn + 1 } : World) g P.n c F from HRW.out).set q _ (by omega), (show Below w.heap.size w ({ W with drawn := W.drawn + 1 } : World) from ⟨HBW.out.os, HBW.out.tape, HBW.out.output, HBW.out.size, HBW.out.block⟩).setCell (by show w.heap.size ≤ g; omega) _, ?_⟩
              exact (KEEPJ.out 0 _ j0)
            go_wp2_with fail
            go_cut [] from 20 to 66 (fun wx => IsRow wx g P.n c (putF F q ((F q + jh) % 18446744073709551616)) ∧ Below w.heap.size w wx ∧ wx.cell? ⟨wr.heap.size, 0, none⟩ = some (.int .i64 1))
            case first =>
              rename_i K1 J1 hJ1 hK1
              refine RetS.region (w1 := ({ W with drawn := W.drawn + 1 } : World).setCell ⟨g, q, none⟩ (.int .u64 ((F q + jh) % 18446744073709551616))) (ks := [(0, 39), (1, 40), (2, 41), (3, 42), (4, 43), (5, 44), (6, 45), (7, 46), (8, 47)]) (vals := fun i => match i with
                  | 0 => .slice (some ⟨g, 0, none⟩) P.n c
                  | 1 => .pointer (some ⟨wr.heap.size, 1, none⟩)
                  | 2 => .int .i64 (q : Int)
                  | 3 => .pointer (some ⟨g, 0 + q * 1, none⟩)
                  | 4 => .int .u64 (F q)
                  | 5 => .pointer (some ⟨wr.heap.size, 4, none⟩)
                  | 6 => .int .u64 jh
                  | 7 => .int .u64 ((F q + jh) % 18446744073709551616)
                  | _ => .pointer (some ⟨g, 0 + q * 1, none⟩)) (iR := 4) (iM := 7) (iS := 9) (by kernel_rfl) ?gg ?bk rfl (by decide) (by decide) (by decide) ?dd ?hM ?kinds ?fin (by decide)
              case gg =>
                intro i o ho
                have hi : i < 10 := by have := (Array.getElem?_eq_some_iff.1 ho).1; simpa using this
                match i, hi with
                | 0, _ | 1, _ | 2, _ | 3, _ | 4, _ | 5, _ | 6, _ | 7, _ | 8, _ | 9, _ => injection ho with ho; subst ho; rfl
              case bk =>
                intro i o ho
                have hi : i < 10 := by have := (Array.getElem?_eq_some_iff.1 ho).1; simpa using this
                match i, hi with
                | 0, _ | 1, _ | 2, _ | 3, _ | 4, _ | 5, _ | 6, _ | 7, _ | 8, _ | 9, _ => injection ho with ho; subst ho; simp [Region.binds]
              case dd =>
                intro k hk
                have hk' : k < 68 := by
                  simp [RetN.D] at hk
                  omega
                simpa using hk'
              case hM =>
                intro o ho L hd
                injection ho with ho; subst ho
                exact hd ⟨4, .data⟩ (by simp) rfl
              case kinds =>
                have WJ : Hid (∀ w' : World, w' = ({ W with drawn := W.drawn + 1 } : World) ∨ w' = (({ W with drawn := W.drawn + 1 } : World).setCell ⟨g, q, none⟩ (.int .u64 ((F q + jh) % 18446744073709551616))) → w'.cell? ⟨wr.heap.size, 1, none⟩ = some (.int .i64 (q : Int)) ∧ w'.cell? ⟨wr.heap.size, 4, none⟩ = some (.int .u64 jh)) := fun w' hw => by
                  rcases hw with rfl | rfl
                  · exact ⟨j1, j4⟩
                  · exact ⟨KEEPJ.out 1 _ j1, KEEPJ.out 4 _ j4⟩
                intro i o ho
                have hi : i < 10 := by have := (Array.getElem?_eq_some_iff.1 ho).1; simpa using this
                match i, hi with
                | 0, _ => injection ho with ho; subst ho; exact .inl ⟨39, _, rfl, rfl, fun L a w' hI hL hd => ex_move rfl (hI.fix 7 (Reg.notD rfl))⟩
                | 1, _ => injection ho with ho; subst ho; exact .inl ⟨40, _, rfl, rfl, fun L a w' hI hL hd => ex_field rfl (hI.fix 10 (Reg.notD rfl)) (fieldJ1 _ _)⟩
                | 2, _ => injection ho with ho; subst ho; exact .inl ⟨41, _, rfl, rfl, fun L a w' hI hL hd => ex_load rfl (hI.pure 1 _ _ rfl (hd ⟨1, .data⟩ (by simp) rfl)) (agg_i _) (WJ.out _ hI.world).1⟩
                | 3, _ => injection ho with ho; subst ho; exact .inl ⟨42, _, rfl, rfl, fun L a w' hI hL hd => ex_index rfl (hI.pure 0 _ _ rfl (hd ⟨0, .data⟩ (by simp) rfl)) (hI.pure 2 _ _ rfl (hd ⟨2, .data⟩ (by simp) rfl)) hqn Try.underlying24 sz47⟩
                | 4, _ => injection ho with ho; subst ho; exact .inl ⟨43, _, rfl, rfl, fun L a w' hI hL hd => ex_load rfl (hI.pure 3 _ _ rfl (hd ⟨3, .data⟩ (by simp) rfl)) (agg_u _) (by rw [hI.wb (notS hI.bef hL)]; exact cq)⟩
                | 5, _ => injection ho with ho; subst ho; exact .inl ⟨44, _, rfl, rfl, fun L a w' hI hL hd => ex_field rfl (hI.fix 10 (Reg.notD rfl)) (fieldJ4 _ _)⟩
                | 6, _ => injection ho with ho; subst ho; exact .inl ⟨45, _, rfl, rfl, fun L a w' hI hL hd => ex_load rfl (hI.pure 5 _ _ rfl (hd ⟨5, .data⟩ (by simp) rfl)) (agg_u _) (WJ.out _ hI.world).2⟩
                | 7, _ => injection ho with ho; subst ho; exact .inl ⟨46, _, rfl, rfl, fun L a w' hI hL hd => ex_addu rfl (hI.pure 4 _ _ rfl (hd ⟨4, .data⟩ (by simp) rfl)) (hI.pure 6 _ _ rfl (hd ⟨6, .data⟩ (by simp) rfl))⟩
                | 8, _ => injection ho with ho; subst ho; exact .inl ⟨47, _, rfl, rfl, fun L a w' hI hL hd => ex_index rfl (hI.pure 0 _ _ rfl (hd ⟨0, .data⟩ (by simp) rfl)) (hI.pure 2 _ _ rfl (hd ⟨2, .data⟩ (by simp) rfl)) hqn Try.underlying24 sz47⟩
                | 9, _ => injection ho with ho; subst ho; exact .inr ⟨rfl, fun L a w' K hI hd hw => ⟨hd ⟨7, .data⟩ (by simp) rfl, fun hk => by
                    have pe := (hI.pure 8 _ _ rfl (hd ⟨8, .data⟩ (by simp) rfl))
                    have pv := (hI.pure 7 _ _ rfl (hd ⟨7, .data⟩ (by simp) rfl))
                    clear hI
                    subst hw
                    exact wp_store1 rfl pe pv cq fq (hk _ rfl rfl)⟩⟩
              case fin =>
                intro L a' hI hall
                refine hK1 _ _ (Met.intro (hJ1 _ _ ?_))
                have ea := act_all a' 68 (by rw [hI.sz]; rfl) hI.df
                simp only [List.range, List.range.loop, List.map] at ea
                rw [hI.fix 0 (Reg.notD rfl), hI.fix 1 (Reg.notD rfl), hI.fix 2 (Reg.notD rfl), hI.fix 3 (Reg.notD rfl), hI.fix 4 (Reg.notD rfl), hI.fix 5 (Reg.notD rfl), hI.fix 6 (Reg.notD rfl), hI.fix 7 (Reg.notD rfl), hI.fix 8 (Reg.notD rfl), hI.fix 9 (Reg.notD rfl), hI.fix 10 (Reg.notD rfl), hI.fix 11 (Reg.notD rfl), hI.fix 12 (Reg.notD rfl), hI.fix 13 (Reg.notD rfl), hI.fix 14 (Reg.notD rfl), hI.fix 15 (Reg.notD rfl), hI.fix 16 (Reg.notD rfl), hI.fix 17 (Reg.notD rfl), hI.fix 18 (Reg.notD rfl), hI.fix 19 (Reg.notD rfl), hI.fix 67 (Reg.notD rfl)] at ea
                (repeat apply Exists.intro)
                refine ⟨?rel, ?eq⟩
                case eq => exact ea
                case rel => exact RELP
            case rest =>
              obtain ⟨Rx, Bx, jx⟩ := hcut
              have HRx := hide Rx
              have HBx := hide Bx
              have lx := World.block_lt_of_cell? _ _ jx
              simp only at lx
              clear Rx Bx j0 j1 j4 cq fq RELP hW
              go_wp2_with fail
              go_roundw
              case rel =>
                refine ⟨k + 1, putF F q ((F q + jh) % 18446744073709551616), by omega, by go_num, HRx.out, MORE.out _ (fun i hi hli => ?_) (fun i hi hli => ⟨fun hm => (by have := hm.1; simp only at this; omega), fun _ => ?_⟩), HBx.out⟩
                · unfold putF addC
                  by_cases e : i = q
                  · subst e; rw [if_pos rfl, if_pos ⟨rfl, rfl⟩]
                  · rw [if_neg e, if_neg (by simp; omega), Int.add_zero]
                    have := bound.out i hi; omega
                · unfold putF; rw [if_neg (by omega)]
              case measure => simp [intOf]; omega
          · go_wp2_with fail
            go_roundw
            case rel =>
              refine ⟨k + 1, F, by omega, by go_num, HRW.out, MORE.out _ (fun i hi hli => ?_) (fun i hi hli => ⟨fun hm => (by have := hm.1; simp only at this; omega), fun _ => rfl⟩), HBW.out⟩
              unfold addC
              rw [if_neg (by simp), Int.add_zero]
              have := bound.out i hi; omega
            case measure => simp [intOf]; omega
          · obtain ⟨q, hq⟩ : ∃ q : Nat, room + ja = q := ⟨(room + ja).toNat, by omega⟩
            have hqn : q < P.n := by omega
            have hq64 : IntKind.i64.wrap (room + ja) = (q : Int) := by rw [IntKind.wrap_i64]; omega
            have bq := bound.out q hqn
            have cq : W.cell? ⟨g, 0 + q * 1, none⟩ = some (.int .u64 (F q)) := by
              have := HRW.out.cell hqn
              simpa using this
            have fq : W.frozen? ⟨g, q, none⟩ = false := HRW.out.frozen q
            have KEEPJ : Hid (∀ (i : Nat) (u : Value), W.cell? ⟨wr.heap.size, i, none⟩ = some u → (({ W with drawn := W.drawn + 1 } : World).setCell ⟨g, q, none⟩ (.int .u64 (if F q < jh then jh else F q))).cell? ⟨wr.heap.size, i, none⟩ = some u) := fun i u hu => by
              have tt := Touch.setCell (S := fun k => k = g) (Touch.refl ({ W with drawn := W.drawn + 1 } : World) _) ⟨g, q, none⟩ (.inl rfl) (.int .u64 (if F q < jh then jh else F q))
              exact (World.cell?_of_block (a := ⟨wr.heap.size, i, none⟩) (tt.block wr.heap.size (by show wr.heap.size < W.heap.size; omega) (by omega))).trans hu
            have RELP : IsRow (({ W with drawn := W.drawn + 1 } : World).setCell ⟨g, q, none⟩ (.int .u64 (if F q < jh then jh else F q))) g P.n c (putF F q (if F q < jh then jh else F q)) ∧ Below w.heap.size w (({ W with drawn := W.drawn + 1 } : World).setCell ⟨g, q, none⟩ (.int .u64 (if F q < jh then jh else F q))) := by
              refine ⟨(show IsRow ({ W with drawn := W.drawn + 1 } : World) g P.n c F from HRW.out).set q _ (by split <;> omega), (show Below w.heap.size w ({ W with drawn := W.drawn + 1 } : World) from ⟨HBW.out.os, HBW.out.tape, HBW.out.output, HBW.out.size, HBW.out.block⟩).setCell (by show w.heap.size ≤ g; omega) _⟩
            have HQ := hide hq
            clear hq
            go_wp2_with fail
            refine RetS.region (w1 := ({ W with drawn := W.drawn + 1 } : World).setCell ⟨g, q, none⟩ (.int .u64 (if F q < jh then jh else F q))) (ks := [(0, 51), (1, 52), (2, 53), (3, 54), (4, 55), (5, 56), (6, 57), (7, 58), (8, 59), (9, 60), (10, 61), (11, 62), (12, 63), (13, 64), (14, 65), (15, 66)]) (vals := fun i => match i with
                | 0 => .slice (some ⟨g, 0, none⟩) P.n c
                | 1 => .int .i64 room
                | 2 => .pointer (some ⟨wr.heap.size, 1, none⟩)
                | 3 => .int .i64 ja
                | 4 => .int .i64 (q : Int)
                | 5 => .slice (some ⟨g, 0, none⟩) P.n c
                | 6 => .int .i64 room
                | 7 => .pointer (some ⟨wr.heap.size, 1, none⟩)
                | 8 => .int .i64 ja
                | 9 => .int .i64 (q : Int)
                | 10 => .pointer (some ⟨g, 0 + q * 1, none⟩)
                | 11 => .int .u64 (F q)
                | 12 => .pointer (some ⟨wr.heap.size, 4, none⟩)
                | 13 => .int .u64 jh
                | 14 => .int .u64 (if F q < jh then jh else F q)
                | _ => .pointer (some ⟨g, 0 + q * 1, none⟩)) (iR := 11) (iM := 14) (iS := 16) (by kernel_rfl) ?gg ?bk rfl (by decide) (by decide) (by decide) ?dd ?hM ?kinds ?fin (by decide)
            case gg =>
              intro i o ho
              have hi : i < 17 := by have := (Array.getElem?_eq_some_iff.1 ho).1; simpa using this
              match i, hi with
              | 0, _ | 1, _ | 2, _ | 3, _ | 4, _ | 5, _ | 6, _ | 7, _ | 8, _ | 9, _ | 10, _ | 11, _ | 12, _ | 13, _ | 14, _ | 15, _ | 16, _ => injection ho with ho; subst ho; rfl
            case bk =>
              intro i o ho
              have hi : i < 17 := by have := (Array.getElem?_eq_some_iff.1 ho).1; simpa using this
              match i, hi with
              | 0, _ | 1, _ | 2, _ | 3, _ | 4, _ | 5, _ | 6, _ | 7, _ | 8, _ | 9, _ | 10, _ | 11, _ | 12, _ | 13, _ | 14, _ | 15, _ | 16, _ => injection ho with ho; subst ho; simp [Region.binds]
            case dd =>
              intro k hk
              have hk' : k < 68 := by
                simp [RetN.D] at hk
                omega
              simpa using hk'
            case hM =>
              intro o ho L hd
              injection ho with ho; subst ho
              exact hd ⟨11, .data⟩ (by simp) rfl
            case kinds =>
              have WJ : Hid (∀ w' : World, w' = ({ W with drawn := W.drawn + 1 } : World) ∨ w' = (({ W with drawn := W.drawn + 1 } : World).setCell ⟨g, q, none⟩ (.int .u64 (if F q < jh then jh else F q))) → w'.cell? ⟨wr.heap.size, 1, none⟩ = some (.int .i64 ja) ∧ w'.cell? ⟨wr.heap.size, 4, none⟩ = some (.int .u64 jh)) := fun w' hw => by
                rcases hw with rfl | rfl
                · exact ⟨j1, j4⟩
                · exact ⟨KEEPJ.out 1 _ j1, KEEPJ.out 4 _ j4⟩
              intro i o ho
              have hi : i < 17 := by have := (Array.getElem?_eq_some_iff.1 ho).1; simpa using this
              match i, hi with
              | 0, _ => injection ho with ho; subst ho; exact .inl ⟨51, _, rfl, rfl, fun L a w' hI hL hd => ex_move rfl (hI.fix 7 (Reg.notD rfl))⟩
              | 1, _ => injection ho with ho; subst ho; exact .inl ⟨52, _, rfl, rfl, fun L a w' hI hL hd => ex_move rfl (hI.fix 1 (Reg.notD rfl))⟩
              | 2, _ => injection ho with ho; subst ho; exact .inl ⟨53, _, rfl, rfl, fun L a w' hI hL hd => ex_field rfl (hI.fix 10 (Reg.notD rfl)) (fieldJ1 _ _)⟩
              | 3, _ => injection ho with ho; subst ho; exact .inl ⟨54, _, rfl, rfl, fun L a w' hI hL hd => ex_load rfl (hI.pure 2 _ _ rfl (hd ⟨2, .data⟩ (by simp) rfl)) (agg_i _) (WJ.out _ hI.world).1⟩
              | 4, _ => injection ho with ho; subst ho; exact .inl ⟨55, _, rfl, rfl, fun L a w' hI hL hd => ex_addi rfl (hI.pure 1 _ _ rfl (hd ⟨1, .data⟩ (by simp) rfl)) (hI.pure 3 _ _ rfl (hd ⟨3, .data⟩ (by simp) rfl)) hq64⟩
              | 5, _ => injection ho with ho; subst ho; exact .inl ⟨56, _, rfl, rfl, fun L a w' hI hL hd => ex_move rfl (hI.fix 7 (Reg.notD rfl))⟩
              | 6, _ => injection ho with ho; subst ho; exact .inl ⟨57, _, rfl, rfl, fun L a w' hI hL hd => ex_move rfl (hI.fix 1 (Reg.notD rfl))⟩
              | 7, _ => injection ho with ho; subst ho; exact .inl ⟨58, _, rfl, rfl, fun L a w' hI hL hd => ex_field rfl (hI.fix 10 (Reg.notD rfl)) (fieldJ1 _ _)⟩
              | 8, _ => injection ho with ho; subst ho; exact .inl ⟨59, _, rfl, rfl, fun L a w' hI hL hd => ex_load rfl (hI.pure 7 _ _ rfl (hd ⟨7, .data⟩ (by simp) rfl)) (agg_i _) (WJ.out _ hI.world).1⟩
              | 9, _ => injection ho with ho; subst ho; exact .inl ⟨60, _, rfl, rfl, fun L a w' hI hL hd => ex_addi rfl (hI.pure 6 _ _ rfl (hd ⟨6, .data⟩ (by simp) rfl)) (hI.pure 8 _ _ rfl (hd ⟨8, .data⟩ (by simp) rfl)) hq64⟩
              | 10, _ => injection ho with ho; subst ho; exact .inl ⟨61, _, rfl, rfl, fun L a w' hI hL hd => ex_index rfl (hI.pure 5 _ _ rfl (hd ⟨5, .data⟩ (by simp) rfl)) (hI.pure 9 _ _ rfl (hd ⟨9, .data⟩ (by simp) rfl)) hqn Try.underlying24 sz47⟩
              | 11, _ => injection ho with ho; subst ho; exact .inl ⟨62, _, rfl, rfl, fun L a w' hI hL hd => ex_load rfl (hI.pure 10 _ _ rfl (hd ⟨10, .data⟩ (by simp) rfl)) (agg_u _) (by rw [hI.wb (notS hI.bef hL)]; exact cq)⟩
              | 12, _ => injection ho with ho; subst ho; exact .inl ⟨63, _, rfl, rfl, fun L a w' hI hL hd => ex_field rfl (hI.fix 10 (Reg.notD rfl)) (fieldJ4 _ _)⟩
              | 13, _ => injection ho with ho; subst ho; exact .inl ⟨64, _, rfl, rfl, fun L a w' hI hL hd => ex_load rfl (hI.pure 12 _ _ rfl (hd ⟨12, .data⟩ (by simp) rfl)) (agg_u _) (WJ.out _ hI.world).2⟩
              | 14, _ => injection ho with ho; subst ho; exact .inl ⟨65, _, rfl, rfl, fun L a w' hI hL hd => ex_max rfl (hI.pure 11 _ _ rfl (hd ⟨11, .data⟩ (by simp) rfl)) (hI.pure 13 _ _ rfl (hd ⟨13, .data⟩ (by simp) rfl))⟩
              | 15, _ => injection ho with ho; subst ho; exact .inl ⟨66, _, rfl, rfl, fun L a w' hI hL hd => ex_index rfl (hI.pure 0 _ _ rfl (hd ⟨0, .data⟩ (by simp) rfl)) (hI.pure 4 _ _ rfl (hd ⟨4, .data⟩ (by simp) rfl)) hqn Try.underlying24 sz47⟩
              | 16, _ => injection ho with ho; subst ho; exact .inr ⟨rfl, fun L a w' K hI hd hw => ⟨hd ⟨14, .data⟩ (by simp) rfl, fun hk => by
                  have pe := (hI.pure 15 _ _ rfl (hd ⟨15, .data⟩ (by simp) rfl))
                  have pv := (hI.pure 14 _ _ rfl (hd ⟨14, .data⟩ (by simp) rfl))
                  clear hI
                  subst hw
                  exact wp_store1 rfl pe pv cq fq (hk _ rfl rfl)⟩⟩
            case fin =>
              intro L a' hI hall
              have ea := act_all a' 68 (by rw [hI.sz]; rfl) hI.df
              simp only [List.range, List.range.loop, List.map] at ea
              rw [hI.fix 0 (Reg.notD rfl), hI.fix 1 (Reg.notD rfl), hI.fix 2 (Reg.notD rfl), hI.fix 3 (Reg.notD rfl), hI.fix 4 (Reg.notD rfl), hI.fix 5 (Reg.notD rfl), hI.fix 6 (Reg.notD rfl), hI.fix 7 (Reg.notD rfl), hI.fix 8 (Reg.notD rfl), hI.fix 9 (Reg.notD rfl), hI.fix 10 (Reg.notD rfl), hI.fix 11 (Reg.notD rfl), hI.fix 12 (Reg.notD rfl), hI.fix 13 (Reg.notD rfl), hI.fix 14 (Reg.notD rfl), hI.fix 15 (Reg.notD rfl), hI.fix 16 (Reg.notD rfl), hI.fix 17 (Reg.notD rfl), hI.fix 18 (Reg.notD rfl), hI.fix 19 (Reg.notD rfl), hI.fix 20 (Reg.notD rfl), hI.fix 21 (Reg.notD rfl), hI.fix 22 (Reg.notD rfl), hI.fix 23 (Reg.notD rfl), hI.fix 24 (Reg.notD rfl), hI.fix 25 (Reg.notD rfl), hI.fix 26 (Reg.notD rfl), hI.fix 27 (Reg.notD rfl), hI.fix 28 (Reg.notD rfl), hI.fix 29 (Reg.notD rfl), hI.fix 30 (Reg.notD rfl), hI.fix 31 (Reg.notD rfl), hI.fix 32 (Reg.notD rfl), hI.fix 33 (Reg.notD rfl), hI.fix 34 (Reg.notD rfl), hI.fix 35 (Reg.notD rfl), hI.fix 36 (Reg.notD rfl), hI.fix 37 (Reg.notD rfl), hI.fix 38 (Reg.notD rfl), hI.fix 39 (Reg.notD rfl), hI.fix 40 (Reg.notD rfl), hI.fix 41 (Reg.notD rfl), hI.fix 42 (Reg.notD rfl), hI.fix 43 (Reg.notD rfl), hI.fix 44 (Reg.notD rfl), hI.fix 45 (Reg.notD rfl), hI.fix 46 (Reg.notD rfl), hI.fix 47 (Reg.notD rfl), hI.fix 48 (Reg.notD rfl), hI.fix 49 (Reg.notD rfl), hI.fix 50 (Reg.notD rfl), hI.fix 67 (Reg.notD rfl)] at ea
              clear hI hall
              generalize a'.eval (.tmp 51) = u51 at ea
              generalize a'.eval (.tmp 52) = u52 at ea
              generalize a'.eval (.tmp 53) = u53 at ea
              generalize a'.eval (.tmp 54) = u54 at ea
              generalize a'.eval (.tmp 55) = u55 at ea
              generalize a'.eval (.tmp 56) = u56 at ea
              generalize a'.eval (.tmp 57) = u57 at ea
              generalize a'.eval (.tmp 58) = u58 at ea
              generalize a'.eval (.tmp 59) = u59 at ea
              generalize a'.eval (.tmp 60) = u60 at ea
              generalize a'.eval (.tmp 61) = u61 at ea
              generalize a'.eval (.tmp 62) = u62 at ea
              generalize a'.eval (.tmp 63) = u63 at ea
              generalize a'.eval (.tmp 64) = u64 at ea
              generalize a'.eval (.tmp 65) = u65 at ea
              generalize a'.eval (.tmp 66) = u66 at ea
              simp only [show ∀ (ts : Array Value) (ds) (i : Nat), (Act.mk ts ds).eval (.tmp i) = ts.getD i undef from fun _ _ _ => rfl] at ea
              simp at ea
              subst ea
              obtain ⟨Wx, hWx⟩ : ∃ Wx, (({ W with drawn := W.drawn + 1 } : World).setCell ⟨g, q, none⟩ (.int .u64 (if F q < jh then jh else F q))) = Wx := ⟨_, rfl⟩
              rw [hWx] at RELP ⊢
              have HRx := hide RELP.1
              have HBx := hide RELP.2
              clear RELP j0 j1 j4 cq fq hW KEEPJ hWx
              go_wp2_with fail
              go_roundw
              case rel =>
                refine ⟨k + 1, putF F q (if F q < jh then jh else F q), by omega, by go_num, HRx.out, MORE.out _ (fun i hi hli => ?_) (fun i hi hli => ⟨fun hm => ?_, fun hm => ?_⟩), HBx.out⟩
                · have := HQ.out
                  unfold putF addC; rw [if_neg (by omega), if_neg (by simp), Int.add_zero]
                  have := bound.out i hi; omega
                · have e : i = q := by have := hm.2; have := HQ.out; simp only at *; omega
                  subst e
                  unfold putF
                  rw [if_pos rfl]
                  by_cases hlt : F i < jh
                  · rw [if_pos hlt]; exact .inr ⟨rfl, by omega⟩
                  · rw [if_neg hlt]; exact .inl ⟨rfl, by omega⟩
                · unfold putF
                  rw [if_neg (fun e => hm ⟨rfl, by have := HQ.out; simp only; omega⟩)]
              case measure => simp [intOf]; omega
        · obtain rfl : k = P.jn H := by omega
          have S2 := S1
          rw [mUp_next] at S2
          have HS2 := hide S2
          clear R1 S1 B1 S2
          go_wp2_with fail
          go_roundw
          case rel => exact ⟨H + 1, F, by omega, by go_num, HR1.out, HS2.out, HB1.out⟩
          case measure => simp [intOf]; omega
    · obtain rfl : H = P.nh := by omega
      have hHn : ¬ (P.nh : Int) < (P.nh : Int) := by omega
      clear R0 S0 B0
      go_wp2_with fail
      go_ret
      exact ⟨g, c, rfl, F0, HR0.out, HS0.out.congr (fun i hi => (mUp_all _ _ _ hi).symm), HB0.out⟩
end Tally
end Go.Proofs.Ytpghfebnggoacaa

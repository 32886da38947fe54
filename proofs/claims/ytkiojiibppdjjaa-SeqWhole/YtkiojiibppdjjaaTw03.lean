/-
  Lemmas: SeqX.
-/
import Derived.Test.YtkiojiibppdjjaaTw02
import Derived.Test.YtkiojiibppdjjaaTp31
import Derived.Test.YtkiojiibppdjjaaTp32
import Derived.Test.YtkiojiibppdjjaaTp20
set_option linter.unusedVariables false
set_option linter.unusedSimpArgs false
set_option maxRecDepth 20000
namespace Go.Proofs.Ytkiojiibppdjjaa
open Go.RowKit
namespace Seq

abbrev rn (r : Nat) (P : Par) (m : Nat) : St (kSeq r) := runSt P (st0 (kSeq r) P (fun _ => 0)) m

theorem law_step {r : Nat} {P : Par} (hr1 : 1 ≤ r) (hr2 : r ≤ 64) (hn : P.n = r + 1) (hok : ∀ h, h < P.nh → ∀ j, j < P.jn h → serr h (P.jb h j) = 0 ∧ (P.jb h j).wf) (h256 : ∀ h, h < P.nh → P.jn h ≤ 256) {m i : Nat} (hi : i < (rn r P m).k)
    {now : Int} {wn : Nat} {fst ld : Nat → Int} {bg : Nat → Bool} (I : Iv r P (rn r P i).f (rn r P i).done (rn r P i).cur now wn fst ld bg) :
    ∃ h en tl now' wn' fst' ld' bg', h < P.nh ∧ (rn r P i).done h < P.jn h ∧ ((rn r P m).s i).hand = (h : Int) ∧ (0 ≤ ((rn r P m).s i).had ∧ ((rn r P m).s i).had ≤ 18446744073709551615) ∧ (0 ≤ ((rn r P m).s i).put ∧ ((rn r P m).s i).put ≤ 18446744073709551615) ∧
      Kn r P now wn fst ld bg h (P.jb h ((rn r P i).done h)) ((rn r P m).s i) en tl now' wn' fst' ld' bg' ∧ Iv r P (rn r P (i + 1)).f (rn r P (i + 1)).done (rn r P (i + 1)).cur now' wn' fst' ld' bg' ∧
      (rn r P (i + 1)).done = (if en = true then upd (rn r P i).done h ((rn r P i).done h + 1) else (rn r P i).done) ∧ (en = true → (rn r P m).ans h ((rn r P i).done h) = tl ∧ (rn r P i).done h < (rn r P m).done h) := by
  obtain ⟨hk, ⟨h, _, hh, hg, e⟩, es⟩ := hist P (st0 (kSeq r) P (fun _ => 0)) rfl m i hi
  have ex : (rn r P m).s i = stepOf P.n (rn r P i).f (sreq ((rn r P i).cur h)) := by
    show (runSt P (st0 (kSeq r) P (fun _ => 0)) m).s i = _
    rw [es, e]
    show upd (runSt P (st0 (kSeq r) P (fun _ => 0)) i).s (runSt P (st0 (kSeq r) P (fun _ => 0)) i).k _ i = _
    rw [hk, upd_same]
    rfl
  obtain ⟨now', wn', fst', ld', bg', K, x1, x2, x3, I'⟩ := I.step hr1 hr2 hn hok h256 hh hg
  rw [ex]
  refine ⟨h, sends ((rn r P i).cur h) (stepOf P.n (rn r P i).f (sreq ((rn r P i).cur h))), _, now', wn', fst', ld', bg', hh, hg, x1, x2, x3, K, ?_, ?_, fun hen => ?_⟩
  · have e' : rn r P (i + 1) = stepSt P (rn r P i) h := e
    rw [e']
    exact I'
  · have e' : rn r P (i + 1) = stepSt P (rn r P i) h := e
    rw [e']
    rfl
  · have hle : i + 1 ≤ m := by
      have := (runSt_k P (st0 (kSeq r) P (fun _ => 0)) rfl m).1
      have hi' : i < (runSt P (st0 (kSeq r) P (fun _ => 0)) m).k := hi
      omega
    obtain ⟨d, rfl⟩ : ∃ d, m = i + 1 + d := ⟨m - (i + 1), by omega⟩
    have e' : rn r P (i + 1) = stepSt P (rn r P i) h := e
    have hd : (rn r P (i + 1)).done h = (rn r P i).done h + 1 := by
      rw [e']
      show (if sends ((rn r P i).cur h) (stepOf P.n (rn r P i).f (sreq ((rn r P i).cur h))) = true then upd (rn r P i).done h ((rn r P i).done h + 1) else (rn r P i).done) h = _
      rw [if_pos hen, upd_same]
    have ha : (rn r P (i + 1)).ans h ((rn r P i).done h) = (snext r ((rn r P i).cur h) (stepOf P.n (rn r P i).f (sreq ((rn r P i).cur h)))).told := by
      rw [e']
      show (if sends ((rn r P i).cur h) (stepOf P.n (rn r P i).f (sreq ((rn r P i).cur h))) = true then upd (rn r P i).ans h (upd ((rn r P i).ans h) ((rn r P i).done h) _) else (rn r P i).ans) h _ = _
      rw [if_pos hen, upd_same, upd_same]
      rfl
    obtain ⟨s1, s2⟩ := stays P (st0 (kSeq r) P (fun _ => 0)) rfl (i + 1) h d
    have hd' : (runSt P (st0 (kSeq r) P (fun _ => 0)) (i + 1)).done h = (rn r P i).done h + 1 := hd
    exact ⟨(s2 _ (by omega)).trans ha, by show (rn r P i).done h < (runSt P (st0 (kSeq r) P (fun _ => 0)) (i + 1 + d)).done h; omega⟩

/-- What a run from fresh words told. -/
def SV (r : Nat) (P : Par) (m0 : Nat) (er : Int) (sa : Option Addr) (k : Nat) (aa : Option Addr) (m : Nat) (w' : World) : Prop :=
  er = 0 → P.nh ≤ 8 ∧ (∀ h, h < P.nh → P.jn h ≤ 256) ∧ (∀ h, h < P.nh → ∀ j, j < P.jn h → serr h (P.jb h j) = 0) ∧ k = (rn r P m0).k ∧ m = P.nh ∧ SeesS w' w'.heap.size sa (rn r P m0).k (rn r P m0).s ∧ SeesA w' w'.heap.size aa P.nh (rn r P m0).done (rn r P m0).ans

theorem play_sv {w : World} {ao aoh aos : Option Addr} {cap caph caps : Nat} {P : Par} {most : Int} {sh : Shp} {r : Nat} (hr : sh.f = (r : Int)) (h1 : 1 ≤ r) (h2 : r ≤ 64) (hn : P.n = r + 1) (S : Sees w w.heap.size ao P.n (fun _ => 0)) (SH : SeesH w w.heap.size aoh P.nh P.jn P.jb) (hn63 : P.nh ≤ 9223372036854775807) (SI : SeesI w w.heap.size aos P.ns P.sched) (hjw : ∀ h, h < P.nh → ∀ j, j < P.jn h → (P.jb h j).wf) :
    Calls Try.prog 14 #[sh.val, .slice ao P.n cap, .slice aoh P.nh caph, .slice aos P.ns caps, .int .i64 most] w fun e w' => Below w.heap.size w w' ∧ ∃ sa k sc wa n wc en aa m ac er, e = .returned (tv3 sa k sc wa n wc en aa m ac er) ∧ SV r P most.toNat er sa k aa m w' := by
  refine (play_all (want := P.n) (f := fun _ => 0) (by omega) (by omega) (by rw [hr]; omega) S (fun i _ => ⟨Int.le_refl 0, by show (0 : Int) ≤ 18446744073709551615; decide⟩) SH hn63 SI hjw).mono fun e w' h => ?_
  refine ⟨h.1, ?_⟩
  rcases h.2 with ⟨er, hle, he⟩ | ⟨hn', hF, hok, v, he, hT⟩
  · refine ⟨none, 0, 0, none, 0, 0, false, none, 0, 0, er, he, fun h0 => ?_⟩
    rcases hle with ⟨_, rfl⟩ | ⟨_, h⟩
    · exact absurd h0 (by decide)
    · exact absurd h0 h.ne
  · rw [hr] at hok hT
    obtain ⟨blk, c, g', sv, rfl, H, G, GS, R, hg, hne⟩ := hT
    obtain ⟨sa, sc, rfl⟩ := GS.isSlice'
    refine ⟨sa, _, sc, _, _, _, _, some ⟨blk .answers, 0, none⟩, P.nh, _, 0, he, fun _ => ⟨?_, fun h hh => ?_, fun h hh j hj => hok h hh j hj, rfl, rfl, GS.seesS H, seesA_of G.answers H⟩⟩
    · rcases Nat.lt_or_ge 8 P.nh with l | l
      · exact absurd (.inl l) hF.2.1
      · exact l
    · rcases Nat.lt_or_ge 256 (P.jn h) with l | l
      · exact absurd (.inr ⟨h, hh, l⟩) hF.2.1
      · exact l
end Seq
end Go.Proofs.Ytkiojiibppdjjaa

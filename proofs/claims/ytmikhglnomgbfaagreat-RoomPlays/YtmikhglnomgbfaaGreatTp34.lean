/-
  Lemmas: RoomK.
-/
import Derived.Test.YtmikhglnomgbfaaGreatTp30
import Derived.Test.YtmikhglnomgbfaaGreatTp31
import Derived.Test.YtmikhglnomgbfaaGreatTp32
import Derived.Test.YtmikhglnomgbfaaGreatTp33
namespace Go.Proofs.YtmikhglnomgbfaaGreat
set_option maxHeartbeats 8000000
open Go.RowKit
set_option linter.unusedVariables false
set_option linter.unusedSimpArgs false
set_option maxRecDepth 20000
section
namespace Rom
open Hp
theorem step_any {any : Bool} {sh : Shp} (h5 : Shape.R5 sh.a sh.b sh.c sh.d sh.e) {w : World} {b bm bw n : Nat} {f : Nat → Int} {s : RmS} {j : Jb} (hj : s.j = j ∧ Wf sh s) (h : w.rowIs b ((kRom any sh).t j) ((kRom any sh).n j) (rcell sh b s)) (hm : IsMem w bm bw n f) (h1 : b ≠ bm) (h2 : b ≠ bw) :
  Calls Tryz.prog 150 #[.pointer (some ⟨b, 0, none⟩), .pointer (some ⟨bm, 0, none⟩)] w fun e w' => e = .returned (.tuple #[(stepOf n f (rreq sh s)).val, .int .i64 (if rends sh s (stepOf n f (rreq sh s)) = true then 1 else 0)]) ∧
   w'.rowIs b ((kRom any sh).t j) ((kRom any sh).n j) (rcell sh b (rnext sh s (stepOf n f (rreq sh s)))) ∧ IsMem w' bm bw n (wordsOf n f (rreq sh s)) ∧ Touch w w' (fun k => k = b ∨ k = bw) := by
 obtain ⟨rfl, H⟩ := hj
 have hxh := had_bounds hm.word (rreq sh s)
 obtain ⟨x, hx⟩ : ∃ x, stepOf n f (rreq sh s) = x := ⟨_, rfl⟩
 obtain ⟨f', hf'⟩ : ∃ f', wordsOf n f (rreq sh s) = f' := ⟨_, rfl⟩
 rw [hx] at hxh
 rw [hx, hf']
 obtain ⟨hst, hh, hg, hn, hth, hxb, hsl, hsl2, hab⟩ := H
 obtain ⟨hand, j, st, g, xb, gn, sl, told⟩ := s
 simp only at hst hh hg hn hth hxb hsl hsl2 hab hx hf' h ⊢
 have hcol : col j = 0 ∨ col j = 1 := by unfold col; split <;> simp
 rcases hst with ⟨hk, hst⟩ | ⟨hk, hst⟩
 ·simp only [kRom, pick1 hk] at h ⊢
  have sc : ∀ st' g' xb' gn' sl' t', rcell sh b ⟨hand, j, st', g', xb', gn', sl', t'⟩ = mC sh hand (fnM b st') g' t' (fin j) (col j) xb' gn' := fun _ _ _ _ _ _ => by simp [rcell, hk]
  rw [sc] at h
  rcases hst with rfl | rfl | rfl | rfl | rfl | rfl
  ·have er : rreq sh ⟨hand, j, 0, g, xb, gn, sl, told⟩ = ⟨hand, 1, 1, 0, 0, true⟩ := by simp [rreq, hk]
   rw [er] at hx hf'
   by_cases ht : there sh (idx x.had)
   ·have e1 : rends sh ⟨hand, j, 0, g, xb, gn, sl, told⟩ x = false := by simp [rends, hk, ht]
    have e2 : rnext sh ⟨hand, j, 0, g, xb, gn, sl, told⟩ x = ⟨hand, j, 1, x.had, xb, gn, sl, told⟩ := by simp [rnext, hk, ht]
    rw [e1, e2, sc, if_neg (by decide)]
    exact step_of 31 (fun args w => by simp [go_sem]) h (by omega) rfl hm (fun w1 r1 m1 => find_yes r1 m1 h1 h2 hxh ht hx hf')
   ·have e1 : rends sh ⟨hand, j, 0, g, xb, gn, sl, told⟩ x = true := by simp [rends, hk, ht]
    have e2 : rnext sh ⟨hand, j, 0, g, xb, gn, sl, told⟩ x = ⟨hand, j, 0, x.had, xb, gn, sl, told⟩ := by simp [rnext, hk, ht]
    rw [e1, e2, sc, if_pos rfl]
    exact step_of 31 (fun args w => by simp [go_sem]) h (by omega) rfl hm (fun w1 r1 m1 => find_no r1 m1 h1 h2 hxh ht hx hf')
  ·have er : rreq sh ⟨hand, j, 1, g, xb, gn, sl, told⟩ = ⟨hand, 1, linkAt sh (idx g), 0, 0, true⟩ := by simp [rreq, hk]
   rw [er] at hx hf'
   have e1 : rends sh ⟨hand, j, 1, g, xb, gn, sl, told⟩ x = false := by simp [rends, hk]
   have e2 : rnext sh ⟨hand, j, 1, g, xb, gn, sl, told⟩ x = ⟨hand, j, 2, g, idx x.had, gn, sl, told⟩ := by simp [rnext, hk]
   rw [e1, e2, sc, if_neg (by decide)]
   exact step_of 58 (fun args w => by simp [go_sem]) h (by omega) rfl hm (fun w1 r1 m1 => peek_any r1 m1 h1 h2 h5 hg hxh hx hf')
  ·have er : rreq sh ⟨hand, j, 2, g, xb, gn, sl, told⟩ = ⟨hand, 5, 1, g, bmp g xb, true⟩ := by simp [rreq, hk]
   rw [er] at hx hf'
   cases hok : x.ok with
   | true =>
    have e1 : rends sh ⟨hand, j, 2, g, xb, gn, sl, told⟩ x = false := by simp [rends, hk, hok]
    have e2 : rnext sh ⟨hand, j, 2, g, xb, gn, sl, told⟩ x = ⟨hand, j, 3, g, xb, gn, sl, told⟩ := by simp [rnext, hk, hok]
    rw [e1, e2, sc, if_neg (by decide)]
    exact step_of 89 (fun args w => by simp [go_sem]) h (by omega) rfl hm (fun w1 r1 m1 => (by have h := take_any r1 m1 h1 h2 hg hx hf'; rw [if_pos hok] at h; exact h))
   | false =>
    have e1 : rends sh ⟨hand, j, 2, g, xb, gn, sl, told⟩ x = false := by simp [rends, hk, hok]
    have e2 : rnext sh ⟨hand, j, 2, g, xb, gn, sl, told⟩ x = ⟨hand, j, 0, g, xb, gn, sl, told⟩ := by simp [rnext, hk, hok]
    rw [e1, e2, sc, if_neg (by decide)]
    exact step_of 89 (fun args w => by simp [go_sem]) h (by omega) rfl hm (fun w1 r1 m1 => (by have h := take_any r1 m1 h1 h2 hg hx hf'; rw [if_neg (by rw [hok]; decide)] at h; exact h))
  ·have er : rreq sh ⟨hand, j, 3, g, xb, gn, sl, told⟩ = ⟨hand, 1, headAt sh (idx g), 0, 0, true⟩ := by simp [rreq, hk]
   rw [er] at hx hf'
   have e1 : rends sh ⟨hand, j, 3, g, xb, gn, sl, told⟩ x = false := by simp [rends, hk]
   have e2 : rnext sh ⟨hand, j, 3, g, xb, gn, sl, told⟩ x = ⟨hand, j, 4, g, xb, x.had / 4294967296, sl, told⟩ := by simp [rnext, hk]
   rw [e1, e2, sc, if_neg (by decide)]
   exact step_of 106 (fun args w => by simp [go_sem]) h (by omega) rfl hm (fun w1 r1 m1 => mlook_any r1 m1 h1 h2 h5 hg hxh hx hf')
  ·have er : rreq sh ⟨hand, j, 4, g, xb, gn, sl, told⟩ = ⟨hand, 2, headAt sh (idx g), 0, packW true (ownB true (col j)) (fin j) false 0 gn, true⟩ := by simp [rreq, hk, useW]
   rw [er] at hx hf'
   have e1 : rends sh ⟨hand, j, 4, g, xb, gn, sl, told⟩ x = false := by simp [rends, hk]
   have e2 : rnext sh ⟨hand, j, 4, g, xb, gn, sl, told⟩ x = ⟨hand, j, 5, g, xb, gn, sl, told⟩ := by simp [rnext, hk]
   rw [e1, e2, sc, if_neg (by decide)]
   exact step_of 120 (fun args w => by simp [go_sem]) h (by omega) rfl hm (fun w1 r1 m1 => use_any r1 m1 h1 h2 h5 hg hn hcol hx hf')
  ·have er : rreq sh ⟨hand, j, 5, g, xb, gn, sl, told⟩ = ⟨hand, 4, 4, 0, 1, true⟩ := by simp [rreq, hk]
   rw [er] at hx hf'
   have e1 : rends sh ⟨hand, j, 5, g, xb, gn, sl, told⟩ x = true := by simp [rends, hk]
   have e2 : rnext sh ⟨hand, j, 5, g, xb, gn, sl, told⟩ x = ⟨hand, j, 5, g, xb, gn, sl, ⟨true, hd (idx g) gn⟩⟩ := by simp [rnext, hk]
   rw [e1, e2, sc, if_pos rfl]
   exact step_of 128 (fun args w => by simp [go_sem]) h (by omega) rfl hm (fun w1 r1 m1 => mcount_any r1 m1 h1 h2 hg hx hf')
 ·simp only [kRom, pick2 hk] at h ⊢
  have sc : ∀ st' g' xb' gn' sl' t', rcell sh b ⟨hand, j, st', g', xb', gn', sl', t'⟩ = gC sh hand (fnG b st') g' t' j.a sl' gn' := fun _ _ _ _ _ _ => by simp [rcell, hk]
  rw [sc] at h
  rcases hst with rfl | rfl | rfl | rfl | rfl | rfl | rfl
  ·have er : rreq sh ⟨hand, j, 0, g, xb, gn, sl, told⟩ = ⟨hand, 2, slotAt sh j.a sl, 0, 0, true⟩ := by simp [rreq, hk]
   rw [er] at hx hf'
   by_cases ht : slotIn sh j.a (sl + 1)
   ·have e1 : rends sh ⟨hand, j, 0, g, xb, gn, sl, told⟩ x = false := by simp [rends, hk, ht]
    have e2 : rnext sh ⟨hand, j, 0, g, xb, gn, sl, told⟩ x = ⟨hand, j, 0, g, xb, gn, sl + 1, told⟩ := by simp [rnext, hk, ht]
    rw [e1, e2, sc, if_neg (by decide)]
    exact step_of 61 (fun args w => by simp [go_sem]) h (by omega) rfl hm (fun w1 r1 m1 => wipe_more r1 m1 h1 h2 h5 (hsl2 hk) ht hx hf')
   ·have e1 : rends sh ⟨hand, j, 0, g, xb, gn, sl, told⟩ x = false := by simp [rends, hk, ht]
    have e2 : rnext sh ⟨hand, j, 0, g, xb, gn, sl, told⟩ x = ⟨hand, j, 1, g, xb, gn, sl + 1, told⟩ := by simp [rnext, hk, ht]
    rw [e1, e2, sc, if_neg (by decide)]
    exact step_of 61 (fun args w => by simp [go_sem]) h (by omega) rfl hm (fun w1 r1 m1 => wipe_last r1 m1 h1 h2 h5 (hsl2 hk) ht hx hf')
  ·have er : rreq sh ⟨hand, j, 1, g, xb, gn, sl, told⟩ = ⟨hand, 1, headAt sh j.a, 0, 0, true⟩ := by simp [rreq, hk]
   rw [er] at hx hf'
   have e1 : rends sh ⟨hand, j, 1, g, xb, gn, sl, told⟩ x = false := by simp [rends, hk]
   have e2 : rnext sh ⟨hand, j, 1, g, xb, gn, sl, told⟩ x = ⟨hand, j, 2, g, xb, x.had / 4294967296, sl, told⟩ := by simp [rnext, hk]
   rw [e1, e2, sc, if_neg (by decide)]
   exact step_of 60 (fun args w => by simp [go_sem]) h (by omega) rfl hm (fun w1 r1 m1 => glook_any r1 m1 h1 h2 h5 hxh hx hf')
  ·by_cases hq : gn = 4294967295
   ·have er : rreq sh ⟨hand, j, 2, g, xb, gn, sl, told⟩ = ⟨hand, 2, headAt sh j.a, 0, hd 0 gn, true⟩ := by simp [rreq, hk, nxg, hq]
    rw [er] at hx hf'
    have e1 : rends sh ⟨hand, j, 2, g, xb, gn, sl, told⟩ x = false := by simp [rends, hk, hq]
    have e2 : rnext sh ⟨hand, j, 2, g, xb, gn, sl, told⟩ x = ⟨hand, j, 6, g, xb, gn, sl, told⟩ := by simp [rnext, hk, hq]
    rw [e1, e2, sc, if_neg (by decide)]
    exact step_of 94 (fun args w => by simp [go_sem]) h (by omega) rfl hm (fun w1 r1 m1 => leave_last r1 m1 h1 h2 h5 hn (by simpa using hq) hx hf')
   ·have er : rreq sh ⟨hand, j, 2, g, xb, gn, sl, told⟩ = ⟨hand, 2, headAt sh j.a, 0, hd 0 (gn + 1), true⟩ := by simp [rreq, hk, nxg, hq]
    rw [er] at hx hf'
    have e1 : rends sh ⟨hand, j, 2, g, xb, gn, sl, told⟩ x = false := by simp [rends, hk, hq]
    have e2 : rnext sh ⟨hand, j, 2, g, xb, gn, sl, told⟩ x = ⟨hand, j, 3, g, xb, gn, sl, told⟩ := by simp [rnext, hk, hq]
    rw [e1, e2, sc, if_neg (by decide)]
    exact step_of 94 (fun args w => by simp [go_sem]) h (by omega) rfl hm (fun w1 r1 m1 => leave_next r1 m1 h1 h2 h5 hn (by simpa using hq) hx hf')
  ·have er : rreq sh ⟨hand, j, 3, g, xb, gn, sl, told⟩ = ⟨hand, 1, 1, 0, 0, true⟩ := by simp [rreq, hk]
   rw [er] at hx hf'
   have e1 : rends sh ⟨hand, j, 3, g, xb, gn, sl, told⟩ x = false := by simp [rends, hk]
   have e2 : rnext sh ⟨hand, j, 3, g, xb, gn, sl, told⟩ x = ⟨hand, j, 4, x.had, xb, gn, sl, told⟩ := by simp [rnext, hk]
   rw [e1, e2, sc, if_neg (by decide)]
   exact step_of 110 (fun args w => by simp [go_sem]) h (by omega) rfl hm (fun w1 r1 m1 => gmeet_any r1 m1 h1 h2 hx hf')
  ·have er : rreq sh ⟨hand, j, 4, g, xb, gn, sl, told⟩ = ⟨hand, 2, linkAt sh j.a, 0, idx g, true⟩ := by simp [rreq, hk]
   rw [er] at hx hf'
   have e1 : rends sh ⟨hand, j, 4, g, xb, gn, sl, told⟩ x = false := by simp [rends, hk]
   have e2 : rnext sh ⟨hand, j, 4, g, xb, gn, sl, told⟩ x = ⟨hand, j, 5, g, xb, gn, sl, told⟩ := by simp [rnext, hk]
   rw [e1, e2, sc, if_neg (by decide)]
   exact step_of 121 (fun args w => by simp [go_sem]) h (by omega) rfl hm (fun w1 r1 m1 => gtie_any r1 m1 h1 h2 h5 hg hx hf')
  ·have er : rreq sh ⟨hand, j, 5, g, xb, gn, sl, told⟩ = ⟨hand, 5, 1, g, bmp g j.a, true⟩ := by simp [rreq, hk]
   rw [er] at hx hf'
   cases hok : x.ok with
   | true =>
    have e1 : rends sh ⟨hand, j, 5, g, xb, gn, sl, told⟩ x = false := by simp [rends, hk, hok]
    have e2 : rnext sh ⟨hand, j, 5, g, xb, gn, sl, told⟩ x = ⟨hand, j, 6, g, xb, gn, sl, told⟩ := by simp [rnext, hk, hok]
    rw [e1, e2, sc, if_neg (by decide)]
    exact step_of 129 (fun args w => by simp [go_sem]) h (by omega) rfl hm (fun w1 r1 m1 => (by have h := glay_any r1 m1 h1 h2 hg hx hf'; rw [if_pos hok] at h; exact h))
   | false =>
    have e1 : rends sh ⟨hand, j, 5, g, xb, gn, sl, told⟩ x = false := by simp [rends, hk, hok]
    have e2 : rnext sh ⟨hand, j, 5, g, xb, gn, sl, told⟩ x = ⟨hand, j, 3, g, xb, gn, sl, told⟩ := by simp [rnext, hk, hok]
    rw [e1, e2, sc, if_neg (by decide)]
    exact step_of 129 (fun args w => by simp [go_sem]) h (by omega) rfl hm (fun w1 r1 m1 => (by have h := glay_any r1 m1 h1 h2 hg hx hf'; rw [if_neg (by rw [hok]; decide)] at h; exact h))
  ·have er : rreq sh ⟨hand, j, 6, g, xb, gn, sl, told⟩ = ⟨hand, 4, 5, 0, 1, true⟩ := by simp [rreq, hk]
   rw [er] at hx hf'
   have e1 : rends sh ⟨hand, j, 6, g, xb, gn, sl, told⟩ x = true := by simp [rends, hk]
   have e2 : rnext sh ⟨hand, j, 6, g, xb, gn, sl, told⟩ x = ⟨hand, j, 6, g, xb, gn, sl, ⟨true, mx0 j.a⟩⟩ := by simp [rnext, hk]
   rw [e1, e2, sc, if_pos rfl]
   exact step_of 111 (fun args w => by simp [go_sem]) h (by omega) rfl hm (fun w1 r1 m1 => gcount_any r1 m1 h1 h2 (hab hk) hx hf')
theorem ans_any {any : Bool} {sh : Shp} {w : World} {b : Nat} {s : RmS} {j : Jb} (hj : s.j = j) (h : w.rowIs b ((kRom any sh).t j) ((kRom any sh).n j) (rcell sh b s)) :
  Calls Tryz.prog 149 #[.pointer (some ⟨b, 0, none⟩)] w fun e w' => e = .returned s.told.value ∧ w.grownBy w' none := by
 subst hj
 by_cases hk : s.j.kind = 1
 ·simp only [kRom, pick1 hk] at h
  rw [show rcell sh b s = mC sh s.hand (fnM b s.st) s.g s.told (fin s.j) (col s.j) s.xb s.gn from by simp [rcell, hk]] at h
  exact ans_of h (by omega) rfl rfl
 ·simp only [kRom, pick2 hk] at h
  rw [show rcell sh b s = gC sh s.hand (fnG b s.st) s.g s.told s.j.a s.sl s.gn from by simp [rcell, hk]] at h
  exact ans_of h (by omega) rfl rfl
theorem ms1 (b : Nat) (w : World) : (method 303 86 (.pointer (some ⟨b, 0, none⟩)) "Step").run Tryz.prog w = .ok (150, .pointer (some ⟨b, 0, none⟩)) w := by kernel_rfl
theorem ma1 (b : Nat) (w : World) : (method 303 86 (.pointer (some ⟨b, 0, none⟩)) "Answer").run Tryz.prog w = .ok (149, .pointer (some ⟨b, 0, none⟩)) w := by kernel_rfl
theorem ms2 (b : Nat) (w : World) : (method 303 94 (.pointer (some ⟨b, 0, none⟩)) "Step").run Tryz.prog w = .ok (150, .pointer (some ⟨b, 0, none⟩)) w := by kernel_rfl
theorem ma2 (b : Nat) (w : World) : (method 303 94 (.pointer (some ⟨b, 0, none⟩)) "Answer").run Tryz.prog w = .ok (149, .pointer (some ⟨b, 0, none⟩)) w := by kernel_rfl
theorem cs1 (args : Array Value) (w : World) : (callFunc 150 args).run Tryz.prog w = .ok (.enter 150 args) w := by simp [go_sem]
theorem ca1 (args : Array Value) (w : World) : (callFunc 149 args).run Tryz.prog w = .ok (.enter 149 args) w := by simp [go_sem]
theorem isKind {any : Bool} {sh : Shp} (h5 : Shape.R5 sh.a sh.b sh.c sh.d sh.e) : IsKind (kRom any sh) where
 ok := ⟨fun h j hj => ⟨rfl, wf_init sh h hj.1 (by obtain ⟨h', e⟩ := hj.2; exact err_ab (h := h') h5.1.2 e)⟩, fun j s n f hf hs he => ⟨(rnext_j sh s _).trans hs.1, rnext_wf h5.2.1 hs.2 (had_bounds hf _) he⟩⟩
 step := fun hf hj h hm h1 h2 => step_any h5 hj h hm h1 h2
 ans := fun hf hj h => by
  obtain ⟨s0, n, f, h1, h2, rfl⟩ := hj
  exact ans_any ((rnext_j _ _ _).trans h2.1) h
 mstep := fun j hf b w => by
  by_cases hk : j.kind = 1
  ·simp only [kRom, pick1 hk]; exact ms1 b w
  ·simp only [kRom, pick2 hk]; exact ms2 b w
 mans := fun j hf b w => by
  by_cases hk : j.kind = 1
  ·simp only [kRom, pick1 hk]; exact ma1 b w
  ·simp only [kRom, pick2 hk]; exact ma2 b w
 cstep := fun j hf args w => cs1 args w
 cans := fun j hf args w => ca1 args w
end Rom
end
end Go.Proofs.YtmikhglnomgbfaaGreat

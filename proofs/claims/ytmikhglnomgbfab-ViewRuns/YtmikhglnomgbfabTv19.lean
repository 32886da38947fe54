/-
  Lemmas: ActK.
-/
import Derived.Test.YtmikhglnomgbfabTv10
/-
  turn's acts as a kind of tasks; Acts, whatever it is given: an error, or the run.
-/
namespace Go.Proofs.Ytmikhglnomgbfab
open Go.RowKit
set_option linter.unusedVariables false
set_option linter.unusedSimpArgs false
set_option maxRecDepth 20000
namespace AcK
structure ActS where
  hand : Int
  j : Jb
  told : Ans
def aerr (j : Jb) : Int := if j.kind < 1 ∨ 5 < j.kind then 200 else 0
def ainit (h : Int) (j : Jb) : ActS := ⟨h, j, ⟨false, 0⟩⟩
def areq (s : ActS) : Stp := ⟨s.hand, s.j.kind, s.j.a, s.j.b % 18446744073709551616, s.j.h, true⟩
def anext (s : ActS) (r : Stp) : ActS := ⟨s.hand, s.j, ⟨r.ok, r.had⟩⟩
def acell (s : ActS) (i : Nat) : Value := match i with | 0 => .int .i64 s.hand | 1 => .int .i64 s.j.kind | 2 => .int .i64 s.j.a | 3 => .int .i64 s.j.b | 4 => .int .i64 s.j.c | 5 => .int .u64 s.j.h | 6 => .bool s.told.ok | _ => .int .u64 s.told.val
def kAct : Kd where
  σ := ActS
  err _ j := aerr j
  init := ainit
  req := areq
  next := anext
  ends _ _ := true
  tell s := s.told
  tid _ := 148
  t _ := 150
  n _ := 8
  fs _ := 211
  fa _ := 210
  cell _ := acell
  wf _ s := s.j.wf
theorem make_act (w : World) (hand : Int) (j : Jb) (h : aerr j = 0) :
    Calls Try.prog 123 #[.func (.func 58) #[] #[], .int .i64 hand, j.val] w fun e w' => ∃ b, e = .returned (.tuple #[.iface 148 (.pointer (some ⟨b, 0, none⟩)), .int .i64 0]) ∧
      w'.rowIs b 150 8 (acell (ainit hand j)) ∧ w.heap.size ≤ b ∧ w.grownBy w' none := by
  obtain ⟨kind, a, b, c, hh⟩ := j
  have hk : 1 ≤ kind ∧ kind ≤ 5 := by simp only [aerr] at h; split at h; cases h; omega
  unfold Jb.val
  have hf := func_nil 58
  have hi := iface_nil 148
  go_enter Try.func123, Try.ntmps123
  go_wp2
  go_ret2
  refine ⟨w.heap.size + 2, rfl, ?_, by omega, grown_alloc (grown_alloc (grown_alloc (grown_refl _ _) _) _) _⟩
  have := rowIs_cells (w := (w.alloc (.cells #[.int .i64 kind, .int .i64 a, .int .i64 b, .int .i64 c, .int .u64 hh] 41)).alloc (.cells #[.int .i64 kind, .int .i64 a, .int .i64 b, .int .i64 c, .int .u64 hh] 41))
    #[.int .i64 hand, .int .i64 kind, .int .i64 a, .int .i64 b, .int .i64 c, .int .u64 hh, .bool false, .int .u64 0] 150 (acell (ainit hand ⟨kind, a, b, c, hh⟩)) 8 rfl (fun i hi => by
      match i, hi with
      | 0, _ | 1, _ | 2, _ | 3, _ | 4, _ | 5, _ | 6, _ | 7, _ => rfl)
  simpa using this
theorem make_act_err (w : World) (hand : Int) (j : Jb) (h : ¬ aerr j = 0) :
    Calls Try.prog 123 #[.func (.func 58) #[] #[], .int .i64 hand, j.val] w fun e w' => e = .returned (.tuple #[.nilIface, .int .i64 (aerr j)]) ∧ w.grownBy w' none := by
  obtain ⟨kind, a, b, c, hh⟩ := j
  have hk : kind < 1 ∨ 5 < kind := by simp only [aerr] at h; omega
  have he : aerr ⟨kind, a, b, c, hh⟩ = 200 := by simp only [aerr]; rw [if_pos hk]
  rw [he]
  unfold Jb.val
  have hf := func_nil 58
  rcases hk with hk | hk
  all_goals go_enter Try.func123, Try.ntmps123
  all_goals go_wp2
  all_goals go_ret2
  all_goals exact ⟨rfl, grown_alloc (grown_alloc (grown_refl _ _) _) _⟩
theorem act_answer {w : World} {b : Nat} {s : ActS} (h : w.rowIs b 150 8 (acell s)) :
    Calls Try.prog 210 #[.pointer (some ⟨b, 0, none⟩)] w fun e w' => e = .returned s.told.value ∧ w.grownBy w' none := by
  obtain ⟨hand, j, ⟨ok, val⟩⟩ := s
  have h6 : w.cell? ⟨b, 6, none⟩ = some (.bool ok) := h.cell (i := 6) (by omega)
  have h7 : w.cell? ⟨b, 7, none⟩ = some (.int .u64 val) := h.cell (i := 7) (by omega)
  have hl := h.lt
  go_enter Try.func210, Try.ntmps210
  go_wp2
  go_light
  refine bodyPost_ret (v := Ans.value ⟨ok, val⟩) ?_ rfl ⟨rfl, grown_alloc (grown_refl _ _) _⟩
  simp [results, Try.results210, go_sem, Ans.value]
theorem act_next_cell (s : ActS) (x : Stp) (i : Nat) (hi : i < 8) : (fun j => if j = 7 then Value.int .u64 x.had else (fun j => if j = 6 then Value.bool x.ok else acell s j) j) i = acell (anext s x) i := by
  match i, hi with
  | 0, _ | 1, _ | 2, _ | 3, _ | 4, _ | 5, _ | 6, _ | 7, _ => rfl
set_option maxHeartbeats 4000000 in
theorem act_step {w : World} {b bm bw n : Nat} {f : Nat → Int} {s : ActS} (h : w.rowIs b 150 8 (acell s)) (hm : IsMem w bm bw n f) (h1 : b ≠ bm) (h2 : b ≠ bw) (hw : s.j.wf) :
    Calls Try.prog 211 #[.pointer (some ⟨b, 0, none⟩), .pointer (some ⟨bm, 0, none⟩)] w fun e w' => e = .returned (.tuple #[(stepOf n f (areq s)).val, .int .i64 1]) ∧
      w'.rowIs b 150 8 (acell (anext s (stepOf n f (areq s)))) ∧ IsMem w' bm bw n (wordsOf n f (areq s)) ∧ Touch w w' (fun k => k = b ∨ k = bw) := by
  obtain ⟨hand, ⟨kind, a, bb, c, hh⟩, ⟨ok, val⟩⟩ := s
  have c0 : w.cell? ⟨b, 0, none⟩ = some (.int .i64 hand) := h.cell (i := 0) (by omega)
  have c1 : w.cell? ⟨b, 1, none⟩ = some (.int .i64 kind) := h.cell (i := 1) (by omega)
  have c2 : w.cell? ⟨b, 2, none⟩ = some (.int .i64 a) := h.cell (i := 2) (by omega)
  have c3 : w.cell? ⟨b, 3, none⟩ = some (.int .i64 bb) := h.cell (i := 3) (by omega)
  have c5 : w.cell? ⟨b, 5, none⟩ = some (.int .u64 hh) := h.cell (i := 5) (by omega)
  have hl := h.lt
  have hbb : IntKind.u64.wrap bb = bb % 18446744073709551616 := wrap_u64 bb
  have lw := hm.row.lt
  have lm := hm.head.lt
  have hn1 : w.heap.size + 1 ≠ b := by omega
  have M := hide hm
  have R := hide h
  have HW := hide hw
  clear hm h hw
  obtain ⟨x, hx⟩ : ∃ x, stepOf n f (areq ⟨hand, ⟨kind, a, bb, c, hh⟩, ⟨ok, val⟩⟩) = x := ⟨_, rfl⟩
  rw [hx]
  have HX : Hid (stepOf n f ⟨hand, kind, a, bb % 18446744073709551616, hh, true⟩ = x) := hx
  clear hx
  obtain ⟨f', hf'⟩ : ∃ f', wordsOf n f (areq ⟨hand, ⟨kind, a, bb, c, hh⟩, ⟨ok, val⟩⟩) = f' := ⟨_, rfl⟩
  rw [hf']
  have HF : Hid (wordsOf n f ⟨hand, kind, a, bb % 18446744073709551616, hh, true⟩ = f') := hf'
  clear hf'
  go_enter Try.func211, Try.ntmps211
  go_wp2_with fail
  go_region_held (fun w' => w'.cell? ⟨b, 0, none⟩ = some (.int .i64 hand) ∧ w'.cell? ⟨b, 1, none⟩ = some (.int .i64 kind) ∧ w'.cell? ⟨b, 2, none⟩ = some (.int .i64 a) ∧ w'.cell? ⟨b, 3, none⟩ = some (.int .i64 bb) ∧ w'.cell? ⟨b, 5, none⟩ = some (.int .u64 hh)) (go_keep)
    (first | (go_at_call 168; refine (do_mem (((M.out.alloc _).alloc _).drew) ⟨hand, kind, a, bb % 18446744073709551616, hh, true⟩ HW.out).mono ?_; rintro e w1 ⟨rfl, hm1, hg1⟩; rw [HX.out]; rw [HF.out] at hm1; simp only [Stp.val]; have M1 := hide hm1; have s1 := hg1.size; simp only [World.size_alloc, World.size_drew] at s1; have hn2 : w1.heap.size ≠ b := (by omega); have R1 := hide (((R.out.alloc _).alloc _).drew.of_block (hg1.block b (by simp; omega) (by simp [h2]))); have RR := hide (((row0 w).alloc _).drew.of_block (hg1.block w.heap.size (by simp; omega) (by simp; omega))); have RZ := hide ((row0n w _).drew.of_block (hg1.block (w.heap.size + 1) (by simp) (by simp; omega))); have T1 := hide ((((Touch.refl w (fun k => k = b ∨ k = bw)).alloc _).alloc _).drew.trans' (Touch.of_grown hg1) (fun k _ h => .inr (by simpa using h))); have d0 : w1.cell? ⟨b, 0, none⟩ = some (.int .i64 hand) := R1.out.cell (i := 0) (by omega); have d1 : w1.cell? ⟨b, 1, none⟩ = some (.int .i64 kind) := R1.out.cell (i := 1) (by omega); have d2 : w1.cell? ⟨b, 2, none⟩ = some (.int .i64 a) := R1.out.cell (i := 2) (by omega); have d3 : w1.cell? ⟨b, 3, none⟩ = some (.int .i64 bb) := R1.out.cell (i := 3) (by omega); have d5 : w1.cell? ⟨b, 5, none⟩ = some (.int .u64 hh) := R1.out.cell (i := 5) (by omega); have z0 : w1.cell? ⟨w.heap.size + 1, 0, none⟩ = some (.int .i64 0) := RZ.out.cell (i := 0) (by omega); have zf0 := RZ.out.frozen 0; have z1 : w1.cell? ⟨w.heap.size + 1, 1, none⟩ = some (.int .i64 0) := RZ.out.cell (i := 1) (by omega); have zf1 := RZ.out.frozen 1; have z2 : w1.cell? ⟨w.heap.size + 1, 2, none⟩ = some (.int .i64 0) := RZ.out.cell (i := 2) (by omega); have zf2 := RZ.out.frozen 2; have z3 : w1.cell? ⟨w.heap.size + 1, 3, none⟩ = some (.int .u64 0) := RZ.out.cell (i := 3) (by omega); have zf3 := RZ.out.frozen 3; have z4 : w1.cell? ⟨w.heap.size + 1, 4, none⟩ = some (.int .u64 0) := RZ.out.cell (i := 4) (by omega); have zf4 := RZ.out.frozen 4; have z5 : w1.cell? ⟨w.heap.size + 1, 5, none⟩ = some (.bool false) := RZ.out.cell (i := 5) (by omega); have zf5 := RZ.out.frozen 5; clear hm1 hg1) | (go_at_call 168; refine (do_mem ((M.out.alloc _).drew) ⟨hand, kind, a, bb % 18446744073709551616, hh, true⟩ HW.out).mono ?_; rintro e w1 ⟨rfl, hm1, hg1⟩; rw [HX.out]; rw [HF.out] at hm1; simp only [Stp.val]; have M1 := hide hm1; have s1 := hg1.size; simp only [World.size_alloc, World.size_drew] at s1; have hn2 : w1.heap.size ≠ b := (by omega); have R1 := hide ((R.out.alloc _).drew.of_block (hg1.block b (by simp; omega) (by simp [h2]))); have RR := hide ((row0 w).drew.of_block (hg1.block w.heap.size (by simp) (by simp; omega))); have T1 := hide (((Touch.refl w (fun k => k = b ∨ k = bw)).alloc _).drew.trans' (Touch.of_grown hg1) (fun k _ h => .inr (by simpa using h))); have d0 : w1.cell? ⟨b, 0, none⟩ = some (.int .i64 hand) := R1.out.cell (i := 0) (by omega); have d1 : w1.cell? ⟨b, 1, none⟩ = some (.int .i64 kind) := R1.out.cell (i := 1) (by omega); have d2 : w1.cell? ⟨b, 2, none⟩ = some (.int .i64 a) := R1.out.cell (i := 2) (by omega); have d3 : w1.cell? ⟨b, 3, none⟩ = some (.int .i64 bb) := R1.out.cell (i := 3) (by omega); have d5 : w1.cell? ⟨b, 5, none⟩ = some (.int .u64 hh) := R1.out.cell (i := 5) (by omega); clear hm1 hg1))
  all_goals have l1 : b < w1.heap.size := by omega
  all_goals have l2 : w.heap.size < w1.heap.size := by omega
  all_goals have hn3 : w.heap.size ≠ b := by omega
  all_goals clear c0 c1 c2 c3 c5 d0 d1 d2 d3 d5
  all_goals have d6 : w1.cell? ⟨b, 6, none⟩ = some (.bool ok) := R1.out.cell (i := 6) (by omega)
  all_goals have d7 : w1.cell? ⟨b, 7, none⟩ = some (.int .u64 val) := R1.out.cell (i := 7) (by omega)
  all_goals have df6 := R1.out.frozen 6
  all_goals have df7 := R1.out.frozen 7
  all_goals have r0 : w1.cell? ⟨w.heap.size, 0, none⟩ = some (.int .i64 0) := RR.out.cell (i := 0) (by omega)
  all_goals have rf0 := RR.out.frozen 0
  all_goals have r1 : w1.cell? ⟨w.heap.size, 1, none⟩ = some (.int .i64 0) := RR.out.cell (i := 1) (by omega)
  all_goals have rf1 := RR.out.frozen 1
  all_goals have r2 : w1.cell? ⟨w.heap.size, 2, none⟩ = some (.int .i64 0) := RR.out.cell (i := 2) (by omega)
  all_goals have rf2 := RR.out.frozen 2
  all_goals have r3 : w1.cell? ⟨w.heap.size, 3, none⟩ = some (.int .u64 0) := RR.out.cell (i := 3) (by omega)
  all_goals have rf3 := RR.out.frozen 3
  all_goals have r4 : w1.cell? ⟨w.heap.size, 4, none⟩ = some (.int .u64 0) := RR.out.cell (i := 4) (by omega)
  all_goals have rf4 := RR.out.frozen 4
  all_goals have r5 : w1.cell? ⟨w.heap.size, 5, none⟩ = some (.bool false) := RR.out.cell (i := 5) (by omega)
  all_goals have rf5 := RR.out.frozen 5
  all_goals go_wp2_with fail
  all_goals go_light
  all_goals
    refine bodyPost_ret (v := .tuple #[x.val, .int .i64 1]) ?res rfl ⟨rfl, ?row, ?mem, ?tch⟩
    case row =>
      refine World.rowIs.congr ?_ (fun i hi => act_next_cell _ x i hi)
      try with_reducible apply World.rowIs.alloc
      repeat (with_reducible refine World.rowIs.setOther ?_ ?side _; case side => (simp; omega))
      with_reducible refine World.rowIs.set ?_ 7 _
      with_reducible refine World.rowIs.set ?_ 6 _
      repeat (with_reducible refine World.rowIs.setOther ?_ ?side _; case side => (simp; omega))
      exact R1.out
    case mem =>
      try with_reducible apply IsMem.alloc
      repeat ((with_reducible refine IsMem.setOther ?_ ?_ ?_ _); rotate_left; (simp; omega); (simp; omega))
      exact M1.out
    case tch =>
      try with_reducible apply Touch.alloc
      repeat (with_reducible refine Touch.setCell ?_ _ ?side _; case side => simp)
      exact T1.out
    case res => simp [results, Try.results211, go_sem, Stp.val, *]
theorem isKind : IsKind kAct := IsKindO.to
  { ok := ⟨fun h j hf => hf.1, fun j s n f _ h => h⟩
    step := fun {w b bm bw n f s j} hf hw h hm h1 h2 => act_step h hm h1 h2 hw
    ans := fun {w b s j} hf hw h => act_answer h
    mstep := fun j hf b w => by kernel_rfl
    mans := fun j hf b w => by kernel_rfl
    cstep := fun j hf args w => by kernel_rfl
    cans := fun j hf args w => by kernel_rfl }
theorem makes (w : World) : MakesAt kAct (.func (.func 58) #[] #[]) w := fun hand j _ _ _ => ⟨fun h => make_act w hand j h, fun h => make_act_err w hand j h⟩
variable {w : World} {ao aoh aos : Option Addr} {cap caph caps : Nat} {P : Par} {f : Nat → Int} {most : Int}
theorem acts_any {R : Ending → World → Prop} {Q : Ending → World → Prop}
    (h : Calls Try.prog 57 #[.slice ao P.n cap, .slice aoh P.nh caph, .slice aos P.ns caps, .int .i64 most, .func (.func 58) #[] #[]] (w.alloc (.cells #[.slice none 0 0, .slice none 0 0, .bool false] 44)) Q)
    (hs : ∀ e w', Q e w' → Below (w.heap.size + 1) (w.alloc (.cells #[.slice none 0 0, .slice none 0 0, .bool false] 44)) w' ∧
      ∃ sa k sc wa n wc en aa m ac er, e = .returned (tv3 sa k sc wa n wc en aa m ac er) ∧ R e (((w'.setCell ⟨w.heap.size, 0, none⟩ (.slice sa k sc)).setCell ⟨w.heap.size, 1, none⟩ (.slice wa n wc)).setCell ⟨w.heap.size, 2, none⟩ (.bool en))) :
    Calls Try.prog 19 #[.slice ao P.n cap, .slice aoh P.nh caph, .slice aos P.ns caps, .int .i64 most] w R := by
  have HH := hide h
  have HS := hide hs
  clear h hs
  go_enter Try.func19, Try.ntmps19
  go_wp2_with fail
  refine HH.out.mono ?_
  intro e w3 hq
  obtain ⟨hb, sa, k, sc, wa, n, wc, en, aa, m, ac, er, rfl, hR⟩ := HS.out e w3 hq
  have u0 := hb.cell (p := ⟨w.heap.size, 0, none⟩) (by simp)
  have u1 := hb.cell (p := ⟨w.heap.size, 1, none⟩) (by simp)
  have u2 := hb.cell (p := ⟨w.heap.size, 2, none⟩) (by simp)
  have v0 := hb.frozen (p := ⟨w.heap.size, 0, none⟩) (by simp)
  have v1 := hb.frozen (p := ⟨w.heap.size, 1, none⟩) (by simp)
  have v2 := hb.frozen (p := ⟨w.heap.size, 2, none⟩) (by simp)
  simp at u0 u1 u2 v0 v1 v2
  have HR := hide hR
  clear hb hR hq
  unfold tv3
  go_wp2_with fail
  go_light
  refine bodyPost_ret (v := tv3 sa k sc wa n wc en aa m ac er) ?_ rfl HR.out
  simp [results, Try.results19, go_sem, tv3, *]
theorem acts_all (S : Sees w w.heap.size ao P.n f) (hf : ∀ i, i < P.n → 0 ≤ f i ∧ f i ≤ 18446744073709551615) (SH : SeesH w w.heap.size aoh P.nh P.jn P.jb) (hn63 : P.nh ≤ 9223372036854775807) (SI : SeesI w w.heap.size aos P.ns P.sched) (hjw : ∀ h, h < P.nh → ∀ j, j < P.jn h → (P.jb h j).wf) :
    Calls Try.prog 19 #[.slice ao P.n cap, .slice aoh P.nh caph, .slice aos P.ns caps, .int .i64 most] w (LAll kAct P.n w P f most) := by
  have b0 : Below w.heap.size w (w.alloc (.cells #[.slice none 0 0, .slice none 0 0, .bool false] 44)) := (Below.refl _ w).alloc (Nat.le_refl _) _
  have sz0 : (w.alloc (.cells #[.slice none 0 0, .slice none 0 0, .bool false] 44)).heap.size = w.heap.size + 1 := by simp
  obtain ⟨w1, hw1⟩ : ∃ w1, w.alloc (.cells #[.slice none 0 0, .slice none 0 0, .bool false] 44) = w1 := ⟨_, rfl⟩
  refine acts_any (OfAny.play_all (K := kAct) (f := f) ((S.below b0 (Nat.le_refl _)).mono (by omega)) hf ((SH.below b0 (Nat.le_refl _)).up (by omega)) hn63 ((SI.below b0 (Nat.le_refl _)).up (by omega)) hjw isKind (fun w' _ => makes w')) ?_
  rw [hw1] at b0 sz0 ⊢
  intro e w' hq
  have hq2 : LAll kAct P.n w1 P f most e w' := by
    obtain ⟨hB, hc⟩ := hq
    refine ⟨hB, ?_⟩
    rcases hc with ⟨er, he, rfl⟩ | ⟨h1, h2, v, rfl, hT⟩
    · exact .inl ⟨er, .inr ⟨rfl, he⟩, rfl⟩
    · refine .inr ⟨rfl, h1, h2, v, rfl, ?_⟩
      obtain ⟨blk, c, g, sv, rfl, H, G, GS, R, hg, hne⟩ := hT
      exact ⟨blk, c, g, sv, rfl, H.base_le (by omega), G, GS, R, by omega, hne⟩
  obtain ⟨sa, k, sc, wa, n, wc, en, aa, m, ac, er, rfl⟩ := hq2.shape
  have hb := hq2.1
  rw [sz0] at hb
  exact ⟨hb, sa, k, sc, wa, n, wc, en, aa, m, ac, er, rfl, hq2.up b0 (touch3 w' w.heap.size (.slice sa k sc) (.slice wa n wc) (.bool en)) (by omega) (by omega)⟩
end AcK
end Go.Proofs.Ytmikhglnomgbfab

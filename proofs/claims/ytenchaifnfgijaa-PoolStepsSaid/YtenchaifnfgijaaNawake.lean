/- The statements about package pool: awake. Conditions: the program's arena keeps its contracts (ProgA). -/
import Derived.Test.YtenchaifnfgijaaQint
namespace Go.Proofs.Ytenchaifnfgijaa
open Go.ChangeShapes Go.WideShapes Go.ChangeAt Go.RowKit
set_option linter.unusedVariables false
set_option linter.unusedSimpArgs false
set_option maxRecDepth 100000

/-- What a statement's walk carries: nothing elder has turned, its pool and its arena. -/
structure AtQ (PA : Rep) (w0 : World) (col : Col) (W : World) (g ga : Nat) (q : PSt) (x : ASt) : Prop where
  since : Since w0 col W
  pq : PqR col 16 W g ga q
  pa : PA col 32 W ga x
  lnk : Lnk q x
theorem ap12 : Apart 16 32 := ⟨by omega, by omega, .inl (by omega)⟩
section
variable {PA : Rep} {w0 W W' : World} {col col' : Col} {g ga : Nat} {q q' : PSt} {x x' : ASt} {P : Nat → Prop}
theorem AtQ.tidy (h : AtQ PA w0 col W g ga q x) : Tidy col W := h.since.tidy
theorem AtQ.step (HP : ProgA PA) (h : AtQ PA w0 col W g ga q x) (s : StepC P col W col' W') (h1 : ∀ c, Rng 16 c → ¬ P c) (h2 : ∀ c, Rng 32 c → ¬ P c) (hz : ¬ P 0) : AtQ PA w0 col' W' g ga q x :=
  ⟨h.since.step s hz, h.pq.keep s h1, HP.keep h.pa s h2 hz, h.lnk⟩
theorem AtQ.below (HP : ProgA PA) (h : AtQ PA w0 col W g ga q x) (hb : Below W.heap.size W W') : AtQ PA w0 col W' g ga q x := h.step HP (P := fun _ => False) (StepC.below h.tidy hb) (fun _ _ h => h) (fun _ _ h => h) (fun h => h)
theorem AtQ.did (h : AtQ PA w0 col W g ga q x) (hd : DidQ PA col 16 32 W g ga q' x' W') (hL : Lnk q' x') : ∃ col', AtQ PA w0 col' W' g ga q' x' ∧ StepC (fun c => Rng 16 c ∨ Rng 32 c) col W col' W' := by
  obtain ⟨col', h1, h2, h3⟩ := hd
  exact ⟨col', ⟨h.since.step h3 ap12.z, h1, h2, hL⟩, h3⟩
end
def sa : ByteArray := ⟨#[97]⟩
def sb : ByteArray := ⟨#[98]⟩
def sc : ByteArray := ⟨#[99]⟩
def exC : List (Int × Int) := [(8, 4)]
def q0 : PSt := newQ 3
def y0 : ASt := newA exC
def q1 : PSt := (q0.intern y0 sa).2
def y1 : ASt := q0.inP y0 sa
def q2 : PSt := (q1.intern y1 sb).2
def y2 : ASt := q1.inP y1 sb
def q3 : PSt := (q2.intern y2 sa).2
def y3 : ASt := q2.inP y2 sa
def q4 : PSt := (q3.release 1).2
def y4 : ASt := q3.reP y3 1
def q5 : PSt := (q4.release 1).2
def y5 : ASt := q4.reP y4 1
def q6 : PSt := (q5.intern y5 sc).2
def y6 : ASt := q5.inP y5 sc
theorem exq_c : clsE exC = 0 := by decide +kernel
theorem exq_1 : (q0.intern y0 sa).1 = (1, 0) := by decide +kernel
theorem exq_2 : (q1.intern y1 sb).1 = (2, 0) := by decide +kernel
theorem exq_3 : (q2.intern y2 sa).1 = (1, 0) := by decide +kernel
theorem exq_6 : (q5.intern y5 sc).1 = (1, 0) := by decide +kernel
theorem exq_l : aliveN q6.e = 2 := by decide +kernel
theorem exq_t : (y0.t ≤ 100000000 ∧ y1.t ≤ 100000000 ∧ y2.t ≤ 100000000 ∧ y3.t ≤ 100000000 ∧ y4.t ≤ 100000000 ∧ y5.t ≤ 100000000) ∧ q0.t ≤ 1000000000 ∧ q1.t ≤ 1000000000 ∧ q2.t ≤ 1000000000 ∧ q3.t ≤ 1000000000 ∧ q4.t ≤ 1000000000 ∧ q5.t ≤ 1000000000 := by decide +kernel
theorem exq_bd : ∀ x ∈ exC, I64 x.1 ∧ I64 x.2 := by intro x hx; simp [exC] at hx; subst hx; simp [I64]
set_option maxHeartbeats 4000000 in
theorem qawake_any {PA : Rep} (HP : ProgA PA) (w : World) : Calls Try.prog 18 #[] w (Yes w) := by
  have hs0 := Since.start w
  have hb1 : Below w.heap.size w (w.alloc (.cells #[.int .i64 8, .int .i64 4] 61)) := (Below.refl _ _).alloc (Nat.le_refl _) _
  have S1 := hs0.below' hb1
  have R1 : RdG kC (w.alloc (.cells #[.int .i64 8, .int .i64 4] 61)) (some ⟨w.heap.size, 0, none⟩) 1 1 exC := RdG.lit kC w exC rfl (by simp [exC, maxLen]) _
  obtain ⟨⟨t0, t1, t2, t3, t4, t5⟩, u0, u1, u2, u3, u4, u5⟩ := exq_t
  have hms : ∀ s ∈ [sa, sb, sc], s.size ≤ maxLen := by intro s hs; simp at hs; rcases hs with rfl | rfl | rfl <;> simp [maxLen, sa, sb, sc, ByteArray.size]
  go_enter Try.func18, Try.ntmps18
  go_wp2_with fail
  refine (HP.new (k := 32) S1.tidy (by omega) R1 (by omega) exq_bd).mono ?_
  rintro e w2 (⟨_, ga, rfl, hd⟩ | ⟨h0, _⟩)
  rotate_left
  · exact absurd exq_c h0
  obtain ⟨col2, p2, s2⟩ := hd
  have S2 := S1.step s2 (rng0 (by omega))
  clear s2 S1 R1 hb1 hs0
  go_wp2_with fail
  refine (pqNew (k := 16) (ga := ga) S2.tidy (by omega) 3 (by simp [I64])).mono ?_
  rintro e w3 (⟨_, g, rfl, col3, p3, s3⟩ | ⟨h0, _⟩)
  rotate_left
  · exact absurd h0 (by decide)
  have A3 : AtQ PA w col3 w3 g ga q0 y0 := ⟨S2.step s3 ap12.z1, p3, HP.keep p2 s3 (fun c h1 h2 => ap12.no c h2 h1) ap12.z1, Lnk.new _ _⟩
  clear p2 p3 s3 S2
  go_wp2_with fail
  refine (pqIntern HP A3.pq A3.pa A3.lnk ap12 A3.tidy t0 u0 sa (hms sa (by simp))).mono ?_
  rintro e w4 ⟨rfl, hd⟩
  rw [exq_1]
  obtain ⟨col4, A4, _⟩ := A3.did hd (A3.lnk.inP (HP.good A3.pa) sa)
  have A4 : AtQ PA w col4 w4 g ga q1 y1 := A4
  clear A3 hd
  go_wp2_with fail
  refine (pqIntern HP A4.pq A4.pa A4.lnk ap12 A4.tidy t1 u1 sb (hms sb (by simp))).mono ?_
  rintro e w5 ⟨rfl, hd⟩
  rw [exq_2]
  obtain ⟨col5, A5, _⟩ := A4.did hd (A4.lnk.inP (HP.good A4.pa) sb)
  have A5 : AtQ PA w col5 w5 g ga q2 y2 := A5
  clear A4 hd
  go_wp2_with fail
  refine (pqIntern HP A5.pq A5.pa A5.lnk ap12 A5.tidy t2 u2 sa (hms sa (by simp))).mono ?_
  rintro e w6 ⟨rfl, hd⟩
  rw [exq_3]
  obtain ⟨col6, A6, _⟩ := A5.did hd (A5.lnk.inP (HP.good A5.pa) sa)
  have A6 : AtQ PA w col6 w6 g ga q3 y3 := A6
  clear A5 hd
  go_wp2_with fail
  refine (pqRelease HP A6.pq A6.pa A6.lnk ap12 A6.tidy t3 u3 1 (by simp [I64])).mono ?_
  rintro e w7 ⟨rfl, hd⟩
  obtain ⟨col7, A7, _⟩ := A6.did hd (A6.lnk.reP (HP.good A6.pa) 1)
  have A7 : AtQ PA w col7 w7 g ga q4 y4 := A7
  clear A6 hd
  generalize (q3.release 1).1 = z1
  go_wp2_with fail
  refine (pqRelease HP A7.pq A7.pa A7.lnk ap12 A7.tidy t4 u4 1 (by simp [I64])).mono ?_
  rintro e w8 ⟨rfl, hd⟩
  obtain ⟨col8, A8, _⟩ := A7.did hd (A7.lnk.reP (HP.good A7.pa) 1)
  have A8 : AtQ PA w col8 w8 g ga q5 y5 := A8
  clear A7 hd
  generalize (q4.release 1).1 = z2
  go_wp2_with fail
  refine (pqIntern HP A8.pq A8.pa A8.lnk ap12 A8.tidy t5 u5 sc (hms sc (by simp))).mono ?_
  rintro e w9 ⟨rfl, hd⟩
  rw [exq_6]
  obtain ⟨col9, A9, _⟩ := A8.did hd (A8.lnk.inP (HP.good A8.pa) sc)
  have A9 : AtQ PA w col9 w9 g ga q6 y6 := A9
  clear A8 hd
  have hln := pqLen A9.pq
  rw [exq_l] at hln
  go_wp2_with fail
  refine hln.mono ?_
  rintro e w10 ⟨rfl, hb⟩
  have hB := (A9.since.below' hb).below
  clear A9 hln
  go_wp2
  go_ret
  exact ⟨rfl, hB⟩
end Go.Proofs.Ytenchaifnfgijaa

/- The statements about package index: awake. Conditions: the program's tables keep their contracts (ProgMk). -/
import Derived.Test.YtdifkcjciblkpaaMprog
import Derived.Test.YtdifkcjciblkpaaUdeck
namespace Go.Proofs.Ytdifkcjciblkpaa
open Go.ChangeShapes Go.WideShapes Go.ChangeAt Go.RowKit
set_option linter.unusedVariables false
set_option linter.unusedSimpArgs false
set_option maxRecDepth 100000

/-- Nothing elder has turned, and a table. -/
structure AtM {α : Type} (PM : RepM α) (w0 : World) (col : Col) (W : World) (k g : Nat) (m : MSt α) : Prop where
  since : Since w0 col W
  pm : PM col k W g m
section
variable {α : Type} {PM : RepM α} {w0 W W' : World} {col col' : Col} {k g : Nat} {m m' : MSt α} {V : α → Value} {z : α} {ok : α → Prop} {fN fP fG fD fL : Nat}
theorem AtM.tidy (h : AtM PM w0 col W k g m) : Tidy col W := h.since.tidy
theorem Since.below2 (h : Since w0 col W) (hb : Below W.heap.size W W') : Since w0 col W' := h.step (P := fun _ => False) (StepC.below h.tidy hb) (fun h => h)
theorem AtM.below (HP : ProgM V z ok fN fP fG fD fL PM) (h : AtM PM w0 col W k g m) (hb : Below W.heap.size W W') : AtM PM w0 col W' k g m := ⟨h.since.below2 hb, HP.below h.pm h.tidy hb⟩
theorem AtM.did (h : AtM PM w0 col W k g m) (hk : 1 ≤ k) (hd : DidPM PM col k W g m' W') : ∃ col', AtM PM w0 col' W' k g m' := by
  obtain ⟨col', h1, s⟩ := hd
  exact ⟨col', h.since.step s (rng0 hk), h1⟩
end
def exA : ByteArray := ⟨#[97]⟩
def exB : ByteArray := ⟨#[98]⟩
def exC : ByteArray := ⟨#[99]⟩
theorem exAB : exB ≠ exA := by decide
theorem exAC : exC ≠ exA := by decide
theorem exBC : exC ≠ exB := by decide
/-- The chapter's example. -/
theorem ex_awake : ((newM Int 2).put exA 1).1 = 0 ∧ (((newM Int 2).put exA 1).2.put exB 2).1 = 0 ∧ ((((newM Int 2).put exA 1).2.put exB 2).2.put exA 3).1 = 0 ∧ (((((newM Int 2).put exA 1).2.put exB 2).2.put exA 3).2.put exC 4).1 = 7 ∧
    getG 0 (((((newM Int 2).put exA 1).2.put exB 2).2.put exA 3).2.put exC 4).2 exA = (3, true) := by
  have g0 : GoodM (newM Int 2) := newM_good (by omega) (by omega)
  have p1 := put_fresh (m := newM Int 2) (newM_look 2 exA) (by decide) (1 : Int)
  have k1 := put_look g0 exA (1 : Int) p1.1
  have g1 := g0.put exA 1
  have n1 : ((newM Int 2).put exA 1).2.n = 2 := put_n _ _ _
  generalize ((newM Int 2).put exA 1) = q1 at *
  have b1 : q1.2.look exB = none := by rw [k1, if_neg exAB]; rfl
  have p2 := put_fresh b1 (by rw [p1.2, n1]; decide) (2 : Int)
  have k2 := put_look g1 exB (2 : Int) p2.1
  have g2 := g1.put exB 2
  have n2 := (put_n q1.2 exB 2).trans n1
  generalize q1.2.put exB 2 = q2 at *
  have a2 : q2.2.look exA = some 1 := by rw [k2, if_neg exAB.symm, k1, if_pos rfl]
  have p3 := put_old a2 (3 : Int)
  have k3 := put_look g2 exA (3 : Int) p3.1
  have n3 := (put_n q2.2 exA 3).trans n2
  generalize q2.2.put exA 3 = q3 at *
  have c3 : q3.2.look exC = none := by rw [k3, if_neg exAC, k2, if_neg exBC, k1, if_neg exAC]; rfl
  have p4 := put_no c3 (by rw [p3.2, p2.2, p1.2, n3]; rfl) (4 : Int)
  refine ⟨p1.1, p2.1, p3.1, by rw [p4], ?_⟩
  rw [p4]
  unfold getG
  rw [k3, if_pos rfl]; rfl
set_option maxHeartbeats 4000000 in
theorem oawake_any {PM : RepM Int} (HP : ProgMi PM) (w : World) : Calls Try.prog 7 #[] w fun e w' => e = .returned (.bool true) ∧ Below w.heap.size w w' := by
  obtain ⟨i0, hi0, hz0, hz1, hz2⟩ := info_parts info_u64
  have hby : i0.bytes * 16 ≤ 281474976710656 := by rw [hz2]; omega
  have hmx : 16 ≤ maxLen := by simp only [maxLen]; omega
  have HZ2 := Lib.hid hz2
  clear hz2
  obtain ⟨x1, x2, x3, x4, x5⟩ := ex_awake
  have hS0 := Since.start w
  go_enter Try.func7, Try.ntmps7
  go_wp2_with (at_make; refine wpList_make_full _ rfl _ _ 22 rfl w.heap.size 32 i0 _ 1 Try.underlying22 hi0 hz0 hz1 _ _ _ _ 16 rfl rfl rfl rfl hby hmx (Nat.le_refl _) ?_)
  intro W1 hown hgrow
  have O1 : OwnU W1 w.heap.size (.slice (some ⟨w.heap.size, 0, none⟩) 16 16) (List.replicate 16 0) := OwnU.made hown
  have r1 := O1.reads
  have hb1 : Below w.heap.size w W1 := (Below.refl _ _).grown hgrow (Nat.le_refl _) (fun k hk => by cases hk)
  have S1 := hS0.below2 hb1
  have R1 : RdU0 (fun _ => 0) W1 (some ⟨w.heap.size, 0, none⟩) 16 16 (List.replicate 16 0) := ⟨r1, fun _ _ _ _ _ => rfl⟩
  clear hown hgrow hi0 hz0 hz1 hby hmx HZ2 O1 r1 hS0
  generalize List.replicate 16 (0 : Int) = z16 at *
  go_wp2_with fail
  refine (HP.new (k := 16) S1.tidy (by omega) R1 2 0 (by omega) (by omega)).mono ?_
  rintro e w2 (⟨_, g, rfl, hd⟩ | ⟨h0, _⟩)
  rotate_left
  · exact absurd (show mapE 2 16 = 0 by decide) h0
  obtain ⟨col2, p2, s2⟩ := hd
  have A2 : AtM PM w col2 w2 16 g (newM Int 2) := ⟨S1.step s2 (rng0 (by omega)), p2⟩
  clear S1 R1 s2 p2 hb1
  go_wp2_with fail
  refine (HP.put A2.pm A2.tidy exA 1 (by decide) (by simp [I64'])).mono ?_
  rintro e w3 ⟨rfl, hd⟩
  obtain ⟨col3, A3⟩ := A2.did (by omega) hd
  rw [x1]
  clear A2 hd x1
  go_wp2_with fail
  refine (HP.put A3.pm A3.tidy exB 2 (by decide) (by simp [I64'])).mono ?_
  rintro e w4 ⟨rfl, hd⟩
  obtain ⟨col4, A4⟩ := A3.did (by omega) hd
  rw [x2]
  clear A3 hd x2
  go_wp2_with fail
  refine (HP.put A4.pm A4.tidy exA 3 (by decide) (by simp [I64'])).mono ?_
  rintro e w5 ⟨rfl, hd⟩
  obtain ⟨col5, A5⟩ := A4.did (by omega) hd
  rw [x3]
  clear A4 hd x3
  go_wp2_with fail
  refine (HP.put A5.pm A5.tidy exC 4 (by decide) (by simp [I64'])).mono ?_
  rintro e w6 ⟨rfl, hd⟩
  obtain ⟨col6, A6⟩ := A5.did (by omega) hd
  rw [x4]
  clear A5 hd x4
  go_wp2_with fail
  refine (HP.get A6.pm A6.tidy exA (by decide)).mono ?_
  rintro e w7 ⟨rfl, hb7⟩
  have A7 := A6.below HP hb7
  rw [x5]
  have hb := A7.since.below
  clear A6 A7 hb7 x5
  go_wp2
  go_ret
  exact ⟨rfl, hb⟩
end Go.Proofs.Ytdifkcjciblkpaa

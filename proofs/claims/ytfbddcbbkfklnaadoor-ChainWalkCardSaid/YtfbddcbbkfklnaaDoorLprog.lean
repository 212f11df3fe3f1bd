/- All that the statements use of the program's lists: of numbers, of texts; what a nil list of texts returns. Conditions: none beyond those typed. -/
import Derived.Test.YtfbddcbbkfklnaaDoorLiall
import Derived.Test.YtfbddcbbkfklnaaDoorLsall
namespace Go.Proofs.YtfbddcbbkfklnaaDoor
open Go.ChangeShapes Go.WideShapes Go.ChangeAt Go.RowKit
set_option linter.unusedVariables false
set_option linter.unusedSimpArgs false
set_option maxRecDepth 100000

theorem progL0 : ProgL0 PLi where
  keep := PLi.keep
  good := fun h => by obtain ⟨_, _, _, _, _, _, _, _, _, R⟩ := h; exact R.good
  new := fun ht hT hk n hn => lnewi_any ht hT hk n hn
  pushB := fun h ht v _ => lpushBi_any h ht v
  vals := fun h ht => lvalsi_any h ht
theorem progLi : ProgLi PLi where
  all := progL0
  pushF := fun h ht v _ => lpushFi_any h ht v
  insA := fun h ht z v hz _ => linsAi_any h ht hz v
  rem := fun h ht z hz => lremi_any h ht hz
  val := fun h ht z hz => (lvaluei_any h ht hz).mono fun e w' h => ⟨h.1, by obtain ⟨_, j, rfl⟩ := h; exact below_drewN (Below.refl _ _) j⟩
  next := fun h ht z hz => (lnexti_any h ht hz).mono fun e w' h => ⟨h.1, by obtain ⟨_, j, rfl⟩ := h; exact below_drewN (Below.refl _ _) j⟩
  prev := fun h ht z hz => (lprevi_any h ht hz).mono fun e w' h => ⟨h.1, by obtain ⟨_, j, rfl⟩ := h; exact below_drewN (Below.refl _ _) j⟩
  first := fun h ht => lfirsti_any h
  last := fun h ht => llasti_any h
  len := fun h ht => (lleni_any h).mono fun e w' h => ⟨h.1, by obtain ⟨_, rfl⟩ := h; exact Below.refl _ _⟩
theorem progLs : ProgLs PLs where
  keep := PLs.keep
  good := fun h => by obtain ⟨_, _, _, _, _, _, _, _, _, R⟩ := h; exact R.good
  new := fun ht hT hk n hn => lnews_any ht hT hk n hn
  pushB := fun h ht v _ => lpushBs_any h ht v
  vals := fun h ht => lvalss_any h ht
theorem cnilHas (w : World) (z : Int) : Calls Tryd.prog 41 #[.pointer none, .int .i64 z] w fun e w' => e = .returned (.bool false) ∧ ∃ j, w' = w.drewN j := by
  go_enter Tryd.func41, Tryd.ntmps41
  go_wp2
  go_quiet (fail)
  go_wp2
  go_ret
  exact ⟨rfl, _, rfl⟩
theorem cnilLen (w : World) : Calls Tryd.prog 18 #[.pointer none] w fun e w' => e = .returned (.int .i64 0) ∧ Below w.heap.size w w' := by
  go_enter Tryd.func18, Tryd.ntmps18
  go_wp2
  go_ret
  exact ⟨rfl, Below.refl _ _⟩
theorem cnilIns (w : World) (a : Int) (s : ByteArray) : Calls Tryd.prog 40 #[.pointer none, .int .i64 a, .string s] w fun e w' => e = .returned (.tuple #[.int .i64 0, .int .i64 8]) ∧ Below w.heap.size w w' := by
  go_enter Tryd.func40, Tryd.ntmps40
  go_wp2
  go_ret2
  exact ⟨rfl, Below.refl _ _⟩
theorem cnilLast (w : World) : Calls Tryd.prog 17 #[.pointer none] w fun e w' => e = .returned (.int .i64 (-1)) ∧ Below w.heap.size w w' := by
  have h1 := cnilLen w
  go_enter Tryd.func17, Tryd.ntmps17
  go_wp2_with fail
  refine h1.mono ?_
  rintro e w1 ⟨rfl, hb⟩
  go_wp2
  go_ret
  exact ⟨rfl, hb⟩
theorem cnilFirst (w : World) : Calls Tryd.prog 16 #[.pointer none] w fun e w' => e = .returned (.int .i64 (-1)) ∧ Below w.heap.size w w' := by
  have h1 := cnilLen w
  go_enter Tryd.func16, Tryd.ntmps16
  go_wp2_with fail
  refine h1.mono ?_
  rintro e w1 ⟨rfl, hb⟩
  go_wp2
  go_ret
  exact ⟨rfl, hb⟩
theorem cnilNext (w : World) (z : Int) : Calls Tryd.prog 14 #[.pointer none, .int .i64 z] w fun e w' => e = .returned (.int .i64 (-1)) ∧ Below w.heap.size w w' := by
  have h1 := cnilHas w z
  go_enter Tryd.func14, Tryd.ntmps14
  go_wp2_with fail
  refine h1.mono ?_
  rintro e w1 ⟨rfl, j, rfl⟩
  go_wp2
  go_ret
  exact ⟨rfl, below_drewN (Below.refl _ _) j⟩
theorem cnilPrev (w : World) (z : Int) : Calls Tryd.prog 15 #[.pointer none, .int .i64 z] w fun e w' => e = .returned (.int .i64 (-1)) ∧ Below w.heap.size w w' := by
  have h1 := cnilHas w z
  go_enter Tryd.func15, Tryd.ntmps15
  go_wp2_with fail
  refine h1.mono ?_
  rintro e w1 ⟨rfl, j, rfl⟩
  go_wp2
  go_ret
  exact ⟨rfl, below_drewN (Below.refl _ _) j⟩
theorem cnilVal (w : World) (z : Int) : Calls Tryd.prog 13 #[.pointer none, .int .i64 z] w fun e w' => e = .returned (.tuple #[.string ⟨#[]⟩, .int .i64 8]) ∧ Below w.heap.size w w' := by
  have h1 := cnilHas w z
  go_enter Tryd.func13, Tryd.ntmps13
  go_wp2_with fail
  refine h1.mono ?_
  rintro e w1 ⟨rfl, j, rfl⟩
  go_wp2
  go_ret2
  exact ⟨rfl, below_drewN (Below.refl _ _) j⟩
theorem cnilRem (w : World) (z : Int) : Calls Tryd.prog 12 #[.pointer none, .int .i64 z] w fun e w' => e = .returned (.tuple #[.string ⟨#[]⟩, .int .i64 8]) ∧ Below w.heap.size w w' := by
  have h1 := cnilVal w z
  go_enter Tryd.func12, Tryd.ntmps12
  go_wp2_with fail
  refine h1.mono ?_
  rintro e w1 ⟨rfl, hb⟩
  go_wp2
  go_ret2
  exact ⟨rfl, hb⟩
theorem cnilPushB (w : World) (s : ByteArray) : Calls Tryd.prog 9 #[.pointer none, .string s] w fun e w' => ∃ z : Int, e = .returned (.tuple #[.int .i64 z, .int .i64 8]) ∧ Below w.heap.size w w' := by
  have h1 := cnilLast w
  go_enter Tryd.func9, Tryd.ntmps9
  go_wp2_with fail
  refine h1.mono ?_
  rintro e w1 ⟨rfl, hb⟩
  have h2 := cnilIns w1 (-1) s
  go_wp2_with fail
  refine h2.mono ?_
  rintro e w2 ⟨rfl, hb2⟩
  have hb3 := below_then hb hb2
  clear h1 h2 hb hb2
  go_wp2
  go_ret2
  exact ⟨0, rfl, hb3⟩
theorem cnilPushF (w : World) (s : ByteArray) : Calls Tryd.prog 10 #[.pointer none, .string s] w fun e w' => ∃ z : Int, e = .returned (.tuple #[.int .i64 z, .int .i64 8]) ∧ Below w.heap.size w w' := by
  have h2 := cnilIns w (-1) s
  go_enter Tryd.func10, Tryd.ntmps10
  go_wp2_with fail
  refine h2.mono ?_
  rintro e w2 ⟨rfl, hb2⟩
  clear h2
  go_wp2
  go_ret2
  exact ⟨0, rfl, hb2⟩
theorem cnilInsA (w : World) (z : Int) (s : ByteArray) : Calls Tryd.prog 11 #[.pointer none, .int .i64 z, .string s] w fun e w' => ∃ z : Int, e = .returned (.tuple #[.int .i64 z, .int .i64 8]) ∧ Below w.heap.size w w' := by
  have h1 := cnilHas w z
  go_enter Tryd.func11, Tryd.ntmps11
  go_wp2_with fail
  refine h1.mono ?_
  rintro e w1 ⟨rfl, j, rfl⟩
  go_wp2
  go_ret2
  exact ⟨0, rfl, below_drewN (Below.refl _ _) j⟩
set_option maxHeartbeats 1000000 in
theorem cnilVals (w : World) : Calls Tryd.prog 19 #[.pointer none] w fun e w' => ∃ A c, e = .returned (.slice A 0 c) ∧ Below w.heap.size w w' := by
  have h1 := cnilLen w
  obtain ⟨CS, hmk, hOw⟩ := make0_any kT (n := 0) (by omega)
  have hmk' : ∀ W : World, (Instr.makeSlice 38 (.int .i64 0) (.int .i64 0)).run Tryd.prog W = .ok (.slice (some ⟨W.heap.size, 0, none⟩) 0 0) (W.alloc (.cells CS 9)) := hmk
  clear hmk hOw
  go_enter Tryd.func19, Tryd.ntmps19
  go_wp2_with fail
  refine h1.mono ?_
  rintro e w1 ⟨rfl, hb⟩
  have h2 := cnilFirst (w1.alloc (.cells CS 9))
  have hb1 := hb.alloc hb.size (.cells CS 9)
  clear h1 hb
  go_wp2_with fail
  refine h2.mono ?_
  rintro e w2 ⟨rfl, hb2⟩
  have hb3 := Lib.hid (below_then hb1 hb2)
  clear h2 hb1 hb2 hmk'
  go_wp2
  go_loopw [3, 4] (fun vv nv wr => vv = .slice (some ⟨w1.heap.size, 0, none⟩) 0 0 ∧ nv = .int .i64 (-1) ∧ wr = w2) (fun _ _ _ => 0)
  case atStart => exact ⟨rfl, rfl, rfl⟩
  case round =>
    obtain ⟨rfl, rfl, hw⟩ := hrel
    subst hw
    go_wp2
    go_ret
    exact ⟨_, _, rfl, hb3.out⟩
theorem progLn : ProgLn where
  pushB := cnilPushB
  pushF := cnilPushF
  insA := fun w s => cnilInsA w 0 s
  rem := fun w => (cnilRem w 0).mono fun e w' h => ⟨_, h⟩
  val := fun w => (cnilVal w 0).mono fun e w' h => ⟨_, h⟩
  next := fun w => cnilNext w 0
  prev := fun w => cnilPrev w 0
  first := cnilFirst
  last := cnilLast
  len := cnilLen
  vals := cnilVals
end Go.Proofs.YtfbddcbbkfklnaaDoor

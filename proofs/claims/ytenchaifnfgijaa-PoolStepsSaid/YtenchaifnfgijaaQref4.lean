/- The specified pool in memory: New; rows of one element. Conditions: none beyond those typed. -/
import Derived.Test.YtenchaifnfgijaaQref3
namespace Go.Proofs.Ytenchaifnfgijaa
open Go.ChangeShapes Go.WideShapes Go.ChangeAt Go.RowKit
set_option linter.unusedVariables false
set_option linter.unusedSimpArgs false
set_option maxRecDepth 100000

theorem OwnK.one {α : Type} {K : Kind α} {w : World} {h : Nat} (e : h = w.heap.size) (a : α) {cs : Array Value} (hc : cs.toList = K.enc a) : OwnK K (w.alloc (.cells cs K.ty)) (.slice (some ⟨h, 0, none⟩) 1 1) [a] := by
  subst e
  have hl : cs.size = K.k := by rw [← Array.length_toList, hc, K.len]
  have he : cellsK K [a] = cs.toList := by rw [hc]; simp [cellsK]
  exact ⟨by rw [he, Array.length_toList, hl]; simp, .inr ⟨_, 1, cs, rfl, Nat.zero_le _, heap_alloc_new w _, Nat.le_refl _, by simp [maxLen], by rw [hl, Nat.one_mul], by
    rw [he, List.take_of_length_le]
    rw [Array.length_toList, hl]
    simp⟩⟩
/-- Which pools can be made. -/
def newE (n : Int) : Int := if n < 1 ∨ 8192 < n then 1 else 0
theorem newE_ok {n : Int} (h : newE n = 0) : 1 ≤ n ∧ n ≤ 8192 := by unfold newE at h; split at h <;> omega
section
variable {col : Col} {w : World} {k g ga : Nat}
def NewRQ (col : Col) (k ga : Nat) (n : Int) (w : World) (e : Ending) (w' : World) : Prop :=
  (newE n = 0 ∧ ∃ g, e = .returned (.tuple #[.pointer (some ⟨g, 0, none⟩), .int .i64 0]) ∧ ∃ col', RefQ col' k w' g ga (newQ n.toNat) ∧ StepC (Rng k) col w col' w') ∨ (newE n = 1 ∧ e = .returned (.tuple #[.pointer none, .int .i64 1]) ∧ Below w.heap.size w w')
/-- A block that is new and gets a colour. -/
theorem StepC.new (ht : Tidy col w) (o : Obj) (c : Nat) (P : Nat → Prop) : StepC P col w (dye col (some w.heap.size) c) (w.alloc o) :=
  StepC.newRow ht ((Below.refl _ _).alloc (Nat.le_refl _) o) fun b e => by injection e with e; subst e; exact ⟨Nat.le_refl _, by simp⟩
theorem OwnKc.one {α : Type} (K : Kind α) (ht : Tidy col w) (c : Nat) (a : α) {cs : Array Value} (hc : cs.toList = K.enc a) :
    ∃ col', OwnKc K col' (w.alloc (.cells cs K.ty)) c (.slice (some ⟨w.heap.size, 0, none⟩) 1 1) [a] ∧ ∀ P, StepC P col w col' (w.alloc (.cells cs K.ty)) :=
  ⟨_, OwnKc.mk' (c := c) (col := col) K (OwnK.one rfl a hc), fun P => StepC.new ht _ c P⟩
theorem new_rq (ht : Tidy col w) (hk : 1 ≤ k) {m : Nat} (hG : GoodQ (newQ m)) :
    ∃ col', RefQ col' k ((((w.alloc (.cells #[.string ⟨#[]⟩] 9)).alloc (.cells #[.int .i64 0] 3)).alloc (.cells #[.int .i64 0, .int .i64 0, .int .i64 0] 81)).alloc (.cells #[.pointer (some ⟨ga, 0, none⟩), .int .i64 m, .slice (some ⟨w.heap.size, 0, none⟩) 1 1, .slice (some ⟨w.heap.size + 1, 0, none⟩) 1 1, .slice (some ⟨w.heap.size + 1 + 1, 0, none⟩) 1 1] 84)) (w.heap.size + 1 + 1 + 1) ga (newQ m)
      ∧ StepC (Rng k) col w col' ((((w.alloc (.cells #[.string ⟨#[]⟩] 9)).alloc (.cells #[.int .i64 0] 3)).alloc (.cells #[.int .i64 0, .int .i64 0, .int .i64 0] 81)).alloc (.cells #[.pointer (some ⟨ga, 0, none⟩), .int .i64 m, .slice (some ⟨w.heap.size, 0, none⟩) 1 1, .slice (some ⟨w.heap.size + 1, 0, none⟩) 1 1, .slice (some ⟨w.heap.size + 1 + 1, 0, none⟩) 1 1] 84)) := by
  obtain ⟨col1, o1, S1⟩ := OwnKc.one kT ht (k + 1) ⟨#[]⟩ (cs := #[.string ⟨#[]⟩]) rfl
  obtain ⟨w1, e1⟩ : ∃ w1, w1 = w.alloc (.cells #[.string ⟨#[]⟩] 9) := ⟨_, rfl⟩
  have z1 : w1.heap.size = w.heap.size + 1 := by rw [e1]; simp
  rw [show kT.ty = 9 from rfl, ← e1] at o1 S1
  rw [← e1]
  obtain ⟨col2, o2, S2⟩ := OwnKc.one kI (S1 (Rng k)).tidy (k + 2) 0 (cs := #[.int .i64 0]) rfl
  obtain ⟨w2, e2⟩ : ∃ w2, w2 = w1.alloc (.cells #[.int .i64 0] 3) := ⟨_, rfl⟩
  have z2 : w2.heap.size = w.heap.size + 1 + 1 := by rw [e2]; simp [z1]
  rw [show kI.ty = 3 from rfl, ← e2, z1] at o2
  rw [show kI.ty = 3 from rfl, ← e2] at S2
  rw [← e2]
  obtain ⟨col3, o3, S3⟩ := OwnKc.one kH (S2 (Rng k)).tidy (k + 3) (0, 0, 0) (cs := #[.int .i64 0, .int .i64 0, .int .i64 0]) rfl
  obtain ⟨w3, e3⟩ : ∃ w3, w3 = w2.alloc (.cells #[.int .i64 0, .int .i64 0, .int .i64 0] 81) := ⟨_, rfl⟩
  have z3 : w3.heap.size = w.heap.size + 1 + 1 + 1 := by rw [e3]; simp [z2]
  rw [show kH.ty = 81 from rfl, ← e3, z2] at o3
  rw [show kH.ty = 81 from rfl, ← e3] at S3
  rw [← e3]
  have S4 := fun P => StepC.new (S3 (Rng k)).tidy (.cells #[.pointer (some ⟨ga, 0, none⟩), .int .i64 m, .slice (some ⟨w.heap.size, 0, none⟩) 1 1, .slice (some ⟨w.heap.size + 1, 0, none⟩) 1 1, .slice (some ⟨w.heap.size + 1 + 1, 0, none⟩) 1 1] 84) k P
  refine ⟨_, ⟨hG, w.heap.size, 1, w.heap.size + 1, 1, w.heap.size + 1 + 1, 1, ⟨⟨by rw [← z3]; exact heap_alloc_new w3 _, by rw [z3]; exact dye_of⟩, ?_, ?_, ?_, hk⟩⟩, (((S1 _).trans (S2 _)).trans (S3 _)).trans (S4 _)⟩
  · exact ((o1.keep (S2 fun _ => False) id).keep (S3 fun _ => False) id).keep (S4 fun _ => False) id
  · exact (o2.keep (S3 fun _ => False) id).keep (S4 fun _ => False) id
  · exact o3.keep (S4 fun _ => False) id
set_option maxHeartbeats 1000000 in
theorem rqNew (ht : Tidy col w) (hk : 1 ≤ k) (n : Int) (hn : I64 n) :
    Calls Try.prog 12 #[.pointer (some ⟨ga, 0, none⟩), .int .i64 n] w (NewRQ col k ga n w) := by
  obtain ⟨i1, i2⟩ := hn
  by_cases h1 : n < 1
  · have HE := Lib.hid (show newE n = 1 from if_pos (.inl h1))
    go_enter Try.func12, Try.ntmps12
    go_wp2
    go_ret2
    exact .inr ⟨HE.out, rfl, Below.refl _ _⟩
  by_cases h2 : 8192 < n
  · have HE := Lib.hid (show newE n = 1 from if_pos (.inr h2))
    go_enter Try.func12, Try.ntmps12
    go_wp2
    go_ret2
    exact .inr ⟨HE.out, rfl, Below.refl _ _⟩
  have HE := Lib.hid (show newE n = 0 from if_neg (by omega))
  obtain ⟨m, hm⟩ : ∃ m : Nat, n = m := ⟨n.toNat, by omega⟩
  subst hm
  have HG := Lib.hid (newQ_good (n := m) (by omega) (by omega))
  have HQ := Lib.hid (new_rq (ga := ga) ht hk HG.out)
  go_enter Try.func12, Try.ntmps12
  go_wp2
  go_ret2
  exact .inl ⟨HE.out, _, rfl, HQ.out⟩
end
end Go.Proofs.Ytenchaifnfgijaa

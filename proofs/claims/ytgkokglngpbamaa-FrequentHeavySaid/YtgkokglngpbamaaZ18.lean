/- Words laid together in one text. Conditions: none beyond those typed. -/
import Derived.Test.YtgkokglngpbamaaZ02
import Derived.Test.YtgkokglngpbamaaFpswap
import Derived.Test.YtgkokglngpbamaaZ10
import Derived.Test.YtgkokglngpbamaaZ03
import Derived.Test.YtgkokglngpbamaaZ13
import Derived.RangeFuncCalls
import Derived.OrdersIn
import Derived.TacticsIn
/- Finer colours: an object whose blocks have the colours k .. k+15 holds objects of its own, each with colours of its own in a second colouring. Conditions: none beyond those typed. -/
namespace Go.Proofs.Ytgkokglngpbamaa
open Go.ChangeShapes Go.WideShapes Go.ChangeAt Go.RowKit
set_option linter.unusedVariables false
set_option linter.unusedSimpArgs false

/-- c2 parts the blocks that have the colours of k in col; what lies outside has colour 1, what nobody writes colour 0. -/
def Fine (k : Nat) (col c2 : Col) : Prop := ∀ b, (col b = 0 → c2 b = 0) ∧ (Rng k (col b) → c2 b ≠ 0) ∧ (col b ≠ 0 → ¬ Rng k (col b) → c2 b = 1)
instance (k c : Nat) : Decidable (Rng k c) := inferInstanceAs (Decidable (_ ∧ _))
/-- Colours for blocks that are not parted yet. -/
def fineOf (k : Nat) (col : Col) : Col := fun b => if col b = 0 then 0 else if Rng k (col b) then 2 else 1
section
variable {P P2 : Nat → Prop} {col col' c2 c2' : Col} {w w' : World} {k : Nat}
theorem fineOf_fine (hk : 1 ≤ k) (col : Col) : Fine k col (fineOf k col) := fun b => by
  unfold fineOf
  refine ⟨fun h => if_pos h, fun h => ?_, fun h h' => ?_⟩
  · rw [if_neg (fun e => by rw [e] at h; exact rng0 hk h), if_pos h]; decide
  · rw [if_neg h, if_neg h']
theorem fineOf_tidy (ht : Tidy col w) : Tidy (fineOf k col) w := fun b hb => by unfold fineOf; rw [if_pos (ht b hb)]
/-- A step of what lies within is a step of the whole. -/
theorem Fine.out (F : Fine k col c2) (hk : 1 ≤ k) (ht : Tidy col w) (hs : StepC P2 c2 w c2' w') (hP : ∀ c, P2 c → 2 ≤ c) : ∃ col', Fine k col' c2' ∧ StepC (Rng k) col w col' w' := by
  refine ⟨fun b => if b < w.heap.size then col b else if c2' b = 0 then 0 else k, fun b => ?_, ⟨hs.os, hs.tape, hs.output, hs.size, fun b hb => if_pos hb, fun b hb => ?_, fun b hb hp => ?_⟩⟩
  · by_cases hb : b < w.heap.size
    · simp only [if_pos hb]
      rw [hs.kept b hb]
      exact F b
    · simp only [if_neg hb]
      by_cases h0 : c2' b = 0
      · simp only [if_pos h0]
        exact ⟨fun _ => h0, fun h => absurd h (rng0 hk), fun h => absurd rfl h⟩
      · simp only [if_neg h0]
        exact ⟨fun h => by omega, fun _ => h0, fun _ h => absurd (show Rng k k from ⟨Nat.le_refl _, by omega⟩) h⟩
  · have h1 := hs.size
    show (if b < w.heap.size then col b else if c2' b = 0 then 0 else k) = 0
    rw [if_neg (by omega), if_pos (hs.tidy b hb)]
  · refine hs.block b hb fun h => ?_
    have h2 := hP _ h
    obtain ⟨f1, _, f3⟩ := F b
    by_cases h0 : col b = 0
    · rw [f1 h0] at h2; omega
    · rw [f3 h0 hp] at h2; omega
/-- A step elsewhere leaves what lies within. -/
theorem Fine.inn (F : Fine k col c2) (hk : 1 ≤ k) (ht2 : Tidy c2 w) (hs : StepC P col w col' w') (hP : ∀ c, Rng k c → ¬ P c) (h0 : ¬ P 0) : ∃ c2', Fine k col' c2' ∧ StepC (fun c => c = 1) c2 w c2' w' := by
  refine ⟨fun b => if b < w.heap.size then c2 b else fineOf k col' b, fun b => ?_, ⟨hs.os, hs.tape, hs.output, hs.size, fun b hb => if_pos hb, fun b hb => ?_, fun b hb hp => ?_⟩⟩
  · by_cases hb : b < w.heap.size
    · simp only [if_pos hb]
      rw [hs.kept b hb]
      exact F b
    · simp only [if_neg hb]
      exact fineOf_fine hk col' b
  · have h1 := hs.size
    show (if b < w.heap.size then c2 b else fineOf k col' b) = 0
    rw [if_neg (by omega)]
    exact fineOf_tidy hs.tidy b hb
  · refine hs.block b hb fun h => ?_
    obtain ⟨_, f2, f3⟩ := F b
    by_cases hr : Rng k (col b)
    · exact hP _ hr h
    · by_cases he : col b = 0
      · rw [he] at h; exact h0 h
      · exact hp (f3 he hr)
end
end Go.Proofs.Ytgkokglngpbamaa

/- The program's tables (Misra-Gries): words, New, what a nil table returns. Conditions: none beyond those typed. -/
namespace Go.Proofs.Ytgkokglngpbamaa
open Go.ChangeShapes Go.WideShapes Go.ChangeAt Go.RowKit
set_option linter.unusedVariables false
set_option linter.unusedSimpArgs false
set_option maxRecDepth 100000

/-- The table t lies in block g. -/
def PTf : RepF := fun col k w g t => 1 ≤ k ∧ ∃ c2, Fine k col c2 ∧ Tidy c2 w ∧ SoFT c2 w g t
section
variable {P : Nat → Prop} {col col' c2 c2' : Col} {w w' : World} {k g : Nat} {t : TSt}
theorem PTf.keep (h : PTf col k w g t) (hs : StepC P col w col' w') (hp : ∀ c, Rng k c → ¬ P c) (h0 : ¬ P 0) : PTf col' k w' g t := by
  obtain ⟨hk, c2, F, t2, S⟩ := h
  obtain ⟨c2', F', s⟩ := F.inn hk t2 hs hp h0
  exact ⟨hk, c2', F', s.tidy, S.keep s (fun c hc => by omega) (by omega)⟩
theorem PTf.good (h : PTf col k w g t) : GoodF t := by
  obtain ⟨_, _, _, _, _, _, _, L⟩ := h
  exact L.gT
theorem DidFT.out (h : DidFT c2 w g t w') (F : Fine k col c2) (hk : 1 ≤ k) (ht : Tidy col w) : DidPF PTf col k w g t w' := by
  obtain ⟨c3, S, s⟩ := h
  obtain ⟨col', F', s'⟩ := F.out hk ht s (fun c hc => hc)
  exact ⟨col', ⟨hk, c3, F', s.tidy, S⟩, s'⟩
set_option maxHeartbeats 1000000 in
theorem fWords_any (w : World) : Calls Try.prog 32 #[] w fun e w' => ∃ T, e = .returned (.slice (some ⟨w.heap.size, 0, none⟩) 16 16) ∧ RdU w' (some ⟨w.heap.size, 0, none⟩) 16 16 T ∧ Below w.heap.size w w' := by
  obtain ⟨CS, hmk, hOw⟩ := make_any kU (n := 16) (by omega) (z := 0) rfl
  have hmk' : ∀ W : World, (Instr.makeSlice 64 (.int .i64 16) (.int .i64 16)).run Try.prog W = .ok (.slice (some ⟨W.heap.size, 0, none⟩) 16 16) (W.alloc (.cells CS 30)) := hmk
  have O1 := hOw w
  have b1 : Below w.heap.size w (w.alloc (.cells CS 30)) := (Below.refl _ _).alloc (Nat.le_refl _) _
  have hz : ∀ z ∈ List.replicate 16 (0 : Int), 0 ≤ z ∧ z ≤ 18446744073709551615 := fun z hz => by rw [(List.mem_replicate.1 hz).2]; omega
  have HS := Lib.hid (And.intro O1 (And.intro hz b1))
  clear O1 b1 hz hOw hmk
  go_enter Try.func32, Try.ntmps32
  go_wp2
  generalize List.replicate 16 (0 : Int) = T0 at *
  go_loopw [6] (fun iv wr => ∃ (i : Nat) (T : List Int), i ≤ 16 ∧ iv = .int .i64 (i : Int) ∧ OwnK kU wr (.slice (some ⟨w.heap.size, 0, none⟩) 16 16) T ∧ (∀ z ∈ T, 0 ≤ z ∧ z ≤ 18446744073709551615) ∧ Below w.heap.size w wr) (fun iv _ => 16 - (intOf iv).toNat)
  case atStart => exact ⟨0, T0, Nat.zero_le _, rfl, HS.out.1, HS.out.2.1, HS.out.2.2⟩
  case round =>
    clear HS hmk'
    obtain ⟨i, T, hi, rfl, hO, hT, hB⟩ := hrel
    by_cases hlt : i < 16
    · have hlen := hO.len
      obtain ⟨a, ha⟩ : ∃ a, T[i]? = some a := ⟨_, List.getElem?_eq_getElem (by omega)⟩
      have y0' := hO.cell ha (i := 0) (u := .int .u64 a) rfl
      have y0 : wr.cell? ⟨w.heap.size, i, none⟩ = some (.int .u64 a) := by simpa [show kU.k = 1 from rfl] using y0'
      have fz := hO.free i
      have hiI : (i : Int) < 16 := by omega
      have hw1 : IntKind.i64.wrap ((i : Int) + 1) = (i : Int) + 1 := by rw [IntKind.wrap_i64]; omega
      have hw2 : IntKind.u64.wrap (i : Int) = (i : Int) := IntWalk.u64_in _ ⟨by omega, by omega⟩
      have hst := hO.store (j := i) (i := 0) (a := a) (a' := (i : Int)) (u := .int .u64 (i : Int)) ha (by show 0 < 1; omega) rfl
      have hst' : OwnK kU (wr.setCell ⟨w.heap.size, i, none⟩ (.int .u64 (i : Int))) (.slice (some ⟨w.heap.size, 0, none⟩) 16 16) (T.set i (i : Int)) := by simpa [show kU.k = 1 from rfl] using hst
      have HN := Lib.hid (And.intro hst' (And.intro (OwnK.bound (i := i) hT (show 0 ≤ (i : Int) ∧ (i : Int) ≤ 18446744073709551615 by omega)) (hB.setCell (p := ⟨w.heap.size, i, none⟩) (Nat.le_refl _) (.int .u64 (i : Int)))))
      clear hst hst' hO hT hB ha y0' hlen
      go_wp2
      go_roundw
      case rel => exact ⟨i + 1, _, by omega, by go_num, HN.out.1, HN.out.2.1, HN.out.2.2⟩
      case measure => (simp [intOf] <;> omega)
    · have hi16 : i = 16 := by omega
      subst hi16
      have HE := Lib.hid (And.intro (RdU.ofK hO.reads hT) hB)
      clear hO hT hB
      go_wp2
      go_ret
      exact ⟨T, rfl, HE.out.1, HE.out.2⟩
set_option maxHeartbeats 1000000 in
theorem fNew_any (ht : Tidy col w) (hk : 1 ≤ k) (n : Int) (hn : J64 n) : Calls Try.prog 8 #[.int .i64 n] w (NewPF PTf col k n w) := by
  have F0 := fineOf_fine hk col
  have t0 := fineOf_tidy (k := k) ht
  unfold J64 at hn
  by_cases h1 : n < 1
  · have HE := Lib.hid (show svE n = 1 from if_pos (by omega))
    clear F0 t0
    go_enter Try.func8, Try.ntmps8
    go_wp2
    go_ret2
    exact .inr ⟨HE.out, rfl, Below.refl _ _⟩
  by_cases h2 : n > 64
  · have HE := Lib.hid (show svE n = 1 from if_pos (by omega))
    clear F0 t0
    go_enter Try.func8, Try.ntmps8
    go_wp2
    go_ret2
    exact .inr ⟨HE.out, rfl, Below.refl _ _⟩
  obtain ⟨q, rfl⟩ : ∃ q : Nat, n = (q : Int) := ⟨n.toNat, by omega⟩
  have HE := Lib.hid (show svE (q : Int) = 0 from if_neg (by omega))
  have hq : 1 ≤ q ∧ q ≤ 64 := by omega
  have hE2 : mapE (q : Int) 16 = 0 := by unfold mapE; rw [if_neg (by omega)]; decide
  have HF := Lib.hid (And.intro F0 (And.intro ht hk))
  have hWd := fWords_any w
  generalize fineOf k col = c2 at *
  clear F0
  go_enter Try.func8, Try.ntmps8
  go_wp2_with fail
  refine hWd.mono ?_
  rintro e w1 ⟨T, rfl, hR, b1⟩
  have s1 : StepC (fun _ => False) c2 w c2 w1 := StepC.below t0 b1
  have hU : RdU0 c2 w1 (some ⟨w.heap.size, 0, none⟩) 16 16 T := ⟨hR, fun _ b o sp e => by injection e with e; injection e with e1; rw [← e1]; exact t0 _ (Nat.le_refl _)⟩
  have hIn := neww_any (k := 48) s1.tidy (by omega) hU (q : Int) 0 (by omega) (by omega)
  have HS1 := Lib.hid s1
  clear hWd t0 b1 s1 hR hU
  go_wp2_with fail
  refine hIn.mono ?_
  rintro e w2 (⟨_, gm, rfl, c3, M3, s3⟩ | ⟨h0, _⟩)
  rotate_left
  · exact absurd hE2 h0
  rw [Int.toNat_natCast] at M3
  have HD := Lib.hid (show DidPF PTf col k w w2.heap.size (newT q) (w2.alloc (.cells #[.pointer (some ⟨gm, 0, none⟩), .int .u64 0, .int .u64 0] 67)) from by
    obtain ⟨F, ht, hk⟩ := HF.out
    have s4 := StepC.new s3.tidy (.cells #[.pointer (some ⟨gm, 0, none⟩), .int .u64 0, .int .u64 0] 67) 16 (fun _ => False)
    refine DidFT.out ⟨_, ⟨gm, newM Int q, ⟨⟨heap_alloc_new _ _, dye_of⟩, M3.keep s4 (fun _ _ h => h) (fun h => h)⟩, LkF.new hq⟩, ((HS1.out.mono (P' := fun c => 2 ≤ c) (fun c hc => hc.elim)).trans (s3.mono fun c hc => by have := hc.1; omega)).trans (s4.mono (fun c hc => hc.elim))⟩ F hk ht)
  clear hIn M3 s3 HF HS1 hE2
  go_wp2
  go_ret2
  exact .inl ⟨HE.out, w2.heap.size, rfl, HD.out⟩
end
theorem fnilGet (w : World) (s : ByteArray) : Calls Try.prog 10 #[.pointer none, .string s] w fun e w' => e = .returned (.tuple #[.agg (VE zeroE), .bool false]) ∧ Below w.heap.size w w' := by
  have HX := Lib.hid (show (w.alloc (.cells #[.string ⟨#[]⟩, .int .u64 0, .int .u64 0] 32)).heap[w.heap.size]? = some (.cells (VE zeroE) 32 (0, 0)) from heap_alloc_new w _)
  have HB := Lib.hid (show Below w.heap.size w (w.alloc (.cells #[.string ⟨#[]⟩, .int .u64 0, .int .u64 0] 32)) from (Below.refl _ _).alloc (Nat.le_refl _) _)
  go_enter Try.func10, Try.ntmps10
  go_wp2
  refine bodyPost_ret (results_cell_row2 rfl _ _ w.heap.size _ _ (0, 0) _ rfl HX.out Try.underlying32 rfl (by kernel_rfl)) rfl ?_
  exact ⟨rfl, HB.out⟩
set_option maxHeartbeats 2000000 in
theorem fnilTake (w : World) (s : ByteArray) : Calls Try.prog 11 #[.pointer none, .string s] w fun e w' => e = .returned (.tuple #[.agg (VE zeroE), .bool false]) ∧ Below w.heap.size w w' := by
  have b1 : Below w.heap.size w (w.alloc (.cells #[.string ⟨#[]⟩, .int .u64 0, .int .u64 0] 32)) := (Below.refl _ _).alloc (Nat.le_refl _) _
  have X1 : BoxC (fun _ => 0) (w.alloc (.cells #[.string ⟨#[]⟩, .int .u64 0, .int .u64 0] 32)) w.heap.size 0 (VE zeroE) 32 := ⟨heap_alloc_new _ _, rfl⟩
  have t1 : Tidy (fun _ => 0) (w.alloc (.cells #[.string ⟨#[]⟩, .int .u64 0, .int .u64 0] 32)) := fun _ _ => rfl
  have hGt : Calls Try.prog 10 #[.pointer none, .string s] (w.alloc (.cells #[.string ⟨#[]⟩, .int .u64 0, .int .u64 0] 32)) fun e w' => e = .returned (.tuple #[.agg #[.string ⟨#[]⟩, .int .u64 0, .int .u64 0], .bool false]) ∧ Below (w.alloc (.cells #[.string ⟨#[]⟩, .int .u64 0, .int .u64 0] 32)).heap.size (w.alloc (.cells #[.string ⟨#[]⟩, .int .u64 0, .int .u64 0] 32)) w' := fnilGet _ s
  obtain ⟨W1, hW1⟩ : ∃ W, W = w.alloc (.cells #[.string ⟨#[]⟩, .int .u64 0, .int .u64 0] 32) := ⟨_, rfl⟩
  obtain ⟨G, hG⟩ : ∃ G, w.heap.size = G := ⟨_, rfl⟩
  rw [← hW1] at X1 t1 hGt b1
  rw [hG] at X1
  have hGW : w.heap.size ≤ G := by omega
  go_enter Try.func11, Try.ntmps11
  go_wp2_with fail
  rw [← hW1]
  clear hW1
  refine hGt.mono ?_
  rintro e w2 ⟨rfl, b2⟩
  have b3 : Below W1.heap.size W1 (w2.alloc (.cells #[.string ⟨#[]⟩, .int .u64 0, .int .u64 0] 32)) := b2.alloc b2.size _
  have X3 : BoxC (fun _ => 0) (w2.alloc (.cells #[.string ⟨#[]⟩, .int .u64 0, .int .u64 0] 32)) G 0 (VE zeroE) 32 := X1.keep (P := fun _ => False) (StepC.below t1 b3) (fun h => h)
  obtain ⟨hX, hB, z0, z1, z2, f0, f1, f2⟩ := boxE X3 (w0 := w) hGW (below_then b1 b3) zeroE
  have z0' : (w2.alloc (.cells #[.string ⟨#[]⟩, .int .u64 0, .int .u64 0] 32)).cell? ⟨G, 0, none⟩ = some (.string ⟨#[]⟩) := z0
  have z1' : (w2.alloc (.cells #[.string ⟨#[]⟩, .int .u64 0, .int .u64 0] 32)).cell? ⟨G, 1, none⟩ = some (.int .u64 0) := z1
  have z2' : (w2.alloc (.cells #[.string ⟨#[]⟩, .int .u64 0, .int .u64 0] 32)).cell? ⟨G, 2, none⟩ = some (.int .u64 0) := z2
  have HX := Lib.hid hX
  have HB := Lib.hid hB
  clear X1 X3 hGt b1 b2 b3 hGW hG t1 z0 z1 z2 hX hB
  go_wp2
  refine bodyPost_ret (results_cell_row2 rfl _ _ G _ _ (0, 0) _ rfl HX.out Try.underlying32 rfl (by kernel_rfl)) rfl ?_
  exact ⟨rfl, HB.out⟩
set_option maxHeartbeats 2000000 in
theorem fnilSwap (w : World) (s : ByteArray) (e : En) : Calls Try.prog 12 #[.pointer none, .string s, .agg (VE e)] w fun r w' => r = .returned (.tuple #[.agg (VE zeroE), .int .i64 8]) ∧ Below w.heap.size w w' := by
  obtain ⟨k, o, sl⟩ := e
  have b0 : Below w.heap.size w (w.alloc (.cells #[.string k, .int .u64 o, .int .u64 sl] 32)) := (Below.refl _ _).alloc (Nat.le_refl _) _
  have b1 : Below w.heap.size w ((w.alloc (.cells #[.string k, .int .u64 o, .int .u64 sl] 32)).alloc (.cells #[.string ⟨#[]⟩, .int .u64 0, .int .u64 0] 32)) := b0.alloc b0.size _
  have hsz : (w.alloc (.cells #[.string k, .int .u64 o, .int .u64 sl] 32)).heap.size = w.heap.size + 1 := by simp
  have X1 : BoxC (fun _ => 0) ((w.alloc (.cells #[.string k, .int .u64 o, .int .u64 sl] 32)).alloc (.cells #[.string ⟨#[]⟩, .int .u64 0, .int .u64 0] 32)) (w.heap.size + 1) 0 (VE zeroE) 32 := by
    rw [← hsz]
    exact ⟨heap_alloc_new _ _, rfl⟩
  have t1 : Tidy (fun _ => 0) ((w.alloc (.cells #[.string k, .int .u64 o, .int .u64 sl] 32)).alloc (.cells #[.string ⟨#[]⟩, .int .u64 0, .int .u64 0] 32)) := fun _ _ => rfl
  have hGt : Calls Try.prog 10 #[.pointer none, .string s] ((w.alloc (.cells #[.string k, .int .u64 o, .int .u64 sl] 32)).alloc (.cells #[.string ⟨#[]⟩, .int .u64 0, .int .u64 0] 32)) fun e w' => e = .returned (.tuple #[.agg #[.string ⟨#[]⟩, .int .u64 0, .int .u64 0], .bool false]) ∧ Below ((w.alloc (.cells #[.string k, .int .u64 o, .int .u64 sl] 32)).alloc (.cells #[.string ⟨#[]⟩, .int .u64 0, .int .u64 0] 32)).heap.size ((w.alloc (.cells #[.string k, .int .u64 o, .int .u64 sl] 32)).alloc (.cells #[.string ⟨#[]⟩, .int .u64 0, .int .u64 0] 32)) w' := fnilGet ((w.alloc (.cells #[.string k, .int .u64 o, .int .u64 sl] 32)).alloc (.cells #[.string ⟨#[]⟩, .int .u64 0, .int .u64 0] 32)) s
  obtain ⟨W1, hW1⟩ : ∃ W, W = ((w.alloc (.cells #[.string k, .int .u64 o, .int .u64 sl] 32)).alloc (.cells #[.string ⟨#[]⟩, .int .u64 0, .int .u64 0] 32)) := ⟨_, rfl⟩
  obtain ⟨G, hG⟩ : ∃ G, w.heap.size + 1 = G := ⟨_, rfl⟩
  rw [← hW1] at X1 t1 hGt b1
  rw [hG] at X1
  have hGW : w.heap.size ≤ G := by omega
  clear b0 hsz
  go_enter Try.func12, Try.ntmps12
  go_wp2_with fail
  rw [← hW1]
  clear hW1
  refine hGt.mono ?_
  rintro e w2 ⟨rfl, b2⟩
  have b3 : Below W1.heap.size W1 (w2.alloc (.cells #[.string ⟨#[]⟩, .int .u64 0, .int .u64 0] 32)) := b2.alloc b2.size _
  have X3 : BoxC (fun _ => 0) (w2.alloc (.cells #[.string ⟨#[]⟩, .int .u64 0, .int .u64 0] 32)) G 0 (VE zeroE) 32 := X1.keep (P := fun _ => False) (StepC.below t1 b3) (fun h => h)
  obtain ⟨hX, hB, z0, z1, z2, f0, f1, f2⟩ := boxE X3 (w0 := w) hGW (below_then b1 b3) zeroE
  have z0' : (w2.alloc (.cells #[.string ⟨#[]⟩, .int .u64 0, .int .u64 0] 32)).cell? ⟨G, 0, none⟩ = some (.string ⟨#[]⟩) := z0
  have z1' : (w2.alloc (.cells #[.string ⟨#[]⟩, .int .u64 0, .int .u64 0] 32)).cell? ⟨G, 1, none⟩ = some (.int .u64 0) := z1
  have z2' : (w2.alloc (.cells #[.string ⟨#[]⟩, .int .u64 0, .int .u64 0] 32)).cell? ⟨G, 2, none⟩ = some (.int .u64 0) := z2
  have HX := Lib.hid hX
  have HB := Lib.hid hB
  clear X1 X3 hGt b1 b2 b3 hGW hG t1 z0 z1 z2 hX hB
  go_wp2
  refine bodyPost_ret (results_cell_row2 rfl _ _ G _ _ (0, 0) _ rfl HX.out Try.underlying32 rfl (by kernel_rfl)) rfl ?_
  exact ⟨rfl, HB.out⟩
theorem progFn : ProgFn where
  add := fun w s x => by
    go_enter Try.func13, Try.ntmps13
    go_wp2
    go_ret
    exact ⟨rfl, Below.refl _ _⟩
  get := fun w s => (fnilGet w s).mono fun e w' h => ⟨zeroE, h⟩
  take := fun w s => (fnilTake w s).mono fun e w' h => ⟨zeroE, h⟩
  swap := fun w s x => (fnilSwap w s x).mono fun e w' h => ⟨zeroE, h⟩
  untr := fun w => by
    go_enter Try.func14, Try.ntmps14
    go_wp2
    go_ret
    exact ⟨rfl, Below.refl _ _⟩
  total := fun w => by
    go_enter Try.func15, Try.ntmps15
    go_wp2
    go_ret
    exact ⟨rfl, Below.refl _ _⟩
  len := fun w => by
    go_enter Try.func16, Try.ntmps16
    go_wp2
    go_ret
    exact ⟨rfl, Below.refl _ _⟩
  entries := fun w => by
    go_enter Try.func17, Try.ntmps17
    go_wp2
    go_ret
    exact ⟨_, _, rfl, (Below.refl _ _).alloc (Nat.le_refl _) _⟩
end Go.Proofs.Ytgkokglngpbamaa

/- A region in the body of a loop over a function, walked as anywhere: what the loop's body may take from the walk of plain code. Conditions: no defer statement in the region. -/
namespace Go.Proofs.Ytgkokglngpbamaa
open Go.ChangeShapes Go.WideShapes Go.ChangeAt Go.RowKit
set_option linter.unusedVariables false
set_option linter.unusedSimpArgs false

section
variable {P : Program} {ops : Array Oper} {Q : Exit → Act → World → Prop} {md : Region.Mode} {l n : Nat}
theorem rows_round {row : String} {args : Array Value} {w : World} {R : Value → World → Prop} (h : Rows P row args w R) : RowsIn (Fence.wide.inRound l) n P row args w R := by
  intro c cs hr
  obtain ⟨v, w', r, s⟩ := h c cs
  exact ⟨v, w', r, stepsIn_wide.2 s⟩
theorem wp_round {o : Oper} {a : Act} {w : World} {K : Act → World → Prop} (hd : ∀ c, o.op ≠ .defer c) (h : o.wp P a w K Q) : o.wpIn (Fence.wide.inRound l) n P a w K Q := by
  refine ⟨fun _ _ => trivial, ?_⟩
  show o.uponIn _ _ P a K Q ((o.semAt (some l) a.eval).run P w)
  rw [Oper.semAt_some l _ o hd]
  unfold Oper.wp at h
  have hdep : ((Fence.wide.inRound l).depth.isSome = true → 1 ≤ n) := fun h => by simp [Fence.wide, Fence.inRound] at h
  generalize (execOp a.eval o).run P w = r at h ⊢
  cases r with
  | ok v w' =>
    cases v with
    | value v => exact h
    | skip => exact h
    | defer d => exact h
    | enter f args => exact ⟨hdep, CallsIn.inRound l (callsIn_wide.2 (h.mono fun e w'' q => by cases e <;> exact q))⟩
    | row row args => exact ⟨hdep, rows_round h⟩
    | _ => exact h.elim
  | halt e w' =>
    cases e with
    | panic v => exact h
    | _ => exact h.elim
theorem wpOp_round (hd : ∀ (i : Nat) (o : Oper) c, ops[i]? = some o → o.op ≠ .defer c) (hQ : ¬ LetsOut Q) {i : Nat} {K K' : Act → World → Prop} {a : Act} {w : World} (hK : ∀ a w, K a w → K' a w) (h : wpOp P ops Q i K a w) : wpOpIn (Fence.wide.inRound l) n P ops Q i K' a w := by
  unfold wpOp at h
  unfold wpOpIn
  cases ho : ops[i]? with
  | none => rw [ho] at h; exact hK _ _ h
  | some o =>
    rw [ho] at h
    simp only at h ⊢
    split
    · rename_i hw
      rw [if_pos hw] at h
      rcases h with h | h
      · exact Oper.wpIn_mono hK (wp_round (hd i o · ho) h)
      · exact absurd h.2 hQ
    · rename_i hw
      rw [if_neg hw] at h
      exact ⟨fun _ _ => trivial, hK _ _ h⟩
theorem wpAny_round (hd : ∀ (i : Nat) (o : Oper) c, ops[i]? = some o → o.op ≠ .defer c) (hQ : ¬ LetsOut Q) : ∀ (fuel : Nat) (listed : Array Bool) (a : Act) (w : World), wpAny P md ops Q fuel listed a w → wpAnyIn (Fence.wide.inRound l) n P md ops Q fuel listed a w
  | 0, _, _, _, h => h
  | fuel + 1, _, _, _, h => ⟨h.1, fun i hi => wpOp_round hd hQ (fun a w q => wpAny_round hd hQ fuel _ a w q) (h.2 i hi)⟩
/-- The operations of a region, none a defer statement. -/
def noDefer (ops : Array Oper) : Bool := ops.toList.all fun o => match o.op with | .defer _ => false | _ => true
theorem noDefer_spec (h : noDefer ops = true) : ∀ (i : Nat) (o : Oper) c, ops[i]? = some o → o.op ≠ .defer c := fun i o c hi he => by
  have h1 := List.all_eq_true.1 h o (Array.mem_toList_iff.2 (Array.mem_of_getElem? hi))
  rw [he] at h1; cases h1
theorem wpIn_round_late {id : Nat} {a : Act} {w : World} (S : World → Prop) (late : Nat → Bool) (hm : P.follows .mixedOrders = true) (hd : noDefer ops = true) (hQ : ¬ LetsOut Q)
    (h : ∀ u, w.drew = u → wpAnyL P .any ops Q S late ops.size (Array.replicate ops.size false) a u) : (Code.region id ops true).wpIn (Fence.wide.inRound l) n P Q a w :=
  wpIn_region_any hm (wpAny_round (noDefer_spec hd) hQ _ _ _ _ (wpAny_of_late _ _ _ _ (h _ rfl)))
end
end Go.Proofs.Ytgkokglngpbamaa

/- The program's tables of string values: New, and what a nil table returns. Conditions: none beyond those typed. -/
import Derived.Test.YtdifkcjciblkpaaYsall
namespace Go.Proofs.Ytdifkcjciblkpaa
open Go.ChangeShapes Go.WideShapes Go.ChangeAt Go.RowKit
set_option linter.unusedVariables false
set_option linter.unusedSimpArgs false
set_option maxRecDepth 100000

section
variable {P : Nat → Prop} {col col' : Col} {w w' W : World} {k g n u N : Nat} {T : List Int} {seed : Int} {A : Option Addr} {cT b c gm bc cc : Nat} {t : Tb ByteArray} {home : ByteArray → Nat} {s : ByteArray} {m : MSt ByteArray} {v : ByteArray}
theorem plOfs_free (home : ByteArray → Nat) (N : Nat) : (List.replicate N (none : Option (ByteArray × ByteArray))).map (plOf (⟨#[]⟩ : ByteArray) home) = List.replicate N ((false, 0, ⟨#[]⟩, (⟨#[]⟩ : ByteArray)) : Pl ByteArray) := by simp [plOf]
theorem news_at (hk : 1 ≤ k) (ht : Tidy col w) (hB : Below w.heap.size w W) (hn : 1 ≤ n ∧ n ≤ 8192) (hs : 0 ≤ seed ∧ seed ≤ 18446744073709551615) (hR : RdU W (some ⟨bc, 0, none⟩) 16 cc T) (hO : OwnK kPs W (.slice (some ⟨gm, 0, none⟩) (2 * n) (2 * n)) (List.replicate (2 * n) ((false, 0, ⟨#[]⟩, (⟨#[]⟩ : ByteArray)) : Pl ByteArray)))
    (h1 : w.heap.size ≤ bc) (h2 : w.heap.size ≤ gm) (h3 : bc ≠ gm) :
    DidPM PMs col k w W.heap.size (newM ByteArray n) (W.alloc (.cells #[.slice (some ⟨bc, 0, none⟩) 16 cc, .int .u64 seed, .int .i64 n, .int .i64 0, .slice (some ⟨gm, 0, none⟩) (2 * n : Nat) (2 * n : Nat)] 68)) := by
  have hg : gm < W.heap.size := hO.lt gm rfl
  have hbw : bc < W.heap.size := by
    obtain ⟨b', o', z, e, _, _, _, hb, _⟩ := hR.at_ (k := 0) (by omega)
    injection e with e; injection e with e; omega
  have hBA : Below W.heap.size W (W.alloc (.cells #[.slice (some ⟨bc, 0, none⟩) 16 cc, .int .u64 seed, .int .i64 n, .int .i64 0, .slice (some ⟨gm, 0, none⟩) (2 * n : Nat) (2 * n : Nat)] 68)) := (Below.refl _ _).alloc (Nat.le_refl _) _
  have hB2 := below_then hB hBA
  have hsz := hB.size
  have hW : (W.alloc (.cells #[.slice (some ⟨bc, 0, none⟩) 16 cc, .int .u64 seed, .int .i64 n, .int .i64 0, .slice (some ⟨gm, 0, none⟩) (2 * n : Nat) (2 * n : Nat)] 68)).heap.size = W.heap.size + 1 := by simp
  have hcol : ∀ b, dye (dye col (some W.heap.size) k) (some gm) (k + 1) b = if b = gm then k + 1 else if b = W.heap.size then k else col b := fun b => by
    unfold dye
    by_cases e1 : b = gm
    · subst e1; rw [if_pos rfl, if_pos rfl]
    · by_cases e2 : b = W.heap.size
      · subst e2; rw [if_neg (fun e => by injection e with e; omega), if_pos rfl, if_neg e1, if_pos rfl]
      · rw [if_neg (fun e => by injection e with e; omega), if_neg (fun e => by injection e with e; omega), if_neg e1, if_neg e2]
  refine ⟨dye (dye col (some W.heap.size) k) (some gm) (k + 1), ⟨newM_good hn.1 hn.2, T, seed, some ⟨bc, 0, none⟩, cc, gm, 2 * n, 2 * n, List.replicate (2 * n) none, ⟨⟨heap_alloc_new W _, ?_⟩, ⟨hR.below hBA, fun _ b o sp e => ?_⟩, ⟨?_, ?_⟩, hs, hn, rfl, hk⟩, LP.new fun s => (home_val T seed (by omega) s).2, RelT.new⟩, ⟨hB2.os, hB2.tape, hB2.output, hB2.size, fun b hb => ?_, fun b hb => ?_, fun b hb _ => hB2.block b hb⟩⟩
  · rw [hcol, if_neg (by omega), if_pos rfl]
  · injection e with e; injection e with e; subst e
    rw [hcol, if_neg h3, if_neg (by omega)]; exact ht bc h1
  · rw [plOfs_free]; exact hO.below hBA
  · intro q hq
    have hq' : gm = q := by simpa [Value.ownBlock] using hq
    subst hq'
    rw [hcol, if_pos rfl]
  · rw [hcol, if_neg (by omega), if_neg (by omega)]
  · rw [hcol, if_neg (by omega), if_neg (by omega)]; exact ht b (by omega)
set_option maxHeartbeats 4000000 in
theorem news_any {A : Option Addr} {t c : Nat} (ht : Tidy col w) (hk : 1 ≤ k) (hT : RdU0 col w A t c T) (n seed : Int) (hn : -9223372036854775808 ≤ n ∧ n ≤ 9223372036854775807) (hs : 0 ≤ seed ∧ seed ≤ 18446744073709551615) :
    Calls Try.prog 12 #[.int .i64 n, .slice A t c, .int .u64 seed] w (NewPM PMs col k n t w) := by
  have hmx := hT.rd.max
  have hcp := hT.rd.cap
  by_cases h1 : n < 1
  · have HE := Lib.hid (show mapE n t = 1 from if_pos (.inl h1))
    go_enter Try.func12, Try.ntmps12
    go_wp2
    go_ret2
    exact .inr ⟨by rw [HE.out]; decide, by rw [HE.out]; rfl, Below.refl _ _⟩
  by_cases h2 : 8192 < n
  · have HE := Lib.hid (show mapE n t = 1 from if_pos (.inr h2))
    go_enter Try.func12, Try.ntmps12
    go_wp2
    go_ret2
    exact .inr ⟨by rw [HE.out]; decide, by rw [HE.out]; rfl, Below.refl _ _⟩
  have hc := hcheck_any A t c w (by omega)
  by_cases h3 : t = 16
  · subst h3
    obtain ⟨q, rfl⟩ : ∃ q : Nat, n = (q : Int) := ⟨n.toNat, by omega⟩
    have HE := Lib.hid (show mapE (q : Int) 16 = 0 by unfold mapE; rw [if_neg (by omega)]; rfl)
    rw [show tabE 16 = 0 from rfl] at hc
    have hq : 1 ≤ q ∧ q ≤ 8192 := by omega
    have hT0 := hT.rd
    have hN1 : 2 * q ≤ 1000000 := by omega
    have hwr : IntKind.i64.wrap (2 * (q : Int)) = ((2 * q : Nat) : Int) := by rw [IntKind.wrap_i64]; omega
    obtain ⟨NN, hNN⟩ : ∃ NN : Nat, 2 * q = NN := ⟨_, rfl⟩
    have hAt := Lib.hid (fun (W : World) (bc cc gm : Nat) (hB : Below w.heap.size w W) (hR : RdU W (some ⟨bc, 0, none⟩) 16 cc T) (hO : OwnK kPs W (.slice (some ⟨gm, 0, none⟩) NN NN) (List.replicate NN ((false, 0, ⟨#[]⟩, (⟨#[]⟩ : ByteArray)) : Pl ByteArray))) (h1 : w.heap.size ≤ bc) (h2 : w.heap.size ≤ gm) (h3 : bc ≠ gm) (g' : Nat) (hg' : W.heap.size = g') =>
      show DidPM PMs col k w g' (newM ByteArray q) (W.alloc (.cells #[.slice (some ⟨bc, 0, none⟩) 16 cc, .int .u64 seed, .int .i64 q, .int .i64 0, .slice (some ⟨gm, 0, none⟩) NN NN] 68)) by subst hNN hg'; exact news_at hk ht hB hq hs hR hO h1 h2 h3)
    rw [hNN] at hN1 hwr
    clear hNN hT h1 h2
    go_enter Try.func12, Try.ntmps12
    go_wp2_with fail
    refine hc.mono ?_
    rintro r w1 ⟨rfl, hw⟩
    subst hw
    have h16 : (16 : Nat) ≤ 1000000 := by omega
    have h160 : (0 : Nat) < 16 := by omega
    have hz0 : kPs.enc ((false, 0, ⟨#[]⟩, (⟨#[]⟩ : ByteArray)) : Pl ByteArray) = kPs.zero.cells.toList := rfl
    clear hc
    go_wp2
    obtain ⟨CS, hmk, hOw⟩ := make_any kPs hN1 hz0
    have HO := Lib.hid hOw
    have hmk' : ∀ W : World, (Instr.makeSlice 66 (.int .i64 (NN : Int)) (.int .i64 (NN : Int))).run Try.prog W = .ok (.slice (some ⟨W.heap.size, 0, none⟩) NN NN) (W.alloc (.cells CS 79)) := hmk
    clear hmk hOw
    go_region_held3 (fun _ => True) (trivial) ((go_at_call 31; refine (cloneU_any (hT0.below (by first | exact bdM _ | exact (bdM _).alloc (bdM _).size _)) h16 h160).mono ?_; rintro r w2 ⟨bc, cc, rfl, R2, l2, u2, B2⟩))
    all_goals
      clear hT0 hmk'
      go_wp2
      go_ret2
      first
        | exact .inl ⟨HE.out, w2.heap.size + 1, rfl, hAt.out (w2.alloc (.cells CS kPs.ty)) bc cc w2.heap.size ((below_then (bdM w) B2).alloc (below_then (bdM w) B2).size _) (R2.below ((Below.refl _ _).alloc (Nat.le_refl _) _)) (HO.out w2) (Nat.le_trans (bdM w).size l2) (below_then (bdM w) B2).size (ne_lt u2 rfl) _ (by simp)⟩
        | exact .inl ⟨HE.out, w2.heap.size, rfl, hAt.out w2 bc cc w.heap.size (below_then ((bdM w).alloc (bdM w).size _) B2) R2 ((HO.out w.drew).below B2) (Nat.le_trans ((bdM w).alloc (bdM w).size _).size l2) (Nat.le_refl _) (ne_ge l2 ((HO.out w.drew).lt _ rfl)) _ rfl⟩
  · have HE := Lib.hid (show mapE n t = 11 by unfold mapE; rw [if_neg (by omega)]; exact if_neg h3)
    rw [show tabE t = 11 from if_neg h3] at hc
    go_enter Try.func12, Try.ntmps12
    go_wp2_with fail
    refine hc.mono ?_
    rintro r w1 ⟨rfl, hw⟩
    subst hw
    go_wp2
    go_ret2
    exact .inr ⟨by rw [HE.out]; decide, by rw [HE.out]; rfl, Below.refl _ _⟩
theorem noneGets (w : World) (s : ByteArray) : Calls Try.prog 26 #[.pointer none, .string s] w fun e w' => e = .returned (.tuple #[.string ⟨#[]⟩, .bool false]) ∧ Below w.heap.size w w' := by
  go_enter Try.func26, Try.ntmps26
  go_wp2
  go_ret2
  exact ⟨rfl, Below.refl _ _⟩
theorem noneDels (w : World) (s : ByteArray) : Calls Try.prog 27 #[.pointer none, .string s] w fun e w' => e = .returned (.tuple #[.string ⟨#[]⟩, .bool false]) ∧ Below w.heap.size w w' := by
  go_enter Try.func27, Try.ntmps27
  go_wp2
  go_ret2
  exact ⟨rfl, Below.refl _ _⟩
theorem nonePuts (w : World) (s : ByteArray) (v : ByteArray) : Calls Try.prog 25 #[.pointer none, .string s, (fun z : ByteArray => Value.string z) v] w fun e w' => e = .returned (.int .i64 8) ∧ Below w.heap.size w w' := by
  go_enter Try.func25, Try.ntmps25
  go_wp2
  go_ret
  exact ⟨rfl, Below.refl _ _⟩
theorem noneLens (w : World) : Calls Try.prog 28 #[.pointer none] w fun e w' => e = .returned (.int .i64 0) ∧ Below w.heap.size w w' := by
  go_enter Try.func28, Try.ntmps28
  go_wp2
  go_ret
  exact ⟨rfl, Below.refl _ _⟩
end
end Go.Proofs.Ytdifkcjciblkpaa

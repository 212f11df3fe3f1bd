/- Words laid together in one text. Conditions: none beyond those typed. -/
import Derived.Test.YtlfhkhnhcckajaaGreatDoorZ16
import Derived.Test.YtlfhkhnhcckajaaGreatDoorZ11
import Derived.Test.YtlfhkhnhcckajaaGreatDoorZ15
import Derived.Test.YtlfhkhnhcckajaaGreatDoorZ03
import Derived.Test.YtlfhkhnhcckajaaGreatDoorZ04
/- The program's tables of int values: New, and what a nil table returns. Conditions: none beyond those typed. -/
namespace Go.Proofs.YtlfhkhnhcckajaaGreatDoor
open Go.ChangeShapes Go.WideShapes Go.ChangeAt Go.RowKit
set_option linter.unusedVariables false
set_option linter.unusedSimpArgs false
set_option maxRecDepth 100000

section
variable {P : Nat → Prop} {col col' : Col} {w w' W : World} {k g n u N : Nat} {T : List Int} {seed : Int} {A : Option Addr} {cT b c gm bc cc : Nat} {t : Tb Int} {home : ByteArray → Nat} {s : ByteArray} {m : MSt Int} {v : Int}
theorem plOfi_free (home : ByteArray → Nat) (N : Nat) : (List.replicate N (none : Option (ByteArray × Int))).map (plOf (0 : Int) home) = List.replicate N ((false, 0, ⟨#[]⟩, (0 : Int)) : Pl Int) := by simp [plOf]
theorem newi_at (hk : 1 ≤ k) (ht : Tidy col w) (hB : Below w.heap.size w W) (hn : 1 ≤ n ∧ n ≤ 8192) (hs : 0 ≤ seed ∧ seed ≤ 18446744073709551615) (hR : RdU W (some ⟨bc, 0, none⟩) 16 cc T) (hO : OwnK kPi W (.slice (some ⟨gm, 0, none⟩) (2 * n) (2 * n)) (List.replicate (2 * n) ((false, 0, ⟨#[]⟩, (0 : Int)) : Pl Int)))
    (h1 : w.heap.size ≤ bc) (h2 : w.heap.size ≤ gm) (h3 : bc ≠ gm) :
    DidPM PMi col k w W.heap.size (newM Int n) (W.alloc (.cells #[.slice (some ⟨bc, 0, none⟩) 16 cc, .int .u64 seed, .int .i64 n, .int .i64 0, .slice (some ⟨gm, 0, none⟩) (2 * n : Nat) (2 * n : Nat)] 117)) := by
  have hg : gm < W.heap.size := hO.lt gm rfl
  have hbw : bc < W.heap.size := by
    obtain ⟨b', o', z, e, _, _, _, hb, _⟩ := hR.at_ (k := 0) (by omega)
    injection e with e; injection e with e; omega
  have hBA : Below W.heap.size W (W.alloc (.cells #[.slice (some ⟨bc, 0, none⟩) 16 cc, .int .u64 seed, .int .i64 n, .int .i64 0, .slice (some ⟨gm, 0, none⟩) (2 * n : Nat) (2 * n : Nat)] 117)) := (Below.refl _ _).alloc (Nat.le_refl _) _
  have hB2 := below_then hB hBA
  have hsz := hB.size
  have hW : (W.alloc (.cells #[.slice (some ⟨bc, 0, none⟩) 16 cc, .int .u64 seed, .int .i64 n, .int .i64 0, .slice (some ⟨gm, 0, none⟩) (2 * n : Nat) (2 * n : Nat)] 117)).heap.size = W.heap.size + 1 := by simp
  have hcol : ∀ b, dye (dye col (some W.heap.size) k) (some gm) (k + 1) b = if b = gm then k + 1 else if b = W.heap.size then k else col b := fun b => by
    unfold dye
    by_cases e1 : b = gm
    · subst e1; rw [if_pos rfl, if_pos rfl]
    · by_cases e2 : b = W.heap.size
      · subst e2; rw [if_neg (fun e => by injection e with e; omega), if_pos rfl, if_neg e1, if_pos rfl]
      · rw [if_neg (fun e => by injection e with e; omega), if_neg (fun e => by injection e with e; omega), if_neg e1, if_neg e2]
  refine ⟨dye (dye col (some W.heap.size) k) (some gm) (k + 1), ⟨newM_good hn.1 hn.2, T, seed, some ⟨bc, 0, none⟩, cc, gm, 2 * n, 2 * n, List.replicate (2 * n) none, ⟨⟨heap_alloc_new W _, ?_⟩, ⟨hR.below hBA, fun _ b o sp e => ?_⟩, ⟨?_, ?_⟩, hs, hn, rfl, hk⟩, LP.new fun s => (home_val T seed (by omega) s).2, RelT.new⟩, ⟨hB2.os, hB2.tape, hB2.output, hB2.size, fun b hb => ?_, fun b hb => ?_, fun b hb _ => hB2.block b hb⟩⟩
  · rw [hcol, if_neg (by omega), if_pos rfl]
  · injection e with e; injection e with e; subst e
    rw [hcol, if_neg h3, if_neg (by omega)]; exact ht bc h1
  · rw [plOfi_free]; exact hO.below hBA
  · intro q hq
    have hq' : gm = q := by simpa [Value.ownBlock] using hq
    subst hq'
    rw [hcol, if_pos rfl]
  · rw [hcol, if_neg (by omega), if_neg (by omega)]
  · rw [hcol, if_neg (by omega), if_neg (by omega)]; exact ht b (by omega)
set_option maxHeartbeats 4000000 in
theorem newi_any {A : Option Addr} {t c : Nat} (ht : Tidy col w) (hk : 1 ≤ k) (hT : RdU0 col w A t c T) (n seed : Int) (hn : -9223372036854775808 ≤ n ∧ n ≤ 9223372036854775807) (hs : 0 ≤ seed ∧ seed ≤ 18446744073709551615) :
    Calls Tryz.prog 50 #[.int .i64 n, .slice A t c, .int .u64 seed] w (NewPM PMi col k n t w) := by
  have hmx := hT.rd.max
  have hcp := hT.rd.cap
  by_cases h1 : n < 1
  · have HE := Lib.hid (show mapE n t = 1 from if_pos (.inl h1))
    go_enter Tryz.func50, Tryz.ntmps50
    go_wp2
    go_ret2
    exact .inr ⟨by rw [HE.out]; decide, by rw [HE.out]; rfl, Below.refl _ _⟩
  by_cases h2 : 8192 < n
  · have HE := Lib.hid (show mapE n t = 1 from if_pos (.inr h2))
    go_enter Tryz.func50, Tryz.ntmps50
    go_wp2
    go_ret2
    exact .inr ⟨by rw [HE.out]; decide, by rw [HE.out]; rfl, Below.refl _ _⟩
  have hc := hcheck_any A t c w (by omega)
  by_cases h3 : t = 16
  · subst h3
    obtain ⟨q, rfl⟩ : ∃ q : Nat, n = (q : Int) := ⟨n.toNat, by omega⟩
    have HE := Lib.hid (show mapE (q : Int) 16 = 0 by unfold mapE; rw [if_neg (by omega)]; rfl)
    rw [show tabE 16 = 0 from rfl] at hc
    have hq : 1 ≤ q ∧ q ≤ 8192 := by omega
    have hT0 := hT.rd
    have hN1 : 2 * q ≤ 1000000 := by omega
    have hwr : IntKind.i64.wrap (2 * (q : Int)) = ((2 * q : Nat) : Int) := by rw [IntKind.wrap_i64]; omega
    obtain ⟨NN, hNN⟩ : ∃ NN : Nat, 2 * q = NN := ⟨_, rfl⟩
    have hAt := Lib.hid (fun (W : World) (bc cc gm : Nat) (hB : Below w.heap.size w W) (hR : RdU W (some ⟨bc, 0, none⟩) 16 cc T) (hO : OwnK kPi W (.slice (some ⟨gm, 0, none⟩) NN NN) (List.replicate NN ((false, 0, ⟨#[]⟩, (0 : Int)) : Pl Int))) (h1 : w.heap.size ≤ bc) (h2 : w.heap.size ≤ gm) (h3 : bc ≠ gm) (g' : Nat) (hg' : W.heap.size = g') =>
      show DidPM PMi col k w g' (newM Int q) (W.alloc (.cells #[.slice (some ⟨bc, 0, none⟩) 16 cc, .int .u64 seed, .int .i64 q, .int .i64 0, .slice (some ⟨gm, 0, none⟩) NN NN] 117)) by subst hNN hg'; exact newi_at hk ht hB hq hs hR hO h1 h2 h3)
    rw [hNN] at hN1 hwr
    clear hNN hT h1 h2
    go_enter Tryz.func50, Tryz.ntmps50
    go_wp2_with fail
    refine hc.mono ?_
    rintro r w1 ⟨rfl, hw⟩
    subst hw
    have h16 : (16 : Nat) ≤ 1000000 := by omega
    have h160 : (0 : Nat) < 16 := by omega
    have hz0 : kPi.enc ((false, 0, ⟨#[]⟩, (0 : Int)) : Pl Int) = kPi.zero.cells.toList := rfl
    clear hc
    go_wp2
    obtain ⟨CS, hmk, hOw⟩ := make_any kPi hN1 hz0
    have HO := Lib.hid hOw
    have hmk' : ∀ W : World, (Instr.makeSlice 115 (.int .i64 (NN : Int)) (.int .i64 (NN : Int))).run Tryz.prog W = .ok (.slice (some ⟨W.heap.size, 0, none⟩) NN NN) (W.alloc (.cells CS 121)) := hmk
    clear hmk hOw
    go_region_held3 (fun _ => True) (trivial) ((go_at_call 68; refine (cloneU_any (hT0.below (by first | exact bdM _ | exact (bdM _).alloc (bdM _).size _)) h16 h160).mono ?_; rintro r w2 ⟨bc, cc, rfl, R2, l2, u2, B2⟩))
    all_goals
      clear hT0 hmk'
      go_wp2
      go_ret2
      first
        | exact .inl ⟨HE.out, w2.heap.size + 1, rfl, hAt.out (w2.alloc (.cells CS kPi.ty)) bc cc w2.heap.size ((below_then (bdM w) B2).alloc (below_then (bdM w) B2).size _) (R2.below ((Below.refl _ _).alloc (Nat.le_refl _) _)) (HO.out w2) (Nat.le_trans (bdM w).size l2) (below_then (bdM w) B2).size (ne_lt u2 rfl) _ (by simp)⟩
        | exact .inl ⟨HE.out, w2.heap.size, rfl, hAt.out w2 bc cc w.heap.size (below_then ((bdM w).alloc (bdM w).size _) B2) R2 ((HO.out w.drew).below B2) (Nat.le_trans ((bdM w).alloc (bdM w).size _).size l2) (Nat.le_refl _) (ne_ge l2 ((HO.out w.drew).lt _ rfl)) _ rfl⟩
  · have HE := Lib.hid (show mapE n t = 11 by unfold mapE; rw [if_neg (by omega)]; exact if_neg h3)
    rw [show tabE t = 11 from if_neg h3] at hc
    go_enter Tryz.func50, Tryz.ntmps50
    go_wp2_with fail
    refine hc.mono ?_
    rintro r w1 ⟨rfl, hw⟩
    subst hw
    go_wp2
    go_ret2
    exact .inr ⟨by rw [HE.out]; decide, by rw [HE.out]; rfl, Below.refl _ _⟩
theorem noneGeti (w : World) (s : ByteArray) : Calls Tryz.prog 52 #[.pointer none, .string s] w fun e w' => e = .returned (.tuple #[.int .i64 0, .bool false]) ∧ Below w.heap.size w w' := by
  go_enter Tryz.func52, Tryz.ntmps52
  go_wp2
  go_ret2
  exact ⟨rfl, Below.refl _ _⟩
theorem noneDeli (w : World) (s : ByteArray) : Calls Tryz.prog 54 #[.pointer none, .string s] w fun e w' => e = .returned (.tuple #[.int .i64 0, .bool false]) ∧ Below w.heap.size w w' := by
  go_enter Tryz.func54, Tryz.ntmps54
  go_wp2
  go_ret2
  exact ⟨rfl, Below.refl _ _⟩
theorem nonePuti (w : World) (s : ByteArray) (v : Int) : Calls Tryz.prog 58 #[.pointer none, .string s, (fun z : Int => Value.int .i64 z) v] w fun e w' => e = .returned (.int .i64 8) ∧ Below w.heap.size w w' := by
  go_enter Tryz.func58, Tryz.ntmps58
  go_wp2
  go_ret
  exact ⟨rfl, Below.refl _ _⟩
end
end Go.Proofs.YtlfhkhnhcckajaaGreatDoor

/- The program's tables (Space-Saving) in memory: the box, the row of elements, the order, the index. Conditions: none beyond those typed. -/
namespace Go.Proofs.YtlfhkhnhcckajaaGreatDoor
open Go.ChangeShapes Go.WideShapes Go.ChangeAt Go.RowKit
set_option linter.unusedVariables false
set_option linter.unusedSimpArgs false
set_option maxRecDepth 100000

def encSx (r : El) : List Value := [.string r.1, .int .u64 r.2]
/-- Elements. -/
def kSx : Kind El where
  ty := 95
  sl := 61
  k := 2
  by_ := 24
  zero := .agg #[.string ⟨#[]⟩, .int .u64 0]
  enc := encSx
  pos := by omega
  len := fun _ => rfl
  one := fun a u hu => by simp [encSx] at hu; rcases hu with rfl | rfl <;> rfl
  under := Tryz.underlying61
  info := by kernel_rfl
  zk := rfl
  small := by omega
/-- The table's box in block g, its n elements, its order in block gr, its index in block gm; b, s: Base, Total. -/
structure SoB (c2 : Col) (w : World) (g gr gm bE n c : Nat) (b s : Int) (m : CSt Int) (M : MSt Int) (E : List El) : Prop where
  box : BoxC c2 w g 16 #[.pointer (some ⟨gr, 0, none⟩), .pointer (some ⟨gm, 0, none⟩), .slice (some ⟨bE, 0, none⟩) n c, .int .u64 b, .int .u64 s] 66
  row : OwnKc kSx c2 w 17 (.slice (some ⟨bE, 0, none⟩) n c) E
  rk : PRr c2 32 w gr m
  mp : PMi c2 48 w gm M
def SoS (c2 : Col) (w : World) (g n : Nat) (b s : Int) (X : List Xn) : Prop := ∃ gr gm bE c m M E, SoB c2 w g gr gm bE n c b s m M E ∧ LkO n X m M E
def DidSo (c2 : Col) (w : World) (g n : Nat) (b s : Int) (X : List Xn) (w' : World) : Prop := ∃ c3, SoS c3 w' g n b s X ∧ StepC (fun c => 16 ≤ c) c2 w c3 w'
section
variable {P : Nat → Prop} {c2 c3 : Col} {w w' : World} {g gr gm bE n c i : Nat} {b s : Int} {m m' : CSt Int} {M M' : MSt Int} {E : List El} {X : List Xn} {r : El}
theorem SoB.keep (h : SoB c2 w g gr gm bE n c b s m M E) (hs : StepC P c2 w c3 w') (hP : ∀ c, 16 ≤ c → ¬ P c) (h0 : ¬ P 0) : SoB c3 w' g gr gm bE n c b s m M E :=
  ⟨h.box.keep hs (hP _ (by omega)), h.row.keep hs (hP _ (by omega)), h.rk.keep hs (fun c hc => hP c (by have := hc.1; omega)) h0, h.mp.keep hs (fun c hc => hP c (by have := hc.1; omega)) h0⟩
theorem SoB.below (h : SoB c2 w g gr gm bE n c b s m M E) (ht : Tidy c2 w) (hb : Below w.heap.size w w') : SoB c2 w' g gr gm bE n c b s m M E := h.keep (P := fun _ => False) (StepC.below ht hb) (fun _ _ h => h) (fun h => h)
theorem SoS.keep (h : SoS c2 w g n b s X) (hs : StepC P c2 w c3 w') (hP : ∀ c, 16 ≤ c → ¬ P c) (h0 : ¬ P 0) : SoS c3 w' g n b s X := by
  obtain ⟨gr, gm, bE, c, m, M, E, H, L⟩ := h
  exact ⟨gr, gm, bE, c, m, M, E, H.keep hs hP h0, L⟩
theorem SoS.below (h : SoS c2 w g n b s X) (ht : Tidy c2 w) (hb : Below w.heap.size w w') : SoS c2 w' g n b s X := h.keep (P := fun _ => False) (StepC.below ht hb) (fun _ _ h => h) (fun h => h)
theorem DidSo.trans {b' s' : Int} {X' : List Xn} {w'' : World} (h : DidSo c2 w g n b s X w') (h' : ∀ c3, SoS c3 w' g n b s X → Tidy c3 w' → DidSo c3 w' g n b' s' X' w'') : DidSo c2 w g n b' s' X' w'' := by
  obtain ⟨c3, S, st⟩ := h
  obtain ⟨c4, S', st'⟩ := h' c3 S st.tidy
  exact ⟨c4, S', st.trans st'⟩
theorem SoB.c0 (h : SoB c2 w g gr gm bE n c b s m M E) : w.cell? ⟨g, 0, none⟩ = some (.pointer (some ⟨gr, 0, none⟩)) := h.box.cell 0 rfl
theorem SoB.c1 (h : SoB c2 w g gr gm bE n c b s m M E) : w.cell? ⟨g, 1, none⟩ = some (.pointer (some ⟨gm, 0, none⟩)) := h.box.cell 1 rfl
theorem SoB.cE (h : SoB c2 w g gr gm bE n c b s m M E) : w.cell? ⟨g, 2, none⟩ = some (.slice (some ⟨bE, 0, none⟩) n c) := h.box.cell 2 rfl
theorem SoB.cb (h : SoB c2 w g gr gm bE n c b s m M E) : w.cell? ⟨g, 3, none⟩ = some (.int .u64 b) := h.box.cell 3 rfl
theorem SoB.cs (h : SoB c2 w g gr gm bE n c b s m M E) : w.cell? ⟨g, 4, none⟩ = some (.int .u64 s) := h.box.cell 4 rfl
theorem SoB.cap (h : SoB c2 w g gr gm bE n c b s m M E) : n ≤ c ∧ c ≤ 9223372036854775807 := ⟨h.row.own.reads.cap, h.row.own.reads.max⟩
theorem SoB.at_ (h : SoB c2 w g gr gm bE n c b s m M E) (hr : E[i]? = some r) :
    w.cell? ⟨bE, i * 2, none⟩ = some (.string r.1) ∧ w.cell? ⟨bE, i * 2 + 1, none⟩ = some (.int .u64 r.2) ∧ ∀ z, w.frozen? ⟨bE, z, none⟩ = false :=
  ⟨h.row.own.cell hr (i := 0) rfl, h.row.own.cell hr (i := 1) rfl, fun z => h.row.own.free z⟩
/-- The order has turned. -/
theorem SoB.rkDid (h : SoB c2 w g gr gm bE n c b s m M E) (hd : DidPR PRr c2 32 w gr m' w') : ∃ c3, SoB c3 w' g gr gm bE n c b s m' M E ∧ StepC (fun c => 16 ≤ c) c2 w c3 w' := by
  obtain ⟨c3, h1, st⟩ := hd
  exact ⟨c3, ⟨h.box.keep st (by unfold Rng; omega), h.row.keep st (by unfold Rng; omega), h1, h.mp.keep st (rngs_no (by omega)) (rng0 (by omega))⟩, st.mono fun c hc => by have := hc.1; omega⟩
/-- The index has turned. -/
theorem SoB.mpDid (h : SoB c2 w g gr gm bE n c b s m M E) (hd : DidPM PMi c2 48 w gm M' w') : ∃ c3, SoB c3 w' g gr gm bE n c b s m M' E ∧ StepC (fun c => 16 ≤ c) c2 w c3 w' := by
  obtain ⟨c3, h1, st⟩ := hd
  exact ⟨c3, ⟨h.box.keep st (by unfold Rng; omega), h.row.keep st (by unfold Rng; omega), h.rk.keep st (rngs_no (by omega)) (rng0 (by omega)), h1⟩, st.mono fun c hc => by have := hc.1; omega⟩
/-- An element is written. -/
theorem SoB.put (h : SoB c2 w g gr gm bE n c b s m M E) (ht : Tidy c2 w) (hr : E[i]? = some r) (k' : ByteArray) (v' : Int) :
    SoB c2 ((w.setCell ⟨bE, i * 2, none⟩ (.string k')).setCell ⟨bE, i * 2 + 1, none⟩ (.int .u64 v')) g gr gm bE n c b s m M (E.set i (k', v')) ∧
      StepC (fun d => d = 17) c2 w c2 ((w.setCell ⟨bE, i * 2, none⟩ (.string k')).setCell ⟨bE, i * 2 + 1, none⟩ (.int .u64 v')) := by
  have hi := (List.getElem?_eq_some_iff.1 hr).1
  have hc := h.row.col.of
  have h0 := h.row.set (j := i) (i := 0) (a' := (k', r.2)) (u := .string k') hr (by show 0 < 2; omega) rfl
  have a0 : (E.set i (k', r.2))[i]? = some (k', r.2) := by rw [List.getElem?_set, if_pos rfl, if_pos hi]
  have h1 := h0.set (j := i) (i := 1) (a' := (k', v')) (u := .int .u64 v') a0 (by show 1 < 2; omega) rfl
  rw [List.set_set] at h1
  rw [show kSx.k = 2 from rfl, Nat.add_zero] at h1
  have s0 := StepC.set (P := fun d => d = 17) (a := ⟨bE, i * 2, none⟩) ht hc (.string k')
  have s1 := StepC.set (P := fun d => d = 17) (a := ⟨bE, i * 2 + 1, none⟩) s0.tidy hc (.int .u64 v')
  have sA := s0.trans s1
  exact ⟨⟨h.box.keep sA (by omega), h1, h.rk.keep sA (fun c hc e => by have := hc.1; omega) (by omega), h.mp.keep sA (fun c hc e => by have := hc.1; omega) (by omega)⟩, sA⟩
/-- Base is written; Total is written. -/
theorem SoB.base (h : SoB c2 w g gr gm bE n c b s m M E) (ht : Tidy c2 w) (b' : Int) :
    SoB c2 (w.setCell ⟨g, 3, none⟩ (.int .u64 b')) g gr gm bE n c b' s m M E ∧ StepC (fun d => d = 16) c2 w c2 (w.setCell ⟨g, 3, none⟩ (.int .u64 b')) := by
  have sA : StepC (fun d => d = 16) c2 w c2 (w.setCell ⟨g, 3, none⟩ (.int .u64 b')) := StepC.set ht h.box.col _
  exact ⟨⟨h.box.put 3 (.int .u64 b'), h.row.keep sA (by omega), h.rk.keep sA (fun c hc e => by have := hc.1; omega) (by omega), h.mp.keep sA (fun c hc e => by have := hc.1; omega) (by omega)⟩, sA⟩
theorem SoB.sum (h : SoB c2 w g gr gm bE n c b s m M E) (ht : Tidy c2 w) (s' : Int) :
    SoB c2 (w.setCell ⟨g, 4, none⟩ (.int .u64 s')) g gr gm bE n c b s' m M E ∧ StepC (fun d => d = 16) c2 w c2 (w.setCell ⟨g, 4, none⟩ (.int .u64 s')) := by
  have sA : StepC (fun d => d = 16) c2 w c2 (w.setCell ⟨g, 4, none⟩ (.int .u64 s')) := StepC.set ht h.box.col _
  exact ⟨⟨h.box.put 4 (.int .u64 s'), h.row.keep sA (by omega), h.rk.keep sA (fun c hc e => by have := hc.1; omega) (by omega), h.mp.keep sA (fun c hc e => by have := hc.1; omega) (by omega)⟩, sA⟩
theorem SoB.sums (h : SoB c2 w g gr gm bE n c b s m M E) (L : LkO n X m M E) (ht : Tidy c2 w) (s' : Int) : DidSo c2 w g n b s' X (w.setCell ⟨g, 4, none⟩ (.int .u64 s')) := by
  obtain ⟨H, st⟩ := h.sum ht s'
  exact ⟨c2, ⟨_, _, _, _, _, _, _, H, L⟩, st.mono fun c hc => by omega⟩
theorem SoB.bases (h : SoB c2 w g gr gm bE n c b s m M E) (L : LkO n X m M E) (ht : Tidy c2 w) (b' : Int) : DidSo c2 w g n b' s X (w.setCell ⟨g, 3, none⟩ (.int .u64 b')) := by
  obtain ⟨H, st⟩ := h.base ht b'
  exact ⟨c2, ⟨_, _, _, _, _, _, _, H, L⟩, st.mono fun c hc => by omega⟩
end
end Go.Proofs.YtlfhkhnhcckajaaGreatDoor

/- The program's tables: size, full, entry, find, raise. Conditions: none beyond those typed. -/
namespace Go.Proofs.YtlfhkhnhcckajaaGreatDoor
open Go.ChangeShapes Go.WideShapes Go.ChangeAt Go.RowKit
set_option linter.unusedVariables false
set_option linter.unusedSimpArgs false
set_option maxRecDepth 100000

/-- What a table says of a key. -/
def getX (X : List Xn) (s : ByteArray) : En × Bool := match fndX X s with | none => (zeroE, false) | some x => (x.2, true)
def hasX (X : List Xn) (s : ByteArray) : Bool := (fndX X s).isSome
def upXs (X : List Xn) (s : ByteArray) (w : Int) : List Xn := match fndX X s with | none => X | some x => delX X s ++ [upX x w]
section
variable {P : Nat → Prop} {c2 c3 : Col} {w w' : World} {g gr gm bE n c i : Nat} {b s : Int} {m m' : CSt Int} {M M' : MSt Int} {E : List El} {X : List Xn} {x : Xn} {k : ByteArray} {z : Int}
theorem soSize_any (H : SoB c2 w g gr gm bE n c b s m M E) (L : LkO n X m M E) : Calls Tryz.prog 40 #[.pointer (some ⟨g, 0, none⟩)] w fun e w' => e = .returned (.int .i64 (X.length : Int)) ∧ w = w' := by
  have y0 := H.c0
  have hC := H.rk.lenP
  rw [L.rlen] at hC
  clear H
  go_enter Tryz.func40, Tryz.ntmps40
  go_wp2_with fail
  refine hC.mono ?_
  rintro e w2 ⟨rfl, hw⟩
  subst hw
  go_wp2
  go_ret
  exact ⟨rfl, rfl⟩
theorem soFull_any (H : SoB c2 w g gr gm bE n c b s m M E) (L : LkO n X m M E) (ht : Tidy c2 w) : Calls Tryz.prog 38 #[.pointer (some ⟨g, 0, none⟩)] w fun e w' => e = .returned (.bool (decide (X.length = n))) ∧ Below w.heap.size w w' := by
  have yE : ∀ j, (w.drewN j).cell? ⟨g, 2, none⟩ = some (.slice (some ⟨bE, 0, none⟩) n c) := fun j => H.cE
  have hC := fun j => soSize_any (H.below ht (below_drewN (Below.refl _ _) j)) L
  have hd : ((X.length : Int) == (n : Int)) = decide (X.length = n) := by
    by_cases h : X.length = n
    · rw [decide_eq_true h, h]; simp
    · rw [decide_eq_false h]; simp; omega
  have y0 := yE 0
  have hH := Lib.hid hd
  clear H L hd
  go_enter Tryz.func38, Tryz.ntmps38
  go_wp2
  go_quiet ((go_at_call 40; exact Calls.quiet_of_same ((hC _).mono fun e w' h => ⟨h.1, h.2.symm⟩)))
  go_wp2
  go_ret
  rw [hH.out]
  exact ⟨rfl, below_drewN (Below.refl _ _) _⟩
set_option maxHeartbeats 1000000 in
theorem soEntry_any (H : SoB c2 w g gr gm bE n c b s m M' E) (L : LkO n X m M E) (ht : Tidy c2 w) (hx : x ∈ X) :
    Calls Tryz.prog 53 #[.pointer (some ⟨g, 0, none⟩), .int .i64 (x.1 : Int)] w fun e w' => e = .returned (.agg (VE x.2)) ∧ Below w.heap.size w w' := by
  have hlt := L.lt x hx
  have hn := L.n1.2
  have hz : J64 (x.1 : Int) := by unfold J64; omega
  have hlI : (x.1 : Int) < (n : Int) := by omega
  obtain ⟨hcp, hcm⟩ := H.cap
  obtain ⟨q0, q1, q2⟩ := L.bd hx
  have b1 : Below w.heap.size w (w.alloc (.cells #[.string ⟨#[]⟩, .int .u64 0, .int .u64 0] 32)) := (Below.refl _ _).alloc (Nat.le_refl _) _
  have ht1 := ht.size b1.size
  have H1 := H.below ht b1
  have hC := H1.rk.countP ht1 hz
  rw [L.count hx] at hC
  have X1 : BoxC c2 (w.alloc (.cells #[.string ⟨#[]⟩, .int .u64 0, .int .u64 0] 32)) w.heap.size 0 (VE zeroE) 32 := ⟨heap_alloc_new w _, ht _ (Nat.le_refl _)⟩
  have hE := L.yes x hx
  obtain ⟨id, k, o, sl⟩ := x
  obtain ⟨C, hCt⟩ : ∃ C, ctE (k, o, sl) = C := ⟨_, rfl⟩
  have hsub : IntKind.u64.wrap (C - sl) = o := by
    have e1 : C = o + sl := hCt.symm
    have q0' : 0 ≤ o := q0
    have q1' : 0 ≤ sl := q1
    rw [hCt] at q2
    rw [e1]
    have : o + sl - sl = o := by omega
    rw [this]
    exact IntWalk.u64_in _ ⟨by omega, by omega⟩
  simp only [hCt] at hC
  have y0 := H1.c0
  obtain ⟨W1, hW1⟩ : ∃ W1, W1 = w.alloc (.cells #[.string ⟨#[]⟩, .int .u64 0, .int .u64 0] 32) := ⟨_, rfl⟩
  obtain ⟨G, hG⟩ : ∃ G, w.heap.size = G := ⟨_, rfl⟩
  rw [← hW1] at hC H1 X1 ht1 b1
  rw [hG] at X1 b1
  have hGW : G < W1.heap.size := by rw [hW1, ← hG]; simp
  have y0r := y0
  clear H L hx q0 q1 q2 hCt
  go_enter Tryz.func53, Tryz.ntmps53
  go_wp2_with fail
  rw [← hW1]
  clear hW1 y0 y0r
  refine hC.mono ?_
  rintro e w2 ⟨rfl, b2⟩
  have H2 := H1.below ht1 b2
  have yE := H2.cE
  obtain ⟨e0', e1', _⟩ := H2.at_ hE
  have e0 : w2.cell? ⟨bE, id * 2, none⟩ = some (.string k) := e0'
  have e1 : w2.cell? ⟨bE, id * 2 + 1, none⟩ = some (.int .u64 sl) := e1'
  clear e0' e1'
  have b3 : Below W1.heap.size W1 (w2.alloc (.cells #[.string k, .int .u64 sl] 95)) := b2.alloc b2.size _
  have X3 : BoxC c2 (w2.alloc (.cells #[.string k, .int .u64 sl] 95)) G 0 (VE zeroE) 32 := X1.keep (P := fun _ => False) (StepC.below ht1 b3) (fun h => h)
  have v0 : (w2.alloc (.cells #[.string k, .int .u64 sl] 95)).cell? ⟨w2.heap.size, 0, none⟩ = some (.string k) := (World.cell?_alloc_at (w := w2) _ _ _ _ rfl).trans rfl
  have v1 : (w2.alloc (.cells #[.string k, .int .u64 sl] 95)).cell? ⟨w2.heap.size, 1, none⟩ = some (.int .u64 sl) := (World.cell?_alloc_at (w := w2) _ _ _ _ rfl).trans rfl
  have z0 : (w2.alloc (.cells #[.string k, .int .u64 sl] 95)).cell? ⟨G, 0, none⟩ = some (.string ⟨#[]⟩) := X3.cell 0 rfl
  have z1 : (w2.alloc (.cells #[.string k, .int .u64 sl] 95)).cell? ⟨G, 1, none⟩ = some (.int .u64 0) := X3.cell 1 rfl
  have z2 : (w2.alloc (.cells #[.string k, .int .u64 sl] 95)).cell? ⟨G, 2, none⟩ = some (.int .u64 0) := X3.cell 2 rfl
  have f0 := X3.free 0
  have f1 := X3.free 1
  have f2 := X3.free 2
  have X4 := vbox_en X3 (a := zeroE) (k, o, sl)
  have HX := Lib.hid X4.heap
  have HB := Lib.hid ((((b1.trans (b3.mono (Nat.le_of_lt hGW))).setCell (p := ⟨G, 0, none⟩) (Nat.le_refl _) (.string k)).setCell (p := ⟨G, 1, none⟩) (Nat.le_refl _) (.int .u64 o)).setCell (p := ⟨G, 2, none⟩) (Nat.le_refl _) (.int .u64 sl))
  rw [← hG] at HB
  clear X1 X3 X4 b1 b2 b3 hC H1 H2 hE
  go_wp2
  refine bodyPost_ret (results_cell_row rfl _ _ G _ _ (0, 0) _ rfl HX.out Tryz.underlying32 rfl (by kernel_rfl)) rfl ?_
  rw [hG] at HB ⊢
  exact ⟨rfl, HB.out⟩
theorem get_yes (L : LkO n X m M E) (h : fndX X k = some x) : getG (0 : Int) M k = ((x.1 : Int), true) := by unfold getG; rw [L.get h]; rfl
theorem get_miss (L : LkO n X m M E) (h : fndX X k = none) : getG (0 : Int) M k = ((0 : Int), false) := by unfold getG; rw [L.miss h]; rfl
/-- An entry box that the walk has made is written. -/
theorem boxE {col : Col} {w0 W : World} {G : Nat} {a : En} (X3 : BoxC col W G 0 (VE a) 32) (h : w0.heap.size ≤ G) (hb : Below w0.heap.size w0 W) (e : En) :
    (((W.setCell ⟨G, 0, none⟩ (.string e.1)).setCell ⟨G, 1, none⟩ (.int .u64 e.2.1)).setCell ⟨G, 2, none⟩ (.int .u64 e.2.2)).heap[G]? = some (.cells (VE e) 32 (0, 0)) ∧ Below w0.heap.size w0 (((W.setCell ⟨G, 0, none⟩ (.string e.1)).setCell ⟨G, 1, none⟩ (.int .u64 e.2.1)).setCell ⟨G, 2, none⟩ (.int .u64 e.2.2)) ∧
      W.cell? ⟨G, 0, none⟩ = some (.string a.1) ∧ W.cell? ⟨G, 1, none⟩ = some (.int .u64 a.2.1) ∧ W.cell? ⟨G, 2, none⟩ = some (.int .u64 a.2.2) ∧ W.frozen? ⟨G, 0, none⟩ = false ∧ W.frozen? ⟨G, 1, none⟩ = false ∧ W.frozen? ⟨G, 2, none⟩ = false :=
  ⟨(vbox_en X3 e).heap, ((hb.setCell (p := ⟨G, 0, none⟩) h _).setCell (p := ⟨G, 1, none⟩) h _).setCell (p := ⟨G, 2, none⟩) h _, X3.cell 0 rfl, X3.cell 1 rfl, X3.cell 2 rfl, X3.free 0, X3.free 1, X3.free 2⟩
set_option maxHeartbeats 2000000 in
theorem soFind_any (H : SoB c2 w g gr gm bE n c b s m M E) (L : LkO n X m M E) (ht : Tidy c2 w) (hk : k.size ≤ 281474976710656) :
    Calls Tryz.prog 31 #[.pointer (some ⟨g, 0, none⟩), .string k] w fun e w' => e = .returned (.tuple #[.agg (VE (getX X k).1), .bool (getX X k).2]) ∧ Below w.heap.size w w' := by
  have b1 : Below w.heap.size w (w.alloc (.cells #[.string ⟨#[]⟩, .int .u64 0, .int .u64 0] 32)) := (Below.refl _ _).alloc (Nat.le_refl _) _
  have ht1 := ht.size b1.size
  have H1 := H.below ht b1
  have hC := geti_any H1.mp ht1 k hk
  have X1 : BoxC c2 (w.alloc (.cells #[.string ⟨#[]⟩, .int .u64 0, .int .u64 0] 32)) w.heap.size 0 (VE zeroE) 32 := ⟨heap_alloc_new w _, ht _ (Nat.le_refl _)⟩
  have y1 := H1.c1
  obtain ⟨W1, hW1⟩ : ∃ W1, W1 = w.alloc (.cells #[.string ⟨#[]⟩, .int .u64 0, .int .u64 0] 32) := ⟨_, rfl⟩
  obtain ⟨G, hG⟩ : ∃ G, w.heap.size = G := ⟨_, rfl⟩
  rw [← hW1] at hC H1 X1 ht1 b1
  rw [hG] at X1
  have hGW : G < W1.heap.size := by rw [hW1, ← hG]; simp
  have y1r := y1
  clear H
  cases hf : fndX X k with
  | none =>
    rw [get_miss L hf] at hC
    rw [show getX X k = (zeroE, false) by unfold getX; rw [hf]]
    clear L hf
    go_enter Tryz.func31, Tryz.ntmps31
    go_wp2_with fail
    rw [← hW1]
    clear hW1 y1 y1r
    refine hC.mono ?_
    rintro e w2 ⟨rfl, b2⟩
    have X2 := X1.keep (P := fun _ => False) (StepC.below ht1 b2) (fun h => h)
    obtain ⟨hX, hB, z0, z1, z2, f0, f1, f2⟩ := boxE X2 (w0 := w) (by omega) (below_then b1 b2) zeroE
    have z0' : w2.cell? ⟨G, 0, none⟩ = some (.string ⟨#[]⟩) := z0
    have z1' : w2.cell? ⟨G, 1, none⟩ = some (.int .u64 0) := z1
    have z2' : w2.cell? ⟨G, 2, none⟩ = some (.int .u64 0) := z2
    have HX := Lib.hid hX
    have HB := Lib.hid hB
    clear X1 X2 hC b1 b2 hGW H1 ht1 hG z0 z1 z2 hX hB
    go_wp2
    refine bodyPost_ret (results_cell_row2 rfl _ _ G _ _ (0, 0) _ rfl HX.out Tryz.underlying32 rfl (by kernel_rfl)) rfl ?_
    exact ⟨rfl, HB.out⟩
  | some x =>
    rw [get_yes L hf] at hC
    obtain ⟨hx, -⟩ := fndX_some hf
    rw [show getX X k = (x.2, true) by unfold getX; rw [hf]]
    go_enter Tryz.func31, Tryz.ntmps31
    go_wp2_with fail
    rw [← hW1]
    clear hW1 y1 y1r
    refine hC.mono ?_
    rintro e w2 ⟨rfl, b2⟩
    have hEn := soEntry_any (H1.below ht1 b2) L (ht1.size b2.size) hx
    clear hC
    go_wp2_with fail
    refine hEn.mono ?_
    rintro e w3 ⟨rfl, b3⟩
    have b4 := below_then b2 b3
    have X2 := X1.keep (P := fun _ => False) (StepC.below ht1 b4) (fun h => h)
    obtain ⟨hX, hB, z0, z1, z2, f0, f1, f2⟩ := boxE X2 (w0 := w) (by omega) (below_then b1 b4) x.2
    have z0' : w3.cell? ⟨G, 0, none⟩ = some (.string ⟨#[]⟩) := z0
    have z1' : w3.cell? ⟨G, 1, none⟩ = some (.int .u64 0) := z1
    have z2' : w3.cell? ⟨G, 2, none⟩ = some (.int .u64 0) := z2
    have HX := Lib.hid hX
    have HB := Lib.hid hB
    clear X1 X2 hEn b1 b2 b3 b4 hGW H1 ht1 hG z0 z1 z2 hX hB hf L hx
    go_wp2
    refine bodyPost_ret (results_cell_row2 rfl _ _ G _ _ (0, 0) _ rfl HX.out Tryz.underlying32 rfl (by kernel_rfl)) rfl ?_
    exact ⟨rfl, HB.out⟩
set_option maxHeartbeats 2000000 in
theorem soRaise_any (H : SoB c2 w g gr gm bE n c b s m M E) (L : LkO n X m M E) (ht : Tidy c2 w) (hk : k.size ≤ 281474976710656) (hz : 0 < z) (hz6 : z ≤ 18446744073709551615) (hf : ∀ x, fndX X k = some x → ctE x.2 + z ≤ 9223372036854775808) :
    Calls Tryz.prog 37 #[.pointer (some ⟨g, 0, none⟩), .string k, .int .u64 z] w fun e w' => e = .returned (.bool (hasX X k)) ∧ DidSo c2 w g n b s (upXs X k z) w' := by
  have hC := geti_any H.mp ht k hk
  have y1 := H.c1
  cases hf2 : fndX X k with
  | none =>
    rw [get_miss L hf2] at hC
    rw [show hasX X k = false by unfold hasX; rw [hf2]; rfl, show upXs X k z = X by unfold upXs; rw [hf2]]
    have HH := Lib.hid (And.intro H L)
    clear H L hf hf2
    go_enter Tryz.func37, Tryz.ntmps37
    go_wp2_with fail
    refine hC.mono ?_
    rintro e w2 ⟨rfl, b2⟩
    clear hC
    have HD := Lib.hid (show DidSo c2 w g n b s X w2 from ⟨c2, ⟨_, _, _, _, _, _, _, HH.out.1.below ht b2, HH.out.2⟩, StepC.below ht b2⟩)
    clear HH
    go_wp2
    go_ret
    exact ⟨rfl, HD.out⟩
  | some x =>
    rw [get_yes L hf2] at hC
    obtain ⟨hx, -⟩ := fndX_some hf2
    rw [show hasX X k = true by unfold hasX; rw [hf2]; rfl, show upXs X k z = delX X k ++ [upX x z] by unfold upXs; rw [hf2]]
    obtain ⟨-, R2⟩ := L.raise hf2 hz (hf x hf2)
    have hj : J64 (x.1 : Int) := by have := L.lt x hx; have := L.n1; unfold J64; omega
    have HR := Lib.hid R2
    have HH := Lib.hid H
    clear H L hf hf2 R2 hx
    go_enter Tryz.func37, Tryz.ntmps37
    go_wp2_with fail
    refine hC.mono ?_
    rintro e w2 ⟨rfl, b2⟩
    clear hC y1
    have H2 := HH.out.below ht b2
    have hRa := H2.rk.raiseP (ht.size b2.size) hj (x := z) ⟨by omega, by omega⟩
    have y0 := H2.c0
    go_wp2_with fail
    refine hRa.mono ?_
    rintro e w3 ⟨rfl, hd⟩
    have HD := Lib.hid (show DidSo c2 w g n b s (delX X k ++ [upX x z]) w3 from by
      obtain ⟨c3, H3, st⟩ := H2.rkDid hd
      exact ⟨c3, ⟨_, _, _, _, _, _, _, H3, HR.out⟩, (StepC.below ht b2).trans st⟩)
    clear hRa hd H2 HH HR b2 y0
    go_wp2
    go_ret
    exact ⟨rfl, HD.out⟩
end
end Go.Proofs.YtlfhkhnhcckajaaGreatDoor

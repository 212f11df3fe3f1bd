/- Words laid together in one text. Conditions: none beyond those typed. -/
import Derived.Test.YtajkcjbkbihgjaaGreatZ04
import Derived.Deep.CutRange
import Derived.Test.YtajkcjbkbihgjaaGreatZ02
import Derived.Test.YtajkcjbkbihgjaaGreatZ03
/- The program's tables of int values: New, and what a nil table returns. Conditions: none beyond those typed. -/
namespace Go.Proofs.YtajkcjbkbihgjaaGreat
open Go.ChangeShapes Go.WideShapes Go.ChangeAt Go.RowKit
set_option linter.unusedVariables false
set_option linter.unusedSimpArgs false
set_option maxRecDepth 100000

section
variable {P : Nat → Prop} {col col' : Col} {w w' W : World} {k g n u N : Nat} {T : List Int} {seed : Int} {A : Option Addr} {cT b c gm bc cc : Nat} {t : Tb Int} {home : ByteArray → Nat} {s : ByteArray} {m : MSt Int} {v : Int}
theorem plOfi_free (home : ByteArray → Nat) (N : Nat) : (List.replicate N (none : Option (ByteArray × Int))).map (plOf (0 : Int) home) = List.replicate N ((false, 0, ⟨#[]⟩, (0 : Int)) : Pl Int) := by simp [plOf]
theorem newi_at (hk : 1 ≤ k) (ht : Tidy col w) (hB : Below w.heap.size w W) (hn : 1 ≤ n ∧ n ≤ 8192) (hs : 0 ≤ seed ∧ seed ≤ 18446744073709551615) (hR : RdU W (some ⟨bc, 0, none⟩) 16 cc T) (hO : OwnK kPi W (.slice (some ⟨gm, 0, none⟩) (2 * n) (2 * n)) (List.replicate (2 * n) ((false, 0, ⟨#[]⟩, (0 : Int)) : Pl Int)))
    (h1 : w.heap.size ≤ bc) (h2 : w.heap.size ≤ gm) (h3 : bc ≠ gm) :
    DidPM PMi col k w W.heap.size (newM Int n) (W.alloc (.cells #[.slice (some ⟨bc, 0, none⟩) 16 cc, .int .u64 seed, .int .i64 n, .int .i64 0, .slice (some ⟨gm, 0, none⟩) (2 * n : Nat) (2 * n : Nat)] 127)) := by
  have hg : gm < W.heap.size := hO.lt gm rfl
  have hbw : bc < W.heap.size := by
    obtain ⟨b', o', z, e, _, _, _, hb, _⟩ := hR.at_ (k := 0) (by omega)
    injection e with e; injection e with e; omega
  have hBA : Below W.heap.size W (W.alloc (.cells #[.slice (some ⟨bc, 0, none⟩) 16 cc, .int .u64 seed, .int .i64 n, .int .i64 0, .slice (some ⟨gm, 0, none⟩) (2 * n : Nat) (2 * n : Nat)] 127)) := (Below.refl _ _).alloc (Nat.le_refl _) _
  have hB2 := below_then hB hBA
  have hsz := hB.size
  have hW : (W.alloc (.cells #[.slice (some ⟨bc, 0, none⟩) 16 cc, .int .u64 seed, .int .i64 n, .int .i64 0, .slice (some ⟨gm, 0, none⟩) (2 * n : Nat) (2 * n : Nat)] 127)).heap.size = W.heap.size + 1 := by simp
  have hcol : ∀ b, dye (dye col (some W.heap.size) k) (some gm) (k + 1) b = if b = gm then k + 1 else if b = W.heap.size then k else col b := fun b => by
    unfold dye
    by_cases e1 : b = gm
    · subst e1; rw [if_pos rfl, if_pos rfl]
    · by_cases e2 : b = W.heap.size
      · subst e2; rw [if_neg (fun e => by injection e with e; omega), if_pos rfl, if_neg e1, if_pos rfl]
      · rw [if_neg (fun e => by injection e with e; omega), if_neg (fun e => by injection e with e; omega), if_neg e1, if_neg e2]
  refine ⟨dye (dye col (some W.heap.size) k) (some gm) (k + 1), ⟨newM_good hn.1 hn.2, T, seed, some ⟨bc, 0, none⟩, cc, gm, 2 * n, 2 * n, List.replicate (2 * n) none, ⟨⟨heap_alloc_new W _, ?_⟩, ⟨hR.below hBA, fun _ b o sp e => ?_⟩, ⟨?_, ?_⟩, hs, hn, rfl, hk⟩, LP.new fun s => (home_val T seed (by omega) s).2, RelT.new⟩, ⟨hB2.os, hB2.tape, hB2.output, hB2.size, fun b hb => ?_, fun b hb => ?_, fun b hb _ => hB2.block b hb⟩⟩
  · rw [hcol, if_neg (by omega), if_pos rfl]
  · injection e with e; injection e with e; subst e
    rw [hcol, if_neg h3, if_neg (by omega)]; exact ht bc h1
  · rw [plOfi_free]; exact hO.below hBA
  · intro q hq
    have hq' : gm = q := by simpa [Value.ownBlock] using hq
    subst hq'
    rw [hcol, if_pos rfl]
  · rw [hcol, if_neg (by omega), if_neg (by omega)]
  · rw [hcol, if_neg (by omega), if_neg (by omega)]; exact ht b (by omega)
set_option maxHeartbeats 4000000 in
theorem newi_any {A : Option Addr} {t c : Nat} (ht : Tidy col w) (hk : 1 ≤ k) (hT : RdU0 col w A t c T) (n seed : Int) (hn : -9223372036854775808 ≤ n ∧ n ≤ 9223372036854775807) (hs : 0 ≤ seed ∧ seed ≤ 18446744073709551615) :
    Calls Tryz.prog 52 #[.int .i64 n, .slice A t c, .int .u64 seed] w (NewPM PMi col k n t w) := by
  have hmx := hT.rd.max
  have hcp := hT.rd.cap
  by_cases h1 : n < 1
  · have HE := Lib.hid (show mapE n t = 1 from if_pos (.inl h1))
    go_enter Tryz.func52, Tryz.ntmps52
    go_wp2
    go_ret2
    exact .inr ⟨by rw [HE.out]; decide, by rw [HE.out]; rfl, Below.refl _ _⟩
  by_cases h2 : 8192 < n
  · have HE := Lib.hid (show mapE n t = 1 from if_pos (.inr h2))
    go_enter Tryz.func52, Tryz.ntmps52
    go_wp2
    go_ret2
    exact .inr ⟨by rw [HE.out]; decide, by rw [HE.out]; rfl, Below.refl _ _⟩
  have hc := hcheck_any A t c w (by omega)
  by_cases h3 : t = 16
  · subst h3
    obtain ⟨q, rfl⟩ : ∃ q : Nat, n = (q : Int) := ⟨n.toNat, by omega⟩
    have HE := Lib.hid (show mapE (q : Int) 16 = 0 by unfold mapE; rw [if_neg (by omega)]; rfl)
    rw [show tabE 16 = 0 from rfl] at hc
    have hq : 1 ≤ q ∧ q ≤ 8192 := by omega
    have hT0 := hT.rd
    have hN1 : 2 * q ≤ 1000000 := by omega
    have hwr : IntKind.i64.wrap (2 * (q : Int)) = ((2 * q : Nat) : Int) := by rw [IntKind.wrap_i64]; omega
    obtain ⟨NN, hNN⟩ : ∃ NN : Nat, 2 * q = NN := ⟨_, rfl⟩
    have hAt := Lib.hid (fun (W : World) (bc cc gm : Nat) (hB : Below w.heap.size w W) (hR : RdU W (some ⟨bc, 0, none⟩) 16 cc T) (hO : OwnK kPi W (.slice (some ⟨gm, 0, none⟩) NN NN) (List.replicate NN ((false, 0, ⟨#[]⟩, (0 : Int)) : Pl Int))) (h1 : w.heap.size ≤ bc) (h2 : w.heap.size ≤ gm) (h3 : bc ≠ gm) (g' : Nat) (hg' : W.heap.size = g') =>
      show DidPM PMi col k w g' (newM Int q) (W.alloc (.cells #[.slice (some ⟨bc, 0, none⟩) 16 cc, .int .u64 seed, .int .i64 q, .int .i64 0, .slice (some ⟨gm, 0, none⟩) NN NN] 127)) by subst hNN hg'; exact newi_at hk ht hB hq hs hR hO h1 h2 h3)
    rw [hNN] at hN1 hwr
    clear hNN hT h1 h2
    go_enter Tryz.func52, Tryz.ntmps52
    go_wp2_with fail
    refine hc.mono ?_
    rintro r w1 ⟨rfl, hw⟩
    subst hw
    have h16 : (16 : Nat) ≤ 1000000 := by omega
    have h160 : (0 : Nat) < 16 := by omega
    have hz0 : kPi.enc ((false, 0, ⟨#[]⟩, (0 : Int)) : Pl Int) = kPi.zero.cells.toList := rfl
    clear hc
    go_wp2
    obtain ⟨CS, hmk, hOw⟩ := make_any kPi hN1 hz0
    have HO := Lib.hid hOw
    have hmk' : ∀ W : World, (Instr.makeSlice 125 (.int .i64 (NN : Int)) (.int .i64 (NN : Int))).run Tryz.prog W = .ok (.slice (some ⟨W.heap.size, 0, none⟩) NN NN) (W.alloc (.cells CS 168)) := hmk
    clear hmk hOw
    go_region_held3 (fun _ => True) (trivial) ((go_at_call 55; refine (cloneU_any (hT0.below (by first | exact bdM _ | exact (bdM _).alloc (bdM _).size _)) h16 h160).mono ?_; rintro r w2 ⟨bc, cc, rfl, R2, l2, u2, B2⟩))
    all_goals
      clear hT0 hmk'
      go_wp2
      go_ret2
      first
        | exact .inl ⟨HE.out, w2.heap.size + 1, rfl, hAt.out (w2.alloc (.cells CS kPi.ty)) bc cc w2.heap.size ((below_then (bdM w) B2).alloc (below_then (bdM w) B2).size _) (R2.below ((Below.refl _ _).alloc (Nat.le_refl _) _)) (HO.out w2) (Nat.le_trans (bdM w).size l2) (below_then (bdM w) B2).size (ne_lt u2 rfl) _ (by simp)⟩
        | exact .inl ⟨HE.out, w2.heap.size, rfl, hAt.out w2 bc cc w.heap.size (below_then ((bdM w).alloc (bdM w).size _) B2) R2 ((HO.out w.drew).below B2) (Nat.le_trans ((bdM w).alloc (bdM w).size _).size l2) (Nat.le_refl _) (ne_ge l2 ((HO.out w.drew).lt _ rfl)) _ rfl⟩
  · have HE := Lib.hid (show mapE n t = 11 by unfold mapE; rw [if_neg (by omega)]; exact if_neg h3)
    rw [show tabE t = 11 from if_neg h3] at hc
    go_enter Tryz.func52, Tryz.ntmps52
    go_wp2_with fail
    refine hc.mono ?_
    rintro r w1 ⟨rfl, hw⟩
    subst hw
    go_wp2
    go_ret2
    exact .inr ⟨by rw [HE.out]; decide, by rw [HE.out]; rfl, Below.refl _ _⟩
end
end Go.Proofs.YtajkcjbkbihgjaaGreat

/- The program's tables of uint64 values in memory: the box, the row of places. Conditions: none beyond those typed. -/
namespace Go.Proofs.YtajkcjbkbihgjaaGreat
open Go.ChangeShapes Go.WideShapes Go.ChangeAt Go.RowKit
set_option linter.unusedVariables false
set_option linter.unusedSimpArgs false
set_option maxRecDepth 100000

/-- Places with their values. -/
def kPw : Kind (Pl Int) where
  ty := 224
  sl := 111
  k := 4
  by_ := 40
  zero := .agg #[.bool false, .int .i64 0, .string ⟨#[]⟩, .int .u64 0]
  enc := plE (fun z : Int => Value.int .u64 z)
  pos := by omega
  len := fun _ => rfl
  one := fun a u hu => by simp [plE] at hu; rcases hu with rfl | rfl | rfl | rfl <;> rfl
  under := Tryz.underlying111
  info := by kernel_rfl
  zk := rfl
  small := by omega
/-- A table of the program: its box and its row of N places. -/
structure Mxw (col : Col) (k : Nat) (w : World) (g n u N : Nat) (T : List Int) (seed : Int) (A : Option Addr) (cT b c : Nat) (l : List (Pl Int)) : Prop where
  box : BoxC col w g k #[.slice A 16 cT, .int .u64 seed, .int .i64 n, .int .i64 u, .slice (some ⟨b, 0, none⟩) N c] 113
  tab : RdU0 col w A 16 cT T
  row : OwnKc kPw col w (k + 1) (.slice (some ⟨b, 0, none⟩) N c) l
  s0 : 0 ≤ seed ∧ seed ≤ 18446744073709551615
  n1 : 1 ≤ n ∧ n ≤ 8192
  nN : N = 2 * n
  k1 : 1 ≤ k
section
variable {P : Nat → Prop} {col col' : Col} {w w' : World} {k g n u N : Nat} {T : List Int} {seed : Int} {A : Option Addr} {cT b c : Nat} {l : List (Pl Int)} {i : Nat} {r : Pl Int}
theorem Mxw.keep (h : Mxw col k w g n u N T seed A cT b c l) (hs : StepC P col w col' w') (hp : ∀ c, Rng k c → ¬ P c) (h0 : ¬ P 0) : Mxw col' k w' g n u N T seed A cT b c l :=
  ⟨h.box.keep hs (hp _ ⟨Nat.le_refl _, by omega⟩), h.tab.keep hs h0, h.row.keep hs (hp _ ⟨by omega, by omega⟩), h.s0, h.n1, h.nN, h.k1⟩
theorem Mxw.below (h : Mxw col k w g n u N T seed A cT b c l) (ht : Tidy col w) (hb : Below w.heap.size w w') : Mxw col k w' g n u N T seed A cT b c l := h.keep (P := fun _ => False) (StepC.below ht hb) (fun _ _ h => h) (fun h => h)
theorem Mxw.drewN (h : Mxw col k w g n u N T seed A cT b c l) (ht : Tidy col w) (j : Nat) : Mxw col k (w.drewN j) g n u N T seed A cT b c l := h.below ht (below_drewN (Below.refl _ _) j)
theorem Mxw.len (h : Mxw col k w g n u N T seed A cT b c l) : l.length = N := h.row.own.len
theorem Mxw.c0 (h : Mxw col k w g n u N T seed A cT b c l) : w.cell? ⟨g, 0, none⟩ = some (.slice A 16 cT) := h.box.cell 0 rfl
theorem Mxw.c1 (h : Mxw col k w g n u N T seed A cT b c l) : w.cell? ⟨g, 1, none⟩ = some (.int .u64 seed) := h.box.cell 1 rfl
theorem Mxw.c2 (h : Mxw col k w g n u N T seed A cT b c l) : w.cell? ⟨g, 2, none⟩ = some (.int .i64 n) := h.box.cell 2 rfl
theorem Mxw.c3 (h : Mxw col k w g n u N T seed A cT b c l) : w.cell? ⟨g, 3, none⟩ = some (.int .i64 u) := h.box.cell 3 rfl
theorem Mxw.c4 (h : Mxw col k w g n u N T seed A cT b c l) : w.cell? ⟨g, 4, none⟩ = some (.slice (some ⟨b, 0, none⟩) N c) := h.box.cell 4 rfl
theorem Mxw.cap (h : Mxw col k w g n u N T seed A cT b c l) : N ≤ c ∧ c ≤ 9223372036854775807 := ⟨h.row.own.reads.cap, h.row.own.reads.max⟩
theorem Mxw.at_ (h : Mxw col k w g n u N T seed A cT b c l) (hr : l[i]? = some r) :
    w.cell? ⟨b, i * 4, none⟩ = some (.bool r.1) ∧ w.cell? ⟨b, i * 4 + 1, none⟩ = some (.int .i64 r.2.1) ∧ w.cell? ⟨b, i * 4 + 2, none⟩ = some (.string r.2.2.1) ∧ w.cell? ⟨b, i * 4 + 3, none⟩ = some ((fun z : Int => Value.int .u64 z) r.2.2.2) ∧ ∀ z, w.frozen? ⟨b, z, none⟩ = false :=
  ⟨h.row.own.cell hr (i := 0) rfl, h.row.own.cell hr (i := 1) rfl, h.row.own.cell hr (i := 2) rfl, h.row.own.cell hr (i := 3) rfl, fun z => h.row.own.free z⟩
/-- A place is written. -/
theorem Mxw.put (h : Mxw col k w g n u N T seed A cT b c l) (ht : Tidy col w) (hi : i < N) (r : Pl Int) :
    Mxw col k ((((w.setCell ⟨b, i * 4, none⟩ (.bool r.1)).setCell ⟨b, i * 4 + 1, none⟩ (.int .i64 r.2.1)).setCell ⟨b, i * 4 + 2, none⟩ (.string r.2.2.1)).setCell ⟨b, i * 4 + 3, none⟩ ((fun z : Int => Value.int .u64 z) r.2.2.2)) g n u N T seed A cT b c (l.set i r) ∧
      StepC (fun d => d = k + 1) col w col ((((w.setCell ⟨b, i * 4, none⟩ (.bool r.1)).setCell ⟨b, i * 4 + 1, none⟩ (.int .i64 r.2.1)).setCell ⟨b, i * 4 + 2, none⟩ (.string r.2.2.1)).setCell ⟨b, i * 4 + 3, none⟩ ((fun z : Int => Value.int .u64 z) r.2.2.2)) := by
  have hl := h.len
  have hg := List.getElem?_eq_getElem (show i < l.length by omega)
  obtain ⟨h1, s1⟩ := h.row.put4 ht rfl hg (a' := r) (u0 := .bool r.1) (u1 := .int .i64 r.2.1) (u2 := .string r.2.2.1) (u3 := (fun z : Int => Value.int .u64 z) r.2.2.2) (p0 := (r.1, l[i].2.1, l[i].2.2.1, l[i].2.2.2)) (p1 := (r.1, r.2.1, l[i].2.2.1, l[i].2.2.2)) (p2 := (r.1, r.2.1, r.2.2.1, l[i].2.2.2)) rfl rfl rfl rfl
  have h0 : ¬ (0 = k + 1) := by omega
  exact ⟨⟨h.box.keep s1 (by omega), h.tab.keep s1 h0, h1, h.s0, h.n1, h.nN, h.k1⟩, s1⟩
end
end Go.Proofs.YtajkcjbkbihgjaaGreat

/- The program's tables of uint64 values: where a search ends. Conditions: none beyond those typed. -/
namespace Go.Proofs.YtajkcjbkbihgjaaGreat
open Go.ChangeShapes Go.WideShapes Go.ChangeAt Go.RowKit
set_option linter.unusedVariables false
set_option linter.unusedSimpArgs false
set_option maxRecDepth 100000

section
variable {P : Nat → Prop} {col col' : Col} {w w' : World} {k g n u N : Nat} {T : List Int} {seed : Int} {A : Option Addr} {cT b c : Nat} {t : Tb Int} {home : ByteArray → Nat} {s : ByteArray}
end
end Go.Proofs.YtajkcjbkbihgjaaGreat

/- The program's tables of uint64 values: a deletion, which moves later elements back. Conditions: none beyond those typed. -/
namespace Go.Proofs.YtajkcjbkbihgjaaGreat
open Go.ChangeShapes Go.WideShapes Go.ChangeAt Go.RowKit
set_option linter.unusedVariables false
set_option linter.unusedSimpArgs false
set_option maxRecDepth 100000

section
variable {P : Nat → Prop} {col col' : Col} {w w' W W' : World} {k g n u N : Nat} {T : List Int} {seed : Int} {A : Option Addr} {cT b c : Nat} {t t0 : Tb Int} {home : ByteArray → Nat} {s kk : ByteArray} {m : MSt Int} {e hh j i0 : Nat} {x : Option (ByteArray × Int)} {v : Int}
end
end Go.Proofs.YtajkcjbkbihgjaaGreat

/- The program's tables of uint64 values: Get, Put, Delete, Len, New. Conditions: none beyond those typed. -/
namespace Go.Proofs.YtajkcjbkbihgjaaGreat
open Go.ChangeShapes Go.WideShapes Go.ChangeAt Go.RowKit
set_option linter.unusedVariables false
set_option linter.unusedSimpArgs false
set_option maxRecDepth 100000

/-- The program's table m lies in block g. -/
def PMw : RepM Int := fun col k w g m => GoodM m ∧ ∃ (T : List Int) (seed : Int) (A : Option Addr) (cT b c N : Nat) (t : Tb Int), Mxw col k w g m.n m.l.length N T seed A cT b c (t.map (plOf (0 : Int) (homeT T seed N))) ∧ LP (homeT T seed N) t ∧ RelT t m
section
variable {P : Nat → Prop} {col col' : Col} {w w' W : World} {k g n u N : Nat} {T : List Int} {seed : Int} {A : Option Addr} {cT b c gm bc : Nat} {t : Tb Int} {home : ByteArray → Nat} {s : ByteArray} {m : MSt Int} {v : Int}
theorem PMw.keep (h : PMw col k w g m) (hs : StepC P col w col' w') (hp : ∀ c, Rng k c → ¬ P c) (h0 : ¬ P 0) : PMw col' k w' g m := by
  obtain ⟨hG, T, seed, A, cT, b, c, N, t, M, hL, R⟩ := h
  exact ⟨hG, T, seed, A, cT, b, c, N, t, M.keep hs hp h0, hL, R⟩
end
end Go.Proofs.YtajkcjbkbihgjaaGreat

/- The program's tables of uint64 values: New, and what a nil table returns. Conditions: none beyond those typed. -/
namespace Go.Proofs.YtajkcjbkbihgjaaGreat
open Go.ChangeShapes Go.WideShapes Go.ChangeAt Go.RowKit
set_option linter.unusedVariables false
set_option linter.unusedSimpArgs false
set_option maxRecDepth 100000

section
variable {P : Nat → Prop} {col col' : Col} {w w' W : World} {k g n u N : Nat} {T : List Int} {seed : Int} {A : Option Addr} {cT b c gm bc cc : Nat} {t : Tb Int} {home : ByteArray → Nat} {s : ByteArray} {m : MSt Int} {v : Int}
theorem plOfw_free (home : ByteArray → Nat) (N : Nat) : (List.replicate N (none : Option (ByteArray × Int))).map (plOf (0 : Int) home) = List.replicate N ((false, 0, ⟨#[]⟩, (0 : Int)) : Pl Int) := by simp [plOf]
theorem neww_at (hk : 1 ≤ k) (ht : Tidy col w) (hB : Below w.heap.size w W) (hn : 1 ≤ n ∧ n ≤ 8192) (hs : 0 ≤ seed ∧ seed ≤ 18446744073709551615) (hR : RdU W (some ⟨bc, 0, none⟩) 16 cc T) (hO : OwnK kPw W (.slice (some ⟨gm, 0, none⟩) (2 * n) (2 * n)) (List.replicate (2 * n) ((false, 0, ⟨#[]⟩, (0 : Int)) : Pl Int)))
    (h1 : w.heap.size ≤ bc) (h2 : w.heap.size ≤ gm) (h3 : bc ≠ gm) :
    DidPM PMw col k w W.heap.size (newM Int n) (W.alloc (.cells #[.slice (some ⟨bc, 0, none⟩) 16 cc, .int .u64 seed, .int .i64 n, .int .i64 0, .slice (some ⟨gm, 0, none⟩) (2 * n : Nat) (2 * n : Nat)] 113)) := by
  have hg : gm < W.heap.size := hO.lt gm rfl
  have hbw : bc < W.heap.size := by
    obtain ⟨b', o', z, e, _, _, _, hb, _⟩ := hR.at_ (k := 0) (by omega)
    injection e with e; injection e with e; omega
  have hBA : Below W.heap.size W (W.alloc (.cells #[.slice (some ⟨bc, 0, none⟩) 16 cc, .int .u64 seed, .int .i64 n, .int .i64 0, .slice (some ⟨gm, 0, none⟩) (2 * n : Nat) (2 * n : Nat)] 113)) := (Below.refl _ _).alloc (Nat.le_refl _) _
  have hB2 := below_then hB hBA
  have hsz := hB.size
  have hW : (W.alloc (.cells #[.slice (some ⟨bc, 0, none⟩) 16 cc, .int .u64 seed, .int .i64 n, .int .i64 0, .slice (some ⟨gm, 0, none⟩) (2 * n : Nat) (2 * n : Nat)] 113)).heap.size = W.heap.size + 1 := by simp
  have hcol : ∀ b, dye (dye col (some W.heap.size) k) (some gm) (k + 1) b = if b = gm then k + 1 else if b = W.heap.size then k else col b := fun b => by
    unfold dye
    by_cases e1 : b = gm
    · subst e1; rw [if_pos rfl, if_pos rfl]
    · by_cases e2 : b = W.heap.size
      · subst e2; rw [if_neg (fun e => by injection e with e; omega), if_pos rfl, if_neg e1, if_pos rfl]
      · rw [if_neg (fun e => by injection e with e; omega), if_neg (fun e => by injection e with e; omega), if_neg e1, if_neg e2]
  refine ⟨dye (dye col (some W.heap.size) k) (some gm) (k + 1), ⟨newM_good hn.1 hn.2, T, seed, some ⟨bc, 0, none⟩, cc, gm, 2 * n, 2 * n, List.replicate (2 * n) none, ⟨⟨heap_alloc_new W _, ?_⟩, ⟨hR.below hBA, fun _ b o sp e => ?_⟩, ⟨?_, ?_⟩, hs, hn, rfl, hk⟩, LP.new fun s => (home_val T seed (by omega) s).2, RelT.new⟩, ⟨hB2.os, hB2.tape, hB2.output, hB2.size, fun b hb => ?_, fun b hb => ?_, fun b hb _ => hB2.block b hb⟩⟩
  · rw [hcol, if_neg (by omega), if_pos rfl]
  · injection e with e; injection e with e; subst e
    rw [hcol, if_neg h3, if_neg (by omega)]; exact ht bc h1
  · rw [plOfw_free]; exact hO.below hBA
  · intro q hq
    have hq' : gm = q := by simpa [Value.ownBlock] using hq
    subst hq'
    rw [hcol, if_pos rfl]
  · rw [hcol, if_neg (by omega), if_neg (by omega)]
  · rw [hcol, if_neg (by omega), if_neg (by omega)]; exact ht b (by omega)
set_option maxHeartbeats 4000000 in
theorem neww_any {A : Option Addr} {t c : Nat} (ht : Tidy col w) (hk : 1 ≤ k) (hT : RdU0 col w A t c T) (n seed : Int) (hn : -9223372036854775808 ≤ n ∧ n ≤ 9223372036854775807) (hs : 0 ≤ seed ∧ seed ≤ 18446744073709551615) :
    Calls Tryz.prog 47 #[.int .i64 n, .slice A t c, .int .u64 seed] w (NewPM PMw col k n t w) := by
  have hmx := hT.rd.max
  have hcp := hT.rd.cap
  by_cases h1 : n < 1
  · have HE := Lib.hid (show mapE n t = 1 from if_pos (.inl h1))
    go_enter Tryz.func47, Tryz.ntmps47
    go_wp2
    go_ret2
    exact .inr ⟨by rw [HE.out]; decide, by rw [HE.out]; rfl, Below.refl _ _⟩
  by_cases h2 : 8192 < n
  · have HE := Lib.hid (show mapE n t = 1 from if_pos (.inr h2))
    go_enter Tryz.func47, Tryz.ntmps47
    go_wp2
    go_ret2
    exact .inr ⟨by rw [HE.out]; decide, by rw [HE.out]; rfl, Below.refl _ _⟩
  have hc := hcheck_any A t c w (by omega)
  by_cases h3 : t = 16
  · subst h3
    obtain ⟨q, rfl⟩ : ∃ q : Nat, n = (q : Int) := ⟨n.toNat, by omega⟩
    have HE := Lib.hid (show mapE (q : Int) 16 = 0 by unfold mapE; rw [if_neg (by omega)]; rfl)
    rw [show tabE 16 = 0 from rfl] at hc
    have hq : 1 ≤ q ∧ q ≤ 8192 := by omega
    have hT0 := hT.rd
    have hN1 : 2 * q ≤ 1000000 := by omega
    have hwr : IntKind.i64.wrap (2 * (q : Int)) = ((2 * q : Nat) : Int) := by rw [IntKind.wrap_i64]; omega
    obtain ⟨NN, hNN⟩ : ∃ NN : Nat, 2 * q = NN := ⟨_, rfl⟩
    have hAt := Lib.hid (fun (W : World) (bc cc gm : Nat) (hB : Below w.heap.size w W) (hR : RdU W (some ⟨bc, 0, none⟩) 16 cc T) (hO : OwnK kPw W (.slice (some ⟨gm, 0, none⟩) NN NN) (List.replicate NN ((false, 0, ⟨#[]⟩, (0 : Int)) : Pl Int))) (h1 : w.heap.size ≤ bc) (h2 : w.heap.size ≤ gm) (h3 : bc ≠ gm) (g' : Nat) (hg' : W.heap.size = g') =>
      show DidPM PMw col k w g' (newM Int q) (W.alloc (.cells #[.slice (some ⟨bc, 0, none⟩) 16 cc, .int .u64 seed, .int .i64 q, .int .i64 0, .slice (some ⟨gm, 0, none⟩) NN NN] 113)) by subst hNN hg'; exact neww_at hk ht hB hq hs hR hO h1 h2 h3)
    rw [hNN] at hN1 hwr
    clear hNN hT h1 h2
    go_enter Tryz.func47, Tryz.ntmps47
    go_wp2_with fail
    refine hc.mono ?_
    rintro r w1 ⟨rfl, hw⟩
    subst hw
    have h16 : (16 : Nat) ≤ 1000000 := by omega
    have h160 : (0 : Nat) < 16 := by omega
    have hz0 : kPw.enc ((false, 0, ⟨#[]⟩, (0 : Int)) : Pl Int) = kPw.zero.cells.toList := rfl
    clear hc
    go_wp2
    obtain ⟨CS, hmk, hOw⟩ := make_any kPw hN1 hz0
    have HO := Lib.hid hOw
    have hmk' : ∀ W : World, (Instr.makeSlice 111 (.int .i64 (NN : Int)) (.int .i64 (NN : Int))).run Tryz.prog W = .ok (.slice (some ⟨W.heap.size, 0, none⟩) NN NN) (W.alloc (.cells CS 224)) := hmk
    clear hmk hOw
    go_region_held3 (fun _ => True) (trivial) ((go_at_call 55; refine (cloneU_any (hT0.below (by first | exact bdM _ | exact (bdM _).alloc (bdM _).size _)) h16 h160).mono ?_; rintro r w2 ⟨bc, cc, rfl, R2, l2, u2, B2⟩))
    all_goals
      clear hT0 hmk'
      go_wp2
      go_ret2
      first
        | exact .inl ⟨HE.out, w2.heap.size + 1, rfl, hAt.out (w2.alloc (.cells CS kPw.ty)) bc cc w2.heap.size ((below_then (bdM w) B2).alloc (below_then (bdM w) B2).size _) (R2.below ((Below.refl _ _).alloc (Nat.le_refl _) _)) (HO.out w2) (Nat.le_trans (bdM w).size l2) (below_then (bdM w) B2).size (ne_lt u2 rfl) _ (by simp)⟩
        | exact .inl ⟨HE.out, w2.heap.size, rfl, hAt.out w2 bc cc w.heap.size (below_then ((bdM w).alloc (bdM w).size _) B2) R2 ((HO.out w.drew).below B2) (Nat.le_trans ((bdM w).alloc (bdM w).size _).size l2) (Nat.le_refl _) (ne_ge l2 ((HO.out w.drew).lt _ rfl)) _ rfl⟩
  · have HE := Lib.hid (show mapE n t = 11 by unfold mapE; rw [if_neg (by omega)]; exact if_neg h3)
    rw [show tabE t = 11 from if_neg h3] at hc
    go_enter Tryz.func47, Tryz.ntmps47
    go_wp2_with fail
    refine hc.mono ?_
    rintro r w1 ⟨rfl, hw⟩
    subst hw
    go_wp2
    go_ret2
    exact .inr ⟨by rw [HE.out]; decide, by rw [HE.out]; rfl, Below.refl _ _⟩
end
end Go.Proofs.YtajkcjbkbihgjaaGreat

/- A box for an entry that comes back: how it is written behind other steps. Conditions: none beyond those typed. -/
namespace Go.Proofs.YtajkcjbkbihgjaaGreat
open Go.ChangeShapes Go.WideShapes Go.ChangeAt Go.RowKit
set_option linter.unusedVariables false
set_option linter.unusedSimpArgs false

theorem OwnK.bound {T : List Int} {v : Int} {i : Nat} (h : ∀ z ∈ T, 0 ≤ z ∧ z ≤ 18446744073709551615) (hv : 0 ≤ v ∧ v ≤ 18446744073709551615) : ∀ z ∈ T.set i v, 0 ≤ z ∧ z ≤ 18446744073709551615 := fun z hz => by
  rcases List.mem_or_eq_of_mem_set hz with h1 | h1
  · exact h z h1
  · rw [h1]; exact hv
end Go.Proofs.YtajkcjbkbihgjaaGreat

/- The words of the hash function of package saving's tables. Conditions: none beyond those typed. -/
namespace Go.Proofs.YtajkcjbkbihgjaaGreat
open Go.ChangeShapes Go.WideShapes Go.ChangeAt Go.RowKit
set_option linter.unusedVariables false
set_option linter.unusedSimpArgs false
set_option maxRecDepth 100000

set_option maxHeartbeats 1000000 in
theorem soWords_any (w : World) : Calls Tryz.prog 53 #[] w fun e w' => ∃ T, e = .returned (.slice (some ⟨w.heap.size, 0, none⟩) 16 16) ∧ RdU w' (some ⟨w.heap.size, 0, none⟩) 16 16 T ∧ Below w.heap.size w w' := by
  obtain ⟨CS, hmk, hOw⟩ := make_any kU (n := 16) (by omega) (z := 0) rfl
  have hmk' : ∀ W : World, (Instr.makeSlice 99 (.int .i64 16) (.int .i64 16)).run Tryz.prog W = .ok (.slice (some ⟨W.heap.size, 0, none⟩) 16 16) (W.alloc (.cells CS 22)) := hmk
  have O1 := hOw w
  have b1 : Below w.heap.size w (w.alloc (.cells CS 22)) := (Below.refl _ _).alloc (Nat.le_refl _) _
  have hz : ∀ z ∈ List.replicate 16 (0 : Int), 0 ≤ z ∧ z ≤ 18446744073709551615 := fun z hz => by rw [(List.mem_replicate.1 hz).2]; omega
  have HS := Lib.hid (And.intro O1 (And.intro hz b1))
  clear O1 b1 hz hOw hmk
  go_enter Tryz.func53, Tryz.ntmps53
  go_wp2
  generalize List.replicate 16 (0 : Int) = T0 at *
  go_loopw [6] (fun iv wr => ∃ (i : Nat) (T : List Int), i ≤ 16 ∧ iv = .int .i64 (i : Int) ∧ OwnK kU wr (.slice (some ⟨w.heap.size, 0, none⟩) 16 16) T ∧ (∀ z ∈ T, 0 ≤ z ∧ z ≤ 18446744073709551615) ∧ Below w.heap.size w wr) (fun iv _ => 16 - (intOf iv).toNat)
  case atStart => exact ⟨0, T0, Nat.zero_le _, rfl, HS.out.1, HS.out.2.1, HS.out.2.2⟩
  case round =>
    clear HS hmk'
    obtain ⟨i, T, hi, rfl, hO, hT, hB⟩ := hrel
    by_cases hlt : i < 16
    · have hlen := hO.len
      obtain ⟨a, ha⟩ : ∃ a, T[i]? = some a := ⟨_, List.getElem?_eq_getElem (by omega)⟩
      have y0' := hO.cell ha (i := 0) (u := .int .u64 a) rfl
      have y0 : wr.cell? ⟨w.heap.size, i, none⟩ = some (.int .u64 a) := by simpa [show kU.k = 1 from rfl] using y0'
      have fz := hO.free i
      have hiI : (i : Int) < 16 := by omega
      have hw1 : IntKind.i64.wrap ((i : Int) + 1) = (i : Int) + 1 := by rw [IntKind.wrap_i64]; omega
      have hw2 : IntKind.u64.wrap ((i : Int) + 1) = (i : Int) + 1 := IntWalk.u64_in _ ⟨by omega, by omega⟩
      obtain ⟨v, hv⟩ : ∃ v, IntKind.u64.wrap (((i : Int) + 1) * 11400714819323198485) = v := ⟨_, rfl⟩
      have hvb : 0 ≤ v ∧ v ≤ 18446744073709551615 := by rw [← hv, IntKind.wrap_u64]; omega
      have hst := hO.store (j := i) (i := 0) (a := a) (a' := v) (u := .int .u64 v) ha (by show 0 < 1; omega) rfl
      have hst' : OwnK kU (wr.setCell ⟨w.heap.size, i, none⟩ (.int .u64 v)) (.slice (some ⟨w.heap.size, 0, none⟩) 16 16) (T.set i v) := by simpa [show kU.k = 1 from rfl] using hst
      have HN := Lib.hid (And.intro hst' (And.intro (OwnK.bound (i := i) hT hvb) (hB.setCell (p := ⟨w.heap.size, i, none⟩) (Nat.le_refl _) (.int .u64 v))))
      clear hst hst' hO hT hB ha y0' hlen hvb
      go_wp2
      go_roundw
      case rel => exact ⟨i + 1, _, by omega, by go_num, HN.out.1, HN.out.2.1, HN.out.2.2⟩
      case measure => (simp [intOf] <;> omega)
    · have hi16 : i = 16 := by omega
      subst hi16
      have HE := Lib.hid (And.intro (RdU.ofK hO.reads hT) hB)
      clear hO hT hB
      go_wp2
      go_ret
      exact ⟨T, rfl, HE.out.1, HE.out.2⟩
end Go.Proofs.YtajkcjbkbihgjaaGreat

/- The words of the hash function of package frequent's tables. Conditions: none beyond those typed. -/
namespace Go.Proofs.YtajkcjbkbihgjaaGreat
open Go.ChangeShapes Go.WideShapes Go.ChangeAt Go.RowKit
set_option linter.unusedVariables false
set_option linter.unusedSimpArgs false
set_option maxRecDepth 100000

set_option maxHeartbeats 1000000 in
theorem fWords_any (w : World) : Calls Tryz.prog 48 #[] w fun e w' => ∃ T, e = .returned (.slice (some ⟨w.heap.size, 0, none⟩) 16 16) ∧ RdU w' (some ⟨w.heap.size, 0, none⟩) 16 16 T ∧ Below w.heap.size w w' := by
  obtain ⟨CS, hmk, hOw⟩ := make_any kU (n := 16) (by omega) (z := 0) rfl
  have hmk' : ∀ W : World, (Instr.makeSlice 99 (.int .i64 16) (.int .i64 16)).run Tryz.prog W = .ok (.slice (some ⟨W.heap.size, 0, none⟩) 16 16) (W.alloc (.cells CS 22)) := hmk
  have O1 := hOw w
  have b1 : Below w.heap.size w (w.alloc (.cells CS 22)) := (Below.refl _ _).alloc (Nat.le_refl _) _
  have hz : ∀ z ∈ List.replicate 16 (0 : Int), 0 ≤ z ∧ z ≤ 18446744073709551615 := fun z hz => by rw [(List.mem_replicate.1 hz).2]; omega
  have HS := Lib.hid (And.intro O1 (And.intro hz b1))
  clear O1 b1 hz hOw hmk
  go_enter Tryz.func48, Tryz.ntmps48
  go_wp2
  generalize List.replicate 16 (0 : Int) = T0 at *
  go_loopw [6] (fun iv wr => ∃ (i : Nat) (T : List Int), i ≤ 16 ∧ iv = .int .i64 (i : Int) ∧ OwnK kU wr (.slice (some ⟨w.heap.size, 0, none⟩) 16 16) T ∧ (∀ z ∈ T, 0 ≤ z ∧ z ≤ 18446744073709551615) ∧ Below w.heap.size w wr) (fun iv _ => 16 - (intOf iv).toNat)
  case atStart => exact ⟨0, T0, Nat.zero_le _, rfl, HS.out.1, HS.out.2.1, HS.out.2.2⟩
  case round =>
    clear HS hmk'
    obtain ⟨i, T, hi, rfl, hO, hT, hB⟩ := hrel
    by_cases hlt : i < 16
    · have hlen := hO.len
      obtain ⟨a, ha⟩ : ∃ a, T[i]? = some a := ⟨_, List.getElem?_eq_getElem (by omega)⟩
      have y0' := hO.cell ha (i := 0) (u := .int .u64 a) rfl
      have y0 : wr.cell? ⟨w.heap.size, i, none⟩ = some (.int .u64 a) := by simpa [show kU.k = 1 from rfl] using y0'
      have fz := hO.free i
      have hiI : (i : Int) < 16 := by omega
      have hw1 : IntKind.i64.wrap ((i : Int) + 1) = (i : Int) + 1 := by rw [IntKind.wrap_i64]; omega
      have hw2 : IntKind.u64.wrap (i : Int) = (i : Int) := IntWalk.u64_in _ ⟨by omega, by omega⟩
      have hst := hO.store (j := i) (i := 0) (a := a) (a' := (i : Int)) (u := .int .u64 (i : Int)) ha (by show 0 < 1; omega) rfl
      have hst' : OwnK kU (wr.setCell ⟨w.heap.size, i, none⟩ (.int .u64 (i : Int))) (.slice (some ⟨w.heap.size, 0, none⟩) 16 16) (T.set i (i : Int)) := by simpa [show kU.k = 1 from rfl] using hst
      have HN := Lib.hid (And.intro hst' (And.intro (OwnK.bound (i := i) hT (show 0 ≤ (i : Int) ∧ (i : Int) ≤ 18446744073709551615 by omega)) (hB.setCell (p := ⟨w.heap.size, i, none⟩) (Nat.le_refl _) (.int .u64 (i : Int)))))
      clear hst hst' hO hT hB ha y0' hlen
      go_wp2
      go_roundw
      case rel => exact ⟨i + 1, _, by omega, by go_num, HN.out.1, HN.out.2.1, HN.out.2.2⟩
      case measure => (simp [intOf] <;> omega)
    · have hi16 : i = 16 := by omega
      subst hi16
      have HE := Lib.hid (And.intro (RdU.ofK hO.reads hT) hB)
      clear hO hT hB
      go_wp2
      go_ret
      exact ⟨T, rfl, HE.out.1, HE.out.2⟩
end Go.Proofs.YtajkcjbkbihgjaaGreat

/- All that the statements use of the program's tables (Space-Saving), as structures of contracts over a representation. Conditions: none beyond those typed. -/
namespace Go.Proofs.YtajkcjbkbihgjaaGreat
open Go.ChangeShapes Go.WideShapes Go.ChangeAt Go.RowKit
set_option linter.unusedVariables false
set_option linter.unusedSimpArgs false

/-- Table t lies in block g, with the base colour k. -/
abbrev RepT := Col → Nat → World → Nat → TSt → Prop
def DidPT (PT : RepT) (col : Col) (k : Nat) (w : World) (g : Nat) (t : TSt) (w' : World) : Prop := ∃ col', PT col' k w' g t ∧ StepC (Rng k) col w col' w'
def NewPT (PT : RepT) (col : Col) (k : Nat) (n : Int) (w : World) (e : Ending) (w' : World) : Prop :=
  (svE n = 0 ∧ ∃ g, e = .returned (.tuple #[.pointer (some ⟨g, 0, none⟩), .int .i64 0]) ∧ DidPT PT col k w g (newT n.toNat) w') ∨ (svE n = 1 ∧ e = .returned (.tuple #[.pointer none, .int .i64 1]) ∧ Below w.heap.size w w')
/-- What is used where weights are only added. -/
structure ProgTh (PT : RepT) : Prop where
  keep : ∀ {P : Nat → Prop} {col col' : Col} {w w' : World} {k g : Nat} {t : TSt}, PT col k w g t → StepC P col w col' w' → (∀ c, Rng k c → ¬ P c) → ¬ P 0 → PT col' k w' g t
  good : ∀ {col : Col} {w : World} {k g : Nat} {t : TSt}, PT col k w g t → GoodT t
  new : ∀ {col : Col} {k : Nat} {w : World}, Tidy col w → TbC col w → 1 ≤ k → ∀ n : Int, J64 n → Calls Tryz.prog 33 #[.int .i64 n] w (NewPT PT col k n w)
  add : ∀ {col : Col} {k g : Nat} {w : World} {t : TSt}, PT col k w g t → Tidy col w → ∀ (s : ByteArray) (x : Int), Sz s → W64 x → Calls Tryz.prog 75 #[.pointer (some ⟨g, 0, none⟩), .string s, .int .u64 x] w fun e w' => e = .returned (.int .i64 (t.addS s x).1) ∧ DidPT PT col k w g (t.addS s x).2 w'
  get : ∀ {col : Col} {k g : Nat} {w : World} {t : TSt}, PT col k w g t → Tidy col w → ∀ s : ByteArray, Sz s → Calls Tryz.prog 77 #[.pointer (some ⟨g, 0, none⟩), .string s] w fun e w' => e = .returned (.tuple #[.agg (VE (t.get s).1), .bool (t.get s).2]) ∧ Below w.heap.size w w'
  take : ∀ {col : Col} {k g : Nat} {w : World} {t : TSt}, PT col k w g t → Tidy col w → ∀ s : ByteArray, Sz s → Calls Tryz.prog 80 #[.pointer (some ⟨g, 0, none⟩), .string s] w fun e w' => e = .returned (.tuple #[.agg (VE (t.get s).1), .bool (t.get s).2]) ∧ DidPT PT col k w g (t.take s) w'
  untr : ∀ {col : Col} {k g : Nat} {w : World} {t : TSt}, PT col k w g t → Tidy col w → Calls Tryz.prog 82 #[.pointer (some ⟨g, 0, none⟩)] w fun e w' => e = .returned (.int .u64 t.base) ∧ Below w.heap.size w w'
  total : ∀ {col : Col} {k g : Nat} {w : World} {t : TSt}, PT col k w g t → Tidy col w → Calls Tryz.prog 81 #[.pointer (some ⟨g, 0, none⟩)] w fun e w' => e = .returned (.int .u64 t.sum) ∧ Below w.heap.size w w'
structure ProgT (PT : RepT) : Prop extends ProgTh PT where
  swap : ∀ {col : Col} {k g : Nat} {w : World} {t : TSt}, PT col k w g t → Tidy col w → ∀ (s : ByteArray) (e : En), Sz s → Sz e.1 → W64 e.2.1 → W64 e.2.2 → Calls Tryz.prog 79 #[.pointer (some ⟨g, 0, none⟩), .string s, .agg (VE e)] w fun r w' => r = .returned (.tuple #[.agg (VE (t.swapS s e).1.1), .int .i64 (t.swapS s e).1.2]) ∧ DidPT PT col k w g (t.swapS s e).2 w'
  len : ∀ {col : Col} {k g : Nat} {w : World} {t : TSt}, PT col k w g t → Tidy col w → Calls Tryz.prog 78 #[.pointer (some ⟨g, 0, none⟩)] w fun e w' => e = .returned (.int .i64 t.l.length) ∧ Below w.heap.size w w'
  entries : ∀ {col : Col} {k g : Nat} {w : World} {t : TSt}, PT col k w g t → Tidy col w → Calls Tryz.prog 76 #[.pointer (some ⟨g, 0, none⟩)] w (RowOut kEn w (sortE t.l))
instance progTLow {PT : RepT} : Coe (ProgT PT) (ProgTh PT) := ⟨ProgT.toProgTh⟩
section
variable {PT : RepT} {w0 W W' : World} {col col' : Col} {k g : Nat} {t t' : TSt}
theorem ProgTh.below (HP : ProgTh PT) (h : PT col k W g t) (ht : Tidy col W) (hb : Below W.heap.size W W') : PT col k W' g t := HP.keep (P := fun _ => False) h (StepC.below ht hb) (fun _ _ h => h) (fun h => h)
end
end Go.Proofs.YtajkcjbkbihgjaaGreat

/- All that the statements use of the program's tables (Misra-Gries), as structures of contracts over a representation. Conditions: none beyond those typed. -/
namespace Go.Proofs.YtajkcjbkbihgjaaGreat
open Go.ChangeShapes Go.WideShapes Go.ChangeAt Go.RowKit
set_option linter.unusedVariables false
set_option linter.unusedSimpArgs false

/-- Table t lies in block g, with the base colour k. -/
abbrev RepF := Col → Nat → World → Nat → TSt → Prop
section
variable {PT : RepF} {w0 W W' : World} {col col' : Col} {k g : Nat} {t t' : TSt}
end
end Go.Proofs.YtajkcjbkbihgjaaGreat

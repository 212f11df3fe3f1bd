/- The program's tables of string values in memory: the box, the row of places. Conditions: none beyond those typed. -/
import Derived.Test.YtdifkcjciblkpaaYplace
namespace Go.Proofs.Ytdifkcjciblkpaa
open Go.ChangeShapes Go.WideShapes Go.ChangeAt Go.RowKit
set_option linter.unusedVariables false
set_option linter.unusedSimpArgs false
set_option maxRecDepth 100000

/-- Places with their values. -/
def kPs : Kind (Pl ByteArray) where
  ty := 79
  sl := 66
  k := 4
  by_ := 48
  zero := .agg #[.bool false, .int .i64 0, .string ⟨#[]⟩, .string ⟨#[]⟩]
  enc := plE (fun z : ByteArray => Value.string z)
  pos := by omega
  len := fun _ => rfl
  one := fun a u hu => by simp [plE] at hu; rcases hu with rfl | rfl | rfl | rfl <;> rfl
  under := Try.underlying66
  info := by kernel_rfl
  zk := rfl
  small := by omega
/-- A table of the program: its box and its row of N places. -/
structure Mxs (col : Col) (k : Nat) (w : World) (g n u N : Nat) (T : List Int) (seed : Int) (A : Option Addr) (cT b c : Nat) (l : List (Pl ByteArray)) : Prop where
  box : BoxC col w g k #[.slice A 16 cT, .int .u64 seed, .int .i64 n, .int .i64 u, .slice (some ⟨b, 0, none⟩) N c] 68
  tab : RdU0 col w A 16 cT T
  row : OwnKc kPs col w (k + 1) (.slice (some ⟨b, 0, none⟩) N c) l
  s0 : 0 ≤ seed ∧ seed ≤ 18446744073709551615
  n1 : 1 ≤ n ∧ n ≤ 8192
  nN : N = 2 * n
  k1 : 1 ≤ k
section
variable {P : Nat → Prop} {col col' : Col} {w w' : World} {k g n u N : Nat} {T : List Int} {seed : Int} {A : Option Addr} {cT b c : Nat} {l : List (Pl ByteArray)} {i : Nat} {r : Pl ByteArray}
theorem Mxs.keep (h : Mxs col k w g n u N T seed A cT b c l) (hs : StepC P col w col' w') (hp : ∀ c, Rng k c → ¬ P c) (h0 : ¬ P 0) : Mxs col' k w' g n u N T seed A cT b c l :=
  ⟨h.box.keep hs (hp _ ⟨Nat.le_refl _, by omega⟩), h.tab.keep hs h0, h.row.keep hs (hp _ ⟨by omega, by omega⟩), h.s0, h.n1, h.nN, h.k1⟩
theorem Mxs.below (h : Mxs col k w g n u N T seed A cT b c l) (ht : Tidy col w) (hb : Below w.heap.size w w') : Mxs col k w' g n u N T seed A cT b c l := h.keep (P := fun _ => False) (StepC.below ht hb) (fun _ _ h => h) (fun h => h)
theorem Mxs.drewN (h : Mxs col k w g n u N T seed A cT b c l) (ht : Tidy col w) (j : Nat) : Mxs col k (w.drewN j) g n u N T seed A cT b c l := h.below ht (below_drewN (Below.refl _ _) j)
theorem Mxs.len (h : Mxs col k w g n u N T seed A cT b c l) : l.length = N := h.row.own.len
theorem Mxs.c0 (h : Mxs col k w g n u N T seed A cT b c l) : w.cell? ⟨g, 0, none⟩ = some (.slice A 16 cT) := h.box.cell 0 rfl
theorem Mxs.c1 (h : Mxs col k w g n u N T seed A cT b c l) : w.cell? ⟨g, 1, none⟩ = some (.int .u64 seed) := h.box.cell 1 rfl
theorem Mxs.c2 (h : Mxs col k w g n u N T seed A cT b c l) : w.cell? ⟨g, 2, none⟩ = some (.int .i64 n) := h.box.cell 2 rfl
theorem Mxs.c3 (h : Mxs col k w g n u N T seed A cT b c l) : w.cell? ⟨g, 3, none⟩ = some (.int .i64 u) := h.box.cell 3 rfl
theorem Mxs.c4 (h : Mxs col k w g n u N T seed A cT b c l) : w.cell? ⟨g, 4, none⟩ = some (.slice (some ⟨b, 0, none⟩) N c) := h.box.cell 4 rfl
theorem Mxs.cap (h : Mxs col k w g n u N T seed A cT b c l) : N ≤ c ∧ c ≤ 9223372036854775807 := ⟨h.row.own.reads.cap, h.row.own.reads.max⟩
theorem Mxs.at_ (h : Mxs col k w g n u N T seed A cT b c l) (hr : l[i]? = some r) :
    w.cell? ⟨b, i * 4, none⟩ = some (.bool r.1) ∧ w.cell? ⟨b, i * 4 + 1, none⟩ = some (.int .i64 r.2.1) ∧ w.cell? ⟨b, i * 4 + 2, none⟩ = some (.string r.2.2.1) ∧ w.cell? ⟨b, i * 4 + 3, none⟩ = some ((fun z : ByteArray => Value.string z) r.2.2.2) ∧ ∀ z, w.frozen? ⟨b, z, none⟩ = false :=
  ⟨h.row.own.cell hr (i := 0) rfl, h.row.own.cell hr (i := 1) rfl, h.row.own.cell hr (i := 2) rfl, h.row.own.cell hr (i := 3) rfl, fun z => h.row.own.free z⟩
/-- A place is written. -/
theorem Mxs.put (h : Mxs col k w g n u N T seed A cT b c l) (ht : Tidy col w) (hi : i < N) (r : Pl ByteArray) :
    Mxs col k ((((w.setCell ⟨b, i * 4, none⟩ (.bool r.1)).setCell ⟨b, i * 4 + 1, none⟩ (.int .i64 r.2.1)).setCell ⟨b, i * 4 + 2, none⟩ (.string r.2.2.1)).setCell ⟨b, i * 4 + 3, none⟩ ((fun z : ByteArray => Value.string z) r.2.2.2)) g n u N T seed A cT b c (l.set i r) ∧
      StepC (fun d => d = k + 1) col w col ((((w.setCell ⟨b, i * 4, none⟩ (.bool r.1)).setCell ⟨b, i * 4 + 1, none⟩ (.int .i64 r.2.1)).setCell ⟨b, i * 4 + 2, none⟩ (.string r.2.2.1)).setCell ⟨b, i * 4 + 3, none⟩ ((fun z : ByteArray => Value.string z) r.2.2.2)) := by
  have hl := h.len
  have hg := List.getElem?_eq_getElem (show i < l.length by omega)
  obtain ⟨h1, s1⟩ := h.row.put4 ht rfl hg (a' := r) (u0 := .bool r.1) (u1 := .int .i64 r.2.1) (u2 := .string r.2.2.1) (u3 := (fun z : ByteArray => Value.string z) r.2.2.2) (p0 := (r.1, l[i].2.1, l[i].2.2.1, l[i].2.2.2)) (p1 := (r.1, r.2.1, l[i].2.2.1, l[i].2.2.2)) (p2 := (r.1, r.2.1, r.2.2.1, l[i].2.2.2)) rfl rfl rfl rfl
  have h0 : ¬ (0 = k + 1) := by omega
  exact ⟨⟨h.box.keep s1 (by omega), h.tab.keep s1 h0, h1, h.s0, h.n1, h.nN, h.k1⟩, s1⟩
/-- A value is written. -/
theorem Mxs.val (h : Mxs col k w g n u N T seed A cT b c l) (ht : Tidy col w) (hr : l[i]? = some r) (v : ByteArray) :
    Mxs col k (w.setCell ⟨b, i * 4 + 3, none⟩ ((fun z : ByteArray => Value.string z) v)) g n u N T seed A cT b c (l.set i (r.1, r.2.1, r.2.2.1, v)) ∧ StepC (fun d => d = k + 1) col w col (w.setCell ⟨b, i * 4 + 3, none⟩ ((fun z : ByteArray => Value.string z) v)) := by
  have s1 : StepC (fun d => d = k + 1) col w col (w.setCell ⟨b, i * 4 + 3, none⟩ ((fun z : ByteArray => Value.string z) v)) := StepC.set ht h.row.col.of _
  have h1 := h.row.set (j := i) (i := 3) (a' := (r.1, r.2.1, r.2.2.1, v)) (u := (fun z : ByteArray => Value.string z) v) hr (by show 3 < 4; omega) rfl
  have h0 : ¬ (0 = k + 1) := by omega
  exact ⟨⟨h.box.keep s1 (by omega), h.tab.keep s1 h0, h1, h.s0, h.n1, h.nN, h.k1⟩, s1⟩
/-- The number of keys is written. -/
theorem Mxs.used (h : Mxs col k w g n u N T seed A cT b c l) (ht : Tidy col w) (u' : Nat) :
    Mxs col k (w.setCell ⟨g, 3, none⟩ (.int .i64 u')) g n u' N T seed A cT b c l ∧ StepC (fun d => d = k) col w col (w.setCell ⟨g, 3, none⟩ (.int .i64 u')) := by
  have s1 : StepC (fun d => d = k) col w col (w.setCell ⟨g, 3, none⟩ (.int .i64 u')) := StepC.set ht h.box.col _
  have h0 : ¬ (0 = k) := by have := h.k1; omega
  exact ⟨⟨h.box.put 3 (.int .i64 u'), h.tab.keep s1 h0, h.row.keep s1 (by omega), h.s0, h.n1, h.nN, h.k1⟩, s1⟩
set_option maxHeartbeats 1000000 in
theorem nexts_any (h : Mxs col k w g n u N T seed A cT b c l) (hi : i < N) {r : Nat} (hr : (i + 1) % N = r) : Calls Try.prog 50 #[.pointer (some ⟨g, 0, none⟩), .int .i64 (i : Int)] w fun e w' => e = .returned (.int .i64 (r : Int)) ∧ w = w' := by
  have x4 := h.c4
  have hN := h.nN
  have hn := h.n1
  have hw : IntKind.i64.wrap ((i : Int) + 1) = (i : Int) + 1 := by rw [IntKind.wrap_i64]; omega
  have hz : ¬ (N : Int) = 0 := by omega
  have hz2 : ((N : Int) == 0) = false := beq_false_of_ne hz
  have hrN : r < N := by rw [← hr]; exact Nat.mod_lt _ (by omega)
  have ht : ((i : Int) + 1).tmod (N : Int) = (r : Int) := by
    rw [Int.tmod_eq_emod_of_nonneg (by omega), ← hr]; rfl
  have hrI : (r : Int) ≤ 16384 := by omega
  have hrn : IntKind.i64.wrap (r : Int) = (r : Int) := by rw [IntKind.wrap_i64]; omega
  clear hr h hN
  go_enter Try.func50, Try.ntmps50
  go_wp2
  go_ret
  exact ⟨rfl, rfl⟩
set_option maxHeartbeats 1000000 in
theorem stepss_any (h : Mxs col k w g n u N T seed A cT b c l) {p q : Nat} (hp : p < N) (hq : q < N) : Calls Try.prog 51 #[.pointer (some ⟨g, 0, none⟩), .int .i64 (p : Int), .int .i64 (q : Int)] w fun e w' => e = .returned (.int .i64 (dst N p q : Int)) ∧ ∃ j, w' = w.drewN j := by
  have x4 := h.c4
  have hN := h.nN
  have hn := h.n1
  obtain ⟨d, hd⟩ : ∃ d : Int, (q : Int) - (p : Int) = d := ⟨_, rfl⟩
  obtain ⟨s, hs⟩ : ∃ s : Nat, d + (N : Int) = (s : Int) := ⟨(d + N).toNat, by omega⟩
  have hw1 : IntKind.i64.wrap ((q : Int) - (p : Int)) = d := by rw [IntKind.wrap_i64]; omega
  have hw2 : IntKind.i64.wrap (d + (N : Int)) = (s : Int) := by rw [IntKind.wrap_i64]; omega
  have hz : ¬ (N : Int) = 0 := by omega
  have hz2 : ((N : Int) == 0) = false := beq_false_of_ne hz
  obtain ⟨r, hr⟩ : ∃ r : Nat, dst N p q = r := ⟨_, rfl⟩
  have hrN : r < N := by rw [← hr]; exact dst_lt hp hq
  have ht : (s : Int).tmod (N : Int) = (r : Int) := by
    rw [Int.tmod_eq_emod_of_nonneg (by omega), ← hr, ← dst_mod hp hq, show s = q + N - p by omega]; rfl
  have hrI : (r : Int) ≤ 16384 := by omega
  have hrn : IntKind.i64.wrap (r : Int) = (r : Int) := by rw [IntKind.wrap_i64]; omega
  have hdb : -16384 ≤ d ∧ d ≤ 16384 := by omega
  have hsb : (s : Int) ≤ 32768 := by omega
  rw [hr]
  clear hr h hN hd hs
  go_enter Try.func51, Try.ntmps51
  go_wp2
  go_quiet (fail)
  go_wp2
  go_ret
  exact ⟨rfl, _, rfl⟩
set_option maxHeartbeats 1000000 in
theorem homes_any (h : Mxs col k w g n u N T seed A cT b c l) {s : ByteArray} (hsz : s.size ≤ 9223372036854775807) : Calls Try.prog 40 #[.pointer (some ⟨g, 0, none⟩), .string s] w fun e w' => e = .returned (.int .i64 (homeT T seed N s : Int)) ∧ Below w.heap.size w w' := by
  have x0 := h.c0
  have x1 := h.c1
  have x4 := h.c4
  have hN := h.nN
  have hn := h.n1
  have hbd := hash_bd T seed s
  have hNa : (-9223372036854775808 : Int) ≤ (N : Int) := by omega
  have hNb : (N : Int) ≤ 9223372036854775807 := by omega
  obtain ⟨hv, hlt⟩ := home_val T seed (N := N) (by omega) s
  have HT := h.tab.rd
  have h01 := h.s0
  clear h hN hn hlt
  go_enter Try.func40, Try.ntmps40
  go_wp2
  go_region_held3 (fun w' => w'.cell? ⟨g, 0, none⟩ = some (.slice A 16 cT) ∧ w'.cell? ⟨g, 1, none⟩ = some (.int .u64 seed) ∧ w'.cell? ⟨g, 4, none⟩ = some (.slice (some ⟨b, 0, none⟩) N c)) (first | exact ⟨x0, x1, x4⟩ | assumption) (first | (go_at_call 45; refine (hkey_drawn A 16 cT T seed s _ (HT.below (bdM _)) h01.1 h01.2 hsz).mono ?_; rintro e w' ⟨rfl, jq, rfl⟩) | (go_at_call 44; refine (hslot_any _ _ _ hbd.1 hbd.2 hNa hNb).mono ?_; rintro e w' ⟨rfl, rfl⟩))
  all_goals
    go_wp2
    go_ret
    exact ⟨rfl, below_drewN (Below.refl _ _) _⟩
end
end Go.Proofs.Ytdifkcjciblkpaa

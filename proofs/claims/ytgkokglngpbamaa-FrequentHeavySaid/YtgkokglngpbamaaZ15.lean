/- Words laid together in one text. Conditions: none beyond those typed. -/
import Derived.Test.YtgkokglngpbamaaZ14
import Derived.Test.YtgkokglngpbamaaZ12
/- The program's tables of uint64 values: Get, Put, Delete, Len, New. Conditions: none beyond those typed. -/
namespace Go.Proofs.Ytgkokglngpbamaa
open Go.ChangeShapes Go.WideShapes Go.ChangeAt Go.RowKit
set_option linter.unusedVariables false
set_option linter.unusedSimpArgs false
set_option maxRecDepth 100000

/-- The program's table m lies in block g. -/
def PMw : RepM Int := fun col k w g m => GoodM m ∧ ∃ (T : List Int) (seed : Int) (A : Option Addr) (cT b c N : Nat) (t : Tb Int), Mxw col k w g m.n m.l.length N T seed A cT b c (t.map (plOf (0 : Int) (homeT T seed N))) ∧ LP (homeT T seed N) t ∧ RelT t m
section
variable {P : Nat → Prop} {col col' : Col} {w w' W : World} {k g n u N : Nat} {T : List Int} {seed : Int} {A : Option Addr} {cT b c gm bc : Nat} {t : Tb Int} {home : ByteArray → Nat} {s : ByteArray} {m : MSt Int} {v : Int}
theorem PMw.keep (h : PMw col k w g m) (hs : StepC P col w col' w') (hp : ∀ c, Rng k c → ¬ P c) (h0 : ¬ P 0) : PMw col' k w' g m := by
  obtain ⟨hG, T, seed, A, cT, b, c, N, t, M, hL, R⟩ := h
  exact ⟨hG, T, seed, A, cT, b, c, N, t, M.keep hs hp h0, hL, R⟩
theorem Mxw.room (M : Mxw col k w g m.n m.l.length N T seed A cT b c (t.map (plOf (0 : Int) home))) (hG : GoodM m) (hL : LP home t) (R : RelT t m) : (∃ e, Emp t e) ∧ m.l.length < N ∧ N ≤ 16384 ∧ 0 < N ∧ t.length = N := by
  have hN := M.nN
  have hn := M.n1
  have hl := M.len
  rw [List.length_map] at hl
  have h1 := hG.len
  exact ⟨R.room hG hL (by omega), by omega, by omega, by omega, hl⟩
set_option maxHeartbeats 1000000 in
theorem getw_any (H : PMw col k w g m) (ht : Tidy col w) (s : ByteArray) (hs : s.size ≤ 281474976710656) :
    Calls Try.prog 33 #[.pointer (some ⟨g, 0, none⟩), .string s] w fun e w' => e = .returned (.tuple #[(fun z : Int => Value.int .u64 z) (getG (0 : Int) m s).1, .bool (getG (0 : Int) m s).2]) ∧ Below w.heap.size w w' := by
  obtain ⟨hG, T, seed, A, cT, b, c, N, t, M, hL, R⟩ := H
  obtain ⟨⟨ef, he⟩, hlN, hN6, hN0, hlen⟩ := M.room hG hL R
  have hHm := homew_any M (s := s) (by omega)
  go_enter Try.func33, Try.ntmps33
  go_wp2_with fail
  refine hHm.mono ?_
  rintro r w1 ⟨rfl, hb1⟩
  have M1 := M.below ht hb1
  have hFd := findw_any M1 hL he (s := s)
  go_wp2_with fail
  refine hFd.mono ?_
  rintro r w2 ⟨i, yes, rfl, hi, hF, hw⟩
  subst hw
  have x4 := M1.c4
  obtain ⟨hcp, hcm⟩ := M1.cap
  have hiI : (i : Int) < (N : Int) := by omega
  rcases hF with ⟨rfl, v, hv⟩ | ⟨rfl, hE, _, hno⟩
  · have hlk : m.look s = some v := R.yes hv
    obtain ⟨_, _, _, y3, _⟩ := M1.at_ (i := i) (r := plOf (0 : Int) (homeT T seed N) (some (s, v))) (by rw [List.getElem?_map, hv]; rfl)
    have y3' : w1.cell? ⟨b, i * 4 + 3, none⟩ = some ((fun z : Int => Value.int .u64 z) v) := y3
    have HR := Lib.hid (show getG (0 : Int) m s = (v, true) by unfold getG; rw [hlk]; rfl)
    clear y3 hFd hHm M M1 hL he R hv hlk
    go_wp2
    go_ret2
    rw [HR.out]
    exact ⟨rfl, hb1⟩
  · have hlk : m.look s = none := R.off hno
    have hE' : t[i]? = some none := hE
    obtain ⟨_, _, _, y3, _⟩ := M1.at_ (i := i) (r := plOf (0 : Int) (homeT T seed N) none) (by rw [List.getElem?_map, hE']; rfl)
    have y3' : w1.cell? ⟨b, i * 4 + 3, none⟩ = some (.int .u64 0) := y3
    have HR := Lib.hid (show getG (0 : Int) m s = ((0 : Int), false) by unfold getG; rw [hlk]; rfl)
    clear y3 hFd hHm M M1 hL he R hE hE' hno hlk
    go_wp2
    go_ret2
    rw [HR.out]
    exact ⟨rfl, hb1⟩
set_option maxHeartbeats 1000000 in
theorem lenw_any (H : PMw col k w g m) : Calls Try.prog 41 #[.pointer (some ⟨g, 0, none⟩)] w fun e w' => e = .returned (.int .i64 m.l.length) ∧ Below w.heap.size w w' := by
  obtain ⟨hG, T, seed, A, cT, b, c, N, t, M, hL, R⟩ := H
  have x3 := M.c3
  clear M
  go_enter Try.func41, Try.ntmps41
  go_wp2
  go_ret
  exact ⟨rfl, Below.refl _ _⟩
set_option maxHeartbeats 1000000 in
theorem delw_any (H : PMw col k w g m) (ht : Tidy col w) (s : ByteArray) (hs : s.size ≤ 281474976710656) :
    Calls Try.prog 36 #[.pointer (some ⟨g, 0, none⟩), .string s] w fun e w' => e = .returned (.tuple #[(fun z : Int => Value.int .u64 z) (getG (0 : Int) m s).1, .bool (getG (0 : Int) m s).2]) ∧ DidPM PMw col k w g (m.del s) w' := by
  have HP := H
  obtain ⟨hG, T, seed, A, cT, b, c, N, t, M, hL, R⟩ := H
  obtain ⟨⟨ef, he⟩, hlN, hN6, hN0, hlen⟩ := M.room hG hL R
  have hHm := homew_any M (s := s) (by omega)
  go_enter Try.func36, Try.ntmps36
  go_wp2_with fail
  refine hHm.mono ?_
  rintro r w1 ⟨rfl, hb1⟩
  have M1 := M.below ht hb1
  have ht1 := ht.size hb1.size
  have s1 : StepC (Rng k) col w col w1 := StepC.below ht hb1
  have hFd := findw_any M1 hL he (s := s)
  go_wp2_with fail
  refine hFd.mono ?_
  rintro r w2 ⟨i, yes, rfl, hi, hF, hw⟩
  subst hw
  have x4 := M1.c4
  obtain ⟨hcp, hcm⟩ := M1.cap
  have hiI : (i : Int) < (N : Int) := by omega
  rcases hF with ⟨rfl, v, hv⟩ | ⟨rfl, hE, _, hno⟩
  · have hlk : m.look s = some v := R.yes hv
    obtain ⟨_, _, _, y3, _⟩ := M1.at_ (i := i) (r := plOf (0 : Int) (homeT T seed N) (some (s, v))) (by rw [List.getElem?_map, hv]; rfl)
    have y3' : w1.cell? ⟨b, i * 4 + 3, none⟩ = some ((fun z : Int => Value.int .u64 z) v) := y3
    have HR := Lib.hid (show getG (0 : Int) m s = (v, true) by unfold getG; rw [hlk]; rfl)
    have hdl := del_gone hG hlk
    have hCt := emptyw_any M1 ht1 hL R hG hlN hv
    have HG := Lib.hid (hG.del s)
    have hn := del_n m s
    obtain ⟨u1, hu1⟩ : ∃ u1, (m.del s).l.length = u1 := ⟨_, rfl⟩
    have hw1 : IntKind.i64.wrap ((m.l.length : Int) - 1) = (u1 : Int) := by rw [IntKind.wrap_i64]; omega
    have HU := Lib.hid hu1
    have HNn := Lib.hid hn
    clear y3 hFd hHm M M1 hL he R hv hlk hu1 hdl hn HP
    go_wp2_with fail
    refine hCt.mono ?_
    rintro r w2 ⟨rfl, t2, M2, hL2, R2, s2⟩
    have x3 := M2.c3
    have f3 := M2.box.free 3
    obtain ⟨M3, s3⟩ := M2.used s2.tidy u1
    have HD := Lib.hid (show DidPM PMw col k w g (m.del s) (w2.setCell ⟨g, 3, none⟩ (.int .i64 (u1 : Int))) from
      ⟨col, ⟨HG.out, T, seed, A, cT, b, c, N, t2, by rw [HNn.out, HU.out]; exact M3, hL2, R2⟩, (s1.trans (s2.mono fun _ => k1_rng)).trans (s3.mono fun _ => k0_rng)⟩)
    clear M2 M3 hCt hL2 R2
    go_wp2
    go_ret2
    rw [HR.out]
    exact ⟨rfl, HD.out⟩
  · have hlk : m.look s = none := R.off hno
    have HR := Lib.hid (show getG (0 : Int) m s = ((0 : Int), false) by unfold getG; rw [hlk]; rfl)
    have HM := Lib.hid (del_not hlk)
    have HD := Lib.hid (show DidPM PMw col k w g m w1 from ⟨col, HP.keep (P := fun _ => False) (StepC.below ht hb1) (fun _ _ h => h) (fun h => h), s1⟩)
    clear hFd hHm M M1 hL he R hE hno hlk HP
    go_wp2
    go_ret2
    rw [HR.out, HM.out]
    exact ⟨rfl, HD.out⟩
theorem Mxw.ready (h : Mxw col k w g n u N T seed A cT b c (t.map (plOf (0 : Int) home))) (ht : Tidy col w) {i : Nat} {y : Option (ByteArray × Int)} (hy : t[i]? = some y) (r : Pl Int) :
    w.cell? ⟨g, 4, none⟩ = some (.slice (some ⟨b, 0, none⟩) N c) ∧ w.cell? ⟨b, i * 4, none⟩ = some (.bool (plOf (0 : Int) home y).1) ∧ w.cell? ⟨b, i * 4 + 1, none⟩ = some (.int .i64 (plOf (0 : Int) home y).2.1) ∧ w.cell? ⟨b, i * 4 + 2, none⟩ = some (.string (plOf (0 : Int) home y).2.2.1) ∧ w.cell? ⟨b, i * 4 + 3, none⟩ = some ((fun z : Int => Value.int .u64 z) (plOf (0 : Int) home y).2.2.2) ∧
    w.frozen? ⟨b, i * 4, none⟩ = false ∧ w.frozen? ⟨b, i * 4 + 1, none⟩ = false ∧ w.frozen? ⟨b, i * 4 + 2, none⟩ = false ∧ w.frozen? ⟨b, i * 4 + 3, none⟩ = false := by
  obtain ⟨y0, y1, y2, y3, fz⟩ := h.at_ (i := i) (r := plOf (0 : Int) home y) (by rw [List.getElem?_map, hy]; rfl)
  exact ⟨h.c4, y0, y1, y2, y3, fz _, fz _, fz _, fz _⟩
set_option maxHeartbeats 4000000 in
theorem putw_any (H : PMw col k w g m) (ht : Tidy col w) (s : ByteArray) (v : Int) (hs : s.size ≤ 281474976710656) :
    Calls Try.prog 38 #[.pointer (some ⟨g, 0, none⟩), .string s, (fun z : Int => Value.int .u64 z) v] w fun e w' => e = .returned (.int .i64 (m.put s v).1) ∧ DidPM PMw col k w g (m.put s v).2 w' := by
  have HP := H
  obtain ⟨hG, T, seed, A, cT, b, c, N, t, M, hL, R⟩ := H
  obtain ⟨⟨ef, he⟩, hlN, hN6, hN0, hlen⟩ := M.room hG hL R
  have hHm := homew_any M (s := s) (by omega)
  go_enter Try.func38, Try.ntmps38
  go_wp2_with fail
  refine hHm.mono ?_
  rintro r w1 ⟨rfl, hb1⟩
  have M1 := M.below ht hb1
  have ht1 := ht.size hb1.size
  have s1 : StepC (Rng k) col w col w1 := StepC.below ht hb1
  have hFd := findw_any M1 hL he (s := s)
  go_wp2_with fail
  refine hFd.mono ?_
  rintro r w2 ⟨i, yes, rfl, hi, hF, hw⟩
  subst hw
  obtain ⟨hcp, hcm⟩ := M1.cap
  have hiI : (i : Int) < (N : Int) := by omega
  rcases hF with ⟨rfl, v0, hv⟩ | ⟨rfl, hE, hpath, hno⟩
  · have hlk : m.look s = some v0 := R.yes hv
    obtain ⟨x4, _, _, _, y3, _, _, _, f3⟩ := M1.ready ht1 hv (plOf (0 : Int) (homeT T seed N) (some (s, v)))
    have y3' : w1.cell? ⟨b, i * 4 + 3, none⟩ = some ((fun z : Int => Value.int .u64 z) v0) := y3
    have hold := put_old hlk v
    have HD := Lib.hid (show DidPM PMw col k w g (m.put s v).2 (w1.setCell ⟨b, i * 4 + 3, none⟩ ((fun z : Int => Value.int .u64 z) v)) from by
      obtain ⟨M2, s2⟩ := M1.val ht1 (i := i) (r := plOf (0 : Int) (homeT T seed N) (some (s, v0))) (by rw [List.getElem?_map, hv]; rfl) v
      refine ⟨col, ⟨hG.put s v, T, seed, A, cT, b, c, N, t.set i (some (s, v)), ?_, hL.val hv v, R.val hG hL hv v⟩, s1.trans (s2.mono fun _ => k1_rng)⟩
      rw [put_n, hold.2, List.map_set]
      exact M2)
    have HE := Lib.hid hold.1
    clear y3 hFd hHm M M1 hL he R hv hlk hold HP hG
    go_wp2
    go_ret
    rw [HE.out]
    exact ⟨rfl, HD.out⟩
  · have hlk : m.look s = none := R.off hno
    have hE' : t[i]? = some none := hE
    have x3 := M1.c3
    have x2 := M1.c2
    have hln := hG.len
    have hn8 := hG.n8
    by_cases hfull : m.l.length = m.n
    · have hfI : ((m.l.length : Int) == (m.n : Int)) = true := beq_iff_eq.2 (by omega)
      have HE := Lib.hid (put_no hlk hfull v)
      have HD := Lib.hid (fun q => show DidPM PMw col k w g m (w1.drewN q) from ⟨col, HP.keep (P := fun _ => False) (StepC.below ht (below_drewN hb1 q)) (fun _ _ h => h) (fun h => h), StepC.below ht (below_drewN hb1 q)⟩)
      clear hFd hHm M M1 hL he R hE hE' hno hlk HP hG hpath hln hfull
      go_wp2
      go_quiet (fail)
      go_wp2
      go_ret
      rw [HE.out]
      exact ⟨rfl, HD.out _⟩
    · have hfI : ((m.l.length : Int) == (m.n : Int)) = false := beq_false_of_ne (by omega)
      have hfr := put_fresh hlk hfull v
      have HE := Lib.hid hfr.1
      obtain ⟨u0, hu0⟩ : ∃ u0, m.l.length = u0 := ⟨_, rfl⟩
      have hu1 : IntKind.i64.wrap ((u0 : Int) + 1) = ((u0 + 1 : Nat) : Int) := by rw [IntKind.wrap_i64]; omega
      have HA := Lib.hid (fun (W : World) (MW : Mxw col k W g m.n u0 N T seed A cT b c (t.map (plOf (0 : Int) (homeT T seed N)))) (sW : StepC (Rng k) col w col W) => (show
          (((((W.setCell ⟨b, i * 4, none⟩ (.bool true)).setCell ⟨b, i * 4 + 1, none⟩ (.int .i64 (homeT T seed N s : Int))).setCell ⟨b, i * 4 + 2, none⟩ (.string s)).setCell ⟨b, i * 4 + 3, none⟩ ((fun z : Int => Value.int .u64 z) v)).cell? ⟨g, 3, none⟩ = some (.int .i64 (u0 : Int)) ∧
          ((((W.setCell ⟨b, i * 4, none⟩ (.bool true)).setCell ⟨b, i * 4 + 1, none⟩ (.int .i64 (homeT T seed N s : Int))).setCell ⟨b, i * 4 + 2, none⟩ (.string s)).setCell ⟨b, i * 4 + 3, none⟩ ((fun z : Int => Value.int .u64 z) v)).cell? ⟨g, 4, none⟩ = some (.slice (some ⟨b, 0, none⟩) N c) ∧
          ((((W.setCell ⟨b, i * 4, none⟩ (.bool true)).setCell ⟨b, i * 4 + 1, none⟩ (.int .i64 (homeT T seed N s : Int))).setCell ⟨b, i * 4 + 2, none⟩ (.string s)).setCell ⟨b, i * 4 + 3, none⟩ ((fun z : Int => Value.int .u64 z) v)).frozen? ⟨g, 3, none⟩ = false ∧
          DidPM PMw col k w g (m.put s v).2 (((((W.setCell ⟨b, i * 4, none⟩ (.bool true)).setCell ⟨b, i * 4 + 1, none⟩ (.int .i64 (homeT T seed N s : Int))).setCell ⟨b, i * 4 + 2, none⟩ (.string s)).setCell ⟨b, i * 4 + 3, none⟩ ((fun z : Int => Value.int .u64 z) v)).setCell ⟨g, 3, none⟩ (.int .i64 ((u0 + 1 : Nat) : Int)))) from by
        obtain ⟨M2, s2⟩ := MW.put sW.tidy hi (plOf (0 : Int) (homeT T seed N) (some (s, v)))
        obtain ⟨M3, s3⟩ := M2.used s2.tidy (u0 + 1)
        refine ⟨M2.c3, M2.c4, M2.box.free 3, col, ⟨hG.put s v, T, seed, A, cT, b, c, N, t.set i (some (s, v)), ?_, hL.add hE hpath hno v, R.add hG hE hlk hfull v⟩, (sW.trans (s2.mono fun _ => k1_rng)).trans (s3.mono fun _ => k0_rng)⟩
        rw [put_n, hfr.2, hu0, List.map_set]
        exact M3))
      have HRd := Lib.hid (fun (W : World) (MW : Mxw col k W g m.n u0 N T seed A cT b c (t.map (plOf (0 : Int) (homeT T seed N)))) (tW : Tidy col W) => MW.ready tW hE' (plOf (0 : Int) (homeT T seed N) none))
      rw [hu0] at M1 x3 hfI
      have x4 := M1.c4
      have ht1d := ht1.size (w' := w1.drew) (Nat.le_refl _)
      have HM := Lib.hid M1
      have HS1 := Lib.hid s1
      have HT1 := Lib.hid ht1
      clear hFd hHm M M1 hL he R hE hE' hno hlk HP hG hpath hln hfull hfr hlN
      go_wp2
      go_quiet (fail)
      go_wp2
      go_region_held3 (fun w' => w'.cell? ⟨g, 4, none⟩ = some (.slice (some ⟨b, 0, none⟩) N c)) (first | exact x4 | assumption) ((go_at_call 35; refine (clone_str s _ hs).mono ?_; rintro r w2 ⟨rfl, hb2⟩; have B2 : Below w1.heap.size w1 w2 := ⟨hb2.os, hb2.tape, hb2.output, hb2.size, hb2.block⟩; have S2 := HS1.out.trans (StepC.below HT1.out B2); have M2 := HM.out.below HT1.out B2; obtain ⟨q4, y0, y1, y2, y3, f0, f1, f2, f3⟩ := HRd.out w2 M2 S2.tidy; obtain ⟨z3, z4, zf, hD⟩ := HA.out w2 M2 S2; have HD := Lib.hid hD; clear hD M2 S2 hb2 B2))
      all_goals
        clear HA HRd x3 x2 x4
        go_wp2
        go_ret
        rw [HE.out]
        exact ⟨rfl, HD.out⟩
end
end Go.Proofs.Ytgkokglngpbamaa

/- The program's tables of uint64 values: New, and what a nil table returns. Conditions: none beyond those typed. -/
namespace Go.Proofs.Ytgkokglngpbamaa
open Go.ChangeShapes Go.WideShapes Go.ChangeAt Go.RowKit
set_option linter.unusedVariables false
set_option linter.unusedSimpArgs false
set_option maxRecDepth 100000

section
variable {P : Nat → Prop} {col col' : Col} {w w' W : World} {k g n u N : Nat} {T : List Int} {seed : Int} {A : Option Addr} {cT b c gm bc cc : Nat} {t : Tb Int} {home : ByteArray → Nat} {s : ByteArray} {m : MSt Int} {v : Int}
theorem plOfw_free (home : ByteArray → Nat) (N : Nat) : (List.replicate N (none : Option (ByteArray × Int))).map (plOf (0 : Int) home) = List.replicate N ((false, 0, ⟨#[]⟩, (0 : Int)) : Pl Int) := by simp [plOf]
theorem neww_at (hk : 1 ≤ k) (ht : Tidy col w) (hB : Below w.heap.size w W) (hn : 1 ≤ n ∧ n ≤ 8192) (hs : 0 ≤ seed ∧ seed ≤ 18446744073709551615) (hR : RdU W (some ⟨bc, 0, none⟩) 16 cc T) (hO : OwnK kPw W (.slice (some ⟨gm, 0, none⟩) (2 * n) (2 * n)) (List.replicate (2 * n) ((false, 0, ⟨#[]⟩, (0 : Int)) : Pl Int)))
    (h1 : w.heap.size ≤ bc) (h2 : w.heap.size ≤ gm) (h3 : bc ≠ gm) :
    DidPM PMw col k w W.heap.size (newM Int n) (W.alloc (.cells #[.slice (some ⟨bc, 0, none⟩) 16 cc, .int .u64 seed, .int .i64 n, .int .i64 0, .slice (some ⟨gm, 0, none⟩) (2 * n : Nat) (2 * n : Nat)] 87)) := by
  have hg : gm < W.heap.size := hO.lt gm rfl
  have hbw : bc < W.heap.size := by
    obtain ⟨b', o', z, e, _, _, _, hb, _⟩ := hR.at_ (k := 0) (by omega)
    injection e with e; injection e with e; omega
  have hBA : Below W.heap.size W (W.alloc (.cells #[.slice (some ⟨bc, 0, none⟩) 16 cc, .int .u64 seed, .int .i64 n, .int .i64 0, .slice (some ⟨gm, 0, none⟩) (2 * n : Nat) (2 * n : Nat)] 87)) := (Below.refl _ _).alloc (Nat.le_refl _) _
  have hB2 := below_then hB hBA
  have hsz := hB.size
  have hW : (W.alloc (.cells #[.slice (some ⟨bc, 0, none⟩) 16 cc, .int .u64 seed, .int .i64 n, .int .i64 0, .slice (some ⟨gm, 0, none⟩) (2 * n : Nat) (2 * n : Nat)] 87)).heap.size = W.heap.size + 1 := by simp
  have hcol : ∀ b, dye (dye col (some W.heap.size) k) (some gm) (k + 1) b = if b = gm then k + 1 else if b = W.heap.size then k else col b := fun b => by
    unfold dye
    by_cases e1 : b = gm
    · subst e1; rw [if_pos rfl, if_pos rfl]
    · by_cases e2 : b = W.heap.size
      · subst e2; rw [if_neg (fun e => by injection e with e; omega), if_pos rfl, if_neg e1, if_pos rfl]
      · rw [if_neg (fun e => by injection e with e; omega), if_neg (fun e => by injection e with e; omega), if_neg e1, if_neg e2]
  refine ⟨dye (dye col (some W.heap.size) k) (some gm) (k + 1), ⟨newM_good hn.1 hn.2, T, seed, some ⟨bc, 0, none⟩, cc, gm, 2 * n, 2 * n, List.replicate (2 * n) none, ⟨⟨heap_alloc_new W _, ?_⟩, ⟨hR.below hBA, fun _ b o sp e => ?_⟩, ⟨?_, ?_⟩, hs, hn, rfl, hk⟩, LP.new fun s => (home_val T seed (by omega) s).2, RelT.new⟩, ⟨hB2.os, hB2.tape, hB2.output, hB2.size, fun b hb => ?_, fun b hb => ?_, fun b hb _ => hB2.block b hb⟩⟩
  · rw [hcol, if_neg (by omega), if_pos rfl]
  · injection e with e; injection e with e; subst e
    rw [hcol, if_neg h3, if_neg (by omega)]; exact ht bc h1
  · rw [plOfw_free]; exact hO.below hBA
  · intro q hq
    have hq' : gm = q := by simpa [Value.ownBlock] using hq
    subst hq'
    rw [hcol, if_pos rfl]
  · rw [hcol, if_neg (by omega), if_neg (by omega)]
  · rw [hcol, if_neg (by omega), if_neg (by omega)]; exact ht b (by omega)
set_option maxHeartbeats 4000000 in
theorem neww_any {A : Option Addr} {t c : Nat} (ht : Tidy col w) (hk : 1 ≤ k) (hT : RdU0 col w A t c T) (n seed : Int) (hn : -9223372036854775808 ≤ n ∧ n ≤ 9223372036854775807) (hs : 0 ≤ seed ∧ seed ≤ 18446744073709551615) :
    Calls Try.prog 31 #[.int .i64 n, .slice A t c, .int .u64 seed] w (NewPM PMw col k n t w) := by
  have hmx := hT.rd.max
  have hcp := hT.rd.cap
  by_cases h1 : n < 1
  · have HE := Lib.hid (show mapE n t = 1 from if_pos (.inl h1))
    go_enter Try.func31, Try.ntmps31
    go_wp2
    go_ret2
    exact .inr ⟨by rw [HE.out]; decide, by rw [HE.out]; rfl, Below.refl _ _⟩
  by_cases h2 : 8192 < n
  · have HE := Lib.hid (show mapE n t = 1 from if_pos (.inr h2))
    go_enter Try.func31, Try.ntmps31
    go_wp2
    go_ret2
    exact .inr ⟨by rw [HE.out]; decide, by rw [HE.out]; rfl, Below.refl _ _⟩
  have hc := hcheck_any A t c w (by omega)
  by_cases h3 : t = 16
  · subst h3
    obtain ⟨q, rfl⟩ : ∃ q : Nat, n = (q : Int) := ⟨n.toNat, by omega⟩
    have HE := Lib.hid (show mapE (q : Int) 16 = 0 by unfold mapE; rw [if_neg (by omega)]; rfl)
    rw [show tabE 16 = 0 from rfl] at hc
    have hq : 1 ≤ q ∧ q ≤ 8192 := by omega
    have hT0 := hT.rd
    have hN1 : 2 * q ≤ 1000000 := by omega
    have hwr : IntKind.i64.wrap (2 * (q : Int)) = ((2 * q : Nat) : Int) := by rw [IntKind.wrap_i64]; omega
    obtain ⟨NN, hNN⟩ : ∃ NN : Nat, 2 * q = NN := ⟨_, rfl⟩
    have hAt := Lib.hid (fun (W : World) (bc cc gm : Nat) (hB : Below w.heap.size w W) (hR : RdU W (some ⟨bc, 0, none⟩) 16 cc T) (hO : OwnK kPw W (.slice (some ⟨gm, 0, none⟩) NN NN) (List.replicate NN ((false, 0, ⟨#[]⟩, (0 : Int)) : Pl Int))) (h1 : w.heap.size ≤ bc) (h2 : w.heap.size ≤ gm) (h3 : bc ≠ gm) (g' : Nat) (hg' : W.heap.size = g') =>
      show DidPM PMw col k w g' (newM Int q) (W.alloc (.cells #[.slice (some ⟨bc, 0, none⟩) 16 cc, .int .u64 seed, .int .i64 q, .int .i64 0, .slice (some ⟨gm, 0, none⟩) NN NN] 87)) by subst hNN hg'; exact neww_at hk ht hB hq hs hR hO h1 h2 h3)
    rw [hNN] at hN1 hwr
    clear hNN hT h1 h2
    go_enter Try.func31, Try.ntmps31
    go_wp2_with fail
    refine hc.mono ?_
    rintro r w1 ⟨rfl, hw⟩
    subst hw
    have h16 : (16 : Nat) ≤ 1000000 := by omega
    have h160 : (0 : Nat) < 16 := by omega
    have hz0 : kPw.enc ((false, 0, ⟨#[]⟩, (0 : Int)) : Pl Int) = kPw.zero.cells.toList := rfl
    clear hc
    go_wp2
    obtain ⟨CS, hmk, hOw⟩ := make_any kPw hN1 hz0
    have HO := Lib.hid hOw
    have hmk' : ∀ W : World, (Instr.makeSlice 85 (.int .i64 (NN : Int)) (.int .i64 (NN : Int))).run Try.prog W = .ok (.slice (some ⟨W.heap.size, 0, none⟩) NN NN) (W.alloc (.cells CS 92)) := hmk
    clear hmk hOw
    go_region_held3 (fun _ => True) (trivial) ((go_at_call 51; refine (cloneU_any (hT0.below (by first | exact bdM _ | exact (bdM _).alloc (bdM _).size _)) h16 h160).mono ?_; rintro r w2 ⟨bc, cc, rfl, R2, l2, u2, B2⟩))
    all_goals
      clear hT0 hmk'
      go_wp2
      go_ret2
      first
        | exact .inl ⟨HE.out, w2.heap.size + 1, rfl, hAt.out (w2.alloc (.cells CS kPw.ty)) bc cc w2.heap.size ((below_then (bdM w) B2).alloc (below_then (bdM w) B2).size _) (R2.below ((Below.refl _ _).alloc (Nat.le_refl _) _)) (HO.out w2) (Nat.le_trans (bdM w).size l2) (below_then (bdM w) B2).size (ne_lt u2 rfl) _ (by simp)⟩
        | exact .inl ⟨HE.out, w2.heap.size, rfl, hAt.out w2 bc cc w.heap.size (below_then ((bdM w).alloc (bdM w).size _) B2) R2 ((HO.out w.drew).below B2) (Nat.le_trans ((bdM w).alloc (bdM w).size _).size l2) (Nat.le_refl _) (ne_ge l2 ((HO.out w.drew).lt _ rfl)) _ rfl⟩
  · have HE := Lib.hid (show mapE n t = 11 by unfold mapE; rw [if_neg (by omega)]; exact if_neg h3)
    rw [show tabE t = 11 from if_neg h3] at hc
    go_enter Try.func31, Try.ntmps31
    go_wp2_with fail
    refine hc.mono ?_
    rintro r w1 ⟨rfl, hw⟩
    subst hw
    go_wp2
    go_ret2
    exact .inr ⟨by rw [HE.out]; decide, by rw [HE.out]; rfl, Below.refl _ _⟩
theorem noneGetw (w : World) (s : ByteArray) : Calls Try.prog 33 #[.pointer none, .string s] w fun e w' => e = .returned (.tuple #[.int .u64 0, .bool false]) ∧ Below w.heap.size w w' := by
  go_enter Try.func33, Try.ntmps33
  go_wp2
  go_ret2
  exact ⟨rfl, Below.refl _ _⟩
theorem noneDelw (w : World) (s : ByteArray) : Calls Try.prog 36 #[.pointer none, .string s] w fun e w' => e = .returned (.tuple #[.int .u64 0, .bool false]) ∧ Below w.heap.size w w' := by
  go_enter Try.func36, Try.ntmps36
  go_wp2
  go_ret2
  exact ⟨rfl, Below.refl _ _⟩
theorem nonePutw (w : World) (s : ByteArray) (v : Int) : Calls Try.prog 38 #[.pointer none, .string s, (fun z : Int => Value.int .u64 z) v] w fun e w' => e = .returned (.int .i64 8) ∧ Below w.heap.size w w' := by
  go_enter Try.func38, Try.ntmps38
  go_wp2
  go_ret
  exact ⟨rfl, Below.refl _ _⟩
theorem noneLenw (w : World) : Calls Try.prog 41 #[.pointer none] w fun e w' => e = .returned (.int .i64 0) ∧ Below w.heap.size w w' := by
  go_enter Try.func41, Try.ntmps41
  go_wp2
  go_ret
  exact ⟨rfl, Below.refl _ _⟩
end
end Go.Proofs.Ytgkokglngpbamaa

/- The program's tables (Misra-Gries) in memory: the box, the index; entry, set, Len, Untracked, Total, Get. Conditions: none beyond those typed. -/
namespace Go.Proofs.Ytgkokglngpbamaa
open Go.ChangeShapes Go.WideShapes Go.ChangeAt Go.RowKit
set_option linter.unusedVariables false
set_option linter.unusedSimpArgs false
set_option maxRecDepth 100000

/-- The table's box in block g, its index in block gm; b, s: Deducted, Total. -/
structure SoF (c2 : Col) (w : World) (g gm : Nat) (b s : Int) (m : MSt Int) : Prop where
  box : BoxC c2 w g 16 #[.pointer (some ⟨gm, 0, none⟩), .int .u64 b, .int .u64 s] 67
  idx : PMw c2 48 w gm m
def SoFT (c2 : Col) (w : World) (g : Nat) (t : TSt) : Prop := ∃ gm m, SoF c2 w g gm t.base t.sum m ∧ LkF t m
def DidFT (c2 : Col) (w : World) (g : Nat) (t : TSt) (w' : World) : Prop := ∃ c3, SoFT c3 w' g t ∧ StepC (fun c => 2 ≤ c) c2 w c3 w'
section
variable {P : Nat → Prop} {c2 c3 : Col} {w w' : World} {g gm : Nat} {b s v o : Int} {m m' : MSt Int} {t : TSt} {k : ByteArray}
theorem SoF.keep (h : SoF c2 w g gm b s m) (hs : StepC P c2 w c3 w') (hP : ∀ c, 16 ≤ c → ¬ P c) (h0 : ¬ P 0) : SoF c3 w' g gm b s m :=
  ⟨h.box.keep hs (hP _ (by omega)), h.idx.keep hs (fun c hc => hP c (by have := hc.1; omega)) h0⟩
theorem SoF.below (h : SoF c2 w g gm b s m) (ht : Tidy c2 w) (hb : Below w.heap.size w w') : SoF c2 w' g gm b s m := h.keep (P := fun _ => False) (StepC.below ht hb) (fun _ _ h => h) (fun h => h)
theorem SoFT.keep (h : SoFT c2 w g t) (hs : StepC P c2 w c3 w') (hP : ∀ c, 16 ≤ c → ¬ P c) (h0 : ¬ P 0) : SoFT c3 w' g t := by
  obtain ⟨gm, m, H, L⟩ := h
  exact ⟨gm, m, H.keep hs hP h0, L⟩
theorem SoFT.below (h : SoFT c2 w g t) (ht : Tidy c2 w) (hb : Below w.heap.size w w') : SoFT c2 w' g t := h.keep (P := fun _ => False) (StepC.below ht hb) (fun _ _ h => h) (fun h => h)
theorem SoF.c0 (h : SoF c2 w g gm b s m) : w.cell? ⟨g, 0, none⟩ = some (.pointer (some ⟨gm, 0, none⟩)) := h.box.cell 0 rfl
theorem SoF.cb (h : SoF c2 w g gm b s m) : w.cell? ⟨g, 1, none⟩ = some (.int .u64 b) := h.box.cell 1 rfl
theorem SoF.cs (h : SoF c2 w g gm b s m) : w.cell? ⟨g, 2, none⟩ = some (.int .u64 s) := h.box.cell 2 rfl
/-- The index has turned. -/
theorem SoF.did (h : SoF c2 w g gm b s m) (hd : DidPM PMw c2 48 w gm m' w') : ∃ c3, SoF c3 w' g gm b s m' ∧ StepC (fun c => 16 ≤ c) c2 w c3 w' := by
  obtain ⟨c3, h1, st⟩ := hd
  exact ⟨c3, ⟨h.box.keep st (by unfold Rng; omega), h1⟩, st.mono fun c hc => by have := hc.1; omega⟩
/-- Deducted is written; Total is written. -/
theorem SoF.base (h : SoF c2 w g gm b s m) (ht : Tidy c2 w) (b' : Int) : SoF c2 (w.setCell ⟨g, 1, none⟩ (.int .u64 b')) g gm b' s m ∧ StepC (fun d => d = 16) c2 w c2 (w.setCell ⟨g, 1, none⟩ (.int .u64 b')) := by
  have sA : StepC (fun d => d = 16) c2 w c2 (w.setCell ⟨g, 1, none⟩ (.int .u64 b')) := StepC.set ht h.box.col _
  exact ⟨⟨h.box.put 1 (.int .u64 b'), h.idx.keep sA (fun c hc e => by have := hc.1; omega) (by omega)⟩, sA⟩
theorem SoF.sum (h : SoF c2 w g gm b s m) (ht : Tidy c2 w) (s' : Int) : SoF c2 (w.setCell ⟨g, 2, none⟩ (.int .u64 s')) g gm b s' m ∧ StepC (fun d => d = 16) c2 w c2 (w.setCell ⟨g, 2, none⟩ (.int .u64 s')) := by
  have sA : StepC (fun d => d = 16) c2 w c2 (w.setCell ⟨g, 2, none⟩ (.int .u64 s')) := StepC.set ht h.box.col _
  exact ⟨⟨h.box.put 2 (.int .u64 s'), h.idx.keep sA (fun c hc e => by have := hc.1; omega) (by omega)⟩, sA⟩
theorem fUntr_any (H : SoF c2 w g gm b s m) : Calls Try.prog 14 #[.pointer (some ⟨g, 0, none⟩)] w fun e w' => e = .returned (.int .u64 b) ∧ w' = w := by
  have y := H.cb
  clear H
  go_enter Try.func14, Try.ntmps14
  go_wp2
  go_ret
  exact ⟨rfl, rfl⟩
theorem fTotal_any (H : SoF c2 w g gm b s m) : Calls Try.prog 15 #[.pointer (some ⟨g, 0, none⟩)] w fun e w' => e = .returned (.int .u64 s) ∧ Below w.heap.size w w' := by
  have y := H.cs
  clear H
  go_enter Try.func15, Try.ntmps15
  go_wp2
  go_ret
  exact ⟨rfl, Below.refl _ _⟩
theorem fLen_any (H : SoF c2 w g gm b s m) : Calls Try.prog 16 #[.pointer (some ⟨g, 0, none⟩)] w fun e w' => e = .returned (.int .i64 m.l.length) ∧ Below w.heap.size w w' := by
  have y := H.c0
  have hC := lenw_any H.idx
  clear H
  go_enter Try.func16, Try.ntmps16
  go_wp2_with fail
  refine hC.mono ?_
  rintro e w2 ⟨rfl, hb⟩
  go_wp2
  go_ret
  exact ⟨rfl, hb⟩
theorem fentry_any (hc : w.cell? ⟨g, 1, none⟩ = some (.int .u64 b)) (k : ByteArray) (o : Int) : Calls Try.prog 34 #[.pointer (some ⟨g, 0, none⟩), .string k, .int .u64 o] w fun e w' => e = .returned (.agg (VE (k, o, b))) ∧ Below w.heap.size w w' := by
  have b1 : Below w.heap.size w (w.alloc (.cells #[.string ⟨#[]⟩, .int .u64 0, .int .u64 0] 32)) := (Below.refl _ _).alloc (Nat.le_refl _) _
  have hc1 := (b1.cell (p := ⟨g, 1, none⟩) (World.block_lt_of_cell? w _ hc)).trans hc
  have HX := Lib.hid (show (w.alloc (.cells #[.string k, .int .u64 o, .int .u64 b] 32)).heap[w.heap.size]? = some (.cells (VE (k, o, b)) 32 (0, 0)) from heap_alloc_new w _)
  have HB := Lib.hid (show Below w.heap.size w (w.alloc (.cells #[.string k, .int .u64 o, .int .u64 b] 32)) from (Below.refl _ _).alloc (Nat.le_refl _) _)
  clear b1
  go_enter Try.func34, Try.ntmps34
  go_wp2
  refine bodyPost_ret (results_cell_row rfl _ _ w.heap.size _ _ (0, 0) _ rfl HX.out Try.underlying32 rfl (by kernel_rfl)) rfl ?_
  exact ⟨rfl, HB.out⟩
theorem fset_any (H : SoF c2 w g gm b s m) (ht : Tidy c2 w) (hs : k.size ≤ 281474976710656) (v : Int) : Calls Try.prog 56 #[.pointer (some ⟨g, 0, none⟩), .string k, .int .u64 v] w fun e w' => (∃ u, e = .returned u) ∧ ∃ c3, SoF c3 w' g gm b s (setP m k v) ∧ StepC (fun c => 16 ≤ c) c2 w c3 w' := by
  have y := H.c0
  by_cases h0 : v = 0
  · have hC := delw_any H.idx ht k hs
    have hb : (v == 0) = true := beq_iff_eq.2 h0
    have HF := Lib.hid (fun (w' : World) (hd : DidPM PMw c2 48 w gm (m.del k) w') => show ∃ c3, SoF c3 w' g gm b s (setP m k v) ∧ StepC (fun c => 16 ≤ c) c2 w c3 w' from by
      unfold setP; rw [if_pos h0]; exact H.did hd)
    clear H h0
    go_enter Try.func56, Try.ntmps56
    go_wp2_with fail
    refine hC.mono ?_
    rintro e w2 ⟨rfl, hd⟩
    have HE := Lib.hid (HF.out w2 hd)
    clear hC hd HF
    go_wp2
    refine bodyPost_ret (results_none rfl _ _ _) rfl ?_
    exact ⟨⟨_, rfl⟩, HE.out⟩
  · have hC := putw_any H.idx ht k v hs
    have hb : (v == 0) = false := beq_false_of_ne h0
    have HF := Lib.hid (fun (w' : World) (hd : DidPM PMw c2 48 w gm (m.put k v).2 w') => show ∃ c3, SoF c3 w' g gm b s (setP m k v) ∧ StepC (fun c => 16 ≤ c) c2 w c3 w' from by
      unfold setP; rw [if_neg h0]; exact H.did hd)
    clear H h0
    go_enter Try.func56, Try.ntmps56
    go_wp2_with fail
    refine hC.mono ?_
    rintro e w2 ⟨rfl, hd⟩
    have HE := Lib.hid (HF.out w2 hd)
    clear hC hd HF
    go_wp2
    go_end0
    exact ⟨⟨_, rfl⟩, HE.out⟩
set_option maxHeartbeats 2000000 in
theorem fGet_any (H : SoF c2 w g gm t.base s m) (L : LkF t m) (ht : Tidy c2 w) (hs : k.size ≤ 281474976710656) :
    Calls Try.prog 10 #[.pointer (some ⟨g, 0, none⟩), .string k] w fun e w' => e = .returned (.tuple #[.agg (VE (t.getF k).1), .bool (t.getF k).2]) ∧ Below w.heap.size w w' := by
  have b1 : Below w.heap.size w (w.alloc (.cells #[.string ⟨#[]⟩, .int .u64 0, .int .u64 0] 32)) := (Below.refl _ _).alloc (Nat.le_refl _) _
  have ht1 := ht.size b1.size
  have X1 : BoxC c2 (w.alloc (.cells #[.string ⟨#[]⟩, .int .u64 0, .int .u64 0] 32)) w.heap.size 0 (VE zeroE) 32 := ⟨heap_alloc_new w _, ht _ (Nat.le_refl _)⟩
  have H1 := H.below ht b1
  have y1 := H1.c0
  have hC := getw_any H1.idx ht1 k hs
  rw [L.get k] at hC
  obtain ⟨W1, hW1⟩ : ∃ W1, W1 = w.alloc (.cells #[.string ⟨#[]⟩, .int .u64 0, .int .u64 0] 32) := ⟨_, rfl⟩
  obtain ⟨G, hG⟩ : ∃ G, w.heap.size = G := ⟨_, rfl⟩
  have yb := H1.cb
  have y1r := y1
  rw [← hW1] at hC X1 ht1 b1 yb y1
  rw [hG] at X1
  have hGW : w.heap.size ≤ G := by omega
  cases hp : placeE t.l k with
  | none =>
    have hR : t.getF k = (zeroE, false) := by unfold TSt.getF; rw [hp]
    rw [hR] at hC ⊢
    clear H H1 L hR hp
    go_enter Try.func10, Try.ntmps10
    go_wp2_with fail
    rw [← hW1]
    clear hW1 y1r
    refine hC.mono ?_
    rintro e w2 ⟨rfl, b2⟩
    have X2 := X1.keep (P := fun _ => False) (StepC.below ht1 b2) (fun h => h)
    obtain ⟨hX, hB, z0, z1, z2, f0, f1, f2⟩ := boxE X2 (w0 := w) hGW (below_then b1 b2) zeroE
    have z0' : w2.cell? ⟨G, 0, none⟩ = some (.string ⟨#[]⟩) := z0
    have z1' : w2.cell? ⟨G, 1, none⟩ = some (.int .u64 0) := z1
    have z2' : w2.cell? ⟨G, 2, none⟩ = some (.int .u64 0) := z2
    have HX := Lib.hid hX
    have HB := Lib.hid hB
    clear X1 X2 hC b1 b2 hGW ht1 hG z0 z1 z2 hX hB yb y1
    go_wp2
    refine bodyPost_ret (results_cell_row2 rfl _ _ G _ _ (0, 0) _ rfl HX.out Try.underlying32 rfl (by kernel_rfl)) rfl ?_
    exact ⟨rfl, HB.out⟩
  | some i =>
    obtain ⟨e, hi, he, _⟩ := placeE_some hp
    have hR : t.getF k = ((k, e.2.1, t.base), true) := by
      unfold TSt.getF; rw [hp]; simp only [hi, Option.getD_some]; unfold TSt.tellF; rw [he]
    rw [hR] at hC ⊢
    obtain ⟨o, ho⟩ : ∃ o, e.2.1 = o := ⟨_, rfl⟩
    obtain ⟨b, hb⟩ : ∃ b, t.base = b := ⟨_, rfl⟩
    have hC' : Calls Try.prog 33 #[.pointer (some ⟨gm, 0, none⟩), .string k] W1 fun r w' => r = .returned (.tuple #[.int .u64 o, .bool true]) ∧ Below W1.heap.size W1 w' := by rw [← ho]; exact hC
    rw [ho, hb]
    rw [hb] at yb
    have hcl := fun W => clone_str k W hs
    clear H H1 L hR hp hi he ho hb hC
    go_enter Try.func10, Try.ntmps10
    go_wp2_with fail
    rw [← hW1]
    clear hW1 y1r
    refine hC'.mono ?_
    rintro e w2 ⟨rfl, b2⟩
    clear hC' y1
    go_wp2_with fail
    refine (hcl w2).mono ?_
    rintro e w3 ⟨rfl, b3⟩
    have B13 := below_then b2 b3
    have hE := fentry_any ((B13.cell (p := ⟨g, 1, none⟩) (World.block_lt_of_cell? _ _ yb)).trans yb) k o
    clear hcl b2 b3 yb
    go_wp2_with fail
    refine hE.mono ?_
    rintro e w4 ⟨rfl, b4⟩
    have B14 := below_then B13 b4
    have X2 := X1.keep (P := fun _ => False) (StepC.below ht1 B14) (fun h => h)
    obtain ⟨hX, hB, z0, z1, z2, f0, f1, f2⟩ := boxE X2 (w0 := w) hGW (below_then b1 B14) (k, o, b)
    have z0' : w4.cell? ⟨G, 0, none⟩ = some (.string ⟨#[]⟩) := z0
    have z1' : w4.cell? ⟨G, 1, none⟩ = some (.int .u64 0) := z1
    have z2' : w4.cell? ⟨G, 2, none⟩ = some (.int .u64 0) := z2
    have HX := Lib.hid hX
    have HB := Lib.hid hB
    clear X1 X2 hE b1 B13 B14 b4 hGW ht1 hG z0 z1 z2 hX hB
    go_wp2
    refine bodyPost_ret (results_cell_row2 rfl _ _ G _ _ (0, 0) _ rfl HX.out Try.underlying32 rfl (by kernel_rfl)) rfl ?_
    exact ⟨rfl, HB.out⟩
end
end Go.Proofs.Ytgkokglngpbamaa

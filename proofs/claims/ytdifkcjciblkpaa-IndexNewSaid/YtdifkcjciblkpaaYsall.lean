/- The program's tables of string values: Get, Put, Delete, Len, New. Conditions: none beyond those typed. -/
import Derived.Test.YtdifkcjciblkpaaYscut
import Derived.Test.YtdifkcjciblkpaaKclone
namespace Go.Proofs.Ytdifkcjciblkpaa
open Go.ChangeShapes Go.WideShapes Go.ChangeAt Go.RowKit
set_option linter.unusedVariables false
set_option linter.unusedSimpArgs false
set_option maxRecDepth 100000

/-- The program's table m lies in block g. -/
def PMs : RepM ByteArray := fun col k w g m => GoodM m ∧ ∃ (T : List Int) (seed : Int) (A : Option Addr) (cT b c N : Nat) (t : Tb ByteArray), Mxs col k w g m.n m.l.length N T seed A cT b c (t.map (plOf (⟨#[]⟩ : ByteArray) (homeT T seed N))) ∧ LP (homeT T seed N) t ∧ RelT t m
section
variable {P : Nat → Prop} {col col' : Col} {w w' W : World} {k g n u N : Nat} {T : List Int} {seed : Int} {A : Option Addr} {cT b c gm bc : Nat} {t : Tb ByteArray} {home : ByteArray → Nat} {s : ByteArray} {m : MSt ByteArray} {v : ByteArray}
theorem PMs.keep (h : PMs col k w g m) (hs : StepC P col w col' w') (hp : ∀ c, Rng k c → ¬ P c) (h0 : ¬ P 0) : PMs col' k w' g m := by
  obtain ⟨hG, T, seed, A, cT, b, c, N, t, M, hL, R⟩ := h
  exact ⟨hG, T, seed, A, cT, b, c, N, t, M.keep hs hp h0, hL, R⟩
theorem Mxs.room (M : Mxs col k w g m.n m.l.length N T seed A cT b c (t.map (plOf (⟨#[]⟩ : ByteArray) home))) (hG : GoodM m) (hL : LP home t) (R : RelT t m) : (∃ e, Emp t e) ∧ m.l.length < N ∧ N ≤ 16384 ∧ 0 < N ∧ t.length = N := by
  have hN := M.nN
  have hn := M.n1
  have hl := M.len
  rw [List.length_map] at hl
  have h1 := hG.len
  exact ⟨R.room hG hL (by omega), by omega, by omega, by omega, hl⟩
set_option maxHeartbeats 1000000 in
theorem gets_any (H : PMs col k w g m) (ht : Tidy col w) (s : ByteArray) (hs : s.size ≤ 281474976710656) :
    Calls Try.prog 26 #[.pointer (some ⟨g, 0, none⟩), .string s] w fun e w' => e = .returned (.tuple #[(fun z : ByteArray => Value.string z) (getG (⟨#[]⟩ : ByteArray) m s).1, .bool (getG (⟨#[]⟩ : ByteArray) m s).2]) ∧ Below w.heap.size w w' := by
  obtain ⟨hG, T, seed, A, cT, b, c, N, t, M, hL, R⟩ := H
  obtain ⟨⟨ef, he⟩, hlN, hN6, hN0, hlen⟩ := M.room hG hL R
  have hHm := homes_any M (s := s) (by omega)
  go_enter Try.func26, Try.ntmps26
  go_wp2_with fail
  refine hHm.mono ?_
  rintro r w1 ⟨rfl, hb1⟩
  have M1 := M.below ht hb1
  have hFd := finds_any M1 hL he (s := s)
  go_wp2_with fail
  refine hFd.mono ?_
  rintro r w2 ⟨i, yes, rfl, hi, hF, hw⟩
  subst hw
  have x4 := M1.c4
  obtain ⟨hcp, hcm⟩ := M1.cap
  have hiI : (i : Int) < (N : Int) := by omega
  rcases hF with ⟨rfl, v, hv⟩ | ⟨rfl, hE, _, hno⟩
  · have hlk : m.look s = some v := R.yes hv
    obtain ⟨_, _, _, y3, _⟩ := M1.at_ (i := i) (r := plOf (⟨#[]⟩ : ByteArray) (homeT T seed N) (some (s, v))) (by rw [List.getElem?_map, hv]; rfl)
    have y3' : w1.cell? ⟨b, i * 4 + 3, none⟩ = some ((fun z : ByteArray => Value.string z) v) := y3
    have HR := Lib.hid (show getG (⟨#[]⟩ : ByteArray) m s = (v, true) by unfold getG; rw [hlk]; rfl)
    clear y3 hFd hHm M M1 hL he R hv hlk
    go_wp2
    go_ret2
    rw [HR.out]
    exact ⟨rfl, hb1⟩
  · have hlk : m.look s = none := R.off hno
    have hE' : t[i]? = some none := hE
    obtain ⟨_, _, _, y3, _⟩ := M1.at_ (i := i) (r := plOf (⟨#[]⟩ : ByteArray) (homeT T seed N) none) (by rw [List.getElem?_map, hE']; rfl)
    have y3' : w1.cell? ⟨b, i * 4 + 3, none⟩ = some (.string ⟨#[]⟩) := y3
    have HR := Lib.hid (show getG (⟨#[]⟩ : ByteArray) m s = ((⟨#[]⟩ : ByteArray), false) by unfold getG; rw [hlk]; rfl)
    clear y3 hFd hHm M M1 hL he R hE hE' hno hlk
    go_wp2
    go_ret2
    rw [HR.out]
    exact ⟨rfl, hb1⟩
set_option maxHeartbeats 1000000 in
theorem lens_any (H : PMs col k w g m) : Calls Try.prog 28 #[.pointer (some ⟨g, 0, none⟩)] w fun e w' => e = .returned (.int .i64 m.l.length) ∧ Below w.heap.size w w' := by
  obtain ⟨hG, T, seed, A, cT, b, c, N, t, M, hL, R⟩ := H
  have x3 := M.c3
  clear M
  go_enter Try.func28, Try.ntmps28
  go_wp2
  go_ret
  exact ⟨rfl, Below.refl _ _⟩
set_option maxHeartbeats 1000000 in
theorem dels_any (H : PMs col k w g m) (ht : Tidy col w) (s : ByteArray) (hs : s.size ≤ 281474976710656) :
    Calls Try.prog 27 #[.pointer (some ⟨g, 0, none⟩), .string s] w fun e w' => e = .returned (.tuple #[(fun z : ByteArray => Value.string z) (getG (⟨#[]⟩ : ByteArray) m s).1, .bool (getG (⟨#[]⟩ : ByteArray) m s).2]) ∧ DidPM PMs col k w g (m.del s) w' := by
  have HP := H
  obtain ⟨hG, T, seed, A, cT, b, c, N, t, M, hL, R⟩ := H
  obtain ⟨⟨ef, he⟩, hlN, hN6, hN0, hlen⟩ := M.room hG hL R
  have hHm := homes_any M (s := s) (by omega)
  go_enter Try.func27, Try.ntmps27
  go_wp2_with fail
  refine hHm.mono ?_
  rintro r w1 ⟨rfl, hb1⟩
  have M1 := M.below ht hb1
  have ht1 := ht.size hb1.size
  have s1 : StepC (Rng k) col w col w1 := StepC.below ht hb1
  have hFd := finds_any M1 hL he (s := s)
  go_wp2_with fail
  refine hFd.mono ?_
  rintro r w2 ⟨i, yes, rfl, hi, hF, hw⟩
  subst hw
  have x4 := M1.c4
  obtain ⟨hcp, hcm⟩ := M1.cap
  have hiI : (i : Int) < (N : Int) := by omega
  rcases hF with ⟨rfl, v, hv⟩ | ⟨rfl, hE, _, hno⟩
  · have hlk : m.look s = some v := R.yes hv
    obtain ⟨_, _, _, y3, _⟩ := M1.at_ (i := i) (r := plOf (⟨#[]⟩ : ByteArray) (homeT T seed N) (some (s, v))) (by rw [List.getElem?_map, hv]; rfl)
    have y3' : w1.cell? ⟨b, i * 4 + 3, none⟩ = some ((fun z : ByteArray => Value.string z) v) := y3
    have HR := Lib.hid (show getG (⟨#[]⟩ : ByteArray) m s = (v, true) by unfold getG; rw [hlk]; rfl)
    have hdl := del_gone hG hlk
    have hCt := emptys_any M1 ht1 hL R hG hlN hv
    have HG := Lib.hid (hG.del s)
    have hn := del_n m s
    obtain ⟨u1, hu1⟩ : ∃ u1, (m.del s).l.length = u1 := ⟨_, rfl⟩
    have hw1 : IntKind.i64.wrap ((m.l.length : Int) - 1) = (u1 : Int) := by rw [IntKind.wrap_i64]; omega
    have HU := Lib.hid hu1
    have HNn := Lib.hid hn
    clear y3 hFd hHm M M1 hL he R hv hlk hu1 hdl hn HP
    go_wp2_with fail
    refine hCt.mono ?_
    rintro r w2 ⟨rfl, t2, M2, hL2, R2, s2⟩
    have x3 := M2.c3
    have f3 := M2.box.free 3
    obtain ⟨M3, s3⟩ := M2.used s2.tidy u1
    have HD := Lib.hid (show DidPM PMs col k w g (m.del s) (w2.setCell ⟨g, 3, none⟩ (.int .i64 (u1 : Int))) from
      ⟨col, ⟨HG.out, T, seed, A, cT, b, c, N, t2, by rw [HNn.out, HU.out]; exact M3, hL2, R2⟩, (s1.trans (s2.mono fun _ => k1_rng)).trans (s3.mono fun _ => k0_rng)⟩)
    clear M2 M3 hCt hL2 R2
    go_wp2
    go_ret2
    rw [HR.out]
    exact ⟨rfl, HD.out⟩
  · have hlk : m.look s = none := R.off hno
    have HR := Lib.hid (show getG (⟨#[]⟩ : ByteArray) m s = ((⟨#[]⟩ : ByteArray), false) by unfold getG; rw [hlk]; rfl)
    have HM := Lib.hid (del_not hlk)
    have HD := Lib.hid (show DidPM PMs col k w g m w1 from ⟨col, HP.keep (P := fun _ => False) (StepC.below ht hb1) (fun _ _ h => h) (fun h => h), s1⟩)
    clear hFd hHm M M1 hL he R hE hno hlk HP
    go_wp2
    go_ret2
    rw [HR.out, HM.out]
    exact ⟨rfl, HD.out⟩
theorem Mxs.ready (h : Mxs col k w g n u N T seed A cT b c (t.map (plOf (⟨#[]⟩ : ByteArray) home))) (ht : Tidy col w) {i : Nat} {y : Option (ByteArray × ByteArray)} (hy : t[i]? = some y) (r : Pl ByteArray) :
    w.cell? ⟨g, 4, none⟩ = some (.slice (some ⟨b, 0, none⟩) N c) ∧ w.cell? ⟨b, i * 4, none⟩ = some (.bool (plOf (⟨#[]⟩ : ByteArray) home y).1) ∧ w.cell? ⟨b, i * 4 + 1, none⟩ = some (.int .i64 (plOf (⟨#[]⟩ : ByteArray) home y).2.1) ∧ w.cell? ⟨b, i * 4 + 2, none⟩ = some (.string (plOf (⟨#[]⟩ : ByteArray) home y).2.2.1) ∧ w.cell? ⟨b, i * 4 + 3, none⟩ = some ((fun z : ByteArray => Value.string z) (plOf (⟨#[]⟩ : ByteArray) home y).2.2.2) ∧
    w.frozen? ⟨b, i * 4, none⟩ = false ∧ w.frozen? ⟨b, i * 4 + 1, none⟩ = false ∧ w.frozen? ⟨b, i * 4 + 2, none⟩ = false ∧ w.frozen? ⟨b, i * 4 + 3, none⟩ = false := by
  obtain ⟨y0, y1, y2, y3, fz⟩ := h.at_ (i := i) (r := plOf (⟨#[]⟩ : ByteArray) home y) (by rw [List.getElem?_map, hy]; rfl)
  exact ⟨h.c4, y0, y1, y2, y3, fz _, fz _, fz _, fz _⟩
set_option maxHeartbeats 4000000 in
theorem puts_any (H : PMs col k w g m) (ht : Tidy col w) (s : ByteArray) (v : ByteArray) (hs : s.size ≤ 281474976710656) :
    Calls Try.prog 25 #[.pointer (some ⟨g, 0, none⟩), .string s, (fun z : ByteArray => Value.string z) v] w fun e w' => e = .returned (.int .i64 (m.put s v).1) ∧ DidPM PMs col k w g (m.put s v).2 w' := by
  have HP := H
  obtain ⟨hG, T, seed, A, cT, b, c, N, t, M, hL, R⟩ := H
  obtain ⟨⟨ef, he⟩, hlN, hN6, hN0, hlen⟩ := M.room hG hL R
  have hHm := homes_any M (s := s) (by omega)
  go_enter Try.func25, Try.ntmps25
  go_wp2_with fail
  refine hHm.mono ?_
  rintro r w1 ⟨rfl, hb1⟩
  have M1 := M.below ht hb1
  have ht1 := ht.size hb1.size
  have s1 : StepC (Rng k) col w col w1 := StepC.below ht hb1
  have hFd := finds_any M1 hL he (s := s)
  go_wp2_with fail
  refine hFd.mono ?_
  rintro r w2 ⟨i, yes, rfl, hi, hF, hw⟩
  subst hw
  obtain ⟨hcp, hcm⟩ := M1.cap
  have hiI : (i : Int) < (N : Int) := by omega
  rcases hF with ⟨rfl, v0, hv⟩ | ⟨rfl, hE, hpath, hno⟩
  · have hlk : m.look s = some v0 := R.yes hv
    obtain ⟨x4, _, _, _, y3, _, _, _, f3⟩ := M1.ready ht1 hv (plOf (⟨#[]⟩ : ByteArray) (homeT T seed N) (some (s, v)))
    have y3' : w1.cell? ⟨b, i * 4 + 3, none⟩ = some ((fun z : ByteArray => Value.string z) v0) := y3
    have hold := put_old hlk v
    have HD := Lib.hid (show DidPM PMs col k w g (m.put s v).2 (w1.setCell ⟨b, i * 4 + 3, none⟩ ((fun z : ByteArray => Value.string z) v)) from by
      obtain ⟨M2, s2⟩ := M1.val ht1 (i := i) (r := plOf (⟨#[]⟩ : ByteArray) (homeT T seed N) (some (s, v0))) (by rw [List.getElem?_map, hv]; rfl) v
      refine ⟨col, ⟨hG.put s v, T, seed, A, cT, b, c, N, t.set i (some (s, v)), ?_, hL.val hv v, R.val hG hL hv v⟩, s1.trans (s2.mono fun _ => k1_rng)⟩
      rw [put_n, hold.2, List.map_set]
      exact M2)
    have HE := Lib.hid hold.1
    clear y3 hFd hHm M M1 hL he R hv hlk hold HP hG
    go_wp2
    go_ret
    rw [HE.out]
    exact ⟨rfl, HD.out⟩
  · have hlk : m.look s = none := R.off hno
    have hE' : t[i]? = some none := hE
    have x3 := M1.c3
    have x2 := M1.c2
    have hln := hG.len
    have hn8 := hG.n8
    by_cases hfull : m.l.length = m.n
    · have hfI : ((m.l.length : Int) == (m.n : Int)) = true := beq_iff_eq.2 (by omega)
      have HE := Lib.hid (put_no hlk hfull v)
      have HD := Lib.hid (fun q => show DidPM PMs col k w g m (w1.drewN q) from ⟨col, HP.keep (P := fun _ => False) (StepC.below ht (below_drewN hb1 q)) (fun _ _ h => h) (fun h => h), StepC.below ht (below_drewN hb1 q)⟩)
      clear hFd hHm M M1 hL he R hE hE' hno hlk HP hG hpath hln hfull
      go_wp2
      go_quiet (fail)
      go_wp2
      go_ret
      rw [HE.out]
      exact ⟨rfl, HD.out _⟩
    · have hfI : ((m.l.length : Int) == (m.n : Int)) = false := beq_false_of_ne (by omega)
      have hfr := put_fresh hlk hfull v
      have HE := Lib.hid hfr.1
      obtain ⟨u0, hu0⟩ : ∃ u0, m.l.length = u0 := ⟨_, rfl⟩
      have hu1 : IntKind.i64.wrap ((u0 : Int) + 1) = ((u0 + 1 : Nat) : Int) := by rw [IntKind.wrap_i64]; omega
      have HA := Lib.hid (fun (W : World) (MW : Mxs col k W g m.n u0 N T seed A cT b c (t.map (plOf (⟨#[]⟩ : ByteArray) (homeT T seed N)))) (sW : StepC (Rng k) col w col W) => (show
          (((((W.setCell ⟨b, i * 4, none⟩ (.bool true)).setCell ⟨b, i * 4 + 1, none⟩ (.int .i64 (homeT T seed N s : Int))).setCell ⟨b, i * 4 + 2, none⟩ (.string s)).setCell ⟨b, i * 4 + 3, none⟩ ((fun z : ByteArray => Value.string z) v)).cell? ⟨g, 3, none⟩ = some (.int .i64 (u0 : Int)) ∧
          ((((W.setCell ⟨b, i * 4, none⟩ (.bool true)).setCell ⟨b, i * 4 + 1, none⟩ (.int .i64 (homeT T seed N s : Int))).setCell ⟨b, i * 4 + 2, none⟩ (.string s)).setCell ⟨b, i * 4 + 3, none⟩ ((fun z : ByteArray => Value.string z) v)).cell? ⟨g, 4, none⟩ = some (.slice (some ⟨b, 0, none⟩) N c) ∧
          ((((W.setCell ⟨b, i * 4, none⟩ (.bool true)).setCell ⟨b, i * 4 + 1, none⟩ (.int .i64 (homeT T seed N s : Int))).setCell ⟨b, i * 4 + 2, none⟩ (.string s)).setCell ⟨b, i * 4 + 3, none⟩ ((fun z : ByteArray => Value.string z) v)).frozen? ⟨g, 3, none⟩ = false ∧
          DidPM PMs col k w g (m.put s v).2 (((((W.setCell ⟨b, i * 4, none⟩ (.bool true)).setCell ⟨b, i * 4 + 1, none⟩ (.int .i64 (homeT T seed N s : Int))).setCell ⟨b, i * 4 + 2, none⟩ (.string s)).setCell ⟨b, i * 4 + 3, none⟩ ((fun z : ByteArray => Value.string z) v)).setCell ⟨g, 3, none⟩ (.int .i64 ((u0 + 1 : Nat) : Int)))) from by
        obtain ⟨M2, s2⟩ := MW.put sW.tidy hi (plOf (⟨#[]⟩ : ByteArray) (homeT T seed N) (some (s, v)))
        obtain ⟨M3, s3⟩ := M2.used s2.tidy (u0 + 1)
        refine ⟨M2.c3, M2.c4, M2.box.free 3, col, ⟨hG.put s v, T, seed, A, cT, b, c, N, t.set i (some (s, v)), ?_, hL.add hE hpath hno v, R.add hG hE hlk hfull v⟩, (sW.trans (s2.mono fun _ => k1_rng)).trans (s3.mono fun _ => k0_rng)⟩
        rw [put_n, hfr.2, hu0, List.map_set]
        exact M3))
      have HRd := Lib.hid (fun (W : World) (MW : Mxs col k W g m.n u0 N T seed A cT b c (t.map (plOf (⟨#[]⟩ : ByteArray) (homeT T seed N)))) (tW : Tidy col W) => MW.ready tW hE' (plOf (⟨#[]⟩ : ByteArray) (homeT T seed N) none))
      rw [hu0] at M1 x3 hfI
      have x4 := M1.c4
      have ht1d := ht1.size (w' := w1.drew) (Nat.le_refl _)
      have HM := Lib.hid M1
      have HS1 := Lib.hid s1
      have HT1 := Lib.hid ht1
      clear hFd hHm M M1 hL he R hE hE' hno hlk HP hG hpath hln hfull hfr hlN
      go_wp2
      go_quiet (fail)
      go_wp2
      go_region_held3 (fun w' => w'.cell? ⟨g, 4, none⟩ = some (.slice (some ⟨b, 0, none⟩) N c)) (first | exact x4 | assumption) ((go_at_call 36; refine (clone_str s _ hs).mono ?_; rintro r w2 ⟨rfl, hb2⟩; have B2 : Below w1.heap.size w1 w2 := ⟨hb2.os, hb2.tape, hb2.output, hb2.size, hb2.block⟩; have S2 := HS1.out.trans (StepC.below HT1.out B2); have M2 := HM.out.below HT1.out B2; obtain ⟨q4, y0, y1, y2, y3, f0, f1, f2, f3⟩ := HRd.out w2 M2 S2.tidy; obtain ⟨z3, z4, zf, hD⟩ := HA.out w2 M2 S2; have HD := Lib.hid hD; clear hD M2 S2 hb2 B2))
      all_goals
        clear HA HRd x3 x2 x4
        go_wp2
        go_ret
        rw [HE.out]
        exact ⟨rfl, HD.out⟩
end
end Go.Proofs.Ytdifkcjciblkpaa

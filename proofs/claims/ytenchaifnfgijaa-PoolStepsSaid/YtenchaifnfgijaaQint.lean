/- The program's pool in memory: Intern, New, and a nil pool. Conditions: none beyond those typed. -/
import Derived.Test.YtenchaifnfgijaaQadd
namespace Go.Proofs.Ytenchaifnfgijaa
open Go.ChangeShapes Go.WideShapes Go.ChangeAt Go.RowKit
set_option linter.unusedVariables false
set_option linter.unusedSimpArgs false
set_option maxRecDepth 100000

section
variable {P : Nat → Prop} {col col' : Col} {w w' : World} {k ka g ga b : Nat} {q : PSt} {x : ASt} {D : DataW Unit} {vN vF : Value} {PA : Rep}
set_option maxHeartbeats 2000000 in
theorem pqIntern (HP : ProgA PA) (H : PqR col k w g ga q) (HA : PA col ka w ga x) (hL : Lnk q x) (hap : Apart k ka) (ht : Tidy col w) (hlt : x.t ≤ 100000000) (hqt : q.t ≤ 1000000000) (s : ByteArray) (hs : s.size ≤ maxLen) :
    Calls Try.prog 13 #[.pointer (some ⟨g, 0, none⟩), .string s] w fun e w' => e = .returned (.tuple #[.int .i64 (q.intern x s).1.1, .int .i64 (q.intern x s).1.2]) ∧ DidQ PA col k ka w g ga (q.intern x s).2 (q.inP x s) w' := by
  have HR := H
  obtain ⟨hG, b, D, vN, vF, H⟩ := H
  have hGF := hG.intern x s
  have hlen := hG.len
  have hn8 := hG.n8
  have hs2 : s.size ≤ 9223372036854775807 := hs
  by_cases h1 : s.size = 0
  · have E1 := Lib.hid (intern_empty (q := q) h1 x)
    have E2 := Lib.hid (inP_not (q := q) (s := s) (fun e => e.1 h1) x)
    have hem := (ba_empty h1).1
    rw [E1.out] at hGF
    have HQ := Lib.hid (show DidQ PA col k ka w g ga q.tick x w from ⟨col, ⟨hGF, _, _, _, _, H.time _⟩, HA, StepC.refl ht⟩)
    clear H hGF HR
    go_enter Try.func13, Try.ntmps13
    go_wp2
    go_ret2
    rw [E1.out, E2.out]
    exact ⟨rfl, HQ.out⟩
  by_cases h2 : 255 < s.size
  · have E1 := Lib.hid (intern_long (q := q) h2 x)
    have E2 := Lib.hid (inP_not (q := q) (s := s) (fun e => e.2.1 h2) x)
    have hem := ba_some (s := s) (by omega)
    have h3 : (255 : Int) < (s.size : Int) := by omega
    rw [E1.out] at hGF
    have HQ := Lib.hid (show DidQ PA col k ka w g ga q.tick x w from ⟨col, ⟨hGF, _, _, _, _, H.time _⟩, HA, StepC.refl ht⟩)
    clear H hGF HR
    go_enter Try.func13, Try.ntmps13
    go_wp2
    go_ret2
    rw [E1.out, E2.out]
    exact ⟨rfl, HQ.out⟩
  have hem := ba_some (s := s) (by omega)
  have h3 : ¬ (255 : Int) < (s.size : Int) := by omega
  have x2 := H.c2
  cases hf : findE q.e s with
  | none =>
    have hrun := H.ids.look_no H.rel hs hf
    have hadd := pqAdd HP HR HA hL hap ht hlt hqt h1 h2 hf
    clear H HR hGF
    go_enter Try.func13, Try.ntmps13
    go_wp2_with fail
    refine hadd.mono ?_
    rintro e w1 ⟨rfl, hD⟩
    clear hadd
    go_wp2
    go_ret2
    exact ⟨rfl, hD⟩
  | some i =>
    have hrun := H.ids.look_yes H.rel hs hf
    obtain ⟨y, hy, hu, hk, hi⟩ := findE_some hf
    have E1 := Lib.hid (intern_old (q := q) h1 h2 hf x)
    have E2 := Lib.hid (inP_not (q := q) (s := s) (fun e => by have h := e.2.2.1; rw [show q.find s = findE q.e s from rfl, hf] at h; cases h) x)
    rw [E1.out] at hGF
    have hup := hG.ut y (List.mem_of_getElem? hy)
    have x3 := H.c3
    obtain ⟨A, m, hv, hm1, hm2, hA⟩ := H.formN
    obtain ⟨N, hN⟩ : ∃ N : Nat, q.e.length = N := ⟨_, rfl⟩
    obtain ⟨xb, rfl, hxb, hxc⟩ := hA (by omega)
    obtain ⟨_, _, _, y3, fz⟩ := H.node hv hy
    rw [node_live hu] at y3
    simp only at y3
    have f3 := fz (i * 4 + 3)
    obtain ⟨u, hu2⟩ : ∃ u : Int, (y.u : Int) = u := ⟨_, rfl⟩
    obtain ⟨H1, S1⟩ := H.setU hG.oneE ht hv hy hu (f := PEn.up) (by simp only [PEn.up]; omega) (fun _ => rfl) (fun _ => rfl) (z := u + 1) (by simp only [PEn.up]; omega) (q.t + 1)
    have HA1 := HP.keep HA S1 (fun c h1 h2 => hap.no c h2 h1) hap.z1
    have hub : IntKind.i64.wrap (u + 1) = u + 1 := by rw [IntKind.wrap_i64]; omega
    obtain ⟨J, hJ⟩ : ∃ J : Int, (i : Int) + 1 = J := ⟨_, rfl⟩
    have HJ := Lib.hid (show J = ((i + 1 : Nat) : Int) by omega)
    rw [hJ] at hrun
    rw [hu2] at y3
    rw [hv, hN] at x3
    rw [hN] at hi hm1
    have h5 : (i : Int) < (N : Int) := by omega
    have h6 : IntKind.i64.wrap (J - 1) = (i : Int) := by rw [IntKind.wrap_i64]; omega
    have HH1 := Lib.hid H1
    clear H H1 hA hN hv fz hy hf hlen hn8 hk hJ hu2 HR
    go_enter Try.func13, Try.ntmps13
    go_wp2
    go_ret2
    rw [E1.out, E2.out]
    exact ⟨ret2_i64 HJ.out rfl, col, ⟨hGF, _, _, _, _, HH1.out⟩, HA1, S1.mono rng_l⟩
def NewPQ (col : Col) (k ga : Nat) (n : Int) (w : World) (e : Ending) (w' : World) : Prop :=
  (newE n = 0 ∧ ∃ g, e = .returned (.tuple #[.pointer (some ⟨g, 0, none⟩), .int .i64 0]) ∧ ∃ col', PqR col' k w' g ga (newQ n.toNat) ∧ StepC (Rng k) col w col' w') ∨ (newE n = 1 ∧ e = .returned (.tuple #[.pointer none, .int .i64 1]) ∧ Below w.heap.size w w')
theorem new_pq (ht : Tidy col w) (hk : 1 ≤ k) {m : Nat} (hG : GoodQ (newQ m)) :
    ∃ col', PqR col' k ((w.alloc (.map #[] 0)).alloc (.cells #[.pointer (some ⟨ga, 0, none⟩), .int .i64 m, .map (some w.heap.size), .slice none 0 0, .slice none 0 0] 79)) (w.heap.size + 1) ga (newQ m)
      ∧ StepC (Rng k) col w col' ((w.alloc (.map #[] 0)).alloc (.cells #[.pointer (some ⟨ga, 0, none⟩), .int .i64 m, .map (some w.heap.size), .slice none 0 0, .slice none 0 0] 79)) := by
  have S1 := fun P => StepC.new ht (.map #[] 0) (k + 3) P
  have hown : MapQ (w.alloc (.map #[] 0)) w.heap.size (.map []) := World.ownsMap_made w _ _ _
  have hM : MapC (dye col (some w.heap.size) (k + 3)) (w.alloc (.map #[] 0)) w.heap.size (k + 3) (.map []) := ⟨hown, dye_of⟩
  obtain ⟨w1, e1⟩ : ∃ w1, w1 = w.alloc (.map #[] 0) := ⟨_, rfl⟩
  have z1 : w1.heap.size = w.heap.size + 1 := by rw [e1]; simp
  rw [← e1] at S1 hM ⊢
  have S2 := fun P => StepC.new (S1 (Rng k)).tidy (.cells #[.pointer (some ⟨ga, 0, none⟩), .int .i64 m, .map (some w.heap.size), .slice none 0 0, .slice none 0 0] 79) k P
  refine ⟨_, ⟨hG, w.heap.size, .map [], .slice none 0 0, .slice none 0 0, ⟨⟨by rw [← z1]; exact heap_alloc_new w1 _, by rw [z1]; exact dye_of⟩, hM.keep (S2 fun _ => False) id, RelM.new, OwnKc.nil kN _ _ _, OwnKc.nil kI _ _ _, hk⟩⟩, (S1 _).trans (S2 _)⟩
set_option maxHeartbeats 1000000 in
theorem pqNew (ht : Tidy col w) (hk : 1 ≤ k) (n : Int) (hn : I64 n) :
    Calls Try.prog 11 #[.pointer (some ⟨ga, 0, none⟩), .int .i64 n] w (NewPQ col k ga n w) := by
  obtain ⟨i1, i2⟩ := hn
  by_cases h1 : n < 1
  · have HE := Lib.hid (show newE n = 1 from if_pos (.inl h1))
    go_enter Try.func11, Try.ntmps11
    go_wp2
    go_ret2
    exact .inr ⟨HE.out, rfl, Below.refl _ _⟩
  by_cases h2 : 8192 < n
  · have HE := Lib.hid (show newE n = 1 from if_pos (.inr h2))
    go_enter Try.func11, Try.ntmps11
    go_wp2
    go_ret2
    exact .inr ⟨HE.out, rfl, Below.refl _ _⟩
  have HE := Lib.hid (show newE n = 0 from if_neg (by omega))
  obtain ⟨m, hm⟩ : ∃ m : Nat, n = m := ⟨n.toNat, by omega⟩
  subst hm
  have HG := Lib.hid (newQ_good (n := m) (by omega) (by omega))
  have HQ := Lib.hid (new_pq (ga := ga) ht hk HG.out)
  have hmm := @run_makeMap Try.prog
  go_enter Try.func11, Try.ntmps11
  go_wp2
  go_ret2
  exact .inl ⟨HE.out, _, rfl, HQ.out⟩
end
theorem nilNewP (w : World) (n : Int) : Calls Try.prog 11 #[.pointer none, .int .i64 n] w fun e w' => e = .returned (.tuple #[.pointer none, .int .i64 8]) ∧ w = w' := by
  go_enter Try.func11, Try.ntmps11
  go_wp2
  go_ret2
  exact ⟨rfl, rfl⟩
theorem nilHas (w : World) (id : Int) : Calls Try.prog 33 #[.pointer none, .int .i64 id] w fun e w' => e = .returned (.bool false) ∧ w = w' := by
  go_enter Try.func33, Try.ntmps33
  go_wp2
  go_ret
  exact ⟨rfl, rfl⟩
theorem nilIntern (w : World) (s : ByteArray) : Calls Try.prog 13 #[.pointer none, .string s] w fun e w' => e = .returned (.tuple #[.int .i64 0, .int .i64 8]) ∧ w = w' := by
  go_enter Try.func13, Try.ntmps13
  go_wp2
  go_ret2
  exact ⟨rfl, rfl⟩
theorem nilText (w : World) (id : Int) : Calls Try.prog 14 #[.pointer none, .int .i64 id] w fun e w' => e = .returned (.tuple #[.string ⟨#[]⟩, .int .i64 8]) ∧ w = w' := by
  go_enter Try.func14, Try.ntmps14
  go_wp2_with fail
  refine (nilHas w id).mono ?_
  rintro e w1 ⟨rfl, rfl⟩
  go_wp2
  go_ret2
  exact ⟨rfl, rfl⟩
theorem nilRelease (w : World) (id : Int) : Calls Try.prog 16 #[.pointer none, .int .i64 id] w fun e w' => e = .returned (.int .i64 8) ∧ w = w' := by
  go_enter Try.func16, Try.ntmps16
  go_wp2_with fail
  refine (nilHas w id).mono ?_
  rintro e w1 ⟨rfl, rfl⟩
  go_wp2
  go_ret
  exact ⟨rfl, rfl⟩
theorem nilFind (w : World) (s : ByteArray) : Calls Try.prog 15 #[.pointer none, .string s] w fun e w' => e = .returned (.tuple #[.int .i64 0, .int .i64 0]) ∧ w = w' := by
  go_enter Try.func15, Try.ntmps15
  go_wp2
  go_ret2
  exact ⟨rfl, rfl⟩
theorem nilLen (w : World) : Calls Try.prog 17 #[.pointer none] w fun e w' => e = .returned (.int .i64 0) ∧ w = w' := by
  go_enter Try.func17, Try.ntmps17
  go_wp2
  go_ret
  exact ⟨rfl, rfl⟩
end Go.Proofs.Ytenchaifnfgijaa

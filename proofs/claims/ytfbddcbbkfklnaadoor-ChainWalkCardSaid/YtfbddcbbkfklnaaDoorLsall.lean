/- The program's lists of string values: PushFront, PushBack, InsertAfter, Values, New. Conditions: none beyond those typed. -/
import Derived.Test.YtfbddcbbkfklnaaDoorLsrem
import Derived.Test.YtfbddcbbkfklnaaDoorKmake
import Derived.Test.YtfbddcbbkfklnaaDoorKgrow
import Derived.Test.YtfbddcbbkfklnaaDoorKtext
namespace Go.Proofs.YtfbddcbbkfklnaaDoor
open Go.ChangeShapes Go.WideShapes Go.ChangeAt Go.RowKit
set_option linter.unusedVariables false
set_option linter.unusedSimpArgs false
set_option maxRecDepth 100000

section
variable {P' : Nat → Prop} {col col' : Col} {w w' : World} {k g n u b N c nu cu x : Nat} {Au : Option Addr} {P : List (Pn ByteArray)} {U : List Nat} {i : Nat} {r : Pn ByteArray} {m : CSt ByteArray}
theorem AddOut.froms {r : (Int × Int) × CSt ByteArray} {e : Ending} (hs : StepC (Rng k) col w col w') {w2 : World} (h : AddOut PLs col k w' g r e w2) : AddOut PLs col k w g r e w2 := by
  obtain ⟨h1, col2, h2, h3⟩ := h
  exact ⟨h1, col2, h2, hs.trans h3⟩
set_option maxHeartbeats 1000000 in
theorem lpushFs_any (H : PLs col k w g m) (ht : Tidy col w) (v : ByteArray) : Calls Tryd.prog 10 #[.pointer (some ⟨g, 0, none⟩), (fun z : ByteArray => Value.string z) v] w (AddOut PLs col k w g (m.pushF v)) := by
  have hI := linserts_any H ht (a := -1) (i := 0) rfl (Nat.zero_le _) v
  have hE : m.pushF v = m.ins 0 v := rfl
  rw [hE]
  generalize m.ins 0 v = r1 at *
  clear H hE
  go_enter Tryd.func10, Tryd.ntmps10
  go_wp2_with fail
  refine hI.mono ?_
  rintro e w1 ⟨rfl, hd⟩
  have HD := Lib.hid hd
  clear hd hI
  go_wp2
  go_ret2
  exact ⟨rfl, HD.out⟩
set_option maxHeartbeats 1000000 in
theorem lpushBs_any (H : PLs col k w g m) (ht : Tidy col w) (v : ByteArray) : Calls Tryd.prog 9 #[.pointer (some ⟨g, 0, none⟩), (fun z : ByteArray => Value.string z) v] w (AddOut PLs col k w g (m.pushB v)) := by
  have hLa := llasts_any H
  have hs : ∀ j, StepC (Rng k) col w col (w.drewN j) := fun j => StepC.below ht (below_drewN (Below.refl _ _) j)
  have hI := fun j => (linserts_any (H.below ht (below_drewN (Below.refl _ _) j)) ht (a := m.last) (i := m.l.length) (last_rg m) (Nat.le_refl _) v).mono fun e w2 h => AddOut.froms (hs j) h
  have hE : m.pushB v = m.ins m.l.length v := rfl
  rw [hE]
  generalize m.ins m.l.length v = r1 at *
  clear H hE hs
  generalize m.last = F at *
  go_enter Tryd.func9, Tryd.ntmps9
  go_wp2_with fail
  refine hLa.mono ?_
  rintro e w1 ⟨rfl, j, rfl⟩
  go_wp2_with fail
  refine (hI j).mono ?_
  rintro e w1 ⟨rfl, hd⟩
  have HD := Lib.hid hd
  clear hd hI
  go_wp2
  go_ret2
  exact ⟨rfl, HD.out⟩
set_option maxHeartbeats 1000000 in
theorem linsAs_any (H : PLs col k w g m) (ht : Tidy col w) {z : Int} (hz : J64 z) (v : ByteArray) : Calls Tryd.prog 11 #[.pointer (some ⟨g, 0, none⟩), .int .i64 z, (fun z : ByteArray => Value.string z) v] w (AddOut PLs col k w g (m.insA z v)) := by
  have hs : ∀ j, StepC (Rng k) col w col (w.drewN j) := fun j => StepC.below ht (below_drewN (Below.refl _ _) j)
  have HB : ∀ j, PLs col k (w.drewN j) g m := fun j => H.below ht (below_drewN (Below.refl _ _) j)
  obtain ⟨P, b, N, c, U, Au, nu, cu, M, R⟩ := H
  have hH := lhass_any M R hz
  cases hp : placeC m.l z with
  | none =>
    rw [hp] at hH
    have hE : m.insA z v = ((0, 8), m) := by unfold CSt.insA; rw [hp]
    rw [hE]
    have HD := Lib.hid (show ∀ j, DidPL PLs col k w g m (w.drewN j) from fun j => ⟨col, HB j, hs j⟩)
    clear M R hE HB hs
    go_enter Tryd.func11, Tryd.ntmps11
    go_wp2_with fail
    refine hH.mono ?_
    rintro e w1 ⟨rfl, j, rfl⟩
    go_wp2
    go_ret2
    exact ⟨rfl, HD.out j⟩
  | some i =>
    rw [hp] at hH
    obtain ⟨q, hq, _, _, hi, hr⟩ := R.on hp
    have hE : m.insA z v = m.ins (i + 1) v := by unfold CSt.insA; rw [hp]
    rw [hE]
    have hI := fun j => (linserts_any (HB j) ht (a := z) (i := i + 1) (by rw [hr]; exact hq) (by omega) v).mono fun e w2 h => AddOut.froms (hs j) h
    generalize m.ins (i + 1) v = r1 at *
    clear M R HB hs hE hq hr
    go_enter Tryd.func11, Tryd.ntmps11
    go_wp2_with fail
    refine hH.mono ?_
    rintro e w1 ⟨rfl, j, rfl⟩
    go_wp2_with fail
    refine (hI j).mono ?_
    rintro e w1 ⟨rfl, hd⟩
    have HD := Lib.hid hd
    clear hd hI
    go_wp2
    go_ret2
    exact ⟨rfl, HD.out⟩
def lenVs : Value → Nat
  | .slice _ n _ => n
  | _ => 0
set_option maxHeartbeats 4000000 in
theorem lvalss_any (H : PLs col k w g m) (ht : Tidy col w) : Calls Tryd.prog 19 #[.pointer (some ⟨g, 0, none⟩)] w (RowOut kT w m.vals) := by
  have hLn := llens_any H
  have HH := Lib.hid H
  have hRG := H
  obtain ⟨P, b, N, c, U, Au, nu, cu, M, R⟩ := H
  have hlN := M.len
  have hN8 := R.lenN
  have hn8 := R.good.n8
  have hlen := R.good.len
  obtain ⟨hcp, hcm⟩ := M.cap
  obtain ⟨u0, hu0⟩ : ∃ u0, m.l.length = u0 := ⟨_, rfl⟩
  rw [hu0] at hLn
  obtain ⟨CS, hmk, hOw⟩ := make0_any kT (n := u0) (by omega)
  have hmk' : ∀ W : World, (Instr.makeSlice 38 (.int .i64 0) (.int .i64 (u0 : Int))).run Tryd.prog W = .ok (.slice (some ⟨W.heap.size, 0, none⟩) 0 u0) (W.alloc (.cells CS 9)) := hmk
  have HO := Lib.hid (hOw w)
  have B0 : Below w.heap.size w (w.alloc (.cells CS 9)) := (Below.refl _ _).alloc (Nat.le_refl _) _
  have HB0 := Lib.hid B0
  have hF := lfirsts_any (hRG.below ht B0)
  have hFr : m.first = rg m.nodes 1 := by
    have h1 := (R.ring 0 (Nat.zero_le _)).1
    rw [show rg m.nodes 0 = -1 from rfl, R.first] at h1
    injection h1
  have hnl := nodes_len m
  rw [hFr] at hF
  have hM := Lib.hid M
  have hR := Lib.hid R
  clear hmk hOw M R hRG hFr
  go_enter Tryd.func19, Tryd.ntmps19
  go_wp2_with fail
  refine hLn.mono ?_
  rintro e w1 ⟨rfl, hw⟩
  subst hw
  clear hLn
  go_wp2_with fail
  refine hF.mono ?_
  rintro e w1 ⟨rfl, j, rfl⟩
  clear hF hmk'
  have HO2 := Lib.hid (show OwnK kT ((w.alloc (.cells CS 9)).drewN j) (.slice (some ⟨w.heap.size, 0, none⟩) 0 u0) [] from HO.out)
  have HB2 := Lib.hid (show Below w.heap.size w ((w.alloc (.cells CS 9)).drewN j) from below_drewN HB0.out j)
  clear HO HB0 B0
  generalize (w.alloc (.cells CS 9)).drewN j = W1 at *
  go_wp2
  go_loopw [3, 4] (fun vv nv wr => ∃ (i gk d : Nat) (l : List ByteArray), i ≤ u0 ∧ nv = .int .i64 (rg m.nodes (i + 1)) ∧ vv = .slice (some ⟨gk, 0, none⟩) i d ∧ l = (m.l.take i).map Prod.snd ∧ OwnK kT wr (.slice (some ⟨gk, 0, none⟩) i d) l ∧ w.heap.size ≤ gk ∧ Below w.heap.size w wr) (fun vv _ _ => u0 - lenVs vv)
  case atStart => exact ⟨0, w.heap.size, u0, [], Nat.zero_le _, rfl, rfl, rfl, HO2.out, Nat.le_refl _, HB2.out⟩
  case round =>
    obtain ⟨i, gk, d, l, hi, rfl, rfl, hl, O, hgk, hB⟩ := hrel
    clear HO2 HB2
    by_cases hlt : i < u0
    · obtain ⟨p, hp⟩ : ∃ p, m.l[i]? = some p := ⟨_, List.getElem?_eq_getElem (by omega)⟩
      have hrk : rg m.nodes (i + 1) = (p.1 : Int) := rg_at (by simp [CSt.nodes, hp])
      have hpl := hR.out.lt p.1 (List.mem_map.2 ⟨p, List.mem_of_getElem? hp, rfl⟩)
      have hv := hR.out.val i p hp
      obtain ⟨y, hy⟩ : ∃ y, P[p.1 + 1]? = some y := ⟨_, List.getElem?_eq_getElem hpl⟩
      have hv' : (P[p.1 + 1]?).map (fun q => q.2.2) = some p.2 := hv
      rw [hy] at hv'
      have hyf : y.2.2 = p.2 := by injection hv'
      have hpc : placeC m.l (p.1 : Int) = some i := place_is hR.out.good hp
      have hnx : m.by_ (p.1 : Int) 1 = rg m.nodes (i + 2) := by
        have h1 := (hR.out.ring (i + 1) (by omega)).1
        rw [hrk, hR.out.next hpc] at h1
        injection h1
      obtain ⟨q, hq⟩ : ∃ q, p.1 = q := ⟨_, rfl⟩
      rw [hq] at hrk hpl hy hnx
      obtain ⟨X, hX⟩ : ∃ X, q + 1 = X := ⟨_, rfl⟩
      have hwX : IntKind.i64.wrap ((q : Int) + 1) = (X : Int) := by rw [IntKind.wrap_i64]; omega
      rw [hX] at hy
      have hXI : (X : Int) < (N : Int) := by omega
      have M1 := hM.out.below ht hB
      have x2 := M1.c2
      obtain ⟨_, _, y2, _⟩ := M1.at_ hy
      rw [hyf] at y2
      obtain ⟨F, hFv⟩ : ∃ F, p.2 = F := ⟨_, rfl⟩
      rw [hFv] at y2
      have y2' : wr.cell? ⟨b, X * 3 + 2, none⟩ = some ((fun z : ByteArray => Value.string z) F) := y2
      have HL := Lib.hid (show l ++ [F] = (m.l.take (i + 1)).map Prod.snd by rw [List.take_add_one, hp, List.map_append, ← hl, ← hFv]; rfl)
      have hln := O.len
      have O1 : OwnK kT (wr.alloc (.cells #[(fun z : ByteArray => Value.string z) F] 9)) (.slice (some ⟨gk, 0, none⟩) i d) l := O.alloc _
      have R1 : RdG kT (wr.alloc (.cells #[(fun z : ByteArray => Value.string z) F] 9)) (some ⟨wr.heap.size, 0, none⟩) 1 1 [F] := RdG.one2 kT F rfl rfl (by simp)
      have B1 : Below w.heap.size w (wr.alloc (.cells #[(fun z : ByteArray => Value.string z) F] 9)) := hB.alloc hB.size _
      have N1 : New w (.slice (some ⟨gk, 0, none⟩) i d) := New.lit hgk
      have hby : l.length + 1 ≤ 1000000000 := by omega
      have hl2 : (l ++ [F]).length = i + 1 := by simp [hln]
      have h0n : 0 < i + 1 := by omega
      have hne : (rg m.nodes (i + 1) != -1) = true := by rw [hrk]; simp
      have hzq : J64 (q : Int) := by unfold J64; omega
      have hneq : (((q : Int)) != -1) = true := by simp
      have hNx := fun (W : World) (hb : Below w.heap.size w W) => lnexts_any (HH.out.below ht hb) (ht.size hb.size) hzq
      rw [hnx] at hNx
      clear y2 hy hyf hv hv' hp hl M1 hln hFv hpc hq hnx hpl hne
      rw [hrk]
      clear hrk
      go_wp2_with (at_builtin; refine wpList_appK kT rfl (.tmp 15) (.tmp 25) rfl _ l rfl _ 1 1 [F] rfl O1 R1 hby ?_; intro v2 w2 O2 G2 hat2; have N2 : New w v2 := New.app N1 B1 hat2; have B2 := B1.grown G2 B1.size (fun q hq => N1 q hq); obtain ⟨A2, c2, rfl, _, _⟩ := O2.form hl2; obtain ⟨g2, rfl, _⟩ := O2.head h0n; have hg2 := N2 g2 rfl)
      refine (hNx _ B2).mono ?_
      rintro e w3 ⟨rfl, j3, rfl⟩
      go_wp2
      go_roundw
      case rel => exact ⟨i + 1, g2, c2, l ++ [F], by omega, rfl, by first | rfl | (push_cast; rfl), HL.out, O2.drewN _, hg2, below_drewN B2 _⟩
      case measure => (simp [lenVs] <;> omega)
    · have hiu : i = u0 := by omega
      have hr1 : rg m.nodes (i + 1) = -1 := rg_end (by omega)
      have HV := Lib.hid (show l = m.vals by rw [hl, List.take_of_length_le (by omega)]; rfl)
      rw [hr1]
      clear hl hr1
      go_wp2
      go_ret
      unfold RowOut
      rw [← HV.out]
      exact ⟨some ⟨gk, 0, none⟩, i, d, O.len, rfl, O.reads, fun b' o sp e => by injection e with e; injection e with e; omega, hB⟩
set_option maxHeartbeats 1000000 in
theorem lnews_any (ht : Tidy col w) (hT : TbC col w) (hk : 1 ≤ k) (n : Int) (hn : J64 n) : Calls Tryd.prog 38 #[.int .i64 n] w (NewPL PLs col k n w) := by
  unfold J64 at hn
  by_cases h1 : n < 1
  · have HE := Lib.hid (show lstE n = 1 from if_pos (.inl h1))
    go_enter Tryd.func38, Tryd.ntmps38
    go_wp2
    go_ret2
    exact .inr ⟨HE.out, rfl, Below.refl _ _⟩
  by_cases h2 : 8192 < n
  · have HE := Lib.hid (show lstE n = 1 from if_pos (.inr h2))
    go_enter Tryd.func38, Tryd.ntmps38
    go_wp2
    go_ret2
    exact .inr ⟨HE.out, rfl, Below.refl _ _⟩
  obtain ⟨q, rfl⟩ : ∃ q : Nat, n = (q : Int) := ⟨n.toNat, by omega⟩
  have HE := Lib.hid (show lstE (q : Int) = 0 from if_neg (by omega))
  have hs1 := StepC.new ht (.cells #[.int .i64 (-1), .int .i64 (-1), .string ⟨#[]⟩] 64) (k + 1) (Rng k)
  have O1 : OwnK kNs (w.alloc (.cells #[.int .i64 (-1), .int .i64 (-1), .string ⟨#[]⟩] 64)) (.slice (some ⟨w.heap.size, 0, none⟩) 1 1) [(-1, -1, (⟨#[]⟩ : ByteArray))] := OwnK.one (K := kNs) rfl _ rfl
  have R1 : OwnKc kNs (dye col (some w.heap.size) (k + 1)) (w.alloc (.cells #[.int .i64 (-1), .int .i64 (-1), .string ⟨#[]⟩] 64)) (k + 1) (.slice (some ⟨w.heap.size, 0, none⟩) 1 1) [(-1, -1, (⟨#[]⟩ : ByteArray))] := ⟨O1, HasCol.dye (.slice (some ⟨w.heap.size, 0, none⟩) 1 1) (k + 1)⟩
  have T1 := hT.keep hs1 (rng0 hk)
  have hs2 := fun cs => StepC.new hs1.tidy (.cells cs 67) k (Rng k)
  have hs2' := fun cs => StepC.new hs1.tidy (.cells cs 67) k (fun _ => False)
  have HD := Lib.hid (show DidPL PLs col k w (w.heap.size + 1) (newC ByteArray q) ((w.alloc (.cells #[.int .i64 (-1), .int .i64 (-1), .string ⟨#[]⟩] 64)).alloc (.cells #[.int .i64 (q : Int), .int .i64 0, .slice (some ⟨w.heap.size, 0, none⟩) 1 1, .slice none 0 0] 67)) from by
    refine ⟨_, ⟨[(-1, -1, (⟨#[]⟩ : ByteArray))], w.heap.size, 1, 1, [], none, 0, 0, ⟨⟨?_, ?_⟩, R1.keep (hs2' _) (fun h => h), OwnKc.nil kU _ _ _, T1.keep (hs2' _) (fun h => h), hk⟩, Rp.new (by omega) (by omega)⟩, hs1.trans (hs2 _)⟩
    · have := heap_alloc_new (w.alloc (.cells #[.int .i64 (-1), .int .i64 (-1), .string ⟨#[]⟩] 64)) (.cells #[.int .i64 (q : Int), .int .i64 0, .slice (some ⟨w.heap.size, 0, none⟩) 1 1, .slice none 0 0] 67)
      rw [show (w.alloc (.cells #[.int .i64 (-1), .int .i64 (-1), .string ⟨#[]⟩] 64)).heap.size = w.heap.size + 1 by simp] at this
      exact this
    · unfold dye
      rw [if_pos (by simp)])
  clear hs1 O1 R1 T1 hs2 hs2' hT
  go_enter Tryd.func38, Tryd.ntmps38
  go_wp2
  go_ret2
  exact .inl ⟨HE.out, w.heap.size + 1, rfl, HD.out⟩
end
end Go.Proofs.YtfbddcbbkfklnaaDoor

/- The program's tables of numbers: Keys; all that the statements use of them. Conditions: none beyond those typed. -/
import Derived.Test.YtdifkcjciblkpaaYinew
import Derived.Test.YtdifkcjciblkpaaYsnew
import Derived.Test.YtdifkcjciblkpaaYsort
namespace Go.Proofs.Ytdifkcjciblkpaa
open Go.ChangeShapes Go.WideShapes Go.ChangeAt Go.RowKit
set_option linter.unusedVariables false
set_option linter.unusedSimpArgs false
set_option maxRecDepth 100000

section
variable {α : Type} {t : Tb α} {i : Nat} {e : ByteArray × α}
/-- The keys in their places' order. -/
def keysT (t : Tb α) : List ByteArray := (ents t).map Prod.fst
theorem keysT_yes (h : t[i]? = some (some e)) : keysT (t.take (i + 1)) = keysT (t.take i) ++ [e.1] := by
  rw [List.take_add_one, h]
  simp [keysT, ents]
theorem keysT_no (h : t[i]? = some none) : keysT (t.take (i + 1)) = keysT (t.take i) := by
  rw [List.take_add_one, h]
  simp [keysT, ents]
theorem keysT_le (t : Tb α) : (keysT t).length ≤ t.length := by
  rw [keysT, List.length_map]
  exact List.length_filterMap_le _ _
end
section
variable {P : Nat → Prop} {col col' : Col} {w w' W : World} {k g n u N : Nat} {T : List Int} {seed : Int} {A : Option Addr} {cT b c gm bc : Nat} {t : Tb Int} {home : ByteArray → Nat} {s : ByteArray} {m : MSt Int} {v : Int}
theorem noneKeysi (w : World) : Calls Try.prog 17 #[.pointer none] w fun e w' => ∃ A c, e = .returned (.slice A 0 c) ∧ Below w.heap.size w w' := by
  go_enter Try.func17, Try.ntmps17
  go_wp2
  go_ret
  exact ⟨none, 0, rfl, Below.refl _ _⟩
set_option maxHeartbeats 4000000 in
theorem keysi_any (H : PMi col k w g m) (ht : Tidy col w) : Calls Try.prog 17 #[.pointer (some ⟨g, 0, none⟩)] w (KeysOut w m.keys) := by
  obtain ⟨hG, T, seed, A, cT, b, c, N, t, M, hL, R⟩ := H
  obtain ⟨_, hlN, hN6, hN0, hlen⟩ := M.room hG hL R
  have x3 := M.c3
  have x4 := M.c4
  obtain ⟨hcp, hcm⟩ := M.cap
  have hM := Lib.hid M
  have hcnt := R.count hG hL
  have hfin := Lib.hid (show ∀ l, l = keysT t → ordT l = m.keys from fun l e => by
    subst e
    exact R.keys hG (ord_srt hL.nodup) fun s => ord_mem _ s)
  obtain ⟨u0, hu0⟩ : ∃ u0, m.l.length = u0 := ⟨_, rfl⟩
  have hkl : (keysT t).length = u0 := by rw [← hu0, ← hcnt]; exact List.length_map ..
  obtain ⟨CS, hmk, hOw⟩ := make0_any kT (n := u0) (by omega)
  have hmk' : ∀ W : World, (Instr.makeSlice 43 (.int .i64 0) (.int .i64 (u0 : Int))).run Try.prog W = .ok (.slice (some ⟨W.heap.size, 0, none⟩) 0 u0) (W.alloc (.cells CS 9)) := hmk
  have HO := Lib.hid (hOw w)
  have B0 : Below w.heap.size w (w.alloc (.cells CS 9)) := (Below.refl _ _).alloc (Nat.le_refl _) _
  have HB0 := Lib.hid B0
  have x4' := (cellB x4 B0).1
  have hmkl : m.keys.length = u0 := by rw [← hu0]; exact keys_len m
  have HML := Lib.hid hmkl
  have HKL := Lib.hid hkl
  rw [hu0] at x3
  clear hmk hOw M R hL hG hcnt hkl hmkl
  go_enter Try.func17, Try.ntmps17
  go_wp2
  go_loopw [3, 18] (fun kv iv wr => ∃ (i gk d nk : Nat) (l : List ByteArray), i ≤ N ∧ iv = .int .i64 (i : Int) ∧ kv = .slice (some ⟨gk, 0, none⟩) nk d ∧ l = keysT (t.take i) ∧ nk ≤ i ∧ OwnK kT wr (.slice (some ⟨gk, 0, none⟩) nk d) l ∧ w.heap.size ≤ gk ∧ Below w.heap.size w wr) (fun _ iv _ => N - (intOf iv).toNat)
  case atStart => exact ⟨0, w.heap.size, u0, 0, [], Nat.zero_le _, rfl, rfl, rfl, Nat.le_refl _, HO.out, Nat.le_refl _, HB0.out⟩
  case round =>
    obtain ⟨i, gk, d, nk, l, hi, rfl, rfl, hl, hni, O, hgk, hB⟩ := hrel
    clear x3 x4 x4' HO HB0 B0 hmk'
    by_cases hlt : i < N
    · have hil : i < t.length := by omega
      have hiI : (i : Int) < (N : Int) := by omega
      have M := hM.out.below ht hB
      rcases occ_or hil with ⟨⟨kk, v⟩, ho⟩ | hem
      · have hr : (t.map (plOf 0 (homeT T seed N)))[i]? = some (plOf 0 (homeT T seed N) (some (kk, v))) := by rw [List.getElem?_map, ho]; rfl
        obtain ⟨y0, y1, y2, y3, _⟩ := M.at_ hr
        have y0' : wr.cell? ⟨b, i * 4, none⟩ = some (.bool true) := y0
        have y1' : wr.cell? ⟨b, i * 4 + 1, none⟩ = some (.int .i64 (homeT T seed N kk : Int)) := y1
        have y2' : wr.cell? ⟨b, i * 4 + 2, none⟩ = some (.string kk) := y2
        have y3' : wr.cell? ⟨b, i * 4 + 3, none⟩ = some (.int .i64 v) := y3
        have HL := Lib.hid (show l ++ [kk] = keysT (t.take (i + 1)) by rw [keysT_yes ho, hl])
        have hln := O.len
        generalize homeT T seed N kk = hm at y1'
        have O1 : OwnK kT ((wr.alloc (.cells #[.bool true, .int .i64 (hm : Int), .string kk, .int .i64 v] 72)).alloc (.cells #[.string kk] 9)) (.slice (some ⟨gk, 0, none⟩) nk d) l := (O.alloc _).alloc _
        have R1 : RdG kT ((wr.alloc (.cells #[.bool true, .int .i64 (hm : Int), .string kk, .int .i64 v] 72)).alloc (.cells #[.string kk] 9)) (some ⟨wr.heap.size + 1, 0, none⟩) 1 1 [kk] := RdG.one2 kT kk rfl rfl (by simp)
        have B1 : Below w.heap.size w ((wr.alloc (.cells #[.bool true, .int .i64 (hm : Int), .string kk, .int .i64 v] 72)).alloc (.cells #[.string kk] 9)) := (hB.alloc hB.size _).alloc (hB.alloc hB.size _).size _
        have N1 : New w (.slice (some ⟨gk, 0, none⟩) nk d) := New.lit hgk
        have hby : l.length + 1 ≤ 1000000000 := by omega
        have hl2 : (l ++ [kk]).length = nk + 1 := by simp [hln]
        have h0n : 0 < nk + 1 := by omega
        clear y0 y1 y2 y3 hr ho hl M hln
        go_wp2_with (at_builtin; refine wpList_appK kT rfl (.tmp 24) (.tmp 27) rfl _ l rfl _ 1 1 [kk] rfl O1 R1 hby ?_; intro v2 w2 O2 G2 hat2; have N2 : New w v2 := New.app N1 B1 hat2; have B2 := B1.grown G2 B1.size (fun q hq => N1 q hq); obtain ⟨A2, c2, rfl, _, _⟩ := O2.form hl2; obtain ⟨g2, rfl, _⟩ := O2.head h0n; have hg2 := N2 g2 rfl)
        go_roundw
        case rel => exact ⟨i + 1, g2, c2, nk + 1, l ++ [kk], by omega, by go_num, by first | rfl | (push_cast; rfl), HL.out, by omega, O2, hg2, B2⟩
        case measure => (simp [intOf] <;> omega)
      · have hem' : t[i]? = some none := hem
        have hr : (t.map (plOf 0 (homeT T seed N)))[i]? = some (plOf 0 (homeT T seed N) none) := by rw [List.getElem?_map, hem']; rfl
        obtain ⟨y0, y1, y2, y3, _⟩ := M.at_ hr
        have y0' : wr.cell? ⟨b, i * 4, none⟩ = some (.bool false) := y0
        have y1' : wr.cell? ⟨b, i * 4 + 1, none⟩ = some (.int .i64 0) := y1
        have y2' : wr.cell? ⟨b, i * 4 + 2, none⟩ = some (.string ⟨#[]⟩) := y2
        have y3' : wr.cell? ⟨b, i * 4 + 3, none⟩ = some (.int .i64 0) := y3
        have HL := Lib.hid (show l = keysT (t.take (i + 1)) by rw [keysT_no hem']; exact hl)
        clear y0 y1 y2 y3 hr hem hem' hl M
        go_wp2
        go_roundw
        case rel => exact ⟨i + 1, gk, d, nk, l, by omega, by go_num, rfl, HL.out, by omega, O.below ((Below.refl _ _).alloc (Nat.le_refl _) _), hgk, hB.alloc hB.size _⟩
        case measure => (simp [intOf] <;> omega)
    · have hiN : i = N := by omega
      have HL := Lib.hid (show l = keysT t by rw [hl, hiN, List.take_of_length_le (by omega)])
      have HN := Lib.hid (show nk = u0 by rw [← O.len, HL.out, HKL.out])
      have hiI : ¬ (i : Int) < (N : Int) := by omega
      have hS := ordT_any O (by omega)
      clear hl hiN
      go_wp2_with fail
      refine hS.mono ?_
      rintro r w2 ⟨rfl, O2, G2⟩
      have B2 : Below w.heap.size w w2 := hB.grown G2 hB.size (fun q hq => by injection hq with hq; omega)
      go_wp2
      go_ret
      unfold KeysOut
      rw [HML.out, ← HN.out, ← hfin.out l HL.out]
      exact ⟨some ⟨gk, 0, none⟩, d, rfl, O2.reads, fun b' o sp e => by injection e with e; injection e with e; omega, B2⟩
end
end Go.Proofs.Ytdifkcjciblkpaa

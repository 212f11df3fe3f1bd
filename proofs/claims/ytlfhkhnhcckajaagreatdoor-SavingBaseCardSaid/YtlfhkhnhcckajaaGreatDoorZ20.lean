/- Words laid together in one text. Conditions: none beyond those typed. -/
import Derived.Test.YtlfhkhnhcckajaaGreatDoorZ19
import Derived.Test.YtlfhkhnhcckajaaGreatDoorZ07
import Derived.Test.YtlfhkhnhcckajaaGreatDoorSoadd
import Derived.Test.YtlfhkhnhcckajaaGreatDoorZ09
import Derived.Test.YtlfhkhnhcckajaaGreatDoorTie
import Derived.Test.YtlfhkhnhcckajaaGreatDoorCards
import Derived.Lib.LaidTab
import Derived.LaidMore
import Derived.ProofKit
import Derived.OpenShut
import Derived.Stop.Joined
import Derived.Handed
/- The program's tables: Entries. Conditions: none beyond those typed. -/
namespace Go.Proofs.YtlfhkhnhcckajaaGreatDoor
open Go.ChangeShapes Go.WideShapes Go.ChangeAt Go.RowKit
set_option linter.unusedVariables false
set_option linter.unusedSimpArgs false
set_option maxRecDepth 100000

theorem insSE_add (out : List En) (e : En) : insSE out e = addM out e.1 e.2 := rfl
theorem foldSE_srt : ∀ (l out : List En), Srt out → ((l ++ out).map Prod.fst).Nodup → Srt (l.foldl insSE out)
  | [], out, h, _ => h
  | e :: l, out, h, hn => by
    have hp : ((l ++ insSE out e).map Prod.fst).Perm ((e :: l ++ out).map Prod.fst) := by
      have h1 : (l ++ insSE out e).Perm (l ++ e :: out) := (insSE_perm out e).append_left l
      exact (h1.trans List.perm_middle).map _
    refine foldSE_srt l (insSE out e) ?_ (hp.nodup_iff.2 hn)
    rw [insSE_add]
    refine add_srt h ?_
    cases hl : lookM out e.1 with
    | none => rfl
    | some v =>
      exfalso
      have hm := (look_mem h).1 hl
      rw [List.cons_append, List.map_cons] at hn
      exact (List.nodup_cons.1 hn).1 (List.mem_map.2 ⟨_, List.mem_append.2 (.inr hm), rfl⟩)
theorem sortE_srt {l : List En} (hn : (l.map Prod.fst).Nodup) : Srt (sortE l) := foldSE_srt l [] List.Pairwise.nil (by rwa [List.append_nil])
theorem LkO.sorted {n : Nat} {X : List Xn} {m : CSt Int} {M : MSt Int} {E : List El} {l : List En} (L : LkO n X m M E) (hl : l = X.map Prod.snd) : M.keys = (sortE l).map Prod.fst := by
  have hn : (l.map Prod.fst).Nodup := by rw [hl, List.map_map]; exact L.keys
  have e1 : M.keys.Pairwise fun a b => sless a b = true := List.pairwise_map.2 L.gM.srt
  have e2 : ((sortE l).map Prod.fst).Pairwise fun a b => sless a b = true := List.pairwise_map.2 (sortE_srt hn)
  refine srt_unique e1 e2 fun s => ?_
  have h1 := look_key (s := s) L.gM.srt
  unfold MSt.keys
  rw [← h1]
  have h2 : M.look s = (fndX X s).map fun x => (x.1 : Int) := L.map s
  unfold MSt.look at h2
  rw [h2]
  constructor
  · rintro ⟨v, hv⟩
    cases hf : fndX X s with
    | none => rw [hf] at hv; cases hv
    | some x =>
      obtain ⟨hx, hs⟩ := fndX_some hf
      exact List.mem_map.2 ⟨x.2, (sortE_perm l).mem_iff.2 (by rw [hl]; exact List.mem_map.2 ⟨x, hx, rfl⟩), hs⟩
  · intro hm
    obtain ⟨e, he, hs⟩ := List.mem_map.1 hm
    have he' := (sortE_perm l).mem_iff.1 he
    rw [hl] at he'
    obtain ⟨x, hx, rfl⟩ := List.mem_map.1 he'
    exact ⟨(x.1 : Int), by rw [fndX_is L.keys hx hs]; rfl⟩
section
variable {c2 : Col} {w w' : World} {g n i : Nat} {t : TSt} {e : En}
set_option maxHeartbeats 4000000 in
theorem tAll_any (T : SoT c2 w g t) (ht : Tidy c2 w) : Calls Tryz.prog 41 #[.pointer (some ⟨g, 0, none⟩)] w (RowOut kEn w (sortE t.l)) := by
  have HT := Lib.hid T
  obtain ⟨X, hl, hG, gr, gm, bE, c, m, M, E, H, L⟩ := T
  have hSz := soSize_any H L
  have hXl : X.length = t.l.length := by rw [hl, List.length_map]
  rw [hXl] at hSz
  have hkeys := L.sorted hl
  have hn64 := L.n1.2
  have hfew := L.few
  obtain ⟨N, hN⟩ : ∃ N, t.l.length = N := ⟨_, rfl⟩
  rw [hN] at hSz
  have hSl : (sortE t.l).length = N := by rw [sortE_len, hN]
  obtain ⟨CS, hmk, hOw⟩ := make0_any kEn (n := N) (by omega)
  have hmk' : ∀ W : World, (Instr.makeSlice 40 (.int .i64 0) (.int .i64 (N : Int))).run Tryz.prog W = .ok (.slice (some ⟨W.heap.size, 0, none⟩) 0 N) (W.alloc (.cells CS 32)) := hmk
  have b1 : Below w.heap.size w (w.alloc (.cells CS 32)) := (Below.refl _ _).alloc (Nat.le_refl _) _
  have O1 : OwnK kEn (w.alloc (.cells CS 32)) (.slice (some ⟨w.heap.size, 0, none⟩) 0 N) [] := hOw w
  have t1 := ht.size b1.size
  have H1 := H.below ht b1
  have y1 := H1.c1
  have hK := keysi_any H1.mp t1
  rw [hkeys] at hK
  obtain ⟨ks, hks⟩ : ∃ ks, (sortE t.l).map Prod.fst = ks := ⟨_, rfl⟩
  rw [hks] at hK
  have hkl : ks.length = N := by rw [← hks, List.length_map, hSl]
  have N1 : New w (.slice (some ⟨w.heap.size, 0, none⟩) 0 N) := New.lit (Nat.le_refl _)
  have HO := Lib.hid (And.intro O1 (And.intro N1 b1))
  have HN6 := Lib.hid (show N ≤ 64 by omega)
  have hsizes := Lib.hid (fun (j : Nat) (e : En) (h : (sortE t.l)[j]? = some e) => show t.get e.1 = (e, true) ∧ e.1.size ≤ 281474976710656 from by
    have hm := (sortE_perm t.l).mem_iff.1 (List.mem_of_getElem? h)
    obtain ⟨q, hq⟩ := List.mem_iff_getElem?.1 hm
    refine ⟨get_own hG hq, ?_⟩
    rw [hl] at hm
    obtain ⟨x, hx, rfl⟩ := List.mem_map.1 hm
    exact (L.sz x hx).2)
  have y1r := y1
  obtain ⟨W1, hW1⟩ : ∃ W, W = w.alloc (.cells CS 32) := ⟨_, rfl⟩
  rw [← hW1] at hK t1
  rw [← hW1] at HO
  have hGW : w.heap.size < W1.heap.size := by rw [hW1]; simp
  clear N1 H L H1 hmk hOw O1 b1 y1 hl hG hkeys hfew hXl
  go_enter Tryz.func41, Tryz.ntmps41
  go_wp2_with fail
  refine hSz.mono ?_
  rintro e' w2 ⟨rfl, hw⟩
  subst hw
  clear hSz
  go_wp2_with fail
  rw [← hW1]
  clear hW1 y1r hmk'
  refine hK.mono ?_
  rintro e' w3 ⟨A, ck, rfl, hR, hA, b3⟩
  rw [hkl] at hR ⊢
  have hcap := hR.cap
  have hmax := hR.max
  obtain ⟨O1, N3, b1⟩ := HO.out
  have O3 := O1.below b3
  have B3 := below_then b1 b3
  have HS := Lib.hid (And.intro O3 (And.intro N3 B3))
  have HA0 := Lib.hid (show ∀ b o sp, A = some ⟨b, o, sp⟩ → (Value.slice (some ⟨w.heap.size, 0, none⟩) 0 N).ownBlock ≠ some b from fun b o sp hb h => by
    have h2 := hA b o sp hb
    have h3 : some w.heap.size = some b := h
    injection h3 with h3
    omega)
  clear hK HO O1 O3 N3 b1 b3 t1
  go_wp2
  go_loopw [3, 17] (fun v iv wr => ∃ i : Nat, i ≤ N ∧ iv = .int .i64 (i : Int) ∧ OwnK kEn wr v ((sortE t.l).take i) ∧ New w v ∧ Below w.heap.size w wr ∧ RdG kT wr A N ck ks ∧ ∀ b o sp, A = some ⟨b, o, sp⟩ → v.ownBlock ≠ some b) (fun _ iv _ => N - (intOf iv).toNat)
  case atStart => exact ⟨0, Nat.zero_le _, rfl, HS.out.1, HS.out.2.1, HS.out.2.2, hR, HA0.out⟩
  case round =>
    clear HS hR B3 HA0 hA
    obtain ⟨i, hi, rfl, hO, hNw, hB, hR, hAw⟩ := hrel
    by_cases hlt : i < N
    · obtain ⟨b, o, kx, rfl, hk, _, hblt, hc⟩ := hR.at_ hlt
      have y0' := hc 0 (.string kx) rfl
      have y0 : wr.cell? ⟨b, o + i, none⟩ = some (.string kx) := by simpa [show kT.k = 1 from rfl] using y0'
      obtain ⟨e, he⟩ : ∃ e, (sortE t.l)[i]? = some e := ⟨_, List.getElem?_eq_getElem (by omega)⟩
      have hke : kx = e.1 := by
        rw [← hks, List.getElem?_map, he] at hk
        injection hk with hk
        exact hk.symm
      subst hke
      obtain ⟨hget, hsz⟩ := hsizes.out i e he
      have hF := tFind_any (HT.out.below ht hB) (ht.size hB.size) hsz
      rw [hget] at hF
      have hTk := Lib.hid (show (sortE t.l).take i ++ [e] = (sortE t.l).take (i + 1) by rw [List.take_add_one, he]; rfl)
      have hlo : ((sortE t.l).take i).length = i := by rw [List.length_take]; omega
      obtain ⟨lo, hlo2⟩ : ∃ lo, (sortE t.l).take i = lo := ⟨_, rfl⟩
      rw [hlo2] at hO hTk hlo
      obtain ⟨Ao, co, rfl, _, _⟩ := hO.form hlo
      have hiI : (i : Int) < (N : Int) := by omega
      have hR0 := Lib.hid hR
      clear hR hc y0' hk he hlo2 hget hsz
      go_wp2_with fail
      refine hF.mono ?_
      rintro e' w4 ⟨rfl, b4⟩
      clear hF y0
      have O4 := hO.below b4
      have B4 := below_then hB b4
      have R4 := hR0.out.below b4
      have B5 := B4.alloc B4.size (.cells (VE e) 32)
      have n0 : (w4.alloc (.cells (VE e) 32)).cell? ⟨w4.heap.size, 0, none⟩ = some (.string e.1) := (World.cell?_alloc_at (w := w4) _ _ _ _ rfl).trans rfl
      have n1 : (w4.alloc (.cells (VE e) 32)).cell? ⟨w4.heap.size, 1, none⟩ = some (.int .u64 e.2.1) := (World.cell?_alloc_at (w := w4) _ _ _ _ rfl).trans rfl
      have n2 : (w4.alloc (.cells (VE e) 32)).cell? ⟨w4.heap.size, 2, none⟩ = some (.int .u64 e.2.2) := (World.cell?_alloc_at (w := w4) _ _ _ _ rfl).trans rfl
      have B6 := B5.alloc B5.size (.cells (VE e) 32)
      have O6 : OwnK kEn ((w4.alloc (.cells (VE e) 32)).alloc (.cells (VE e) 32)) (.slice Ao i co) lo := (O4.alloc _).alloc _
      have R6 : RdG kEn ((w4.alloc (.cells (VE e) 32)).alloc (.cells (VE e) 32)) (some ⟨w4.heap.size + 1, 0, none⟩) 1 1 [e] := RdG.one2 kEn e rfl rfl (by simp)
      have K6 := R4.below (((Below.refl w4.heap.size w4).alloc (Nat.le_refl _) (.cells (VE e) 32)).alloc (by simp) (.cells (VE e) 32))
      have hby : lo.length + 1 ≤ 1000000000 := by have := HN6.out; omega
      have hb4 := b4.size
      have HAw := Lib.hid (hAw b o none rfl)
      clear O4 B4 B5 hO hB hR0 R4 hAw
      go_wp2_with (at_builtin; refine wpList_appK kEn rfl (.tmp 27) (.tmp 29) rfl _ lo rfl _ 1 1 [e] rfl O6 R6 hby ?_; intro v7 w7 O7 G7 hat7; have N7 : New w v7 := New.app hNw B6 hat7; have B7 := B6.grown G7 B6.size (fun q hq => hNw q hq); rw [hTk.out] at O7; have HK7 := Lib.hid (show RdG kT w7 (some ⟨b, o, none⟩) N ck ks ∧ ∀ b' o' sp, some (⟨b, o, none⟩ : Addr) = some ⟨b', o', sp⟩ → v7.ownBlock ≠ some b' from ⟨K6.far fun b' o' hb' hl' => G7.block b' hl' (by injection hb' with hb'; injection hb' with hb' _; subst hb'; exact fun e' => HAw.out e'.symm), fun b' o' sp hb' h7 => by injection hb' with hb'; injection hb' with hb' _; subst hb'; rcases hat7 with h8 | h8; exact HAw.out (h8.symm.trans h7); rw [h8] at h7; injection h7 with h7; simp at h7; omega⟩); clear O6 R6 hat7 B6 K6 G7)
      go_roundw
      case rel => exact ⟨i + 1, by omega, by go_num, O7, N7, B7, HK7.out.1, HK7.out.2⟩
      case measure => (simp [intOf] <;> omega)
    · have hin : i = N := by omega
      have hiI : ¬ (i : Int) < (N : Int) := by omega
      rw [hin, List.take_of_length_le (by omega)] at hO
      obtain ⟨Ao, co, rfl, hRo, hform⟩ := hO.form (n := N) hSl
      have hAo : ∀ b o sp, Ao = some ⟨b, o, sp⟩ → w.heap.size ≤ b := fun b o sp hb => by
        rcases hform with ⟨h1, _, _⟩ | ⟨g', h1, _⟩
        · rw [h1] at hb; cases hb
        · subst h1
          injection hb with hb; injection hb with hb _; subst hb
          exact hNw g' rfl
      have HR := Lib.hid (And.intro hRo (And.intro hAo hB))
      clear hO hRo hform hR hB hAw hNw hAo
      go_wp2
      go_ret
      exact ⟨Ao, N, co, hSl, rfl, HR.out.1, HR.out.2.1, HR.out.2.2⟩
theorem tEntries_any (T : SoT c2 w g t) (ht : Tidy c2 w) : Calls Tryz.prog 16 #[.pointer (some ⟨g, 0, none⟩)] w (RowOut kEn w (sortE t.l)) := by
  have hC := tAll_any T ht
  clear T
  go_enter Tryz.func16, Tryz.ntmps16
  go_wp2_with fail
  refine hC.mono ?_
  rintro e w2 ⟨A, n, c, hl, rfl, hR⟩
  have HR := Lib.hid hR
  clear hC hR
  go_wp2
  go_ret
  exact ⟨A, n, c, hl, rfl, HR.out⟩
end
end Go.Proofs.YtlfhkhnhcckajaaGreatDoor

/- The program's tables: Swap, whatever is given. Conditions: none beyond those typed. -/
namespace Go.Proofs.YtlfhkhnhcckajaaGreatDoor
open Go.ChangeShapes Go.WideShapes Go.ChangeAt Go.RowKit
set_option linter.unusedVariables false
set_option linter.unusedSimpArgs false
set_option maxRecDepth 100000

section
variable {P : Nat → Prop} {c2 c3 : Col} {w w' : World} {g n i : Nat} {t : TSt} {X : List Xn} {x : Xn} {s : ByteArray} {z : Int} {e old : En}
set_option maxHeartbeats 8000000 in
theorem tSwap_ok (T : SoT c2 w g t) (ht : Tidy c2 w) (hs : s.size ≤ 281474976710656) (hk : e.1.size ≤ 281474976710656) (h1 : 0 ≤ e.2.1 ∧ e.2.1 ≤ 18446744073709551615) (h2 : 0 ≤ e.2.2 ∧ e.2.2 ≤ 18446744073709551615) (hp : t.get s = (old, true)) (ho : 0 ≤ old.2.1 ∧ 0 ≤ old.2.2 ∧ old.2.1 + old.2.2 ≤ 9223372036854775808) (hal : alE t e old = 0) :
    Calls Tryz.prog 11 #[.pointer (some ⟨g, 0, none⟩), .string s, .agg (VE e)] w fun r w' => r = .returned (.tuple #[.agg (VE old), .int .i64 0]) ∧ DidST c2 w g (t.swapS s e).2 w' := by
  obtain ⟨i, hpl, hli, hsw⟩ := swap_al h2.1 hp
  rw [if_pos hal] at hsw
  have hGd : GoodT t := by obtain ⟨_, _, G, _⟩ := T; exact G
  have hGS := hGd.swapS s (e := e) h1.1 h2.1
  rw [hsw] at hGS ⊢
  have hb0 := hGd.base0
  have hbt := hGd.base_le
  have htop := hGd.top
  obtain ⟨sl', hsl'⟩ : ∃ z, (swapE t.base e).2.2 = z := ⟨_, rfl⟩
  have hmax : max e.2.2 (subV t.base e.2.1) = sl' := by
    rcases swapE_max t.base e with h | h
    · rw [h, hsl']
    · omega
  have hsE : swapE t.base e = (e.1, e.2.1, sl') := by rw [← hsl']; rfl
  obtain ⟨ce1, ce2, ce3, ce4⟩ := swapE_ct (e := e) (base := t.base) h1.1 h2.1
  have hal2 := hal
  unfold alE at hal2
  by_cases c1 : e.1.size = 0
  · rw [if_pos c1] at hal2; cases hal2
  rw [if_neg c1] at hal2
  by_cases c2x : (t.get e.1).2 = true
  · rw [if_pos c2x] at hal2; cases hal2
  rw [if_neg c2x] at hal2
  by_cases c3x : e.2.1 + e.2.2 ≤ ctE old
  case neg => rw [if_neg c3x] at hal2; cases hal2
  have hct : ctE (swapE t.base e) ≤ 9223372036854775808 := by
    rcases ce4 with h | h
    · rw [h]; unfold ctE at c3x ⊢; omega
    · rw [h]; omega
  rw [hsE] at hct ce2 hGS
  rw [hsE]
  have hkey : e.1.size ≠ 0 := c1
  have hno := c2x
  clear hal2 hsl' hsE ce1 ce3 ce4
  obtain ⟨k, o, sl⟩ := e
  obtain ⟨ko, oo, os⟩ := old
  have b0 : Below w.heap.size w (w.alloc (.cells #[.string k, .int .u64 o, .int .u64 sl] 32)) := (Below.refl _ _).alloc (Nat.le_refl _) _
  have b1 : Below w.heap.size w ((w.alloc (.cells #[.string k, .int .u64 o, .int .u64 sl] 32)).alloc (.cells #[.string ⟨#[]⟩, .int .u64 0, .int .u64 0] 32)) := b0.alloc b0.size _
  have hsz : (w.alloc (.cells #[.string k, .int .u64 o, .int .u64 sl] 32)).heap.size = w.heap.size + 1 := by simp
  have s0 : StepC (fun _ => False) c2 w c2 (w.alloc (.cells #[.string k, .int .u64 o, .int .u64 sl] 32)) := StepC.below ht b0
  have s1 := s0.trans (StepC.new s0.tidy (.cells #[.string ⟨#[]⟩, .int .u64 0, .int .u64 0] 32) 2 (fun _ => False))
  rw [hsz] at s1
  have X5 : BoxC (dye c2 (some (w.heap.size + 1)) 2) ((w.alloc (.cells #[.string k, .int .u64 o, .int .u64 sl] 32)).alloc (.cells #[.string ⟨#[]⟩, .int .u64 0, .int .u64 0] 32)) w.heap.size 0 (VE (k, o, sl)) 32 := by
    have h := BoxC.keep (P := fun _ => False) (g := w.heap.size) (c := 0) (cs := VE (k, o, sl)) (t := 32) (col := c2) (w := w.alloc (.cells #[.string k, .int .u64 o, .int .u64 sl] 32)) ⟨heap_alloc_new _ _, ht _ (Nat.le_refl _)⟩ (StepC.new s0.tidy (.cells #[.string ⟨#[]⟩, .int .u64 0, .int .u64 0] 32) 2 (fun _ => False)) (fun h => h)
    rw [hsz] at h
    exact h
  have X1 : BoxC (dye c2 (some (w.heap.size + 1)) 2) ((w.alloc (.cells #[.string k, .int .u64 o, .int .u64 sl] 32)).alloc (.cells #[.string ⟨#[]⟩, .int .u64 0, .int .u64 0] 32)) (w.heap.size + 1) 2 (VE zeroE) 32 := by
    refine ⟨?_, dye_of⟩
    rw [← hsz]
    exact heap_alloc_new _ _
  have T1 := T.keep s1 (fun _ _ h => h) (fun h => h)
  have S1 := s1.mono (P' := fun c => 16 ≤ c) (fun c hc => hc.elim)
  have t1 := s1.tidy
  have hGt := tGet_any T1 t1 hs
  rw [hp] at hGt
  obtain ⟨cA, hcA⟩ : ∃ cA, cA = dye c2 (some (w.heap.size + 1)) 2 := ⟨_, rfl⟩
  obtain ⟨W1, hW1⟩ : ∃ W, W = ((w.alloc (.cells #[.string k, .int .u64 o, .int .u64 sl] 32)).alloc (.cells #[.string ⟨#[]⟩, .int .u64 0, .int .u64 0] 32)) := ⟨_, rfl⟩
  obtain ⟨G5, hG5⟩ : ∃ G, w.heap.size = G := ⟨_, rfl⟩
  obtain ⟨G, hG⟩ : ∃ G, G5 + 1 = G := ⟨_, rfl⟩
  rw [← hcA, ← hW1] at X1 X5 S1 t1 T1
  rw [← hW1] at hGt
  rw [hG5] at X5
  rw [hG5, hG] at X1
  have hGW : w.heap.size ≤ G := by omega
  have HT := Lib.hid (And.intro T1 (And.intro t1 (And.intro S1 (And.intro X1 X5))))
  have HQ := Lib.hid (And.intro hal (And.intro hpl (And.intro hli (And.intro hp (And.intro hno (And.intro hkey (And.intro hct (And.intro ce2 hGS))))))))
  have h1' : 0 ≤ o ∧ o ≤ 18446744073709551615 := h1
  have h2' : 0 ≤ sl ∧ sl ≤ 18446744073709551615 := h2
  have ho' : 0 ≤ oo ∧ 0 ≤ os ∧ oo + os ≤ 9223372036854775808 := ho
  have hk' : k.size ≤ 281474976710656 := hk
  have hmax' : max sl (subV t.base o) = sl' := hmax
  have hGB := Lib.hid hGd
  clear b0 b1 s0 s1 hp hsz T T1 X1 X5 S1 t1 hcA hal hpl hli hno hkey hct ce2 hGS c1 c2x c3x h1 h2 ho hk hmax hsw hGd
  go_enter Tryz.func11, Tryz.ntmps11
  go_wp2_with fail
  rw [← hW1]
  clear hW1
  refine hGt.mono ?_
  rintro e w2 ⟨rfl, b2⟩
  clear hGt
  obtain ⟨T1, t1, S1, X1, X5⟩ := HT.out
  have b3 : Below W1.heap.size W1 (w2.alloc (.cells #[.string ko, .int .u64 oo, .int .u64 os] 32)) := b2.alloc b2.size _
  have s3 : StepC (fun _ => False) cA W1 cA (w2.alloc (.cells #[.string ko, .int .u64 oo, .int .u64 os] 32)) := StepC.below t1 b3
  have T3 := T1.keep s3 (fun _ _ h => h) (fun h => h)
  have X3 : BoxC cA (w2.alloc (.cells #[.string ko, .int .u64 oo, .int .u64 os] 32)) G 2 (VE zeroE) 32 := X1.keep s3 (fun h => h)
  have X6 : BoxC cA (w2.alloc (.cells #[.string ko, .int .u64 oo, .int .u64 os] 32)) G5 0 (VE (k, o, sl)) 32 := X5.keep s3 (fun h => h)
  have X8 : BoxC cA (w2.alloc (.cells #[.string ko, .int .u64 oo, .int .u64 os] 32)) w2.heap.size 0 (VE (ko, oo, os)) 32 := ⟨heap_alloc_new _ _, t1 _ b2.size⟩
  have p0 : (w2.alloc (.cells #[.string ko, .int .u64 oo, .int .u64 os] 32)).cell? ⟨G5, 0, none⟩ = some (.string k) := X6.cell 0 rfl
  have p1 : (w2.alloc (.cells #[.string ko, .int .u64 oo, .int .u64 os] 32)).cell? ⟨G5, 1, none⟩ = some (.int .u64 o) := X6.cell 1 rfl
  have p2 : (w2.alloc (.cells #[.string ko, .int .u64 oo, .int .u64 os] 32)).cell? ⟨G5, 2, none⟩ = some (.int .u64 sl) := X6.cell 2 rfl
  have q0 : (w2.alloc (.cells #[.string ko, .int .u64 oo, .int .u64 os] 32)).cell? ⟨w2.heap.size, 0, none⟩ = some (.string ko) := X8.cell 0 rfl
  have q1 : (w2.alloc (.cells #[.string ko, .int .u64 oo, .int .u64 os] 32)).cell? ⟨w2.heap.size, 1, none⟩ = some (.int .u64 oo) := X8.cell 1 rfl
  have q2 : (w2.alloc (.cells #[.string ko, .int .u64 oo, .int .u64 os] 32)).cell? ⟨w2.heap.size, 2, none⟩ = some (.int .u64 os) := X8.cell 2 rfl
  have hC := tAllows_any T3 s3.tidy (e := (k, o, sl)) (old := (ko, oo, os)) hk' h1' h2' ho'
  rw [HQ.out.1] at hC
  have t3 := s3.tidy
  have S3 := S1.trans (s3.mono (P' := fun c => 16 ≤ c) (fun c hc => hc.elim))
  obtain ⟨W3, hW3⟩ : ∃ W, W = w2.alloc (.cells #[.string ko, .int .u64 oo, .int .u64 os] 32) := ⟨_, rfl⟩
  obtain ⟨G8, hG8⟩ : ∃ G, w2.heap.size = G := ⟨_, rfl⟩
  rw [← hW3] at hC X3 X6 X8 t3 T3 S3
  rw [hG8] at X8
  have HT3 := Lib.hid (And.intro T3 (And.intro t3 (And.intro S3 (And.intro X3 (And.intro X6 X8)))))
  clear HT T1 t1 S1 X1 X5 b2 b3 s3 T3 X3 X6 X8 t3 S3
  go_wp2_with fail
  rw [← hW3]
  clear hW3 p0 p1 p2 q0 q1 q2 hG8
  refine hC.mono ?_
  rintro e w4 ⟨rfl, b4⟩
  clear hC
  obtain ⟨T3, t3, S3, X3, X6, X8⟩ := HT3.out
  have s4 : StepC (fun _ => False) cA W3 cA w4 := StepC.below t3 b4
  obtain ⟨X, hl, -, gr, gm, bE, c, m, M, E, H4, L⟩ := T3.keep s4 (fun _ _ h => h) (fun h => h)
  have X4 := X3.keep s4 (fun h => h)
  have Y4 := X6.keep s4 (fun h => h)
  have Z4 := X8.keep s4 (fun h => h)
  have S4 := S3.trans (s4.mono (P' := fun c => 16 ≤ c) (fun c hc => hc.elim))
  have y3 := H4.cb
  have p1 : w4.cell? ⟨G5, 1, none⟩ = some (.int .u64 o) := Y4.cell 1 rfl
  have hSu := fun W : World => sub_any t.base o W ⟨hb0, by omega⟩ h1'
  have HT4 := Lib.hid (And.intro H4 (And.intro L (And.intro s4.tidy (And.intro S4 (And.intro X4 (And.intro Y4 (And.intro Z4 hl)))))))
  clear HT3 T3 t3 S3 X3 X6 X8 s4 b4 H4 L X4 Y4 Z4 S4 hl
  obtain ⟨lost, hlost⟩ : ∃ z, subV t.base o = z := ⟨_, rfl⟩
  obtain ⟨lb, hlb⟩ : ∃ z, subB t.base o = z := ⟨_, rfl⟩
  simp only [hlost, hlb] at hSu hmax'
  clear hlost hlb
  go_wp2
  go_quiet ((go_at_call 34; exact Calls.quiet_of_same ((hSu _).mono fun e w' h => ⟨h.1, h.2.symm⟩)))
  obtain ⟨H4, L, t4, S4, X4, Y4, Z4, hl⟩ := HT4.out
  have b5 : Below w4.heap.size w4 (w4.drewN nq) := below_drewN (Below.refl _ _) nq
  have s5 : StepC (fun _ => False) cA w4 cA (w4.drewN nq) := StepC.below t4 b5
  have H5 := H4.keep s5 (fun _ _ h => h) (fun h => h)
  have hR := soRemove_any H5 L s5.tidy hs
  have X5 := X4.keep s5 (fun h => h)
  have Y5 := Y4.keep s5 (fun h => h)
  have Z5 := Z4.keep s5 (fun h => h)
  have S5 := S4.trans (s5.mono (P' := fun c => 16 ≤ c) (fun c hc => hc.elim))
  obtain ⟨x, hx0, hfx, hxi⟩ := place_someX L.keys (by rw [← hl]; exact HQ.out.2.1)
  have hlen : (delX X s).length < t.m := by
    have q1 := delX_len L.keys hfx
    have q2 := L.few
    omega
  have hfk : fndX (delX X s) k = none := by
    rw [fndX_del]
    by_cases h : k = s
    · rw [if_pos h]
    · rw [if_neg h]
      have hno := HQ.out.2.2.2.2.1
      rw [get_getX hl L.keys] at hno
      unfold getX at hno
      cases hq : fndX X k with
      | none => rfl
      | some y => rw [hq] at hno; exact absurd rfl hno
  have hdl : withoutE t.l i ++ [(k, o, sl')] = (delX X s).map Prod.snd ++ [(k, o, sl')] := by
    rw [hl, ← delX_at L.keys hx0, (fndX_some hfx).2]
  obtain ⟨W5, hW5⟩ : ∃ W, W = w4.drewN nq := ⟨_, rfl⟩
  rw [← hW5] at hR X5 Y5 Z5 S5
  have HT5 := Lib.hid (And.intro S5 (And.intro X5 (And.intro Y5 Z5)))
  clear HT4 H4 L t4 S4 X4 Y4 Z4 b5 s5 H5 X5 Y5 Z5 S5 hx0 hfx hxi hl y3 p1 hSu
  go_wp2_with fail
  rw [← hW5]
  clear hW5
  refine hR.mono ?_
  rintro e w6 ⟨rfl, c6, ⟨gr6, gm6, bE6, c6c, m6, M6, E6, H6, L6⟩, s6⟩
  obtain ⟨S5, X5, Y5, Z5⟩ := HT5.out
  have h16 : ¬ (16 ≤ 2) := by omega
  have h160 : ¬ (16 ≤ 0) := by omega
  have bd := (Below.refl w6.heap.size w6).drew
  have s7 : StepC (fun _ => False) c6 w6 c6 w6.drew := StepC.below s6.tidy bd
  have H7 := H6.keep s7 (fun _ _ h => h) (fun h => h)
  have X7 := (X5.keep s6 h16).keep s7 (fun h => h)
  have Y6 := Y5.keep s6 h160
  have Y7 := Y6.keep s7 (fun h => h)
  have Z7 := (Z5.keep s6 h160).keep s7 (fun h => h)
  have S7 := (S5.trans s6).trans (s7.mono (P' := fun c => 16 ≤ c) (fun c hc => hc.elim))
  have i6 : w6.cell? ⟨G5, 0, none⟩ = some (.string k) ∧ w6.cell? ⟨G5, 1, none⟩ = some (.int .u64 o) ∧ w6.cell? ⟨G5, 2, none⟩ = some (.int .u64 sl) := ⟨Y6.cell 0 rfl, Y6.cell 1 rfl, Y6.cell 2 rfl⟩
  have i7 : w6.drew.cell? ⟨G5, 0, none⟩ = some (.string k) ∧ w6.drew.cell? ⟨G5, 1, none⟩ = some (.int .u64 o) ∧ w6.drew.cell? ⟨G5, 2, none⟩ = some (.int .u64 sl) := ⟨Y7.cell 0 rfl, Y7.cell 1 rfl, Y7.cell 2 rfl⟩
  have hIn : Calls Tryz.prog 35 #[.pointer (some ⟨g, 0, none⟩), .agg #[.string k, .int .u64 o, .int .u64 sl']] w6.drew _ := soInsert_any (e := (k, o, sl')) H7 L6 s7.tidy hlen hfk ⟨by have := HQ.out.2.2.2.2.2.1; show 0 < k.size; omega, hk'⟩ h1'.1 HQ.out.2.2.2.2.2.2.2.1 HQ.out.2.2.2.2.2.2.1
  have HT7 := Lib.hid (And.intro S7 (And.intro X7 (And.intro Y7 Z7)))
  clear hR HT5 S5 X5 Y5 Z5 bd s6 s7 H6 L6 H7 X7 Y6 Y7 Z7 S7 hlen hfk
  go_wp2_with fail
  go_region_held3 (fun W => W.cell? ⟨G5, 0, none⟩ = some (.string k) ∧ W.cell? ⟨G5, 1, none⟩ = some (.int .u64 o) ∧ W.cell? ⟨G5, 2, none⟩ = some (.int .u64 sl)) (first | exact i6 | exact i7 | exact i8) ((go_at_call 35; refine hIn.mono ?_; rintro e w8 ⟨rfl, q, c8, hS8, s8⟩; have Y8 := HT7.out.2.2.1.keep s8 h160; have i8 : w8.cell? ⟨G5, 0, none⟩ = some (.string k) ∧ w8.cell? ⟨G5, 1, none⟩ = some (.int .u64 o) ∧ w8.cell? ⟨G5, 2, none⟩ = some (.int .u64 sl) := ⟨Y8.cell 0 rfl, Y8.cell 1 rfl, Y8.cell 2 rfl⟩))
  obtain ⟨S7, X7, Y7, Z7⟩ := HT7.out
  obtain ⟨gr, gm, bE, c, m, M, E, H8, L8⟩ := hS8
  have X8 := X7.keep s8 h16
  have Z8 := Z7.keep s8 h160
  have r0 : w8.cell? ⟨G8, 0, none⟩ = some (.string ko) := Z8.cell 0 rfl
  have r1 : w8.cell? ⟨G8, 1, none⟩ = some (.int .u64 oo) := Z8.cell 1 rfl
  have r2 : w8.cell? ⟨G8, 2, none⟩ = some (.int .u64 os) := Z8.cell 2 rfl
  obtain ⟨H9, S9, hX, z0, z1, z2, f0, f1, f2⟩ := H8.boxed (S7.trans s8) X8 hGW (ko, oo, os)
  have z0' : w8.cell? ⟨G, 0, none⟩ = some (.string ⟨#[]⟩) := z0
  have z1' : w8.cell? ⟨G, 1, none⟩ = some (.int .u64 0) := z1
  have z2' : w8.cell? ⟨G, 2, none⟩ = some (.int .u64 0) := z2
  have HX := Lib.hid hX
  have HD := Lib.hid (show DidST c2 w g { t with l := withoutE t.l i ++ [(k, o, sl')] } _ from ⟨c8, ⟨_, by show withoutE t.l i ++ [(k, o, sl')] = _; rw [hdl, List.map_append]; rfl, HQ.out.2.2.2.2.2.2.2.2, _, _, _, _, _, _, _, H9, L8⟩, S9⟩)
  clear hIn HT7 i6 i7 i8 Y8 s8 S7 X7 Y7 Z7 H8 L8 X8 Z8 H9 S9 hX z0 z1 z2 hdl HQ hGW hG hG5
  go_wp2
  refine bodyPost_ret (results_cell_row2 rfl _ _ G _ _ (0, 0) _ rfl HX.out Tryz.underlying32 rfl (by kernel_rfl)) rfl ?_
  exact ⟨rfl, HD.out⟩
theorem tSwap_any (T : SoT c2 w g t) (ht : Tidy c2 w) (hs : s.size ≤ 281474976710656) (hk : e.1.size ≤ 281474976710656) (h1 : 0 ≤ e.2.1 ∧ e.2.1 ≤ 18446744073709551615) (h2 : 0 ≤ e.2.2 ∧ e.2.2 ≤ 18446744073709551615) :
    Calls Tryz.prog 11 #[.pointer (some ⟨g, 0, none⟩), .string s, .agg (VE e)] w fun r w' => r = .returned (.tuple #[.agg (VE (t.swapS s e).1.1), .int .i64 (t.swapS s e).1.2]) ∧ DidST c2 w g (t.swapS s e).2 w' := by
  have hGd : GoodT t := by obtain ⟨_, _, G, _⟩ := T; exact G
  obtain ⟨⟨old, b⟩, hp⟩ : ∃ q, t.get s = q := ⟨_, rfl⟩
  cases b with
  | false =>
    have hsw : t.swapS s e = ((zeroE, 8), t) := by
      unfold TSt.get at hp
      unfold TSt.swapS
      cases h : placeE t.l s with
      | none => rfl
      | some i => rw [h] at hp; injection hp with _ hp; cases hp
    rw [hsw]
    exact tSwap_no T ht hs e hp
  | true =>
    obtain ⟨i, hpl, hli, hsw⟩ := swap_al h2.1 hp
    obtain ⟨q0, q1, q2, _⟩ := hGd.bd (List.mem_of_getElem? hli)
    by_cases hal : alE t e old = 0
    · have h := tSwap_ok T ht hs hk h1 h2 hp ⟨q0, q1, q2⟩ hal
      rw [if_pos hal] at hsw
      rw [hsw] at h ⊢
      exact h
    · rw [if_neg hal] at hsw
      rw [hsw]
      exact tSwap_ref T ht hs hk h1 h2 hp ⟨q0, q1, q2⟩ hal
end
end Go.Proofs.YtlfhkhnhcckajaaGreatDoor

/- The program's tables: what a nil table returns. Conditions: none beyond those typed. -/
namespace Go.Proofs.YtlfhkhnhcckajaaGreatDoor
open Go.ChangeShapes Go.WideShapes Go.ChangeAt Go.RowKit
set_option linter.unusedVariables false
set_option linter.unusedSimpArgs false
set_option maxRecDepth 100000

theorem snilGet (w : World) (s : ByteArray) : Calls Tryz.prog 9 #[.pointer none, .string s] w fun e w' => e = .returned (.tuple #[.agg (VE zeroE), .bool false]) ∧ Below w.heap.size w w' := by
  have HX := Lib.hid (show (w.alloc (.cells #[.string ⟨#[]⟩, .int .u64 0, .int .u64 0] 32)).heap[w.heap.size]? = some (.cells (VE zeroE) 32 (0, 0)) from heap_alloc_new w _)
  have HB := Lib.hid (show Below w.heap.size w (w.alloc (.cells #[.string ⟨#[]⟩, .int .u64 0, .int .u64 0] 32)) from (Below.refl _ _).alloc (Nat.le_refl _) _)
  go_enter Tryz.func9, Tryz.ntmps9
  go_wp2
  refine bodyPost_ret (results_cell_row2 rfl _ _ w.heap.size _ _ (0, 0) _ rfl HX.out Tryz.underlying32 rfl (by kernel_rfl)) rfl ?_
  exact ⟨rfl, HB.out⟩
theorem snilTake (w : World) (s : ByteArray) : Calls Tryz.prog 10 #[.pointer none, .string s] w fun e w' => e = .returned (.tuple #[.agg (VE zeroE), .bool false]) ∧ Below w.heap.size w w' := by
  have HX := Lib.hid (show (w.alloc (.cells #[.string ⟨#[]⟩, .int .u64 0, .int .u64 0] 32)).heap[w.heap.size]? = some (.cells (VE zeroE) 32 (0, 0)) from heap_alloc_new w _)
  have HB := Lib.hid (show Below w.heap.size w (w.alloc (.cells #[.string ⟨#[]⟩, .int .u64 0, .int .u64 0] 32)) from (Below.refl _ _).alloc (Nat.le_refl _) _)
  go_enter Tryz.func10, Tryz.ntmps10
  go_wp2
  refine bodyPost_ret (results_cell_row2 rfl _ _ w.heap.size _ _ (0, 0) _ rfl HX.out Tryz.underlying32 rfl (by kernel_rfl)) rfl ?_
  exact ⟨rfl, HB.out⟩
set_option maxHeartbeats 2000000 in
theorem snilSwap (w : World) (s : ByteArray) (e : En) : Calls Tryz.prog 11 #[.pointer none, .string s, .agg (VE e)] w fun r w' => r = .returned (.tuple #[.agg (VE zeroE), .int .i64 8]) ∧ Below w.heap.size w w' := by
  obtain ⟨k, o, sl⟩ := e
  have b0 : Below w.heap.size w (w.alloc (.cells #[.string k, .int .u64 o, .int .u64 sl] 32)) := (Below.refl _ _).alloc (Nat.le_refl _) _
  have b1 : Below w.heap.size w ((w.alloc (.cells #[.string k, .int .u64 o, .int .u64 sl] 32)).alloc (.cells #[.string ⟨#[]⟩, .int .u64 0, .int .u64 0] 32)) := b0.alloc b0.size _
  have hsz : (w.alloc (.cells #[.string k, .int .u64 o, .int .u64 sl] 32)).heap.size = w.heap.size + 1 := by simp
  have X1 : BoxC (fun _ => 0) ((w.alloc (.cells #[.string k, .int .u64 o, .int .u64 sl] 32)).alloc (.cells #[.string ⟨#[]⟩, .int .u64 0, .int .u64 0] 32)) (w.heap.size + 1) 0 (VE zeroE) 32 := by
    rw [← hsz]
    exact ⟨heap_alloc_new _ _, rfl⟩
  have t1 : Tidy (fun _ => 0) ((w.alloc (.cells #[.string k, .int .u64 o, .int .u64 sl] 32)).alloc (.cells #[.string ⟨#[]⟩, .int .u64 0, .int .u64 0] 32)) := fun _ _ => rfl
  have hGt : Calls Tryz.prog 9 #[.pointer none, .string s] ((w.alloc (.cells #[.string k, .int .u64 o, .int .u64 sl] 32)).alloc (.cells #[.string ⟨#[]⟩, .int .u64 0, .int .u64 0] 32)) fun e w' => e = .returned (.tuple #[.agg #[.string ⟨#[]⟩, .int .u64 0, .int .u64 0], .bool false]) ∧ Below ((w.alloc (.cells #[.string k, .int .u64 o, .int .u64 sl] 32)).alloc (.cells #[.string ⟨#[]⟩, .int .u64 0, .int .u64 0] 32)).heap.size ((w.alloc (.cells #[.string k, .int .u64 o, .int .u64 sl] 32)).alloc (.cells #[.string ⟨#[]⟩, .int .u64 0, .int .u64 0] 32)) w' := snilGet ((w.alloc (.cells #[.string k, .int .u64 o, .int .u64 sl] 32)).alloc (.cells #[.string ⟨#[]⟩, .int .u64 0, .int .u64 0] 32)) s
  obtain ⟨W1, hW1⟩ : ∃ W, W = ((w.alloc (.cells #[.string k, .int .u64 o, .int .u64 sl] 32)).alloc (.cells #[.string ⟨#[]⟩, .int .u64 0, .int .u64 0] 32)) := ⟨_, rfl⟩
  obtain ⟨G, hG⟩ : ∃ G, w.heap.size + 1 = G := ⟨_, rfl⟩
  rw [← hW1] at X1 t1 hGt b1
  rw [hG] at X1
  have hGW : w.heap.size ≤ G := by omega
  clear b0 hsz
  go_enter Tryz.func11, Tryz.ntmps11
  go_wp2_with fail
  rw [← hW1]
  clear hW1
  refine hGt.mono ?_
  rintro e w2 ⟨rfl, b2⟩
  have b3 : Below W1.heap.size W1 (w2.alloc (.cells #[.string ⟨#[]⟩, .int .u64 0, .int .u64 0] 32)) := b2.alloc b2.size _
  have X3 : BoxC (fun _ => 0) (w2.alloc (.cells #[.string ⟨#[]⟩, .int .u64 0, .int .u64 0] 32)) G 0 (VE zeroE) 32 := X1.keep (P := fun _ => False) (StepC.below t1 b3) (fun h => h)
  obtain ⟨hX, hB, z0, z1, z2, f0, f1, f2⟩ := boxE X3 (w0 := w) hGW (below_then b1 b3) zeroE
  have z0' : (w2.alloc (.cells #[.string ⟨#[]⟩, .int .u64 0, .int .u64 0] 32)).cell? ⟨G, 0, none⟩ = some (.string ⟨#[]⟩) := z0
  have z1' : (w2.alloc (.cells #[.string ⟨#[]⟩, .int .u64 0, .int .u64 0] 32)).cell? ⟨G, 1, none⟩ = some (.int .u64 0) := z1
  have z2' : (w2.alloc (.cells #[.string ⟨#[]⟩, .int .u64 0, .int .u64 0] 32)).cell? ⟨G, 2, none⟩ = some (.int .u64 0) := z2
  have HX := Lib.hid hX
  have HB := Lib.hid hB
  clear X1 X3 hGt b1 b2 b3 hGW hG t1 z0 z1 z2 hX hB
  go_wp2
  refine bodyPost_ret (results_cell_row2 rfl _ _ G _ _ (0, 0) _ rfl HX.out Tryz.underlying32 rfl (by kernel_rfl)) rfl ?_
  exact ⟨rfl, HB.out⟩
theorem progTn : ProgTn where
  add := fun w s x => by
    go_enter Tryz.func12, Tryz.ntmps12
    go_wp2
    go_ret
    exact ⟨rfl, Below.refl _ _⟩
  get := fun w s => (snilGet w s).mono fun e w' h => ⟨zeroE, h⟩
  take := fun w s => (snilTake w s).mono fun e w' h => ⟨zeroE, h⟩
  swap := fun w s x => (snilSwap w s x).mono fun e w' h => ⟨zeroE, h⟩
  untr := fun w => by
    go_enter Tryz.func13, Tryz.ntmps13
    go_wp2
    go_ret
    exact ⟨rfl, Below.refl _ _⟩
  total := fun w => by
    go_enter Tryz.func14, Tryz.ntmps14
    go_wp2
    go_ret
    exact ⟨rfl, Below.refl _ _⟩
  len := fun w => by
    go_enter Tryz.func15, Tryz.ntmps15
    go_wp2
    go_ret
    exact ⟨rfl, Below.refl _ _⟩
  entries := fun w => by
    go_enter Tryz.func16, Tryz.ntmps16
    go_wp2
    go_ret
    exact ⟨_, _, rfl, Below.refl _ _⟩
end Go.Proofs.YtlfhkhnhcckajaaGreatDoor

/- The program's tables (Space-Saving) keep all their contracts. Conditions: none beyond those typed. -/
namespace Go.Proofs.YtlfhkhnhcckajaaGreatDoor
open Go.ChangeShapes Go.WideShapes Go.ChangeAt Go.RowKit
set_option linter.unusedVariables false
set_option linter.unusedSimpArgs false
set_option maxRecDepth 100000

/-- The table t lies in block g, with the base colour k. -/
def PTs : RepT := fun col k w g t => 1 ≤ k ∧ ∃ c2, Fine k col c2 ∧ Tidy c2 w ∧ SoT c2 w g t
section
variable {P : Nat → Prop} {col col' c2 c2' : Col} {w w' : World} {k g : Nat} {t : TSt}
theorem PTs.keep (h : PTs col k w g t) (hs : StepC P col w col' w') (hp : ∀ c, Rng k c → ¬ P c) (h0 : ¬ P 0) : PTs col' k w' g t := by
  obtain ⟨hk, c2, F, t2, S⟩ := h
  obtain ⟨c2', F', s⟩ := F.inn hk t2 hs hp h0
  exact ⟨hk, c2', F', s.tidy, S.keep s (fun c hc => by omega) (by omega)⟩
theorem PTs.good (h : PTs col k w g t) : GoodT t := by
  obtain ⟨_, _, _, _, _, _, G, _⟩ := h
  exact G
theorem DidST.out (h : DidST c2 w g t w') (F : Fine k col c2) (hk : 1 ≤ k) (ht : Tidy col w) : DidPT PTs col k w g t w' := by
  obtain ⟨c3, S, s⟩ := h
  obtain ⟨col', F', s'⟩ := F.out hk ht s (fun c hc => by omega)
  exact ⟨col', ⟨hk, c3, F', s.tidy, S⟩, s'⟩
set_option maxHeartbeats 1000000 in
theorem tNew_any (ht : Tidy col w) (hT : TbC col w) (hk : 1 ≤ k) (n : Int) (hn : J64 n) : Calls Tryz.prog 7 #[.int .i64 n] w (NewPT PTs col k n w) := by
  have F0 := fineOf_fine hk col
  have t0 := fineOf_tidy (k := k) ht
  have T0 : TbC (fineOf k col) w := ⟨hT.tab, (F0 _).1 hT.col0⟩
  unfold J64 at hn
  by_cases h1 : n < 1
  · have HE := Lib.hid (show svE n = 1 from if_pos (by omega))
    clear F0 t0 T0 hT
    go_enter Tryz.func7, Tryz.ntmps7
    go_wp2
    go_ret2
    exact .inr ⟨HE.out, rfl, Below.refl _ _⟩
  by_cases h2 : n > 64
  · have HE := Lib.hid (show svE n = 1 from if_pos (by omega))
    clear F0 t0 T0 hT
    go_enter Tryz.func7, Tryz.ntmps7
    go_wp2
    go_ret2
    exact .inr ⟨HE.out, rfl, Below.refl _ _⟩
  obtain ⟨q, rfl⟩ : ∃ q : Nat, n = (q : Int) := ⟨n.toNat, by omega⟩
  have HE := Lib.hid (show svE (q : Int) = 0 from if_neg (by omega))
  have hq : 1 ≤ q ∧ q ≤ 64 := by omega
  have hC := soEmpty_any t0 T0 hq
  have HF := Lib.hid (And.intro F0 (And.intro ht hk))
  generalize fineOf k col = c2 at *
  clear F0 t0 T0 hT
  go_enter Tryz.func7, Tryz.ntmps7
  go_wp2_with fail
  refine hC.mono ?_
  rintro e w2 ⟨gr, gm, bE, c3, rfl, O3, R3, M3, s3⟩
  have HD := Lib.hid (show DidPT PTs col k w w2.heap.size (newT q) (w2.alloc (.cells #[.pointer (some ⟨gr, 0, none⟩), .pointer (some ⟨gm, 0, none⟩), .slice (some ⟨bE, 0, none⟩) q q, .int .u64 0, .int .u64 0] 66)) from by
    obtain ⟨F, ht, hk⟩ := HF.out
    have s4 := StepC.new s3.tidy (.cells #[.pointer (some ⟨gr, 0, none⟩), .pointer (some ⟨gm, 0, none⟩), .slice (some ⟨bE, 0, none⟩) q q, .int .u64 0, .int .u64 0] 66) 16 (fun _ => False)
    refine DidST.out ⟨_, ⟨[], rfl, newT_good hq, gr, gm, bE, q, newC Int q, newM Int q, List.replicate q zeroEl, ⟨⟨heap_alloc_new _ _, dye_of⟩, O3.keep s4 (fun h => h), R3.keep s4 (fun _ _ h => h) (fun h => h), M3.keep s4 (fun _ _ h => h) (fun h => h)⟩, LkO.new hq⟩, s3.trans (s4.mono (fun c hc => hc.elim))⟩ F hk ht)
  clear hC O3 R3 M3 s3 HF
  go_wp2
  go_ret2
  exact .inl ⟨HE.out, w2.heap.size, rfl, HD.out⟩
theorem progTh : ProgTh PTs where
  keep := PTs.keep
  good := PTs.good
  new := fun ht hT hk n hn => tNew_any ht hT hk n hn
  add := fun h ht s x hs hx => by
    obtain ⟨hk, c2, F, t2, S⟩ := h
    exact (tAdd_any S t2 hs hx).mono fun e w' h => ⟨h.1, h.2.out F hk ht⟩
  get := fun h ht s hs => by
    obtain ⟨hk, c2, F, t2, S⟩ := h
    exact tGet_any S t2 hs
  take := fun h ht s hs => by
    obtain ⟨hk, c2, F, t2, S⟩ := h
    exact (tTake_any S t2 hs).mono fun e w' h => ⟨h.1, h.2.out F hk ht⟩
  untr := fun h ht => by
    obtain ⟨hk, c2, F, t2, S⟩ := h
    exact tUntr_any S
  total := fun h ht => by
    obtain ⟨hk, c2, F, t2, S⟩ := h
    exact tTotal_any S
theorem progT : ProgT PTs where
  toProgTh := progTh
  swap := fun h ht s e hs he h1 h2 => by
    obtain ⟨hk, c2, F, t2, S⟩ := h
    exact (tSwap_any S t2 hs he h1 h2).mono fun e w' h => ⟨h.1, h.2.out F hk ht⟩
  len := fun h ht => by
    obtain ⟨hk, c2, F, t2, S⟩ := h
    exact tLen_any S
  entries := fun h ht => by
    obtain ⟨hk, c2, F, t2, S⟩ := h
    exact tEntries_any S t2
end
end Go.Proofs.YtlfhkhnhcckajaaGreatDoor

/- The table of math/bits.TrailingZeros64 out of the row's condition; the start that meets it. Conditions: none beyond those typed. -/
namespace Go.Proofs.YtlfhkhnhcckajaaGreatDoor
open Go.ChangeShapes Go.WideShapes Go.ChangeAt Go.RowKit
set_option linter.unusedVariables false
set_option linter.unusedSimpArgs false

abbrev seatLaid : List (String × DataW Unit) := [("math/bits.deBruijn64tab", Rows.laid_math_bits_deBruijn64tab)]
theorem gTab : Tryz.prog.globalNamed "math/bits.deBruijn64tab" = some 0 := by kernel_rfl
theorem gTabType : (Tryz.prog.globals[0]?).map (·.type) = some 177 := by kernel_rfl
theorem tab_of_laid {W : World} (h : laidMetH Tryz.prog seatLaid W) : Tab W := by
  rw [MakeChecks.laidMetH_plain _ _ _ (by kernel_rfl)] at h
  have h' : laidMet Tryz.prog (("math/bits.deBruijn64tab", Lib.tabData .u8 (Lib.deBruijn64tab.map fun z : Nat => (z : Int))) :: []) W := h
  have hT := Lib.tabIs_of_head gTab gTabType Tryz.underlying177 Tryz.underlying5 (by kernel_rfl) (by kernel_rfl) h'
  intro j hj
  have hl : Lib.deBruijn64tab.length = 64 := rfl
  have := hT.cell gTab j (by rw [List.length_map, hl]; exact hj)
  rw [this, List.getD_eq_getElem?_getD, List.getElem?_map, List.getD_eq_getElem?_getD, List.getElem?_eq_getElem (by rw [hl]; exact hj)]
  rfl
theorem door_met (os : Os) (args : Array Value) : laidMetH Tryz.prog seatLaid ((World.doorLaid Tryz.prog 400 os).forCall (fun _ _ => 0) ⟨#[], args, []⟩).memory :=
  laidMetH_of_parts3 (fuel := 8) (laidMet_of_run' 8 (by kernel_rfl) (by kernel_rfl)) (by kernel_rfl) (by kernel_rfl)
end Go.Proofs.YtlfhkhnhcckajaaGreatDoor

/- Words laid together in one text. Conditions: none beyond those typed. -/
import Derived.Test.YtcckfdhajbbieaaCk
import Derived.Test.YtcckfdhajbbieaaIhash
import Derived.Test.YtcckfdhajbbieaaYplace
/- The program's sketches: places, counters, the estimate by rows, what a nil sketch returns. Conditions: none beyond those typed. -/
namespace Go.Proofs.Ytcckfdhajbbieaa
open Go.ChangeShapes Go.WideShapes Go.ChangeAt Go.RowKit
set_option linter.unusedVariables false
set_option linter.unusedSimpArgs false
set_option maxRecDepth 100000

section
variable {T : List Int} {sd : Int} {TA A : Option Addr} {tn tc n c : Nat} {rows : List (List Int)} {key : ByteArray} {w : World}
theorem pslot_any (hT : RdU w TA tn tc T) (i : Int) (n : Nat) (h0 : 0 ≤ sd) (h1 : sd ≤ 18446744073709551615) (hi : -9223372036854775808 ≤ i ∧ i ≤ 9223372036854775807) (hn : n ≤ 9223372036854775807) (hk : key.size ≤ 9223372036854775807) :
    Calls Try.prog 31 #[.slice TA tn tc, .int .u64 sd, .int .i64 i, .string key, .int .i64 (n : Int)] w fun e w' => e = .returned (.int .i64 (slotP (rowP T sd i key) n)) ∧ Below w.heap.size w w' := by
  obtain ⟨p0, p1⟩ := rowP_bd T sd i key
  have hR := hrow_any TA tn tc T sd i key w hT h0 h1 hi.1 hi.2 hk
  have hS := fun W => hslot_any (rowP T sd i key) (n : Int) W p0 p1 (by omega) (by omega)
  generalize rowP T sd i key = r at *
  clear hT p0 p1
  go_enter Try.func31, Try.ntmps31
  go_wp2_with fail
  refine hR.mono ?_
  rintro e w2 ⟨rfl, hb⟩
  clear hR
  go_wp2_with fail
  refine (hS _).mono ?_
  rintro e w3 ⟨rfl, hw⟩
  subst hw
  go_wp2
  go_ret
  exact ⟨rfl, hb⟩
/-- A counter of a row, or 0. -/
theorem pcount_any {r : List Int} (hR : RdU w A n c r) (y : Nat) (hy : n ≠ 0 → y < n) :
    Calls Try.prog 36 #[.slice A n c, .int .i64 (y : Int)] w fun e w' => e = .returned (.int .u64 (r.getD y 0)) ∧ w' = w := by
  have hl := hR.len
  by_cases hn : n = 0
  · have HE := Lib.hid (show r.getD y 0 = 0 by rw [List.length_eq_zero_iff.1 (hl.trans hn)]; rfl)
    subst hn
    clear hR hl hy
    go_enter Try.func36, Try.ntmps36
    go_wp2
    go_ret
    rw [HE.out]
    exact ⟨rfl, rfl⟩
  · have g0 : ((n : Int) == 0) = false := beq_false_of_ne (by omega)
    have hyl := hy hn
    obtain ⟨b, o, z, rfl, hz, _, _, _, cz⟩ := hR.at_ hyl
    have hyI : (y : Int) < (n : Int) := by omega
    have HE := Lib.hid (show r.getD y 0 = z by rw [List.getD_eq_getElem?_getD, hz]; rfl)
    clear hR hl hy hz
    go_enter Try.func36, Try.ntmps36
    go_wp2
    go_ret
    rw [HE.out]
    exact ⟨rfl, rfl⟩
theorem est_zero {f : Nat → Nat → Nat} : ∀ {rs : List (List Int)} {i : Nat}, (∀ r ∈ rs, ∀ z ∈ r, (0 : Int) ≤ z) → estAt f i 0 rs = 0
  | [], _, _ => rfl
  | r :: rs, i, h => by
    unfold estAt
    split
    · rfl
    · have h0 : (0 : Int) ≤ r.getD (f i r.length) 0 := by
        rw [List.getD_eq_getElem?_getD]
        cases hz : r[f i r.length]? with
        | none => exact Int.le_refl _
        | some z => exact h r (by simp) z (List.mem_of_getElem? hz)
      rw [show min (0 : Int) (r.getD (f i r.length) 0) = 0 by omega]
      exact est_zero fun q hq => h q (by simp [hq])
/-- A round of the estimate, also where the row has no counters. -/
theorem est_round {f : Nat → Nat → Nat} {i : Nat} {x : Int} {r : List Int} {rs : List (List Int)} (hx : 0 ≤ x) (h : ∀ r ∈ rs, ∀ z ∈ r, (0 : Int) ≤ z) :
    estAt f i x (r :: rs) = estAt f (i + 1) (min x (r.getD (f i r.length) 0)) rs := by
  conv => lhs; unfold estAt
  split
  · rename_i hr
    rw [List.length_eq_zero_iff.1 hr, show (([] : List Int).getD (f i ([] : List Int).length) 0) = 0 from rfl, show min x 0 = 0 by omega, est_zero h]
  · rfl
theorem RdR.pos (h : RdR w A n c rows) : ∀ r ∈ rows, ∀ z ∈ r, (0 : Int) ≤ z := by
  intro r hr z hz
  obtain ⟨j, hj⟩ := List.mem_iff_getElem?.1 hr
  have hjn : j < n := by have := (List.getElem?_eq_some_iff.1 hj).1; have := h.choose_spec.2.1; omega
  obtain ⟨b, o, s, r', _, hr', _, hRd⟩ := h.at_ hjn
  obtain rfl := Option.some.inj (hj.symm.trans hr')
  exact (hRd.2.2.2.1 z hz).1
/-- The place of a key in a row, also where the row has no counters. -/
theorem slotP_at (T : List Int) (sd : Int) (k : ByteArray) (i n : Nat) : ∃ y : Nat, slotP (rowP T sd i k) (n : Int) = (y : Int) ∧ (n ≠ 0 → y < n) ∧ ixH T sd k i n = y := by
  by_cases hn : n = 0
  · subst hn
    exact ⟨0, rfl, fun h => absurd rfl h, rfl⟩
  · obtain ⟨y, hy, hl⟩ := slotP_bd (h := rowP T sd i k) (n := n) (rowP_bd T sd i k).1 (by omega)
    exact ⟨y, hy, fun _ => hl, by show (slotP _ _).toNat = y; rw [hy]; rfl⟩
set_option maxHeartbeats 2000000 in
theorem pof_any (hR : RdR w A n c rows) (hT : RdU w TA tn tc T) (h0 : 0 ≤ sd) (h1 : sd ≤ 18446744073709551615) (hk : key.size ≤ 9223372036854775807) (hc : n ≤ c ∧ c ≤ 9223372036854775807) :
    Calls Try.prog 22 #[.slice A n c, .slice TA tn tc, .int .u64 sd, .string key] w fun e w' => e = .returned (.int .u64 (estT T sd rows key)) ∧ Below w.heap.size w w' := by
  have hln := hR.choose_spec.2.1
  have htl := hT.len
  have hTm := hT.max
  have hTc := hT.cap
  have hCk := hcheck_any TA tn tc w (by omega)
  by_cases hn0 : n = 0
  · subst hn0
    have HE := Lib.hid (show estT T sd rows key = 0 from if_pos (.inl hln))
    clear hR hT hCk
    go_enter Try.func22, Try.ntmps22
    go_wp2
    go_ret
    rw [HE.out]
    exact ⟨rfl, Below.refl _ _⟩
  have g0 : ((n : Int) == 0) = false := beq_false_of_ne (by omega)
  by_cases h16 : tn = 16
  · have HE := Lib.hid (show estT T sd rows key = estAt (ixH T sd key) 0 topU rows from if_neg (by omega))
    subst h16
    have e1 : tabE 16 = 0 := if_pos rfl
    rw [e1] at hCk
    have HP := Lib.hid hR.pos
    have HR := Lib.hid (And.intro hR hT)
    obtain ⟨ev, hev⟩ : ∃ ev, estAt (ixH T sd key) 0 topU rows = ev := ⟨_, rfl⟩
    rw [hev] at HE
    have HV := Lib.hid hev
    clear hR hT hev
    go_enter Try.func22, Try.ntmps22
    go_wp2_with fail
    refine hCk.mono ?_
    rintro e w2 ⟨rfl, hw⟩
    subst hw
    clear hCk
    go_wp2
    go_loopw [9, 22] (fun v iv wr => ∃ (k : Nat) (x : Int), k ≤ n ∧ iv = .int .i64 (k : Int) ∧ v = .int .u64 x ∧ 0 ≤ x ∧ x ≤ 18446744073709551615 ∧ ev = estAt (ixH T sd key) k x (rows.drop k) ∧ Below w.heap.size w wr) (fun _ iv _ => n - (intOf iv).toNat)
    case atStart => exact ⟨0, topU, Nat.zero_le _, rfl, rfl, by decide, by decide, HV.out.symm, Below.refl _ _⟩
    case round =>
      obtain ⟨k, x, hkn, rfl, rfl, hx0, hx1, hE, hb⟩ := hrel
      by_cases hlt : k < n
      · have hkI : (k : Int) < (n : Int) := by omega
        obtain ⟨b, o, ⟨SA, sn, sc⟩, r, rfl, hr, cS, hRd⟩ := (HR.out.1.below hb).at_ hlt
        have cS' : wr.cell? ⟨b, o + k, none⟩ = some (.slice SA sn sc) := cS
        have hRd' : RdU wr SA sn sc r := hRd
        have hdr : rows.drop k = r :: rows.drop (k + 1) := by
          obtain ⟨hkl, hke⟩ := List.getElem?_eq_some_iff.1 hr
          rw [List.drop_eq_getElem_cons hkl, hke]
        rw [hdr, est_round hx0 (fun q hq => HP.out q (List.mem_of_mem_drop hq))] at hE
        have hrl := hRd'.len
        have hcap := hRd'.cap
        have hmax := hRd'.max
        obtain ⟨y, hy, hyl, hyx⟩ := slotP_at T sd key k sn
        rw [hrl, hyx] at hE
        have hSl := pslot_any (key := key) (HR.out.2.below hb) (k : Int) sn h0 h1 (by omega) (by omega) hk
        rw [hy] at hSl
        have hCn := fun W (hB : Below wr.heap.size wr W) => pcount_any (w := W) (hRd'.below hB) y hyl
        obtain ⟨z, hz⟩ : ∃ z, r.getD y 0 = z := ⟨_, rfl⟩
        have hz01 : 0 ≤ z ∧ z ≤ 18446744073709551615 := by
          rw [← hz, List.getD_eq_getElem?_getD]
          cases hq : r[y]? with
          | none => exact ⟨Int.le_refl _, by show (0 : Int) ≤ _; decide⟩
          | some q => exact hRd'.2.2.2.1 q (List.mem_of_getElem? hq)
        rw [hz] at hE
        simp only [hz] at hCn
        obtain ⟨mn, hmn⟩ : ∃ mn, min x z = mn := ⟨_, rfl⟩
        have hm01 : 0 ≤ mn ∧ mn ≤ 18446744073709551615 := by omega
        rw [hmn] at hE
        have hE2 := Lib.hid hE
        have HB := Lib.hid hb
        clear hRd hRd' hE hdr hr hrl hz hy hb cS hyl hyx
        go_wp2_with fail
        refine hSl.mono ?_
        rintro e w5 ⟨rfl, h5⟩
        have hCn5 := hCn w5 h5
        have HB5 := Lib.hid (below_then HB.out h5)
        clear hSl h5 cS' hCn
        go_wp2_with fail
        refine hCn5.mono ?_
        rintro e w6 ⟨rfl, hw6⟩
        subst hw6
        clear hCn5
        go_wp2
        go_roundw
        case rel => exact ⟨k + 1, mn, by omega, by go_num, rfl, hm01.1, hm01.2, hE2.out, HB5.out⟩
        case measure => (simp [intOf] <;> omega)
      · have hkI : ¬ (k : Int) < (n : Int) := by omega
        have HE2 := Lib.hid (show ev = x by
          rw [hE, List.drop_of_length_le (by omega)]; rfl)
        have HB := Lib.hid hb
        clear hE hb
        go_wp2
        go_ret
        rw [HE.out, HE2.out]
        exact ⟨rfl, HB.out⟩
  · have HE := Lib.hid (show estT T sd rows key = 0 from if_pos (.inr (by omega)))
    have e1 : tabE tn = 11 := if_neg h16
    rw [e1] at hCk
    clear hR hT
    go_enter Try.func22, Try.ntmps22
    go_wp2_with fail
    refine hCk.mono ?_
    rintro e w2 ⟨rfl, hw⟩
    subst hw
    go_wp2
    go_ret
    rw [HE.out]
    exact ⟨rfl, Below.refl _ _⟩
end
theorem progSo : ProgSo := ⟨fun key w hR hT hs hk hc => pof_any hR hT hs.1 hs.2 (by omega) hc⟩
theorem knilAdd (w : World) (s : ByteArray) (x : Int) : Calls Try.prog 14 #[.pointer none, .string s, .int .u64 x] w fun e w' => e = .returned (.int .i64 8) ∧ Below w.heap.size w w' := by
  go_enter Try.func14, Try.ntmps14
  go_wp2
  go_ret
  exact ⟨rfl, Below.refl _ _⟩
theorem knilEst (w : World) (s : ByteArray) : Calls Try.prog 15 #[.pointer none, .string s] w fun e w' => e = .returned (.int .u64 0) ∧ Below w.heap.size w w' := by
  go_enter Try.func15, Try.ntmps15
  go_wp2
  go_ret
  exact ⟨rfl, Below.refl _ _⟩
theorem knilTotal (w : World) : Calls Try.prog 16 #[.pointer none] w fun e w' => e = .returned (.int .u64 0) ∧ Below w.heap.size w w' := by
  go_enter Try.func16, Try.ntmps16
  go_wp2
  go_ret
  exact ⟨rfl, Below.refl _ _⟩
theorem knilRows (w : World) : Calls Try.prog 17 #[.pointer none] w fun e w' => ∃ A c, e = .returned (.slice A 0 c) ∧ Below w.heap.size w w' := by
  go_enter Try.func17, Try.ntmps17
  go_wp2
  go_ret
  exact ⟨_, _, rfl, Below.refl _ _⟩
theorem progSn : ProgSn := ⟨knilAdd, knilEst, knilTotal, knilRows⟩
end Go.Proofs.Ytcckfdhajbbieaa

/- The program's sketches (an array of slices in the struct): what they are, the rows in use, Estimate, Total. Conditions: none beyond those typed. -/
namespace Go.Proofs.Ytcckfdhajbbieaa
open Go.ChangeShapes Go.WideShapes Go.ChangeAt Go.RowKit
set_option linter.unusedVariables false
set_option linter.unusedSimpArgs false
set_option maxRecDepth 100000

/-- What stands in place j of the array of rows. -/
def rowV (n : Nat) (bs : List Nat) (j : Nat) : Value := match bs[j]? with
  | some b => .slice (some ⟨b, 0, none⟩) n n
  | none => .slice none 0 0
def boxV (n d : Nat) (bs : List Nat) (TA : Option Addr) (tc : Nat) (sd sum : Int) : Array Value := #[rowV n bs 0, rowV n bs 1, rowV n bs 2, rowV n bs 3, .int .i64 (d : Int), .slice TA 16 tc, .int .u64 sd, .int .u64 sum]
theorem boxV_row {n d : Nat} {bs : List Nat} {TA : Option Addr} {tc : Nat} {sd sum : Int} {j : Nat} (hj : j < 4) : (boxV n d bs TA tc sd sum)[j]? = some (rowV n bs j) := by
  match j, hj with
  | 0, _ => rfl
  | 1, _ => rfl
  | 2, _ => rfl
  | 3, _ => rfl
/-- Words in a block that nobody writes again. -/
structure TabC (col : Col) (w : World) (TA : Option Addr) (tc : Nat) (T : List Int) : Prop where
  rd : RdU w TA 16 tc T
  c0 : ∀ b o sp, TA = some ⟨b, o, sp⟩ → col b = 0
theorem TabC.keep {P : Nat → Prop} {col col' : Col} {w w' : World} {TA : Option Addr} {tc : Nat} {T : List Int} (h : TabC col w TA tc T) (hs : StepC P col w col' w') (h0 : ¬ P 0) : TabC col' w' TA tc T := by
  obtain ⟨b, o, z, hA, _, _, _, hb, _⟩ := h.rd.at_ (k := 0) (by omega)
  refine ⟨⟨h.rd.1, h.rd.2.1, h.rd.2.2.1, h.rd.2.2.2.1, fun j z hz => ?_⟩, fun b' o' sp e => ?_⟩
  · obtain ⟨b', o', hA', hc⟩ := h.rd.2.2.2.2 j z hz
    exact ⟨b', o', hA', hs.cell hc (by show ¬ P (col b'); rw [h.c0 _ _ _ hA']; exact h0)⟩
  · rw [hA] at e
    injection e with e; injection e with e1 e2 e3; subst e1
    exact (hs.kept b hb).trans (h.c0 _ _ _ hA)
structure SpB (col : Col) (w : World) (k g n d : Nat) (TA : Option Addr) (tc : Nat) (bs : List Nat) (T : List Int) (sd : Int) (rows : List (List Int)) (sum : Int) : Prop where
  k1 : 1 ≤ k
  dd : d ≤ 4
  top : rows.length ≤ d
  sdb : 0 ≤ sd ∧ sd ≤ 18446744073709551615
  box : BoxC col w g k (boxV n d bs TA tc sd sum) 64
  tab : TabC col w TA tc T
  grid : Grid col w (k + 3) n bs rows
/-- The sketch s with the words T and a seed lies in block g. -/
def PSk : RepSk := fun col k w g T sd s => ∃ n d TA tc bs, GoodK n s ∧ n ≤ 256 ∧ s.rows.length = d ∧ SpB col w k g n d TA tc bs T sd s.rows s.sum
section
variable {P : Nat → Prop} {col col' : Col} {w w' : World} {k g n d tc : Nat} {TA : Option Addr} {bs : List Nat} {T : List Int} {sd sum x : Int} {rows : List (List Int)} {s : KSt} {key : ByteArray}
theorem SpB.keep (h : SpB col w k g n d TA tc bs T sd rows sum) (hs : StepC P col w col' w') (hp : ∀ c, Rng k c → ¬ P c) (h0 : ¬ P 0) : SpB col' w' k g n d TA tc bs T sd rows sum :=
  ⟨h.k1, h.dd, h.top, h.sdb, h.box.keep hs (hp _ (by unfold Rng; omega)), h.tab.keep hs h0, h.grid.keep hs (fun c h1 h2 => hp _ (by have := h.top; have := h.dd; unfold Rng; omega))⟩
theorem SpB.below (h : SpB col w k g n d TA tc bs T sd rows sum) (ht : Tidy col w) (hb : Below w.heap.size w w') : SpB col w' k g n d TA tc bs T sd rows sum := h.keep (P := fun _ => False) (StepC.below ht hb) (fun _ _ h => h) (fun h => h)
theorem SpB.rdT (h : SpB col w k g n d TA tc bs T sd rows sum) : RdU w TA 16 tc T := h.tab.rd
/-- The array's head reads as the rows. -/
theorem SpB.rdG (h : SpB col w k g n d TA tc bs T sd rows sum) (hd : rows.length = d) : RdG kSl w (some ⟨g, 0, none⟩) d 4 (slB n bs) := by
  have hl := h.grid.len
  refine ⟨by simp [slB]; omega, h.dd, by simp [maxLen], fun j a ha => ⟨g, 0, rfl, fun i u hu => ?_⟩⟩
  have hi : i < 1 := (List.getElem?_eq_some_iff.1 hu).1
  obtain rfl : i = 0 := by omega
  have hj : j < bs.length := by have := (List.getElem?_eq_some_iff.1 ha).1; simpa [slB] using this
  have hj4 : j < 4 := by have := h.dd; omega
  have hu' : Value.slice a.1 a.2.1 a.2.2 = u := by injection hu
  have e : rowV n bs j = .slice a.1 a.2.1 a.2.2 := by
    unfold slB at ha
    rw [List.getElem?_map] at ha
    unfold rowV
    cases hb : bs[j]? with
    | none => rw [hb] at ha; cases ha
    | some b => rw [hb] at ha; injection ha with ha; subst ha; rfl
  rw [show kSl.k = 1 from rfl, Nat.mul_one, Nat.add_zero, Nat.zero_add, ← hu', ← e]
  exact h.box.cell j (boxV_row hj4)
theorem SpB.rdR (h : SpB col w k g n d TA tc bs T sd rows sum) (hd : rows.length = d) : RdR w (some ⟨g, 0, none⟩) d 4 rows := h.grid.rdR (h.rdG hd)
/-- The rows that have counters. -/
theorem pused_any (hd : d ≤ 4) (x4 : w.cell? ⟨g, 4, none⟩ = some (.int .i64 (d : Int))) :
    Calls Try.prog 30 #[.pointer (some ⟨g, 0, none⟩)] w fun e w' => e = .returned (.slice (some ⟨g, 0, none⟩) d 4) ∧ ∃ j, w' = w.drewN j := by
  have hd4 : (d : Int) ≤ 4 := by omega
  go_enter Try.func30, Try.ntmps30
  go_wp2
  go_quiet (fail)
  go_wp2
  go_ret
  exact ⟨rfl, _, rfl⟩
set_option maxHeartbeats 1000000 in
theorem SpB.est' (h : SpB col w k g n d TA tc bs T sd rows sum) (hd : rows.length = d) (h1 : 1 ≤ rows.length) (hk : key.size ≤ 9223372036854775807) :
    Calls Try.prog 15 #[.pointer (some ⟨g, 0, none⟩), .string key] w fun e w' => e = .returned (.int .u64 (estK (ixH T sd) rows key)) ∧ Below w.heap.size w w' := by
  have x4 : w.cell? ⟨g, 4, none⟩ = some (.int .i64 (d : Int)) := h.box.cell 4 rfl
  have x5 : w.cell? ⟨g, 5, none⟩ = some (.slice TA 16 tc) := h.box.cell 5 rfl
  have x6 : w.cell? ⟨g, 6, none⟩ = some (.int .u64 sd) := h.box.cell 6 rfl
  have hE : estT T sd rows key = estK (ixH T sd) rows key := by
    unfold estT estK
    have := h.rdT.len
    rw [if_neg (by omega), if_neg (by omega)]
  have hC := fun W hR hT => pof_any (w := W) (A := some ⟨g, 0, none⟩) (n := d) (c := 4) (TA := TA) (tn := 16) (tc := tc) (T := T) (sd := sd) (rows := rows) (key := key) hR hT h.sdb.1 h.sdb.2 hk (by have := h.dd; omega)
  have hU := fun W (hB : Below w.heap.size w W) => pused_any (w := W) (g := g) h.dd (cellB x4 hB).1
  simp only [hE] at hC
  obtain ⟨v, hv⟩ : ∃ v, estK (ixH T sd) rows key = v := ⟨_, rfl⟩
  rw [hv]
  simp only [hv] at hC
  have HH := Lib.hid (And.intro (h.rdR hd) h.rdT)
  clear hE hv h
  go_enter Try.func15, Try.ntmps15
  go_wp2
  go_region_held3 (fun W => W.cell? ⟨g, 5, none⟩ = some (.slice TA 16 tc) ∧ W.cell? ⟨g, 6, none⟩ = some (.int .u64 sd)) (first | exact ⟨x5, x6⟩ | exact ⟨(cellB x5 b5).1, (cellB x6 b5).1⟩ | exact ⟨(cellB x5 b6).1, (cellB x6 b6).1⟩) (first | (go_at_call 30; refine (hU _ (bdM w)).mono ?_; rintro e w5 ⟨rfl, j5, hw5⟩; have b5 : Below w.heap.size w w5 := (by rw [hw5]; exact below_drewN (bdM w) j5); clear hw5) | (go_at_call 22; refine (hC _ (HH.out.1.below b5) (HH.out.2.below b5)).mono ?_; rintro e w6 ⟨rfl, h6⟩; have b6 := below_then b5 h6))
  all_goals
    have hb := b6
    go_wp2
    go_ret
    exact ⟨rfl, hb⟩
theorem SpB.total' (h : SpB col w k g n d TA tc bs T sd rows sum) : Calls Try.prog 16 #[.pointer (some ⟨g, 0, none⟩)] w fun e w' => e = .returned (.int .u64 sum) ∧ Below w.heap.size w w' := by
  have x7 : w.cell? ⟨g, 7, none⟩ = some (.int .u64 sum) := h.box.cell 7 rfl
  clear h
  go_enter Try.func16, Try.ntmps16
  go_wp2
  go_ret
  exact ⟨rfl, Below.refl _ _⟩
end
end Go.Proofs.Ytcckfdhajbbieaa

/- The program's sketches: Add. Conditions: none beyond those typed. -/
namespace Go.Proofs.Ytcckfdhajbbieaa
open Go.ChangeShapes Go.WideShapes Go.ChangeAt Go.RowKit
set_option linter.unusedVariables false
set_option linter.unusedSimpArgs false
set_option maxRecDepth 100000

section
variable {P : Nat → Prop} {col col' : Col} {w w' : World} {k g n d tc : Nat} {TA : Option Addr} {bs : List Nat} {T : List Int} {sd sum : Int} {rows : List (List Int)} {s : KSt} {key : ByteArray} {x : Int}
/-- The sum is set. -/
theorem SpB.setSum (h : SpB col w k g n d TA tc bs T sd rows sum) (ht : Tidy col w) (y : Int) :
    SpB col (w.setCell ⟨g, 7, none⟩ (.int .u64 y)) k g n d TA tc bs T sd rows y ∧ StepC (Rng k) col w col (w.setCell ⟨g, 7, none⟩ (.int .u64 y)) := by
  have s := StepC.set (P := fun c => c = k) (a := ⟨g, 7, none⟩) ht h.box.col (.int .u64 y)
  refine ⟨⟨h.k1, h.dd, h.top, h.sdb, h.box.put 7 _, h.tab.keep s (by have := h.k1; omega), h.grid.keep s (fun c h1 h2 e => by omega)⟩, s.mono fun c e => by unfold Rng; omega⟩
/-- A counter is set. -/
theorem SpB.put {i j b : Nat} {r : List Int} {v : Int} (h : SpB col w k g n d TA tc bs T sd rows sum) (ht : Tidy col w) (hb : bs[j]? = some b) (hr : rows[j]? = some r) (hi : i < n) (hv : 0 ≤ v ∧ v ≤ 18446744073709551615) :
    SpB col (w.setCell ⟨b, i, none⟩ (.int .u64 v)) k g n d TA tc bs T sd (rows.set j (r.set i v)) sum ∧ StepC (Rng k) col w col (w.setCell ⟨b, i, none⟩ (.int .u64 v)) := by
  obtain ⟨G, s⟩ := h.grid.put ht hb hr hi hv
  have hj := (List.getElem?_eq_some_iff.1 hr).1
  have h4 := h.top
  have h5 := h.dd
  refine ⟨⟨h.k1, h.dd, by rw [List.length_set]; exact h.top, h.sdb, h.box.keep s (by omega), h.tab.keep s (by have := h.k1; omega), G⟩, s.mono fun c e => by unfold Rng; omega⟩
set_option maxHeartbeats 4000000 in
theorem pAdd (H : PSk col k w g T sd s) (ht : Tidy col w) (key : ByteArray) (x : Int) (hk : key.size ≤ 9223372036854775807) (hx : 0 ≤ x ∧ x ≤ 18446744073709551615) :
    Calls Try.prog 14 #[.pointer (some ⟨g, 0, none⟩), .string key, .int .u64 x] w fun e w' => e = .returned (.int .i64 (s.add (ixH T sd) key x).1) ∧ DidPsk PSk col k w g T sd (s.add (ixH T sd) key x).2 w' := by
  have HD0 := Lib.hid (show DidPsk PSk col k w g T sd s w from ⟨col, H, StepC.refl ht⟩)
  obtain ⟨n, d, TA, tc, bs, hG, hn6, hd, HB⟩ := H
  have hs0 := hG.sum0
  have hst := hG.top
  by_cases c1 : key.size = 0
  · have hb : key.toList.isEmpty = true := (ba_empty c1).1
    have e1 : s.add (ixH T sd) key x = (3, s) := by unfold KSt.add; rw [if_pos c1]
    rw [e1]
    clear HB hG c1
    go_enter Try.func14, Try.ntmps14
    go_wp2
    go_ret
    exact ⟨rfl, HD0.out⟩
  have hb : key.toList.isEmpty = false := ba_some (by omega)
  by_cases c2 : x = 0
  · have hb2 : (x == 0) = true := beq_iff_eq.2 c2
    have e1 : s.add (ixH T sd) key x = (1, s) := by unfold KSt.add; rw [if_neg c1, if_pos c2]
    rw [e1]
    clear HB hG c1 c2
    go_enter Try.func14, Try.ntmps14
    go_wp2
    go_ret
    exact ⟨rfl, HD0.out⟩
  have hb2 : (x == 0) = false := beq_false_of_ne c2
  have hF := fits_any s.sum x w ⟨hs0, by omega⟩ hx
  have x3 : w.cell? ⟨g, 7, none⟩ = some (.int .u64 s.sum) := HB.box.cell 7 rfl
  cases hf : fitsB s.sum x with
  | false =>
    rw [hf] at hF
    have e1 : s.add (ixH T sd) key x = (12, s) := by unfold KSt.add; rw [if_neg c1, if_neg c2, if_pos hf]
    rw [e1]
    clear HB hG c1 c2
    go_enter Try.func14, Try.ntmps14
    go_wp2_with fail
    refine hF.mono ?_
    rintro e w1 ⟨rfl, hw⟩
    subst hw
    go_wp2
    go_ret
    exact ⟨rfl, HD0.out⟩
  | true =>
    rw [hf] at hF
    have hfl := fits_le hf
    have hGA := hG.add (ix := ixH T sd) key hx.1
    obtain ⟨ev0, ev1⟩ := hG.est_bd (ix := ixH T sd) key
    rw [add_okK c1 c2 hf] at hGA ⊢
    obtain ⟨v, hv⟩ : ∃ v, estK (ixH T sd) s.rows key = v := ⟨_, rfl⟩
    rw [hv] at hGA ev0 ev1 ⊢
    have hsw : IntKind.u64.wrap (s.sum + x) = s.sum + x := IntWalk.u64_in _ ⟨by omega, by omega⟩
    have hvw : IntKind.u64.wrap (v + x) = v + x := IntWalk.u64_in _ ⟨by omega, by omega⟩
    obtain ⟨y, hy⟩ : ∃ y, s.sum + x = y := ⟨_, rfl⟩
    obtain ⟨z, hz⟩ : ∃ z, v + x = z := ⟨_, rfl⟩
    have hz01 : 0 ≤ z ∧ z ≤ 18446744073709551615 := by omega
    rw [hy] at hsw hGA ⊢
    rw [hz] at hvw hGA ⊢
    have hE := HB.est' (key := key) hd hG.ne hk
    rw [hv] at hE
    have hdd := HB.dd
    have hd4 : (d : Int) ≤ 4 := by omega
    have hn1 := hG.n1
    have hrn := hG.len
    have HG := Lib.hid hGA
    have HBB := Lib.hid HB
    have HT0 := Lib.hid ht
    clear HB hG c1 c2 hf hGA hfl hv ht
    go_enter Try.func14, Try.ntmps14
    go_wp2_with fail
    refine hF.mono ?_
    rintro e w1 ⟨rfl, hw⟩
    subst hw
    clear hF
    go_wp2_with fail
    refine hE.mono ?_
    rintro e w2 ⟨rfl, hbE⟩
    have H2 := HBB.out.below HT0.out hbE
    have S2 := StepC.below (P := Rng k) HT0.out hbE
    have z4 : w2.cell? ⟨g, 4, none⟩ = some (.int .i64 (d : Int)) := H2.box.cell 4 rfl
    have hUs := pused_any (w := w2) (g := g) (by omega) z4
    clear hE x3 hbE z4
    go_wp2_with fail
    refine hUs.mono ?_
    rintro e w3 ⟨rfl, j3, hw3⟩
    clear hUs
    have H3 : SpB col w3 k g n d TA tc bs T sd s.rows s.sum := by rw [hw3]; exact H2.below S2.tidy (below_drewN (Below.refl _ _) _)
    have S3 : StepC (Rng k) col w col w3 := by rw [hw3]; exact S2.trans (StepC.below (P := Rng k) S2.tidy (below_drewN (Below.refl _ _) _))
    clear H2 S2 hw3
    go_wp2
    go_loopw [36] (fun iv wr => ∃ i : Nat, i ≤ d ∧ iv = .int .i64 (i : Int) ∧ SpB col wr k g n d TA tc bs T sd (midK (ixH T sd key) z s.rows i) s.sum ∧ StepC (Rng k) col w col wr) (fun iv _ => d - (intOf iv).toNat)
    case atStart => exact ⟨0, Nat.zero_le _, rfl, H3, S3⟩
    case round =>
      clear H3 S3
      obtain ⟨i, hi, rfl, R, S⟩ := hrel
      by_cases hlt : i < d
      · have hiI : (i : Int) < (d : Int) := by omega
        obtain ⟨r, hr⟩ : ∃ r, s.rows[i]? = some r := ⟨_, List.getElem?_eq_getElem (by omega)⟩
        obtain ⟨hmi, hms⟩ := midK_step (f := ixH T sd key) (m := z) hr
        obtain ⟨b, hb, hO, hRd⟩ := R.grid.at_ hmi
        have hi4 : i < 4 := by omega
        have cA : wr.cell? ⟨g, i, none⟩ = some (.slice (some ⟨b, 0, none⟩) n n) := by
          have := R.box.cell i (boxV_row hi4)
          rw [this]
          unfold rowV
          rw [hb]
        have x1 : wr.cell? ⟨g, 5, none⟩ = some (.slice TA 16 tc) := R.box.cell 5 rfl
        have x2 : wr.cell? ⟨g, 6, none⟩ = some (.int .u64 sd) := R.box.cell 6 rfl
        obtain ⟨p0, p1⟩ := rowP_bd T sd (i : Int) key
        obtain ⟨q, hq, hql⟩ := slotP_bd (h := rowP T sd (i : Int) key) (n := n) p0 hn1
        have hnmx : n ≤ 9223372036854775807 := by have := hRd.max; omega
        have hSl := fun W (hT : RdU W TA 16 tc T) => pslot_any (w := W) (key := key) hT (i : Int) n R.sdb.1 R.sdb.2 (by omega) (by omega) hk
        simp only [hq] at hSl
        obtain ⟨a, ha⟩ : ∃ a, r[q]? = some a := ⟨_, List.getElem?_eq_getElem (by rw [hRd.len]; exact hql)⟩
        obtain ⟨b2, o2, a2, hbb, ha2, a0, a1, _, ca⟩ := hRd.at_ hql
        injection hbb with hbb; injection hbb with hb2 ho2; subst hb2; subst ho2
        obtain rfl := Option.some.inj (ha.symm.trans ha2)
        have hix : ixH T sd key i n = q := by show (slotP _ _).toNat = q; rw [hq]; rfl
        obtain ⟨mx, hmx⟩ : ∃ mx, max a z = mx := ⟨_, rfl⟩
        have hmx01 : 0 ≤ mx ∧ mx ≤ 18446744073709551615 := by omega
        have hms' : midK (ixH T sd key) z s.rows (i + 1) = (midK (ixH T sd key) z s.rows i).set i (r.set q mx) := by
          rw [hms, hRd.len, hix]
          have : r.getD q 0 = a := by rw [List.getD_eq_getElem?_getD, ha]; rfl
          rw [this, hmx]
        have HT := Lib.hid R.rdT
        have HR := Lib.hid (fun (W : World) (hB : Below wr.heap.size wr W) => show SpB col (W.setCell ⟨b, q, none⟩ (.int .u64 mx)) k g n d TA tc bs T sd (midK (ixH T sd key) z s.rows (i + 1)) s.sum ∧ StepC (Rng k) col w col (W.setCell ⟨b, q, none⟩ (.int .u64 mx)) from by
          obtain ⟨g1, g2⟩ := (R.below S.tidy hB).put (S.tidy.size hB.size) hb hmi hql hmx01
          rw [hms']
          exact ⟨g1, (S.trans (StepC.below S.tidy hB)).trans g2⟩)
        have hqI : (q : Int) < (n : Int) := by omega
        have fz : wr.frozen? ⟨b, q, none⟩ = false := hO.own.free q
        have hbl : b < wr.heap.size := hO.own.lt b rfl
        have HM := Lib.hid hmx
        have HW := Lib.hid (And.intro cA (And.intro ca fz))
        clear R S hr hmi hms hms' hb hO hRd ha ha2 hix hmx01 hmx
        go_wp2
        go_region_held3 (fun W => W.cell? ⟨g, 5, none⟩ = some (.slice TA 16 tc) ∧ W.cell? ⟨g, 6, none⟩ = some (.int .u64 sd)) (first | exact ⟨x1, x2⟩ | exact ⟨(cellB x1 b5).1, (cellB x2 b5).1⟩) ((go_at_call 31; refine (hSl _ (HT.out.drewN 1)).mono ?_; rintro e w5 ⟨rfl, h5⟩; have b5 := below_then (bdM wr) h5))
        all_goals
          have fz2 : w5.frozen? ⟨b, q, none⟩ = false := (b5.frozen (p := ⟨b, q, none⟩) hbl).trans HW.out.2.2
          have ca2 : w5.cell? ⟨b, q, none⟩ = some (.int .u64 a) := by have := (cellB HW.out.2.1 b5).1; simpa using this
          have HR2 := Lib.hid (HR.out _ b5)
          clear b5 h5 x1 x2 cA hSl
          go_wp2
          go_roundw
          case rel => exact ⟨i + 1, by omega, by go_num, by rw [HM.out]; exact HR2.out.1, by rw [HM.out]; exact HR2.out.2⟩
          case measure => (simp [intOf] <;> omega)
      · have hiI : ¬ (i : Int) < (d : Int) := by omega
        obtain rfl : i = d := by omega
        rw [midK_all (by omega)] at R
        have x7 : wr.cell? ⟨g, 7, none⟩ = some (.int .u64 s.sum) := R.box.cell 7 rfl
        have f7 : wr.frozen? ⟨g, 7, none⟩ = false := R.box.free 7
        obtain ⟨R9, S9⟩ := R.setSum S.tidy y
        have HE := Lib.hid (show DidPsk PSk col k w g T sd ⟨putAt (ixH T sd key) z 0 s.rows, y⟩ (wr.setCell ⟨g, 7, none⟩ (.int .u64 y)) from ⟨col, ⟨n, i, TA, tc, bs, HG.out, hn6, by show (putAt _ _ _ _).length = i; rw [put_len]; exact hd, R9⟩, S.trans S9⟩)
        clear R S R9 S9
        go_wp2
        go_ret
        exact ⟨rfl, HE.out⟩
end
end Go.Proofs.Ytcckfdhajbbieaa

/- The program's sketches: New. Conditions: none beyond those typed. -/
namespace Go.Proofs.Ytcckfdhajbbieaa
open Go.ChangeShapes Go.WideShapes Go.ChangeAt Go.RowKit
set_option linter.unusedVariables false
set_option linter.unusedSimpArgs false
set_option maxRecDepth 100000

theorem boxV_set {n d b : Nat} {TA : Option Addr} {tc : Nat} {sd sum : Int} : ∀ {bs : List Nat}, bs.length < 4 → (boxV n d bs TA tc sd sum).setIfInBounds bs.length (.slice (some ⟨b, 0, none⟩) n n) = boxV n d (bs ++ [b]) TA tc sd sum
  | [], _ => rfl
  | [_], _ => rfl
  | [_, _], _ => rfl
  | [_, _, _], _ => rfl
  | _ :: _ :: _ :: _ :: _, h => absurd h (by simp)
section
variable {P : Nat → Prop} {col col' : Col} {w w' : World} {k g n d tc tn : Nat} {TA : Option Addr} {bs : List Nat} {T : List Int} {sd sum : Int} {rows : List (List Int)} {r : List Int}
theorem SpB.more (R : SpB col w k g n d TA tc bs T sd rows sum) (ht : Tidy col w) (hi : rows.length < d) {CS : Array Value}
    (hO : OwnK kU (w.alloc (.cells CS 34)) (.slice (some ⟨w.heap.size, 0, none⟩) n n) r) (hr : ∀ z ∈ r, 0 ≤ z ∧ z ≤ 18446744073709551615) :
    ∃ col', SpB col' ((w.alloc (.cells CS 34)).setCell ⟨g, rows.length, none⟩ (.slice (some ⟨w.heap.size, 0, none⟩) n n)) k g n d TA tc (bs ++ [w.heap.size]) T sd (rows ++ [r]) sum ∧ StepC (Rng k) col w col' ((w.alloc (.cells CS 34)).setCell ⟨g, rows.length, none⟩ (.slice (some ⟨w.heap.size, 0, none⟩) n n)) := by
  have hG1 := R.grid.snoc ht hO hr
  have hdd := R.dd
  have hk := R.k1
  have hl := R.grid.len
  have s1 := StepC.new ht (.cells CS 34) (k + 3 + rows.length) (fun _ => False)
  have bx := R.box.keep s1 (fun h => h)
  have tb := R.tab.keep s1 (fun h => h)
  have s2 := StepC.set (P := fun c => c = k) (a := ⟨g, rows.length, none⟩) s1.tidy bx.col (.slice (some ⟨w.heap.size, 0, none⟩) n n)
  have hb := bx.put rows.length (.slice (some ⟨w.heap.size, 0, none⟩) n n)
  rw [← hl, boxV_set (by omega), hl] at hb
  refine ⟨_, ⟨hk, hdd, by rw [List.length_append]; simp; omega, R.sdb, hb, tb.keep s2 (by omega), hG1.keep s2 (fun c h1 h2 e => by omega)⟩, ?_⟩
  exact (s1.mono fun _ h => h.elim).trans (s2.mono fun c e => by unfold Rng; omega)
set_option maxHeartbeats 4000000 in
theorem pNew (ht : Tidy col w) (hk : 1 ≤ k) (hT : RdU w TA tn tc T) (depth width : Int) (hd : J64 depth) (hw : J64 width) (hs : 0 ≤ sd ∧ sd ≤ 18446744073709551615) :
    Calls Try.prog 12 #[.int .i64 depth, .int .i64 width, .slice TA tn tc, .int .u64 sd] w (NewPsk PSk col k depth width tn T sd w) := by
  have hTm := hT.max
  have hTc := hT.cap
  unfold J64 at hd hw
  by_cases hr : depth < 1 ∨ 4 < depth ∨ width < 1 ∨ 256 < width
  · have HE := Lib.hid (show ckE depth width tn = 1 from if_pos hr)
    clear hT
    have fin : ∀ w', Below w.heap.size w w' → NewPsk PSk col k depth width tn T sd w (.returned (.tuple #[.pointer none, .int .i64 1])) w' := fun w' hb => .inr ⟨by rw [HE.out]; decide, by rw [HE.out], hb⟩
    have HF := Lib.hid fin
    clear fin
    by_cases c1 : depth < 1
    · go_enter Try.func12, Try.ntmps12
      go_wp2
      go_ret2
      exact HF.out _ (Below.refl _ _)
    by_cases c2 : 4 < depth
    · go_enter Try.func12, Try.ntmps12
      go_wp2
      go_ret2
      exact HF.out _ (Below.refl _ _)
    by_cases c3 : width < 1
    · go_enter Try.func12, Try.ntmps12
      go_wp2
      go_ret2
      exact HF.out _ (Below.refl _ _)
    have c4 : 256 < width := by omega
    go_enter Try.func12, Try.ntmps12
    go_wp2
    go_ret2
    exact HF.out _ (Below.refl _ _)
  obtain ⟨d, rfl⟩ : ∃ d : Nat, depth = (d : Int) := ⟨depth.toNat, by omega⟩
  obtain ⟨n, rfl⟩ : ∃ n : Nat, width = (n : Int) := ⟨width.toNat, by omega⟩
  have h1 : ¬ (d : Int) < 1 := by omega
  have h2 : ¬ 4 < (d : Int) := by omega
  have h3 : ¬ (n : Int) < 1 := by omega
  have h4 : ¬ 256 < (n : Int) := by omega
  have hcE : ckE d n tn = tabE tn := if_neg hr
  have hTb := hcheck_any TA tn tc w (by omega)
  by_cases h16 : tn = 16
  rotate_left
  · have e1 : tabE tn = 11 := if_neg h16
    rw [e1] at hTb hcE
    have HE := Lib.hid hcE
    clear hT hcE hr
    go_enter Try.func12, Try.ntmps12
    go_wp2_with fail
    refine hTb.mono ?_
    rintro e w1 ⟨rfl, hw1⟩
    subst hw1
    go_wp2
    go_ret2
    exact .inr ⟨by rw [HE.out]; decide, by rw [HE.out]; rfl, Below.refl _ _⟩
  subst h16
  have e1 : tabE 16 = 0 := if_pos rfl
  rw [e1] at hTb hcE
  have HE := Lib.hid hcE
  obtain ⟨CS, hmk, hOw⟩ := make_any kU (n := n) (by omega) (z := 0) rfl
  have hmk' : ∀ W : World, (Instr.makeSlice 22 (.int .i64 (n : Int)) (.int .i64 (n : Int))).run Try.prog W = .ok (.slice (some ⟨W.heap.size, 0, none⟩) n n) (W.alloc (.cells CS 34)) := hmk
  have HO := Lib.hid hOw
  have hCl := cloneU_any hT (by omega) (by omega)
  clear hcE hr hmk hOw hT
  go_enter Try.func12, Try.ntmps12
  go_wp2_with fail
  refine hTb.mono ?_
  rintro e w1 ⟨rfl, hw1⟩
  subst hw1
  clear hTb
  go_wp2_with fail
  refine hCl.mono ?_
  rintro e w2 ⟨bc, cc, rfl, R2, l2, u2, B2⟩
  have s2 : StepC (fun _ => False) col w col w2 := StepC.below ht B2
  have s3 := StepC.new s2.tidy (.cells (boxV n d [] (some ⟨bc, 0, none⟩) cc sd 0) 64) k (fun _ => False)
  have R0 : SpB _ (w2.alloc (.cells (boxV n d [] (some ⟨bc, 0, none⟩) cc sd 0) 64)) k w2.heap.size n d (some ⟨bc, 0, none⟩) cc [] T sd [] 0 :=
    ⟨hk, by omega, by simp, hs, ⟨heap_alloc_new w2 _, dye_of⟩, TabC.keep ⟨R2, fun b o sp e => by injection e with e; injection e with e1; subst e1; exact ht _ (by omega)⟩ s3 (fun h => h), Grid.nil _ _ _ _⟩
  have S0 := (s2.trans s3).mono (P' := Rng k) (fun _ h => h.elim)
  obtain ⟨G, hG⟩ : ∃ G, w2.heap.size = G := ⟨_, rfl⟩
  obtain ⟨W3, hW3⟩ : ∃ W3, w2.alloc (.cells (boxV n d [] (some ⟨bc, 0, none⟩) cc sd 0) 64) = W3 := ⟨_, rfl⟩
  rw [hW3] at R0 S0
  rw [hG] at R0 S0
  have hW3' : w2.alloc (.cells #[.slice none 0 0, .slice none 0 0, .slice none 0 0, .slice none 0 0, .int .i64 (d : Int), .slice (some ⟨bc, 0, none⟩) 16 cc, .int .u64 sd, .int .u64 0] 64) = W3 := hW3
  clear hCl R2 l2 u2 B2 s2 s3 hW3
  go_wp2
  go_loopw [39] (fun iv wr => ∃ (i : Nat) (bs : List Nat) (colr : Col), i ≤ d ∧ iv = .int .i64 (i : Int) ∧ SpB colr wr k G n d (some ⟨bc, 0, none⟩) cc bs T sd (List.replicate i (List.replicate n 0)) 0 ∧ StepC (Rng k) col w colr wr) (fun iv _ => d - (intOf iv).toNat)
  case atStart => exact ⟨0, [], _, Nat.zero_le _, rfl, R0, S0⟩
  case round =>
    clear R0 S0 hW3'
    obtain ⟨i, bs, colr, hi, rfl, R, S⟩ := hrel
    by_cases hlt : i < d
    · have hiI : (i : Int) < (d : Int) := by omega
      have hi4 : (i : Int) < 4 := by have := R.dd; omega
      have bD := bdM wr
      have RD := R.below S.tidy bD
      have tD := S.tidy.size bD.size
      obtain ⟨col7, R7, S7⟩ := RD.more tD (by rw [List.length_replicate]; exact hlt) (HO.out wr.drew) (fun z hz => by rw [(List.mem_replicate.1 hz).2]; omega)
      rw [List.length_replicate] at R7 S7
      have hf : (wr.alloc (.cells CS 34)).frozen? ⟨G, i, none⟩ = false := (((Below.refl wr.heap.size wr).alloc (Nat.le_refl _) (.cells CS 34)).frozen (p := ⟨G, i, none⟩) R.box.lt).trans (R.box.free i)
      have hcl : ∃ v, wr.cell? ⟨G, i, none⟩ = some v := ⟨_, R.box.cell i (boxV_row (by omega))⟩
      obtain ⟨v0, hv0⟩ := hcl
      have hv1 : (wr.alloc (.cells CS 34)).cell? ⟨G, i, none⟩ = some v0 := (((Below.refl wr.heap.size wr).alloc (Nat.le_refl _) (.cells CS 34)).cell (p := ⟨G, i, none⟩) R.box.lt).trans hv0
      have HR := Lib.hid (And.intro R7 (S.trans ((StepC.below (P := Rng k) S.tidy bD).trans S7)))
      clear R S RD tD bD R7 S7
      go_wp2
      go_region
      all_goals
        go_wp2
        go_roundw
        case rel => exact ⟨i + 1, _, col7, by omega, by go_num, by rw [List.replicate_succ']; exact HR.out.1, HR.out.2⟩
        case measure => (simp [intOf] <;> omega)
    · have hiI : ¬ (i : Int) < (d : Int) := by omega
      obtain rfl : i = d := by omega
      have HD := Lib.hid (show DidPsk PSk col k w G T sd (newK i n) wr from ⟨colr, ⟨n, i, some ⟨bc, 0, none⟩, cc, bs, newK_good (by omega) (by omega), by omega, by simp [newK], R⟩, S⟩)
      clear R S
      go_wp2
      go_ret2
      exact .inl ⟨HE.out, G, rfl, by simpa using HD.out⟩
end
end Go.Proofs.Ytcckfdhajbbieaa

/- The program's sketches: Rows; all contracts. Conditions: none beyond those typed. -/
namespace Go.Proofs.Ytcckfdhajbbieaa
open Go.ChangeShapes Go.WideShapes Go.ChangeAt Go.RowKit
set_option linter.unusedVariables false
set_option linter.unusedSimpArgs false
set_option maxRecDepth 100000

theorem bAl (w : World) (o : Obj) : Below w.heap.size w (w.alloc o) := (Below.refl _ _).alloc (Nat.le_refl _) o
theorem atOr {g2 gk N n m c2 c : Nat} (h : (Value.slice (some ⟨g2, 0, none⟩) n c2).ownBlock = (Value.slice (some ⟨gk, 0, none⟩) m c).ownBlock ∨ (Value.slice (some ⟨g2, 0, none⟩) n c2).ownBlock = some N) : g2 = gk ∨ N ≤ g2 := by
  rcases h with h | h
  · left; injection h
  · right; injection h with h; exact Nat.le_of_eq h.symm
/-- What stands in a round of Rows: i rows are cloned. -/
structure RwA (w : World) (gk i c : Nat) (rows : List (List Int)) (sl : List Slv) (W : World) : Prop where
  own : OwnK kSl W (.slice (some ⟨gk, 0, none⟩) i c) sl
  rd : ∀ (j : Nat) (s : Slv) (r : List Int), sl[j]? = some s → rows[j]? = some r → RdU W s.1 s.2.1 s.2.2 r
  new : ∀ s ∈ sl, ∀ b o, s.1 = some ⟨b, o, none⟩ → w.heap.size ≤ b ∧ b ≠ gk ∧ b < W.heap.size
  gkl : w.heap.size ≤ gk ∧ gk < W.heap.size
  below : Below w.heap.size w W
section
variable {P : Nat → Prop} {col col' : Col} {w w' W W' W2 : World} {k g n d i tc b c gk g2 c2 : Nat} {TA : Option Addr} {T : List Int} {sd sum : Int} {rows : List (List Int)} {s : KSt} {sl : List Slv} {r : List Int} {A2 : Option Addr}
theorem RwA.len (h : RwA w gk i c rows sl W) : sl.length = i := h.own.len
theorem RwA.next (h : RwA w gk i c rows sl W) (hb : Below W.heap.size W W') : RwA w gk i c rows sl W' :=
  ⟨h.own.below hb, fun j s r hs hr => (h.rd j s r hs hr).below hb, fun s hs b o e => ⟨(h.new s hs b o e).1, (h.new s hs b o e).2.1, Nat.lt_of_lt_of_le (h.new s hs b o e).2.2 hb.size⟩, ⟨h.gkl.1, Nat.lt_of_lt_of_le h.gkl.2 hb.size⟩, below_then h.below hb⟩
/-- Another row is appended. -/
theorem RwA.more (h : RwA w gk i c rows sl W) (hr : rows[i]? = some r) (hR : RdU W (some ⟨b, 0, none⟩) n tc r) (hb1 : w.heap.size ≤ b) (hb2 : b ≠ gk) (hb3 : b < W.heap.size)
    (hO : OwnK kSl W2 (.slice (some ⟨g2, 0, none⟩) (i + 1) c2) (sl ++ [(some ⟨b, 0, none⟩, n, tc)])) (hg : W.grownBy W2 (some gk)) (hat : g2 = gk ∨ W.heap.size ≤ g2) : RwA w g2 (i + 1) c2 rows (sl ++ [(some ⟨b, 0, none⟩, n, tc)]) W2 := by
  have hl := h.len
  have hfar : ∀ q, q ≠ gk → q < W.heap.size → W2.heap[q]? = W.heap[q]? := fun q hq hl => hg.block q hl fun e => by injection e with e; exact hq e
  have hB := h.below.grown hg h.below.size (fun q hq => by injection hq with hq; subst hq; exact h.gkl.1)
  refine ⟨hO, fun j s q hs hq => ?_, fun s hs b' o e => ?_, ⟨?_, ?_⟩, hB⟩
  · rcases Nat.lt_trichotomy j i with hj | hj | hj
    · rw [List.getElem?_append_left (by omega)] at hs
      exact (h.rd j s q hs hq).far' fun b' o e hl => hfar b' (h.new s (List.mem_of_getElem? hs) b' o e).2.1 hl
    · subst hj
      rw [List.getElem?_append_right (by omega), hl, Nat.sub_self] at hs
      obtain rfl := Option.some.inj hs
      obtain rfl := Option.some.inj (hr.symm.trans hq)
      exact hR.far' fun b' o e hl => by injection e with e; injection e with e1; subst e1; exact hfar _ hb2 hl
    · rw [List.getElem?_eq_none (by simp; omega)] at hs; cases hs
  · have hw := hg.size
    rcases List.mem_append.1 hs with hs | hs
    · obtain ⟨h1, h2, h3⟩ := h.new s hs b' o e
      exact ⟨h1, by omega, by omega⟩
    · obtain rfl := List.mem_singleton.1 hs
      injection e with e; injection e with e1; subst e1
      exact ⟨hb1, by omega, by omega⟩
  · have := h.gkl.1
    have := h.below.size
    omega
  · obtain ⟨q, hq, hq2⟩ := hO.head (by omega)
    injection hq with hq; injection hq with hq; omega
theorem RwA.done (h : RwA w gk d c rows sl W) (hd : rows.length = d) : RdRi w.heap.size W (some ⟨gk, 0, none⟩) d c rows :=
  ⟨sl, h.own.reads, hd, h.rd, fun b o e => by injection e with e; injection e with e1; have := h.gkl.1; omega, fun s hs b o e => (h.new s hs b o e).1⟩
set_option maxHeartbeats 2000000 in
theorem pRows (H : PSk col k w g T sd s) (ht : Tidy col w) :
    Calls Try.prog 17 #[.pointer (some ⟨g, 0, none⟩)] w fun e w' => ∃ A n c, e = .returned (.slice A n c) ∧ n ≤ c ∧ c ≤ 9223372036854775807 ∧ RdRi w.heap.size w' A n c s.rows ∧ Below w.heap.size w w' := by
  obtain ⟨n, d, TA, tc, bs, hG, hn6, hd, HB⟩ := H
  have hdd := HB.dd
  have hd4 : (d : Int) ≤ 4 := by omega
  have hn1 := hG.n1
  have x4 : w.cell? ⟨g, 4, none⟩ = some (.int .i64 (d : Int)) := HB.box.cell 4 rfl
  obtain ⟨CS, hmk, hOw⟩ := make0_any kSl (n := d) (by omega)
  have hmk' : ∀ W : World, (Instr.makeSlice 41 (.int .i64 0) (.int .i64 (d : Int))).run Try.prog W = .ok (.slice (some ⟨W.heap.size, 0, none⟩) 0 d) (W.alloc (.cells CS 22)) := hmk
  have b1 : Below w.heap.size w (w.alloc (.cells CS 22)) := (Below.refl _ _).alloc (Nat.le_refl _) _
  have R1 : RwA w w.heap.size 0 d s.rows [] (w.alloc (.cells CS 22)) :=
    ⟨hOw w, fun j s r hs => by simp at hs, fun s hs => by simp at hs, ⟨Nat.le_refl _, (Array.getElem?_eq_some_iff.1 (heap_alloc_new w _)).1⟩, b1⟩
  have hU := fun W (hB : Below w.heap.size w W) => pused_any (w := W) (g := g) hdd (cellB x4 hB).1
  have hUs := hU _ b1
  have HS := Lib.hid HB
  have HR1 := Lib.hid R1
  clear hmk hOw HB hU R1
  go_enter Try.func17, Try.ntmps17
  go_wp2_with fail
  refine hUs.mono ?_
  rintro e w3 ⟨rfl, j3, hw3⟩
  have R3 : RwA w w.heap.size 0 d s.rows [] w3 := by rw [hw3]; exact HR1.out.next (below_drewN (Below.refl _ _) _)
  obtain ⟨B, hB⟩ : ∃ B, w.heap.size = B := ⟨_, rfl⟩
  rw [show RwA w w.heap.size 0 d s.rows [] w3 = RwA w B 0 d s.rows [] w3 by rw [hB]] at R3
  have HR3 := Lib.hid R3
  have HBe := Lib.hid hB
  clear hUs hw3 hmk' x4 b1 R3
  rw [hB]
  clear hB
  go_wp2
  go_loopw [3, 16] (fun vv iv wr => ∃ (i gk c : Nat) (sl : List Slv), i ≤ d ∧ iv = .int .i64 (i : Int) ∧ vv = .slice (some ⟨gk, 0, none⟩) i c ∧ RwA w gk i c s.rows sl wr) (fun _ iv _ => d - (intOf iv).toNat)
  case atStart => exact ⟨0, B, d, [], Nat.zero_le _, rfl, rfl, HR3.out⟩
  case round =>
    clear HR3
    obtain ⟨i, gk, c, sl, hi, rfl, rfl, R⟩ := hrel
    by_cases hlt2 : i < d
    · have hiI : (i : Int) < (d : Int) := by omega
      have hi4 : (i : Int) < 4 := by omega
      obtain ⟨r, hr⟩ : ∃ r, s.rows[i]? = some r := ⟨_, List.getElem?_eq_getElem (by omega)⟩
      obtain ⟨b, hb, _, hRd⟩ := (HS.out.below ht R.below).grid.at_ hr
      have cA : wr.cell? ⟨g, i, none⟩ = some (.slice (some ⟨b, 0, none⟩) n n) := by
        have := (HS.out.below ht R.below).box.cell i (boxV_row (by omega))
        rw [this]
        unfold rowV
        rw [hb]
      have hCl := cloneU_any hRd (by omega) (by omega)
      have HR := Lib.hid (And.intro R hr)
      clear hb hRd R hr
      go_wp2_with fail
      refine hCl.mono ?_
      rintro e w5 ⟨b5, c5, rfl, R5, l5, u5, B5⟩
      have H5 := HR.out.1.next B5
      have H6 := H5.next (bAl w5 (.cells #[.slice (some ⟨b5, 0, none⟩) n c5] 22))
      have O1 := H6.own
      have hlen := H5.len
      have hby : sl.length + 1 ≤ 1000000000 := by omega
      have hl2 : (sl ++ [((some ⟨b5, 0, none⟩, n, c5) : Slv)]).length = i + 1 := by simp; omega
      have h0n : 0 < i + 1 := by omega
      have L1 : RdG kSl (w5.alloc (.cells #[.slice (some ⟨b5, 0, none⟩) n c5] 22)) (some ⟨w5.heap.size, 0, none⟩) 1 1 [((some ⟨b5, 0, none⟩, n, c5) : Slv)] := RdG.one2 kSl (some ⟨b5, 0, none⟩, n, c5) rfl rfl rfl
      have HM := Lib.hid (fun (W2 : World) (g2 c2 : Nat) hO hg hat => H6.more (W2 := W2) (g2 := g2) (c2 := c2) HR.out.2 (R5.below (bAl w5 (.cells #[.slice (some ⟨b5, 0, none⟩) n c5] 22))) (Nat.le_trans HR.out.1.below.size l5) (by have := HR.out.1.gkl.2; omega) (Nat.lt_of_lt_of_le u5 (bAl w5 (.cells #[.slice (some ⟨b5, 0, none⟩) n c5] 22)).size) hO hg hat)
      clear hCl R5 B5 H5 H6 cA hlen
      go_wp2_with (at_builtin; refine wpList_appK kSl rfl (.tmp 20) (.tmp 23) rfl _ sl rfl _ 1 1 [((some ⟨b5, 0, none⟩, n, c5) : Slv)] rfl O1 L1 hby ?_; intro v2 w2 O2 G2 hat2; obtain ⟨A2, c2, rfl, _, _⟩ := O2.form hl2; obtain ⟨g2, rfl, _⟩ := O2.head h0n; have M2 := HM.out w2 g2 c2 O2 G2 (atOr hat2))
      go_roundw
      case rel => exact ⟨i + 1, g2, c2, _, by omega, by go_num, rfl, M2⟩
      case measure => (simp [intOf] <;> omega)
    · have hiI : ¬ (i : Int) < (d : Int) := by omega
      obtain rfl : i = d := by omega
      have HD := Lib.hid (And.intro (R.done hd) (And.intro R.below R.own.reads.cap))
      have hcm := R.own.reads.max
      clear R
      go_wp2
      go_ret
      exact ⟨_, i, c, rfl, HD.out.2.2, hcm, HD.out.1, HD.out.2.1⟩
end
theorem progSk : ProgSk PSk where
  keep := fun h hs hp h0 => by
    obtain ⟨n, d, TA, tc, bs, hG, hn6, hd, HB⟩ := h
    exact ⟨n, d, TA, tc, bs, hG, hn6, hd, HB.keep hs hp h0⟩
  good := fun h => by
    obtain ⟨n, d, TA, tc, bs, hG, _⟩ := h
    exact ⟨n, hG⟩
  new := fun ht hk hT depth width hd hw hs => pNew ht hk hT depth width hd hw hs
  add := fun h ht key x hk hx => pAdd h ht key x (by omega) hx
  est := fun h ht key hk => by
    obtain ⟨n, d, TA, tc, bs, hG, hn6, hd, HB⟩ := h
    exact HB.est' hd hG.ne (by omega)
  total := fun h ht => by
    obtain ⟨n, d, TA, tc, bs, hG, hn6, hd, HB⟩ := h
    exact HB.total'
  rows := fun h ht => pRows h ht
end Go.Proofs.Ytcckfdhajbbieaa

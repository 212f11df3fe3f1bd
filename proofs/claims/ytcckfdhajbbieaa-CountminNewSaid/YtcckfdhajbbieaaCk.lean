/- Words laid together in one text. Conditions: none beyond those typed. -/
import Derived.Test.YtcckfdhajbbieaaCmmath
import Derived.Test.YtcckfdhajbbieaaUrow
import Derived.Test.YtcckfdhajbbieaaKrow
import Derived.Test.YtcckfdhajbbieaaKu64
import Derived.Test.YtcckfdhajbbieaaZcol
import Derived.Test.YtcckfdhajbbieaaZpaint
import Derived.Test.YtcckfdhajbbieaaKmake
import Derived.Test.YtcckfdhajbbieaaSvgood
import Derived.Test.YtcckfdhajbbieaaSat
import Derived.Test.YtcckfdhajbbieaaSvref2
import Derived.Test.YtcckfdhajbbieaaKout
import Derived.Deep.RegionLaw
/- The specified sketch in memory: rows of counters, the estimate by rows. Conditions: none beyond those typed. -/
namespace Go.Proofs.Ytcckfdhajbbieaa
open Go.ChangeShapes Go.WideShapes Go.ChangeAt Go.RowKit
set_option linter.unusedVariables false
set_option linter.unusedSimpArgs false
set_option maxRecDepth 100000

/-- A slice as an element. -/
abbrev Slv := Option Addr × Nat × Nat
def enSl (s : Slv) : List Value := [.slice s.1 s.2.1 s.2.2]
def kSl : Kind Slv where
  ty := 22
  sl := 41
  k := 1
  by_ := 24
  zero := .slice none 0 0
  enc := enSl
  pos := by omega
  len := fun _ => rfl
  one := fun a u hu => by simp [enSl] at hu; subst hu; rfl
  under := Try.underlying41
  info := by kernel_rfl
  zk := rfl
  small := by omega
/-- A slice of rows reads as these rows. -/
def RdR (w : World) (A : Option Addr) (n c : Nat) (rows : List (List Int)) : Prop :=
  ∃ sl : List Slv, RdG kSl w A n c sl ∧ rows.length = n ∧ ∀ (j : Nat) (s : Slv) (r : List Int), sl[j]? = some s → rows[j]? = some r → RdU w s.1 s.2.1 s.2.2 r
section
variable {w w' : World} {A : Option Addr} {n c : Nat} {rows : List (List Int)}
theorem RdR.drewN (h : RdR w A n c rows) (q : Nat) : RdR (w.drewN q) A n c rows := h
theorem RdR.below (h : RdR w A n c rows) (hb : Below w.heap.size w w') : RdR w' A n c rows := by
  obtain ⟨sl, h1, h2, h3⟩ := h
  exact ⟨sl, h1.below hb, h2, fun j s r hs hr => (h3 j s r hs hr).below hb⟩
theorem RdR.at_ (h : RdR w A n c rows) {j : Nat} (hj : j < n) : ∃ (b o : Nat) (s : Slv) (r : List Int), A = some ⟨b, o, none⟩ ∧ rows[j]? = some r ∧ w.cell? ⟨b, o + j, none⟩ = some (.slice s.1 s.2.1 s.2.2) ∧ RdU w s.1 s.2.1 s.2.2 r := by
  obtain ⟨sl, h1, h2, h3⟩ := h
  obtain ⟨b, o, s, hA, hs, _, _, hc⟩ := h1.at_ hj
  obtain ⟨r, hr⟩ : ∃ r, rows[j]? = some r := ⟨_, List.getElem?_eq_getElem (by omega)⟩
  have := hc 0 (.slice s.1 s.2.1 s.2.2) rfl
  exact ⟨b, o, s, r, hA, hr, by simpa [kSl] using this, h3 j s r hs hr⟩
end
theorem drewN_two (w : World) (p : Nat) : ∀ q : Nat, (w.drewN p).drewN q = w.drewN (p + q)
  | 0 => rfl
  | q + 1 => by
    show ((w.drewN p).drewN q).drew = (w.drewN (p + q)).drew
    rw [drewN_two w p q]
/-- The place of a key by the specified hash. -/
def ixH (t : List Int) (seed : Int) : Ix := fun k i n => (slotP (rowP t seed i k) n).toNat
def estT (t : List Int) (seed : Int) (rows : List (List Int)) (k : ByteArray) : Int := if rows.length = 0 ∨ t.length ≠ 16 then 0 else estAt (ixH t seed k) 0 topU rows
theorem hashP_bd (t : List Int) (seed : Int) (k : ByteArray) : 0 ≤ hashP t seed k ∧ hashP t seed k ≤ 18446744073709551615 := by
  unfold hashP
  split
  · unfold hFin; exact ⟨bits_lo_u64 _ _ _, bits_hi_u64 _ _ _⟩
  · exact ⟨Int.le_refl _, by decide⟩
theorem rowP_bd (t : List Int) (seed i : Int) (k : ByteArray) : 0 ≤ rowP t seed i k ∧ rowP t seed i k ≤ 18446744073709551615 := hashP_bd _ _ _
theorem slotP_bd {h : Int} {n : Nat} (h0 : 0 ≤ h) (hn : 1 ≤ n) : ∃ x : Nat, slotP h (n : Int) = (x : Int) ∧ x < n := by
  have e : slotP h n = h % n := if_neg (by omega)
  have h1 := Int.emod_nonneg h (show (n : Int) ≠ 0 by omega)
  have h2 := Int.emod_lt_of_pos h (show (0 : Int) < n by omega)
  exact ⟨(h % n).toNat, by rw [e]; omega, by omega⟩
set_option maxHeartbeats 2000000 in
theorem rkEst {A TA : Option Addr} {n c tn tc : Nat} {rows : List (List Int)} {t : List Int} {seed : Int} (key : ByteArray) (w : World) (hR : RdR w A n c rows) (hT : RdU w TA tn tc t) (h0 : 0 ≤ seed) (h1 : seed ≤ 18446744073709551615) (hk : key.size ≤ 9223372036854775807) (hc : n ≤ c ∧ c ≤ 9223372036854775807) :
    Calls Try.prog 23 #[.slice A n c, .slice TA tn tc, .int .u64 seed, .string key] w fun e w' => e = .returned (.int .u64 (estT t seed rows key)) ∧ ∃ j, w' = w.drewN j := by
  have hln := hR.choose_spec.2.1
  have htn := hT.len
  have hTb := fun W => rtable_any TA tn tc W (by have := hT.cap; have := hT.max; omega)
  by_cases hn0 : n = 0
  · have HE := Lib.hid (show estT t seed rows key = 0 from if_pos (.inl (by omega)))
    subst hn0
    clear hR hT hln htn
    go_enter Try.func23, Try.ntmps23
    go_wp2
    go_ret
    rw [HE.out]
    exact ⟨rfl, 0, rfl⟩
  by_cases ht0 : tn = 16
  · have HE := Lib.hid (show estT t seed rows key = estAt (ixH t seed key) 0 topU rows from if_neg (by omega))
    have e1 : tabE tn = 0 := if_pos ht0
    rw [e1] at hTb
    have g0 : ((n : Int) == 0) = false := beq_false_of_ne (by omega)
    have HT := Lib.hid hT
    have HR := Lib.hid (And.intro hR hln)
    clear hT hR htn ht0 e1 hln
    go_enter Try.func23, Try.ntmps23
    go_wp2_with fail
    refine (hTb _).mono ?_
    rintro e w2 ⟨rfl, hw2⟩
    subst hw2
    go_wp2
    go_loopw [9, 22] (fun v iv wr => ∃ (k : Nat) (x : Int) (q : Nat), k ≤ n ∧ iv = .int .i64 (k : Int) ∧ v = .int .u64 x ∧ 0 ≤ x ∧ x ≤ 18446744073709551615 ∧ estAt (ixH t seed key) 0 topU rows = estAt (ixH t seed key) k x (rows.drop k) ∧ wr = w.drewN q) (fun _ iv _ => n - (intOf iv).toNat)
    case atStart => exact ⟨0, topU, 0, Nat.zero_le _, rfl, rfl, by decide, by decide, rfl, rfl⟩
    case round =>
      obtain ⟨k, x, q, hkn, rfl, rfl, hx0, hx1, hE, hwr⟩ := hrel
      by_cases hlt : k < n
      · have hkI : (k : Int) < (n : Int) := by omega
        obtain ⟨b, o, ⟨SA, sn, sc⟩, r, rfl, hr, cS, hRd⟩ := (HR.out.1.drewN q).at_ hlt
        rw [← hwr] at cS hRd
        have cS' : wr.cell? ⟨b, o + k, none⟩ = some (.slice SA sn sc) := cS
        have hRd' : RdU wr SA sn sc r := hRd
        have hdr : rows.drop k = r :: rows.drop (k + 1) := by
          obtain ⟨hkl, hke⟩ := List.getElem?_eq_some_iff.1 hr
          rw [List.drop_eq_getElem_cons hkl, hke]
        rw [hdr] at hE
        have hrl := hRd'.len
        have hcap := hRd'.cap
        have hmax := hRd'.max
        by_cases hs0 : sn = 0
        · subst hs0
          have HE2 := Lib.hid (show estT t seed rows key = 0 by rw [HE.out, hE]; unfold estAt; rw [if_pos hrl])
          have HW := Lib.hid hwr
          clear hRd hRd' hE hdr hr cS hwr hrl
          go_wp2
          go_ret
          rw [HE2.out]
          exact ⟨rfl, q, HW.out⟩
        · have g1 : ((sn : Int) == 0) = false := beq_false_of_ne (by omega)
          obtain ⟨p0, p1⟩ := rowP_bd t seed (k : Int) key
          obtain ⟨y, hy, hyl⟩ := slotP_bd (h := rowP t seed (k : Int) key) (n := sn) p0 (by omega)
          have hRow := rrow_any TA tn tc t seed (k : Int) key wr (by rw [hwr]; exact HT.out.drewN q) h0 h1 (by omega) (by omega) hk
          have hSlot := fun W => rslot_any (rowP t seed (k : Int) key) (sn : Int) W p0 p1 (by omega) (by omega)
          simp only [hy] at hSlot
          obtain ⟨b2, o2, z, rfl, hz, z0, z1, _, cz⟩ := hRd'.at_ hyl
          obtain ⟨mn, hmn⟩ : ∃ mn, min x z = mn := ⟨_, rfl⟩
          have hm01 : 0 ≤ mn ∧ mn ≤ 18446744073709551615 := by omega
          have hE2 := Lib.hid (show estAt (ixH t seed key) 0 topU rows = estAt (ixH t seed key) (k + 1) mn (rows.drop (k + 1)) by
            rw [hE]
            conv => lhs; unfold estAt
            rw [if_neg (by omega), hrl]
            have : r.getD (ixH t seed key k sn) 0 = z := by
              have e : ixH t seed key k sn = y := by show (slotP _ _).toNat = y; rw [hy]; rfl
              rw [e, List.getD_eq_getElem?_getD, hz]; rfl
            rw [this, hmn])
          generalize rowP t seed (k : Int) key = rw1 at *
          have HW := Lib.hid hwr
          clear hRd hRd' hE hdr hr hrl hwr hz hy
          go_wp2_with fail
          refine hRow.mono ?_
          rintro e w5 ⟨rfl, j5, hw5⟩
          have cz5 : w5.cell? ⟨b2, o2 + y, none⟩ = some (.int .u64 z) := by rw [hw5]; exact cz
          have HW5 := Lib.hid hw5
          clear hRow hw5 cz cS cS'
          go_wp2_with fail
          refine (hSlot _).mono ?_
          rintro e w6 ⟨rfl, hw6⟩
          subst hw6
          clear hSlot
          go_wp2
          go_roundw
          case rel => exact ⟨k + 1, mn, q + j5, by omega, by go_num, rfl, hm01.1, hm01.2, hE2.out, by rw [HW5.out, HW.out]; exact drewN_two w q j5⟩
          case measure => (simp [intOf] <;> omega)
      · have hkI : ¬ (k : Int) < (n : Int) := by omega
        have HE2 := Lib.hid (show estT t seed rows key = x by
          have hl := HR.out.2
          rw [HE.out, hE, List.drop_of_length_le (by omega)]; rfl)
        have HW := Lib.hid hwr
        clear hE hwr
        go_wp2
        go_ret
        rw [HE2.out]
        exact ⟨rfl, q, HW.out⟩
  · have HE := Lib.hid (show estT t seed rows key = 0 from if_pos (.inr (by omega)))
    have e1 : tabE tn = 11 := if_neg ht0
    rw [e1] at hTb
    have g0 : ((n : Int) == 0) = false := beq_false_of_ne (by omega)
    clear hT hR htn ht0 e1 hln
    go_enter Try.func23, Try.ntmps23
    go_wp2_with fail
    refine (hTb _).mono ?_
    rintro e w2 ⟨rfl, hw2⟩
    subst hw2
    go_wp2
    go_ret
    rw [HE.out]
    exact ⟨rfl, 0, rfl⟩
set_option maxHeartbeats 400000 in
theorem sameWords_yes {A A' : Option Addr} {n c c' : Nat} {l : List Int} (w : World) (h : RdU w A n c l) (h' : RdU w A' n c' l) :
    Calls Try.prog 35 #[.slice A n c, .slice A' n c'] w (YesDrawn w) := by
  have hcap := h.cap
  have hmax := h.max
  have hlen := Lib.hid h.len
  have hnn : ((n : Int) != (n : Int)) = false := by simp
  go_enter Try.func35, Try.ntmps35
  go_wp2
  go_loopw [13] (fun i wr => ∃ k j : Nat, k ≤ n ∧ i = .int .i64 k ∧ wr = w.drewN j) (fun i _ => n - (intOf i).toNat)
  case atStart => exact ⟨0, 0, Nat.zero_le _, rfl, rfl⟩
  case round =>
    obtain ⟨k, j, hk, rfl, rfl⟩ := hrel
    by_cases hlt : k < n
    · obtain ⟨b, o, z, rfl, hz, h0, h1, hb, hc⟩ := h.at_ hlt
      obtain ⟨b', o', z', rfl, hz', h0', h1', hb', hc'⟩ := h'.at_ hlt
      rw [hz] at hz'
      obtain rfl := Option.some.inj hz'
      have hzz : (z != z) = false := by simp
      clear hz hz'
      go_wp2
      go_quiet (fail)
      go_wp2
      go_roundw
      case rel => exact ⟨k + 1, _, by omega, by go_num, rfl⟩
      case measure => simp [intOf]; omega
    · go_wp2
      go_ret
      exact ⟨rfl, _, rfl⟩
set_option maxHeartbeats 800000 in
theorem sameRows_yes {A A' : Option Addr} {n c c' : Nat} {rows : List (List Int)} (w : World) (h : RdR w A n c rows) (h' : RdR w A' n c' rows) (hc : n ≤ c ∧ c ≤ 9223372036854775807) (hc' : n ≤ c' ∧ c' ≤ 9223372036854775807) :
    Calls Try.prog 21 #[.slice A n c, .slice A' n c'] w (YesDrawn w) := by
  have hnn : ((n : Int) != (n : Int)) = false := by simp
  have HH := Lib.hid (And.intro h h')
  clear h h'
  go_enter Try.func21, Try.ntmps21
  go_wp2
  go_loopw [13] (fun i wr => ∃ k j : Nat, k ≤ n ∧ i = .int .i64 k ∧ wr = w.drewN j) (fun i _ => n - (intOf i).toNat)
  case atStart => exact ⟨0, 0, Nat.zero_le _, rfl, rfl⟩
  case round =>
    obtain ⟨k, j, hk, rfl, hwr⟩ := hrel
    by_cases hlt : k < n
    · have hkI : (k : Int) < (n : Int) := by omega
      obtain ⟨b, o, ⟨S1, n1, k1⟩, r, rfl, hr, c1, d1⟩ := (HH.out.1.drewN j).at_ hlt
      obtain ⟨b', o', ⟨S2, n2, k2⟩, r', rfl, hr', c2, d2⟩ := (HH.out.2.drewN j).at_ hlt
      rw [hr] at hr'
      obtain rfl := Option.some.inj hr'
      rw [← hwr] at c1 c2 d1 d2
      have q1 : wr.cell? ⟨b, o + k, none⟩ = some (.slice S1 n1 k1) := c1
      have hn2 : n1 = n2 := d1.len.symm.trans d2.len
      subst hn2
      have q2 : wr.cell? ⟨b', o' + k, none⟩ = some (.slice S2 n1 k2) := c2
      have d1' : RdU wr S1 n1 k1 r := d1
      have d2' : RdU wr S2 n1 k2 r := d2
      have HD := Lib.hid (And.intro d1' d2')
      have HW := Lib.hid hwr
      clear hr hr' c1 c2 d1 d2 d1' d2' hwr
      go_wp2
      go_region_held3 (fun W => W.cell? ⟨b, o + k, none⟩ = some (.slice S1 n1 k1) ∧ W.cell? ⟨b', o' + k, none⟩ = some (.slice S2 n1 k2)) (exact ⟨q1, q2⟩) ((go_at_call 35; refine (sameWords_yes _ (HD.out.1.drewN 1) (HD.out.2.drewN 1)).mono ?_; rintro e w5 ⟨rfl, j5, hw5⟩; subst hw5))
      all_goals
        go_wp2
        go_roundw
        case rel => exact ⟨k + 1, _, by omega, by go_num, by rw [HW.out, drewN_two]⟩
        case measure => (simp [intOf] <;> omega)
    · have hkI : ¬ (k : Int) < (n : Int) := by omega
      have HW := Lib.hid hwr
      clear hwr
      go_wp2
      go_ret
      exact ⟨rfl, j, HW.out⟩
end Go.Proofs.Ytcckfdhajbbieaa

/- Rows of counters in memory, each in a block of its own colour. Conditions: none beyond those typed. -/
namespace Go.Proofs.Ytcckfdhajbbieaa
open Go.ChangeShapes Go.WideShapes Go.ChangeAt Go.RowKit
set_option linter.unusedVariables false
set_option linter.unusedSimpArgs false
set_option maxRecDepth 100000

section
variable {f : Nat → Nat → Nat} {m : Int} {i j : Nat} {rs : List (List Int)} {r : List Int}
/-- What an addition has done when it has come to row i. -/
def midK (f : Nat → Nat → Nat) (m : Int) (rs : List (List Int)) (i : Nat) : List (List Int) := putAt f m 0 (rs.take i) ++ rs.drop i
theorem midK_zero : midK f m rs 0 = rs := rfl
theorem midK_all (h : rs.length ≤ i) : midK f m rs i = putAt f m 0 rs := by
  unfold midK
  rw [List.take_of_length_le h, List.drop_of_length_le h, List.append_nil]
theorem midK_at (hi : i ≤ rs.length) : (midK f m rs i)[j]? = if j < i then (putAt f m 0 rs)[j]? else rs[j]? := by
  unfold midK
  have hl : (putAt f m 0 (rs.take i)).length = i := by rw [put_len, List.length_take]; omega
  by_cases h : j < i
  · rw [if_pos h, List.getElem?_append_left (by omega), put_at, put_at, List.getElem?_take_of_lt h]
  · rw [if_neg h, List.getElem?_append_right (by omega), hl, List.getElem?_drop, show i + (j - i) = j by omega]
theorem midK_len : (midK f m rs i).length = rs.length := by
  unfold midK
  rw [List.length_append, put_len, List.length_take, List.length_drop]
  omega
theorem midK_step (hr : rs[i]? = some r) : (midK f m rs i)[i]? = some r ∧ midK f m rs (i + 1) = (midK f m rs i).set i (r.set (f i r.length) (max (r.getD (f i r.length) 0) m)) := by
  have hi : i < rs.length := (List.getElem?_eq_some_iff.1 hr).1
  have h1 : (midK f m rs i)[i]? = some r := by rw [midK_at (by omega), if_neg (by omega), hr]
  refine ⟨h1, List.ext_getElem? fun j => ?_⟩
  rw [midK_at (by omega), List.getElem?_set, midK_at (by omega), midK_len]
  by_cases hji : i = j
  · subst hji
    rw [if_pos (by omega), if_pos rfl, if_pos hi, put_at, hr, Nat.zero_add]
    rfl
  · rw [if_neg hji]
    by_cases h : j < i
    · rw [if_pos (by omega), if_pos h]
    · rw [if_neg (by omega), if_neg h]
end
/-- Each row lies in its block, of its own colour. -/
structure Grid (col : Col) (w : World) (k n : Nat) (bs : List Nat) (rows : List (List Int)) : Prop where
  len : bs.length = rows.length
  row : ∀ (j b : Nat) (r : List Int), bs[j]? = some b → rows[j]? = some r → OwnKc kU col w (k + j) (.slice (some ⟨b, 0, none⟩) n n) r
  bd : ∀ r ∈ rows, ∀ z ∈ r, 0 ≤ z ∧ z ≤ 18446744073709551615
/-- The slices of the rows. -/
def slB (n : Nat) (bs : List Nat) : List Slv := bs.map fun b => (some ⟨b, 0, none⟩, n, n)
section
variable {P : Nat → Prop} {col col' : Col} {w w' : World} {k n i j b : Nat} {bs : List Nat} {rows : List (List Int)} {r : List Int} {v : Int}
theorem Grid.nil (col : Col) (w : World) (k n : Nat) : Grid col w k n [] [] := ⟨rfl, fun j b r h => by simp at h, fun r h => by cases h⟩
theorem Grid.keep (h : Grid col w k n bs rows) (hs : StepC P col w col' w') (hp : ∀ c, k ≤ c → c < k + rows.length → ¬ P c) : Grid col' w' k n bs rows :=
  ⟨h.len, fun j b r hb hr => (h.row j b r hb hr).keep hs (hp _ (by omega) (by have := (List.getElem?_eq_some_iff.1 hr).1; omega)), h.bd⟩
theorem Grid.below (h : Grid col w k n bs rows) (ht : Tidy col w) (hb : Below w.heap.size w w') : Grid col w' k n bs rows := h.keep (P := fun _ => False) (StepC.below ht hb) (fun _ _ _ h => h)
theorem Grid.at_ (h : Grid col w k n bs rows) (hr : rows[j]? = some r) : ∃ b, bs[j]? = some b ∧ OwnKc kU col w (k + j) (.slice (some ⟨b, 0, none⟩) n n) r ∧ RdU w (some ⟨b, 0, none⟩) n n r := by
  have hj := (List.getElem?_eq_some_iff.1 hr).1
  obtain ⟨b, hb⟩ : ∃ b, bs[j]? = some b := ⟨_, List.getElem?_eq_getElem (by have := h.len; omega)⟩
  have hO := h.row j b r hb hr
  exact ⟨b, hb, hO, RdU.ofK hO.own.reads (h.bd r (List.mem_of_getElem? hr))⟩
theorem Grid.rdR {A : Option Addr} {m c : Nat} (h : Grid col w k n bs rows) (hS : RdG kSl w A m c (slB n bs)) : RdR w A m c rows := by
  refine ⟨_, hS, ?_, fun j s r hs hr => ?_⟩
  · rw [← h.len, ← hS.len]; simp [slB]
  · obtain ⟨b, hb, _, hR⟩ := h.at_ hr
    have e : (slB n bs)[j]? = some (some ⟨b, 0, none⟩, n, n) := by unfold slB; rw [List.getElem?_map, hb]; rfl
    obtain rfl := Option.some.inj (e.symm.trans hs)
    exact hR
/-- A counter is set. -/
theorem Grid.put (h : Grid col w k n bs rows) (ht : Tidy col w) (hb : bs[j]? = some b) (hr : rows[j]? = some r) (hi : i < n) (hv : 0 ≤ v ∧ v ≤ 18446744073709551615) :
    Grid col (w.setCell ⟨b, i, none⟩ (.int .u64 v)) k n bs (rows.set j (r.set i v)) ∧ StepC (fun c => c = k + j) col w col (w.setCell ⟨b, i, none⟩ (.int .u64 v)) := by
  have hO := h.row j b r hb hr
  have hcol : col b = k + j := hO.col b rfl
  have s := StepC.set (P := fun c => c = k + j) (a := ⟨b, i, none⟩) ht hcol (.int .u64 v)
  have hrl : r.length = n := hO.own.len
  obtain ⟨a, ha⟩ : ∃ a, r[i]? = some a := ⟨_, List.getElem?_eq_getElem (by omega)⟩
  refine ⟨⟨by rw [List.length_set]; exact h.len, fun j' b' r' hb' hr' => ?_, fun q hq z hz => ?_⟩, s⟩
  · rw [List.getElem?_set] at hr'
    by_cases hj : j = j'
    · subst hj
      obtain rfl := Option.some.inj (hb.symm.trans hb')
      rw [if_pos rfl, if_pos (List.getElem?_eq_some_iff.1 hr).1] at hr'
      obtain rfl := Option.some.inj hr'
      have hst := hO.set (i := 0) (a := a) (a' := v) (u := .int .u64 v) ha (by show 0 < 1; omega) rfl
      simpa [show kU.k = 1 from rfl] using hst
    · rw [if_neg hj] at hr'
      exact (h.row j' b' r' hb' hr').keep s (fun e => hj (by omega))
  · rcases List.mem_or_eq_of_mem_set hq with hq | rfl
    · exact h.bd q hq z hz
    · rcases List.mem_or_eq_of_mem_set hz with hz | rfl
      · exact h.bd r (List.mem_of_getElem? hr) z hz
      · exact hv
/-- A new row. -/
theorem Grid.snoc (h : Grid col w k n bs rows) (ht : Tidy col w) {o : Obj} (hO : OwnK kU (w.alloc o) (.slice (some ⟨w.heap.size, 0, none⟩) n n) r) (hr : ∀ z ∈ r, 0 ≤ z ∧ z ≤ 18446744073709551615) :
    Grid (dye col (some w.heap.size) (k + rows.length)) (w.alloc o) k n (bs ++ [w.heap.size]) (rows ++ [r]) := by
  have s := StepC.new ht o (k + rows.length) (fun _ => False)
  refine ⟨by simp [h.len], fun j b q hb hq => ?_, fun q hq z hz => ?_⟩
  · have hl := h.len
    by_cases hj : j < rows.length
    · rw [List.getElem?_append_left (by omega)] at hb
      rw [List.getElem?_append_left hj] at hq
      exact (h.row j b q hb hq).keep s (fun h => h)
    · have hj2 : j = rows.length := by
        have := (List.getElem?_eq_some_iff.1 hq).1
        simp at this
        omega
      subst hj2
      rw [List.getElem?_append_right (by omega), hl, Nat.sub_self] at hb
      rw [List.getElem?_append_right (by omega), Nat.sub_self] at hq
      obtain rfl := Option.some.inj hb
      obtain rfl := Option.some.inj hq
      exact ⟨hO, HasCol.dye (.slice (some ⟨w.heap.size, 0, none⟩) n n) (k + rows.length)⟩
  · rcases List.mem_append.1 hq with hq | hq
    · exact h.bd q hq z hz
    · rw [List.mem_singleton.1 hq] at hz
      exact hr z hz
end
end Go.Proofs.Ytcckfdhajbbieaa

/- The specified sketch in memory: what it is, its Estimate and its Add. Conditions: none beyond those typed. -/
namespace Go.Proofs.Ytcckfdhajbbieaa
open Go.ChangeShapes Go.WideShapes Go.ChangeAt Go.RowKit
set_option linter.unusedVariables false
set_option linter.unusedSimpArgs false
set_option maxRecDepth 100000

/-- The box in block g, its m rows of n counters, its words. -/
structure SkB (col : Col) (w : World) (k g n m c : Nat) (A TA : Option Addr) (tc : Nat) (bs : List Nat) (T : List Int) (sd : Int) (rows : List (List Int)) (sum : Int) : Prop where
  k1 : 1 ≤ k
  top : rows.length ≤ 4
  sdb : 0 ≤ sd ∧ sd ≤ 18446744073709551615
  box : BoxC col w g k #[.slice A m c, .slice TA 16 tc, .int .u64 sd, .int .u64 sum] 47
  out : OwnKc kSl col w (k + 1) (.slice A m c) (slB n bs)
  tab : OwnKc kU col w (k + 2) (.slice TA 16 tc) T
  tabB : ∀ z ∈ T, 0 ≤ z ∧ z ≤ 18446744073709551615
  grid : Grid col w (k + 3) n bs rows
/-- The sketch s with the words T and a seed lies in block g. -/
def RefSk (col : Col) (k : Nat) (w : World) (g : Nat) (T : List Int) (sd : Int) (s : KSt) : Prop :=
  ∃ n m c A TA tc bs, GoodK n s ∧ SkB col w k g n m c A TA tc bs T sd s.rows s.sum
def DidSk (col : Col) (k : Nat) (w : World) (g : Nat) (T : List Int) (sd : Int) (s : KSt) (w' : World) : Prop := ∃ col', RefSk col' k w' g T sd s ∧ StepC (Rng k) col w col' w'
section
variable {P : Nat → Prop} {col col' : Col} {w w' : World} {k g n m c tc : Nat} {A TA : Option Addr} {bs : List Nat} {T : List Int} {sd sum : Int} {rows : List (List Int)} {s : KSt} {key : ByteArray}
theorem SkB.keep (h : SkB col w k g n m c A TA tc bs T sd rows sum) (hs : StepC P col w col' w') (hp : ∀ c, Rng k c → ¬ P c) : SkB col' w' k g n m c A TA tc bs T sd rows sum :=
  ⟨h.k1, h.top, h.sdb, h.box.keep hs (hp _ (by unfold Rng; omega)), h.out.keep hs (hp _ (by unfold Rng; omega)), h.tab.keep hs (hp _ (by unfold Rng; omega)), h.tabB, h.grid.keep hs (fun c h1 h2 => hp _ (by have := h.top; unfold Rng; omega))⟩
theorem SkB.below (h : SkB col w k g n m c A TA tc bs T sd rows sum) (ht : Tidy col w) (hb : Below w.heap.size w w') : SkB col w' k g n m c A TA tc bs T sd rows sum := h.keep (P := fun _ => False) (StepC.below ht hb) (fun _ _ h => h)
theorem SkB.rdT (h : SkB col w k g n m c A TA tc bs T sd rows sum) : RdU w TA 16 tc T := RdU.ofK h.tab.own.reads h.tabB
theorem SkB.rdR (h : SkB col w k g n m c A TA tc bs T sd rows sum) : RdR w A m c rows := h.grid.rdR h.out.own.reads
theorem SkB.mm (h : SkB col w k g n m c A TA tc bs T sd rows sum) : rows.length = m ∧ m ≤ c ∧ c ≤ 9223372036854775807 :=
  ⟨h.rdR.choose_spec.2.1, h.out.own.reads.cap, h.out.own.reads.max⟩
theorem SkB.est (h : SkB col w k g n m c A TA tc bs T sd rows sum) (key : ByteArray) : estT T sd rows key = estK (ixH T sd) rows key := by
  have := h.rdT.len
  unfold estT estK
  by_cases h0 : rows.length = 0
  · rw [if_pos (.inl h0), if_pos h0]
  · rw [if_neg (by omega), if_neg h0]
theorem RefSk.keep (h : RefSk col k w g T sd s) (hs : StepC P col w col' w') (hp : ∀ c, Rng k c → ¬ P c) : RefSk col' k w' g T sd s := by
  obtain ⟨n, m, c, A, TA, tc, bs, G, H⟩ := h
  exact ⟨n, m, c, A, TA, tc, bs, G, H.keep hs hp⟩
theorem RefSk.below (h : RefSk col k w g T sd s) (ht : Tidy col w) (hb : Below w.heap.size w w') : RefSk col k w' g T sd s := h.keep (P := fun _ => False) (StepC.below ht hb) (fun _ _ h => h)
theorem RefSk.sumC (h : RefSk col k w g T sd s) : w.cell? ⟨g, 3, none⟩ = some (.int .u64 s.sum) := by
  obtain ⟨n, m, c, A, TA, tc, bs, G, H⟩ := h
  exact H.box.cell 3 rfl
theorem RefSk.rowsC (h : RefSk col k w g T sd s) : ∃ m c A, w.cell? ⟨g, 0, none⟩ = some (.slice A m c) ∧ RdR w A m c s.rows ∧ m ≤ c ∧ c ≤ 9223372036854775807 := by
  obtain ⟨n, m, c, A, TA, tc, bs, G, H⟩ := h
  exact ⟨m, c, A, H.box.cell 0 rfl, H.rdR, H.mm.2⟩
theorem SkB.estimate (h : SkB col w k g n m c A TA tc bs T sd rows sum) (hk : key.size ≤ 9223372036854775807) :
    Calls Try.prog 20 #[.pointer (some ⟨g, 0, none⟩), .string key] w fun e w' => e = .returned (.int .u64 (estK (ixH T sd) rows key)) ∧ ∃ j, w' = w.drewN j := by
  have x0 : w.cell? ⟨g, 0, none⟩ = some (.slice A m c) := h.box.cell 0 rfl
  have x1 : w.cell? ⟨g, 1, none⟩ = some (.slice TA 16 tc) := h.box.cell 1 rfl
  have x2 : w.cell? ⟨g, 2, none⟩ = some (.int .u64 sd) := h.box.cell 2 rfl
  have hR := h.rdR
  have hT := h.rdT
  have hm := h.mm
  have hsd := h.sdb
  rw [← h.est key]
  obtain ⟨v, hv⟩ : ∃ v, estT T sd rows key = v := ⟨_, rfl⟩
  have hC := fun W hR hT => rkEst (A := A) (TA := TA) (n := m) (c := c) (tn := 16) (tc := tc) (rows := rows) (t := T) (seed := sd) key W hR hT hsd.1 hsd.2 hk hm.2
  rw [hv] at hC ⊢
  have HH := Lib.hid (And.intro hR hT)
  clear hR hT hm hsd hv h
  go_enter Try.func20, Try.ntmps20
  go_wp2
  go_region_held3 (fun W => W.cell? ⟨g, 0, none⟩ = some (.slice A m c) ∧ W.cell? ⟨g, 1, none⟩ = some (.slice TA 16 tc) ∧ W.cell? ⟨g, 2, none⟩ = some (.int .u64 sd)) (exact ⟨x0, x1, x2⟩) ((go_at_call 23; refine (hC _ (HH.out.1.drewN 1) (HH.out.2.drewN 1)).mono ?_; rintro e w5 ⟨rfl, j5, hw5⟩; subst hw5))
  all_goals
    go_wp2
    go_ret
    exact ⟨rfl, 1 + j5, rfl⟩
end
end Go.Proofs.Ytcckfdhajbbieaa

/- The specified sketch in memory: its Add. Conditions: none beyond those typed. -/
namespace Go.Proofs.Ytcckfdhajbbieaa
open Go.ChangeShapes Go.WideShapes Go.ChangeAt Go.RowKit
set_option linter.unusedVariables false
set_option linter.unusedSimpArgs false
set_option maxRecDepth 100000

section
variable {P : Nat → Prop} {col col' : Col} {w w' : World} {k g n m c tc : Nat} {A TA : Option Addr} {bs : List Nat} {T : List Int} {sd sum : Int} {rows : List (List Int)} {s : KSt} {key : ByteArray} {x : Int}
/-- The sum is set. -/
theorem SkB.setSum (h : SkB col w k g n m c A TA tc bs T sd rows sum) (ht : Tidy col w) (y : Int) :
    SkB col (w.setCell ⟨g, 3, none⟩ (.int .u64 y)) k g n m c A TA tc bs T sd rows y ∧ StepC (Rng k) col w col (w.setCell ⟨g, 3, none⟩ (.int .u64 y)) := by
  have s := StepC.set (P := fun c => c = k) (a := ⟨g, 3, none⟩) ht h.box.col (.int .u64 y)
  refine ⟨⟨h.k1, h.top, h.sdb, h.box.put 3 _, h.out.keep s (by omega), h.tab.keep s (by omega), h.tabB, h.grid.keep s (fun c h1 h2 e => by omega)⟩, s.mono fun c e => by unfold Rng; omega⟩
/-- A counter is set. -/
theorem SkB.put {i j b : Nat} {r : List Int} {v : Int} (h : SkB col w k g n m c A TA tc bs T sd rows sum) (ht : Tidy col w) (hb : bs[j]? = some b) (hr : rows[j]? = some r) (hi : i < n) (hv : 0 ≤ v ∧ v ≤ 18446744073709551615) :
    SkB col (w.setCell ⟨b, i, none⟩ (.int .u64 v)) k g n m c A TA tc bs T sd (rows.set j (r.set i v)) sum ∧ StepC (Rng k) col w col (w.setCell ⟨b, i, none⟩ (.int .u64 v)) := by
  obtain ⟨G, s⟩ := h.grid.put ht hb hr hi hv
  have hj := (List.getElem?_eq_some_iff.1 hr).1
  have h4 := h.top
  refine ⟨⟨h.k1, by rw [List.length_set]; exact h.top, h.sdb, h.box.keep s (by omega), h.out.keep s (by omega), h.tab.keep s (by omega), h.tabB, G⟩, s.mono fun c e => by unfold Rng; omega⟩
set_option maxHeartbeats 4000000 in
theorem skAdd (H : RefSk col k w g T sd s) (ht : Tidy col w) (key : ByteArray) (x : Int) (hk : key.size ≤ 9223372036854775807) (hx : 0 ≤ x ∧ x ≤ 18446744073709551615) :
    Calls Try.prog 19 #[.pointer (some ⟨g, 0, none⟩), .string key, .int .u64 x] w fun e w' => e = .returned (.int .i64 (s.add (ixH T sd) key x).1) ∧ DidSk col k w g T sd (s.add (ixH T sd) key x).2 w' := by
  have HD0 := Lib.hid (show DidSk col k w g T sd s w from ⟨col, H, StepC.refl ht⟩)
  obtain ⟨n, m, c, A, TA, tc, bs, hG, HB⟩ := H
  have hs0 := hG.sum0
  have hst := hG.top
  by_cases c1 : key.size = 0
  · have hb : key.toList.isEmpty = true := (ba_empty c1).1
    have e1 : s.add (ixH T sd) key x = (3, s) := by unfold KSt.add; rw [if_pos c1]
    rw [e1]
    clear HB hG c1
    go_enter Try.func19, Try.ntmps19
    go_wp2
    go_ret
    exact ⟨rfl, HD0.out⟩
  have hb : key.toList.isEmpty = false := ba_some (by omega)
  by_cases c2 : x = 0
  · have hb2 : (x == 0) = true := beq_iff_eq.2 c2
    have e1 : s.add (ixH T sd) key x = (1, s) := by unfold KSt.add; rw [if_neg c1, if_pos c2]
    rw [e1]
    clear HB hG c1 c2
    go_enter Try.func19, Try.ntmps19
    go_wp2
    go_ret
    exact ⟨rfl, HD0.out⟩
  have hb2 : (x == 0) = false := beq_false_of_ne c2
  have hF := rfits_any s.sum x w ⟨hs0, by omega⟩ hx
  have x3 : w.cell? ⟨g, 3, none⟩ = some (.int .u64 s.sum) := HB.box.cell 3 rfl
  cases hf : fitsB s.sum x with
  | false =>
    rw [hf] at hF
    have e1 : s.add (ixH T sd) key x = (12, s) := by unfold KSt.add; rw [if_neg c1, if_neg c2, if_pos hf]
    rw [e1]
    clear HB hG c1 c2
    go_enter Try.func19, Try.ntmps19
    go_wp2_with fail
    refine hF.mono ?_
    rintro e w1 ⟨rfl, hw⟩
    subst hw
    go_wp2
    go_ret
    exact ⟨rfl, HD0.out⟩
  | true =>
    rw [hf] at hF
    have hfl := fits_le hf
    have hGA := hG.add (ix := ixH T sd) key hx.1
    obtain ⟨ev0, ev1⟩ := hG.est_bd (ix := ixH T sd) key
    rw [add_okK c1 c2 hf] at hGA ⊢
    obtain ⟨v, hv⟩ : ∃ v, estK (ixH T sd) s.rows key = v := ⟨_, rfl⟩
    rw [hv] at hGA ev0 ev1 ⊢
    have hsw : IntKind.u64.wrap (s.sum + x) = s.sum + x := IntWalk.u64_in _ ⟨by omega, by omega⟩
    have hvw : IntKind.u64.wrap (v + x) = v + x := IntWalk.u64_in _ ⟨by omega, by omega⟩
    obtain ⟨y, hy⟩ : ∃ y, s.sum + x = y := ⟨_, rfl⟩
    obtain ⟨z, hz⟩ : ∃ z, v + x = z := ⟨_, rfl⟩
    have hz01 : 0 ≤ z ∧ z ≤ 18446744073709551615 := by omega
    rw [hy] at hsw hGA ⊢
    rw [hz] at hvw hGA ⊢
    have f3 := HB.box.free 3
    obtain ⟨H1, S1⟩ := HB.setSum ht y
    have hE := H1.estimate (key := key) hk
    rw [hv] at hE
    have y0 : (w.setCell ⟨g, 3, none⟩ (.int .u64 y)).cell? ⟨g, 0, none⟩ = some (.slice A m c) := H1.box.cell 0 rfl
    have hmm := H1.mm
    have hn1 := hG.n1
    have hrn := hG.len
    have HG := Lib.hid hGA
    clear HB hG c1 c2 hf hGA hfl hv ht
    go_enter Try.func19, Try.ntmps19
    go_wp2_with fail
    refine hF.mono ?_
    rintro e w1 ⟨rfl, hw⟩
    subst hw
    clear hF
    go_wp2_with fail
    refine hE.mono ?_
    rintro e w2 ⟨rfl, j2, hw2⟩
    have hbE : Below (w.setCell ⟨g, 3, none⟩ (.int .u64 y)).heap.size (w.setCell ⟨g, 3, none⟩ (.int .u64 y)) w2 := by rw [hw2]; exact below_drewN (Below.refl _ _) j2
    have H2 := H1.below S1.tidy hbE
    have S2 := S1.trans (StepC.below (P := Rng k) S1.tidy hbE)
    have z0 : w2.cell? ⟨g, 0, none⟩ = some (.slice A m c) := H2.box.cell 0 rfl
    clear hE H1 S1 y0 hw2 x3 f3 hbE
    go_wp2
    go_loopw [40] (fun iv wr => ∃ i : Nat, i ≤ m ∧ iv = .int .i64 (i : Int) ∧ SkB col wr k g n m c A TA tc bs T sd (midK (ixH T sd key) z s.rows i) y ∧ StepC (Rng k) col w col wr) (fun iv _ => m - (intOf iv).toNat)
    case atStart => exact ⟨0, Nat.zero_le _, rfl, H2, S2⟩
    case round =>
      clear H2 S2 z0
      obtain ⟨i, hi, rfl, R, S⟩ := hrel
      by_cases hlt : i < m
      · have hiI : (i : Int) < (m : Int) := by omega
        obtain ⟨r, hr⟩ : ∃ r, s.rows[i]? = some r := ⟨_, List.getElem?_eq_getElem (by omega)⟩
        obtain ⟨hmi, hms⟩ := midK_step (f := ixH T sd key) (m := z) hr
        obtain ⟨bA, oA, sv, hA, hsl, _, _, hcA⟩ := R.out.own.reads.at_ hlt
        obtain ⟨b, hb, hO, hRd⟩ := R.grid.at_ hmi
        have hsv : sv = (some ⟨b, 0, none⟩, n, n) := by
          have e : (slB n bs)[i]? = some (some ⟨b, 0, none⟩, n, n) := by unfold slB; rw [List.getElem?_map, hb]; rfl
          exact Option.some.inj (hsl.symm.trans e)
        subst hsv
        subst hA
        have cA : wr.cell? ⟨bA, oA + i, none⟩ = some (.slice (some ⟨b, 0, none⟩) n n) := by
          have := hcA 0 (.slice (some ⟨b, 0, none⟩) n n) rfl
          simpa [show kSl.k = 1 from rfl] using this
        have x1 : wr.cell? ⟨g, 1, none⟩ = some (.slice TA 16 tc) := R.box.cell 1 rfl
        have x2 : wr.cell? ⟨g, 2, none⟩ = some (.int .u64 sd) := R.box.cell 2 rfl
        obtain ⟨p0, p1⟩ := rowP_bd T sd (i : Int) key
        obtain ⟨q, hq, hql⟩ := slotP_bd (h := rowP T sd (i : Int) key) (n := n) p0 hn1
        have hnmx : n ≤ 9223372036854775807 := by have := hRd.max; omega
        have hRow := fun W (hT : RdU W TA 16 tc T) => rrow_any TA 16 tc T sd (i : Int) key W hT R.sdb.1 R.sdb.2 (by omega) (by have := hmm.2; omega) hk
        have hSlot := fun W => rslot_any (rowP T sd (i : Int) key) (n : Int) W p0 p1 (by omega) (by omega)
        simp only [hq] at hSlot
        obtain ⟨a, ha⟩ : ∃ a, r[q]? = some a := ⟨_, List.getElem?_eq_getElem (by rw [hRd.len]; exact hql)⟩
        obtain ⟨b2, o2, a2, hbb, ha2, a0, a1, _, ca⟩ := hRd.at_ hql
        injection hbb with hbb; injection hbb with hb2 ho2; subst hb2; subst ho2
        obtain rfl := Option.some.inj (ha.symm.trans ha2)
        have hix : ixH T sd key i n = q := by show (slotP _ _).toNat = q; rw [hq]; rfl
        obtain ⟨mx, hmx⟩ : ∃ mx, max a z = mx := ⟨_, rfl⟩
        have hmx01 : 0 ≤ mx ∧ mx ≤ 18446744073709551615 := by omega
        have hms' : midK (ixH T sd key) z s.rows (i + 1) = (midK (ixH T sd key) z s.rows i).set i (r.set q mx) := by
          rw [hms, hRd.len, hix]
          have : r.getD q 0 = a := by rw [List.getD_eq_getElem?_getD, ha]; rfl
          rw [this, hmx]
        have HT := Lib.hid R.rdT
        have HR := Lib.hid (fun (W : World) (hw : ∃ p, W = wr.drewN p) => show SkB col (W.setCell ⟨b, q, none⟩ (.int .u64 mx)) k g n m c (some ⟨bA, oA, none⟩) TA tc bs T sd (midK (ixH T sd key) z s.rows (i + 1)) y ∧ StepC (Rng k) col w col (W.setCell ⟨b, q, none⟩ (.int .u64 mx)) from by
          obtain ⟨p, rfl⟩ := hw
          have hB := below_drewN (Below.refl wr.heap.size wr) p
          obtain ⟨g1, g2⟩ := (R.below S.tidy hB).put (S.tidy.size hB.size) hb hmi hql hmx01
          rw [hms']
          exact ⟨g1, (S.trans (StepC.below S.tidy hB)).trans g2⟩)
        have hqI : (q : Int) < (n : Int) := by omega
        have fz : wr.frozen? ⟨b, q, none⟩ = false := hO.own.free q
        generalize rowP T sd (i : Int) key = rw1 at *
        have HM := Lib.hid hmx
        have HW := Lib.hid (And.intro cA (And.intro ca fz))
        clear R S hr hmi hms hms' hsl hcA hb hO hRd ha ha2 hix hmx01 hmx
        go_wp2
        go_region_held3 (fun W => W.cell? ⟨g, 1, none⟩ = some (.slice TA 16 tc) ∧ W.cell? ⟨g, 2, none⟩ = some (.int .u64 sd)) (exact ⟨x1, x2⟩) (first | (go_at_call 34; refine (hRow _ (HT.out.drewN 1)).mono ?_; rintro e w5 ⟨rfl, j5, hw5⟩; subst hw5) | (go_at_call 33; refine (hSlot _).mono ?_; rintro e w6 ⟨rfl, hw6⟩; subst hw6))
        all_goals
          have fz2 : (wr.drewN (1 + j5)).frozen? ⟨b, q, none⟩ = false := HW.out.2.2
          have ca2 : (wr.drewN (1 + j5)).cell? ⟨b, q, none⟩ = some (.int .u64 a) := by have := HW.out.2.1; simpa using this
          have hR2 := HR.out _ ⟨1 + j5, rfl⟩
          have HR2 := Lib.hid hR2
          obtain ⟨Wd, hWd⟩ : ∃ Wd, wr.drewN (1 + j5) = Wd := ⟨_, rfl⟩
          rw [hWd] at fz2 ca2 HR2 ⊢
          clear hR2 hWd
          go_wp2
          go_roundw
          case rel => exact ⟨i + 1, by omega, by go_num, by rw [HM.out]; exact HR2.out.1, by rw [HM.out]; exact HR2.out.2⟩
          case measure => (simp [intOf] <;> omega)
      · have hiI : ¬ (i : Int) < (m : Int) := by omega
        obtain rfl : i = m := by omega
        rw [midK_all (by omega)] at R
        have HE := Lib.hid (show DidSk col k w g T sd ⟨putAt (ixH T sd key) z 0 s.rows, y⟩ wr from ⟨col, ⟨n, i, c, A, TA, tc, bs, HG.out, R⟩, S⟩)
        clear R S
        go_wp2
        go_ret
        exact ⟨rfl, HE.out⟩
end
end Go.Proofs.Ytcckfdhajbbieaa

/- The specified sketch in memory: how it is made. Conditions: none beyond those typed. -/
namespace Go.Proofs.Ytcckfdhajbbieaa
open Go.ChangeShapes Go.WideShapes Go.ChangeAt Go.RowKit
set_option linter.unusedVariables false
set_option linter.unusedSimpArgs false
set_option maxRecDepth 100000

/-- The error of a sketch that can't be made, or 0. -/
def ckE (depth width : Int) (tn : Nat) : Int := if depth < 1 ∨ 4 < depth ∨ width < 1 ∨ 256 < width then 1 else tabE tn
def NewSk (col : Col) (k : Nat) (depth width : Int) (tn : Nat) (T : List Int) (sd : Int) (w : World) (e : Ending) (w' : World) : Prop :=
  (ckE depth width tn = 0 ∧ ∃ g, e = .returned (.tuple #[.pointer (some ⟨g, 0, none⟩), .int .i64 0]) ∧ DidSk col k w g T sd (newK depth.toNat width.toNat) w') ∨ (ckE depth width tn ≠ 0 ∧ e = .returned (.tuple #[.pointer none, .int .i64 (ckE depth width tn)]) ∧ Below w.heap.size w w')
section
variable {P : Nat → Prop} {col col' : Col} {w w' : World} {k g n i c tc : Nat} {A TA : Option Addr} {bs : List Nat} {T : List Int} {sd sum : Int} {rows : List (List Int)} {r : List Int}
theorem newK_good {d n : Nat} (hd : 1 ≤ d) (hn : 1 ≤ n) : GoodK n (newK d n) := by
  refine ⟨hn, by simp [newK]; exact hd, fun r hr => ?_, fun r hr x hx => ?_, Int.le_refl _, by show (0 : Int) ≤ 9223372036854775808; decide⟩
  · rw [(List.mem_replicate.1 hr).2, List.length_replicate]
  · rw [(List.mem_replicate.1 hr).2] at hx
    rw [(List.mem_replicate.1 hx).2]
    exact ⟨Int.le_refl _, Int.le_refl _⟩
/-- Another row is made and appended. -/
theorem SkB.more (R : SkB col w k g n i c A TA tc bs T sd rows sum) (ht : Tidy col w) (hi : rows.length < 4) {CS : Array Value}
    (hO : OwnK kU (w.alloc (.cells CS 34)) (.slice (some ⟨w.heap.size, 0, none⟩) n n) r) (hr : ∀ z ∈ r, 0 ≤ z ∧ z ≤ 18446744073709551615) :
    let W2 := (w.alloc (.cells CS 34)).alloc (.cells #[.slice (some ⟨w.heap.size, 0, none⟩) n n] 22)
    OwnK kSl W2 (.slice A i c) (slB n bs) ∧ RdG kSl W2 (some ⟨w.heap.size + 1, 0, none⟩) 1 1 [(some ⟨w.heap.size, 0, none⟩, n, n)] ∧ ∀ v7 w7, OwnK kSl w7 v7 (slB n bs ++ [(some ⟨w.heap.size, 0, none⟩, n, n)]) → W2.grownBy w7 (Value.slice A i c).ownBlock → (v7.ownBlock = (Value.slice A i c).ownBlock ∨ v7.ownBlock = some W2.heap.size) →
      ∃ A7 c7 col', v7 = .slice A7 (i + 1) c7 ∧ w7.frozen? ⟨g, 0, none⟩ = false ∧ w7.cell? ⟨g, 0, none⟩ = some (.slice A i c) ∧ SkB col' (w7.setCell ⟨g, 0, none⟩ v7) k g n (i + 1) c7 A7 TA tc (bs ++ [w.heap.size]) T sd (rows ++ [r]) sum ∧ StepC (Rng k) col w col' (w7.setCell ⟨g, 0, none⟩ v7) := by
  intro W2
  have hG1 := R.grid.snoc ht hO hr
  have s1 := StepC.new ht (.cells CS 34) (k + 3 + rows.length) (fun _ => False)
  obtain ⟨W1, hW1⟩ : ∃ W1, w.alloc (.cells CS 34) = W1 := ⟨_, rfl⟩
  have h2 : W2 = W1.alloc (.cells #[.slice (some ⟨w.heap.size, 0, none⟩) n n] 22) := by rw [← hW1]
  have hsz : W1.heap.size = w.heap.size + 1 := by rw [← hW1]; simp
  rw [hW1] at hG1 s1
  clear_value W2
  subst h2
  have b2 : Below W1.heap.size W1 (W1.alloc (.cells #[.slice (some ⟨w.heap.size, 0, none⟩) n n] 22)) := (Below.refl _ _).alloc (Nat.le_refl _) _
  have s2 : StepC (fun _ => False) _ W1 _ _ := StepC.below s1.tidy b2
  have rd2 := RdG.one' (w := W1) kSl (h := w.heap.size + 1) hsz.symm (some ⟨w.heap.size, 0, none⟩, n, n)
  obtain ⟨W2, hW2⟩ : ∃ W2, W1.alloc (.cells #[.slice (some ⟨w.heap.size, 0, none⟩) n n] 22) = W2 := ⟨_, rfl⟩
  have rd2' : RdG kSl W2 (some ⟨w.heap.size + 1, 0, none⟩) 1 1 [(some ⟨w.heap.size, 0, none⟩, n, n)] := by rw [← hW2]; exact rd2
  rw [hW2] at s2 ⊢
  have s12 := s1.trans s2
  have out2 := R.out.keep s12 (fun h => h)
  refine ⟨out2.own, rd2', fun v7 w7 O7 G7 hat7 => ?_⟩
  have s7 := StepC.app (P := fun c => c = k + 1) s12.tidy G7 out2.col rfl hat7 O7.lt
  have s127 := (s12.mono (P' := fun c => c = k + 1) (fun _ h => h.elim)).trans s7
  have gr7 := (hG1.keep s2 (fun _ _ _ h => h)).keep s7 (fun c h1 h2 e => by omega)
  have bx7 := R.box.keep s127 (by omega)
  have tb7 := R.tab.keep s127 (by omega)
  have hlb : (slB n bs ++ [((some ⟨w.heap.size, 0, none⟩, n, n) : Slv)]).length = i + 1 := by
    have h1 := R.grid.len
    have h2 := R.mm.1
    simp [slB]; omega
  obtain ⟨A7, c7, rfl, _, _⟩ := O7.form hlb
  have s8 := StepC.set (P := fun c => c = k) (a := ⟨g, 0, none⟩) s127.tidy bx7.col (.slice A7 (i + 1) c7)
  refine ⟨A7, c7, _, rfl, bx7.free 0, bx7.cell 0 rfl, ⟨R.k1, by rw [List.length_append]; simp; omega, R.sdb, bx7.put 0 _, ?_, tb7.keep s8 (by omega), R.tabB, ?_⟩, ?_⟩
  · refine OwnKc.keep ⟨?_, HasCol.dye (.slice A7 (i + 1) c7) (k + 1)⟩ s8 (by omega)
    rw [show slB n (bs ++ [w.heap.size]) = slB n bs ++ [(some ⟨w.heap.size, 0, none⟩, n, n)] by simp [slB]]
    exact O7
  · exact gr7.keep s8 (fun c h1 h2 e => by omega)
  · exact (s127.mono fun c e => by unfold Rng; omega).trans (s8.mono fun c e => by unfold Rng; omega)
set_option maxHeartbeats 4000000 in
theorem skNew {TA : Option Addr} {tn tc : Nat} (ht : Tidy col w) (hk : 1 ≤ k) (hT : RdU w TA tn tc T) (depth width : Int) (hd : J64 depth) (hw : J64 width) (hs : 0 ≤ sd ∧ sd ≤ 18446744073709551615) :
    Calls Try.prog 13 #[.int .i64 depth, .int .i64 width, .slice TA tn tc, .int .u64 sd] w (NewSk col k depth width tn T sd w) := by
  have hTm := hT.max
  have hTc := hT.cap
  unfold J64 at hd hw
  by_cases hr : depth < 1 ∨ 4 < depth ∨ width < 1 ∨ 256 < width
  · have HE := Lib.hid (show ckE depth width tn = 1 from if_pos hr)
    clear hT
    have fin : ∀ w', Below w.heap.size w w' → NewSk col k depth width tn T sd w (.returned (.tuple #[.pointer none, .int .i64 1])) w' := fun w' hb => .inr ⟨by rw [HE.out]; decide, by rw [HE.out], hb⟩
    have HF := Lib.hid fin
    clear fin
    by_cases c1 : depth < 1
    · go_enter Try.func13, Try.ntmps13
      go_wp2
      go_ret2
      exact HF.out _ (Below.refl _ _)
    by_cases c2 : 4 < depth
    · go_enter Try.func13, Try.ntmps13
      go_wp2
      go_ret2
      exact HF.out _ (Below.refl _ _)
    by_cases c3 : width < 1
    · go_enter Try.func13, Try.ntmps13
      go_wp2
      go_ret2
      exact HF.out _ (Below.refl _ _)
    have c4 : 256 < width := by omega
    go_enter Try.func13, Try.ntmps13
    go_wp2
    go_ret2
    exact HF.out _ (Below.refl _ _)
  obtain ⟨d, rfl⟩ : ∃ d : Nat, depth = (d : Int) := ⟨depth.toNat, by omega⟩
  obtain ⟨n, rfl⟩ : ∃ n : Nat, width = (n : Int) := ⟨width.toNat, by omega⟩
  have h1 : ¬ (d : Int) < 1 := by omega
  have h2 : ¬ 4 < (d : Int) := by omega
  have h3 : ¬ (n : Int) < 1 := by omega
  have h4 : ¬ 256 < (n : Int) := by omega
  have hcE : ckE d n tn = tabE tn := if_neg hr
  have hTb := rtable_any TA tn tc w (by omega)
  by_cases h16 : tn = 16
  rotate_left
  · have e1 : tabE tn = 11 := if_neg h16
    rw [e1] at hTb hcE
    have HE := Lib.hid hcE
    clear hT hcE hr
    go_enter Try.func13, Try.ntmps13
    go_wp2_with fail
    refine hTb.mono ?_
    rintro e w1 ⟨rfl, hw1⟩
    subst hw1
    go_wp2
    go_ret2
    exact .inr ⟨by rw [HE.out]; decide, by rw [HE.out]; rfl, Below.refl _ _⟩
  subst h16
  have e1 : tabE 16 = 0 := if_pos rfl
  rw [e1] at hTb hcE
  have HE := Lib.hid hcE
  obtain ⟨CS, hmk, hOw⟩ := make_any kU (n := n) (by omega) (z := 0) rfl
  have hmk' : ∀ W : World, (Instr.makeSlice 22 (.int .i64 (n : Int)) (.int .i64 (n : Int))).run Try.prog W = .ok (.slice (some ⟨W.heap.size, 0, none⟩) n n) (W.alloc (.cells CS 34)) := hmk
  -- the words, cloned
  have b1 : Below w.heap.size w (w.alloc (.cells #[] 34)) := (Below.refl _ _).alloc (Nat.le_refl _) _
  have o1 : OwnK kU (w.alloc (.cells #[] 34)) (.slice (some ⟨w.heap.size, 0, none⟩) 0 0) [] := OwnK.empty kU rfl
  have r1 : RdG kU (w.alloc (.cells #[] 34)) TA 16 tc T := (hT.below b1).toK
  have hTl := hT.len
  have hTB := hT.2.2.2.1
  clear hT hcE hr hmk b1
  have hl2 : ([] ++ T : List Int).length = 16 := hTl
  have HN := Lib.hid (show ∀ A2 c2 w2, OwnK kU w2 (.slice A2 16 c2) ([] ++ T) → (w.alloc (.cells #[] 34)).grownBy w2 (Value.slice (some ⟨w.heap.size, 0, none⟩) 0 0).ownBlock → ((Value.slice A2 16 c2).ownBlock = (Value.slice (some ⟨w.heap.size, 0, none⟩) 0 0).ownBlock ∨ (Value.slice A2 16 c2).ownBlock = some (w.alloc (.cells #[] 34)).heap.size) →
      ∃ col', SkB col' (w2.alloc (.cells #[.slice none 0 0, .slice A2 16 c2, .int .u64 sd, .int .u64 0] 47)) k w2.heap.size n 0 0 none A2 c2 [] T sd [] 0 ∧ StepC (Rng k) col w col' (w2.alloc (.cells #[.slice none 0 0, .slice A2 16 c2, .int .u64 sd, .int .u64 0] 47)) from by
    intro A2 c2 w2 O2 G2 hat2
    have s1 := StepC.new ht (.cells #[] 34) (k + 2) (fun c => c = k + 2)
    have s2 := StepC.app (P := fun c => c = k + 2) s1.tidy G2 (HasCol.dye (.slice (some ⟨w.heap.size, 0, none⟩) 0 0) (k + 2)) rfl hat2 O2.lt
    have s3 := StepC.new s2.tidy (.cells #[.slice none 0 0, .slice A2 16 c2, .int .u64 sd, .int .u64 0] 47) k (fun _ => False)
    exact ⟨_, ⟨hk, by simp, hs, ⟨heap_alloc_new w2 _, dye_of⟩, OwnKc.nil kSl _ _ _, OwnKc.keep ⟨O2, HasCol.dye (.slice A2 16 c2) (k + 2)⟩ s3 (fun h => h), hTB, Grid.nil _ _ _ _⟩, ((s1.trans s2).trans (s3.mono fun _ h => h.elim)).mono fun c e => by unfold Rng; omega⟩)
  have HO := Lib.hid hOw
  clear hTl hTB hOw
  go_enter Try.func13, Try.ntmps13
  go_wp2_with fail
  refine hTb.mono ?_
  rintro e w1 ⟨rfl, hw1⟩
  subst hw1
  clear hTb
  go_wp2_with (at_builtin; refine wpList_appK kU rfl (.tmp 32) (.tmp 33) rfl _ [] rfl _ 16 tc T rfl o1 r1 (by simp) ?_; intro v2 w2 O2 G2 hat2; obtain ⟨A2, c2, rfl, _, _⟩ := O2.form hl2)
  obtain ⟨col0, R0, S0⟩ := HN.out A2 c2 w2 O2 G2 hat2
  obtain ⟨G, hG⟩ : ∃ G, w2.heap.size = G := ⟨_, rfl⟩
  obtain ⟨W3, hW3⟩ : ∃ W3, w2.alloc (.cells #[.slice none 0 0, .slice A2 16 c2, .int .u64 sd, .int .u64 0] 47) = W3 := ⟨_, rfl⟩
  rw [hG] at R0 ⊢
  rw [hW3] at R0 S0 ⊢
  clear hG hW3 O2 G2 hat2 o1 r1
  go_wp2
  go_loopw [12] (fun iv wr => ∃ (i : Nat) (A : Option Addr) (c : Nat) (bs : List Nat) (colr : Col), i ≤ d ∧ iv = .int .i64 (i : Int) ∧ SkB colr wr k G n i c A A2 c2 bs T sd (List.replicate i (List.replicate n 0)) 0 ∧ StepC (Rng k) col w colr wr) (fun iv _ => d - (intOf iv).toNat)
  case atStart => exact ⟨0, none, 0, [], col0, Nat.zero_le _, rfl, R0, S0⟩
  case round =>
    clear R0 S0
    obtain ⟨i, A, c, bs, colr, hi, rfl, R, S⟩ := hrel
    by_cases hlt : i < d
    · have hiI : (i : Int) < (d : Int) := by omega
      have bD := bdM wr
      have RD := R.below S.tidy bD
      have tD := S.tidy.size bD.size
      obtain ⟨hA1, hA2, hM⟩ := RD.more tD (by rw [List.length_replicate]; omega) (HO.out wr.drew) (fun z hz => by rw [(List.mem_replicate.1 hz).2]; omega)
      have x0 : wr.cell? ⟨G, 0, none⟩ = some (.slice A i c) := R.box.cell 0 rfl
      have x0d : wr.drew.cell? ⟨G, 0, none⟩ = some (.slice A i c) := x0
      have bA := bD.alloc bD.size (.cells CS 34)
      have bB := bA.alloc bA.size (.cells #[.slice (some ⟨wr.heap.size, 0, none⟩) n n] 22)
      have x0a : (wr.alloc (.cells CS 34)).cell? ⟨G, 0, none⟩ = some (.slice A i c) := (bA.cell (p := ⟨G, 0, none⟩) R.box.lt).trans x0
      have x0b : ((wr.alloc (.cells CS 34)).alloc (.cells #[.slice (some ⟨wr.heap.size, 0, none⟩) n n] 22)).cell? ⟨G, 0, none⟩ = some (.slice A i c) := (bB.cell (p := ⟨G, 0, none⟩) R.box.lt).trans x0
      have hA1' : OwnK kSl ((wr.drew.alloc (.cells CS 34)).alloc (.cells #[.slice (some ⟨wr.heap.size, 0, none⟩) n n] 22)) (.slice A i c) (slB n bs) := hA1
      have hA2' : RdG kSl ((wr.drew.alloc (.cells CS 34)).alloc (.cells #[.slice (some ⟨wr.heap.size, 0, none⟩) n n] 22)) (some ⟨wr.heap.size + 1, 0, none⟩) 1 1 [(some ⟨wr.heap.size, 0, none⟩, n, n)] := hA2
      have hby : (slB n bs).length + 1 ≤ 1000000000 := by have := R.grid.len; have := R.top; simp [slB]; omega
      have HM := Lib.hid hM
      have HS := Lib.hid (And.intro S (StepC.below (P := Rng k) S.tidy bD))
      clear R S hA1 hA2 hM RD tD bD bA bB
      go_wp2
      go_region_law ((refine step_appG kSl rfl (.tmp 47) (.tmp 50) rfl _ (slB n bs) rfl _ 1 1 [(some ⟨wr.heap.size, 0, none⟩, n, n)] rfl hA1' hA2' hby ?_; intro v7 w7 O7 G7 hat7; obtain ⟨A7, c7, col7, rfl, f7, x7, R7, S7⟩ := HM.out v7 w7 O7 G7 hat7))
      all_goals
        have HR := Lib.hid (And.intro R7 S7)
        clear R7 S7 O7 G7 hat7 hA1' hA2' x0 x0a x0b x0d
        go_wp2
        go_roundw
        case rel => exact ⟨i + 1, A7, c7, _, col7, by omega, by go_num, by rw [List.replicate_succ']; exact HR.out.1, HS.out.1.trans (HS.out.2.trans HR.out.2)⟩
        case measure => (simp [intOf] <;> omega)
    · have hiI : ¬ (i : Int) < (d : Int) := by omega
      obtain rfl : i = d := by omega
      have HD := Lib.hid (show DidSk col k w G T sd (newK i n) wr from ⟨colr, ⟨n, i, c, A, A2, c2, bs, newK_good (by omega) (by omega), R⟩, S⟩)
      clear R S
      go_wp2
      go_ret2
      exact .inl ⟨HE.out, G, rfl, by simpa using HD.out⟩
end
end Go.Proofs.Ytcckfdhajbbieaa

/- All that the statements use of the program's sketches, as structures of contracts over a representation. Conditions: none beyond those typed. -/
namespace Go.Proofs.Ytcckfdhajbbieaa
open Go.ChangeShapes Go.WideShapes Go.ChangeAt Go.RowKit
set_option linter.unusedVariables false
set_option linter.unusedSimpArgs false

/-- A slice of rows, all in blocks from a number on. -/
def RdRi (base : Nat) (w : World) (A : Option Addr) (n c : Nat) (rows : List (List Int)) : Prop :=
  ∃ sl : List Slv, RdG kSl w A n c sl ∧ rows.length = n ∧ (∀ (j : Nat) (s : Slv) (r : List Int), sl[j]? = some s → rows[j]? = some r → RdU w s.1 s.2.1 s.2.2 r) ∧ (∀ b o, A = some ⟨b, o, none⟩ → base ≤ b) ∧ ∀ s ∈ sl, ∀ b o, s.1 = some ⟨b, o, none⟩ → base ≤ b
section
variable {base n c gd : Nat} {w w' : World} {A : Option Addr} {rows : List (List Int)}
theorem RdRi.rd (h : RdRi base w A n c rows) : RdR w A n c rows := by
  obtain ⟨sl, h1, h2, h3, _⟩ := h
  exact ⟨sl, h1, h2, h3⟩
theorem RdU.far' {l : List Int} (h : RdU w A n c l) (hb : ∀ b o, A = some ⟨b, o, none⟩ → b < w.heap.size → w'.heap[b]? = w.heap[b]?) : RdU w' A n c l := RdU.ofK (h.toK.far hb) h.2.2.2.1
theorem RdRi.far (h : RdRi base w A n c rows) (hb : ∀ b, base ≤ b → b < w.heap.size → w'.heap[b]? = w.heap[b]?) : RdRi base w' A n c rows := by
  obtain ⟨sl, h1, h2, h3, h4, h5⟩ := h
  exact ⟨sl, h1.far fun b o e hl => hb b (h4 b o e) hl, h2, fun j s r hs hr => (h3 j s r hs hr).far' fun b o e hl => hb b (h5 s (List.mem_of_getElem? hs) b o e) hl, h4, h5⟩
theorem RdRi.below (h : RdRi base w A n c rows) (hb : Below w.heap.size w w') : RdRi base w' A n c rows := h.far fun b _ hl => hb.block b hl
theorem RdRi.grown (h : RdRi base w A n c rows) (hg : w.grownBy w' (some gd)) (hl : gd < base) : RdRi base w' A n c rows := h.far fun b h1 h2 => hg.block b h2 fun e => by injection e with e; omega
end
/-- The sketch s with the words T and a seed lies in block g, with the base colour k. -/
abbrev RepSk := Col → Nat → World → Nat → List Int → Int → KSt → Prop
def DidPsk (PK : RepSk) (col : Col) (k : Nat) (w : World) (g : Nat) (T : List Int) (sd : Int) (s : KSt) (w' : World) : Prop := ∃ col', PK col' k w' g T sd s ∧ StepC (Rng k) col w col' w'
def NewPsk (PK : RepSk) (col : Col) (k : Nat) (depth width : Int) (tn : Nat) (T : List Int) (sd : Int) (w : World) (e : Ending) (w' : World) : Prop :=
  (ckE depth width tn = 0 ∧ ∃ g, e = .returned (.tuple #[.pointer (some ⟨g, 0, none⟩), .int .i64 0]) ∧ DidPsk PK col k w g T sd (newK depth.toNat width.toNat) w') ∨ (ckE depth width tn ≠ 0 ∧ e = .returned (.tuple #[.pointer none, .int .i64 (ckE depth width tn)]) ∧ Below w.heap.size w w')
structure ProgSk (PK : RepSk) : Prop where
  keep : ∀ {P : Nat → Prop} {col col' : Col} {w w' : World} {k g : Nat} {T : List Int} {sd : Int} {s : KSt}, PK col k w g T sd s → StepC P col w col' w' → (∀ c, Rng k c → ¬ P c) → ¬ P 0 → PK col' k w' g T sd s
  good : ∀ {col : Col} {w : World} {k g : Nat} {T : List Int} {sd : Int} {s : KSt}, PK col k w g T sd s → ∃ n, GoodK n s
  new : ∀ {col : Col} {k : Nat} {w : World} {TA : Option Addr} {tn tc : Nat} {T : List Int} {sd : Int}, Tidy col w → 1 ≤ k → RdU w TA tn tc T → ∀ depth width : Int, J64 depth → J64 width → (0 ≤ sd ∧ sd ≤ 18446744073709551615) → Calls Try.prog 12 #[.int .i64 depth, .int .i64 width, .slice TA tn tc, .int .u64 sd] w (NewPsk PK col k depth width tn T sd w)
  add : ∀ {col : Col} {k g : Nat} {w : World} {T : List Int} {sd : Int} {s : KSt}, PK col k w g T sd s → Tidy col w → ∀ (key : ByteArray) (x : Int), key.size ≤ 281474976710656 → (0 ≤ x ∧ x ≤ 18446744073709551615) → Calls Try.prog 14 #[.pointer (some ⟨g, 0, none⟩), .string key, .int .u64 x] w fun e w' => e = .returned (.int .i64 (s.add (ixH T sd) key x).1) ∧ DidPsk PK col k w g T sd (s.add (ixH T sd) key x).2 w'
  est : ∀ {col : Col} {k g : Nat} {w : World} {T : List Int} {sd : Int} {s : KSt}, PK col k w g T sd s → Tidy col w → ∀ key : ByteArray, key.size ≤ 281474976710656 → Calls Try.prog 15 #[.pointer (some ⟨g, 0, none⟩), .string key] w fun e w' => e = .returned (.int .u64 (estK (ixH T sd) s.rows key)) ∧ Below w.heap.size w w'
  total : ∀ {col : Col} {k g : Nat} {w : World} {T : List Int} {sd : Int} {s : KSt}, PK col k w g T sd s → Tidy col w → Calls Try.prog 16 #[.pointer (some ⟨g, 0, none⟩)] w fun e w' => e = .returned (.int .u64 s.sum) ∧ Below w.heap.size w w'
  rows : ∀ {col : Col} {k g : Nat} {w : World} {T : List Int} {sd : Int} {s : KSt}, PK col k w g T sd s → Tidy col w → Calls Try.prog 17 #[.pointer (some ⟨g, 0, none⟩)] w fun e w' => ∃ A n c, e = .returned (.slice A n c) ∧ n ≤ c ∧ c ≤ 9223372036854775807 ∧ RdRi w.heap.size w' A n c s.rows ∧ Below w.heap.size w w'
/-- The estimate by rows alone. -/
structure ProgSo : Prop where
  of : ∀ {A TA : Option Addr} {n c tn tc : Nat} {rows : List (List Int)} {t : List Int} {sd : Int} (key : ByteArray) (w : World), RdR w A n c rows → RdU w TA tn tc t → (0 ≤ sd ∧ sd ≤ 18446744073709551615) → key.size ≤ 281474976710656 → (n ≤ c ∧ c ≤ 9223372036854775807) → Calls Try.prog 22 #[.slice A n c, .slice TA tn tc, .int .u64 sd, .string key] w fun e w' => e = .returned (.int .u64 (estT t sd rows key)) ∧ Below w.heap.size w w'
/-- What a nil sketch returns. -/
structure ProgSn : Prop where
  add : ∀ (w : World) (s : ByteArray) (x : Int), Calls Try.prog 14 #[.pointer none, .string s, .int .u64 x] w fun e w' => e = .returned (.int .i64 8) ∧ Below w.heap.size w w'
  est : ∀ (w : World) (s : ByteArray), Calls Try.prog 15 #[.pointer none, .string s] w fun e w' => e = .returned (.int .u64 0) ∧ Below w.heap.size w w'
  total : ∀ w : World, Calls Try.prog 16 #[.pointer none] w fun e w' => e = .returned (.int .u64 0) ∧ Below w.heap.size w w'
  rows : ∀ w : World, Calls Try.prog 17 #[.pointer none] w fun e w' => ∃ A c, e = .returned (.slice A 0 c) ∧ Below w.heap.size w w'
/-- Nothing elder has turned, and a sketch. -/
structure AtSk (PK : RepSk) (w0 : World) (col : Col) (W : World) (k g : Nat) (T : List Int) (sd : Int) (s : KSt) : Prop where
  since : Since w0 col W
  pt : PK col k W g T sd s
section
variable {PK : RepSk} {w0 W W' : World} {col col' : Col} {k g : Nat} {T : List Int} {sd : Int} {s s' : KSt}
theorem ProgSk.below (HP : ProgSk PK) (h : PK col k W g T sd s) (ht : Tidy col W) (hb : Below W.heap.size W W') : PK col k W' g T sd s := HP.keep (P := fun _ => False) h (StepC.below ht hb) (fun _ _ h => h) (fun h => h)
theorem AtSk.tidy (h : AtSk PK w0 col W k g T sd s) : Tidy col W := h.since.tidy
theorem AtSk.below (HP : ProgSk PK) (h : AtSk PK w0 col W k g T sd s) (hb : Below W.heap.size W W') : AtSk PK w0 col W' k g T sd s := ⟨h.since.belowL hb, HP.below h.pt h.tidy hb⟩
theorem AtSk.did (h : AtSk PK w0 col W k g T sd s) (hk : 1 ≤ k) (hd : DidPsk PK col k W g T sd s' W') : ∃ col', AtSk PK w0 col' W' k g T sd s' := by
  obtain ⟨col', h1, s⟩ := hd
  exact ⟨col', h.since.step s (rng0 hk), h1⟩
end
end Go.Proofs.Ytcckfdhajbbieaa

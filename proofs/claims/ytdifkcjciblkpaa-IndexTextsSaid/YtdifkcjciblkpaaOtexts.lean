/- The statements about package index: IndexTexts. Conditions: the program's tables keep their contracts (ProgMi, ProgMs). -/
import Derived.Test.YtdifkcjciblkpaaOsteps
import Derived.Test.YtdifkcjciblkpaaKargs
namespace Go.Proofs.Ytdifkcjciblkpaa
open Go.ChangeShapes Go.WideShapes Go.ChangeAt Go.RowKit
set_option linter.unusedVariables false
set_option linter.unusedSimpArgs false
set_option maxRecDepth 100000

abbrev vs : ByteArray := ⟨#[118]⟩
/-- The first i keys have their texts, and no others are there. -/
structure Ty1 (m : MSt ByteArray) (K : List ByteArray) (i : Nat) : Prop where
  good : GoodM m
  n : m.n = 40
  len : m.l.length ≤ i
  yes : ∀ t, t ∈ K.take i → m.look t = some (vs ++ t)
  no : ∀ t, t ∉ K.take i → m.look t = none
/-- The first i of cnt keys are gone. -/
structure Ty3 (m : MSt ByteArray) (K : List ByteArray) (cnt i : Nat) : Prop where
  good : GoodM m
  no : ∀ t, t ∉ K.take cnt ∨ t ∈ K.take i → m.look t = none
section
variable {m : MSt ByteArray} {K : List ByteArray} {i j cnt : Nat} {s : ByteArray}
theorem Ty1.new (K : List ByteArray) : Ty1 (newM ByteArray 40) K 0 := ⟨newM_good (by omega) (by omega), rfl, Nat.zero_le _, fun t h => by simp at h, fun t _ => newM_look _ _⟩
theorem mem_take1 (hs : K[i]? = some s) (t : ByteArray) : t ∈ K.take (i + 1) ↔ t ∈ K.take i ∨ t = s := by
  rw [List.take_add_one, hs]; simp
theorem Ty1.put (h : Ty1 m K i) (hs : K[i]? = some s) (hi : i < 40) : (m.put s (vs ++ s)).1 = 0 ∧ Ty1 (m.put s (vs ++ s)).2 K (i + 1) := by
  have hl := h.len
  have hn := h.n
  have h0 : (m.put s (vs ++ s)).1 = 0 ∧ (m.put s (vs ++ s)).2.l.length ≤ i + 1 := by
    cases hk : m.look s with
    | some u => have := put_old hk (vs ++ s); exact ⟨this.1, by omega⟩
    | none => have := put_fresh hk (by omega) (vs ++ s); exact ⟨this.1, by omega⟩
  have hp := put_look h.good s (vs ++ s) h0.1
  refine ⟨h0.1, h.good.put _ _, (put_n _ _ _).trans hn, h0.2, fun t ht => ?_, fun t ht => ?_⟩
  · rw [hp]
    by_cases e : t = s
    · rw [if_pos e, e]
    · rw [if_neg e]
      exact h.yes t (((mem_take1 hs t).1 ht).resolve_right e)
  · rw [hp, if_neg fun e => ht ((mem_take1 hs t).2 (.inr e))]
    exact h.no t fun e => ht ((mem_take1 hs t).2 (.inl e))
theorem Ty1.get (h : Ty1 m K cnt) (hs : K[j]? = some s) (hj : j < cnt) : getG ⟨#[]⟩ m s = (vs ++ s, true) := by
  have hm : s ∈ K.take cnt := by
    rw [List.mem_iff_getElem?]; exact ⟨j, by rw [List.getElem?_take_of_lt hj]; exact hs⟩
  unfold getG; rw [h.yes s hm]; rfl
theorem Ty1.all (h : Ty1 m K cnt) : Ty3 m K cnt 0 := ⟨h.good, fun t ht => h.no t (ht.resolve_right fun e => by simp at e)⟩
theorem Ty3.del (h : Ty3 m K cnt i) (hs : K[i]? = some s) : Ty3 (m.del s) K cnt (i + 1) ∧ getG ⟨#[]⟩ (m.del s) s = (⟨#[]⟩, false) := by
  have hd := del_look h.good s
  refine ⟨⟨h.good.del s, fun t ht => ?_⟩, by unfold getG; rw [hd, if_pos rfl]; rfl⟩
  rw [hd]
  by_cases e : t = s
  · rw [if_pos e]
  · rw [if_neg e]
    exact h.no t (ht.imp_right fun h => ((mem_take1 hs t).1 h).resolve_right e)
theorem Ty3.fin (h : Ty3 m K cnt cnt) : m.l.length = 0 := by
  cases hl : m.l with
  | nil => rfl
  | cons p r =>
    have hm : (p.1, p.2) ∈ m.l := by rw [hl]; exact List.mem_cons_self ..
    have h1 : m.look p.1 = some p.2 := (look_mem h.good.srt).2 hm
    rw [h.no p.1 ((Classical.em _).symm)] at h1
    cases h1
end
set_option maxHeartbeats 8000000 in
theorem indexTexts_walk {PM : RepM Int} {PS : RepM ByteArray} (HK : ProgMk PM) (HS : ProgMs PS) (B : Option Addr) (p c : Nat) (K : List ByteArray) (A : Option Addr) (m d : Nat) (w : World) (hB : RdG kT w B p c K) (hsz : ∀ s ∈ K, s.size ≤ 140737488351232) (hA : RdI w A m d) :
    Calls Try.prog 6 #[.slice B p c, .slice A m d] w (Yes w) := by
  have HP := HK.all
  have hcapB := hB.cap
  have hmaxB := hB.max
  have hS0 := Since.start w
  go_enter Try.func6, Try.ntmps6
  go_wp2_with fail
  refine (new_any _ _ _ _).mono ?_
  rintro e w1 ⟨rfl, rfl⟩
  have D1 := DkS.new hA
  generalize w.alloc (.cells #[.slice A m d, .int .i64 0] 57) = W1 at *
  generalize dye (fun _ => 0) (some w.heap.size) 1 = col1 at *
  generalize w.heap.size = gd at *
  clear hA
  go_wp2_with fail
  refine (table_dk D1.dk).mono ?_
  rintro e W3 ⟨bt, ct, T', rfl, hT, hbt, h3, g3⟩
  obtain ⟨D3, s3⟩ := D1.deck h3 g3
  have R3 : RdU0 _ W3 (some ⟨bt, 0, none⟩) 16 ct T' := ⟨hT, fun _ b o sp e => by injection e with e; injection e with e; subst e; exact D1.tidy _ hbt⟩
  have S3 := D3.since
  clear D1 D3 h3 g3 hT hbt s3
  go_wp2_with fail
  refine (HS.new (k := 16) S3.tidy (by omega) R3 40 5 (by omega) (by omega)).mono ?_
  rintro e W4 (⟨_, g, rfl, hd⟩ | ⟨h0, _⟩)
  rotate_left
  · exact absurd (show mapE 40 16 = 0 by decide) h0
  obtain ⟨col4, p4, s4⟩ := hd
  have A4 : AtM PS w col4 W4 16 g (newM ByteArray 40) := ⟨S3.step s4 (rng0 (by omega)), p4⟩
  clear S3 R3 s4 p4 hS0
  go_wp2
  go_loopw [7] (fun iv wr => ∃ (i : Nat) (col : Col) (q : MSt ByteArray), i ≤ p ∧ i ≤ 40 ∧ iv = .int .i64 i ∧ AtM PS w col wr 16 g q ∧ Ty1 q K i) (fun iv _ => p - (intOf iv).toNat)
  case atStart => exact ⟨0, _, _, Nat.zero_le _, Nat.zero_le _, rfl, A4, Ty1.new K⟩
  case round =>
    clear A4
    obtain ⟨i, col, q, hip, hi40, rfl, T, Y⟩ := hrel
    by_cases hend : i < p ∧ i < 40
    · have hpi : (i : Int) < (p : Int) := by omega
      have h4i : (i : Int) < 40 := by omega
      obtain ⟨b, o, s, rfl, hs, hm, hbw, c00⟩ := hB.atT hend.1
      have c0 : wr.cell? ⟨b, o + i, none⟩ = some (.string s) := (T.since.below.cell (p := ⟨b, o + i, none⟩) hbw).trans c00
      have hcz : ¬ Rng 16 (col b) := by rw [T.since.elder b hbw]; exact rng0 (by omega)
      have hss := hsz s hm
      obtain ⟨hp0, Y2⟩ := Y.put hs hend.2
      have hsz1 : s.size ≤ 281474976710656 := by omega
      have hszv : (vs ++ s).size ≤ 9223372036854775807 := by rw [ba_append_size]; have : vs.size = 1 := rfl; omega
      have hlim : ¬ 9223372036854775807 < vs.size + s.size := by have : vs.size = 1 := rfl; omega
      have hlim1 : ¬ 9223372036854775807 < 1 + s.size := by omega
      have hlim2 : 1 + s.size ≤ 9223372036854775807 := by omega
      have hDd := HS.below T.pm T.tidy (Below.refl _ _).drew
      have tdd : Tidy col wr.drew := T.tidy.size (Below.refl wr.heap.size wr).drew.size
      have Sd := T.since.below2 (Below.refl _ _).drew
      have HY := Lib.hid Y2
      have hBB := Lib.hid hB
      clear Y Y2 hs hm T c00 hbw
      go_wp2
      go_region_held3 (fun w' => w'.cell? ⟨b, o + i, none⟩ = some (.string s)) (first | exact c0 | exact c5)
        (first | (go_at_call 25; refine (HS.put hDd tdd s (vs ++ s) hsz1 hszv).mono ?_; rintro e5 w5 ⟨rfl, hd5⟩; obtain ⟨col5, p5, s5⟩ := hd5; have c5 := s5.cell (a := ⟨b, o + i, none⟩) (show wr.drew.cell? ⟨b, o + i, none⟩ = some (.string s) from c0) (hcz)))
      clear hDd tdd hBB hlim hlim1 hlim2 hp0
      have A5 : AtM PS w col5 w5 16 g _ := ⟨Sd.step s5 (rng0 (by omega)), p5⟩
      clear Sd s5 p5 c5 c0
      go_wp2
      go_roundw
      case rel => exact ⟨i + 1, _, _, by omega, by omega, by go_num, A5, HY.out⟩
      case measure => (simp [intOf] <;> omega)
    · have hcnt : ∀ j : Nat, j < i → j < p ∧ j < 40 := fun j hj => by omega
      have hcnt2 : ∀ j : Nat, ¬ j < i → j ≤ i → ¬ (j < p ∧ j < 40) := fun j hj hj2 => by omega
      have hguard := Lib.hid hcnt2
      have HY := Lib.hid Y
      have HT := Lib.hid T
      clear Y T hcnt2
      by_cases hp : i < p
      rotate_left
      focus
        have hpi : ¬ (i : Int) < (p : Int) := by omega
        go_wp2
      rotate_left
      focus
        have hpi : (i : Int) < (p : Int) := by omega
        have h4i : ¬ (i : Int) < 40 := by omega
        go_wp2
      all_goals
        go_loopw [8] (fun iv wq => ∃ j : Nat, j ≤ i ∧ iv = .int .i64 j ∧ AtM PS w col wq 16 g q) (fun iv _ => i - (intOf iv).toNat)
        case atStart => exact ⟨0, Nat.zero_le _, rfl, HT.out⟩
        case round =>
          clear HT
          obtain ⟨j, hj, rfl, T2⟩ := hrel
          by_cases hji : j < i
          · have hpj : (j : Int) < (p : Int) := by omega
            have h4j : (j : Int) < 40 := by omega
            obtain ⟨b, o, s, rfl, hs, hm, hbw, c00⟩ := hB.atT (show j < p by omega)
            have c0 : wr.cell? ⟨b, o + j, none⟩ = some (.string s) := (T2.since.below.cell (p := ⟨b, o + j, none⟩) hbw).trans c00
            have hss := hsz s hm
            have hsz1 : s.size ≤ 281474976710656 := by omega
            have hlim : ¬ 9223372036854775807 < vs.size + s.size := by have : vs.size = 1 := rfl; omega
            have hlim1 : ¬ 9223372036854775807 < 1 + s.size := by omega
            have E1 := Lib.hid (HY.out.get hs hji)
            have hTT := Lib.hid T2
            clear hs hm c00 T2 hB
            go_wp2_with fail
            refine (HS.get hTT.out.pm hTT.out.tidy s hsz1).mono ?_
            rintro e w5 ⟨rfl, hb5⟩
            rw [E1.out]
            have A5 := hTT.out.below HS hb5
            have c5 : w5.cell? ⟨b, o + j, none⟩ = some (.string s) := (hb5.cell (p := ⟨b, o + j, none⟩) (World.block_lt_of_cell? _ _ c0)).trans c0
            have hne : ((vs ++ s).toList != (vs ++ s).toList) = false := by simp
            clear hb5 hTT c0
            go_wp2
            go_roundw
            case rel => exact ⟨j + 1, by omega, by go_num, A5⟩
            case measure => (simp [intOf] <;> omega)
          · obtain rfl : j = i := by omega
            have hTT := Lib.hid T2
            have HZ := Lib.hid HY.out.all
            clear T2 hji
            go_wp2
            go_loopw [11] (fun iv wq => ∃ (k : Nat) (col : Col) (q : MSt ByteArray), k ≤ j ∧ iv = .int .i64 k ∧ AtM PS w col wq 16 g q ∧ Ty3 q K j k) (fun iv _ => j - (intOf iv).toNat)
            case atStart => exact ⟨0, _, _, Nat.zero_le _, rfl, hTT.out, HZ.out⟩
            case round =>
              clear hTT HZ HY
              obtain ⟨k, col, q, hk, rfl, T3, Y3⟩ := hrel
              by_cases hkj : k < j
              · have hpk : (k : Int) < (p : Int) := by omega
                have h4k : (k : Int) < 40 := by omega
                obtain ⟨b, o, s, rfl, hs, hm, hbw, c00⟩ := hB.atT (show k < p by omega)
                have c0 : wr.cell? ⟨b, o + k, none⟩ = some (.string s) := (T3.since.below.cell (p := ⟨b, o + k, none⟩) hbw).trans c00
                have hss := hsz s hm
                have hsz1 : s.size ≤ 281474976710656 := by omega
                obtain ⟨Y4, E4⟩ := Y3.del hs
                have HY4 := Lib.hid Y4
                have HE4 := Lib.hid E4
                have hTT := Lib.hid T3
                clear hs hm T3 Y3 Y4 E4 hB
                go_wp2_with fail
                refine (HS.del hTT.out.pm hTT.out.tidy s hsz1).mono ?_
                rintro e w5 ⟨rfl, hd5⟩
                obtain ⟨col5, A5⟩ := hTT.out.did (by omega) hd5
                have c5 : w5.cell? ⟨b, o + k, none⟩ = some (.string s) := (A5.since.below.cell (p := ⟨b, o + k, none⟩) hbw).trans c00
                clear hTT hd5 c0
                go_wp2_with fail
                refine (HS.get A5.pm A5.tidy s hsz1).mono ?_
                rintro e w6 ⟨rfl, hb6⟩
                rw [HE4.out]
                have A6 := A5.below HS hb6
                have hne : ((⟨#[]⟩ : ByteArray).toList != (⟨#[]⟩ : ByteArray).toList) = false := by simp
                clear A5 hb6 c5 c00
                go_wp2
                go_roundw
                case rel => exact ⟨k + 1, _, _, by omega, by go_num, A6, HY4.out⟩
                case measure => (simp [intOf] <;> omega)
              · obtain rfl : k = j := by omega
                have E5 := Lib.hid Y3.fin
                have hTT := Lib.hid T3
                clear T3 Y3 hkj
                go_wp2_with fail
                refine (HS.len hTT.out.pm hTT.out.tidy).mono ?_
                rintro e w5 ⟨rfl, hb5⟩
                rw [E5.out]
                have S5 := hTT.out.since.below2 hb5
                clear hTT hb5
                go_wp2_with fail
                refine (oawake_any HP _).mono ?_
                rintro e WI ⟨rfl, hbI⟩
                have hb := (S5.below2 hbI).below
                clear S5 hbI
                go_wp2
                go_ret
                exact ⟨rfl, hb⟩
end Go.Proofs.Ytdifkcjciblkpaa

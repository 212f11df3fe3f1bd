/- The statements about package pool: PoolEmpty. Conditions: the program's arena keeps its contracts (ProgA). -/
import Derived.Test.YtenchaifnfgijaaNdeck
namespace Go.Proofs.Ytenchaifnfgijaa
open Go.ChangeShapes Go.WideShapes Go.ChangeAt Go.RowKit
set_option linter.unusedVariables false
set_option linter.unusedSimpArgs false
set_option maxRecDepth 100000

set_option maxHeartbeats 8000000 in
theorem poolEmpty_walk {PA : Rep} (HP : ProgA PA) (A : Option Addr) (m d : Nat) (w : World) (hA : RdI w A m d) :
    Calls Try.prog 6 #[.slice A m d] w (Yes w) := by
  go_enter Try.func6, Try.ntmps6
  go_wp2_with fail
  refine (new_any _ _ _ _).mono ?_
  rintro e w1 ⟨rfl, rfl⟩
  have D1 := DkS.new hA
  generalize hW1 : w.alloc (.cells #[.slice A m d, .int .i64 0] 66) = W1 at *
  have R1 : RdG kC (W1.alloc (.cells #[.int .i64 4, .int .i64 40] 61)) (some ⟨W1.heap.size, 0, none⟩) 1 1 [((4 : Int), (40 : Int))] := RdG.lit kC W1 [((4 : Int), (40 : Int))] rfl (by simp [maxLen]) _
  have D2 := D1.below ((Below.refl W1.heap.size W1).alloc (Nat.le_refl _) (.cells #[.int .i64 4, .int .i64 40] 61))
  clear D1 hA hW1
  go_wp2_with fail
  refine (HP.new (k := 32) D2.tidy (by omega) R1 (by omega) (by intro x hx; simp at hx; subst hx; simp [I64])).mono ?_
  rintro e W2 (⟨_, ga, rfl, hd⟩ | ⟨h0, _⟩)
  rotate_left
  · exact absurd (show clsE [((4 : Int), (40 : Int))] = 0 by decide) h0
  obtain ⟨col2, p2, s2⟩ := hd
  have D3 := D2.step s2 (fun e => by have := r32 e; omega) (rng0 (by omega))
  clear D2 R1 s2
  go_wp2_with fail
  refine (pqNew (k := 16) (ga := ga) D3.tidy (by omega) 40 (by simp [I64])).mono ?_
  rintro e W3 (⟨_, g, rfl, col3, p3, s3⟩ | ⟨h0, _⟩)
  rotate_left
  · exact absurd h0 (by decide)
  have Q3 : DkQ PA w w.heap.size A m d g ga 0 col3 (newQ 40) (newA [((4 : Int), (40 : Int))]) W3 := ⟨D3.step s3 (fun e => by have := r16 e; omega) (rng0 (by omega)), p3, HP.keep p2 s3 (fun c h1 h2 => ap12.no c h2 h1) ap12.z1, Lnk.new _ _, Nat.le_refl _, Nat.le_refl _⟩
  clear D3 p2 p3 s3
  generalize w.heap.size = gd at *
  go_wp2_with fail
  refine (next_dk Q3.ds.dk 30 (by omega) (by omega)).mono ?_
  rintro e W4 ⟨k0, hk0, rfl, h4, g4⟩
  obtain ⟨Q4, _⟩ := Q3.deck HP h4 g4
  have V4 := OwnKc.nil kI col3 W4 2
  have hS4 := Sole.new 4 40 (n := 40) rfl
  have hU4 := Uses.new 40
  clear Q3 h4 g4
  go_wp2_with fail
  have hk29 : k0 ≤ 29 := by omega
  clear hk0
  go_loopw [8, 9] (fun v kv wr => ∃ (k : Nat) (col : Col) (q : PSt) (x : ASt) (is : List Nat), k + is.length ≤ 29 ∧ kv = .int .i64 k ∧ DkQ PA w gd A m d g ga (2 * is.length) col q x wr ∧ OwnKc kI col wr 2 v (idsI is) ∧ Sole 4 40 q x ∧ Uses is q ∧ aliveN q.e ≤ is.length) (fun _ kv _ => (intOf kv).toNat)
  case atStart => exact ⟨k0, col3, newQ 40, newA [((4 : Int), (40 : Int))], [], by simp; omega, rfl, Q4, V4, hS4, hU4, Nat.le_refl _⟩
  case round =>
    clear Q4 V4 hS4 hU4 hk29
    obtain ⟨k, col, q, x, is, hk, rfl, Q, V, S, U, hal⟩ := hrel
    have hqn : q.n = 40 := by have := S.n; omega
    by_cases hpos : 0 < k
    · obtain ⟨K, hK⟩ : ∃ K, k = K + 1 := ⟨k - 1, by omega⟩
      have hki : (0 : Int) < (k : Int) := by omega
      have hw1 : IntKind.i64.wrap ((k : Int) - 1) = (K : Int) := by rw [IntKind.wrap_i64]; omega
      have hw2 : IntKind.i64.wrap (K : Int) = (K : Int) := by rw [IntKind.wrap_i64]; omega
      have HK := Lib.hid hK
      have HKK := Lib.hid hk
      clear hK hpos
      go_wp2_with fail
      refine (short_dk Q.ds.dk).mono ?_
      rintro e w5 ⟨s, hs, rfl, h5, g5⟩
      obtain ⟨Q5, s5⟩ := Q.deck HP h5 g5
      have V5 := V.keep s5 (by omega)
      have hT := Q5.t
      have hin := S.intern (HP.good Q5.pa) Q5.lnk (s := s) (by omega) (by omega) (by omega) (by omega)
      clear Q V h5 g5 s5
      go_wp2_with fail
      refine (pqIntern HP Q5.pq Q5.pa Q5.lnk ap12 Q5.ds.tidy (by omega) (by omega) s (by simp only [maxLen]; omega)).mono ?_
      rintro e w6 ⟨rfl, hd⟩
      obtain ⟨i, hi1, hil, _, _, hus, hal'⟩ := took_intern hin.1
      obtain ⟨he0, S6⟩ := hin
      rw [hi1, he0]
      obtain ⟨col6, Q6, s6⟩ := Q5.did hd (Q5.lnk.inP (HP.good Q5.pa) s) ⟨(inP_t q x s).1, by have := (intern_t q x s).1; omega⟩
      have V6 := V5.keep s6 (no12 (by omega))
      have U6 := U.more hus
      clear Q5 V5 hd s6 hi1 he0 hus S U hT
      generalize (q.intern x s).2 = q' at *
      generalize q.inP x s = x' at *
      obtain ⟨AV, cV, rfl, rV, _⟩ := V6.own.form (idsI_len is)
      have hcV := rV.cap
      have hmV := rV.max
      have b7 : Below w6.heap.size w6 (w6.alloc (.cells #[.int .i64 ((i : Int) + 1)] 3)) := (Below.refl _ _).alloc (Nat.le_refl _) _
      have Q7 := Q6.below HP b7
      have V7 := V6.keep (P := fun _ => False) (StepC.below Q6.ds.tidy b7) (fun h => h)
      have R7 : RdG kI (w6.alloc (.cells #[.int .i64 ((i : Int) + 1)] 3)) (some ⟨w6.heap.size, 0, none⟩) 1 1 [((i : Int) + 1)] := RdG.one' kI rfl ((i : Int) + 1)
      have hby : (idsI is).length + 1 ≤ 1000000000 := by rw [idsI_len]; omega
      have hl8 : (idsI is ++ [(i : Int) + 1]).length = is.length + 1 := by simp [idsI_len]
      have o7 := V7.own
      have HQ7 := Lib.hid Q7
      have HV7 := Lib.hid V7
      have HIL := Lib.hid hil
      clear Q6 V6 Q7 V7 rV b7 hil
      go_wp2_with (at_builtin; refine wpList_appK kI rfl (.tmp 58) (.tmp 60) rfl _ (idsI is) rfl _ 1 1 [((i : Int) + 1)] rfl o7 R7 hby ?_; intro v8 w8 O8 G8 hat8; obtain ⟨A8, c8, rfl, _⟩ := O8.form hl8)
      obtain ⟨col8, Q8, V8⟩ : ∃ col8, DkQ PA w gd A m d g ga (2 * is.length + 2) col8 q' x' w8 ∧ OwnKc kI col8 w8 2 (.slice A8 (is.length + 1) c8) (idsI (is ++ [i])) := ⟨_, HQ7.out.small HP (StepC.app (P := fun c => c = 2) HQ7.out.ds.tidy G8 HV7.out.col rfl hat8 O8.lt), by rw [idsI_app]; exact OwnKc.mk' kI O8⟩
      clear HQ7 HV7 O8 G8 hat8 o7 R7
      have hT8 := Q8.t
      refine (HP.usage Q8.pa Q8.ds.tidy (by omega)).mono ?_
      rintro e w9 ⟨AU, cU, rfl, uU, hbU⟩
      have hL1 : x'.L.length = 1 := by rw [S6.L]; rfl
      rw [hL1] at uU ⊢
      have Q9 := Q8.below HP hbU
      have V9 := V8.keep (P := fun _ => False) (StepC.below Q8.ds.tidy hbU) (fun h => h)
      have b10 : Below w9.heap.size w9 (w9.alloc (.cells #[.slice AU 1 cU, .int .i64 (bytesN x'.L x'.s), .int .i64 (x'.fa : Int)] 56)) := (Below.refl _ _).alloc (Nat.le_refl _) _
      have XU := BoxC.lit Q9.ds.tidy #[.slice AU 1 cU, .int .i64 (bytesN x'.L x'.s), .int .i64 (x'.fa : Int)] 56
      have Q10 := Q9.below HP b10
      have V10 := V9.keep (P := fun _ => False) (StepC.below Q9.ds.tidy b10) (fun h => h)
      have uV := uU.below b10
      obtain ⟨bL, oL, z, rfl, hz, _, _, c0⟩ := uV.atI (j := 0) (by omega)
      have hzv : z = ((aliveN q'.e : Nat) : Int) := by rw [← S6.live]; have : some ((liveN x'.s 0 : Nat) : Int) = some z := hz; injection this with this; exact this.symm
      subst hzv
      clear Q8 V8 hbU uU uV Q9 V9 b10 hz hT8 hL1
      have HQ := Lib.hid Q10
      have HV := Lib.hid V10
      go_wp2
      obtain ⟨W10, hW⟩ : ∃ W10, W10 = w9.alloc (.cells #[.slice (some ⟨bL, oL, none⟩) 1 cU, .int .i64 (bytesN x'.L x'.s), .int .i64 (x'.fa : Int)] 56) := ⟨_, rfl⟩
      rw [← hW] at HQ HV XU c0 Q10 ⊢
      generalize w9.heap.size = bX at *
      have x0 : W10.cell? ⟨bX, 0, none⟩ = some (.slice (some ⟨bL, oL, none⟩) 1 cU) := XU.cell 0 rfl
      rw [Nat.add_zero] at c0
      have lenQ := fun n => pqLen_same (Q10.pq.keep (P := fun _ => False) (StepC.below Q10.ds.tidy (below_drewN (Below.refl _ _) n)) (fun _ _ h => h))
      clear Q10 V10 XU hW
      go_quiet ((go_at_call 17; exact Calls.quiet_of_same (lenQ _)))
      have hbd := below_drewN (Below.refl W10.heap.size W10) nq
      have Q11 := HQ.out.below HP hbd
      have V11 := HV.out.keep (P := fun _ => False) (StepC.below HQ.out.ds.tidy hbd) (fun h => h)
      have e11 : 2 * (is ++ [i]).length = 2 * is.length + 2 := by simp; omega
      have E11 := Lib.hid e11
      have hkk := HKK.out
      have hK := HK.out
      clear x0 c0 lenQ HQ HV hbd e11 HKK HK
      go_wp2
      go_roundw
      case rel => exact ⟨K, _, _, _, is ++ [i], by simp; omega, rfl, by rw [E11.out]; exact Q11, V11, S6, U6, by simp; omega⟩
      case measure => (simp [intOf] <;> omega)
    · have hk0 : k = 0 := by omega
      have hkz : ¬ (0 : Int) < (k : Int) := by omega
      obtain ⟨AV, cV, rfl, _⟩ := V.own.form (idsI_len is)
      have rd := V.own.reads
      have hcV := rd.cap
      have hmV := rd.max
      have hlen : is.length ≤ 29 := by omega
      clear rd hk0 hpos
      go_wp2_with fail
      go_loopw [79] (fun iv wr => ∃ (j : Nat) (col : Col) (q : PSt) (x : ASt), j ≤ is.length ∧ iv = .int .i64 j ∧ DkQ PA w gd A m d g ga (2 * is.length + 2 * j) col q x wr ∧ OwnKc kI col wr 2 (.slice AV is.length cV) (idsI is) ∧ Sole 4 40 q x ∧ Uses (is.drop j) q) (fun iv _ => is.length - (intOf iv).toNat)
      case atStart => exact ⟨0, col, q, x, Nat.zero_le _, rfl, Q, V, S, U⟩
      case round =>
        clear Q V S U hal hqn
        obtain ⟨j, col, q, x, hj, rfl, Q, V, S, U⟩ := hrel
        by_cases hlt : j < is.length
        · have hji : (j : Int) < (is.length : Int) := by omega
          obtain ⟨b, o, z, rfl, hz, _, _, c0⟩ := V.own.reads.atI hlt
          obtain ⟨i, hi, rfl⟩ := idsI_at hz
          have hdr : is.drop j = i :: is.drop (j + 1) := by
            obtain ⟨h1, h2⟩ := List.getElem?_eq_some_iff.1 hi
            rw [List.drop_eq_getElem_cons hlt, h2]
          rw [hdr] at U
          have hT := Q.t
          have hu := U.pos
          have hil : i < q.e.length := by obtain ⟨y, hy, _⟩ := us_pos hu; exact (List.getElem?_eq_some_iff.1 hy).1
          have hql := (show GoodQ q from Q.pq.1).len
          have hqn : q.n = 40 := by have := S.n; omega
          obtain ⟨hr0, S6, hus⟩ := S.release (HP.good Q.pa) Q.lnk hu
          have U6 := U.less hus
          have hi64 : I64 ((i : Int) + 1) := by simp only [I64]; omega
          clear hz hi hdr U hu hus S hil
          go_wp2_with fail
          refine (pqRelease HP Q.pq Q.pa Q.lnk ap12 Q.ds.tidy (by omega) (by omega) ((i : Int) + 1) hi64).mono ?_
          rintro e w6 ⟨rfl, hd⟩
          rw [hr0]
          obtain ⟨col6, Q6, s6⟩ := Q.did hd (Q.lnk.reP (HP.good Q.pa) ((i : Int) + 1)) ⟨(reP_t q x _).1, by have := (release_t q ((i : Int) + 1)).1; omega⟩
          have V6 := V.keep s6 (no12 (by omega))
          clear Q V hd s6 c0 hr0
          generalize (q.release ((i : Int) + 1)).2 = q' at *
          generalize q.reP x ((i : Int) + 1) = x' at *
          go_wp2
          go_roundw
          case rel => exact ⟨j + 1, _, _, _, by omega, by go_num, by rw [show 2 * is.length + 2 * (j + 1) = 2 * is.length + 2 * j + 2 by omega]; exact Q6, V6, S6, U6⟩
          case measure => (simp [intOf] <;> omega)
        · have hjj : j = is.length := by omega
          have hjz : ¬ (j : Int) < (is.length : Int) := by omega
          rw [hjj, List.drop_length] at U
          have hz0 := U.none
          have hT := Q.t
          clear V U hlt hjj
          go_wp2_with fail
          refine (HP.usage Q.pa Q.ds.tidy (by omega)).mono ?_
          rintro e w9 ⟨AU, cU, rfl, uU, hbU⟩
          have hL1 : x.L.length = 1 := by rw [S.L]; rfl
          rw [hL1] at uU ⊢
          rw [S.fa, show ((0 : Nat) : Int) = 0 from rfl]
          have Q9 := Q.below HP hbU
          have b10 : Below w9.heap.size w9 (w9.alloc (.cells #[.slice AU 1 cU, .int .i64 (bytesN x.L x.s), .int .i64 0] 56)) := (Below.refl _ _).alloc (Nat.le_refl _) _
          have XU := BoxC.lit Q9.ds.tidy #[.slice AU 1 cU, .int .i64 (bytesN x.L x.s), .int .i64 0] 56
          have Q10 := Q9.below HP b10
          have uV := uU.below b10
          obtain ⟨bL, oL, z, rfl, hz, _, _, c0⟩ := uV.atI (j := 0) (by omega)
          have hzv : z = 0 := by
            have : some ((liveN x.s 0 : Nat) : Int) = some z := hz
            injection this with this
            rw [S.live, hz0] at this
            exact this.symm
          subst hzv
          clear Q hbU uU uV Q9 b10 hz hT hL1
          rw [Nat.add_zero] at c0
          have HQ := Lib.hid Q10
          clear Q10 S
          go_wp2_with fail
          obtain ⟨W10, hW⟩ : ∃ W10, W10 = w9.alloc (.cells #[.slice (some ⟨bL, oL, none⟩) 1 cU, .int .i64 (bytesN x.L x.s), .int .i64 0] 56) := ⟨_, rfl⟩
          rw [← hW] at HQ XU c0 ⊢
          have hln := pqLen_same HQ.out.pq
          rw [hz0] at hln
          generalize w9.heap.size = bX at *
          have x0 := XU.cell 0 (u := .slice (some ⟨bL, oL, none⟩) 1 cU) rfl
          have x2 := XU.cell 2 (u := .int .i64 0) rfl
          clear XU hW hz0
          refine hln.mono ?_
          rintro e w11 ⟨rfl, rfl⟩
          go_wp2_with fail
          refine (qawake_any HP _).mono ?_
          rintro e w12 ⟨rfl, hb12⟩
          have hB := (HQ.out.below HP hb12).ds.since.below
          clear HQ hb12 hln x0 x2 c0
          go_wp2
          go_ret
          exact ⟨rfl, hB⟩
end Go.Proofs.Ytenchaifnfgijaa

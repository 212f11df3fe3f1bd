/- The statements about package pool: PoolBack. Conditions: the program's arena keeps its contracts (ProgA). -/
import Derived.Test.YtenchaifnfgijaaNdeck
import Derived.Test.YtenchaifnfgijaaQref
namespace Go.Proofs.Ytenchaifnfgijaa
open Go.ChangeShapes Go.WideShapes Go.ChangeAt Go.RowKit
set_option linter.unusedVariables false
set_option linter.unusedSimpArgs false
set_option maxRecDepth 100000

/-- Texts that came in. -/
def ArgS (w : World) (A : Option Addr) (n c : Nat) : Prop := n ≤ c ∧ c ≤ maxLen ∧ ∀ j, j < n → ∃ b o s, A = some ⟨b, o, none⟩ ∧ w.cell? ⟨b, o + j, none⟩ = some (.string s) ∧ s.size ≤ maxLen
theorem ArgS.none (w : World) : ArgS w none 0 0 := ⟨Nat.le_refl _, by simp [maxLen], fun j hj => absurd hj (by omega)⟩
theorem RdG.atT {w : World} {A : Option Addr} {n c : Nat} {l : List ByteArray} {j : Nat} (h : RdG kT w A n c l) (hj : j < n) : ∃ b o p, A = some ⟨b, o, none⟩ ∧ l[j]? = some p ∧ p ∈ l ∧ b < w.heap.size ∧ w.cell? ⟨b, o + j, none⟩ = some (.string p) := by
  obtain ⟨b, o, p, hA, hl, hm, hb, hc⟩ := h.at_ hj
  have c0 := hc 0 _ rfl
  simp only [show kT.k = 1 from rfl, Nat.mul_one, Nat.add_zero] at c0
  exact ⟨b, o, p, hA, hl, hm, hb, c0⟩
def xs : ByteArray := ⟨#[120]⟩
theorem xs_size (s : ByteArray) (n : Nat) (hn : n ≤ 30) : 1 ≤ (xs ++ s.extract 0 n).size ∧ (xs ++ s.extract 0 n).size ≤ 31 := by
  have h1 : (xs ++ s.extract 0 n).size = xs.size + (s.extract 0 n).size := ByteArray.size_append
  have h2 : (s.extract 0 n).size = min n s.size - 0 := ByteArray.size_extract
  have h3 : xs.size = 1 := rfl
  omega
theorem xs_lim (s : ByteArray) (n : Nat) (hn : n ≤ 30) : ¬ 9223372036854775807 < xs.size + (s.extract 0 n).size := by
  have h2 : (s.extract 0 n).size = min n s.size - 0 := ByteArray.size_extract
  have h3 : xs.size = 1 := rfl
  omega
/-- Each number that was given has its text. -/
def Pairs (q : PSt) (is : List Nat) (ts : List ByteArray) : Prop := ∀ (j i : Nat) (t : ByteArray), is[j]? = some i → ts[j]? = some t → q.has i t
theorem Pairs.new (q : PSt) : Pairs q [] [] := fun j i t h => by simp at h
theorem Pairs.more {q q' : PSt} {is : List Nat} {ts : List ByteArray} {i : Nat} {t : ByteArray} (h : Pairs q is ts) (hl : is.length = ts.length) (h1 : q'.has i t) (h2 : ∀ j t, q.has j t → q'.has j t) : Pairs q' (is ++ [i]) (ts ++ [t]) := fun j a b ha hb => by
  rw [List.getElem?_append] at ha hb
  by_cases hj : j < is.length
  · rw [if_pos hj] at ha
    rw [if_pos (by omega)] at hb
    exact h2 _ _ (h j a b ha hb)
  · rw [if_neg hj] at ha
    rw [if_neg (by omega)] at hb
    have hlt := (List.getElem?_eq_some_iff.1 ha).1
    simp at hlt
    have e1 : j - is.length = 0 := by omega
    have e2 : j - ts.length = 0 := by omega
    rw [e1] at ha; rw [e2] at hb
    simp at ha hb
    subst ha hb
    exact h1
theorem Pairs.same {q : PSt} {is : List Nat} {ts : List ByteArray} (hG : GoodQ q) (h : Pairs q is ts) {j k a b : Nat} {s t : ByteArray} (h1 : is[j]? = some a) (h2 : ts[j]? = some s) (h3 : is[k]? = some b) (h4 : ts[k]? = some t) : a = b ↔ s = t := by
  obtain ⟨y, hy, yu, yk⟩ := h j a s h1 h2
  obtain ⟨z, hz, zu, zk⟩ := h k b t h3 h4
  constructor
  · rintro rfl
    rw [hy] at hz; injection hz with hz; subst hz
    exact yk.symm.trans zk
  · rintro rfl
    exact hG.one a b y z hy hz yu zu (yk.trans zk.symm)
theorem has_text {q : PSt} {i : Nat} {t : ByteArray} (h : q.has i t) : q.text ((i : Int) + 1) = (t, 0) ∧ i < q.e.length := by
  obtain ⟨y, hy, yu, rfl⟩ := h
  have ha := at_is (id := (i : Int) + 1) (by omega) hy yu
  exact ⟨by unfold PSt.text; rw [ha], (List.getElem?_eq_some_iff.1 hy).1⟩
/-- A pool and its arena, beside nothing else. -/
structure BkR (PA : Rep) (w : World) (g ga T : Nat) (col : Col) (q : PSt) (x : ASt) (W : World) : Prop where
  at_ : AtQ PA w col W g ga q x
  t : x.t ≤ T ∧ q.t ≤ T
section
variable {PA : Rep} {w W W' : World} {col col' : Col} {g ga T : Nat} {P : Nat → Prop} {q q' : PSt} {x x' : ASt}
theorem BkR.tidy (h : BkR PA w g ga T col q x W) : Tidy col W := h.at_.since.tidy
theorem BkR.below (HP : ProgA PA) (h : BkR PA w g ga T col q x W) (hb : Below W.heap.size W W') : BkR PA w g ga T col q x W' := ⟨h.at_.below HP hb, h.t⟩
theorem BkR.small {n : Nat} (hn : n ≤ 3) (h0 : 1 ≤ n) (HP : ProgA PA) (h : BkR PA w g ga T col q x W) (s : StepC (fun c => c = n) col W col' W') : BkR PA w g ga T col' q x W' :=
  ⟨h.at_.step HP s (fun c hc e => by have := hc.1; omega) (fun c hc e => by have := hc.1; omega) (by omega), h.t⟩
theorem BkR.did (h : BkR PA w g ga T col q x W) (hd : DidQ PA col 16 32 W g ga q' x' W') (hL : Lnk q' x') (ht : x'.t ≤ x.t + 2 ∧ q'.t ≤ q.t + 2) : ∃ col', BkR PA w g ga (T + 2) col' q' x' W' ∧ StepC (fun c => Rng 16 c ∨ Rng 32 c) col W col' W' := by
  obtain ⟨col', h1, h2⟩ := h.at_.did hd hL
  have := h.t
  exact ⟨col', ⟨h1, by omega⟩, h2⟩
theorem back_mid (HP : ProgA PA) (Q : BkR PA w g ga T col q x W) {v v8 vX : Value} {l l8 : List Int} {ts : List ByteArray} (V : OwnKc kI col W 2 v l) (X : OwnKc kT col W 3 vX ts) {w8 : World} (O8 : OwnK kI w8 v8 l8) (G8 : W.grownBy w8 v.ownBlock) (hat8 : v8.ownBlock = v.ownBlock ∨ v8.ownBlock = some W.heap.size) (tx : ByteArray) :
    ∃ col9, BkR PA w g ga T col9 q x (w8.alloc (.cells #[.string tx] 9)) ∧ OwnKc kI col9 (w8.alloc (.cells #[.string tx] 9)) 2 v8 l8 ∧ OwnKc kT col9 (w8.alloc (.cells #[.string tx] 9)) 3 vX ts ∧ RdG kT (w8.alloc (.cells #[.string tx] 9)) (some ⟨w8.heap.size, 0, none⟩) 1 1 [tx] := by
  have s8 := StepC.app (P := fun c => c = 2) Q.tidy G8 V.col rfl hat8 O8.lt
  have Q8 := Q.small (n := 2) (by omega) (by omega) HP s8
  have X8 := X.keep s8 (by omega)
  have V8 : OwnKc kI _ w8 2 v8 l8 := OwnKc.mk' (col := col) kI O8
  have b9 : Below w8.heap.size w8 (w8.alloc (.cells #[.string tx] 9)) := (Below.refl _ _).alloc (Nat.le_refl _) _
  exact ⟨_, Q8.below HP b9, V8.keep (P := fun _ => False) (StepC.below Q8.tidy b9) (fun h => h), X8.keep (P := fun _ => False) (StepC.below Q8.tidy b9) (fun h => h), RdG.one' kT rfl tx⟩
theorem no3 {n : Nat} (hn : n ≤ 3) : ¬ (Rng 16 n ∨ Rng 32 n) := fun e => e.elim (fun e => by have := e.1; omega) (fun e => by have := e.1; omega)
end
set_option maxHeartbeats 8000000 in
theorem poolBack_walk {PA : Rep} (HP : ProgA PA) (A : Option Addr) (m d : Nat) (B : Option Addr) (p c : Nat) (w : World) (hA : RdI w A m d) (hB : ArgS w B p c) :
    Calls Try.prog 5 #[.slice A m d, .slice B p c] w (Yes w) := by
  have hcapB := hB.1
  have hmaxB := hB.2.1
  have hS0 := Since.start w
  have R1 : RdG kC (w.alloc (.cells #[.int .i64 40, .int .i64 60] 61)) (some ⟨w.heap.size, 0, none⟩) 1 1 [((40 : Int), (60 : Int))] := RdG.lit kC w [((40 : Int), (60 : Int))] rfl (by simp [maxLen]) _
  have D2 := hS0.below' ((Below.refl w.heap.size w).alloc (Nat.le_refl _) (.cells #[.int .i64 40, .int .i64 60] 61))
  clear hA hS0
  go_enter Try.func5, Try.ntmps5
  go_wp2_with fail
  refine (HP.new (k := 32) D2.tidy (by omega) R1 (by omega) (by intro x hx; simp at hx; subst hx; simp [I64])).mono ?_
  rintro e W2 (⟨_, ga, rfl, hd⟩ | ⟨h0, _⟩)
  rotate_left
  · exact absurd (show clsE [((40 : Int), (60 : Int))] = 0 by decide) h0
  obtain ⟨col2, p2, s2⟩ := hd
  have D3 := D2.step s2 (rng0 (by omega))
  clear D2 R1 s2
  go_wp2_with fail
  refine (pqNew (k := 16) (ga := ga) D3.tidy (by omega) 60 (by simp [I64])).mono ?_
  rintro e W3 (⟨_, g, rfl, col3, p3, s3⟩ | ⟨h0, _⟩)
  rotate_left
  · exact absurd h0 (by decide)
  have Q3 : BkR PA w g ga 0 col3 (newQ 60) (newA [((40 : Int), (60 : Int))]) W3 := ⟨⟨D3.step s3 (rng0 (by omega)), p3, HP.keep p2 s3 (fun c h1 h2 => ap12.no c h2 h1) ap12.z1, Lnk.new _ _⟩, Nat.le_refl _, Nat.le_refl _⟩
  clear D3 p2 p3 s3
  have V3 := OwnKc.nil kI col3 W3 2
  have X3 := OwnKc.nil kT col3 W3 3
  have hS3 := Sole.new 40 60 (n := 60) rfl
  go_wp2_with fail
  go_loopw [9, 10, 11] (fun v tv iv wr => ∃ (col : Col) (q : PSt) (x : ASt) (is : List Nat) (ts : List ByteArray), is.length ≤ p ∧ is.length ≤ 50 ∧ iv = .int .i64 is.length ∧ BkR PA w g ga (2 * is.length) col q x wr ∧ OwnKc kI col wr 2 v (idsI is) ∧ OwnKc kT col wr 3 tv ts ∧ Sole 40 60 q x ∧ is.length = ts.length ∧ Pairs q is ts ∧ aliveN q.e ≤ is.length) (fun _ _ iv _ => p - (intOf iv).toNat)
  case atStart => exact ⟨col3, newQ 60, newA [((40 : Int), (60 : Int))], [], [], Nat.zero_le _, Nat.zero_le _, rfl, Q3, V3, X3, hS3, rfl, Pairs.new _, Nat.le_refl _⟩
  case round =>
    clear Q3 V3 X3 hS3
    obtain ⟨col, q, x, is, ts, hip, hi50, rfl, Q, V, X, S, hlen, hpr, hal⟩ := hrel
    have hqn : q.n = 60 := by have := S.n; omega
    by_cases hend : is.length < p ∧ is.length < 50
    · obtain ⟨h1, h2⟩ := hend
      obtain ⟨b, o, s, rfl, cB, hsz⟩ := hB.2.2 is.length h1
      have c0 : wr.cell? ⟨b, o + is.length, none⟩ = some (.string s) := (Q.at_.since.below.cell (World.block_lt_of_cell? _ _ cB)).trans cB
      have hN : ∃ N, N = is.length := ⟨_, rfl⟩
      have h1i : (is.length : Int) < (p : Int) := by omega
      have h2i : (is.length : Int) < 50 := by omega
      have HQ := Lib.hid Q
      have HV := Lib.hid V
      have HX := Lib.hid X
      have HS := Lib.hid S
      have HL := Lib.hid hlen
      clear Q V X S hlen cB hN
      have hm0 : (0 : Int) ≤ min (s.size : Int) 30 := by omega
      have hm1 : min (s.size : Int) 30 ≤ (s.size : Int) := by omega
      have hlm := xs_lim s (min (s.size : Int) 30).toNat (by omega)
      have hxz := xs_size s (min (s.size : Int) 30).toNat (by omega)
      unfold xs at hlm hxz
      have HXZ := Lib.hid hxz
      clear hxz
      go_wp2
      go_quiet (fail)
      have hbd := below_drewN (Below.refl wr.heap.size wr) nq
      have Q5 := HQ.out.below HP hbd
      have V5 := HV.out.keep (P := fun _ => False) (StepC.below HQ.out.tidy hbd) (fun h => h)
      have X5 := HX.out.keep (P := fun _ => False) (StepC.below HQ.out.tidy hbd) (fun h => h)
      obtain ⟨tx, htx⟩ : ∃ tx, tx = (⟨#[120]⟩ ++ s.extract 0 (min (s.size : Int) 30).toNat : ByteArray) := ⟨_, rfl⟩
      have hxz := HXZ.out
      rw [← htx] at hxz ⊢
      clear HQ HV HX HXZ hbd hm0 hm1 hlm htx c0
      generalize wr.drewN nq = w5 at *
      have hT := Q5.t
      have hin := HS.out.intern (HP.good Q5.at_.pa) Q5.at_.lnk (s := tx) (by omega) (by omega) (by omega) (by omega)
      go_wp2_with fail
      refine (pqIntern HP Q5.at_.pq Q5.at_.pa Q5.at_.lnk ap12 Q5.tidy (by omega) (by omega) tx (by simp only [maxLen]; omega)).mono ?_
      rintro e w6 ⟨rfl, hd⟩
      obtain ⟨i, hi1, _, hhas, hkeep, _, hal'⟩ := took_intern hin.1
      obtain ⟨he0, S6⟩ := hin
      rw [hi1, he0]
      obtain ⟨col6, Q6, s6⟩ := Q5.did hd (Q5.at_.lnk.inP (HP.good Q5.at_.pa) tx) ⟨(inP_t q x tx).1, by have := (intern_t q x tx).1; omega⟩
      have V6 := V5.keep s6 (no3 (by omega))
      have X6 := X5.keep s6 (no3 (by omega))
      have hpr6 := hpr.more HL.out hhas hkeep
      clear Q5 V5 X5 hd s6 hi1 he0 hhas hkeep hpr hT
      generalize (q.intern x tx).2 = q' at *
      generalize q.inP x tx = x' at *
      have hlenT := HL.out
      obtain ⟨AV, cV, rfl, rV, _⟩ := V6.own.form (idsI_len is)
      obtain ⟨AX, cX, rfl, rX, _⟩ := X6.own.form hlenT.symm
      have hcV := rV.cap
      have hmV := rV.max
      have hcX := rX.cap
      have hmX := rX.max
      have b7 : Below w6.heap.size w6 (w6.alloc (.cells #[.int .i64 ((i : Int) + 1)] 3)) := (Below.refl _ _).alloc (Nat.le_refl _) _
      have Q7 := Q6.below HP b7
      have V7 := V6.keep (P := fun _ => False) (StepC.below Q6.tidy b7) (fun h => h)
      have X7 := X6.keep (P := fun _ => False) (StepC.below Q6.tidy b7) (fun h => h)
      have R7 : RdG kI (w6.alloc (.cells #[.int .i64 ((i : Int) + 1)] 3)) (some ⟨w6.heap.size, 0, none⟩) 1 1 [((i : Int) + 1)] := RdG.one' kI rfl ((i : Int) + 1)
      have hby : (idsI is).length + 1 ≤ 1000000000 := by rw [idsI_len]; omega
      have hbyX : ts.length + 1 ≤ 1000000000 := by omega
      have hl8 : (idsI is ++ [(i : Int) + 1]).length = is.length + 1 := by simp [idsI_len]
      have hl9 : (ts ++ [tx]).length = is.length + 1 := by simp; omega
      have o7 := V7.own
      have HQ7 := Lib.hid Q7
      have HV7 := Lib.hid V7
      have HX7 := Lib.hid X7
      have HLT := Lib.hid hlenT
      clear Q6 V6 X6 Q7 V7 X7 rV rX b7 hlenT HL
      go_wp2_with (first | (at_builtin; refine wpList_appK kT rfl (.tmp 74) (.tmp 76) rfl _ ts rfl _ 1 1 [tx] rfl X9.own R9 hbyX ?_; intro v10 w10 O10 G10 hat10; obtain ⟨A10, c10, rfl, _⟩ := O10.form hl9) | (at_builtin; refine wpList_appK kI rfl (.tmp 70) (.tmp 72) rfl _ (idsI is) rfl _ 1 1 [((i : Int) + 1)] rfl o7 R7 hby ?_; intro v8 w8 O8 G8 hat8; obtain ⟨A8, c8, rfl, _⟩ := O8.form hl8; obtain ⟨col9, Q9, V9, X9, R9⟩ := back_mid HP HQ7.out HV7.out HX7.out O8 G8 hat8 tx; have HQ9 := Lib.hid Q9; have HV9 := Lib.hid V9; clear Q9 V9))
      obtain ⟨colT, QT, VT, XT⟩ : ∃ colT, BkR PA w g ga (2 * is.length + 2) colT q' x' w10 ∧ OwnKc kI colT w10 2 (.slice A8 (is.length + 1) c8) (idsI (is ++ [i])) ∧ OwnKc kT colT w10 3 (.slice A10 (is.length + 1) c10) (ts ++ [tx]) := by
        have s10 := StepC.app (P := fun c => c = 3) HQ9.out.tidy G10 X9.col rfl hat10 O10.lt
        exact ⟨_, HQ9.out.small (n := 3) (by omega) (by omega) HP s10, by rw [idsI_app]; exact HV9.out.keep s10 (by omega), OwnKc.mk' kT O10⟩
      have e11 : 2 * (is ++ [i]).length = 2 * is.length + 2 := by simp; omega
      have E11 := Lib.hid e11
      have hlenT := HLT.out
      clear HQ7 HV7 HX7 HQ9 HV9 O8 G8 hat8 O10 G10 hat10 o7 R7 X9 R9 e11 HLT
      go_wp2
      go_roundw
      case rel => exact ⟨colT, q', x', is ++ [i], ts ++ [tx], by simp; omega, by simp; omega, by first | rfl | (rw [List.length_append, List.length_singleton]; rfl) | simp, by rw [E11.out]; exact QT, VT, XT, S6, by simp; omega, hpr6, by simp; omega⟩
      case measure => (simp [intOf] <;> omega)
    · obtain ⟨AV, cV, rfl, _⟩ := V.own.form (idsI_len is)
      obtain ⟨AX, cX, rfl, _⟩ := X.own.form hlen.symm
      have rV := V.own.reads
      have rX := X.own.reads
      have hcV := rV.cap
      have hmV := rV.max
      have hcX := rX.cap
      have hmX := rX.max
      have hG := (show GoodQ q from Q.at_.pq.1)
      clear rV rX
      rcases (show ¬ is.length < p ∨ (is.length < p ∧ ¬ is.length < 50) from (Decidable.em (is.length < p)).elim (fun h => .inr ⟨h, fun h2 => hend ⟨h, h2⟩⟩) .inl) with h1 | ⟨h1, h2⟩
      focus
        have h1i : ¬ (is.length : Int) < (p : Int) := fun e => h1 (Int.ofNat_lt.1 e)
        go_wp2_with fail
      rotate_left
      focus
        have h1i : (is.length : Int) < (p : Int) := Int.ofNat_lt.2 h1
        have h2i : ¬ (is.length : Int) < 50 := fun e => h2 (by omega)
        go_wp2_with fail
      all_goals
        go_loopw [80] (fun iv wr => ∃ (j : Nat) (col : Col) (x : ASt), j ≤ is.length ∧ iv = .int .i64 j ∧ BkR PA w g ga (2 * is.length + 2 * j) col q x wr ∧ OwnKc kI col wr 2 (.slice AV is.length cV) (idsI is) ∧ OwnKc kT col wr 3 (.slice AX is.length cX) ts) (fun iv _ => is.length - (intOf iv).toNat)
        case atStart => exact ⟨0, col, x, Nat.zero_le _, rfl, Q, V, X⟩
        case round =>
          clear Q V X S hal
          obtain ⟨j, col, x, hj, rfl, Q, V, X⟩ := hrel
          by_cases hlt : j < is.length
          · have hji : (j : Int) < (is.length : Int) := by omega
            obtain ⟨b, o, z, hAV, hz, _, _, c0⟩ := V.own.reads.atI hlt
            subst hAV
            obtain ⟨i, hi, rfl⟩ := idsI_at hz
            obtain ⟨bT, oT, t, hAX, ht, _, _, t0⟩ := X.own.reads.atT hlt
            subst hAX
            obtain ⟨htx, hil⟩ := has_text (hpr j i t hi ht)
            have hT := Q.t
            have hql := hG.len
            have hi64 : I64 ((i : Int) + 1) := by simp only [I64]; omega
            clear hz hil
            go_wp2_with fail
            refine (pqText HP Q.at_.pq Q.at_.pa Q.at_.lnk ap12 Q.tidy (by omega) (by omega) ((i : Int) + 1) hi64).mono ?_
            rintro e w6 ⟨rfl, hd⟩
            rw [htx]
            obtain ⟨col6, Q6, s6⟩ := Q.did hd (Q.at_.lnk.teP (HP.good Q.at_.pa) ((i : Int) + 1)) ⟨by have := (reP_t q x ((i : Int) + 1)).2.2; omega, by omega⟩
            have V6 := V.keep s6 (no3 (by omega))
            have X6 := X.keep s6 (no3 (by omega))
            clear Q V X hd s6 c0 t0
            generalize q.teP x ((i : Int) + 1) = x' at *
            obtain ⟨_, _, t', e1, ht', _, _, t0⟩ := X6.own.reads.atT hlt
            injection e1 with e1; injection e1 with e1 e2; subst e1 e2
            rw [ht] at ht'; injection ht' with ht'; subst ht'
            have HQ := Lib.hid Q6
            have HV := Lib.hid V6
            have HX := Lib.hid X6
            clear Q6 V6 X6
            go_wp2
            go_loopw [104] (fun kv wr => ∃ k : Nat, k ≤ is.length ∧ kv = .int .i64 k ∧ Below w6.heap.size w6 wr) (fun kv _ => is.length - (intOf kv).toNat)
            case atStart => exact ⟨0, Nat.zero_le _, rfl, Below.refl _ _⟩
            case round =>
              obtain ⟨k, hk, rfl, hbw⟩ := hrel
              have Q7 := HQ.out.below HP hbw
              have V7 := HV.out.keep (P := fun _ => False) (StepC.below HQ.out.tidy hbw) (fun h => h)
              have X7 := HX.out.keep (P := fun _ => False) (StepC.below HQ.out.tidy hbw) (fun h => h)
              by_cases hkl : k < is.length
              · have hki : (k : Int) < (is.length : Int) := by omega
                obtain ⟨_, _, z1, e1, hz1, _, _, a0⟩ := V7.own.reads.atI hlt
                injection e1 with e1; injection e1 with e1 e2; subst e1 e2
                obtain ⟨i1, hi1, rfl⟩ := idsI_at hz1
                rw [hi] at hi1; injection hi1 with hi1; subst hi1
                obtain ⟨_, _, z2, e1, hz2, _, _, a1⟩ := V7.own.reads.atI hkl
                injection e1 with e1; injection e1 with e1 e2; subst e1 e2
                obtain ⟨i2, hi2, rfl⟩ := idsI_at hz2
                obtain ⟨_, _, t1, e1, ht1, _, _, b0⟩ := X7.own.reads.atT hlt
                injection e1 with e1; injection e1 with e1 e2; subst e1 e2
                rw [ht] at ht1; injection ht1 with ht1; subst ht1
                obtain ⟨_, _, t2, e1, ht2, _, _, b1⟩ := X7.own.reads.atT hkl
                injection e1 with e1; injection e1 with e1 e2; subst e1 e2
                have hsame := hpr.same hG hi ht hi2 ht2
                have HBW := Lib.hid hbw
                have hki0 : (0 : Int) ≤ (k : Int) := by omega
                clear Q7 V7 X7 hz1 hz2 hbw ht2 hi2
                by_cases hii : i = i2
                · obtain rfl := hii
                  obtain rfl := hsame.1 rfl
                  clear hsame
                  go_wp2
                  go_quiet (fail)
                  have hbn := below_then HBW.out (below_drewN (Below.refl _ _) nq)
                  clear a0 a1 b0 b1 HBW
                  go_wp2
                  go_roundw
                  case rel => exact ⟨k + 1, by omega, by go_num, hbn⟩
                  case measure => (simp [intOf] <;> omega)
                · have hte : ¬ t = t2 := fun e => hii (hsame.2 e)
                  have hie : ¬ ((i : Int) + 1 = (i2 : Int) + 1) := by omega
                  have hie2 : ¬ ((i : Int) = (i2 : Int)) := by omega
                  have hte2 : (t.toList == t2.toList) = false := by rw [str_beq]; exact decide_eq_false hte
                  have hie3 : (((i : Int) + 1) == ((i2 : Int) + 1)) = false := beq_eq_false_iff_ne.2 hie
                  clear hsame
                  go_wp2
                  go_quiet (fail)
                  have hbn := below_then HBW.out (below_drewN (Below.refl _ _) nq)
                  clear a0 a1 b0 b1 HBW
                  go_wp2
                  go_roundw
                  case rel => exact ⟨k + 1, by omega, by go_num, hbn⟩
                  case measure => (simp [intOf] <;> omega)
              · have hki : ¬ (k : Int) < (is.length : Int) := by omega
                have E2 := Lib.hid (show 2 * is.length + 2 * (j + 1) = 2 * is.length + 2 * j + 2 by omega)
                clear HQ HV HX hbw
                go_wp2
                go_roundw
                case rel => exact ⟨j + 1, _, _, by omega, by go_num, by rw [E2.out]; exact Q7, V7, X7⟩
                case measure => (simp [intOf] <;> omega)
          · have hji : ¬ (j : Int) < (is.length : Int) := by omega
            have HQ := Lib.hid Q
            clear Q V X
            go_wp2_with fail
            refine (qawake_any HP _).mono ?_
            rintro e w12 ⟨rfl, hb12⟩
            have hB' := (HQ.out.below HP hb12).at_.since.below
            clear HQ hb12
            go_wp2
            go_ret
            exact ⟨rfl, hB'⟩
end Go.Proofs.Ytenchaifnfgijaa

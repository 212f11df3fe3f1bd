/- event.Item, event.Verdict and their twins; heavykeysref01.SameEvent on equal events. Conditions: none beyond those typed. -/
import Derived.Test.YtoaijnpkenflbaaEenc
import Derived.Laws.ResultCell
namespace Go.Proofs.Ytoaijnpkenflbaa
open Go.ChangeShapes Go.WideShapes Go.ChangeAt Go.RowKit
set_option linter.unusedVariables false
set_option linter.unusedSimpArgs false
set_option maxRecDepth 100000

theorem results_cell_row2 {P : Program} {fn : Func} {p u : Tmp} {ty : TypeId} (h : fn.results = #[.cell p ty, .tmp u]) (tmps : Array Value) (w : World) (g : Nat) (t : TypeId) (cs : Array Value) (fr : Nat × Nat) (d : TypeDesc)
    (hp : tmps.getD p undef = .pointer (some ⟨g, 0, none⟩)) (hg : w.heap[g]? = some (.cells cs t fr))
    (hu : P.underlying ty = some d) (hd : (match d with | .struct _ | .array _ _ => true | _ => false) = true) (hi : (P.info? ty).map (·.size) = some cs.size) :
    (results fn tmps).run P w = .ok (.tuple #[.agg cs, tmps.getD u undef]) w := by
  have hp' : tmps[p]?.getD undef = .pointer (some ⟨g, 0, none⟩) := by simpa using hp
  rw [results_cell_tmp h]
  simp [hp', asAddr, run_loadVar_row w g t ty cs fr d hg hu hd hi, Result.andThen]
theorem results_cell_row3 {P : Program} {fn : Func} {p u v : Tmp} {ty : TypeId} (h : fn.results = #[.cell p ty, .tmp u, .tmp v]) (tmps : Array Value) (w : World) (g : Nat) (t : TypeId) (cs : Array Value) (fr : Nat × Nat) (d : TypeDesc)
    (hp : tmps.getD p undef = .pointer (some ⟨g, 0, none⟩)) (hg : w.heap[g]? = some (.cells cs t fr))
    (hu : P.underlying ty = some d) (hd : (match d with | .struct _ | .array _ _ => true | _ => false) = true) (hi : (P.info? ty).map (·.size) = some cs.size) :
    (results fn tmps).run P w = .ok (.tuple #[.agg cs, tmps.getD u undef, tmps.getD v undef]) w := by
  have hp' : tmps[p]?.getD undef = .pointer (some ⟨g, 0, none⟩) := by simpa using hp
  simp [results, h, hp', asAddr, run_loadVar_row w g t ty cs fr d hg hu hd hi, Result.andThen, Sem.run_bind]

/-- The box of an item in block g. -/
def IBox (w : World) (g : Nat) (s : ByteArray) (t x : Int) : Prop := w.heap[g]? = some (.cells #[.string s, .int .i64 t, .int .u64 x] 47 (0, 0))
section
variable {w w' : World} {g : Nat} {s : ByteArray} {t x : Int}
theorem IBox.new (w : World) (s : ByteArray) (t x : Int) : IBox (w.alloc (.cells #[.string s, .int .i64 t, .int .u64 x] 47)) w.heap.size s t x := heap_alloc_new w _
theorem IBox.c0 (h : IBox w g s t x) : w.cell? ⟨g, 0, none⟩ = some (.string s) := by rw [Lib.cell_of_heap h]; rfl
theorem IBox.c1 (h : IBox w g s t x) : w.cell? ⟨g, 1, none⟩ = some (.int .i64 t) := by rw [Lib.cell_of_heap h]; rfl
theorem IBox.c2 (h : IBox w g s t x) : w.cell? ⟨g, 2, none⟩ = some (.int .u64 x) := by rw [Lib.cell_of_heap h]; rfl
theorem IBox.lt (h : IBox w g s t x) : g < w.heap.size := World.block_lt_of_cell? _ ⟨g, 0, none⟩ h.c0
theorem IBox.far (h : IBox w g s t x) (hb : w'.heap[g]? = w.heap[g]?) : IBox w' g s t x := hb.trans h
theorem IBox.below (h : IBox w g s t x) (hb : Below w.heap.size w w') : IBox w' g s t x := h.far (hb.block g h.lt)
theorem IBox.frozen (h : IBox w g s t x) (i : Nat) : w.frozen? ⟨g, i, none⟩ = false := by
  have : w.heap[g]? = _ := h
  simp [World.frozen?, this]
theorem IBox.put3 (h : IBox w g s t x) (s' : ByteArray) (t' x' : Int) :
    IBox (((w.setCell ⟨g, 0, none⟩ (.string s')).setCell ⟨g, 1, none⟩ (.int .i64 t')).setCell ⟨g, 2, none⟩ (.int .u64 x')) g s' t' x' := by
  have h' : w.heap[g]? = _ := h
  unfold IBox
  simp [World.setCell, Array.getElem?_modify, h']
end
theorem below_put3 {B : Nat} {w0 w : World} {g : Nat} (h : Below B w0 w) (hg : B ≤ g) (v0 v1 v2 : Value) : Below B w0 (((w.setCell ⟨g, 0, none⟩ v0).setCell ⟨g, 1, none⟩ v1).setCell ⟨g, 2, none⟩ v2) :=
  ((h.setCell (p := ⟨g, 0, none⟩) hg _).setCell (p := ⟨g, 1, none⟩) hg _).setCell (p := ⟨g, 2, none⟩) hg _

def itE (l : List Tg) (t x : Int) : Int := if (t < 0 ∨ 1099511627776 < t) ∨ (x < 1 ∨ 9223372036854775808 < x) then 1 else keyErr l
def itV (l : List Tg) (t x : Int) : Value := if itE l t x = 0 then .agg #[.string (keyBy l), .int .i64 t, .int .u64 x] else .agg #[.string ⟨#[]⟩, .int .i64 0, .int .u64 0]
theorem it_bad {l : List Tg} {t x : Int} (h : (t < 0 ∨ 1099511627776 < t) ∨ (x < 1 ∨ 9223372036854775808 < x)) : itE l t x = 1 ∧ itV l t x = .agg #[.string ⟨#[]⟩, .int .i64 0, .int .u64 0] := by
  have e : itE l t x = 1 := if_pos h
  exact ⟨e, by unfold itV; rw [e, if_neg (by decide)]⟩
theorem it_key {l : List Tg} {t x : Int} (h : ¬ ((t < 0 ∨ 1099511627776 < t) ∨ (x < 1 ∨ 9223372036854775808 < x))) (hk : keyErr l ≠ 0) : itE l t x = keyErr l ∧ itV l t x = .agg #[.string ⟨#[]⟩, .int .i64 0, .int .u64 0] := by
  have e : itE l t x = keyErr l := if_neg h
  exact ⟨e, by unfold itV; rw [e, if_neg hk]⟩
theorem it_ok {l : List Tg} {t x : Int} (h : ¬ ((t < 0 ∨ 1099511627776 < t) ∨ (x < 1 ∨ 9223372036854775808 < x))) (hk : keyErr l = 0) : itE l t x = 0 ∧ itV l t x = .agg #[.string (keyBy l), .int .i64 t, .int .u64 x] := by
  have e : itE l t x = 0 := (if_neg h).trans hk
  exact ⟨e, by unfold itV; rw [if_pos e]⟩
/-- What Item gives back. -/
def ItemOut (l : List Tg) (t x : Int) (w : World) (e : Ending) (w' : World) : Prop := e = .returned (.tuple #[itV l t x, .int .i64 (itE l t x)]) ∧ Below w.heap.size w w'
theorem ItemOut.mk' {l : List Tg} {t x z : Int} {v : Value} {w w' : World} (h : itE l t x = z ∧ itV l t x = v) (hb : Below w.heap.size w w') : ItemOut l t x w (.returned (.tuple #[v, .int .i64 z])) w' := by
  obtain ⟨rfl, rfl⟩ := h; exact ⟨rfl, hb⟩

def weightOk (x : Int) : Bool := decide (1 ≤ x ∧ x ≤ 9223372036854775808)
theorem weightOk_yes {t : Int} (h : ¬ (t < 1 ∨ 9223372036854775808 < t)) : weightOk t = true := decide_eq_true (by omega)
theorem weightOk_no {t : Int} (h : t < 1 ∨ 9223372036854775808 < t) : weightOk t = false := decide_eq_false (by omega)
theorem isWeight_any (x : Int) (w : World) : Calls Try.prog 35 #[.int .u64 x] w fun e w' => e = .returned (.bool (weightOk x)) ∧ w = w' := by
  go_enter Try.func35, Try.ntmps35
  go_wp2
  all_goals
    go_ret
    refine ⟨ret_bool ?_, rfl⟩
    rw [Bool.eq_iff_iff]
    simp [weightOk]
    try omega

set_option maxHeartbeats 1000000 in
theorem item_any (A : Option Addr) (n c : Nat) (l : List Tg) (t x : Int) (w : World) (hR : RdT w A n c l) (hn : n ≤ 1000) :
    Calls Try.prog 19 #[.agg #[.slice A n c, .int .i64 t, .int .u64 x]] w (ItemOut l t x w) := by
  have hE0 := EBox.new w A n c t x
  have hB0 : Below w.heap.size w (w.alloc (.cells #[.slice A n c, .int .i64 t, .int .u64 x] 30)) := (Below.refl _ w).alloc (Nat.le_refl _) _
  have hE1 := hE0.below ((Below.refl _ _).alloc (Nat.le_refl _) (.cells #[.string ⟨#[]⟩, .int .i64 0, .int .u64 0] 47))
  have hI1 := IBox.new (w.alloc (.cells #[.slice A n c, .int .i64 t, .int .u64 x] 30)) ⟨#[]⟩ 0 0
  have hB1 := hB0.alloc hB0.size (.cells #[.string ⟨#[]⟩, .int .i64 0, .int .u64 0] 47)
  rw [show (w.alloc (.cells #[.slice A n c, .int .i64 t, .int .u64 x] 30)).heap.size = w.heap.size + 1 from by simp] at hI1
  have hR1 := hR.below hB1
  by_cases ht : t < 0 ∨ 1099511627776 < t
  · have HT := Lib.hid (timeOk_no ht)
    have HI := Lib.hid (it_bad (l := l) (x := x) (.inl ht))
    clear ht
    have f0 := hI1.frozen 0
    have f1 := hI1.frozen 1
    have f2 := hI1.frozen 2
    have e0 := hI1.c0
    have e1 := hI1.c1
    have e2 := hI1.c2
    go_enter Try.func19, Try.ntmps19
    go_wp2_with (go_at_call 34; refine (isTime_any _ _).mono ?_; rintro e w' ⟨rfl, rfl⟩; rw [HT.out])
    refine bodyPost_ret (results_cell_row2 rfl _ _ (w.heap.size + 1) _ _ (0, 0) _ rfl hI1 Try.underlying47 rfl (by kernel_rfl)) rfl ?_
    exact ItemOut.mk' HI.out hB1
  by_cases hx : x < 1 ∨ 9223372036854775808 < x
  · have HT := Lib.hid (timeOk_yes ht)
    have HX := Lib.hid (weightOk_no hx)
    have HI := Lib.hid (it_bad (l := l) (t := t) (.inr hx))
    clear ht hx
    have f0 := hI1.frozen 0
    have f1 := hI1.frozen 1
    have f2 := hI1.frozen 2
    have e0 := hI1.c0
    have e1 := hI1.c1
    have e2 := hI1.c2
    go_enter Try.func19, Try.ntmps19
    go_wp2_with (first | (go_at_call 34; refine (isTime_any _ _).mono ?_; rintro e w' ⟨rfl, rfl⟩; rw [HT.out]) | (go_at_call 35; refine (isWeight_any _ _).mono ?_; rintro e w' ⟨rfl, rfl⟩; rw [HX.out]))
    refine bodyPost_ret (results_cell_row2 rfl _ _ (w.heap.size + 1) _ _ (0, 0) _ rfl hI1 Try.underlying47 rfl (by kernel_rfl)) rfl ?_
    exact ItemOut.mk' HI.out hB1
  have HT := Lib.hid (timeOk_yes ht)
  have HX := Lib.hid (weightOk_yes hx)
  have hno : ¬ ((t < 0 ∨ 1099511627776 < t) ∨ (x < 1 ∨ 9223372036854775808 < x)) := by omega
  have HK := Lib.hid (@it_key l t x hno)
  have HO := Lib.hid (@it_ok l t x hno)
  clear ht hx hno
  go_enter Try.func19, Try.ntmps19
  have x1 := hE1.c1
  have x0 := hE1.c0
  have x2 := hE1.c2
  go_wp2_with (first | (go_at_call 34; refine (isTime_any _ _).mono ?_; rintro e w' ⟨rfl, rfl⟩; rw [HT.out]) | (go_at_call 35; refine (isWeight_any _ _).mono ?_; rintro e w' ⟨rfl, rfl⟩; rw [HX.out]))
  refine (key_any _ _ _ _ _ hR1 hn).mono ?_
  rintro e w2 ⟨rfl, hb2⟩
  have hI2 := hI1.below hb2
  have hE2 := hE1.below hb2
  have hB2 := below_then hB1 hb2
  clear x0 x1 x2 hI1 hE1 hB1 hB0 hE0 hR1
  have f0 := hI2.frozen 0
  have f1 := hI2.frozen 1
  have f2 := hI2.frozen 2
  have e0 := hI2.c0
  have e1 := hI2.c1
  have e2 := hI2.c2
  have x0 := hE2.c0
  have x1 := hE2.c1
  have x2 := hE2.c2
  by_cases hk : keyErr l = 0
  · have HI := Lib.hid (HO.out hk)
    have HK0 := Lib.hid hk
    rw [HK0.out]
    clear hk
    go_wp2
    refine bodyPost_ret (results_cell_row2 rfl _ _ (w.heap.size + 1) _ _ (0, 0) _ rfl (hI2.put3 _ _ _) Try.underlying47 rfl (by kernel_rfl)) rfl ?_
    exact ItemOut.mk' HI.out (below_put3 hB2 (by omega) _ _ _)
  · have HI := Lib.hid (HK.out hk)
    have hv1 : (keyErr l == 0) = false := beq_false_of_ne hk
    have hv2 : (keyErr l != 0) = true := bne_iff_ne.2 hk
    clear hk
    go_wp2
    refine bodyPost_ret (results_cell_row2 rfl _ _ (w.heap.size + 1) _ _ (0, 0) _ rfl (hI2.put3 _ _ _) Try.underlying47 rfl (by kernel_rfl)) rfl ?_
    exact ItemOut.mk' HI.out (below_put3 hB2 (by omega) _ _ _)

set_option maxHeartbeats 1000000 in
theorem ritem_any (A : Option Addr) (n c : Nat) (l : List Tg) (t x : Int) (w : World) (hR : RdT w A n c l) (hn : n ≤ 1000) :
    Calls Try.prog 32 #[.agg #[.slice A n c, .int .i64 t, .int .u64 x]] w (ItemOut l t x w) := by
  have hE0 := EBox.new w A n c t x
  have hB0 : Below w.heap.size w (w.alloc (.cells #[.slice A n c, .int .i64 t, .int .u64 x] 30)) := (Below.refl _ w).alloc (Nat.le_refl _) _
  have hE1 := hE0.below ((Below.refl _ _).alloc (Nat.le_refl _) (.cells #[.string ⟨#[]⟩, .int .i64 0, .int .u64 0] 47))
  have hI1 := IBox.new (w.alloc (.cells #[.slice A n c, .int .i64 t, .int .u64 x] 30)) ⟨#[]⟩ 0 0
  have hB1 := hB0.alloc hB0.size (.cells #[.string ⟨#[]⟩, .int .i64 0, .int .u64 0] 47)
  rw [show (w.alloc (.cells #[.slice A n c, .int .i64 t, .int .u64 x] 30)).heap.size = w.heap.size + 1 from by simp] at hI1
  have hR1 := hR.below hB1
  have BAD : ∀ (h : (t < 0 ∨ 1099511627776 < t) ∨ (x < 1 ∨ 9223372036854775808 < x)), Hid (itE l t x = 1 ∧ itV l t x = .agg #[.string ⟨#[]⟩, .int .i64 0, .int .u64 0]) := fun h => Lib.hid (it_bad h)
  have x1 := hE1.c1
  have x2 := hE1.c2
  by_cases hta : t < 0
  · have HI := BAD (.inl (.inl hta))
    clear BAD
    have f0 := hI1.frozen 0
    have f1 := hI1.frozen 1
    have f2 := hI1.frozen 2
    have e0 := hI1.c0
    have e1 := hI1.c1
    have e2 := hI1.c2
    go_enter Try.func32, Try.ntmps32
    go_wp2
    refine bodyPost_ret (results_cell_row2 rfl _ _ (w.heap.size + 1) _ _ (0, 0) _ rfl hI1 Try.underlying47 rfl (by kernel_rfl)) rfl ?_
    exact ItemOut.mk' HI.out hB1
  by_cases htb : 1099511627776 < t
  · have HI := BAD (.inl (.inr htb))
    clear BAD
    have f0 := hI1.frozen 0
    have f1 := hI1.frozen 1
    have f2 := hI1.frozen 2
    have e0 := hI1.c0
    have e1 := hI1.c1
    have e2 := hI1.c2
    go_enter Try.func32, Try.ntmps32
    go_wp2
    refine bodyPost_ret (results_cell_row2 rfl _ _ (w.heap.size + 1) _ _ (0, 0) _ rfl hI1 Try.underlying47 rfl (by kernel_rfl)) rfl ?_
    exact ItemOut.mk' HI.out hB1
  by_cases hxa : x < 1
  · have HI := BAD (.inr (.inl hxa))
    clear BAD
    have f0 := hI1.frozen 0
    have f1 := hI1.frozen 1
    have f2 := hI1.frozen 2
    have e0 := hI1.c0
    have e1 := hI1.c1
    have e2 := hI1.c2
    go_enter Try.func32, Try.ntmps32
    go_wp2
    refine bodyPost_ret (results_cell_row2 rfl _ _ (w.heap.size + 1) _ _ (0, 0) _ rfl hI1 Try.underlying47 rfl (by kernel_rfl)) rfl ?_
    exact ItemOut.mk' HI.out hB1
  by_cases hxb : 9223372036854775808 < x
  · have HI := BAD (.inr (.inr hxb))
    clear BAD
    have f0 := hI1.frozen 0
    have f1 := hI1.frozen 1
    have f2 := hI1.frozen 2
    have e0 := hI1.c0
    have e1 := hI1.c1
    have e2 := hI1.c2
    go_enter Try.func32, Try.ntmps32
    go_wp2
    refine bodyPost_ret (results_cell_row2 rfl _ _ (w.heap.size + 1) _ _ (0, 0) _ rfl hI1 Try.underlying47 rfl (by kernel_rfl)) rfl ?_
    exact ItemOut.mk' HI.out hB1
  have hno : ¬ ((t < 0 ∨ 1099511627776 < t) ∨ (x < 1 ∨ 9223372036854775808 < x)) := by omega
  have HK := Lib.hid (@it_key l t x hno)
  have HO := Lib.hid (@it_ok l t x hno)
  clear hno BAD
  go_enter Try.func32, Try.ntmps32
  have x0 := hE1.c0
  go_wp2_with fail
  refine (rkey_any _ _ _ _ _ hR1 hn).mono ?_
  rintro e w2 ⟨rfl, hb2⟩
  have hI2 := hI1.below hb2
  have hE2 := hE1.below hb2
  have hB2 := below_then hB1 hb2
  clear x0 x1 x2 hI1 hE1 hB1 hB0 hE0 hR1
  have f0 := hI2.frozen 0
  have f1 := hI2.frozen 1
  have f2 := hI2.frozen 2
  have e0 := hI2.c0
  have e1 := hI2.c1
  have e2 := hI2.c2
  have x0 := hE2.c0
  have x1 := hE2.c1
  have x2 := hE2.c2
  by_cases hk : keyErr l = 0
  · have HI := Lib.hid (HO.out hk)
    have HK0 := Lib.hid hk
    rw [HK0.out]
    clear hk
    go_wp2
    refine bodyPost_ret (results_cell_row2 rfl _ _ (w.heap.size + 1) _ _ (0, 0) _ rfl (hI2.put3 _ _ _) Try.underlying47 rfl (by kernel_rfl)) rfl ?_
    exact ItemOut.mk' HI.out (below_put3 hB2 (by omega) _ _ _)
  · have HI := Lib.hid (HK.out hk)
    have hv1 : (keyErr l == 0) = false := beq_false_of_ne hk
    have hv2 : (keyErr l != 0) = true := bne_iff_ne.2 hk
    clear hk
    go_wp2
    refine bodyPost_ret (results_cell_row2 rfl _ _ (w.heap.size + 1) _ _ (0, 0) _ rfl (hI2.put3 _ _ _) Try.underlying47 rfl (by kernel_rfl)) rfl ?_
    exact ItemOut.mk' HI.out (below_put3 hB2 (by omega) _ _ _)

def verd (e : Int) : Int := if e = 0 then 0 else if e = 4 then 2 else 1
theorem verdict_any (x : Int) (w : World) : Calls Try.prog 20 #[.int .i64 x] w fun e w' => e = .returned (.int .i64 (verd x)) ∧ w = w' := by
  by_cases h0 : x = 0
  · subst h0
    go_enter Try.func20, Try.ntmps20
    go_wp2
    go_ret
    exact ⟨rfl, rfl⟩
  by_cases h4 : x = 4
  · subst h4
    go_enter Try.func20, Try.ntmps20
    go_wp2
    go_ret
    exact ⟨rfl, rfl⟩
  have H : Hid (verd x = 1) := Lib.hid (by unfold verd; rw [if_neg h0, if_neg h4])
  have d0 : (x == 0) = false := beq_false_of_ne h0
  have d4 : (x == 4) = false := beq_false_of_ne h4
  go_enter Try.func20, Try.ntmps20
  go_wp2
  go_ret
  exact ⟨ret_i64 H.out.symm, rfl⟩
theorem rverdict_any (x : Int) (w : World) : Calls Try.prog 33 #[.int .i64 x] w fun e w' => e = .returned (.int .i64 (verd x)) ∧ w = w' := by
  by_cases h0 : x = 0
  · subst h0
    go_enter Try.func33, Try.ntmps33
    go_wp2
    go_ret
    exact ⟨rfl, rfl⟩
  by_cases h4 : x = 4
  · subst h4
    go_enter Try.func33, Try.ntmps33
    go_wp2
    go_ret
    exact ⟨rfl, rfl⟩
  have H : Hid (verd x = 1) := Lib.hid (by unfold verd; rw [if_neg h0, if_neg h4])
  have d0 : (x == 0) = false := beq_false_of_ne h0
  have d4 : (x == 4) = false := beq_false_of_ne h4
  go_enter Try.func33, Try.ntmps33
  go_wp2
  go_ret
  exact ⟨ret_i64 H.out.symm, rfl⟩

end Go.Proofs.Ytoaijnpkenflbaa

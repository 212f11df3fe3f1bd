/- The program's pool in memory: remove, Release. Conditions: none beyond those typed. -/
import Derived.Test.YtenchaifnfgijaaQtake
namespace Go.Proofs.Ytenchaifnfgijaa
open Go.ChangeShapes Go.WideShapes Go.ChangeAt Go.RowKit
set_option linter.unusedVariables false
set_option linter.unusedSimpArgs false
set_option maxRecDepth 100000

section
variable {P : Nat → Prop} {col col' : Col} {w w' : World} {k ka g ga b : Nat} {q : PSt} {x : ASt} {D : DataW Unit} {vN vF : Value} {PA : Rep}
/-- A node is written. -/
theorem OwnKc.put4 {α : Type} {K : Kind α} {c x n m i : Nat} {l : List α} {a a' : α} {u0 u1 u2 u3 : Value} (h : OwnKc K col w c (.slice (some ⟨x, 0, none⟩) n m) l) (ht : Tidy col w) (hk : K.k = 4) (ha : l[i]? = some a)
    {p0 p1 p2 : α} (e0 : K.enc p0 = (K.enc a).set 0 u0) (e1 : K.enc p1 = (K.enc p0).set 1 u1) (e2 : K.enc p2 = (K.enc p1).set 2 u2) (e3 : K.enc a' = (K.enc p2).set 3 u3) :
    OwnKc K col ((((w.setCell ⟨x, i * 4, none⟩ u0).setCell ⟨x, i * 4 + 1, none⟩ u1).setCell ⟨x, i * 4 + 2, none⟩ u2).setCell ⟨x, i * 4 + 3, none⟩ u3) c (.slice (some ⟨x, 0, none⟩) n m) (l.set i a') ∧
      StepC (fun d => d = c) col w col ((((w.setCell ⟨x, i * 4, none⟩ u0).setCell ⟨x, i * 4 + 1, none⟩ u1).setCell ⟨x, i * 4 + 2, none⟩ u2).setCell ⟨x, i * 4 + 3, none⟩ u3) := by
  have hi := (List.getElem?_eq_some_iff.1 ha).1
  have hc := h.col.of
  have h0 := h.set (j := i) (i := 0) ha (by omega) e0
  have a0 : (l.set i p0)[i]? = some p0 := by rw [List.getElem?_set, if_pos rfl, if_pos hi]
  have h1 := h0.set (j := i) (i := 1) a0 (by omega) e1
  rw [List.set_set] at h1
  have a1 : (l.set i p1)[i]? = some p1 := by rw [List.getElem?_set, if_pos rfl, if_pos hi]
  have h2 := h1.set (j := i) (i := 2) a1 (by omega) e2
  rw [List.set_set] at h2
  have a2 : (l.set i p2)[i]? = some p2 := by rw [List.getElem?_set, if_pos rfl, if_pos hi]
  have h3 := h2.set (j := i) (i := 3) a2 (by omega) e3
  rw [List.set_set] at h3
  rw [hk] at h3
  have s0 := StepC.set (P := fun d => d = c) (a := ⟨x, i * 4, none⟩) ht hc u0
  have s1 := StepC.set (P := fun d => d = c) (a := ⟨x, i * 4 + 1, none⟩) s0.tidy hc u1
  have s2 := StepC.set (P := fun d => d = c) (a := ⟨x, i * 4 + 2, none⟩) s1.tidy hc u2
  have s3 := StepC.set (P := fun d => d = c) (a := ⟨x, i * 4 + 3, none⟩) s2.tidy hc u3
  exact ⟨h3, ((s0.trans s1).trans s2).trans s3⟩
theorem PqX.node {n : Nat} {ls : List (Hd × Int)} {lf : List Nat} (h : PqX col k w g ga n b D vN vF ls lf) (ht : Tidy col w) {x N m i : Nat} (hv : vN = .slice (some ⟨x, 0, none⟩) N m) (hi : i < ls.length) (z : Hd × Int) :
    PqX col k ((((w.setCell ⟨x, i * 4, none⟩ (.int .i64 z.1.1)).setCell ⟨x, i * 4 + 1, none⟩ (.int .i64 z.1.2.1)).setCell ⟨x, i * 4 + 2, none⟩ (.int .i64 z.1.2.2)).setCell ⟨x, i * 4 + 3, none⟩ (.int .i64 z.2)) g ga n b D vN vF (ls.set i z) lf ∧
      StepC (Rng k) col w col ((((w.setCell ⟨x, i * 4, none⟩ (.int .i64 z.1.1)).setCell ⟨x, i * 4 + 1, none⟩ (.int .i64 z.1.2.1)).setCell ⟨x, i * 4 + 2, none⟩ (.int .i64 z.1.2.2)).setCell ⟨x, i * 4 + 3, none⟩ (.int .i64 z.2)) := by
  subst hv
  have hg := List.getElem?_eq_getElem hi
  obtain ⟨h1, s1⟩ := h.ns.put4 ht rfl hg (a' := z) (u0 := .int .i64 z.1.1) (u1 := .int .i64 z.1.2.1) (u2 := .int .i64 z.1.2.2) (u3 := .int .i64 z.2) (p0 := ((z.1.1, ls[i].1.2.1, ls[i].1.2.2), ls[i].2)) (p1 := ((z.1.1, z.1.2.1, ls[i].1.2.2), ls[i].2)) (p2 := ((z.1.1, z.1.2.1, z.1.2.2), ls[i].2)) rfl rfl rfl rfl
  exact ⟨⟨h.box.keep s1 (by omega), h.ids.keep s1 (by omega), h1, h.fs.keep s1 (by omega), h.k1⟩, s1.mono fun c e => by subst e; exact ⟨by omega, by omega⟩⟩
/-- The map is turned. -/
theorem PqX.turnM {n : Nat} {ls : List (Hd × Int)} {lf : List Nat} (h : PqX col k w g ga n b D vN vF ls lf) (ht : Tidy col w) {m : Nat} {D' : DataW Unit} (ho : w'.ownsMap Try.prog 9 (plainElem Try.prog 3) b m D') (hg : w.grownBy w' (some b)) :
    PqX col k w' g ga n b D' vN vF ls lf ∧ StepC (Rng k) col w col w' := by
  obtain ⟨h1, s1⟩ := h.ids.turn ht ho hg
  exact ⟨⟨h.box.keep s1 (by omega), h1, h.ns.keep s1 (by omega), h.fs.keep s1 (by omega), h.k1⟩, s1.mono fun c e => by subst e; exact ⟨by omega, by omega⟩⟩
theorem PqX.c2 {n : Nat} {ls : List (Hd × Int)} {lf : List Nat} (h : PqX col k w g ga n b D vN vF ls lf) : w.cell? ⟨g, 2, none⟩ = some (.map (some b)) := h.box.cell 2 rfl
set_option maxHeartbeats 2000000 in
theorem pqRemove (HP : ProgA PA) (H : PqR col k w g ga q) (HA : PA col ka w ga x) (hL : Lnk q x) (hap : Apart k ka) (ht : Tidy col w) (hlt : x.t ≤ 100000000) (hqt : q.t ≤ 1000000000) {id i : Nat} {y : PEn} (hat : q.at (id : Int) = some (i, y)) (hu1 : y.u = 1) :
    Calls Try.prog 35 #[.pointer (some ⟨g, 0, none⟩), .int .i64 (id : Int)] w fun e w' => e = .returned (.int .i64 0) ∧ DidQ PA col k ka w g ga (q.less i) ((x.read y.h).2.free y.h).2 w' := by
  have HR := H
  obtain ⟨hG, b, D, vN, vF, H⟩ := H
  obtain ⟨h1, hi1, hy, hu, hi⟩ := at_some hat
  simp only at hi1 hy hu hi
  have hlen := hG.len
  have hn8 := hG.n8
  have hgA := HP.good HA
  have hid : I64 (id : Int) := ⟨by omega, by omega⟩
  have hT := pqText HP HR HA hL hap ht (by omega) hqt (id : Int) hid
  have E1 : q.text (id : Int) = (y.k, 0) := by unfold PSt.text; rw [hat]
  have E2 : q.teP x (id : Int) = (x.read y.h).2 := by unfold PSt.teP; rw [hat]
  have hrd := hL.read hgA hy hu
  have hxt : (x.read y.h).2 = x.tick := by rw [hrd]
  have htt : x.tick.t ≤ 1000000000 := by show x.t + 1 ≤ _; omega
  obtain ⟨k1, k2⟩ := hG.key y (List.mem_of_getElem? hy) hu
  obtain ⟨d1, d2, d3⟩ := hL.hd hgA (by omega) hy hu
  have h64 : Hd64 y.h := ⟨⟨by omega, by omega⟩, ⟨by omega, by omega⟩, ⟨by omega, by omega⟩⟩
  have hGL := hG.less (j := i)
  rw [E1, E2, hxt] at hT
  rw [hxt]
  have h6 : IntKind.i64.wrap ((id : Int) - 1) = (i : Int) := by rw [IntKind.wrap_i64]; omega
  have h7 : IntKind.i64.wrap (i : Int) = (i : Int) := by rw [IntKind.wrap_i64]; omega
  clear E1 E2 hrd hxt HR H HA
  go_enter Try.func35, Try.ntmps35
  go_wp2_with fail
  refine hT.mono ?_
  rintro e w1 ⟨rfl, col1, HQ1, HA1, S1⟩
  obtain ⟨_, b, D, vN, vF, H1⟩ := HQ1
  have ht1 := S1.tidy
  have x0 := H1.c0
  have x3 := H1.c3
  obtain ⟨A, m, hv, hm1, hm2, hA⟩ := H1.formN
  obtain ⟨N, hN⟩ : ∃ N : Nat, q.e.length = N := ⟨_, rfl⟩
  obtain ⟨xb, rfl, hxb, hxc⟩ := hA (by omega)
  obtain ⟨y0, y1, y2, y3, _⟩ := H1.node hv hy
  rw [node_live hu] at y0 y1 y2
  simp only at y0 y1 y2
  rw [hv, hN] at x3
  rw [hN] at hi hm1
  have h5 : (i : Int) < (N : Int) := by omega
  have hHA := HP.below HA1 ht1 (Below.refl w1.heap.size w1).drew
  have hfr := HP.free hHA ht1 htt y.h h64
  clear hT HA1
  have hgk : ¬ Rng ka (col1 g) := by rw [H1.box.col]; exact hap.no _ ⟨Nat.le_refl _, by omega⟩
  have hxk : ¬ Rng ka (col1 xb) := by rw [hxc]; exact hap.no _ ⟨by omega, by omega⟩
  have hS : w1.cell? ⟨g, 0, none⟩ = some (.pointer (some ⟨ga, 0, none⟩)) ∧ w1.cell? ⟨g, 3, none⟩ = some (.slice (some ⟨xb, 0, none⟩) N m) ∧ w1.cell? ⟨xb, i * 4, none⟩ = some (.int .i64 y.h.1) ∧ w1.cell? ⟨xb, i * 4 + 1, none⟩ = some (.int .i64 y.h.2.1) ∧ w1.cell? ⟨xb, i * 4 + 2, none⟩ = some (.int .i64 y.h.2.2) := ⟨x0, x3, y0, y1, y2⟩
  have hSk : ∀ (col4 : Col) (w4 : World), StepC (Rng ka) col1 w1 col4 w4 → (w4.cell? ⟨g, 0, none⟩ = some (.pointer (some ⟨ga, 0, none⟩)) ∧ w4.cell? ⟨g, 3, none⟩ = some (.slice (some ⟨xb, 0, none⟩) N m) ∧ w4.cell? ⟨xb, i * 4, none⟩ = some (.int .i64 y.h.1) ∧ w4.cell? ⟨xb, i * 4 + 1, none⟩ = some (.int .i64 y.h.2.1) ∧ w4.cell? ⟨xb, i * 4 + 2, none⟩ = some (.int .i64 y.h.2.2)) := fun _ _ h => ⟨h.cell x0 hgk, h.cell x3 hgk, h.cell y0 hxk, h.cell y1 hxk, h.cell y2 hxk⟩
  have HH1 := Lib.hid H1
  have HHY := Lib.hid hy
  have HHV := Lib.hid hv
  have HHN := Lib.hid hN
  have HHA := Lib.hid hat
  clear H1 hgk hxk x0 x3 y0 y1 y2 y3 hy hv hA hN hat hi1 hlen hn8
  go_wp2
  go_region_held3 (fun w' => w'.cell? ⟨g, 0, none⟩ = some (.pointer (some ⟨ga, 0, none⟩)) ∧ w'.cell? ⟨g, 3, none⟩ = some (.slice (some ⟨xb, 0, none⟩) N m) ∧ w'.cell? ⟨xb, i * 4, none⟩ = some (.int .i64 y.h.1) ∧ w'.cell? ⟨xb, i * 4 + 1, none⟩ = some (.int .i64 y.h.2.1) ∧ w'.cell? ⟨xb, i * 4 + 2, none⟩ = some (.int .i64 y.h.2.2)) (first | exact hS | exact hS4)
    (first | (go_at_call 45; refine hfr.mono ?_; rintro e4 w4 ⟨rfl, col4, HA4, S4⟩; have S4' : StepC (Rng ka) col1 w1 col4 w4 := (StepC.drew ht1).trans S4; have hS4 := hSk col4 w4 S4'))
  all_goals
    clear hS hSk hfr
    obtain ⟨_, x3, _, _, _⟩ := hS4
    have ht4 := S4'.tidy
    have H4 := (HH1.out.keep S4' hap.no).toX
    have hR := HH1.out.rel
    have hO := hG.oneE
    obtain ⟨H5, S5⟩ := H4.node ht4 HHV.out (i := i) (by simp only [nodesQ, List.length_map, HHN.out]; exact hi) ((0, 0, 0), 0)
    have ht5 := S5.tidy
    have q2 := H5.c2
    have fx : ∀ z, w4.frozen? ⟨xb, z, none⟩ = false := fun z => by
      have h := H4.ns.own
      rw [HHV.out] at h
      exact h.free z
    have f0 := fx (i * 4)
    have f1 := fx (i * 4 + 1)
    have f2 := fx (i * 4 + 2)
    have f3 := fx (i * 4 + 3)
    have y4 : ∀ c u, (kN.enc (nodeOf y))[c]? = some u → w4.cell? ⟨xb, i * 4 + c, none⟩ = some u := fun c u hu => by
      have h := H4.ns.own
      rw [HHV.out] at h
      exact h.cell (nodes_at HHY.out) hu
    have y40 := y4 0 _ rfl
    have y41 := y4 1 _ rfl
    have y42 := y4 2 _ rfl
    have y43 := y4 3 _ rfl
    rw [Nat.add_zero] at y40
    have hown := H5.ids.own
    unfold MapQ at hown
    have hkey := keyOfS (s := y.k) (by simp only [maxLen]; omega)
    have hSS := (S1.trans (S4'.mono rng_r)).trans (S5.mono rng_l)
    have HH5 := Lib.hid H5
    have HR := Lib.hid hR
    have H1tidy := H5.ids.tidy
    have S5A := S5
    clear H4 H5 fx y4 hR S4 S4'
    simp only at q2 hown HH5 ht5 hSS
    have hJ : id = i + 1 := by have := (at_some HHA.out).2.1; simp only at this; omega
    obtain ⟨p1, p2, p3, p4⟩ := freed_parts HHY.out hu (show y.down.u = 0 by simp only [PEn.down]; omega)
    have hfl : (freedQ q.e).length ≤ 1000000 := by have h1 := freed_len q.e; have h2 := hG.len; have h3 := hG.n8; omega
    have hfm : ∀ d ∈ freedQ q.e, d ≤ 1000000 := fun d hd => by have h0 := freed_mem hd; have h2 := hG.len; have h3 := hG.n8; omega
    rw [← hJ] at p1 p2 p3 p4
    have HP1 := Lib.hid p1
    have HJ := Lib.hid hJ
    have hidm : id ≤ 1000000 := by have h2 := hG.len; have h3 := hG.n8; have h4 := HHN.out; omega
    clear p1 hJ
    go_wp2_with (at_delete; refine wpList_delete_own _ rfl _ _ 76 9 rfl 3 lawS Try.underlying76 _ b (Go.Maps.size D) D rfl hown (.string y.k) (litS y.k) rfl hkey ?_; intro w6 hown6 hturn6; have hgr6 := hturn6.grown; clear hturn6 q2 hown f0 f1 f2 f3 y40 y41 y42 y43 x3)
    obtain ⟨H6, S6⟩ := HH5.out.turnM ht5 hown6 hgr6
    have hgv := pq_give H6 S6.tidy hfl hfm hidm p2 p3 p4
    refine hgv.mono ?_
    rintro e7 w7 ⟨rfl, col7, vN7, vF7, H7, S7⟩
    clear hgv
    go_wp2
    go_ret
    have hmod : q.e.modify i PEn.down = q.e.set i y.down := modify_set HHY.out
    have hnd : nodeOf y.down = ((0, 0, 0), 0) := node_dead (by simp only [PEn.down]; omega)
    have hns : (nodesQ q.e).set i ((0, 0, 0), 0) = nodesQ (q.less i).e := by
      show _ = nodesQ (q.e.modify i PEn.down)
      rw [hmod, ← hnd]; exact nodes_set
    have hfs : (freedQ q.e).take (above q.e id) ++ id :: (freedQ q.e).drop (above q.e id) = freedQ (q.less i).e := by
      show _ = freedQ (q.e.modify i PEn.down)
      rw [hmod]; exact HP1.out.symm
    rw [hns, hfs] at H7
    have hrel : RelM (q.less i).e (D.del (litS y.k)) := HR.out.gone H1tidy hO (f := PEn.down) (by simp only [PEn.down]; omega) HHY.out hu
    have hS67 := S6.trans S7
    exact ⟨rfl, col7, ⟨hGL, _, _, _, _, H7.toB (q := q.less i) hrel⟩, HP.keep HA4 ((S5A).trans hS67) (fun c h1 h2 => hap.no c h2 h1) hap.z1, hSS.trans (hS67.mono rng_l)⟩
set_option maxHeartbeats 2000000 in
theorem pqRelease (HP : ProgA PA) (H : PqR col k w g ga q) (HA : PA col ka w ga x) (hL : Lnk q x) (hap : Apart k ka) (ht : Tidy col w) (hlt : x.t ≤ 100000000) (hqt : q.t ≤ 1000000000) (id : Int) (hid : I64 id) :
    Calls Try.prog 16 #[.pointer (some ⟨g, 0, none⟩), .int .i64 id] w fun e w' => e = .returned (.int .i64 (q.release id).1) ∧ DidQ PA col k ka w g ga (q.release id).2 (q.reP x id) w' := by
  have HR := H
  obtain ⟨hG, b, D, vN, vF, H⟩ := H
  have hH := pqHas hG H id hid hqt
  have hlen := hG.len
  have hn8 := hG.n8
  have hGF := hG.release id
  cases hat : q.at id with
  | none =>
    have E1 := Lib.hid (show q.release id = (8, q.tick) by unfold PSt.release; rw [hat])
    have E2 := Lib.hid (show q.reP x id = x by unfold PSt.reP; rw [hat])
    rw [hat] at hH
    have HH := Lib.hid H
    clear H
    go_enter Try.func16, Try.ntmps16
    go_wp2_with fail
    refine hH.mono ?_
    rintro e w1 ⟨rfl, rfl⟩
    simp only [Option.isSome]
    go_wp2
    go_ret
    rw [E1.out] at hGF ⊢
    rw [E2.out]
    exact ⟨rfl, col, ⟨hGF, _, _, _, _, HH.out.time _⟩, HA, StepC.refl ht⟩
  | some p =>
    obtain ⟨i, y⟩ := p
    obtain ⟨h1, hi1, hy, hu, hi⟩ := at_some hat
    simp only at hi1 hy hu hi
    have E1 := Lib.hid (show q.release id = (0, q.less i) by unfold PSt.release; rw [hat])
    have E2 := Lib.hid (show q.reP x id = if y.u = 1 then ((x.read y.h).2.free y.h).2 else x by unfold PSt.reP; rw [hat])
    have hup := hG.ut y (List.mem_of_getElem? hy)
    have x3 := H.c3
    obtain ⟨A, m, hv, hm1, hm2, hA⟩ := H.formN
    obtain ⟨N, hN⟩ : ∃ N : Nat, q.e.length = N := ⟨_, rfl⟩
    obtain ⟨xb, rfl, hxb, hxc⟩ := hA (by omega)
    obtain ⟨_, _, _, y3, fz⟩ := H.node hv hy
    rw [node_live hu] at y3
    simp only at y3
    have f3 := fz (i * 4 + 3)
    rw [hat] at hH
    by_cases hu1 : y.u = 1
    · obtain ⟨J, hJ⟩ : ∃ J : Nat, id = J := ⟨id.toNat, by omega⟩
      subst hJ
      have hrm := pqRemove HP HR HA hL hap ht hlt hqt hat hu1
      have E2' := Lib.hid (E2.out.trans (if_pos hu1))
      rw [hu1] at y3
      rw [hv, hN] at x3
      rw [hN] at hi hm1
      have h5 : (i : Int) < (N : Int) := by omega
      have h6 : IntKind.i64.wrap ((J : Int) - 1) = (i : Int) := by rw [IntKind.wrap_i64]; omega
      clear H hA hN hv fz hy hat hi1 hlen hn8 E2
      go_enter Try.func16, Try.ntmps16
      go_wp2_with fail
      refine hH.mono ?_
      rintro e w1 ⟨rfl, rfl⟩
      simp only [Option.isSome]
      go_wp2_with fail
      refine hrm.mono ?_
      rintro e w1 ⟨rfl, hD⟩
      clear hrm hH
      go_wp2
      go_ret
      rw [E1.out] at hGF ⊢
      rw [E2'.out]
      exact ⟨rfl, hD⟩
    · have E2' := Lib.hid (E2.out.trans (if_neg hu1))
      obtain ⟨u, hu2⟩ : ∃ u : Int, (y.u : Int) = u := ⟨_, rfl⟩
      obtain ⟨H1, S1⟩ := H.setU hG.oneE ht hv hy hu (f := PEn.down) (by simp only [PEn.down]; omega) (fun _ => rfl) (fun _ => rfl) (z := u - 1) (by simp only [PEn.down]; omega) (q.t + 1)
      have HA1 := HP.keep HA S1 (fun c h1 h2 => hap.no c h2 h1) hap.z1
      have hug : (1 : Int) < u := by omega
      have hub : IntKind.i64.wrap (u - 1) = u - 1 := by rw [IntKind.wrap_i64]; omega
      rw [hu2] at y3
      rw [hv, hN] at x3
      rw [hN] at hi hm1
      have h5 : (i : Int) < (N : Int) := by omega
      have h6 : IntKind.i64.wrap (id - 1) = (i : Int) := by rw [IntKind.wrap_i64]; omega
      have HH1 := Lib.hid H1
      clear H H1 hA hN hv fz hy hat hi1 hlen hn8 E2 hu1 hu2
      go_enter Try.func16, Try.ntmps16
      go_wp2_with fail
      refine hH.mono ?_
      rintro e w1 ⟨rfl, rfl⟩
      simp only [Option.isSome]
      clear hH
      go_wp2
      go_ret
      rw [E1.out] at hGF ⊢
      rw [E2'.out]
      exact ⟨rfl, col, ⟨hGF, _, _, _, _, HH1.out⟩, HA1, S1.mono rng_l⟩
end
end Go.Proofs.Ytenchaifnfgijaa

import Derived.Test.YtebbpkdhdilkcaaJ7
import Derived.Laws.StructEq
import Derived.BigQuiet
import Derived.Deep.QuietTactic
/- The document's Same of work. -/
namespace Go.Proofs.Ytebbpkdhdilkcaa
open Go.RowKit Go.Proofs.Ytebbpkdhdilkcaa.Plain

/-- the same work? -/
def workB (g g' : Int) (ts ts' : List Tk) (dn dn' : List Bool) : Bool := decide (g = g' ∧ ts = ts' ∧ dn = dn')
theorem eq_of_allk {α : Type} (d : α) (xs ys : List α) (hl : xs.length = ys.length) (h : ∀ j, j < xs.length → xs.getD j d = ys.getD j d) : xs = ys := by
  apply List.ext_getElem hl
  intro i h1 h2
  have := h i h1
  simpa [List.getD_eq_getElem?_getD, List.getElem?_eq_getElem h1, List.getElem?_eq_getElem h2] using this

set_option maxHeartbeats 3200000 in
set_option maxRecDepth 100000 in
theorem rsame_any (A B A' B' : Option Addr) (c d c' d' : Nat) (ts ts' : List Tk) (g g' : Int) (dn dn' : List Bool) (w : World) (h1 : Rd kTask w (.slice A ts.length c) ts) (h2 : Rd kBool w (.slice B dn.length d) dn)
    (h3 : Rd kTask w (.slice A' ts'.length c') ts') (h4 : Rd kBool w (.slice B' dn'.length d') dn') :
    Calls Try.prog 10 #[.agg #[.slice A ts.length c, .int .i64 g, .slice B dn.length d], .agg #[.slice A' ts'.length c', .int .i64 g', .slice B' dn'.length d']] w fun e w' => e = .returned (.bool (workB g g' ts ts' dn dn')) ∧ Ext w w' := by
  have n1 := h1.len
  have n2 := h2.len
  have n3 := h3.len
  have n4 := h4.len
  have H1 := Lib.hid h1
  have H2 := Lib.hid h2
  have H3 := Lib.hid h3
  have H4 := Lib.hid h4
  clear h1 h2 h3 h4
  by_cases hd : g = g' ∧ ts.length = ts'.length ∧ dn.length = dn'.length
  · obtain ⟨rfl, e2, e3⟩ := hd
    obtain ⟨m, hm⟩ : ∃ m, ts'.length = m := ⟨_, rfl⟩
    obtain ⟨r, hr⟩ : ∃ r, dn'.length = r := ⟨_, rfl⟩
    rw [hm] at e2 n3 H3 ⊢
    rw [hr] at e3 n4 H4 ⊢
    rw [e2] at n1 H1 ⊢
    rw [e3] at n2 H2 ⊢
    have M1 := Lib.hid e2
    have M2 := Lib.hid hm
    have R1 := Lib.hid e3
    have R2 := Lib.hid hr
    clear e2 e3 hm hr
    go_enter Try.func10, Try.ntmps10
    go_wp2
    go_loopw [5] (fun i wr => ∃ k : Nat, k ≤ m ∧ i = .int .i64 k ∧ (∀ j, j < k → ts.getD j tk0 = ts'.getD j tk0) ∧ Ext ((w.alloc (.cells #[.slice A m c, .int .i64 g, .slice B r d] 28)).alloc (.cells #[.slice A' m c', .int .i64 g, .slice B' r d'] 28)) wr) (fun i _ => m - (intOf i).toNat)
    case atStart => exact ⟨0, Nat.zero_le _, rfl, by omega, Ext.refl _⟩
    case round =>
      obtain ⟨k, hk, rfl, hall, hE⟩ := hrel
      have HALL := Lib.hid hall
      have x0 : wr.cell? ⟨w.heap.size, 0, none⟩ = some (.slice A m c) := hE.cell (by go_simp)
      have x2 : wr.cell? ⟨w.heap.size, 2, none⟩ = some (.slice B r d) := hE.cell (by go_simp)
      have y0 : wr.cell? ⟨w.heap.size + 1, 0, none⟩ = some (.slice A' m c') := hE.cell (by go_simp)
      have y2 : wr.cell? ⟨w.heap.size + 1, 2, none⟩ = some (.slice B' r d') := hE.cell (by go_simp)
      clear hall
      by_cases hlt : k < m
      · have hlt' : (k : Int) < m := by omega
        obtain ⟨b, off, rfl, hcc⟩ := Rd.tasks H1.out (by rw [M1.out]; omega)
        obtain ⟨b', off', rfl, hcc'⟩ := Rd.tasks H3.out (by rw [M2.out]; omega)
        obtain ⟨p0, p1, p2, p3⟩ := hcc k (by rw [M1.out]; exact hlt)
        obtain ⟨q0, q1, q2, q3⟩ := hcc' k (by rw [M2.out]; exact hlt)
        obtain ⟨⟨l0, l1, l2, l3⟩, ht⟩ : ∃ t, ts.getD k tk0 = t := ⟨_, rfl⟩
        obtain ⟨⟨s0, s1, s2, s3⟩, ht'⟩ : ∃ t, ts'.getD k tk0 = t := ⟨_, rfl⟩
        have ht1 : ts.getD k ⟨0, 0, 0, 0⟩ = ⟨l0, l1, l2, l3⟩ := ht
        have ht2 : ts'.getD k ⟨0, 0, 0, 0⟩ = ⟨s0, s1, s2, s3⟩ := ht'
        rw [ht1] at p0 p1 p2 p3
        rw [ht2] at q0 q1 q2 q3
        simp only at p0 p1 p2 p3 q0 q1 q2 q3
        replace p0 := hE.cell (Lib.cell?_alloc_some _ (Lib.cell?_alloc_some _ p0))
        replace p1 := hE.cell (Lib.cell?_alloc_some _ (Lib.cell?_alloc_some _ p1))
        replace p2 := hE.cell (Lib.cell?_alloc_some _ (Lib.cell?_alloc_some _ p2))
        replace p3 := hE.cell (Lib.cell?_alloc_some _ (Lib.cell?_alloc_some _ p3))
        replace q0 := hE.cell (Lib.cell?_alloc_some _ (Lib.cell?_alloc_some _ q0))
        replace q1 := hE.cell (Lib.cell?_alloc_some _ (Lib.cell?_alloc_some _ q1))
        replace q2 := hE.cell (Lib.cell?_alloc_some _ (Lib.cell?_alloc_some _ q2))
        replace q3 := hE.cell (Lib.cell?_alloc_some _ (Lib.cell?_alloc_some _ q3))
        have HE := Lib.hid hE
        have HT := Lib.hid ht
        have HT' := Lib.hid ht'
        clear hcc hcc' ht1 ht2 ht ht' hE
        by_cases e0 : l0 = s0
        · subst e0
          by_cases e1 : l1 = s1
          · subst e1
            by_cases e2 : l2 = s2
            · subst e2
              by_cases e3 : l3 = s3
              · subst e3
                have H0 : Hid (∀ j, j < k + 1 → ts.getD j tk0 = ts'.getD j tk0) := Lib.hid (fun j hj => by
                  by_cases hjk : j = k
                  · subst hjk; rw [HT.out, HT'.out]
                  · exact HALL.out j (by omega))
                go_wp2
                go_quiet (fail)
                go_wp2
                go_roundw
                case rel => exact ⟨k + 1, by omega, by go_num, H0.out, HE.out.drewN _⟩
                case measure => simp [intOf]; omega
              · have t3 : (l3 == s3) = false := by rw [beq_eq_false_iff_ne]; exact e3
                have HW : Hid (workB g g ts ts' dn dn' = false) := Lib.hid (by unfold workB; rw [decide_eq_false_iff_not]; rintro ⟨_, rfl, _⟩; rw [HT.out] at HT'; have := HT'.out; injection this with f0 f1 f2 f3; exact e3 f3)
                clear e3
                go_wp2
                go_quiet (fail)
                go_wp2
                go_ret
                exact ⟨ret_bool HW.out.symm, ((((Ext.refl w).alloc _).alloc _).trans HE.out).drewN _⟩
            · have t2 : (l2 == s2) = false := by rw [beq_eq_false_iff_ne]; exact e2
              have HW : Hid (workB g g ts ts' dn dn' = false) := Lib.hid (by unfold workB; rw [decide_eq_false_iff_not]; rintro ⟨_, rfl, _⟩; rw [HT.out] at HT'; have := HT'.out; injection this with f0 f1 f2 f3; exact e2 f2)
              clear e2
              go_wp2
              go_quiet (fail)
              go_wp2
              go_ret
              exact ⟨ret_bool HW.out.symm, ((((Ext.refl w).alloc _).alloc _).trans HE.out).drewN _⟩
          · have t1 : (l1 == s1) = false := by rw [beq_eq_false_iff_ne]; exact e1
            have HW : Hid (workB g g ts ts' dn dn' = false) := Lib.hid (by unfold workB; rw [decide_eq_false_iff_not]; rintro ⟨_, rfl, _⟩; rw [HT.out] at HT'; have := HT'.out; injection this with f0 f1 f2 f3; exact e1 f1)
            clear e1
            go_wp2
            go_quiet (fail)
            go_wp2
            go_ret
            exact ⟨ret_bool HW.out.symm, ((((Ext.refl w).alloc _).alloc _).trans HE.out).drewN _⟩
        · have t0 : (l0 == s0) = false := by rw [beq_eq_false_iff_ne]; exact e0
          have HW : Hid (workB g g ts ts' dn dn' = false) := Lib.hid (by unfold workB; rw [decide_eq_false_iff_not]; rintro ⟨_, rfl, _⟩; rw [HT.out] at HT'; have := HT'.out; injection this with f0 f1 f2 f3; exact e0 f0)
          clear e0
          go_wp2
          go_quiet (fail)
          go_wp2
          go_ret
          exact ⟨ret_bool HW.out.symm, ((((Ext.refl w).alloc _).alloc _).trans HE.out).drewN _⟩
      · have hk' : k = m := by omega
        have HTS : Hid (ts = ts') := Lib.hid (eq_of_allk tk0 ts ts' (by rw [M1.out, M2.out]) (fun j hj => HALL.out j (by rw [M1.out] at hj; omega)))
        have hlt' : ¬ (k : Int) < m := by omega
        have HE := Lib.hid hE
        obtain ⟨wo, hwo⟩ : ∃ wo : World, wo = wr := ⟨_, rfl⟩
        rw [← hwo] at HE
        clear hk' hE
        go_wp2
        go_loopw [6] (fun i wx => ∃ j : Nat, j ≤ r ∧ i = .int .i64 j ∧ (∀ q, q < j → dn.getD q false = dn'.getD q false) ∧ Ext ((w.alloc (.cells #[.slice A m c, .int .i64 g, .slice B r d] 28)).alloc (.cells #[.slice A' m c', .int .i64 g, .slice B' r d'] 28)) wx) (fun i _ => r - (intOf i).toNat)
        case atStart => exact ⟨0, Nat.zero_le _, rfl, by omega, by rw [← hwo]; exact HE.out⟩
        case round =>
          clear x0 x2 y0 y2
          obtain ⟨j, hj, rfl, hall, hE⟩ := hrel
          have HAL := Lib.hid hall
          have x0 : wr.cell? ⟨w.heap.size, 0, none⟩ = some (.slice A m c) := hE.cell (by go_simp)
          have x2 : wr.cell? ⟨w.heap.size, 2, none⟩ = some (.slice B r d) := hE.cell (by go_simp)
          have y2 : wr.cell? ⟨w.heap.size + 1, 2, none⟩ = some (.slice B' r d') := hE.cell (by go_simp)
          clear hall
          by_cases hjr : j < r
          · have hjr' : (j : Int) < r := by omega
            obtain ⟨b, off, rfl, hcc⟩ := Rd.bools H2.out (by rw [R1.out]; omega)
            obtain ⟨b', off', rfl, hcc'⟩ := Rd.bools H4.out (by rw [R2.out]; omega)
            have p0 := hE.cell (Lib.cell?_alloc_some _ (Lib.cell?_alloc_some _ (hcc j (by rw [R1.out]; exact hjr))))
            have q0 := hE.cell (Lib.cell?_alloc_some _ (Lib.cell?_alloc_some _ (hcc' j (by rw [R2.out]; exact hjr))))
            obtain ⟨u, hu⟩ : ∃ u, dn.getD j false = u := ⟨_, rfl⟩
            obtain ⟨z, hz⟩ : ∃ z, dn'.getD j false = z := ⟨_, rfl⟩
            rw [hu] at p0
            rw [hz] at q0
            have HU := Lib.hid hu
            have HZ := Lib.hid hz
            have HE := Lib.hid hE
            clear hcc hcc' hu hz hE
            by_cases huz : u = z
            · subst huz
              have H0 : Hid (∀ q, q < j + 1 → dn.getD q false = dn'.getD q false) := Lib.hid (fun q hq => by
                by_cases hqj : q = j
                · subst hqj; rw [HU.out, HZ.out]
                · exact HAL.out q (by omega))
              go_wp2
              go_quiet (fail)
              go_wp2
              go_roundw
              case rel => exact ⟨j + 1, by omega, by go_num, H0.out, HE.out.drewN _⟩
              case measure => simp [intOf]; omega
            · have t0 : (u == z) = false := by rw [beq_eq_false_iff_ne]; exact huz
              have HW : Hid (workB g g ts ts' dn dn' = false) := Lib.hid (by unfold workB; rw [decide_eq_false_iff_not]; rintro ⟨_, _, rfl⟩; exact huz (HU.out.symm.trans HZ.out))
              clear huz
              go_wp2
              go_quiet (fail)
              go_wp2
              go_ret
              exact ⟨ret_bool HW.out.symm, ((((Ext.refl w).alloc _).alloc _).trans HE.out).drewN _⟩
          · have hjr' : ¬ (j : Int) < r := by omega
            have HD : Hid (dn = dn') := Lib.hid (eq_of_allk false dn dn' (by rw [R1.out, R2.out]) (fun q hq => HAL.out q (by rw [R1.out] at hq; omega)))
            have HW : Hid (workB g g ts ts' dn dn' = true) := Lib.hid (by unfold workB; rw [decide_eq_true_eq]; exact ⟨rfl, HTS.out, HD.out⟩)
            go_wp2
            go_ret
            exact ⟨ret_bool HW.out.symm, (((Ext.refl w).alloc _).alloc _).trans hE⟩
  · have HW : Hid (workB g g' ts ts' dn dn' = false) := Lib.hid (by unfold workB; rw [decide_eq_false_iff_not]; rintro ⟨rfl, rfl, rfl⟩; exact hd ⟨rfl, rfl, rfl⟩)
    by_cases b1 : g = g'
    · subst b1
      by_cases b2 : ts.length = ts'.length
      · have b3 : ((dn.length : Int) != (dn'.length : Int)) = true := by rw [bne_iff_ne]; intro e; exact hd ⟨rfl, b2, by omega⟩
        have b2' : ((ts.length : Int) != (ts'.length : Int)) = false := by rw [bne_eq_false_iff_eq]; omega
        clear hd b2
        go_enter Try.func10, Try.ntmps10
        go_wp2
        go_ret
        exact ⟨ret_bool HW.out.symm, ((Ext.refl w).alloc _).alloc _⟩
      · have b2' : ((ts.length : Int) != (ts'.length : Int)) = true := by rw [bne_iff_ne]; omega
        clear hd b2
        go_enter Try.func10, Try.ntmps10
        go_wp2
        go_ret
        exact ⟨ret_bool HW.out.symm, ((Ext.refl w).alloc _).alloc _⟩
    · have b1' : (g != g') = true := by rw [bne_iff_ne]; exact b1
      clear hd b1
      go_enter Try.func10, Try.ntmps10
      go_wp2
      go_ret
      exact ⟨ret_bool HW.out.symm, ((Ext.refl w).alloc _).alloc _⟩
end Go.Proofs.Ytebbpkdhdilkcaa

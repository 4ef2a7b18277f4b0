/- The walk of PoolOrder. -/
import Derived.Test.YtbkheglogmkbgaaPoolAt
import Derived.Test.YtbkheglogmkbgaaPPlain
import Derived.Test.YtbkheglogmkbgaaOpenD
namespace Go.Proofs.Ytbkheglogmkbgaa
open Go.RowKit Go.Proofs.Ytbkheglogmkbgaa.Plain

theorem val_int {k : IntKind} {a b : Int} (h : a = b) : Value.int k a = .int k b := by rw [h]
def allH (n : Nat) : List (Int × Int) := (List.range n).map fun i : Nat => ((i : Int), 1)
theorem allH_len (n : Nat) : (allH n).length = n := by simp [allH]
theorem allH_succ (n : Nat) : allH (n + 1) = allH n ++ [((n : Int), 1)] := by simp [allH, List.range_succ]
theorem allH_get (n j : Nat) (h : j < n) : (allH n).getD j (0, 0) = ((j : Int), 1) := by
  rw [List.getD_eq_getElem?_getD, List.getElem?_eq_getElem (by rw [allH_len]; exact h)]; simp [allH]

def TookAt (w0 : World) (P k i : Nat) (v : Value) (wr : World) : Prop := ∃ gs xs, TookI k i gs xs ∧ PoolAt wr P gs xs ∧ Hs (P + 1) wr v (allH i) ∧ Ext w0 wr

def GaveAt (w0 : World) (P k : Nat) (u v : Value) (wr : World) : Prop := ∃ gs xs, GaveI k gs xs ∧ PoolAt wr P gs xs ∧ Own (P + 1) wr v xs ∧ Hs (P + 1) wr u (allH k) ∧ Ext w0 wr

def BackAt (w0 : World) (P k m : Nat) (order : List Int) (v : Value) (wr : World) : Prop := ∃ gs xs, BackI k order m gs xs ∧ PoolAt wr P gs xs ∧ Own (P + 1) wr v order ∧ Ext w0 wr

set_option maxHeartbeats 6400000 in
set_option maxRecDepth 100000 in
theorem porder_walk (x : Int) (A : Option Addr) (c : Nat) (gives : List Int) (w : World) (hx : 0 ≤ x ∧ x ≤ 255) (h : Bytes w (.slice A gives.length c) gives) (hl : gives.length ≤ 60) :
    Calls Try.prog 4 #[.int .u8 x, .slice A gives.length c] w fun e w' => e = .returned (.bool true) ∧ Ext w w' := by
  have H := Lib.hid h
  have hq0 : (gives.length : Int) ≤ 60 := by omega
  obtain ⟨k, hk⟩ : ∃ k : Nat, (k : Int) = 1 + x % 20 := ⟨(1 + x % 20).toNat, by omega⟩
  have hk1 : 1 ≤ k := by omega
  have hk2 : k ≤ 20 := by omega
  have HK := Lib.hid hk
  clear h hk
  go_enter Try.func4, Try.ntmps4
  go_wp2_with fail
  refine (alive_any _).mono ?_
  rintro e w0 ⟨rfl, hE⟩
  have E0 := Lib.hid hE
  have I := Lib.hid (H.out.ext hE)
  clear hE
  go_upto_region 5 with fail
  go_cut [5] (fun s wx => s = .int .i64 k ∧ wx = w0)
  case first =>
    go_wp2
    all_goals (go_meet; exact ⟨val_int (by have := HK.out; omega), rfl⟩)
  case rest =>
    obtain ⟨rfl, rfl⟩ := hcut
    have hk3 : (1 : Int) ≤ k := by omega
    have hk4 : (k : Int) ≤ 20 := by omega
    obtain ⟨hm, ht⟩ := took_zero k hk1 hk2
    have gl : (makeG k).length = k := ht.1
    have xl : (makeX k).length = k := by rw [took_len ht (by omega)]; rfl
    have T0 := Lib.hid ht
    have HM := Lib.hid hm
    have GL := Lib.hid gl
    have XL := Lib.hid xl
    clear hm ht gl xl
    go_wp2_with fail
    refine (make_to k (makeG k) (makeX k) 0 k k _ (by omega) rfl rfl HM.out GL.out XL.out).mono ?_
    rintro e w1 ⟨A1, c1, B1, d1, rfl, hg, hx, hE⟩
    have E1 := Lib.hid hE
    have P1 := Lib.hid (PoolAt.box (P := w1.heap.size) rfl GL.out XL.out hg hx)
    clear hg hx hE
    go_wp2_with fail
    have hP : wc.heap.size ≤ w1.heap.size := E1.out.size
    obtain ⟨P, hPe⟩ : ∃ P, w1.heap.size = P := ⟨_, rfl⟩
    have EP := Lib.hid (E1.out.alloc (.cells #[.slice A1 k c1, .slice B1 k d1] 26))
    generalize hw2 : w1.alloc (.cells #[.slice A1 k c1, .slice B1 k d1] 26) = w2 at *
    rw [hPe] at P1 hP ⊢
    clear hw2 hPe E1
    go_loopw [8, 9] (fun v i wr => ∃ j : Nat, j ≤ k ∧ i = .int .i64 j ∧ TookAt wc P k j v wr) (fun _ i _ => k - (intOf i).toNat)
    case atStart => exact ⟨0, Nat.zero_le _, rfl, _, _, T0.out, P1.out, Hs.nil _ _, EP.out⟩
    case round =>
      obtain ⟨j, hj, rfl, gs, xs, hT, hPA, hH, hE⟩ := hrel
      by_cases hlt : j < k
      · obtain ⟨s1, s2, s3, s4⟩ := took_step hT hk1 hk2 hlt
        have hPl := hPA.lt
        obtain ⟨A, c, B, d, q0, q1, qf, hg, hx⟩ := hPA
        have gl : gs.length = k := hT.1
        have xl := took_len hT (by omega)
        have gl' : (takeG gs xs).length = k := s4.1
        have xl' := took_len s4 (by omega)
        obtain ⟨m, hm⟩ : ∃ m, xs.length = m := ⟨_, rfl⟩
        obtain ⟨m', hm'⟩ : ∃ m', (takeX gs xs).length = m' := ⟨_, rfl⟩
        rw [gl] at q0 hg
        rw [hm] at q1 hx xl
        have S1 := Lib.hid s1
        have S2 := Lib.hid s2
        have S3 := Lib.hid s3
        have S4 := Lib.hid s4
        have GL := Lib.hid gl
        have GL' := Lib.hid gl'
        have HM := Lib.hid hm
        have HM' := Lib.hid hm'
        have HG := Lib.hid hg
        have HX := Lib.hid hx
        have HH := Lib.hid hH
        have HE := Lib.hid hE
        have HLT := Lib.hid hH.lt
        have QF := Lib.hid qf
        have hm20 : m ≤ 20 := by omega
        clear s1 s2 s3 s4 hT gl xl gl' xl' hm hm' hg hx hH hE qf
        go_wp2_with fail
        refine (take_fresh _ _ k m _ _ gs xs (takeG gs xs) (takeX gs xs) j 1 0 k m' _ HG.out HX.out GL.out HM.out (by omega) (by omega) rfl rfl S2.out S3.out S1.out GL'.out HM'.out).mono ?_
        rintro e w3 ⟨A3, c3, B3, d3, rfl, hg3, hx3, hE3, fA, fB⟩
        have r0 := hE3.cell q0
        have r1 := hE3.cell q1
        have rf : ∀ o, w3.frozen? ⟨P, o, none⟩ = false := fun o => (Below.frozen hE3 (p := ⟨P, o, none⟩) hPl).trans (QF.out o)
        have HG3 := Lib.hid hg3
        have HX3 := Lib.hid hx3
        have HE3 := Lib.hid hE3
        have FA := Lib.hid fA
        have FB := Lib.hid fB
        have hz3 := hE3.size
        have l0 : P < w3.heap.size := by omega
        have l1 : P < w3.heap.size + 1 := by omega
        have l2 : P < w3.heap.size + 1 + 1 := by omega
        clear hg3 hx3 hE3 q0 q1 fA fB
        go_wp2_with fail
        go_region_held3 (fun w' => w'.cell? ⟨w3.heap.size, 0, none⟩ = some (.slice A3 k c3) ∧ w'.cell? ⟨w3.heap.size, 1, none⟩ = some (.slice B3 m' d3) ∧ w'.cell? ⟨w3.heap.size + 1, 0, none⟩ = some (.int .i64 j) ∧ w'.cell? ⟨w3.heap.size + 1, 1, none⟩ = some (.int .i64 1))
          (first | go_keep | exact ⟨k1, k2, k3, k4⟩ | exact ⟨(far2 (by omega) _ _).trans k1, (far2 (by omega) _ _).trans k2, (far2 (by omega) _ _).trans k3, (far2 (by omega) _ _).trans k4⟩)
          (first
            | (refine step_happ (by rfl) (.tmp 69) (.tmp 71) (by rfl) (by rfl) (P + 1) _ (allH j) (by rfl) (HH.out.ext (HE3.out.trans ((((Ext.refl _).alloc _).alloc _).alloc _).drew)) _ [((j : Int), 1)] (by rfl) ((HR.one _ _ j 1 1 (by simp) (by omega) (bd_small _ _ (by omega) (by omega) (by omega) (by omega))).ext (Ext.refl _).drew) (by rw [allH_len]; simp; omega) (by simp; omega) ?_
               intro v4 w4 hown4 hgrow4 hat4
               obtain ⟨gA, _⟩ := grow_cell hgrow4 (b := w3.heap.size) (by first | omega | (simp; done) | (simp; omega)) (fun e => by have := HLT.out _ e.symm; omega)
               obtain ⟨gB, _⟩ := grow_cell hgrow4 (b := w3.heap.size + 1) (by first | omega | (simp; done) | (simp; omega)) (fun e => by have := HLT.out _ e.symm; omega)
               obtain ⟨gP, gPf⟩ := grow_cell hgrow4 (b := P) (by first | omega | (simp; done) | (simp; omega)) (fun e => by have := HLT.out _ e.symm; omega)
               have k1 : w4.cell? ⟨w3.heap.size, 0, none⟩ = some (.slice A3 k c3) := (gA 0).trans (by go_simp)
               have k2 : w4.cell? ⟨w3.heap.size, 1, none⟩ = some (.slice B3 m' d3) := (gA 1).trans (by go_simp)
               have k3 : w4.cell? ⟨w3.heap.size + 1, 0, none⟩ = some (.int .i64 j) := (gB 0).trans (by go_simp)
               have k4 : w4.cell? ⟨w3.heap.size + 1, 1, none⟩ = some (.int .i64 1) := (gB 1).trans (by go_simp)
               have kp0 : w4.cell? ⟨P, 0, none⟩ = some (.slice A k c) := (gP 0).trans (by go_simp)
               have kp1 : w4.cell? ⟨P, 1, none⟩ = some (.slice B m d) := (gP 1).trans (by go_simp)
               have kpf : ∀ o, w4.frozen? ⟨P, o, none⟩ = false := fun o => (gPf o).trans (by go_simp)
               have HG4 := Lib.hid ((HG3.out.ext ((((Ext.refl _).alloc _).alloc _).alloc _).drew).grown hgrow4 (fun a ha e => by have h1 := HLT.out _ e.symm; have h2 := FA.out a ha; omega))
               have HX4 := Lib.hid ((HX3.out.ext ((((Ext.refl _).alloc _).alloc _).alloc _).drew).grown hgrow4 (fun a ha e => by have h1 := HLT.out _ e.symm; have h2 := FB.out a ha; omega))
               have HE4 := Lib.hid (((HE.out.trans HE3.out).trans ((((Ext.refl _).alloc _).alloc _).alloc _).drew).grown hgrow4 (fun q hq => by have := HLT.out _ hq; omega))
               have HH4 := Lib.hid hown4
               clear hown4 hgrow4 hat4 gA gB gP gPf))
        go_wp2
        go_roundw
        case rel =>
          refine ⟨j + 1, by omega, by go_num, _, _, S4.out, ?_, ?_, ?_⟩
          · exact PoolAt.put kp0 kp1 kpf GL'.out HM'.out HG4.out HX4.out
          · exact PoolAt.hands (by rw [allH_succ]; exact HH4.out) (Nat.lt_succ_self P) _ _
          · exact (HE4.out.setCell (p := ⟨P, 0, none⟩) hP _).setCell (p := ⟨P, 1, none⟩) hP _
        case measure => simp [intOf]; omega
      · obtain rfl : j = k := by omega
        obtain ⟨hgv, hx0⟩ := gave_of_took hT
        subst hx0
        have HGV := Lib.hid hgv
        have HPA := Lib.hid hPA
        have HH := Lib.hid hH
        have HE := Lib.hid hE
        have hPl := hPA.lt
        clear hT hgv hPA hH hE
        go_wp2_with fail
        go_loopw [13, 14] (fun v i wx => ∃ t : Nat, t ≤ gives.length ∧ i = .int .i64 t ∧ GaveAt wc P j u8 v wx) (fun _ i _ => gives.length - (intOf i).toNat)
        case atStart => exact ⟨0, Nat.zero_le _, rfl, _, _, HGV.out, HPA.out, Own.nil _ _, HH.out, HE.out⟩
        case round =>
          clear HGV HPA HH HE hPl
          obtain ⟨t, ht, rfl, gs, xs, hT, hPA, hO, hH, hE⟩ := hrel
          by_cases htl : t < gives.length
          · obtain ⟨b, off, rfl, hcc⟩ := I.out.cells (by omega)
            have ha := I.out.getD_bd t
            obtain ⟨a, hav⟩ : ∃ a, gives.getD t 0 = a := ⟨_, rfl⟩
            rw [hav] at ha
            have z0 := (hE.cell (hcc t htl)).trans (by rw [hav])
            obtain ⟨q, hq⟩ : ∃ q : Nat, a % (j : Int) = q := ⟨(a % (j : Int)).toNat, by have := Int.emod_nonneg a (show (j : Int) ≠ 0 by omega); omega⟩
            have hqj : q < j := by have := Int.emod_lt_of_pos a (show (0 : Int) < j by omega); omega
            have hqj' : (q : Int) < j := by omega
            obtain ⟨A8, c8, rfl, hcap8⟩ := hH.hr.slice
            obtain ⟨b8, off8, rfl, hc8⟩ := hH.hr.cells (by rw [allH_len]; omega)
            have y0 := (hc8 q (by rw [allH_len]; omega)).1
            have y1 := (hc8 q (by rw [allH_len]; omega)).2
            rw [allH_get _ _ hqj] at y0 y1
            rw [allH_len] at hcap8 hH ⊢
            have hPl := hPA.lt
            have hgx := gave_len hT
            obtain ⟨A, c, B, d, q0, q1, qf, hg, hx⟩ := hPA
            have gl : gs.length = j := hT.1
            obtain ⟨m, hm⟩ : ∃ m, xs.length = m := ⟨_, rfl⟩
            rw [gl] at q0 hg
            rw [hm] at q1 hx hgx
            have GL := Lib.hid gl
            have HM := Lib.hid hm
            have HG := Lib.hid hg
            have HX := Lib.hid hx
            have HO := Lib.hid hO
            have HH := Lib.hid hH
            have HE := Lib.hid hE
            have QF := Lib.hid qf
            have HT := Lib.hid hT
            have HLT := Lib.hid hO.lt
            have hz := hE.size
            have hm20 : m ≤ 20 := by omega
            clear hcc hav hc8 gl hm hg hx hO hH hE qf hT
            have G2 := gave_step HT.out hk1 hk2 q hqj
            by_cases hmem : (q : Int) ∈ xs
            · have SG := Lib.hid (G2.1 hmem)
              clear G2 hmem
              go_wp2_with fail
              refine (good_to _ _ j m _ _ gs xs q 1 false _ (HG.out.ext ((Ext.refl _).alloc _)) (HX.out.ext ((Ext.refl _).alloc _)) GL.out HM.out (by omega) SG.out.1).mono ?_
              rintro e w3 ⟨rfl, hE3⟩
              have hz3 := hE3.size
              simp at hz3
              have r0 : w3.cell? ⟨P, 0, none⟩ = some (.slice A j c) := hE3.cell (by go_simp)
              have r1 : w3.cell? ⟨P, 1, none⟩ = some (.slice B m d) := hE3.cell (by go_simp)
              have rh0 : w3.cell? ⟨wr.heap.size, 0, none⟩ = some (.int .i64 q) := hE3.cell (by go_simp)
              have rh1 : w3.cell? ⟨wr.heap.size, 1, none⟩ = some (.int .i64 1) := hE3.cell (by go_simp)
              have rf : ∀ o, w3.frozen? ⟨P, o, none⟩ = false := fun o => (Below.frozen hE3 (p := ⟨P, o, none⟩) (by simp; omega)).trans (by have := QF.out o; go_simp)
              have HE3 := Lib.hid (((Ext.refl _).alloc _).trans hE3)
              clear hE3 q0 q1
              go_wp2_with fail
              refine (give_fresh _ _ j m _ _ gs xs xs q 1 3 m _ (HG.out.ext HE3.out) (HX.out.ext HE3.out) GL.out HM.out (by omega) (by omega) (by omega) SG.out.2.2 SG.out.2.1 HM.out).mono ?_
              rintro e w4 ⟨A4, c4, B4, d4, rfl, hg4, hx4, hE4, fA, fB⟩
              have hz4 := hE4.size
              have s0 := hE4.cell r0
              have s1 := hE4.cell r1
              have sh0 := hE4.cell rh0
              have sh1 := hE4.cell rh1
              have sf : ∀ o, w4.frozen? ⟨P, o, none⟩ = false := fun o => (Below.frozen hE4 (p := ⟨P, o, none⟩) (by show P < _; omega)).trans (rf o)
              have HG4 := Lib.hid hg4
              have HX4 := Lib.hid hx4
              have FA := Lib.hid fA
              have FB := Lib.hid fB
              have HE4 := Lib.hid (HE3.out.trans hE4)
              clear hg4 hx4 hE4 r0 r1 rf rh0 rh1 fA fB
              go_wp2_with fail
              go_roundw
              case rel => exact ⟨t + 1, by omega, by go_num, gs, xs, HT.out, (PoolAt.box' GL.out HM.out s0 s1 sf (HG.out.ext HE4.out) (HX.out.ext HE4.out)).ext ((Ext.refl _).alloc _), (HO.out.ext HE4.out).ext ((Ext.refl _).alloc _), (HH.out.ext HE4.out).ext ((Ext.refl _).alloc _), (HE.out.trans HE4.out).alloc _⟩
              case measure => simp [intOf]; omega
            · have SG := Lib.hid (G2.2 hmem)
              have hm1 : Hid ((xs ++ [(q : Int)]).length = m + 1) := Lib.hid (by rw [List.length_append, HM.out]; rfl)
              clear G2 hmem
              go_wp2_with fail
              refine (good_to _ _ j m _ _ gs xs q 1 true _ (HG.out.ext ((Ext.refl _).alloc _)) (HX.out.ext ((Ext.refl _).alloc _)) GL.out HM.out (by omega) SG.out.1).mono ?_
              rintro e w3 ⟨rfl, hE3⟩
              have hz3 := hE3.size
              simp at hz3
              have r0 : w3.cell? ⟨P, 0, none⟩ = some (.slice A j c) := hE3.cell (by go_simp)
              have r1 : w3.cell? ⟨P, 1, none⟩ = some (.slice B m d) := hE3.cell (by go_simp)
              have rh0 : w3.cell? ⟨wr.heap.size, 0, none⟩ = some (.int .i64 q) := hE3.cell (by go_simp)
              have rh1 : w3.cell? ⟨wr.heap.size, 1, none⟩ = some (.int .i64 1) := hE3.cell (by go_simp)
              have rf : ∀ o, w3.frozen? ⟨P, o, none⟩ = false := fun o => (Below.frozen hE3 (p := ⟨P, o, none⟩) (by simp; omega)).trans (by have := QF.out o; go_simp)
              have HE3 := Lib.hid (((Ext.refl _).alloc _).trans hE3)
              clear hE3 q0 q1
              go_wp2_with fail
              refine (give_fresh _ _ j m _ _ gs xs (xs ++ [(q : Int)]) q 1 0 (m + 1) _ (HG.out.ext HE3.out) (HX.out.ext HE3.out) GL.out HM.out (by omega) (by omega) (by omega) SG.out.2.2.1 SG.out.2.1 hm1.out).mono ?_
              rintro e w4 ⟨A4, c4, B4, d4, rfl, hg4, hx4, hE4, fA, fB⟩
              have hz4 := hE4.size
              have s0 := hE4.cell r0
              have s1 := hE4.cell r1
              have sh0 := hE4.cell rh0
              have sh1 := hE4.cell rh1
              have sf : ∀ o, w4.frozen? ⟨P, o, none⟩ = false := fun o => (Below.frozen hE4 (p := ⟨P, o, none⟩) (by show P < _; omega)).trans (rf o)
              have HG4 := Lib.hid hg4
              have HX4 := Lib.hid hx4
              have FA := Lib.hid fA
              have FB := Lib.hid fB
              have HE4 := Lib.hid (HE3.out.trans hE4)
              clear hg4 hx4 hE4 r0 r1 rf rh0 rh1 fA fB
              go_wp2_with fail
              have hl4 : P < w4.heap.size := by omega
              have hl5 : P < w4.heap.size + 1 := by omega
              have hl6 : wr.heap.size < w4.heap.size := by omega
              have hl7 : wr.heap.size < w4.heap.size + 1 := by omega
              go_region_held3 (fun w' => w'.cell? ⟨w4.heap.size, 0, none⟩ = some (.slice A4 j c4) ∧ w'.cell? ⟨w4.heap.size, 1, none⟩ = some (.slice B4 (m + 1) d4) ∧ w'.cell? ⟨wr.heap.size, 0, none⟩ = some (.int .i64 q))
                (first | go_keep | exact ⟨k1, k2, k3⟩ | exact ⟨(far2 (by omega) _ _).trans k1, (far2 (by omega) _ _).trans k2, (far2 (by omega) _ _).trans k3⟩ | trivial)
                (first
                  | (refine step_appg (by rfl) (.tmp 104) (.tmp 107) (by rfl) (by rfl) (P + 1) _ xs (by rfl) (HO.out.ext (HE4.out.trans (((Ext.refl _).alloc _).alloc _).drew)) _ [(q : Int)] (by rfl) ((Ints.one' _ _ q 1 (by simp) (by omega) (by omega)).ext (Ext.refl _).drew) (by rw [HM.out]; simp; omega) (by simp; omega) ?_
                     intro v5 w5 hown5 hgrow5 hat5
                     obtain ⟨gA, _⟩ := grow_cell hgrow5 (b := w4.heap.size) (by first | omega | (simp; done) | (simp; omega)) (fun e => by have := HLT.out _ e.symm; omega)
                     obtain ⟨gB, _⟩ := grow_cell hgrow5 (b := wr.heap.size) (by first | omega | (simp; done) | (simp; omega)) (fun e => by have := HLT.out _ e.symm; omega)
                     obtain ⟨gP, gPf⟩ := grow_cell hgrow5 (b := P) (by first | omega | (simp; done) | (simp; omega)) (fun e => by have := HLT.out _ e.symm; omega)
                     have k1 : w5.cell? ⟨w4.heap.size, 0, none⟩ = some (.slice A4 j c4) := (gA 0).trans (by go_simp)
                     have k2 : w5.cell? ⟨w4.heap.size, 1, none⟩ = some (.slice B4 (m + 1) d4) := (gA 1).trans (by go_simp)
                     have k3 : w5.cell? ⟨wr.heap.size, 0, none⟩ = some (.int .i64 q) := (gB 0).trans (by go_simp)
                     have kp0 : w5.cell? ⟨P, 0, none⟩ = some (.slice A j c) := (gP 0).trans (by go_simp)
                     have kp1 : w5.cell? ⟨P, 1, none⟩ = some (.slice B m d) := (gP 1).trans (by go_simp)
                     have kpf : ∀ o, w5.frozen? ⟨P, o, none⟩ = false := fun o => (gPf o).trans (by go_simp)
                     have HG5 := Lib.hid ((HG4.out.ext (((Ext.refl _).alloc _).alloc _).drew).grown hgrow5 (fun a ha e => by have h1 := HLT.out _ e.symm; have h2 := FA.out a ha; omega))
                     have HX5 := Lib.hid ((HX4.out.ext (((Ext.refl _).alloc _).alloc _).drew).grown hgrow5 (fun a ha e => by have h1 := HLT.out _ e.symm; have h2 := FB.out a ha; omega))
                     have HE5 := Lib.hid (((HE.out.trans HE4.out).trans (((Ext.refl _).alloc _).alloc _).drew).grown hgrow5 (fun r hr => by have := HLT.out _ hr; omega))
                     have HH5 := Lib.hid ((HH.out.ext (HE4.out.trans (((Ext.refl _).alloc _).alloc _).drew)).kept hgrow5 (by
                       cases hv : Value.ownBlock (.slice (some ⟨b8, off8, none⟩) j c8) with
                       | none => exact .inl rfl
                       | some r => exact .inr (fun e => own_hs_far HO.out HH.out r e.symm hv)))
                     have HO5 := Lib.hid hown5
                     clear hown5 hgrow5 hat5 gA gB gP gPf))
              go_wp2
              go_roundw
              case rel =>
                refine ⟨t + 1, by omega, by go_num, gs, xs ++ [(q : Int)], SG.out.2.2.2, ?_, ?_, ?_, ?_⟩
                · exact PoolAt.put kp0 kp1 kpf GL.out hm1.out HG5.out HX5.out
                · exact (HO5.out.setBelow (p := ⟨P, 0, none⟩) (Nat.lt_succ_self P) _).setBelow (p := ⟨P, 1, none⟩) (Nat.lt_succ_self P) _
                · exact PoolAt.hands HH5.out (Nat.lt_succ_self P) _ _
                · exact (HE5.out.setCell (p := ⟨P, 0, none⟩) hP _).setCell (p := ⟨P, 1, none⟩) hP _
              case measure => simp [intOf]; omega
          · obtain ⟨A13, c13, rfl, _⟩ := hO.shape
            have HB0 := Lib.hid (back_of_gave hT)
            have HPA := Lib.hid hPA
            have HO := Lib.hid hO
            have HE := Lib.hid hE
            have hob := gave_len hT
            have hob' : (xs.length : Int) ≤ 20 := by omega
            clear hT hPA hO hH hE
            go_wp2_with fail
            go_loopw [19] (fun i wx => ∃ m : Nat, m ≤ xs.length ∧ ∃ z : Int, z = (m : Int) - 1 ∧ i = .int .i64 z ∧ BackAt wc P j m xs (.slice A13 xs.length c13) wx) (fun i _ => (intOf i + 1).toNat)
            case atStart => exact ⟨xs.length, Nat.le_refl _, _, rfl, rfl, gs, xs, HB0.out, HPA.out, HO.out, HE.out⟩
            case round =>
              clear HB0 HPA HO HE
              obtain ⟨m, hm, z, hz, rfl, gs1, xs1, hB, hPA, hO, hE⟩ := hrel
              cases m with
              | zero =>
                have hzn : z < 0 := by omega
                clear hz
                obtain ⟨f1, f2, f3⟩ := back_end hB hk1 hk2
                obtain ⟨f4, f5, f6, f7⟩ := take_refused gs1 xs1 (by omega)
                have gl : gs1.length = j := hB.1
                have F1 := Lib.hid f1
                have F3 := Lib.hid f3
                have F4 := Lib.hid f4
                have F5 := Lib.hid f5
                have F6 := Lib.hid f6
                have F7 := Lib.hid f7
                subst f2
                have hPl := hPA.lt
                obtain ⟨A, c, B, d, q0, q1, qf, hg, hx⟩ := hPA
                rw [gl] at q0 hg
                have GL := Lib.hid gl
                have HG := Lib.hid hg
                have HX := Lib.hid hx
                have HE := Lib.hid hE
                clear hB f1 f3 f4 f5 f6 f7 gl hg hx hE qf
                go_wp2_with fail
                refine (take_to _ _ j 0 _ _ gs1 [] gs1 [] 0 0 2 j 0 _ HG.out HX.out GL.out rfl (by omega) (by omega) F4.out F5.out F6.out F7.out F1.out GL.out rfl).mono ?_
                rintro e w3 ⟨A3, c3, B3, d3, rfl, hg3, hx3, hE3⟩
                have r0 := hE3.cell q0
                have r1 := hE3.cell q1
                have hz3 := hE3.size
                have l0 : P < w3.heap.size := by omega
                have l1 : P < w3.heap.size + 1 := by omega
                have HE3 := Lib.hid hE3
                clear hg3 hx3 hE3 q0 q1
                go_wp2_with fail
                refine (taken_to _ _ j 0 _ _ gs1 [] (takenL gs1 []) j _ (HG.out.ext (HE3.out.trans (((Ext.refl _).alloc _).alloc _))) (HX.out.ext (HE3.out.trans (((Ext.refl _).alloc _).alloc _))) GL.out rfl rfl F3.out).mono ?_
                rintro e w4 ⟨A4, c4, rfl, _, hE4⟩
                go_wp2_with fail
                go_ret
                exact ⟨rfl, ((E0.out.trans HE.out).trans (HE3.out.trans (((Ext.refl _).alloc _).alloc _))).trans hE4⟩
              | succ m =>
                obtain rfl : z = m := by omega
                clear hz
                have hmx : m < xs.length := by omega
                obtain ⟨s1, s2, s3, s4⟩ := back_step hB hk1 hk2 hmx
                obtain ⟨y, hy⟩ : ∃ y, xs.getD m 0 = y := ⟨_, rfl⟩
                rw [hy] at s2
                obtain ⟨b13, rfl, hb13, hb13w, hc13, _, _⟩ := hO.pos (by omega)
                have z0 := hc13 m hmx
                rw [hy] at z0
                have hPl := hPA.lt
                obtain ⟨A, c, B, d, q0, q1, qf, hg, hx⟩ := hPA
                have gl : gs1.length = j := hB.1
                have gl' : (takeG gs1 xs1).length = j := s4.1
                have xl : xs1.length = m + 1 := by rw [hB.2.1, List.length_take]; omega
                have xl' : (takeX gs1 xs1).length = m := by rw [s4.2.1, List.length_take]; omega
                rw [gl] at q0 hg
                rw [xl] at q1 hx
                have S1 := Lib.hid s1
                have S2 := Lib.hid s2
                have S3 := Lib.hid s3
                have S4 := Lib.hid s4
                have GL := Lib.hid gl
                have GL' := Lib.hid gl'
                have HM := Lib.hid xl
                have HM' := Lib.hid xl'
                have HG := Lib.hid hg
                have HX := Lib.hid hx
                have HO := Lib.hid hO
                have HE := Lib.hid hE
                have QF := Lib.hid qf
                have hm0 : (0 : Int) ≤ m := by omega
                have hm1 : (m : Int) < xs.length := by omega
                clear s1 s2 s3 s4 hB hy hc13 gl gl' xl xl' hg hx hO hE qf
                go_wp2_with fail
                refine (take_to _ _ j (m + 1) _ _ gs1 xs1 (takeG gs1 xs1) (takeX gs1 xs1) y 2 0 j m _ HG.out HX.out GL.out HM.out (by omega) (by omega) rfl rfl S2.out S3.out S1.out GL'.out HM'.out).mono ?_
                rintro e w3 ⟨A3, c3, B3, d3, rfl, hg3, hx3, hE3⟩
                have r0 := hE3.cell q0
                have r1 := hE3.cell q1
                have rz := hE3.cell z0
                have rf : ∀ o, w3.frozen? ⟨P, o, none⟩ = false := fun o => (Below.frozen hE3 (p := ⟨P, o, none⟩) hPl).trans (QF.out o)
                have HG3 := Lib.hid hg3
                have HX3 := Lib.hid hx3
                have HE3 := Lib.hid hE3
                have hz3 := hE3.size
                have l0 : P < w3.heap.size := by omega
                have l1 : P < w3.heap.size + 1 := by omega
                have l2 : P < w3.heap.size + 1 + 1 := by omega
                have l3 : b13 < w3.heap.size := by omega
                have l4 : b13 < w3.heap.size + 1 := by omega
                clear hg3 hx3 hE3 q0 q1 z0
                go_wp2_with fail
                go_quiet (fail)
                go_wp2
                go_roundw
                case rel =>
                  refine ⟨m, by omega, (m : Int) - 1, rfl, by first | rfl | go_num, _, _, S4.out, ?_, ?_, ?_⟩
                  · exact PoolAt.put ((((Ext.refl _).alloc _).alloc _).drewN _ |>.cell r0) ((((Ext.refl _).alloc _).alloc _).drewN _ |>.cell r1) (fun o => by have := rf o; go_simp) GL'.out HM'.out (HG3.out.ext ((((Ext.refl _).alloc _).alloc _).drewN _)) (HX3.out.ext ((((Ext.refl _).alloc _).alloc _).drewN _))
                  · exact ((HO.out.ext (HE3.out.trans ((((Ext.refl _).alloc _).alloc _).drewN _))).setBelow (p := ⟨P, 0, none⟩) (Nat.lt_succ_self P) _).setBelow (p := ⟨P, 1, none⟩) (Nat.lt_succ_self P) _
                  · exact (((HE.out.trans HE3.out).trans ((((Ext.refl _).alloc _).alloc _).drewN _)).setCell (p := ⟨P, 0, none⟩) hP _).setCell (p := ⟨P, 1, none⟩) hP _
                case measure => first | (simp [intOf]; done) | (simp [intOf]; omega)

set_option maxRecDepth 100000 in
theorem porder_great (x : Int) (A : Option Addr) (n c : Nat) (w : World) (hn : n ≤ 9223372036854775807) (hl : 60 < n) :
    Calls Try.prog 4 #[.int .u8 x, .slice A n c] w fun e w' => e = .returned (.bool true) ∧ Ext w w' := by
  have h1 : (60 : Int) < n := by omega
  go_enter Try.func4, Try.ntmps4
  go_wp2_with fail
  refine (alive_any _).mono ?_
  rintro e w0 ⟨rfl, hE⟩
  go_wp2_with fail
  go_ret
  exact ⟨rfl, hE⟩
theorem porder_any (x : Int) (A : Option Addr) (c : Nat) (gives : List Int) (w : World) (hx : 0 ≤ x ∧ x ≤ 255) (h : Bytes w (.slice A gives.length c) gives) :
    Calls Try.prog 4 #[.int .u8 x, .slice A gives.length c] w fun e w' => e = .returned (.bool true) ∧ Ext w w' := by
  have k1 := h.1
  unfold maxLen at k1
  by_cases hg : 60 < gives.length
  · exact porder_great x A _ c w (by omega) hg
  · exact porder_walk x A c gives w hx h (by omega)
end Go.Proofs.Ytbkheglogmkbgaa

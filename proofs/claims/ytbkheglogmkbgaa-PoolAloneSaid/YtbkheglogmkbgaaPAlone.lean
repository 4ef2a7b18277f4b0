/- The walk of PoolAlone. -/
import Derived.Test.YtbkheglogmkbgaaHands2
import Derived.Test.YtbkheglogmkbgaaAPlain
import Derived.Test.YtbkheglogmkbgaaOpenD
import Derived.IntWalk
namespace Go.Proofs.Ytbkheglogmkbgaa
open Go.RowKit Go.Proofs.Ytbkheglogmkbgaa.Plain

theorem Hs.bdAt {B : Nat} {w : World} {v : Value} {hs : List (Int × Int)} (h : Hs B w v hs) (j : Nat) : bd64 (hs.getD j (0, 0)) := h.hr.bd j
def AloneAt (w0 : World) (P k t : Nat) (u v : Value) (wr : World) : Prop :=
  ∃ gs xs good gone, AloneI k t gs xs good gone ∧ PoolAt wr P gs xs ∧ Hs (P + 1) wr u good ∧ Hs (P + 1) wr v gone ∧ (∀ r, u.ownBlock = some r → v.ownBlock ≠ some r) ∧ Ext w0 wr
set_option maxHeartbeats 12800000 in
set_option maxRecDepth 100000 in
theorem palone_walk (x : Int) (A : Option Addr) (c : Nat) (acts : List Int) (w : World) (hx : 0 ≤ x ∧ x ≤ 255) (h : Bytes w (.slice A acts.length c) acts) (hl : acts.length ≤ 100) :
    Calls Try.prog 3 #[.int .u8 x, .slice A acts.length c] w fun e w' => e = .returned (.bool true) ∧ Ext w w' := by
  have H := Lib.hid h
  have hq0 : (acts.length : Int) ≤ 100 := by omega
  obtain ⟨k, hk⟩ : ∃ k : Nat, 1 + x % 20 = (k : Int) := ⟨(1 + x % 20).toNat, by omega⟩
  have hk1 : 1 ≤ k := by omega
  have hk2 : k ≤ 20 := by omega
  have hk3 : (1 : Int) ≤ k := by omega
  have hk4 : (k : Int) ≤ 20 := by omega
  have HZ := Lib.hid (alone_zero hk1 hk2)
  have HM : Hid (makeE k = 0) := Lib.hid (took_zero k hk1 hk2).1
  have GL0 : Hid ((makeG k).length = k) := Lib.hid HZ.out.len
  have XL0 : Hid ((makeX k).length = k) := Lib.hid (by have := HZ.out.sum; simpa using this)
  clear h
  go_enter Try.func3, Try.ntmps3
  go_wp2_with fail
  refine (alive_any _).mono ?_
  rintro e wa ⟨rfl, hE⟩
  have E0 := Lib.hid hE
  have I := Lib.hid (H.out.ext hE)
  clear hE
  go_wp2_with fail
  refine (make_to k (makeG k) (makeX k) 0 k k _ (by omega) rfl rfl HM.out GL0.out XL0.out).mono ?_
  rintro e w1 ⟨A1, c1, B1, d1, rfl, hg, hx1, hE⟩
  have E1 := Lib.hid hE
  have P1 := Lib.hid (PoolAt.box (P := w1.heap.size) rfl GL0.out XL0.out hg hx1)
  clear hg hx1 hE
  go_wp2_with fail
  have hP : wa.heap.size ≤ w1.heap.size := E1.out.size
  obtain ⟨P, hPe⟩ : ∃ P, w1.heap.size = P := ⟨_, rfl⟩
  have EP := Lib.hid (E1.out.alloc (.cells #[.slice A1 k c1, .slice B1 k d1] 26))
  generalize hw2 : w1.alloc (.cells #[.slice A1 k c1, .slice B1 k d1] 26) = w2 at *
  rw [hPe] at P1 hP ⊢
  clear hw2 hPe E1
  go_loopw [7, 8, 9] (fun u v i wr => ∃ t : Nat, t ≤ acts.length ∧ i = .int .i64 t ∧ AloneAt wa P k t u v wr) (fun _ _ i _ => acts.length - (intOf i).toNat)
  case atStart => exact ⟨0, Nat.zero_le _, rfl, _, _, [], [], HZ.out, P1.out, Hs.nil _ _, Hs.nil _ _, by simp [Value.ownBlock], EP.out⟩
  case round =>
    clear HZ P1 EP
    obtain ⟨t, ht, rfl, gs, xs, good, gone, hI, hPA, hGO, hON, hfar, hE⟩ := hrel
    have hgl : good.length ≤ k := by have := hI.sum; omega
    obtain ⟨A7, c7, rfl, hcap7⟩ := hGO.hr.slice
    have hPl := hPA.lt
    have hz := hE.size
    have GL := Lib.hid hI.len
    have HI := Lib.hid hI
    have HGO := Lib.hid hGO
    have HON := Lib.hid hON
    have FAR := Lib.hid hfar
    have HE := Lib.hid hE
    have HLT := Lib.hid hGO.lt
    have HLO := Lib.hid hON.lt
    by_cases htl : t < acts.length
    · obtain ⟨A, c, B, d, q0, q1, qf, hg, hx⟩ := hPA
      obtain ⟨b, off, rfl, hcc⟩ := I.out.cells (by omega)
      have ha := I.out.getD_bd t
      obtain ⟨a, hav⟩ : ∃ a, acts.getD t 0 = a := ⟨_, rfl⟩
      rw [hav] at ha
      have z0 := (hE.cell (hcc t htl)).trans (by rw [hav])
      obtain ⟨m, hm⟩ : ∃ m, xs.length = m := ⟨_, rfl⟩
      rw [GL.out] at q0 hg
      rw [hm] at q1 hx
      have HMM := Lib.hid hm
      have HG := Lib.hid hg
      have HX := Lib.hid hx
      have QF := Lib.hid qf
      have hm20 : m ≤ 20 := by have := hI.sum; omega
      have hkz : (good.length : Int) ≤ k := by omega
      have ht100 : t ≤ 100 := by omega
      clear hcc hav hm hg hx qf hI hGO hON hfar hE
      by_cases hev : a % 2 = 0
      · have t1 : (a % 2 == 0) = true := by rw [hev]; rfl
        clear hev
        by_cases hfull : good.length < k
        · have hgk : (good.length : Int) < k := by omega
          obtain ⟨s1, s2, s2', s3, s3', s4, s5, s6⟩ := HI.out.take hk1 hk2 ht100 (by omega)
          obtain ⟨cc, hcc⟩ : ∃ cc, takeC gs xs = cc := ⟨_, rfl⟩
          obtain ⟨nn, hnn⟩ : ∃ nn, takeN gs xs = nn := ⟨_, rfl⟩
          rw [hcc] at s2 s2' s6
          rw [hnn] at s3 s3' s6
          rw [HMM.out] at s5
          have S1 := Lib.hid s1
          have S4 := Lib.hid s4
          have S5 := Lib.hid s5
          have S6 := Lib.hid s6
          have HCC := Lib.hid hcc
          have HNN := Lib.hid hnn
          clear s1 s4 s5 s6 hcc hnn
          go_wp2_with fail
          refine (take_fresh _ _ k m _ _ gs xs (takeG gs xs) (takeX gs xs) cc nn 0 k (m - 1) _ HG.out HX.out GL.out HMM.out (by omega) (by omega) rfl rfl HCC.out HNN.out S1.out S4.out S5.out).mono ?_
          rintro e w3 ⟨A3, c3, B3, d3, rfl, hg3, hx3, hE3, fA, fB⟩
          have r0 := hE3.cell q0
          have r1 := hE3.cell q1
          have rf : ∀ o, w3.frozen? ⟨P, o, none⟩ = false := fun o => (Below.frozen hE3 (p := ⟨P, o, none⟩) hPl).trans (QF.out o)
          have HG3 := Lib.hid hg3
          have HX3 := Lib.hid hx3
          have HE3 := Lib.hid hE3
          have FA := Lib.hid fA
          have FB := Lib.hid fB
          have hz3 := hE3.size
          have l0 : P < w3.heap.size := by omega
          have l1 : P < w3.heap.size + 1 := by omega
          have l2 : P < w3.heap.size + 1 + 1 := by omega
          clear hg3 hx3 hE3 q0 q1 fA fB
          go_wp2_with fail
          go_region_held3 (fun w' => w'.cell? ⟨w3.heap.size, 0, none⟩ = some (.slice A3 k c3) ∧ w'.cell? ⟨w3.heap.size, 1, none⟩ = some (.slice B3 (m - 1) d3) ∧ w'.cell? ⟨w3.heap.size + 1, 0, none⟩ = some (.int .i64 cc) ∧ w'.cell? ⟨w3.heap.size + 1, 1, none⟩ = some (.int .i64 nn))
            (first | go_keep | exact ⟨k1, k2, k3, k4⟩ | exact ⟨(far2 (by omega) _ _).trans k1, (far2 (by omega) _ _).trans k2, (far2 (by omega) _ _).trans k3, (far2 (by omega) _ _).trans k4⟩ | trivial)
            (first
              | (refine step_happ (by rfl) (.tmp 70) (.tmp 72) (by rfl) (by rfl) (P + 1) _ good (by rfl) (HGO.out.ext (HE3.out.trans ((((Ext.refl _).alloc _).alloc _).alloc _).drew)) _ [(cc, nn)] (by rfl) ((HR.one _ _ cc nn 1 (by simp) (by omega) (bd_small _ _ (by omega) (by omega) (by omega) (by omega))).ext (Ext.refl _).drew) (by simp; omega) (by simp; omega) ?_
                 intro v4 w4 hown4 hgrow4 hat4
                 obtain ⟨gA, _⟩ := grow_cell hgrow4 (b := w3.heap.size) (by first | omega | (simp; done) | (simp; omega)) (fun e => by have := HLT.out _ e.symm; omega)
                 obtain ⟨gB, _⟩ := grow_cell hgrow4 (b := w3.heap.size + 1) (by first | omega | (simp; done) | (simp; omega)) (fun e => by have := HLT.out _ e.symm; omega)
                 obtain ⟨gP, gPf⟩ := grow_cell hgrow4 (b := P) (by first | omega | (simp; done) | (simp; omega)) (fun e => by have := HLT.out _ e.symm; omega)
                 have k1 : w4.cell? ⟨w3.heap.size, 0, none⟩ = some (.slice A3 k c3) := (gA 0).trans (by go_simp)
                 have k2 : w4.cell? ⟨w3.heap.size, 1, none⟩ = some (.slice B3 (m - 1) d3) := (gA 1).trans (by go_simp)
                 have k3 : w4.cell? ⟨w3.heap.size + 1, 0, none⟩ = some (.int .i64 cc) := (gB 0).trans (by go_simp)
                 have k4 : w4.cell? ⟨w3.heap.size + 1, 1, none⟩ = some (.int .i64 nn) := (gB 1).trans (by go_simp)
                 have kp0 : w4.cell? ⟨P, 0, none⟩ = some (.slice A k c) := (gP 0).trans (by go_simp)
                 have kp1 : w4.cell? ⟨P, 1, none⟩ = some (.slice B m d) := (gP 1).trans (by go_simp)
                 have kpf : ∀ o, w4.frozen? ⟨P, o, none⟩ = false := fun o => (gPf o).trans (by go_simp)
                 have HG4 := Lib.hid ((HG3.out.ext ((((Ext.refl _).alloc _).alloc _).alloc _).drew).grown hgrow4 (fun a ha e => by have h1 := HLT.out _ e.symm; have h2 := FA.out a ha; omega))
                 have HX4 := Lib.hid ((HX3.out.ext ((((Ext.refl _).alloc _).alloc _).alloc _).drew).grown hgrow4 (fun a ha e => by have h1 := HLT.out _ e.symm; have h2 := FB.out a ha; omega))
                 have HE4 := Lib.hid (((HE.out.trans HE3.out).trans ((((Ext.refl _).alloc _).alloc _).alloc _).drew).grown hgrow4 (fun q hq => by have := HLT.out _ hq; omega))
                 have HO4 := Lib.hid ((HON.out.ext (HE3.out.trans ((((Ext.refl _).alloc _).alloc _).alloc _).drew)).kept hgrow4 (by
                   cases hv : Value.ownBlock u8 with
                   | none => exact .inl rfl
                   | some r => exact .inr (fun e => FAR.out r e.symm hv)))
                 have FAR4 : Hid (∀ r, v4.ownBlock = some r → u8.ownBlock ≠ some r) := Lib.hid (fun r hr hv => by
                   rcases hat4 with h | h
                   · rw [h] at hr; exact FAR.out r hr hv
                   · rw [h] at hr
                     have := (HLO.out r hv).2
                     simp at hr
                     omega)
                 have HH4 := Lib.hid hown4
                 clear hown4 hgrow4 hat4 gA gB gP gPf))
          go_wp2
          go_roundw
          case rel =>
            refine ⟨t + 1, by omega, by go_num, _, _, _, _, S6.out, ?_, ?_, ?_, FAR4.out, ?_⟩
            · exact PoolAt.put kp0 kp1 kpf S4.out S5.out HG4.out HX4.out
            · exact PoolAt.hands HH4.out (Nat.lt_succ_self P) _ _
            · exact PoolAt.hands HO4.out (Nat.lt_succ_self P) _ _
            · exact (HE4.out.setCell (p := ⟨P, 0, none⟩) hP _).setCell (p := ⟨P, 1, none⟩) hP _
          case measure => simp [intOf]; omega
        · have hgk : ¬ (good.length : Int) < k := by omega
          obtain ⟨s1, s2, s3, s4, s5⟩ := HI.out.full hk1 hk2 ht100 (by omega)
          have S1 := Lib.hid s1
          have S2 := Lib.hid s2
          have S3 := Lib.hid s3
          have S4 := Lib.hid s4
          have S5 := Lib.hid s5
          clear s1 s2 s3 s4 s5
          go_wp2_with fail
          refine (take_to _ _ k m _ _ gs xs gs xs 0 0 2 k m _ HG.out HX.out GL.out HMM.out (by omega) (by omega) S2.out S3.out S4.out S5.out S1.out GL.out HMM.out).mono ?_
          rintro e w3 ⟨A3, c3, B3, d3, rfl, hg3, hx3, hE3⟩
          have r0 := hE3.cell q0
          have r1 := hE3.cell q1
          have rf : ∀ o, w3.frozen? ⟨P, o, none⟩ = false := fun o => (Below.frozen hE3 (p := ⟨P, o, none⟩) hPl).trans (QF.out o)
          have HE3 := Lib.hid hE3
          clear hg3 hx3 hE3 q0 q1
          go_wp2_with fail
          go_roundw
          case rel => exact ⟨t + 1, by omega, by go_num, gs, xs, good, gone, HI.out.more, (PoolAt.box' GL.out HMM.out r0 r1 rf (HG.out.ext HE3.out) (HX.out.ext HE3.out)).ext (((Ext.refl _).alloc _).alloc _), HGO.out.ext (HE3.out.trans (((Ext.refl _).alloc _).alloc _)), HON.out.ext (HE3.out.trans (((Ext.refl _).alloc _).alloc _)), FAR.out, (HE.out.trans HE3.out).trans (((Ext.refl _).alloc _).alloc _)⟩
          case measure => simp [intOf]; omega
      · have t1 : (a % 2 == 0) = false := by rw [beq_eq_false_iff_ne]; exact hev
        by_cases h0 : good.length = 0
        · have t2 : ((good.length : Int) == 0) = true := by rw [h0]; rfl
          have hfull : good.length < k := by omega
          clear hev h0
          have hgk : (good.length : Int) < k := by omega
          obtain ⟨s1, s2, s2', s3, s3', s4, s5, s6⟩ := HI.out.take hk1 hk2 ht100 (by omega)
          obtain ⟨cc, hcc⟩ : ∃ cc, takeC gs xs = cc := ⟨_, rfl⟩
          obtain ⟨nn, hnn⟩ : ∃ nn, takeN gs xs = nn := ⟨_, rfl⟩
          rw [hcc] at s2 s2' s6
          rw [hnn] at s3 s3' s6
          rw [HMM.out] at s5
          have S1 := Lib.hid s1
          have S4 := Lib.hid s4
          have S5 := Lib.hid s5
          have S6 := Lib.hid s6
          have HCC := Lib.hid hcc
          have HNN := Lib.hid hnn
          clear s1 s4 s5 s6 hcc hnn
          go_wp2_with fail
          refine (take_fresh _ _ k m _ _ gs xs (takeG gs xs) (takeX gs xs) cc nn 0 k (m - 1) _ HG.out HX.out GL.out HMM.out (by omega) (by omega) rfl rfl HCC.out HNN.out S1.out S4.out S5.out).mono ?_
          rintro e w3 ⟨A3, c3, B3, d3, rfl, hg3, hx3, hE3, fA, fB⟩
          have r0 := hE3.cell q0
          have r1 := hE3.cell q1
          have rf : ∀ o, w3.frozen? ⟨P, o, none⟩ = false := fun o => (Below.frozen hE3 (p := ⟨P, o, none⟩) hPl).trans (QF.out o)
          have HG3 := Lib.hid hg3
          have HX3 := Lib.hid hx3
          have HE3 := Lib.hid hE3
          have FA := Lib.hid fA
          have FB := Lib.hid fB
          have hz3 := hE3.size
          have l0 : P < w3.heap.size := by omega
          have l1 : P < w3.heap.size + 1 := by omega
          have l2 : P < w3.heap.size + 1 + 1 := by omega
          clear hg3 hx3 hE3 q0 q1 fA fB
          go_wp2_with fail
          go_region_held3 (fun w' => w'.cell? ⟨w3.heap.size, 0, none⟩ = some (.slice A3 k c3) ∧ w'.cell? ⟨w3.heap.size, 1, none⟩ = some (.slice B3 (m - 1) d3) ∧ w'.cell? ⟨w3.heap.size + 1, 0, none⟩ = some (.int .i64 cc) ∧ w'.cell? ⟨w3.heap.size + 1, 1, none⟩ = some (.int .i64 nn))
            (first | go_keep | exact ⟨k1, k2, k3, k4⟩ | exact ⟨(far2 (by omega) _ _).trans k1, (far2 (by omega) _ _).trans k2, (far2 (by omega) _ _).trans k3, (far2 (by omega) _ _).trans k4⟩ | trivial)
            (first
              | (refine step_happ (by rfl) (.tmp 70) (.tmp 72) (by rfl) (by rfl) (P + 1) _ good (by rfl) (HGO.out.ext (HE3.out.trans ((((Ext.refl _).alloc _).alloc _).alloc _).drew)) _ [(cc, nn)] (by rfl) ((HR.one _ _ cc nn 1 (by simp) (by omega) (bd_small _ _ (by omega) (by omega) (by omega) (by omega))).ext (Ext.refl _).drew) (by simp; omega) (by simp; omega) ?_
                 intro v4 w4 hown4 hgrow4 hat4
                 obtain ⟨gA, _⟩ := grow_cell hgrow4 (b := w3.heap.size) (by first | omega | (simp; done) | (simp; omega)) (fun e => by have := HLT.out _ e.symm; omega)
                 obtain ⟨gB, _⟩ := grow_cell hgrow4 (b := w3.heap.size + 1) (by first | omega | (simp; done) | (simp; omega)) (fun e => by have := HLT.out _ e.symm; omega)
                 obtain ⟨gP, gPf⟩ := grow_cell hgrow4 (b := P) (by first | omega | (simp; done) | (simp; omega)) (fun e => by have := HLT.out _ e.symm; omega)
                 have k1 : w4.cell? ⟨w3.heap.size, 0, none⟩ = some (.slice A3 k c3) := (gA 0).trans (by go_simp)
                 have k2 : w4.cell? ⟨w3.heap.size, 1, none⟩ = some (.slice B3 (m - 1) d3) := (gA 1).trans (by go_simp)
                 have k3 : w4.cell? ⟨w3.heap.size + 1, 0, none⟩ = some (.int .i64 cc) := (gB 0).trans (by go_simp)
                 have k4 : w4.cell? ⟨w3.heap.size + 1, 1, none⟩ = some (.int .i64 nn) := (gB 1).trans (by go_simp)
                 have kp0 : w4.cell? ⟨P, 0, none⟩ = some (.slice A k c) := (gP 0).trans (by go_simp)
                 have kp1 : w4.cell? ⟨P, 1, none⟩ = some (.slice B m d) := (gP 1).trans (by go_simp)
                 have kpf : ∀ o, w4.frozen? ⟨P, o, none⟩ = false := fun o => (gPf o).trans (by go_simp)
                 have HG4 := Lib.hid ((HG3.out.ext ((((Ext.refl _).alloc _).alloc _).alloc _).drew).grown hgrow4 (fun a ha e => by have h1 := HLT.out _ e.symm; have h2 := FA.out a ha; omega))
                 have HX4 := Lib.hid ((HX3.out.ext ((((Ext.refl _).alloc _).alloc _).alloc _).drew).grown hgrow4 (fun a ha e => by have h1 := HLT.out _ e.symm; have h2 := FB.out a ha; omega))
                 have HE4 := Lib.hid (((HE.out.trans HE3.out).trans ((((Ext.refl _).alloc _).alloc _).alloc _).drew).grown hgrow4 (fun q hq => by have := HLT.out _ hq; omega))
                 have HO4 := Lib.hid ((HON.out.ext (HE3.out.trans ((((Ext.refl _).alloc _).alloc _).alloc _).drew)).kept hgrow4 (by
                   cases hv : Value.ownBlock u8 with
                   | none => exact .inl rfl
                   | some r => exact .inr (fun e => FAR.out r e.symm hv)))
                 have FAR4 : Hid (∀ r, v4.ownBlock = some r → u8.ownBlock ≠ some r) := Lib.hid (fun r hr hv => by
                   rcases hat4 with h | h
                   · rw [h] at hr; exact FAR.out r hr hv
                   · rw [h] at hr
                     have := (HLO.out r hv).2
                     simp at hr
                     omega)
                 have HH4 := Lib.hid hown4
                 clear hown4 hgrow4 hat4 gA gB gP gPf))
          go_wp2
          go_roundw
          case rel =>
            refine ⟨t + 1, by omega, by go_num, _, _, _, _, S6.out, ?_, ?_, ?_, FAR4.out, ?_⟩
            · exact PoolAt.put kp0 kp1 kpf S4.out S5.out HG4.out HX4.out
            · exact PoolAt.hands HH4.out (Nat.lt_succ_self P) _ _
            · exact PoolAt.hands HO4.out (Nat.lt_succ_self P) _ _
            · exact (HE4.out.setCell (p := ⟨P, 0, none⟩) hP _).setCell (p := ⟨P, 1, none⟩) hP _
          case measure => simp [intOf]; omega
        · have t2 : ((good.length : Int) == 0) = false := by rw [beq_eq_false_iff_ne]; omega
          have hg0 : 0 < good.length := by omega
          clear hev h0
          have hg0i : (0 : Int) < good.length := by omega
          obtain ⟨q, hq⟩ : ∃ q : Nat, a / 2 % (good.length : Int) = q := ⟨(a / 2 % (good.length : Int)).toNat, by have := Int.emod_nonneg (a / 2) (show (good.length : Int) ≠ 0 by omega); omega⟩
          have hql : q < good.length := by have := Int.emod_lt_of_pos (a / 2) hg0i; omega
          have hqi : (q : Int) < good.length := by omega
          obtain ⟨g1, g2, g3⟩ := HI.out.give hk1 hk2 ht100 q hql
          have gb := HGO.out.bdAt q
          obtain ⟨b7, off7, rfl, hc7⟩ := HGO.out.hr.cells hg0
          have y0 := (hc7 q hql).1
          have y1 := (hc7 q hql).2
          obtain ⟨⟨cq, gq⟩, hgq⟩ : ∃ g, good.getD q (0, 0) = g := ⟨_, rfl⟩
          rw [hgq] at g1 g2 g3 gb y0 y1
          simp only at g1 g2 g3 y0 y1
          have gb1 : -9223372036854775808 ≤ cq ∧ cq ≤ 9223372036854775807 := gb.1
          have G1 := Lib.hid g1
          have G2 := Lib.hid g2
          have G3 := Lib.hid g3
          have GB := Lib.hid gb
          have G4 : Hid ((xs ++ [cq]).length = m + 1) := Lib.hid (by rw [List.length_append, HMM.out]; rfl)
          have hb7 := World.block_lt_of_cell? _ _ y0
          simp at hb7
          clear hc7 hgq g1 g2 g3 gb
          go_upto_region 19 with fail
          go_cut [13, 14, 15] (fun i s e wx => i = .int .i64 q ∧ e = .int .i64 0 ∧ GiveCut wr k (m + 1) gs (xs ++ [cq]) s wx)
          case first =>
            go_region_held3 (fun w' => w'.cell? ⟨P, 0, none⟩ = some (.slice A k c) ∧ w'.cell? ⟨P, 1, none⟩ = some (.slice B m d) ∧ w'.cell? ⟨b7, off7 + q * 2, none⟩ = some (.int .i64 cq) ∧ w'.cell? ⟨b7, off7 + q * 2 + 1, none⟩ = some (.int .i64 gq))
              (first | go_keep | exact ⟨t1, t2, t3, t4⟩ | exact ⟨(far2 (by omega) _ _).trans t1, (far2 (by omega) _ _).trans t2, (far2 (by omega) _ _).trans t3, (far2 (by omega) _ _).trans t4⟩ | trivial)
              (first
                | (go_at_call 8
                   refine (give_fresh _ _ k m _ _ gs xs (xs ++ [cq]) cq gq 0 (m + 1) _ (HG.out.ext (by first | exact (Ext.refl _).drew | exact ((Ext.refl _).alloc _).drew)) (HX.out.ext (by first | exact (Ext.refl _).drew | exact ((Ext.refl _).alloc _).drew)) GL.out HMM.out (by omega) (by omega) gb1 G2.out G1.out G4.out).mono ?_
                   rintro e w3 ⟨A3, c3, B3, d3, rfl, hg3, hx3, hE3, fA, fB⟩
                   have t1 : w3.cell? ⟨P, 0, none⟩ = some (.slice A k c) := hE3.cell (by go_simp)
                   have t2 : w3.cell? ⟨P, 1, none⟩ = some (.slice B m d) := hE3.cell (by go_simp)
                   have t3 : w3.cell? ⟨b7, off7 + q * 2, none⟩ = some (.int .i64 cq) := hE3.cell (by go_simp)
                   have t4 : w3.cell? ⟨b7, off7 + q * 2 + 1, none⟩ = some (.int .i64 gq) := hE3.cell (by go_simp)
                   have tz := hE3.size
                   simp at tz
                   have lt1 : P < w3.heap.size := by omega
                   have lt2 : b7 < w3.heap.size := by omega
                   try have t5 : w3.cell? ⟨wr.heap.size, 0, none⟩ = some (.slice none 0 0) := hE3.cell (by first | (go_simp; done) | fail)
                   try have t6 : w3.cell? ⟨wr.heap.size, 1, none⟩ = some (.slice none 0 0) := hE3.cell (by first | (go_simp; done) | fail)
                   try have t7 : ∀ o, w3.frozen? ⟨wr.heap.size, o, none⟩ = false := fun o => (Below.frozen hE3 (p := ⟨wr.heap.size, o, none⟩) (by first | (simp; done) | fail)).trans (by first | (go_simp; done) | fail)))
            all_goals
              go_wp2_with fail
              go_meet
              first
                | exact ⟨rfl, rfl, gc_after ((Ext.refl _).drew.trans hE3) hg3 hx3 (fA.mono (Nat.le_refl _)) (fB.mono (Nat.le_refl _))⟩
                | exact ⟨rfl, rfl, gc_before (Nat.le_refl _) t5 t6 (((Ext.refl _).alloc _).drew.trans hE3) hg3 hx3 (fA.mono (by simp)) (fB.mono (by simp))⟩
          case rest =>
            obtain ⟨rfl, rfl, Q, A4, c4, B4, d4, rfl, hQ, u0, u1, hg4, hx4, hE4, fA, fB⟩ := hcut
            have v0 := hE4.cell q0
            have v1 := hE4.cell q1
            have vf : ∀ o, wc.frozen? ⟨P, o, none⟩ = false := fun o => (Below.frozen hE4 (p := ⟨P, o, none⟩) hPl).trans (QF.out o)
            have x0 := hE4.cell y0
            have x1 := hE4.cell y1
            have hQl := World.block_lt_of_cell? _ _ u0
            simp at hQl
            have hz4 := hE4.size
            have HG4 := Lib.hid hg4
            have HX4 := Lib.hid hx4
            have HE4 := Lib.hid hE4
            have FA := Lib.hid fA
            have FB := Lib.hid fB
            have lb1 : b7 < wc.heap.size := by omega
            have lb2 : P < wc.heap.size := by omega
            clear hg4 hx4 hE4 fA fB q0 q1 y0 y1
            go_wp2_with (at_builtin; refine wpList_happ (by rfl) (.tmp 94) (.tmp 99) (by rfl) (by rfl) (P + 1) _ gone (by rfl) (HON.out.ext (HE4.out.alloc _)) _ [(cq, gq)] (by rfl) (HR.one _ _ cq gq 1 rfl (by omega) GB.out) (by have := HI.out.few; simp; omega) (by simp; omega) ?_; intro v5 w5 hown5 hgrow5 hat5)
            obtain ⟨gQ, _⟩ := grow_cell hgrow5 (b := Q) (by first | omega | (simp; done) | (simp; omega)) (fun e => by have := HLO.out _ e.symm; omega)
            obtain ⟨gP, gPf⟩ := grow_cell hgrow5 (b := P) (by first | omega | (simp; done) | (simp; omega)) (fun e => by have := HLO.out _ e.symm; omega)
            have u0' : w5.cell? ⟨Q, 0, none⟩ = some (.slice A4 k c4) := (gQ 0).trans (by go_simp)
            have u1' : w5.cell? ⟨Q, 1, none⟩ = some (.slice B4 (m + 1) d4) := (gQ 1).trans (by go_simp)
            have v0' : w5.cell? ⟨P, 0, none⟩ = some (.slice A k c) := (gP 0).trans (by go_simp)
            have v1' : w5.cell? ⟨P, 1, none⟩ = some (.slice B m d) := (gP 1).trans (by go_simp)
            have vf' : ∀ o, w5.frozen? ⟨P, o, none⟩ = false := fun o => (gPf o).trans (by go_simp)
            have HG5 := Lib.hid ((HG4.out.ext ((Ext.refl _).alloc _)).grown hgrow5 (fun a ha e => by have h1 := HLO.out _ e.symm; have h2 := FA.out a ha; omega))
            have HX5 := Lib.hid ((HX4.out.ext ((Ext.refl _).alloc _)).grown hgrow5 (fun a ha e => by have h1 := HLO.out _ e.symm; have h2 := FB.out a ha; omega))
            have HE5 := Lib.hid (((HE.out.trans HE4.out).alloc _).grown hgrow5 (fun q hq => by have := HLO.out _ hq; omega))
            have HGO5 := Lib.hid ((HGO.out.ext (HE4.out.alloc _)).kept hgrow5 (.inr (fun e => FAR.out b7 rfl e.symm)))
            have HO5 := Lib.hid hown5
            have hz5 := hgrow5.size
            simp at hz5
            have lb3 : P < w5.heap.size := by omega
            have lb4 : b7 < w5.heap.size := by omega
            have lb5 : Q < w5.heap.size := by omega
            have HP1 := Lib.hid (HGO5.out.hr.take q c7 (by omega) (by omega))
            have hqc : (q : Int) ≤ c7 := by omega
            have hq1 : (q : Int) + 1 ≤ good.length := by omega
            have hq2 : (q : Int) + 1 ≤ c7 := by omega
            have hq3 : (good.length : Int) ≤ c7 := by omega
            clear hown5 hgrow5 hat5 gQ gP gPf u0 u1 v0 v1 vf x0 x1
            have hL1 : ([] : List (Int × Int)).length + (good.take q).length ≤ 1048576 := by rw [List.length_take]; simp; omega
            have hL2 : (good.take q).length + (good.drop (q + 1)).length ≤ 1048576 := by rw [List.length_take, List.length_drop]; omega
            have hQP : Q ≠ P := by omega
            by_cases hc7 : c7 = q + 1
            · subst hc7
              have hdr : good.drop (q + 1) = [] := List.eq_nil_of_length_eq_zero (by rw [List.length_drop]; omega)
              have HP2 : Hid (HR w5 (.slice (some ⟨b7, off7, none⟩) 0 0) (good.drop (q + 1))) := Lib.hid (by rw [hdr]; exact HR.nil _ _ _)
              have hw1 : IntKind.i64.wrap ((q : Int) + 1) = (q : Int) + 1 := IntWalk.i64_in _ (by omega)
              have hw2 : (0 : Int) ≤ (q : Int) + 1 := by omega
              have hw3 : ((q : Int) + 1).toNat = q + 1 := by omega
              have hq5 : (q : Int) ≤ (q : Int) + 1 := by omega
              have hq6 : (0 : Int) ≤ (q : Int) := by omega
              clear hdr
              go_region_held3 (fun w' => w'.cell? ⟨Q, 0, none⟩ = some (.slice A4 k c4) ∧ w'.cell? ⟨Q, 1, none⟩ = some (.slice B4 (m + 1) d4))
                (first | go_keep | exact ⟨k71, k72⟩ | exact ⟨k61, k62⟩ | exact ⟨(far2 hQP _ _).trans k71, (far2 hQP _ _).trans k72⟩ | trivial)
                (first
                  | (refine step_happ (by rfl) (.tmp 102) (.tmp 105) (by rfl) (by rfl) w5.heap.size _ [] (by rfl) ((hs_emptyAt w5 rfl (Nat.le_refl _)).ext (Ext.refl _).drew) _ (good.take q) (by rfl) (HP1.out.ext ((Ext.refl _).alloc _).drew) hL1 (by simp) ?_
                     intro v6 w6 hown6 hgrow6 hat6
                     have hE6 := ((Ext.refl w5).alloc _).drew.grown hgrow6 (fun r hr => by cases hr; exact Nat.le_refl _)
                     have k61 : w6.cell? ⟨Q, 0, none⟩ = some (.slice A4 k c4) := hE6.cell u0'
                     have k62 : w6.cell? ⟨Q, 1, none⟩ = some (.slice B4 (m + 1) d4) := hE6.cell u1'
                     simp only [List.nil_append] at hown6
                     have hz6 := hE6.size)
                  | (refine step_happ (by rfl) (.tmp 106) (.tmp 110) (by rfl) (by rfl) w5.heap.size _ (good.take q) (by rfl) hown6 _ (good.drop (q + 1)) (by rfl) (HP2.out.ext hE6) hL2 hz6 ?_
                     intro v7 w7 hown7 hgrow7 hat7
                     have hE7 := hE6.grown hgrow7 (fun r hr => (hown6.lt r hr).1)
                     have k71 : w7.cell? ⟨Q, 0, none⟩ = some (.slice A4 k c4) := hE7.cell u0'
                     have k72 : w7.cell? ⟨Q, 1, none⟩ = some (.slice B4 (m + 1) d4) := hE7.cell u1'
                     have kp0 := hE7.cell v0'
                     have kp1 := hE7.cell v1'
                     have kpf : ∀ o, w7.frozen? ⟨P, o, none⟩ = false := fun o => (Below.frozen hE7 (p := ⟨P, o, none⟩) lb3).trans (vf' o)
                     have HE7 := Lib.hid hE7
                     have HO7 := Lib.hid hown7))
              clear hw1 hw2 hw3
              go_wp2
              go_roundw
              case rel =>
                refine ⟨t + 1, by omega, by go_num, _, _, _, _, G3.out, ?_, ?_, ?_, ?_, ?_⟩
                · exact PoolAt.put kp0 kp1 kpf GL.out G4.out (HG5.out.ext HE7.out) (HX5.out.ext HE7.out)
                · exact PoolAt.hands (HO7.out.mono (by omega)) (Nat.lt_succ_self P) _ _
                · exact PoolAt.hands (HO5.out.ext HE7.out) (Nat.lt_succ_self P) _ _
                · intro r hr hv
                  have h1 := (HO7.out.lt r hr).1
                  have h2 := (HO5.out.lt r hv).2
                  omega
                · exact ((HE5.out.trans HE7.out).setCell (p := ⟨P, 0, none⟩) hP _).setCell (p := ⟨P, 1, none⟩) hP _
              case measure => simp [intOf]; omega
            · have HP2 := Lib.hid (HGO5.out.hr.drop (q + 1) (good.length - (q + 1)) (c7 - (q + 1)) rfl (by omega))
              have hw1 : IntKind.i64.wrap ((q : Int) + 1) = (q : Int) + 1 := IntWalk.i64_in _ (by omega)
              have hw2 : (0 : Int) ≤ (q : Int) + 1 := by omega
              have hw3 : ((q : Int) + 1).toNat = q + 1 := by omega
              go_region_held3 (fun w' => w'.cell? ⟨Q, 0, none⟩ = some (.slice A4 k c4) ∧ w'.cell? ⟨Q, 1, none⟩ = some (.slice B4 (m + 1) d4))
                (first | go_keep | exact ⟨k71, k72⟩ | exact ⟨k61, k62⟩ | exact ⟨(far2 hQP _ _).trans k71, (far2 hQP _ _).trans k72⟩ | trivial)
                (first
                  | (refine step_happ (by rfl) (.tmp 102) (.tmp 105) (by rfl) (by rfl) w5.heap.size _ [] (by rfl) ((hs_emptyAt w5 rfl (Nat.le_refl _)).ext (Ext.refl _).drew) _ (good.take q) (by rfl) (HP1.out.ext ((Ext.refl _).alloc _).drew) hL1 (by simp) ?_
                     intro v6 w6 hown6 hgrow6 hat6
                     have hE6 := ((Ext.refl w5).alloc _).drew.grown hgrow6 (fun r hr => by cases hr; exact Nat.le_refl _)
                     have k61 : w6.cell? ⟨Q, 0, none⟩ = some (.slice A4 k c4) := hE6.cell u0'
                     have k62 : w6.cell? ⟨Q, 1, none⟩ = some (.slice B4 (m + 1) d4) := hE6.cell u1'
                     simp only [List.nil_append] at hown6
                     have hz6 := hE6.size)
                  | (refine step_happ (by rfl) (.tmp 106) (.tmp 110) (by rfl) (by rfl) w5.heap.size _ (good.take q) (by rfl) hown6 _ (good.drop (q + 1)) (by rfl) (HP2.out.ext hE6) hL2 hz6 ?_
                     intro v7 w7 hown7 hgrow7 hat7
                     have hE7 := hE6.grown hgrow7 (fun r hr => (hown6.lt r hr).1)
                     have k71 : w7.cell? ⟨Q, 0, none⟩ = some (.slice A4 k c4) := hE7.cell u0'
                     have k72 : w7.cell? ⟨Q, 1, none⟩ = some (.slice B4 (m + 1) d4) := hE7.cell u1'
                     have kp0 := hE7.cell v0'
                     have kp1 := hE7.cell v1'
                     have kpf : ∀ o, w7.frozen? ⟨P, o, none⟩ = false := fun o => (Below.frozen hE7 (p := ⟨P, o, none⟩) lb3).trans (vf' o)
                     have HE7 := Lib.hid hE7
                     have HO7 := Lib.hid hown7))
              clear hw1 hw2 hw3
              go_wp2
              go_roundw
              case rel =>
                refine ⟨t + 1, by omega, by go_num, _, _, _, _, G3.out, ?_, ?_, ?_, ?_, ?_⟩
                · exact PoolAt.put kp0 kp1 kpf GL.out G4.out (HG5.out.ext HE7.out) (HX5.out.ext HE7.out)
                · exact PoolAt.hands (HO7.out.mono (by omega)) (Nat.lt_succ_self P) _ _
                · exact PoolAt.hands (HO5.out.ext HE7.out) (Nat.lt_succ_self P) _ _
                · intro r hr hv
                  have h1 := (HO7.out.lt r hr).1
                  have h2 := (HO5.out.lt r hv).2
                  omega
                · exact ((HE5.out.trans HE7.out).setCell (p := ⟨P, 0, none⟩) hP _).setCell (p := ⟨P, 1, none⟩) hP _
              case measure => simp [intOf]; omega
    · clear hI hGO hON hfar hE
      obtain ⟨wo, rfl⟩ : ∃ wo : World, wo = wr := ⟨_, rfl⟩
      have hgg : gone.length ≤ 100 := by have := HI.out.few; omega
      have hgi : (gone.length : Int) ≤ 100 := by omega
      have hgo : (good.length : Int) ≤ 20 := by omega
      have ht100 : t ≤ 100 := by omega
      have hm20 : xs.length ≤ 20 := by have := HI.out.sum; omega
      obtain ⟨A8, c8, rfl, hcap8⟩ := HON.out.hr.slice
      obtain ⟨A, c, B, d, q0, q1, qf, hg, hx⟩ := hPA
      obtain ⟨m, hm⟩ : ∃ m, xs.length = m := ⟨_, rfl⟩
      rw [GL.out] at q0 hg
      rw [hm] at q1 hx hm20
      have HMM := Lib.hid hm
      have HG := Lib.hid hg
      have HX := Lib.hid hx
      have Q0 := Lib.hid q0
      have Q1 := Lib.hid q1
      clear hm hg hx qf q0 q1
      go_wp2_with fail
      go_loopw [16] (fun i wx => ∃ r : Nat, r ≤ gone.length ∧ i = .int .i64 r ∧ Ext wo wx) (fun i _ => gone.length - (intOf i).toNat)
      case atStart => exact ⟨0, Nat.zero_le _, rfl, Ext.refl _⟩
      case round =>
        obtain ⟨r, hr, rfl, hX⟩ := hrel
        by_cases hrl : r < gone.length
        · have hri : (r : Int) < gone.length := by omega
          have hng := HI.out.notGood r hrl
          have hbd := (HON.out.bdAt r).1
          obtain ⟨b8, off8, rfl, hc8⟩ := HON.out.hr.cells (by omega)
          have y0 := hX.cell (hc8 r hrl).1
          have y1 := hX.cell (hc8 r hrl).2
          have q0 := hX.cell Q0.out
          have q1 := hX.cell Q1.out
          obtain ⟨⟨cq, gq⟩, hgq⟩ : ∃ g, gone.getD r (0, 0) = g := ⟨_, rfl⟩
          rw [hgq] at hng hbd y0 y1
          simp only at hng hbd y0 y1
          have HNG := Lib.hid hng
          have HX' := Lib.hid hX
          clear hng hgq hc8 hX
          go_wp2_with fail
          go_region_held3 (fun w' => w'.cell? ⟨P, 0, none⟩ = some (.slice A k c) ∧ w'.cell? ⟨P, 1, none⟩ = some (.slice B m d) ∧ w'.cell? ⟨b8, off8 + r * 2, none⟩ = some (.int .i64 cq) ∧ w'.cell? ⟨b8, off8 + r * 2 + 1, none⟩ = some (.int .i64 gq))
            (first | go_keep | exact ⟨hE3.cell q0, hE3.cell q1, hE3.cell y0, hE3.cell y1⟩ | trivial)
            (first
              | (go_at_call 9
                 refine (good_to _ _ k m _ _ gs xs cq gq false _ (HG.out.ext (HX'.out.trans (Ext.refl _).drew)) (HX.out.ext (HX'.out.trans (Ext.refl _).drew)) GL.out HMM.out hbd HNG.out).mono ?_
                 rintro e w3 ⟨rfl, hE3⟩))
          go_wp2
          go_roundw
          case rel => exact ⟨r + 1, by omega, by go_num, (HX'.out.trans (Ext.refl _).drew).trans hE3⟩
          case measure => simp [intOf]; omega
        · have hrl' : ¬ (r : Int) < gone.length := by omega
          have HX2 := Lib.hid hX
          clear hX
          obtain ⟨wp, rfl⟩ : ∃ wp : World, wp = wr := ⟨_, rfl⟩
          go_wp2_with fail
          go_loopw [17, 18] (fun i _ wx => ∃ r : Nat, r ≤ good.length ∧ i = .int .i64 r ∧ Ext wo wx) (fun i _ _ => good.length - (intOf i).toNat)
          case atStart => exact ⟨0, Nat.zero_le _, rfl, HX2.out⟩
          case round =>
            obtain ⟨s, hs, rfl, hX⟩ := hrel
            by_cases hsl : s < good.length
            · have hsi : (s : Int) < good.length := by omega
              have hng := HI.out.isGood hk1 hk2 ht100 s hsl
              have hbd := (HGO.out.bdAt s).1
              obtain ⟨b7, off7, rfl, hc7⟩ := HGO.out.hr.cells (by omega)
              have HC7 := Lib.hid hc7
              have y0 := hX.cell (hc7 s hsl).1
              have y1 := hX.cell (hc7 s hsl).2
              have q0 := hX.cell Q0.out
              have q1 := hX.cell Q1.out
              obtain ⟨⟨cq, gq⟩, hgq⟩ : ∃ g, good.getD s (0, 0) = g := ⟨_, rfl⟩
              rw [hgq] at hng hbd y0 y1
              simp only at hng hbd y0 y1
              have HNG := Lib.hid hng
              have HGQ := Lib.hid hgq
              have HX' := Lib.hid hX
              clear hng hgq hc7 hX
              go_wp2_with fail
              go_region_held3 (fun w' => w'.cell? ⟨P, 0, none⟩ = some (.slice A k c) ∧ w'.cell? ⟨P, 1, none⟩ = some (.slice B m d) ∧ w'.cell? ⟨b7, off7 + s * 2, none⟩ = some (.int .i64 cq) ∧ w'.cell? ⟨b7, off7 + s * 2 + 1, none⟩ = some (.int .i64 gq))
                (first | go_keep | exact ⟨hE3.cell q0, hE3.cell q1, hE3.cell y0, hE3.cell y1⟩ | trivial)
                (first
                  | (go_at_call 9
                     refine (good_to _ _ k m _ _ gs xs cq gq true _ (HG.out.ext (HX'.out.trans (Ext.refl _).drew)) (HX.out.ext (HX'.out.trans (Ext.refl _).drew)) GL.out HMM.out hbd HNG.out).mono ?_
                     rintro e w3 ⟨rfl, hE3⟩))
              have HX3 := Lib.hid ((HX'.out.trans (Ext.refl _).drew).trans hE3)
              have hz0 := hE3.cell y0
              clear hE3 y0 y1 q0 q1
              go_wp2_with fail
              obtain ⟨wq, rfl⟩ : ∃ wq : World, wq = w3 := ⟨_, rfl⟩
              go_loopw [18] (fun i wx => ∃ p : Nat, p ≤ s ∧ i = .int .i64 p ∧ Ext wo wx) (fun i _ => s - (intOf i).toNat)
              case atStart => exact ⟨0, Nat.zero_le _, rfl, HX3.out⟩
              case round =>
                obtain ⟨p, hp, rfl, hX⟩ := hrel
                by_cases hps : p < s
                · have hpi : (p : Int) < s := by omega
                  have hpl : (p : Int) < good.length := by omega
                  have z0 := hX.cell (HC7.out p (by omega)).1
                  have z1 := hX.cell (HC7.out s hsl).1
                  obtain ⟨cp, hcp⟩ : ∃ cp, (good.getD p (0, 0)).1 = cp := ⟨_, rfl⟩
                  have hcs : (good.getD s (0, 0)).1 = cq := by rw [HGQ.out]
                  have hne := HI.out.two p s hps hsl
                  rw [hcp, hcs] at hne
                  rw [hcp] at z0
                  rw [hcs] at z1
                  have hnb : (cp == cq) = false := by rw [beq_eq_false_iff_ne]; exact hne
                  have HXp := Lib.hid hX
                  clear hcp hcs hne hX
                  go_wp2_with fail
                  go_quiet (fail)
                  go_wp2
                  go_roundw
                  case rel => exact ⟨p + 1, by omega, by go_num, HXp.out.drewN _⟩
                  case measure => simp [intOf]; omega
                · have hpi : ¬ (p : Int) < s := by omega
                  go_wp2
                  go_roundw
                  case rel => exact ⟨s + 1, by omega, by go_num, hX⟩
                  case measure => simp [intOf]; omega
            · have hsi : ¬ (s : Int) < good.length := by omega
              have HT := Lib.hid (HI.out.taken hk1 hk2 ht100)
              have HR := Lib.hid (HI.out.right hk1 hk2 ht100)
              have p00 := hX.cell Q0.out
              have p01 := hX.cell Q1.out
              go_wp2_with fail
              refine (taken_to _ _ k m _ _ gs xs (takenL gs xs) good.length _ (HG.out.ext hX) (HX.out.ext hX) GL.out HMM.out rfl HT.out).mono ?_
              rintro e w4 ⟨A4, c4, rfl, _, hE4⟩
              have p0 := hE4.cell (hX.cell Q0.out)
              have p1 := hE4.cell (hX.cell Q1.out)
              go_wp2_with fail
              refine (right_to _ _ k m _ _ gs xs true _ ((HG.out.ext hX).ext hE4) ((HX.out.ext hX).ext hE4) GL.out HMM.out HR.out).mono ?_
              rintro e w5 ⟨rfl, hE5⟩
              go_wp2_with fail
              go_ret
              exact ⟨rfl, (((E0.out.trans HE.out).trans hX).trans hE4).trans hE5⟩

set_option maxRecDepth 100000 in
theorem palone_great (x : Int) (A : Option Addr) (n c : Nat) (w : World) (hn : n ≤ 9223372036854775807) (hl : 100 < n) :
    Calls Try.prog 3 #[.int .u8 x, .slice A n c] w fun e w' => e = .returned (.bool true) ∧ Ext w w' := by
  have h1 : (100 : Int) < n := by omega
  go_enter Try.func3, Try.ntmps3
  go_wp2_with fail
  refine (alive_any _).mono ?_
  rintro e w0 ⟨rfl, hE⟩
  go_wp2_with fail
  go_ret
  exact ⟨rfl, hE⟩
theorem palone_any (x : Int) (A : Option Addr) (c : Nat) (acts : List Int) (w : World) (hx : 0 ≤ x ∧ x ≤ 255) (h : Bytes w (.slice A acts.length c) acts) :
    Calls Try.prog 3 #[.int .u8 x, .slice A acts.length c] w fun e w' => e = .returned (.bool true) ∧ Ext w w' := by
  have k1 := h.1
  unfold maxLen at k1
  by_cases hg : 100 < acts.length
  · exact palone_great x A _ c w (by omega) hg
  · exact palone_walk x A c acts w hx h (by omega)
end Go.Proofs.Ytbkheglogmkbgaa

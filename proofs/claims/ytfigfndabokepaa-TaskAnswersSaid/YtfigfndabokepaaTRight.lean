/- The document's Right and Great of work. -/
import Derived.Test.YtfigfndabokepaaCBase
import Derived.Test.YtfigfndabokepaaTPlain
import Derived.Test.YtfigfndabokepaaKinds
import Derived.Lib.SliceRun
namespace Go.Proofs.Ytfigfndabokepaa
open Go.RowKit Go.Proofs.Ytfigfndabokepaa.Plain

set_option maxHeartbeats 800000 in
set_option maxRecDepth 100000 in
theorem rright_any (A B : Option Addr) (c d n : Nat) (ts : List Tk) (g : Int) (w : World) (h : Rd kTask w (.slice A ts.length c) ts) (hn : n ≤ 9223372036854775807) (hg : -9223372036854775808 ≤ g ∧ g ≤ 9223372036854775807) :
    Calls Try.prog 18 #[.agg #[.slice A ts.length c, .int .i64 g, .slice B n d]] w fun e w' => e = .returned (.bool (wRight ts g n)) ∧ Ext w w' := by
  have H := Lib.hid h
  have hm := h.len
  clear h
  cases hs : wSized g n ts.length with
  | false =>
    have HR : Hid (wRight ts g n = false) := Lib.hid (by unfold wRight; rw [hs]; rfl)
    have hs' : ¬ (1 ≤ g ∧ g ≤ 100 ∧ 1 ≤ n ∧ n ≤ 1000 ∧ 1 ≤ ts.length ∧ ts.length ≤ 2000) := fun hh => by rw [(wSized_iff _ _ _).2 hh] at hs; cases hs
    have hs2 : g < 1 ∨ 100 < g ∨ (n : Int) < 1 ∨ 1000 < (n : Int) ∨ (ts.length : Int) < 1 ∨ 2000 < (ts.length : Int) := by omega
    clear hs hs'
    go_enter Try.func18, Try.ntmps18
    go_wp2
    all_goals first
      | (exfalso; omega)
      | (go_ret; exact ⟨ret_bool HR.out.symm, (Ext.refl w).alloc _⟩)
  | true =>
    have HR : Hid (wRight ts g n = wOkTo ts n ts.length) := Lib.hid (by unfold wRight; rw [hs]; rfl)
    obtain ⟨a1, a2, a3, a4, a5, a6⟩ := (wSized_iff _ _ _).1 hs
    have b3 : (1 : Int) ≤ n := by omega
    have b4 : (n : Int) ≤ 1000 := by omega
    have b5 : (1 : Int) ≤ ts.length := by omega
    have b6 : (ts.length : Int) ≤ 2000 := by omega
    clear hs
    obtain ⟨b, off, rfl, hcc⟩ := Rd.tasks H.out (by omega)
    have HC := Lib.hid hcc
    clear hcc
    go_enter Try.func18, Try.ntmps18
    go_wp2
    go_loopw [4] (fun i wr => ∃ k : Nat, k ≤ ts.length ∧ i = .int .i64 k ∧ wOkTo ts n k = true ∧ Ext (w.alloc (.cells #[.slice (some ⟨b, off, none⟩) ts.length c, .int .i64 g, .slice B n d] 25)) wr) (fun i _ => ts.length - (intOf i).toNat)
    case atStart => exact ⟨0, Nat.zero_le _, rfl, wOkTo_zero _ _, Ext.refl _⟩
    case round =>
      obtain ⟨k, hk, rfl, hok, hE⟩ := hrel
      have HOK := Lib.hid hok
      have x0 : wr.cell? ⟨w.heap.size, 0, none⟩ = some (.slice (some ⟨b, off, none⟩) ts.length c) := hE.cell (by go_simp)
      have x1 : wr.cell? ⟨w.heap.size, 1, none⟩ = some (.int .i64 g) := hE.cell (by go_simp)
      have hsz := hE.size
      simp at hsz
      have l0 : w.heap.size < wr.heap.size := by omega
      have l1 : w.heap.size < wr.heap.size + 1 := by omega
      clear hok
      by_cases hlt : k < ts.length
      · have hlt' : (k : Int) < ts.length := by omega
        obtain ⟨y0, y1, y2, y3⟩ := HC.out k hlt
        have hbd := H.out.okAt k hlt
        obtain ⟨⟨lo, hi, up, wt⟩, ht⟩ : ∃ t, ts.getD k tk0 = t := ⟨_, rfl⟩
        have ht' : ts.getD k ⟨0, 0, 0, 0⟩ = ⟨lo, hi, up, wt⟩ := ht
        rw [ht'] at y0 y1 y2 y3
        have hbd' : in64 lo ∧ in64 hi ∧ in64 up ∧ in64 wt := by
          have e : ts.getD k kTask.d = ⟨lo, hi, up, wt⟩ := ht
          rw [e] at hbd; exact hbd
        obtain ⟨⟨h1, h2⟩, ⟨h3, h4⟩, ⟨h5, h6⟩, h7, h8⟩ := hbd'
        have z0 := hE.cell (Lib.cell?_alloc_some _ y0)
        have z1 := hE.cell (Lib.cell?_alloc_some _ y1)
        have z2 := hE.cell (Lib.cell?_alloc_some _ y2)
        have z3 := hE.cell (Lib.cell?_alloc_some _ y3)
        simp only at z0 z1 z2 z3
        have HE := Lib.hid hE
        clear y0 y1 y2 y3 hbd ht' hE
        cases hto : tkOk n k ⟨lo, hi, up, wt⟩ with
        | false =>
          have H0 := Lib.hid (wOkTo_no ts n ts.length k hlt (by rw [ht]; exact hto))
          have hno : ¬ (0 ≤ lo ∧ lo < hi ∧ hi ≤ (n : Int) ∧ -1 ≤ up ∧ up < (k : Int) ∧ 0 ≤ wt ∧ wt ≤ 2) := fun hh => by rw [(tkOk_iff _ _ _).2 hh] at hto; cases hto
          have hno' : lo < 0 ∨ hi ≤ lo ∨ (n : Int) < hi ∨ up < -1 ∨ (k : Int) ≤ up ∨ wt < 0 ∨ 2 < wt := by omega
          clear hno hto ht
          go_wp2
          all_goals first
            | (exfalso; omega)
            | (go_ret; exact ⟨ret_bool (by rw [HR.out, H0.out]), (((Ext.refl w).alloc _).trans HE.out).alloc _⟩)
        | true =>
          have H0 : Hid (wOkTo ts n (k + 1) = true) := Lib.hid (by rw [wOkTo_succ, HOK.out, ht, hto]; rfl)
          obtain ⟨c1, c2, c3, c4, c5, c6, c7⟩ := (tkOk_iff _ _ _).1 hto
          simp only at c1 c2 c3 c4 c5 c6 c7
          clear hto ht
          go_wp2
          go_roundw
          case rel => exact ⟨k + 1, by omega, by go_num, H0.out, HE.out.alloc _⟩
          case measure => simp [intOf]; omega
      · have hk' : k = ts.length := by omega
        have HOK2 : Hid (wOkTo ts n ts.length = true) := Lib.hid (hk' ▸ HOK.out)
        have hlt' : ¬ (k : Int) < ts.length := by omega
        clear hk'
        go_wp2
        go_ret
        exact ⟨ret_bool (by rw [HR.out, HOK2.out]), ((Ext.refl w).alloc _).trans hE⟩
end Go.Proofs.Ytfigfndabokepaa

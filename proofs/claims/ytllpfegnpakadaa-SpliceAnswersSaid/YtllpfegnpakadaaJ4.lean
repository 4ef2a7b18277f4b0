/- Joined by wip/merge.py: T15A, T15B, T14M, T14V, RoundR, MonoR, T14I. -/
import Derived.Test.YtllpfegnpakadaaJ3
import Derived.Deep.QuietTactic
import Derived.BigQuiet
import Derived.Deep.RegionHeld3
import Derived.StillTailTactics
import Derived.RangeFuncNested
import Derived.RangeFuncBound
import Derived.RangeFuncCalls
import Derived.RangeFuncLeaves
import Derived.OwnWalkIn
import Derived.TacticsInMore
import Derived.LoopNIn
import Derived.LoopIn
import Derived.OrdersIn
import Derived.Shelf.Abstract
set_option linter.unusedVariables false
set_option linter.unusedSimpArgs false
set_option linter.unnecessarySimpa false
/- Links as elements; the document's last, Changed, Same, Height (ref15). Written by wip/mk_t15.py. -/
namespace Go.Proofs.Ytllpfegnpakadaa
open Go.BigFrame
open Go.RowKit Go.Proofs.Ytllpfegnpakadaa.Plain

/-- links: three numbers each -/
def kLink : Kd Lk where
  t := 36
  e := 51
  n := 3
  cells := fun x => [.int .i64 x.1, .int .i64 x.2.1, .int .i64 x.2.2]
  ok := fun x => in64 x.1 ∧ in64 x.2.1 ∧ in64 x.2.2
  d := lk0
  z := .agg #[.int .i64 0, .int .i64 0, .int .i64 0]
  bytes := 24
  ht := Try.underlying36
  info := by kernel_rfl
  hzs := rfl
  pos := by decide
  small := by decide
  len := fun _ => rfl
  one := fun a u hu => by simp at hu; rcases hu with rfl | rfl | rfl <;> rfl
theorem Rd.links {w : World} {A : Option Addr} {n c : Nat} {xs : List Lk} (h : Rd kLink w (.slice A n c) xs) (hl : 0 < xs.length) : ∃ b off, A = some ⟨b, off, none⟩ ∧ ∀ j, j < xs.length → w.cell? ⟨b, off + j * 3, none⟩ = some (.int .i64 (xs.getD j lk0).1) ∧ w.cell? ⟨b, off + j * 3 + 1, none⟩ = some (.int .i64 (xs.getD j lk0).2.1) ∧ w.cell? ⟨b, off + j * 3 + 2, none⟩ = some (.int .i64 (xs.getD j lk0).2.2) := by
  obtain ⟨b, off, rfl, hcc⟩ := h.cells hl
  exact ⟨b, off, rfl, fun j hj => ⟨by have := hcc j hj 0 _ rfl; simpa [kLink] using this, by have := hcc j hj 1 _ rfl; simpa [kLink] using this, by have := hcc j hj 2 _ rfl; simpa [kLink] using this⟩⟩
theorem Plain.lk_snoc {l : List Lk} {k : Nat} (h : k < l.length) : l.take (k + 1) = l.take k ++ [l.getD k lk0] := by
  rw [List.take_succ_eq_append_getElem h, List.getD_eq_getElem?_getD, List.getElem?_eq_getElem h]; rfl
set_option maxHeartbeats 6400000 in
set_option maxRecDepth 100000 in
theorem rlast15_any (l : List Lk) (L : Option Addr) (lc : Nat) (tk lv : Int) (w : World) (hL : Rd kLink w (.slice L l.length lc) l) :
    Calls Try.prog 41 #[.slice L l.length lc, .int .i64 tk, .int .i64 lv] w fun ed w' => ed = .returned (.tuple #[.int .i64 (lastP l tk lv).1, .bool (lastP l tk lv).2]) ∧ w = w' := by
  have HL := Lib.hid hL
  have hm := hL.len
  clear hL
  go_enter Try.func41, Try.ntmps41
  go_wp2_with fail
  go_loopw [8, 9, 10] (fun tv ok i wr => ∃ k : Nat, k ≤ l.length ∧ i = .int .i64 k ∧ tv = .int .i64 (lastP (l.take k) tk lv).1 ∧ ok = .bool (lastP (l.take k) tk lv).2 ∧ wr = w) (fun _ _ i _ => l.length - (intOf i).toNat)
  case atStart => exact ⟨0, Nat.zero_le _, rfl, rfl, rfl, rfl⟩
  case round =>
    obtain ⟨k, hk, rfl, rfl, rfl, rfl⟩ := hrel
    have hk0 : (0 : Int) ≤ k := by omega
    by_cases hlt : k < l.length
    · have hlt' : (k : Int) < l.length := by omega
      obtain ⟨bx, ox, rfl, hcx⟩ := Rd.links HL.out (by omega)
      obtain ⟨x0, x1, x2⟩ := hcx k hlt
      have hsn := lastP_snoc (l.take k) (l.getD k lk0) tk lv
      rw [← lk_snoc hlt] at hsn
      obtain ⟨⟨u, v, z⟩, hx⟩ : ∃ x, l.getD k lk0 = x := ⟨_, rfl⟩
      rw [hx] at x0 x1 x2 hsn
      simp only at x0 x1 x2 hsn
      obtain ⟨⟨p, q⟩, hp⟩ : ∃ r, lastP (l.take k) tk lv = r := ⟨_, rfl⟩
      rw [hp] at hsn ⊢
      simp only
      have HSN := Lib.hid hsn
      have lbx : bx < wr.heap.size := World.block_lt_of_cell? _ _ x0
      clear hcx hsn hx hp
      by_cases h1 : u = tk
      · have e1 : (u == tk) = true := by rw [beq_iff_eq]; exact h1
        have e1' : decide (u = tk) = true := decide_eq_true h1
        by_cases h2 : v = lv
        · have e2 : (v == lv) = true := by rw [beq_iff_eq]; exact h2
          have e2' : decide (v = lv) = true := decide_eq_true h2
          rw [if_pos ⟨h1, h2⟩] at HSN
          clear h1 h2
          go_wp2_with fail
          go_roundw
          case rel => exact ⟨k + 1, by omega, by go_num, by rw [HSN.out], by rw [HSN.out], by first | trivial | rfl⟩
          case measure => simp [intOf]; omega
        · have e2 : (v == lv) = false := by rw [beq_eq_false_iff_ne]; exact h2
          have e2' : decide (v = lv) = false := decide_eq_false h2
          rw [if_neg (fun h => h2 h.2)] at HSN
          clear h1 h2
          go_wp2_with fail
          go_roundw
          case rel => exact ⟨k + 1, by omega, by go_num, by rw [HSN.out], by rw [HSN.out], by first | trivial | rfl⟩
          case measure => simp [intOf]; omega
      · have e1 : (u == tk) = false := by rw [beq_eq_false_iff_ne]; exact h1
        have e1' : decide (u = tk) = false := decide_eq_false h1
        rw [if_neg (fun h => h1 h.1)] at HSN
        clear h1
        go_wp2_with fail
        go_roundw
        case rel => exact ⟨k + 1, by omega, by go_num, by rw [HSN.out], by rw [HSN.out], by first | trivial | rfl⟩
        case measure => simp [intOf]; omega
    · obtain rfl : k = l.length := by omega
      rw [List.take_length]
      go_wp2_with fail
      exact bodyPost_ret (v := .tuple #[.int .i64 (lastP l tk lv).1, .bool (lastP l tk lv).2]) (by simp [results, Try.results41, go_sem]) rfl ⟨rfl, rfl⟩
set_option maxHeartbeats 6400000 in
set_option maxRecDepth 100000 in
theorem rchanged15_any (a b : List Lk) (L M : Option Addr) (lc mc : Nat) (w : World) (hL : Rd kLink w (.slice L a.length lc) a) (hM : Rd kLink w (.slice M b.length mc) b) (ha : a.length ≤ 100000) (hb : b.length ≤ 100000) :
    Calls Try.prog 24 #[.slice L a.length lc, .slice M b.length mc] w fun ed w' => ed = .returned (.int .i64 (changedP a b : Nat)) ∧ Ext w w' := by
  have HL := Lib.hid hL
  have HM := Lib.hid hM
  have hca := hL.slice
  have hcb := hM.slice
  have ha' : (a.length : Int) ≤ 100000 := by omega
  have hb' : (b.length : Int) ≤ 100000 := by omega
  have HC : Hid (changedP a b = chF (condA a b) a.length + chF (condB a b) b.length) := Lib.hid rfl
  have hlc : a.length ≤ lc := by obtain ⟨_, c, h1, h2⟩ := hca; cases h1; exact h2
  have hmc : b.length ≤ mc := by obtain ⟨_, c, h1, h2⟩ := hcb; cases h1; exact h2
  clear hL hM hca hcb
  go_enter Try.func24, Try.ntmps24
  go_wp2_with fail
  go_loopw [5, 6] (fun n i wr => ∃ k : Nat, k ≤ a.length ∧ i = .int .i64 k ∧ n = .int .i64 (chF (condA a b) k : Nat) ∧ Ext w wr) (fun _ i _ => a.length - (intOf i).toNat)
  case atStart => exact ⟨0, Nat.zero_le _, rfl, rfl, Ext.refl _⟩
  case round =>
    obtain ⟨k, hk, rfl, rfl, hX⟩ := hrel
    have HX := Lib.hid hX
    have hk0 : (0 : Int) ≤ k := by omega
    have hcl := chF_le (condA a b) k
    clear hX
    by_cases hlt : k < a.length
    · have hlt' : (k : Int) < a.length := by omega
      have hkc : (k : Int) ≤ lc := by omega
      have hcs : chF (condA a b) (k + 1) = chF (condA a b) k + (if condA a b k = true then 1 else 0) := rfl
      obtain ⟨bx, ox, rfl, hcx⟩ := Rd.links (HL.out.ext HX.out) (by omega)
      obtain ⟨x0, x1, x2⟩ := hcx k hlt
      have hcd : condA a b k = (!(lastP (a.take k) (a.getD k lk0).1 (a.getD k lk0).2.1).2 && (!(lastP b (a.getD k lk0).1 (a.getD k lk0).2.1).2 || (lastP a (a.getD k lk0).1 (a.getD k lk0).2.1).1 != (lastP b (a.getD k lk0).1 (a.getD k lk0).2.1).1)) := rfl
      obtain ⟨⟨u, v, z⟩, hx⟩ : ∃ x, a.getD k lk0 = x := ⟨_, rfl⟩
      rw [hx] at x0 x1 x2 hcd
      simp only at x0 x1 x2 hcd
      obtain ⟨⟨p1, q1⟩, hp1⟩ : ∃ r, lastP (a.take k) u v = r := ⟨_, rfl⟩
      obtain ⟨⟨p2, q2⟩, hp2⟩ : ∃ r, lastP a u v = r := ⟨_, rfl⟩
      obtain ⟨⟨p3, q3⟩, hp3⟩ : ∃ r, lastP b u v = r := ⟨_, rfl⟩
      rw [hp1, hp2, hp3] at hcd
      simp only at hcd
      have hTK : ∀ w', Ext wr w' → Rd kLink w' (.slice (some ⟨bx, ox, none⟩) k lc) (a.take k) := fun w' hE => Rd.take (HL.out.ext (HX.out.trans hE)) k lc (by omega) (by omega)
      have hlk : (a.take k).length = k := by rw [List.length_take]; omega
      have HF1 : Hid (∀ w', Ext wr w' → Calls Try.prog 41 #[.slice (some ⟨bx, ox, none⟩) k lc, .int .i64 u, .int .i64 v] w' fun ed w'' => ed = .returned (.tuple #[.int .i64 p1, .bool q1]) ∧ Ext wr w'') := Lib.hid fun w' hE => by
        have h := rlast15_any (a.take k) (some ⟨bx, ox, none⟩) lc u v w' (by rw [hlk]; exact hTK w' hE)
        rw [hlk, hp1] at h
        exact h.mono fun ed w'' hh => ⟨hh.1, hh.2 ▸ hE⟩
      have HF2 : Hid (∀ w', Ext wr w' → Calls Try.prog 41 #[.slice (some ⟨bx, ox, none⟩) a.length lc, .int .i64 u, .int .i64 v] w' fun ed w'' => ed = .returned (.tuple #[.int .i64 p2, .bool q2]) ∧ Ext wr w'') := Lib.hid fun w' hE => by
        have h := rlast15_any a (some ⟨bx, ox, none⟩) lc u v w' (HL.out.ext (HX.out.trans hE))
        rw [hp2] at h
        exact h.mono fun ed w'' hh => ⟨hh.1, hh.2 ▸ hE⟩
      have HF3 : Hid (∀ w', Ext wr w' → Calls Try.prog 41 #[.slice M b.length mc, .int .i64 u, .int .i64 v] w' fun ed w'' => ed = .returned (.tuple #[.int .i64 p3, .bool q3]) ∧ Ext wr w'') := Lib.hid fun w' hE => by
        have h := rlast15_any b M mc u v w' (HM.out.ext (HX.out.trans hE))
        rw [hp3] at h
        exact h.mono fun ed w'' hh => ⟨hh.1, hh.2 ▸ hE⟩
      have KS : Hid (∀ w', Ext wr w' → w'.cell? ⟨bx, ox + k * 3, none⟩ = some (.int .i64 u) ∧ w'.cell? ⟨bx, ox + k * 3 + 1, none⟩ = some (.int .i64 v)) := Lib.hid fun w' hE => ⟨hE.cell x0, hE.cell x1⟩
      obtain ⟨N, hN⟩ : ∃ N, chF (condA a b) k = N := ⟨_, rfl⟩
      rw [hN] at hcs hcl ⊢
      rw [hcd] at hcs
      have HCS := Lib.hid hcs
      have hnw : IntKind.i64.wrap ((N : Int) + 1) = (N : Int) + 1 := IntWalk.i64_in _ (by omega)
      have lbx : bx < wr.heap.size := World.block_lt_of_cell? _ _ x0
      have hd1 : decide ((lc : Int) < k) = false := decide_eq_false (by omega)
      clear hcx x0 x1 x2 hx hp1 hp2 hp3 hTK hlk hcd hN hcs hcl
      go_wp2_with fail
      refine wp_region_class (Ext wr) (by kernel_rfl) (by kernel_rfl) (Ext.refl _).drew ?_
      try simp only [List.append_eq, List.cons_append, List.nil_append]
      repeat (first
        | go_big_quiet_skip
        | (go_big_quiet_want
           first
           | (go_big_quiet_op; go_big_quiet_on)
           | (unfold Oper.quiet
              apply Exists.intro
              refine ⟨fun w' hC => ?_, ?_⟩
              · (obtain ⟨k1, k2⟩ := KS.out w' hC
                 unfold Oper.quietAt
                 go_simp
                 first
                 | exact rfl
                 | (with_reducible exact HF1.out w' hC))
              go_simp
              go_big_quiet_on)
           | (go_big_quiet_op
              apply Exists.intro
              refine ⟨fun w' hC => ?_, ?_⟩
              · exact HF1.out w' hC
              go_big_quiet_on)))
      refine wpQuiet_nil ?_
      intro w21 hC1
      go_wp2_with fail
      refine wp_region_class (Ext wr) (by kernel_rfl) (by kernel_rfl) hC1.drew ?_
      try simp only [List.append_eq, List.cons_append, List.nil_append]
      repeat (first
        | go_big_quiet_skip
        | (go_big_quiet_want
           first
           | (go_big_quiet_op; go_big_quiet_on)
           | (unfold Oper.quiet
              apply Exists.intro
              refine ⟨fun w' hC => ?_, ?_⟩
              · (obtain ⟨k1, k2⟩ := KS.out w' hC
                 unfold Oper.quietAt
                 go_simp
                 first
                 | exact rfl
                 | (with_reducible exact HF2.out w' hC))
              go_simp
              go_big_quiet_on)
           | (go_big_quiet_op
              apply Exists.intro
              refine ⟨fun w' hC => ?_, ?_⟩
              · exact HF2.out w' hC
              go_big_quiet_on)))
      refine wpQuiet_nil ?_
      intro w22 hC2
      go_wp2_with fail
      refine wp_region_class (Ext wr) (by kernel_rfl) (by kernel_rfl) hC2.drew ?_
      try simp only [List.append_eq, List.cons_append, List.nil_append]
      repeat (first
        | go_big_quiet_skip
        | (go_big_quiet_want
           first
           | (go_big_quiet_op; go_big_quiet_on)
           | (unfold Oper.quiet
              apply Exists.intro
              refine ⟨fun w' hC => ?_, ?_⟩
              · (obtain ⟨k1, k2⟩ := KS.out w' hC
                 unfold Oper.quietAt
                 go_simp
                 first
                 | exact rfl
                 | (with_reducible exact HF3.out w' hC))
              go_simp
              go_big_quiet_on)
           | (go_big_quiet_op
              apply Exists.intro
              refine ⟨fun w' hC => ?_, ?_⟩
              · exact HF3.out w' hC
              go_big_quiet_on)))
      refine wpQuiet_nil ?_
      intro w23 hC3
      clear hC1 hC2
      by_cases hpp : p2 = p3
      · have e1 : (p2 != p3) = false := by rw [bne_eq_false_iff_eq]; exact hpp
        rw [e1] at HCS
        clear hpp
        cases q1 <;> cases q3
        all_goals go_wp2_with fail
        all_goals go_roundw
        all_goals first
          | exact ⟨k + 1, by omega, by go_num, by rw [HCS.out]; simp, HX.out.trans hC3⟩
          | (simp [intOf]; omega)
          | fail
      · have e1 : (p2 != p3) = true := by rw [bne_iff_ne]; exact hpp
        rw [e1] at HCS
        clear hpp
        cases q1 <;> cases q3
        all_goals go_wp2_with fail
        all_goals go_roundw
        all_goals first
          | exact ⟨k + 1, by omega, by go_num, by rw [HCS.out]; simp, HX.out.trans hC3⟩
          | (simp [intOf]; omega)
          | fail
    · obtain rfl : k = a.length := by omega
      obtain ⟨NA, hNA⟩ : ∃ N, chF (condA a b) a.length = N := ⟨_, rfl⟩
      rw [hNA] at HC hcl ⊢
      generalize wr = wq at *
      have hna' : (NA : Int) ≤ 100000 := by omega
      clear hNA hcl hk hlt hk0
      go_wp2_with fail
      go_loopw [5, 13] (fun n i wr => ∃ k : Nat, k ≤ b.length ∧ i = .int .i64 k ∧ n = .int .i64 ((NA + chF (condB a b) k : Nat) : Int) ∧ Ext wq wr) (fun _ i _ => b.length - (intOf i).toNat)
      case atStart => exact ⟨0, Nat.zero_le _, rfl, rfl, Ext.refl _⟩
      case round =>
        obtain ⟨k, hk, rfl, rfl, hX⟩ := hrel
        have HY := Lib.hid (HX.out.trans hX)
        have HZ := Lib.hid hX
        have hk0 : (0 : Int) ≤ k := by omega
        have hcl := chF_le (condB a b) k
        clear hX
        by_cases hlt : k < b.length
        · have hlt' : (k : Int) < b.length := by omega
          have hkc : (k : Int) ≤ mc := by omega
          have hcs : chF (condB a b) (k + 1) = chF (condB a b) k + (if condB a b k = true then 1 else 0) := rfl
          obtain ⟨bx, ox, rfl, hcx⟩ := Rd.links (HM.out.ext HY.out) (by omega)
          obtain ⟨x0, x1, x2⟩ := hcx k hlt
          have hcd : condB a b k = (!(lastP (b.take k) (b.getD k lk0).1 (b.getD k lk0).2.1).2 && !(lastP a (b.getD k lk0).1 (b.getD k lk0).2.1).2) := rfl
          obtain ⟨⟨u, v, z⟩, hx⟩ : ∃ x, b.getD k lk0 = x := ⟨_, rfl⟩
          rw [hx] at x0 x1 x2 hcd
          simp only at x0 x1 x2 hcd
          obtain ⟨⟨p1, q1⟩, hp1⟩ : ∃ r, lastP (b.take k) u v = r := ⟨_, rfl⟩
          obtain ⟨⟨p2, q2⟩, hp2⟩ : ∃ r, lastP a u v = r := ⟨_, rfl⟩
          rw [hp1, hp2] at hcd
          simp only at hcd
          have hTK : ∀ w', Ext wr w' → Rd kLink w' (.slice (some ⟨bx, ox, none⟩) k mc) (b.take k) := fun w' hE => Rd.take (HM.out.ext (HY.out.trans hE)) k mc (by omega) (by omega)
          have hlk : (b.take k).length = k := by rw [List.length_take]; omega
          have HF1 : Hid (∀ w', Ext wr w' → Calls Try.prog 41 #[.slice (some ⟨bx, ox, none⟩) k mc, .int .i64 u, .int .i64 v] w' fun ed w'' => ed = .returned (.tuple #[.int .i64 p1, .bool q1]) ∧ Ext wr w'') := Lib.hid fun w' hE => by
            have h := rlast15_any (b.take k) (some ⟨bx, ox, none⟩) mc u v w' (by rw [hlk]; exact hTK w' hE)
            rw [hlk, hp1] at h
            exact h.mono fun ed w'' hh => ⟨hh.1, hh.2 ▸ hE⟩
          have HF2 : Hid (∀ w', Ext wr w' → Calls Try.prog 41 #[.slice L a.length lc, .int .i64 u, .int .i64 v] w' fun ed w'' => ed = .returned (.tuple #[.int .i64 p2, .bool q2]) ∧ Ext wr w'') := Lib.hid fun w' hE => by
            have h := rlast15_any a L lc u v w' (HL.out.ext (HY.out.trans hE))
            rw [hp2] at h
            exact h.mono fun ed w'' hh => ⟨hh.1, hh.2 ▸ hE⟩
          have KS : Hid (∀ w', Ext wr w' → w'.cell? ⟨bx, ox + k * 3, none⟩ = some (.int .i64 u) ∧ w'.cell? ⟨bx, ox + k * 3 + 1, none⟩ = some (.int .i64 v)) := Lib.hid fun w' hE => ⟨hE.cell x0, hE.cell x1⟩
          obtain ⟨N, hN⟩ : ∃ N, NA + chF (condB a b) k = N := ⟨_, rfl⟩
          rw [hcd] at hcs
          have HCS : Hid (NA + chF (condB a b) (k + 1) = N + (if (!q1 && !q2) = true then 1 else 0)) := Lib.hid (by rw [hcs]; omega)
          rw [hN]
          have hnl : (N : Int) ≤ 200000 := by omega
          have hnw : IntKind.i64.wrap ((N : Int) + 1) = (N : Int) + 1 := IntWalk.i64_in _ (by omega)
          have lbx : bx < wr.heap.size := World.block_lt_of_cell? _ _ x0
          have hd1 : decide ((mc : Int) < k) = false := decide_eq_false (by omega)
          clear hcx x0 x1 x2 hx hp1 hp2 hTK hlk hcd hN hcs hcl
          go_wp2_with fail
          refine wp_region_class (Ext wr) (by kernel_rfl) (by kernel_rfl) (Ext.refl _).drew ?_
          try simp only [List.append_eq, List.cons_append, List.nil_append]
          repeat (first
            | go_big_quiet_skip
            | (go_big_quiet_want
               first
               | (go_big_quiet_op; go_big_quiet_on)
               | (unfold Oper.quiet
                  apply Exists.intro
                  refine ⟨fun w' hC => ?_, ?_⟩
                  · (obtain ⟨k1, k2⟩ := KS.out w' hC
                     unfold Oper.quietAt
                     go_simp
                     first
                     | exact rfl
                     | (with_reducible exact HF1.out w' hC))
                  go_simp
                  go_big_quiet_on)
               | (go_big_quiet_op
                  apply Exists.intro
                  refine ⟨fun w' hC => ?_, ?_⟩
                  · exact HF1.out w' hC
                  go_big_quiet_on)))
          refine wpQuiet_nil ?_
          intro w21 hC1
          go_wp2_with fail
          refine wp_region_class (Ext wr) (by kernel_rfl) (by kernel_rfl) hC1.drew ?_
          try simp only [List.append_eq, List.cons_append, List.nil_append]
          repeat (first
            | go_big_quiet_skip
            | (go_big_quiet_want
               first
               | (go_big_quiet_op; go_big_quiet_on)
               | (unfold Oper.quiet
                  apply Exists.intro
                  refine ⟨fun w' hC => ?_, ?_⟩
                  · (obtain ⟨k1, k2⟩ := KS.out w' hC
                     unfold Oper.quietAt
                     go_simp
                     first
                     | exact rfl
                     | (with_reducible exact HF2.out w' hC))
                  go_simp
                  go_big_quiet_on)
               | (go_big_quiet_op
                  apply Exists.intro
                  refine ⟨fun w' hC => ?_, ?_⟩
                  · exact HF2.out w' hC
                  go_big_quiet_on)))
          refine wpQuiet_nil ?_
          intro w22 hC2
          clear hC1
          cases q1 <;> cases q2
          all_goals go_wp2_with fail
          all_goals go_roundw
          all_goals first
            | exact ⟨k + 1, by omega, by go_num, by rw [HCS.out]; simp, HZ.out.trans hC2⟩
            | (simp [intOf]; omega)
            | fail
        · obtain rfl : k = b.length := by omega
          go_wp2_with fail
          go_ret
          exact ⟨ret_int (by rw [HC.out]), HY.out⟩
set_option maxHeartbeats 6400000 in
set_option maxRecDepth 100000 in
theorem rsame15_any (l r : List Lk) (L R : Option Addr) (lc rc : Nat) (w : World) (hL : Rd kLink w (.slice L l.length lc) l) (hR : Rd kLink w (.slice R r.length rc) r) :
    Calls Try.prog 18 #[.slice L l.length lc, .slice R r.length rc] w fun ed w' => ed = .returned (.bool (decide (l = r))) ∧ Ext w w' := by
  have hm := hL.len
  have HL := Lib.hid hL
  have HR := Lib.hid hR
  clear hL hR
  go_enter Try.func18, Try.ntmps18
  by_cases hlr : l.length = r.length
  · have hne : ((l.length : Int) != (l.length : Int)) = false := by simp
    have HLR := Lib.hid hlr
    rw [← hlr] at HR ⊢
    clear hlr
    go_wp2_with fail
    go_loopw [5] (fun i wr => ∃ k : Nat, k ≤ l.length ∧ i = .int .i64 k ∧ (∀ j, j < k → l.getD j lk0 = r.getD j lk0) ∧ Ext w wr) (fun i _ => l.length - (intOf i).toNat)
    case atStart => exact ⟨0, Nat.zero_le _, rfl, by simp, Ext.refl _⟩
    case round =>
      obtain ⟨k, hk, rfl, hno, hX⟩ := hrel
      have HX := Lib.hid hX
      have HNO := Lib.hid hno
      have hk0 : (0 : Int) ≤ k := by omega
      clear hX hno
      by_cases hlt : k < l.length
      · have hlt' : (k : Int) < l.length := by omega
        obtain ⟨bx, ox, rfl, hcx⟩ := Rd.links (HL.out.ext HX.out) (by omega)
        obtain ⟨by_, oy, rfl, hcy⟩ := Rd.links (HR.out.ext HX.out) (by have := HLR.out; omega)
        obtain ⟨x0, x1, x2⟩ := hcx k hlt
        obtain ⟨y0, y1, y2⟩ := hcy k (by have := HLR.out; omega)
        obtain ⟨⟨a, b, e⟩, hab⟩ : ∃ x, l.getD k lk0 = x := ⟨_, rfl⟩
        obtain ⟨⟨c, d, f⟩, hcd⟩ : ∃ x, r.getD k lk0 = x := ⟨_, rfl⟩
        rw [hab] at x0 x1 x2
        rw [hcd] at y0 y1 y2
        simp only at x0 x1 x2 y0 y1 y2
        have HAB := Lib.hid (And.intro hab hcd)
        have KS : Hid (∀ w', Ext wr w' → w'.cell? ⟨bx, ox + k * 3, none⟩ = some (.int .i64 a) ∧ w'.cell? ⟨bx, ox + k * 3 + 1, none⟩ = some (.int .i64 b) ∧ w'.cell? ⟨bx, ox + k * 3 + 2, none⟩ = some (.int .i64 e) ∧ w'.cell? ⟨by_, oy + k * 3, none⟩ = some (.int .i64 c) ∧ w'.cell? ⟨by_, oy + k * 3 + 1, none⟩ = some (.int .i64 d) ∧ w'.cell? ⟨by_, oy + k * 3 + 2, none⟩ = some (.int .i64 f)) := Lib.hid (fun w' hE => ⟨hE.cell x0, hE.cell x1, hE.cell x2, hE.cell y0, hE.cell y1, hE.cell y2⟩)
        clear hcx hcy x0 x1 x2 y0 y1 y2 hab hcd
        by_cases hq : a = c ∧ b = d ∧ e = f
        · obtain ⟨rfl, rfl, rfl⟩ := hq
          go_wp2_with fail
          refine wp_region_class (Ext wr) (by kernel_rfl) (by kernel_rfl) (Ext.refl _).drew ?_
          try simp only [List.append_eq, List.cons_append, List.nil_append]
          repeat (first
            | go_big_quiet_skip
            | (go_big_quiet_want
               first
               | (go_big_quiet_op; go_big_quiet_on)
               | (unfold Oper.quiet
                  apply Exists.intro
                  refine ⟨fun w' hC => ?_, ?_⟩
                  · (obtain ⟨k1, k2, k3, k4, k5, k6⟩ := KS.out w' hC
                     unfold Oper.quietAt
                     go_simp
                     first
                     | exact rfl)
                  go_simp
                  go_big_quiet_on)))
          refine wpQuiet_nil ?_
          intro w9 hC9
          go_wp2_with fail
          go_roundw
          case rel => exact ⟨k + 1, by omega, by go_num, fun j hj => by
            by_cases e : j = k
            · subst e; rw [HAB.out.1, HAB.out.2]
            · exact HNO.out j (by omega), HX.out.trans hC9⟩
          case measure => simp [intOf]; omega
        · have HNE : Hid (l ≠ r) := Lib.hid fun e => hq (by
            have h1 := HAB.out.1
            rw [e, HAB.out.2] at h1
            cases h1
            exact ⟨rfl, rfl, rfl⟩)
          by_cases hac : a = c
          · subst hac
            by_cases hbd : b = d
            · subst hbd
              have hx9 : e ≠ f := fun h => hq ⟨rfl, rfl, h⟩
              have hb1 : (e == f) = false := by simp [hx9]
              have hb2 : decide (e = f) = false := decide_eq_false hx9
              have hb3 : (e != f) = true := by simp [hx9]
              clear hq
              go_wp2_with fail
              refine wp_region_class (Ext wr) (by kernel_rfl) (by kernel_rfl) (Ext.refl _).drew ?_
              try simp only [List.append_eq, List.cons_append, List.nil_append]
              repeat (first
                | go_big_quiet_skip
                | (go_big_quiet_want
                   first
                   | (go_big_quiet_op; go_big_quiet_on)
                   | (unfold Oper.quiet
                      apply Exists.intro
                      refine ⟨fun w' hC => ?_, ?_⟩
                      · (obtain ⟨k1, k2, k3, k4, k5, k6⟩ := KS.out w' hC
                         unfold Oper.quietAt
                         go_simp
                         first
                         | exact rfl)
                      go_simp
                      go_big_quiet_on)))
              refine wpQuiet_nil ?_
              intro w9 hC9
              go_wp2_with fail
              go_ret
              exact ⟨ret_bool (by rw [decide_eq_false HNE.out]), HX.out.trans hC9⟩
            · have hx9 := hbd
              have hb1 : (b == d) = false := by simp [hx9]
              have hb2 : decide (b = d) = false := decide_eq_false hx9
              have hb3 : (b != d) = true := by simp [hx9]
              clear hq
              go_wp2_with fail
              refine wp_region_class (Ext wr) (by kernel_rfl) (by kernel_rfl) (Ext.refl _).drew ?_
              try simp only [List.append_eq, List.cons_append, List.nil_append]
              repeat (first
                | go_big_quiet_skip
                | (go_big_quiet_want
                   first
                   | (go_big_quiet_op; go_big_quiet_on)
                   | (unfold Oper.quiet
                      apply Exists.intro
                      refine ⟨fun w' hC => ?_, ?_⟩
                      · (obtain ⟨k1, k2, k3, k4, k5, k6⟩ := KS.out w' hC
                         unfold Oper.quietAt
                         go_simp
                         first
                         | exact rfl)
                      go_simp
                      go_big_quiet_on)))
              refine wpQuiet_nil ?_
              intro w9 hC9
              go_wp2_with fail
              go_ret
              exact ⟨ret_bool (by rw [decide_eq_false HNE.out]), HX.out.trans hC9⟩
          · have hx9 := hac
            have hb1 : (a == c) = false := by simp [hx9]
            have hb2 : decide (a = c) = false := decide_eq_false hx9
            have hb3 : (a != c) = true := by simp [hx9]
            clear hq
            go_wp2_with fail
            refine wp_region_class (Ext wr) (by kernel_rfl) (by kernel_rfl) (Ext.refl _).drew ?_
            try simp only [List.append_eq, List.cons_append, List.nil_append]
            repeat (first
              | go_big_quiet_skip
              | (go_big_quiet_want
                 first
                 | (go_big_quiet_op; go_big_quiet_on)
                 | (unfold Oper.quiet
                    apply Exists.intro
                    refine ⟨fun w' hC => ?_, ?_⟩
                    · (obtain ⟨k1, k2, k3, k4, k5, k6⟩ := KS.out w' hC
                       unfold Oper.quietAt
                       go_simp
                       first
                       | exact rfl)
                    go_simp
                    go_big_quiet_on)))
            refine wpQuiet_nil ?_
            intro w9 hC9
            go_wp2_with fail
            go_ret
            exact ⟨ret_bool (by rw [decide_eq_false HNE.out]), HX.out.trans hC9⟩
      · obtain rfl : k = l.length := by omega
        have heq : l = r := by
          apply List.ext_getElem?
          intro i
          by_cases hi : i < l.length
          · have h9 := HNO.out i hi
            rw [List.getD_eq_getElem?_getD, List.getD_eq_getElem?_getD, List.getElem?_eq_getElem hi, List.getElem?_eq_getElem (by rw [← HLR.out]; exact hi)] at h9
            rw [List.getElem?_eq_getElem hi, List.getElem?_eq_getElem (by rw [← HLR.out]; exact hi)]
            exact congrArg some h9
          · rw [List.getElem?_eq_none (by omega), List.getElem?_eq_none (by rw [← HLR.out]; omega)]
        have HEQ := Lib.hid heq
        clear heq
        go_wp2_with fail
        go_ret
        exact ⟨ret_bool (by rw [decide_eq_true HEQ.out]), HX.out⟩
  · have hne : ((l.length : Int) != (r.length : Int)) = true := by simp; omega
    have HN : Hid (l ≠ r) := Lib.hid (fun e => hlr (by rw [e]))
    clear hlr
    go_wp2_with fail
    go_ret
    exact ⟨ret_bool (by rw [decide_eq_false HN.out]), Ext.refl _⟩
set_option maxHeartbeats 6400000 in
set_option maxRecDepth 100000 in
theorem rheight15_any (t : Tw) (x : Int) (A B N : Option Addr) (c d e : Nat) (w : World) (h : TwR w t A B N c d e) :
    Calls Try.prog 22 #[towV A t.tokens.length c B t.heights.length d N t.next.length e, .int .i64 x] w fun ed w' => ed = .returned (.int .i64 (heightP t x)) ∧ Ext w w' := by
  have HT := Lib.hid h
  have HH : Hid (heightP t x = if rightTw t = true ∧ x ∈ t.tokens then t.heights.getD (t.tokens.idxOf x) 0 else 0) := Lib.hid rfl
  have HRF := Lib.hid (fun h => right_facts (t := t) h)
  have HX0 : Hid (Ext w (w.alloc (.cells #[.slice A t.tokens.length c, .slice B t.heights.length d, .slice N t.next.length e] 25))) := Lib.hid ((Ext.refl w).alloc _)
  clear h
  go_enter Try.func22, Try.ntmps22
  go_wp2_with fail
  refine (rplace_any t.tokens A c x _ (HT.out.tok.ext HX0.out)).mono ?_
  rintro ed w0 ⟨rfl, rfl⟩
  have hpl : placeP t.tokens x = if x ∈ t.tokens then ((t.tokens.idxOf x : Nat) : Int) else -1 := rfl
  obtain ⟨p, hp⟩ : ∃ p, placeP t.tokens x = p := ⟨_, rfl⟩
  rw [hp] at hpl ⊢
  have HPL := Lib.hid hpl
  clear hp hpl
  go_wp2_with fail
  refine (rright14_any t A B N c d e _ (HT.out.ext HX0.out)).mono ?_
  rintro ed w1 ⟨rfl, hE1⟩
  have p0 : w1.cell? ⟨w.heap.size, 0, none⟩ = some (.slice A t.tokens.length c) := Ext.cell hE1 (by go_simp)
  have p1 : w1.cell? ⟨w.heap.size, 1, none⟩ = some (.slice B t.heights.length d) := Ext.cell hE1 (by go_simp)
  have p2 : w1.cell? ⟨w.heap.size, 2, none⟩ = some (.slice N t.next.length e) := Ext.cell hE1 (by go_simp)
  have pf : ∀ o, w1.frozen? ⟨w.heap.size, o, none⟩ = false := fun o => (Below.frozen hE1 (p := ⟨w.heap.size, o, none⟩) (by first | omega | (simp; omega) | simp)).trans (by go_simp)
  have lz1 := hE1.size
  simp at lz1
  have n1 : w.heap.size < w1.heap.size := by omega
  have HX1 := Lib.hid (HX0.out.trans hE1)
  clear hE1 lz1 HX0
  cases hr : rightTw t with
  | false =>
    have HR : Hid (heightP t x = 0) := Lib.hid (by rw [HH.out, hr]; simp)
    clear hr HH
    go_wp2_with fail
    go_ret
    exact ⟨ret_int (by rw [HR.out]), HX1.out⟩
  | true =>
    by_cases hx : x ∈ t.tokens
    · obtain ⟨g1, g2, g3, _, _⟩ := HRF.out hr
      rw [if_pos hx] at HPL
      have hil := List.idxOf_lt_length_of_mem hx
      obtain ⟨i, hi⟩ : ∃ i, t.tokens.idxOf x = i := ⟨_, rfl⟩
      rw [hi] at HPL hil
      have hpi : p = (i : Int) := HPL.out
      subst hpi
      have HR : Hid (heightP t x = t.heights.getD i 0) := Lib.hid (by rw [HH.out, if_pos ⟨hr, hx⟩, hi])
      obtain ⟨bl, ol, hbl, hcl⟩ := (ints_of_rd (HT.out.hts.ext HX1.out)).cells (by omega)
      subst hbl
      have z0 := hcl i (by omega)
      obtain ⟨v, hv⟩ : ∃ v, t.heights.getD i 0 = v := ⟨_, rfl⟩
      rw [hv] at z0 HR
      have hi0 : (0 : Int) ≤ i := by omega
      have hi1 : (i : Int) < t.heights.length := by omega
      have hd : decide ((i : Int) < 0) = false := decide_eq_false (by omega)
      have lbl : bl < w1.heap.size := World.block_lt_of_cell? _ _ z0
      clear hr hx HH HPL HRF hil hi hcl hv g1 g2 g3
      go_wp2_with fail
      go_ret
      exact ⟨ret_int (by rw [HR.out]), HX1.out⟩
    · rw [if_neg hx] at HPL
      have hpi : p = -1 := HPL.out
      subst hpi
      have HR : Hid (heightP t x = 0) := Lib.hid (by rw [HH.out, if_neg (fun h => hx h.2)])
      clear hr hx HH HPL HRF
      go_wp2_with fail
      go_ret
      exact ⟨ret_int (by rw [HR.out]), HX1.out⟩
end Go.Proofs.Ytllpfegnpakadaa

/- The document's built, Join, From, Cut of towers (ref15). Written by wip/mk_t15.py. -/
namespace Go.Proofs.Ytllpfegnpakadaa
open Go.BigFrame
open Go.RowKit Go.Proofs.Ytllpfegnpakadaa.Plain

/-- a tower in memory of one's own -/
structure TwO (B0 : Nat) (w : World) (t : Tw) (A B N : Option Addr) (c d e : Nat) : Prop where
  tok : Ow kInt B0 w (.slice A t.tokens.length c) t.tokens
  hts : Ow kInt B0 w (.slice B t.heights.length d) t.heights
  nxt : Oww B0 w (.slice N t.next.length e) t.next
theorem TwO.ext {B0 : Nat} {w W : World} {t : Tw} {A B N : Option Addr} {c d e : Nat} (h : TwO B0 w t A B N c d e) (hE : Ext w W) : TwO B0 W t A B N c d e := ⟨h.tok.ext hE, h.hts.ext hE, h.nxt.ext hE⟩
theorem TwO.set {B0 : Nat} {w : World} {t : Tw} {A B N : Option Addr} {c d e : Nat} (h : TwO B0 w t A B N c d e) {p : Addr} (hp : p.block < B0) (u : Value) : TwO B0 (w.setCell p u) t A B N c d e := ⟨h.tok.setBelow hp u, h.hts.setBelow hp u, h.nxt.setBelow hp u⟩
theorem TwO.r {B0 : Nat} {w : World} {t : Tw} {A B N : Option Addr} {c d e : Nat} (h : TwO B0 w t A B N c d e) : TwR w t A B N c d e := ⟨h.tok.rd, h.hts.rd, h.nxt.rdd⟩
theorem TwO.mono {B0 B1 : Nat} {w : World} {t : Tw} {A B N : Option Addr} {c d e : Nat} (h : TwO B0 w t A B N c d e) (hB : B1 ≤ B0) : TwO B1 w t A B N c d e := ⟨h.tok.mono hB, h.hts.mono hB, h.nxt.mono hB⟩
theorem TwO.no (w : World) (B : Nat) : TwO B w noTw none none none 0 0 0 := ⟨Ow.nil _ _, Ow.nil _ _, Oww.nil _ _⟩
/-- a tower, and whether it is one -/
def TbSaid (r : Tw × Bool) (w : World) (ed : Ending) (w' : World) : Prop :=
  ∃ (A B N : Option Addr) (c d e : Nat), ed = .returned (.tuple #[towV A r.1.tokens.length c B r.1.heights.length d N r.1.next.length e, .bool r.2]) ∧ TwO w.heap.size w' r.1 A B N c d e ∧ Ext w w'
theorem TwR.no (w : World) : TwR w noTw none none none 0 0 0 := ⟨Rd.nil _ _ _, Rd.nil _ _ _, Rdd.nil _ _ _⟩
theorem Plain.height_in {t : Tw} (x : Int) : 0 ≤ heightP t x ∧ heightP t x ≤ 8 := by
  unfold heightP
  split
  · rename_i h
    obtain ⟨g1, g2, g3, g4, _⟩ := right_facts h.1
    have := g4 (t.tokens.idxOf x) (by rw [g2]; exact List.idxOf_lt_length_of_mem h.2)
    omega
  · omega
set_option maxHeartbeats 12800000 in
set_option maxRecDepth 100000 in
theorem rbuilt15_any (l : List Int) (L : Option Addr) (lc : Nat) (a b : Tw) (A B N A' B' N' : Option Addr) (c d e c' d' e' : Nat) (w : World) (hL : Rd kInt w (.slice L l.length lc) l) (ha : TwR w a A B N c d e) (hb : TwR w b A' B' N' c' d' e') (hl : l.length ≤ 2000) :
    Calls Try.prog 32 #[.slice L l.length lc, towV A a.tokens.length c B a.heights.length d N a.next.length e, towV A' b.tokens.length c' B' b.heights.length d' N' b.next.length e'] w (TbSaid ((builtP l a b).1, decide ((builtP l a b).2 = 0)) w) := by
  have HL := Lib.hid hL
  have HA := Lib.hid ha
  have HB := Lib.hid hb
  have hl' : (l.length : Int) ≤ 2000 := by omega
  clear hL ha hb
  obtain ⟨an, han⟩ : ∃ k, a.tokens.length = k := ⟨_, rfl⟩
  obtain ⟨ah, hah⟩ : ∃ k, a.heights.length = k := ⟨_, rfl⟩
  obtain ⟨ak, hak⟩ : ∃ k, a.next.length = k := ⟨_, rfl⟩
  obtain ⟨bn, hbn⟩ : ∃ k, b.tokens.length = k := ⟨_, rfl⟩
  obtain ⟨bh, hbh⟩ : ∃ k, b.heights.length = k := ⟨_, rfl⟩
  obtain ⟨bk, hbk⟩ : ∃ k, b.next.length = k := ⟨_, rfl⟩
  obtain ⟨W0, hW0⟩ : ∃ W0, ((w.alloc (.cells #[.slice A an c, .slice B ah d, .slice N ak e] 25)).alloc (.cells #[.slice A' bn c', .slice B' bh d', .slice N' bk e'] 25)).alloc (.cells #[.slice none 0 0, .slice none 0 0, .slice none 0 0] 25) = W0 := ⟨_, rfl⟩
  have HX0 : Hid (Ext w W0) := Lib.hid (by rw [← hW0]; exact (((Ext.refl w).alloc _).alloc _).alloc _)
  have CA : Hid (∀ (w' : World), Ext W0 w' → ∀ x : Int, Calls Try.prog 22 #[towV A an c B ah d N ak e, .int .i64 x] w' fun ed w'' => ed = .returned (.int .i64 (heightP a x)) ∧ Ext w' w'') := Lib.hid fun w' hE x => by
    have h := rheight15_any a x A B N c d e w' (HA.out.ext (HX0.out.trans hE))
    rw [han, hah, hak] at h
    exact h
  have CB : Hid (∀ (w' : World), Ext W0 w' → ∀ x : Int, Calls Try.prog 22 #[towV A' bn c' B' bh d' N' bk e', .int .i64 x] w' fun ed w'' => ed = .returned (.int .i64 (heightP b x)) ∧ Ext w' w'') := Lib.hid fun w' hE x => by
    have h := rheight15_any b x A' B' N' c' d' e' w' (HB.out.ext (HX0.out.trans hE))
    rw [hbn, hbh, hbk] at h
    exact h
  have HBD : Hid (builtP l a b = buildP l (l.map (fun x => max (heightP a x) (heightP b x)))) := Lib.hid rfl
  have HHB : Hid (∀ x, 0 ≤ max (heightP a x) (heightP b x) ∧ max (heightP a x) (heightP b x) ≤ 8) := Lib.hid fun x => by
    have h1 := height_in (t := a) x
    have h2 := height_in (t := b) x
    omega
  rw [han, hah, hak, hbn, hbh, hbk]
  have KC : Hid (∀ w', Ext W0 w' → w'.cell? ⟨w.heap.size, 0, none⟩ = some (.slice A an c) ∧ w'.cell? ⟨w.heap.size, 1, none⟩ = some (.slice B ah d) ∧ w'.cell? ⟨w.heap.size, 2, none⟩ = some (.slice N ak e) ∧ w'.cell? ⟨w.heap.size + 1, 0, none⟩ = some (.slice A' bn c') ∧ w'.cell? ⟨w.heap.size + 1, 1, none⟩ = some (.slice B' bh d') ∧ w'.cell? ⟨w.heap.size + 1, 2, none⟩ = some (.slice N' bk e')) := Lib.hid fun w' hE => ⟨hE.cell (by subst hW0; go_simp), hE.cell (by subst hW0; go_simp), hE.cell (by subst hW0; go_simp), hE.cell (by subst hW0; go_simp), hE.cell (by subst hW0; go_simp), hE.cell (by subst hW0; go_simp)⟩
  have hz0 : W0.heap.size = w.heap.size + 3 := by subst hW0; simp
  have KR0 : Hid (W0.cell? ⟨w.heap.size + 2, 0, none⟩ = some (.slice none 0 0) ∧ W0.cell? ⟨w.heap.size + 2, 1, none⟩ = some (.slice none 0 0) ∧ W0.cell? ⟨w.heap.size + 2, 2, none⟩ = some (.slice none 0 0) ∧ ∀ o, W0.frozen? ⟨w.heap.size + 2, o, none⟩ = false) := Lib.hid ⟨by subst hW0; go_simp, by subst hW0; go_simp, by subst hW0; go_simp, fun o => by subst hW0; go_simp⟩
  have HWZ : Hid (Ext w W0) := HX0
  go_enter Try.func32, Try.ntmps32
  clear han hah hak hbn hbh hbk HA HB
  go_wp2_with fail
  try rw [hW0]
  clear hW0
  go_loopw [8, 9] (fun v i wr => ∃ k : Nat, k ≤ l.length ∧ i = .int .i64 k ∧ Ow kInt W0.heap.size wr v ((l.take k).map (fun x => max (heightP a x) (heightP b x))) ∧ Ext W0 wr) (fun _ i _ => l.length - (intOf i).toNat)
  case atStart => exact ⟨0, Nat.zero_le _, rfl, Ow.nil _ _, Ext.refl _⟩
  case round =>
    obtain ⟨k, hk, rfl, hO, hX⟩ := hrel
    have HO := Lib.hid hO
    have HX := Lib.hid hX
    have hk0 : (0 : Int) ≤ k := by omega
    have hzx := HX.out.size
    clear hO hX
    by_cases hlt : k < l.length
    · have hlt' : (k : Int) < l.length := by omega
      obtain ⟨bl, ol, rfl, hcl⟩ := (ints_of_rd (HL.out.ext HX0.out)).cells (by omega)
      have z0 := hcl k hlt
      have hsn : (l.take (k + 1)).map (fun x => max (heightP a x) (heightP b x)) = (l.take k).map (fun x => max (heightP a x) (heightP b x)) ++ [max (heightP a (l.getD k 0)) (heightP b (l.getD k 0))] := by rw [ints_take hlt, List.map_append]; rfl
      obtain ⟨x, hx⟩ : ∃ x, l.getD k 0 = x := ⟨_, rfl⟩
      rw [hx] at z0 hsn
      have KR : Hid (∀ w', Ext W0 w' → w'.cell? ⟨w.heap.size, 0, none⟩ = some (.slice A an c) ∧ w'.cell? ⟨w.heap.size, 1, none⟩ = some (.slice B ah d) ∧ w'.cell? ⟨w.heap.size, 2, none⟩ = some (.slice N ak e) ∧ w'.cell? ⟨w.heap.size + 1, 0, none⟩ = some (.slice A' bn c') ∧ w'.cell? ⟨w.heap.size + 1, 1, none⟩ = some (.slice B' bh d') ∧ w'.cell? ⟨w.heap.size + 1, 2, none⟩ = some (.slice N' bk e') ∧ w'.cell? ⟨bl, ol + k, none⟩ = some (.int .i64 x)) := Lib.hid fun w' hE => by
        obtain ⟨q1, q2, q3, q4, q5, q6⟩ := KC.out w' hE
        exact ⟨q1, q2, q3, q4, q5, q6, hE.cell z0⟩
      have hhb := HHB.out x
      replace CA : Hid (∀ (w' : World), Ext W0 w' → Calls Try.prog 22 #[towV A an c B ah d N ak e, .int .i64 x] w' fun ed w'' => ed = .returned (.int .i64 (heightP a x)) ∧ Ext w' w'') := Lib.hid fun w' hE => CA.out w' hE x
      replace CB : Hid (∀ (w' : World), Ext W0 w' → Calls Try.prog 22 #[towV A' bn c' B' bh d' N' bk e', .int .i64 x] w' fun ed w'' => ed = .returned (.int .i64 (heightP b x)) ∧ Ext w' w'') := Lib.hid fun w' hE => CB.out w' hE x
      obtain ⟨ha, hha⟩ : ∃ ha, heightP a x = ha := ⟨_, rfl⟩
      obtain ⟨hb, hhb2⟩ : ∃ hb, heightP b x = hb := ⟨_, rfl⟩
      rw [hha, hhb2] at hsn hhb
      rw [hha] at CA
      rw [hhb2] at CB
      obtain ⟨M, hM⟩ : ∃ M, max ha hb = M := ⟨_, rfl⟩
      rw [hM] at hsn hhb
      have HMM : Hid (in64 M) := Lib.hid (by unfold in64; omega)
      have hll : ((l.take k).map (fun x => max (heightP a x) (heightP b x))).length = k := by rw [List.length_map, List.length_take]; omega
      obtain ⟨LST, hLST⟩ : ∃ LST, (l.take k).map (fun x => max (heightP a x) (heightP b x)) = LST := ⟨_, rfl⟩
      rw [hLST] at HO hsn hll
      have HSN := Lib.hid hsn
      have HLL : Hid (LST.length + [M].length ≤ 1048576) := Lib.hid (by rw [List.length_singleton]; omega)
      obtain ⟨Av, cv, hv, hcv⟩ := HO.out.slice
      have hzs := HX.out.size
      have hcell := (KR.out wr HX.out)
      have lb1 : w.heap.size < wr.heap.size := by omega
      have lb2 : w.heap.size + 1 < wr.heap.size := by omega
      have lb3 : bl < wr.heap.size := World.block_lt_of_cell? _ _ hcell.2.2.2.2.2.2
      subst hv
      clear hcl z0 hx hsn hhb hha hhb2 hll hLST hcell hcv
      rcases Int.lt_trichotomy ha hb with h9 | h9 | h9
      · obtain rfl : M = hb := by omega
        clear hM
        go_upto_region 5 with fail
        go_region_held3 (fun w' => w'.cell? ⟨w.heap.size, 0, none⟩ = some (.slice A an c) ∧ w'.cell? ⟨w.heap.size, 1, none⟩ = some (.slice B ah d) ∧ w'.cell? ⟨w.heap.size, 2, none⟩ = some (.slice N ak e) ∧ w'.cell? ⟨w.heap.size + 1, 0, none⟩ = some (.slice A' bn c') ∧ w'.cell? ⟨w.heap.size + 1, 1, none⟩ = some (.slice B' bh d') ∧ w'.cell? ⟨w.heap.size + 1, 2, none⟩ = some (.slice N' bk e') ∧ w'.cell? ⟨bl, ol + k, none⟩ = some (.int .i64 x))
        (first | exact KR.out _ hx8 | exact KR.out _ (HX.out.trans (by repeat (first | (with_reducible exact Ext.refl _) | (with_reducible assumption) | refine Ext.drew ?_ | refine Ext.drewN ?_ _ | refine Ext.alloc ?_ _))) | go_keep)
        (first
        | (go_at_call_of 22 (Value.agg #[Value.slice A an c, Value.slice B ah d, Value.slice N ak e])
           refine (CA.out _ (HX.out.trans (by repeat (first | (with_reducible exact Ext.refl _) | (with_reducible assumption) | refine Ext.drew ?_ | refine Ext.drewN ?_ _ | refine Ext.alloc ?_ _)))).mono ?_
           rintro ed w5 ⟨rfl, hw5⟩
           have xw5 : Ext wr w5 := Ext.trans (by repeat (first | (with_reducible exact Ext.refl _) | (with_reducible assumption) | refine Ext.drew ?_ | refine Ext.drewN ?_ _ | refine Ext.alloc ?_ _)) hw5
           have sw5 := Ext.size xw5)
        | (go_at_call_of 22 (Value.agg #[Value.slice A' bn c', Value.slice B' bh d', Value.slice N' bk e'])
           refine (CB.out _ (HX.out.trans (by repeat (first | (with_reducible exact Ext.refl _) | (with_reducible assumption) | refine Ext.drew ?_ | refine Ext.drewN ?_ _ | refine Ext.alloc ?_ _)))).mono ?_
           rintro ed w6 ⟨rfl, hw6⟩
           have xw6 : Ext wr w6 := Ext.trans (by repeat (first | (with_reducible exact Ext.refl _) | (with_reducible assumption) | refine Ext.drew ?_ | refine Ext.drewN ?_ _ | refine Ext.alloc ?_ _)) hw6
           have sw6 := Ext.size xw6)
        | (refine kInt.step_app (by rfl) (.tmp 18) (.tmp 32) (by rfl) (by rfl) W0.heap.size _ LST (by rfl) (Ow.ext HO.out (by repeat (first | (with_reducible exact Ext.refl _) | (with_reducible assumption) | refine Ext.drew ?_ | refine Ext.drewN ?_ _ | refine Ext.alloc ?_ _))) _ [M] (by rfl) (one_at (by first | exact heap_alloc_new _ _ | exact heap_alloc_at (by first | (simp; done) | (simp; omega) | omega)) HMM.out) HLL.out (by first | omega | (simp; done) | (simp; omega)) ?_
           intro v8 w8 hown8 hgrow8 hat8
           have hx8 : Ext W0 w8 := Ext.grown (Ext.trans HX.out (by repeat (first | (with_reducible exact Ext.refl _) | (with_reducible assumption) | refine Ext.drew ?_ | refine Ext.drewN ?_ _ | refine Ext.alloc ?_ _))) hgrow8 (fun b hb => (HO.out.lt b hb).1))
        | fail)
        all_goals
          have H8 := Lib.hid (And.intro hown8 hx8)
          clear hown8 hgrow8 hat8 hx8
          go_wp2_with fail
        all_goals go_roundw
        all_goals first
          | exact ⟨k + 1, by omega, by go_num, by rw [HSN.out]; exact H8.out.1, H8.out.2⟩
          | (simp [intOf]; omega)
          | fail
      · obtain rfl : M = hb := by omega
        obtain rfl : M = ha := by omega
        clear hM
        go_upto_region 5 with fail
        go_region_held3 (fun w' => w'.cell? ⟨w.heap.size, 0, none⟩ = some (.slice A an c) ∧ w'.cell? ⟨w.heap.size, 1, none⟩ = some (.slice B ah d) ∧ w'.cell? ⟨w.heap.size, 2, none⟩ = some (.slice N ak e) ∧ w'.cell? ⟨w.heap.size + 1, 0, none⟩ = some (.slice A' bn c') ∧ w'.cell? ⟨w.heap.size + 1, 1, none⟩ = some (.slice B' bh d') ∧ w'.cell? ⟨w.heap.size + 1, 2, none⟩ = some (.slice N' bk e') ∧ w'.cell? ⟨bl, ol + k, none⟩ = some (.int .i64 x))
        (first | exact KR.out _ hx8 | exact KR.out _ (HX.out.trans (by repeat (first | (with_reducible exact Ext.refl _) | (with_reducible assumption) | refine Ext.drew ?_ | refine Ext.drewN ?_ _ | refine Ext.alloc ?_ _))) | go_keep)
        (first
        | (go_at_call_of 22 (Value.agg #[Value.slice A an c, Value.slice B ah d, Value.slice N ak e])
           refine (CA.out _ (HX.out.trans (by repeat (first | (with_reducible exact Ext.refl _) | (with_reducible assumption) | refine Ext.drew ?_ | refine Ext.drewN ?_ _ | refine Ext.alloc ?_ _)))).mono ?_
           rintro ed w5 ⟨rfl, hw5⟩
           have xw5 : Ext wr w5 := Ext.trans (by repeat (first | (with_reducible exact Ext.refl _) | (with_reducible assumption) | refine Ext.drew ?_ | refine Ext.drewN ?_ _ | refine Ext.alloc ?_ _)) hw5
           have sw5 := Ext.size xw5)
        | (go_at_call_of 22 (Value.agg #[Value.slice A' bn c', Value.slice B' bh d', Value.slice N' bk e'])
           refine (CB.out _ (HX.out.trans (by repeat (first | (with_reducible exact Ext.refl _) | (with_reducible assumption) | refine Ext.drew ?_ | refine Ext.drewN ?_ _ | refine Ext.alloc ?_ _)))).mono ?_
           rintro ed w6 ⟨rfl, hw6⟩
           have xw6 : Ext wr w6 := Ext.trans (by repeat (first | (with_reducible exact Ext.refl _) | (with_reducible assumption) | refine Ext.drew ?_ | refine Ext.drewN ?_ _ | refine Ext.alloc ?_ _)) hw6
           have sw6 := Ext.size xw6)
        | (refine kInt.step_app (by rfl) (.tmp 18) (.tmp 32) (by rfl) (by rfl) W0.heap.size _ LST (by rfl) (Ow.ext HO.out (by repeat (first | (with_reducible exact Ext.refl _) | (with_reducible assumption) | refine Ext.drew ?_ | refine Ext.drewN ?_ _ | refine Ext.alloc ?_ _))) _ [M] (by rfl) (one_at (by first | exact heap_alloc_new _ _ | exact heap_alloc_at (by first | (simp; done) | (simp; omega) | omega)) HMM.out) HLL.out (by first | omega | (simp; done) | (simp; omega)) ?_
           intro v8 w8 hown8 hgrow8 hat8
           have hx8 : Ext W0 w8 := Ext.grown (Ext.trans HX.out (by repeat (first | (with_reducible exact Ext.refl _) | (with_reducible assumption) | refine Ext.drew ?_ | refine Ext.drewN ?_ _ | refine Ext.alloc ?_ _))) hgrow8 (fun b hb => (HO.out.lt b hb).1))
        | fail)
        all_goals
          have H8 := Lib.hid (And.intro hown8 hx8)
          clear hown8 hgrow8 hat8 hx8
          go_wp2_with fail
        all_goals go_roundw
        all_goals first
          | exact ⟨k + 1, by omega, by go_num, by rw [HSN.out]; exact H8.out.1, H8.out.2⟩
          | (simp [intOf]; omega)
          | fail
      · obtain rfl : M = ha := by omega
        have h10 : (if M < hb then hb else M) = M := if_neg (by omega)
        clear hM h9
        go_upto_region 5 with fail
        go_region_held3 (fun w' => w'.cell? ⟨w.heap.size, 0, none⟩ = some (.slice A an c) ∧ w'.cell? ⟨w.heap.size, 1, none⟩ = some (.slice B ah d) ∧ w'.cell? ⟨w.heap.size, 2, none⟩ = some (.slice N ak e) ∧ w'.cell? ⟨w.heap.size + 1, 0, none⟩ = some (.slice A' bn c') ∧ w'.cell? ⟨w.heap.size + 1, 1, none⟩ = some (.slice B' bh d') ∧ w'.cell? ⟨w.heap.size + 1, 2, none⟩ = some (.slice N' bk e') ∧ w'.cell? ⟨bl, ol + k, none⟩ = some (.int .i64 x))
        (first | exact KR.out _ hx8 | exact KR.out _ (HX.out.trans (by repeat (first | (with_reducible exact Ext.refl _) | (with_reducible assumption) | refine Ext.drew ?_ | refine Ext.drewN ?_ _ | refine Ext.alloc ?_ _))) | go_keep)
        (first
        | (go_at_call_of 22 (Value.agg #[Value.slice A an c, Value.slice B ah d, Value.slice N ak e])
           refine (CA.out _ (HX.out.trans (by repeat (first | (with_reducible exact Ext.refl _) | (with_reducible assumption) | refine Ext.drew ?_ | refine Ext.drewN ?_ _ | refine Ext.alloc ?_ _)))).mono ?_
           rintro ed w5 ⟨rfl, hw5⟩
           have xw5 : Ext wr w5 := Ext.trans (by repeat (first | (with_reducible exact Ext.refl _) | (with_reducible assumption) | refine Ext.drew ?_ | refine Ext.drewN ?_ _ | refine Ext.alloc ?_ _)) hw5
           have sw5 := Ext.size xw5)
        | (go_at_call_of 22 (Value.agg #[Value.slice A' bn c', Value.slice B' bh d', Value.slice N' bk e'])
           refine (CB.out _ (HX.out.trans (by repeat (first | (with_reducible exact Ext.refl _) | (with_reducible assumption) | refine Ext.drew ?_ | refine Ext.drewN ?_ _ | refine Ext.alloc ?_ _)))).mono ?_
           rintro ed w6 ⟨rfl, hw6⟩
           have xw6 : Ext wr w6 := Ext.trans (by repeat (first | (with_reducible exact Ext.refl _) | (with_reducible assumption) | refine Ext.drew ?_ | refine Ext.drewN ?_ _ | refine Ext.alloc ?_ _)) hw6
           have sw6 := Ext.size xw6)
        | (refine kInt.step_app (by rfl) (.tmp 18) (.tmp 32) (by rfl) (by rfl) W0.heap.size _ LST (by rfl) (Ow.ext HO.out (by repeat (first | (with_reducible exact Ext.refl _) | (with_reducible assumption) | refine Ext.drew ?_ | refine Ext.drewN ?_ _ | refine Ext.alloc ?_ _))) _ [M] (by rfl) (one_at (by first | exact heap_alloc_new _ _ | exact heap_alloc_at (by first | (simp; done) | (simp; omega) | omega)) HMM.out) HLL.out (by first | omega | (simp; done) | (simp; omega)) ?_
           intro v8 w8 hown8 hgrow8 hat8
           have hx8 : Ext W0 w8 := Ext.grown (Ext.trans HX.out (by repeat (first | (with_reducible exact Ext.refl _) | (with_reducible assumption) | refine Ext.drew ?_ | refine Ext.drewN ?_ _ | refine Ext.alloc ?_ _))) hgrow8 (fun b hb => (HO.out.lt b hb).1))
        | fail)
        all_goals
          have H8 := Lib.hid (And.intro hown8 hx8)
          clear hown8 hgrow8 hat8 hx8
          go_wp2_with fail
        all_goals go_roundw
        all_goals first
          | exact ⟨k + 1, by omega, by go_num, by rw [HSN.out]; exact H8.out.1, H8.out.2⟩
          | (simp [intOf]; omega)
          | fail
    · obtain rfl : k = l.length := by omega
      rw [List.take_length] at HO
      have hfin : (builtP l a b) = buildP l (l.map (fun x => max (heightP a x) (heightP b x))) := HBD.out
      obtain ⟨hs, hhs⟩ : ∃ hs, l.map (fun x => max (heightP a x) (heightP b x)) = hs := ⟨_, rfl⟩
      rw [hhs] at HO hfin
      obtain ⟨⟨t, er⟩, hte⟩ : ∃ r, buildP l hs = r := ⟨_, rfl⟩
      have her := build_er l hs
      rw [hte] at her hfin
      simp only at her
      have HFI := Lib.hid hfin
      obtain ⟨Av, cv, hv, hcv⟩ := HO.out.slice
      subst hv
      have HTE := Lib.hid hte
      have HOr := Lib.hid HO.out.rd
      have hzw := HX.out.size
      obtain ⟨r0, r1, r2, rf⟩ := KR0.out
      have q0 := HX.out.cell r0
      have q1 := HX.out.cell r1
      have q2 := HX.out.cell r2
      have qf : ∀ o, wr.frozen? ⟨w.heap.size + 2, o, none⟩ = false := fun o => (Below.frozen HX.out (p := ⟨w.heap.size + 2, o, none⟩) (by show w.heap.size + 2 < W0.heap.size; omega)).trans (rf o)
      have HX1 := Lib.hid (HX0.out.trans HX.out)
      have lb1 : w.heap.size + 2 < wr.heap.size := by omega
      clear hhs hte hfin HO r0 r1 r2 rf KC CA CB HHB KR0 hcv
      go_wp2_with fail
      have hh9 := rbuild14_any l hs L Av lc cv wr (HL.out.ext HX1.out) HOr.out
      rw [HTE.out] at hh9
      refine hh9.mono ?_
      clear hh9
      rintro ed w5 ⟨A5, B5, N5, c5, d5, e5, rfl, hA5, hB5, hN5, hE5⟩
      simp only at hA5 hB5 hN5 ⊢
      have HT5 : Hid (TwO wr.heap.size w5 t A5 B5 N5 c5 d5 e5) := Lib.hid ⟨hA5, hB5, hN5⟩
      replace q0 := hE5.cell q0
      replace q1 := hE5.cell q1
      replace q2 := hE5.cell q2
      have qf5 : ∀ o, w5.frozen? ⟨w.heap.size + 2, o, none⟩ = false := fun o => (Below.frozen hE5 (p := ⟨w.heap.size + 2, o, none⟩) lb1).trans (qf o)
      have lb5 : w.heap.size + 2 < w5.heap.size := by have := hE5.size; omega
      have HX5 := Lib.hid (HX1.out.trans hE5)
      have f0 := qf5 0
      have f1 := qf5 1
      have f2 := qf5 2
      have HLB : Hid (w.heap.size + 2 < wr.heap.size ∧ w.heap.size ≤ wr.heap.size) := Lib.hid ⟨lb1, by omega⟩
      clear hA5 hB5 hN5 hE5 qf lb1 qf5
      have hfinal : ∀ (bo : Bool) (W : World), (((w5.setCell ⟨w.heap.size + 1 + 1, 0, none⟩ (.slice A5 t.tokens.length c5)).setCell ⟨w.heap.size + 1 + 1, 1, none⟩ (.slice B5 t.heights.length d5)).setCell ⟨w.heap.size + 1 + 1, 2, none⟩ (.slice N5 t.next.length e5)).alloc (.cells #[.slice A5 t.tokens.length c5, .slice B5 t.heights.length d5, .slice N5 t.next.length e5] 25) = W → decide (er = 0) = bo → TbSaid ((builtP l a b).1, decide ((builtP l a b).2 = 0)) w (.returned (.tuple #[.agg #[.slice A5 t.tokens.length c5, .slice B5 t.heights.length d5, .slice N5 t.next.length e5], .bool bo])) W := by
        rintro bo W rfl hbo
        rw [HFI.out]
        refine ⟨A5, B5, N5, c5, d5, e5, by rw [hbo], ?_, ?_⟩
        · have h8 := ((HT5.out.set (p := ⟨w.heap.size + 1 + 1, 0, none⟩) HLB.out.1 (.slice A5 t.tokens.length c5)).set (p := ⟨w.heap.size + 1 + 1, 1, none⟩) HLB.out.1 (.slice B5 t.heights.length d5)).set (p := ⟨w.heap.size + 1 + 1, 2, none⟩) HLB.out.1 (.slice N5 t.next.length e5)
          exact (h8.ext ((Ext.refl _).alloc _)).mono HLB.out.2
        · exact (((HX5.out.setCell (p := ⟨w.heap.size + 1 + 1, 0, none⟩) (by show w.heap.size ≤ w.heap.size + 1 + 1; omega) _).setCell (p := ⟨w.heap.size + 1 + 1, 1, none⟩) (by show w.heap.size ≤ w.heap.size + 1 + 1; omega) _).setCell (p := ⟨w.heap.size + 1 + 1, 2, none⟩) (by show w.heap.size ≤ w.heap.size + 1 + 1; omega) _).alloc _
      have HFN := Lib.hid hfinal
      clear hfinal
      rcases her with rfl | rfl
      all_goals go_wp2_with fail
      all_goals
        obtain ⟨W, hW⟩ : ∃ W, (((w5.setCell ⟨w.heap.size + 1 + 1, 0, none⟩ (.slice A5 t.tokens.length c5)).setCell ⟨w.heap.size + 1 + 1, 1, none⟩ (.slice B5 t.heights.length d5)).setCell ⟨w.heap.size + 1 + 1, 2, none⟩ (.slice N5 t.next.length e5)).alloc (.cells #[.slice A5 t.tokens.length c5, .slice B5 t.heights.length d5, .slice N5 t.next.length e5] 25) = W := ⟨_, rfl⟩
        have s0 : W.cell? ⟨w.heap.size + 1 + 1, 0, none⟩ = some (.slice A5 t.tokens.length c5) := by subst hW; go_simp
        have s1 : W.cell? ⟨w.heap.size + 1 + 1, 1, none⟩ = some (.slice B5 t.heights.length d5) := by subst hW; go_simp
        have s2 : W.cell? ⟨w.heap.size + 1 + 1, 2, none⟩ = some (.slice N5 t.next.length e5) := by subst hW; go_simp
        have HWF := Lib.hid hW
        rw [hW]
        clear hW
      · exact bodyPost_ret (v := .tuple #[.agg #[.slice A5 t.tokens.length c5, .slice B5 t.heights.length d5, .slice N5 t.next.length e5], .bool true]) (by simp [results, Try.results32, go_sem, s0, s1, s2]) rfl (HFN.out true W HWF.out (by decide))
      · exact bodyPost_ret (v := .tuple #[.agg #[.slice A5 t.tokens.length c5, .slice B5 t.heights.length d5, .slice N5 t.next.length e5], .bool false]) (by simp [results, Try.results32, go_sem, s0, s1, s2]) rfl (HFN.out false W HWF.out (by decide))
end Go.Proofs.Ytllpfegnpakadaa

/- The library's Max and EqualFunc, tower's inBounds; ring's Right with no limit. Written by wip/tools/gen14m.py. -/
namespace Go.Proofs.Ytllpfegnpakadaa
open Go.BigFrame
open Go.RowKit Go.Proofs.Ytllpfegnpakadaa.Plain

set_option maxHeartbeats 3200000 in
set_option maxRecDepth 100000 in
theorem pbounds14_any (l : List Int) (L : Option Addr) (lc : Nat) (w : World) (hL : Rd kInt w (.slice L l.length lc) l) :
    Calls Try.prog 58 #[.slice L l.length lc] w fun ed w' => ed = .returned (.bool (l.all hOk)) ∧ w = w' := by
  have HL := Lib.hid hL
  have hm := hL.len
  have hm' : (l.length : Int) ≤ 9223372036854775807 := by omega
  clear hL hm
  go_enter Try.func58, Try.ntmps58
  go_wp2_with fail
  go_loopw [7] (fun i wr => ∃ j : Nat, j ≤ l.length ∧ i = .int .i64 j ∧ (l.take j).all hOk = true ∧ w = wr) (fun i _ => l.length - (intOf i).toNat)
  case atStart => exact ⟨0, Nat.zero_le _, rfl, rfl, rfl⟩
  case round =>
    obtain ⟨j, hj, rfl, hin, rfl⟩ := hrel
    have hj0 : (0 : Int) ≤ j := by omega
    by_cases hlt : j < l.length
    · have hlt' : (j : Int) < l.length := by omega
      obtain ⟨bl, ol, rfl, z0⟩ := int_at9 HL.out j hlt
      have htk := ints_take hlt
      have hmem := ints_mem hlt
      obtain ⟨x, hx⟩ : ∃ x, l.getD j 0 = x := ⟨_, rfl⟩
      rw [hx] at z0 htk hmem
      have hout : ¬ (1 ≤ x ∧ x ≤ 8) → l.all hOk = false := fun h => by
        rw [← Bool.not_eq_true, List.all_eq_true]
        intro h9
        have h8 := h9 x hmem
        unfold hOk at h8
        rw [Bool.and_eq_true, decide_eq_true_eq, decide_eq_true_eq] at h8
        exact h h8
      by_cases h1 : x < 1
      · have hd1 : decide (x < 1) = true := decide_eq_true h1
        have HR := Lib.hid (hout (by omega))
        clear htk hmem hout h1 hin hx
        go_wp2_with fail
        go_ret
        exact ⟨ret_bool HR.out.symm, rfl⟩
      have hd1 : decide (x < 1) = false := decide_eq_false h1
      by_cases h2 : 8 < x
      · have hd2 : decide (8 < x) = true := decide_eq_true h2
        have HR := Lib.hid (hout (by omega))
        clear htk hmem hout h1 h2 hin hx
        go_wp2_with fail
        go_ret
        exact ⟨ret_bool HR.out.symm, rfl⟩
      have hd2 : decide (8 < x) = false := decide_eq_false h2
      have HIN : Hid ((l.take (j + 1)).all hOk = true) := Lib.hid (by
        rw [htk, List.all_append, hin, Bool.true_and, List.all_cons, List.all_nil, Bool.and_true]
        unfold hOk
        rw [Bool.and_eq_true, decide_eq_true_eq, decide_eq_true_eq]; omega)
      clear htk hmem hout h1 h2 hin hx
      go_wp2_with fail
      go_roundw
      case rel => exact ⟨j + 1, by omega, by go_num, HIN.out, by first | rfl | trivial⟩
      case measure => simp [intOf]; omega
    · obtain rfl : j = l.length := by omega
      rw [List.take_length] at hin
      have HR := Lib.hid hin
      clear hin
      go_wp2_with fail
      go_ret
      exact ⟨ret_bool HR.out.symm, rfl⟩

set_option maxHeartbeats 3200000 in
set_option maxRecDepth 100000 in
theorem prightN_any (l : List Int) (L : Option Addr) (lc : Nat) (w : World) (hL : Rd kInt w (.slice L l.length lc) l) :
    Calls Try.prog 46 #[.slice L l.length lc] w fun ed w' => ed = .returned (.bool (rightL l)) ∧ Ext w w' := by
  by_cases h : l.length ≤ 2000
  · exact pright13_any l L lc w hL h
  · have HR : Hid (rightL l = false) := Lib.hid (by
      rw [← Bool.not_eq_true]
      intro h9
      have := ((rightL_iff l).1 h9).1
      omega)
    have hd : decide ((l.length : Int) ≤ 1000) = false := decide_eq_false (by omega)
    have hdN : decide (l.length ≤ 1000) = false := decide_eq_false (by omega)
    have hm := hL.len
    clear hL h
    go_enter Try.func46, Try.ntmps46
    go_wp2_with fail
    go_ret
    exact ⟨ret_bool HR.out.symm, Ext.refl _⟩
set_option maxHeartbeats 3200000 in
set_option maxRecDepth 100000 in
theorem equalN (l1 l2 : List Int) (A1 A2 : Option Addr) (c1 c2 : Nat) (w : World) (h1 : Rd kInt w (.slice A1 l1.length c1) l1) (h2 : Rd kInt w (.slice A2 l2.length c2) l2) (hl : l2.length ≤ 1048576) :
    Calls Try.prog 52 #[.slice A1 l1.length c1, .slice A2 l2.length c2] w fun ed w' => ed = .returned (.bool (decide (l1 = l2))) ∧ Ext w w' := by
  by_cases hlen : l1.length = l2.length
  · exact equalI l1 l2 A1 A2 c1 c2 w h1 h2 (by omega)
  · have hd0 : ((l1.length : Int) != (l2.length : Int)) = true := by simp; omega
    have hd0N : (l1.length != l2.length) = true := by simp [hlen]
    have HR : Hid (decide (l1 = l2) = false) := Lib.hid (decide_eq_false fun e => hlen (by rw [e]))
    clear hlen h1 h2
    go_enter Try.func52, Try.ntmps52
    go_wp2_with fail
    go_ret
    exact ⟨ret_bool HR.out.symm, Ext.refl _⟩
set_option maxHeartbeats 3200000 in
set_option maxRecDepth 100000 in
theorem equalF (D E : List (List Int)) (A A' : Option Addr) (c c' : Nat) (w : World) (h : Rdd w (.slice A D.length c) D) (h' : Rdd w (.slice A' E.length c') E) (hrow : ∀ j, j < E.length → (E.getD j []).length ≤ 1048576) :
    Calls Try.prog 51 #[.slice A D.length c, .slice A' E.length c', .func (.func 52) #[] #[]] w fun ed w' => ed = .returned (.bool (decide (D = E))) ∧ Ext w w' := by
  have HD := Lib.hid h
  have HE := Lib.hid h'
  have HW := Lib.hid hrow
  have hm := h.len
  have hm' : (D.length : Int) ≤ 9223372036854775807 := by omega
  clear h h' hm hrow
  by_cases hl : D.length = E.length
  · have e : ((D.length : Int) != (E.length : Int)) = false := by rw [bne_eq_false_iff_eq]; omega
    have HLE := Lib.hid hl
    have hlI : (E.length : Int) = D.length := by omega
    clear hl
    go_enter Try.func51, Try.ntmps51
    go_wp2_with fail
    clear hlI
    go_loopw [17] (fun i wr => ∃ k : Nat, k ≤ D.length ∧ i = .int .i64 k ∧ Ext w wr ∧ ∀ j, j < k → D.getD j [] = E.getD j []) (fun i _ => D.length - (intOf i).toNat)
    case atStart => exact ⟨0, Nat.zero_le _, rfl, Ext.refl _, fun j hj => absurd hj (Nat.not_lt_zero _)⟩
    case round =>
      obtain ⟨k, hk, rfl, hX, ha⟩ := hrel
      have HX := Lib.hid hX
      have HA := Lib.hid ha
      have hk0 : (0 : Int) ≤ k := by omega
      clear hX ha
      by_cases hlt : k < D.length
      · have hlt' : (k : Int) < D.length := by omega
        have hlt2 : (k : Int) < E.length := by have := HLE.out; omega
        obtain ⟨b, o, A1, c1, hAb, z0, r0⟩ := (HD.out.ext HX.out).row k hlt
        obtain ⟨b', o', A2, c2, hAb', z1, r1⟩ := (HE.out.ext HX.out).row k (by rw [← HLE.out]; exact hlt)
        subst hAb hAb'
        have hw := HW.out k (by rw [← HLE.out]; exact hlt)
        obtain ⟨x, hx⟩ : ∃ x, D.getD k [] = x := ⟨_, rfl⟩
        obtain ⟨y, hy⟩ : ∃ y, E.getD k [] = y := ⟨_, rfl⟩
        rw [hx] at z0 r0
        rw [hy] at z1 r1 hw
        have HXY := Lib.hid (And.intro hx hy)
        have HF1 := Lib.hid (equalN x y A1 A2 c1 c2 wr r0 r1 hw)
        have lb1 : b < wr.heap.size := World.block_lt_of_cell? _ _ z0
        have lb2 : b' < wr.heap.size := World.block_lt_of_cell? _ _ z1
        obtain ⟨q, hq⟩ : ∃ q, decide (x = y) = q := ⟨_, rfl⟩
        rw [hq] at HF1
        have HQ := Lib.hid hq
        clear r0 r1 hx hy hq hw
        cases q with
        | true =>
          go_wp2_with fail
          refine HF1.out.mono ?_
          rintro ed w1 ⟨rfl, hE1⟩
          have HE1 := Lib.hid hE1
          clear hE1
          go_wp2_with fail
          go_roundw
          case rel => exact ⟨k + 1, by omega, by go_num, HX.out.trans HE1.out, fun j hj => by
            rcases Nat.lt_or_ge j k with h1 | h1
            · exact HA.out j h1
            · obtain rfl : j = k := by omega
              rw [HXY.out.1, HXY.out.2]; exact of_decide_eq_true HQ.out⟩
          case measure => simp [intOf]; omega
        | false =>
          have HR : Hid (decide (D = E) = false) := Lib.hid (decide_eq_false (fun h9 => of_decide_eq_false HQ.out (by rw [← HXY.out.1, ← HXY.out.2, h9])))
          go_wp2_with fail
          refine HF1.out.mono ?_
          rintro ed w1 ⟨rfl, hE1⟩
          have HE1 := Lib.hid hE1
          clear hE1
          go_wp2_with fail
          go_ret
          exact ⟨ret_bool HR.out.symm, HX.out.trans HE1.out⟩
      · obtain rfl : k = D.length := by omega
        have HR : Hid (decide (D = E) = true) := Lib.hid (decide_eq_true (lists_of_all D E HLE.out HA.out))
        go_wp2_with fail
        go_ret
        exact ⟨ret_bool HR.out.symm, HX.out⟩
  · have e : ((D.length : Int) != (E.length : Int)) = true := by rw [bne_iff_ne]; omega
    have HR : Hid (decide (D = E) = false) := Lib.hid (decide_eq_false (fun h => hl (by rw [h])))
    clear hl
    go_enter Try.func51, Try.ntmps51
    go_wp2_with fail
    go_ret
    exact ⟨ret_bool HR.out.symm, Ext.refl _⟩
end Go.Proofs.Ytllpfegnpakadaa

/- Plain words: of each level the nearest place, found from the end to the beginning, twice. -/
namespace Go.Proofs.Ytllpfegnpakadaa.Plain

/-- the first place from p on that is above a level; else b -/
def firstF (hs : List Int) (p l b : Nat) : Nat := ((List.range hs.length).find? (fun q => decide (p ≤ q) && decide ((l : Int) < hs.getD q 0))).getD b
theorem first_cases (hs : List Int) (p l : Nat) :
    (∃ q, p ≤ q ∧ q < hs.length ∧ (l : Int) < hs.getD q 0 ∧ (∀ j, p ≤ j → j < q → ¬ (l : Int) < hs.getD j 0) ∧ ∀ b, firstF hs p l b = q) ∨
    ((∀ j, p ≤ j → j < hs.length → ¬ (l : Int) < hs.getD j 0) ∧ ∀ b, firstF hs p l b = b) := by
  unfold firstF
  cases h : (List.range hs.length).find? (fun q => decide (p ≤ q) && decide ((l : Int) < hs.getD q 0)) with
  | none =>
    right
    rw [List.find?_eq_none] at h
    refine ⟨fun j hj hn hc => ?_, fun b => rfl⟩
    have h1 := h j (List.mem_range.2 hn)
    rw [decide_eq_true hj, decide_eq_true hc] at h1
    exact h1 rfl
  | some q =>
    left
    rw [List.find?_range_eq_some] at h
    obtain ⟨h1, h2, h3⟩ := h
    rw [Bool.and_eq_true, decide_eq_true_eq, decide_eq_true_eq] at h1
    refine ⟨q, h1.1, List.mem_range.1 h2, h1.2, fun j hj hq hc => ?_, fun b => rfl⟩
    have h4 := h3 j hq
    rw [decide_eq_true hj, decide_eq_true hc] at h4
    exact absurd h4 (by decide)
theorem first_step (hs : List Int) (p l b : Nat) (hp : p < hs.length) : firstF hs p l b = if (l : Int) < hs.getD p 0 then p else firstF hs (p + 1) l b := by
  by_cases hc : (l : Int) < hs.getD p 0
  · rw [if_pos hc]
    rcases first_cases hs p l with ⟨q, h1, h2, h3, h4, h5⟩ | ⟨h1, h2⟩
    · rw [h5]
      rcases Nat.lt_or_ge p q with h | h
      · exact absurd hc (h4 p (Nat.le_refl _) h)
      · omega
    · exact absurd hc (h1 p (Nat.le_refl _) hp)
  · rw [if_neg hc]
    rcases first_cases hs p l with ⟨q, h1, h2, h3, h4, h5⟩ | ⟨h1, h2⟩
    · rw [h5]
      have hpq : p ≠ q := fun e => hc (by rw [e]; exact h3)
      rcases first_cases hs (p + 1) l with ⟨r, k1, k2, k3, k4, k5⟩ | ⟨k1, k2⟩
      · rw [k5]
        rcases Nat.lt_trichotomy q r with h | h | h
        · exact absurd h3 (k4 q (by omega) h)
        · exact h
        · exact absurd k3 (h4 r (by omega) h)
      · exact absurd h3 (k1 q (by omega) h2)
    · rw [h2]
      rcases first_cases hs (p + 1) l with ⟨r, k1, k2, k3, k4, k5⟩ | ⟨k1, k2⟩
      · exact absurd k3 (h1 r (by omega) k2)
      · rw [k2]
theorem first_end (hs : List Int) (l b : Nat) : firstF hs hs.length l b = b := by
  rcases first_cases hs hs.length l with ⟨q, h1, h2, _⟩ | ⟨_, h2⟩
  · omega
  · exact h2 b
theorem first_next (hs : List Int) (p l : Nat) (hp : p < hs.length) (hl : (l : Int) < hs.getD p 0) : firstF hs (p + 1) l (firstF hs 0 l 0) = nextP hs p l := by
  have key : ∀ K, 1 ≤ K → K ≤ hs.length → (∀ j, 1 ≤ j → j < K → ¬ (l : Int) < hs.getD ((p + j) % hs.length) 0) → (l : Int) < hs.getD ((p + K) % hs.length) 0 → nextP hs p l = (p + K) % hs.length := fun K h1 h2 h3 h4 => by
    unfold nextP
    rw [farK_of (above hs p l) hs.length K h1 h2 (fun j a b => decide_eq_false (h3 j a b)) (decide_eq_true h4)]
  rcases first_cases hs (p + 1) l with ⟨q, h1, h2, h3, h4, h5⟩ | ⟨h1, h2⟩
  · rw [h5, key (q - p) (by omega) (by omega) (fun j a b => ?_) (by rw [show p + (q - p) = q by omega, Nat.mod_eq_of_lt h2]; exact h3), show p + (q - p) = q by omega, Nat.mod_eq_of_lt h2]
    rw [Nat.mod_eq_of_lt (by omega)]
    exact h4 _ (by omega) (by omega)
  · rw [h2]
    rcases first_cases hs 0 l with ⟨q, k1, k2, k3, k4, k5⟩ | ⟨k1, k2⟩
    · rw [k5]
      have hqp : q ≤ p := by
        rcases Nat.lt_or_ge p q with h | h
        · exact absurd hl (k4 p (Nat.zero_le _) h)
        · exact h
      have hm : (p + (hs.length - p + q)) % hs.length = q := by rw [show p + (hs.length - p + q) = q + hs.length by omega, Nat.add_mod_right, Nat.mod_eq_of_lt k2]
      rw [key (hs.length - p + q) (by omega) (by omega) (fun j a b => ?_) (by rw [hm]; exact k3), hm]
      rcases Nat.lt_or_ge (p + j) hs.length with h | h
      · rw [Nat.mod_eq_of_lt h]; exact h1 _ (by omega) h
      · rw [show p + j = p + j - hs.length + hs.length by omega, Nat.add_mod_right, Nat.mod_eq_of_lt (by omega)]
        exact k4 _ (Nat.zero_le _) (by omega)
    · exact absurd hl (k1 p (Nat.zero_le _) hp)

/-- of each level the nearest place from p on -/
def nearL (hs : List Int) (p : Nat) (f : Nat → Nat) : List Int := (List.range 8).map (fun l => (firstF hs p l (f l) : Int))
theorem nearL_len (hs : List Int) (p : Nat) (f : Nat → Nat) : (nearL hs p f).length = 8 := by simp [nearL]
theorem nearL_at (hs : List Int) (p : Nat) (f : Nat → Nat) (l : Nat) (hl : l < 8) : (nearL hs p f).getD l 0 = (firstF hs p l (f l) : Int) := by
  unfold nearL
  rw [List.getD_eq_getElem?_getD, List.getElem?_map, List.getElem?_range hl]; rfl
theorem list_of_at (a b : List Int) (h : a.length = b.length) (ha : ∀ j, j < a.length → a.getD j 0 = b.getD j 0) : a = b := by
  apply List.ext_getElem h
  intro j h1 h2
  have := ha j h1
  rw [List.getD_eq_getElem?_getD, List.getD_eq_getElem?_getD, List.getElem?_eq_getElem h1, List.getElem?_eq_getElem h2] at this
  exact this
theorem nearL_end (hs : List Int) (f : Nat → Nat) : nearL hs hs.length f = (List.range 8).map (fun l => (f l : Int)) := by
  unfold nearL
  apply List.map_congr_left
  intro l _
  rw [first_end]
/-- so many of the lowest levels set to p -/
def midN (X : List Int) (p : Int) (j : Nat) : List Int := List.replicate j p ++ X.drop j
theorem midN_len (X : List Int) (p : Int) (j : Nat) (hj : j ≤ X.length) : (midN X p j).length = X.length := by
  unfold midN
  rw [List.length_append, List.length_replicate, List.length_drop]; omega
theorem midN_zero (X : List Int) (p : Int) : midN X p 0 = X := by simp [midN]
theorem midN_at (X : List Int) (p : Int) (j i : Nat) : (midN X p j).getD i 0 = if i < j then p else X.getD i 0 := by
  unfold midN
  by_cases h : i < j
  · rw [if_pos h, List.getD_eq_getElem?_getD, List.getElem?_append_left (by simpa using h), List.getElem?_replicate, if_pos h]; rfl
  · rw [if_neg h, List.getD_eq_getElem?_getD, List.getElem?_append_right (by simpa using Nat.le_of_not_lt h), List.length_replicate, List.getElem?_drop, show j + (i - j) = i by omega, ← List.getD_eq_getElem?_getD]
theorem midN_set (X : List Int) (p : Int) (j : Nat) (hj : j < X.length) : (midN X p j).set j p = midN X p (j + 1) := by
  apply list_of_at
  · rw [List.length_set, midN_len _ _ _ (by omega), midN_len _ _ _ (by omega)]
  intro i hi
  rw [List.length_set, midN_len _ _ _ (by omega)] at hi
  rw [midN_at]
  by_cases h : j = i
  · subst h
    rw [List.getD_eq_getElem?_getD, List.getElem?_set_self (by rw [midN_len _ _ _ (by omega)]; exact hj), if_pos (by omega)]; rfl
  · rw [List.getD_eq_getElem?_getD, List.getElem?_set_ne h, ← List.getD_eq_getElem?_getD, midN_at]
    by_cases h2 : i < j
    · rw [if_pos h2, if_pos (by omega)]
    · rw [if_neg h2, if_neg (by omega)]
theorem near_step (hs : List Int) (p : Nat) (f : Nat → Nat) (hp : p < hs.length) (h1 : 1 ≤ hs.getD p 0) (h8 : hs.getD p 0 ≤ 8) : midN (nearL hs (p + 1) f) p (hs.getD p 0).toNat = nearL hs p f := by
  apply list_of_at
  · rw [midN_len _ _ _ (by rw [nearL_len]; omega), nearL_len, nearL_len]
  intro i hi
  rw [midN_len _ _ _ (by rw [nearL_len]; omega), nearL_len] at hi
  rw [midN_at, nearL_at _ _ _ _ hi, nearL_at _ _ _ _ hi, first_step hs p i (f i) hp]
  by_cases h : i < (hs.getD p 0).toNat
  · rw [if_pos h, if_pos (by omega)]
  · rw [if_neg h, if_neg (by omega)]
theorem near_row (hs : List Int) (p : Nat) (hp : p < hs.length) (h8 : hs.getD p 0 ≤ 8) : (nearL hs (p + 1) (fun l => firstF hs 0 l 0)).take (hs.getD p 0).toNat = nextsP hs p := by
  apply list_of_at
  · rw [List.length_take, nearL_len, nextsP_len]; omega
  intro i hi
  rw [List.length_take, nearL_len] at hi
  rw [List.getD_eq_getElem?_getD, List.getElem?_take_of_lt (by omega), ← List.getD_eq_getElem?_getD, nearL_at _ _ _ _ (by omega), nextsP_at _ _ _ (by omega)]
  rw [first_next hs p i hp (by omega)]
/-- the places, from the last one down -/
def downs (n j : Nat) : List Nat := (List.range j).map (fun i => n - 1 - i)
theorem downs_len (n j : Nat) : (downs n j).length = j := by simp [downs]
theorem downs_succ (n j : Nat) : downs n (j + 1) = downs n j ++ [n - 1 - j] := by simp [downs, List.range_succ]
/-- rows and nearest places, behind a round at each of these places -/
def stF (hs : List Int) (s : List (List Int) × List Int) (pre : List Nat) : List (List Int) × List Int :=
  pre.foldl (fun s p => (s.1.set p (s.2.take (hs.getD p 0).toNat), midN s.2 p (hs.getD p 0).toNat)) s
theorem stF_snoc (hs : List Int) (s : List (List Int) × List Int) (pre : List Nat) (p : Nat) :
    stF hs s (pre ++ [p]) = ((stF hs s pre).1.set p ((stF hs s pre).2.take (hs.getD p 0).toNat), midN (stF hs s pre).2 p (hs.getD p 0).toNat) := by
  unfold stF
  rw [List.foldl_append]; rfl
theorem stF_down (hs : List Int) (D : List (List Int)) (f : Nat → Nat) (hD : D.length = hs.length) (hh : ∀ j, j < hs.length → 1 ≤ hs.getD j 0 ∧ hs.getD j 0 ≤ 8) :
    ∀ j, j ≤ hs.length → (stF hs (D, nearL hs hs.length f) (downs hs.length j)).1.length = hs.length ∧ (stF hs (D, nearL hs hs.length f) (downs hs.length j)).2 = nearL hs (hs.length - j) f ∧
      ((∀ l, f l = firstF hs 0 l 0) → ∀ q, hs.length - j ≤ q → q < hs.length → (stF hs (D, nearL hs hs.length f) (downs hs.length j)).1.getD q [] = nextsP hs q) := by
  intro j
  induction j with
  | zero => exact fun _ => ⟨hD, rfl, fun _ q h1 h2 => by omega⟩
  | succ j ih =>
    intro hj
    obtain ⟨h1, h2, h3⟩ := ih (by omega)
    have hp : hs.length - j = (hs.length - 1 - j) + 1 := by omega
    have hq : hs.length - (j + 1) = hs.length - 1 - j := by omega
    obtain ⟨a1, a2⟩ := hh (hs.length - 1 - j) (by omega)
    rw [downs_succ, stF_snoc, h2, hq]
    refine ⟨by rw [List.length_set]; exact h1, by rw [hp]; exact near_step hs _ f (by omega) a1 a2, fun hf q q1 q2 => ?_⟩
    by_cases e : hs.length - 1 - j = q
    · subst e
      rw [List.getD_eq_getElem?_getD, List.getElem?_set_self (by rw [h1]; omega)]
      rw [hp, show f = fun l => firstF hs 0 l 0 from funext hf]
      exact near_row hs _ (by omega) a2
    · rw [List.getD_eq_getElem?_getD, List.getElem?_set_ne e, ← List.getD_eq_getElem?_getD]
      exact h3 hf q (by omega) q2
theorem stF_once (hs : List Int) (D : List (List Int)) (hD : D.length = hs.length) (hh : ∀ j, j < hs.length → 1 ≤ hs.getD j 0 ∧ hs.getD j 0 ≤ 8) :
    (stF hs (D, List.replicate 8 0) (downs hs.length hs.length)).1.length = hs.length ∧ (stF hs (D, List.replicate 8 0) (downs hs.length hs.length)).2 = nearL hs hs.length (fun l => firstF hs 0 l 0) := by
  have h0 : nearL hs hs.length (fun _ => 0) = List.replicate 8 (0 : Int) := by rw [nearL_end]; rfl
  obtain ⟨h1, h2, _⟩ := stF_down hs D (fun _ => 0) hD hh hs.length (Nat.le_refl _)
  rw [h0] at h1 h2
  refine ⟨h1, ?_⟩
  rw [h2, Nat.sub_self, nearL_end]; rfl
theorem stF_twice (hs : List Int) (D : List (List Int)) (hD : D.length = hs.length) (hh : ∀ j, j < hs.length → 1 ≤ hs.getD j 0 ∧ hs.getD j 0 ≤ 8) :
    (stF hs (D, nearL hs hs.length (fun l => firstF hs 0 l 0)) (downs hs.length hs.length)).1 = (List.range hs.length).map (nextsP hs) := by
  obtain ⟨h1, _, h3⟩ := stF_down hs D (fun l => firstF hs 0 l 0) hD hh hs.length (Nat.le_refl _)
  apply List.ext_getElem
  · rw [h1, List.length_map, List.length_range]
  intro j hj hj2
  have h4 := h3 (fun _ => rfl) j (by omega) (by omega)
  rw [List.getD_eq_getElem?_getD, List.getElem?_eq_getElem hj] at h4
  rw [List.getElem_map, List.getElem_range]
  exact h4
end Go.Proofs.Ytllpfegnpakadaa.Plain

/- A region that draws its order, in the body of a range over a function (at the wide fence): by the plain law 'still, then a tail'. -/
namespace Go.Proofs.Ytllpfegnpakadaa
open Go.RowKit

/-- no statement 'defer' -/
def NoDefer (o : Oper) : Bool := match o.op with | .defer _ => false | _ => true
theorem NoDefer.ne {o : Oper} (h : NoDefer o = true) : ∀ c, o.op ≠ .defer c := fun c e => by simp [NoDefer, e] at h

/-- what may be done of an operation outside may be done in a round -/
theorem round_op {P : Program} {Q : Exit → Act → World → Prop} {l n : Nat} {o : Oper} {a : Act} {w : World} {K K' : Act → World → Prop} (ho : NoDefer o = true) (hK : ∀ a w, K a w → K' a w) (h : o.wp P a w K Q) :
    o.wpIn (Fence.wide.inRound l) n P a w K' Q := by
  refine ⟨fun _ _ => trivial, ?_⟩
  rw [Oper.semAt_eq _ _ _ (NoDefer.ne ho)]
  unfold Oper.wp at h
  generalize (execOp a.eval o).run P w = r at *
  cases r with
  | ok x w' =>
    cases x with
    | value v => exact hK _ _ h
    | skip => exact hK _ _ h
    | defer d => exact hK _ _ h
    | enter f args =>
      refine ⟨fun e => by simp [Fence.wide] at e, ?_⟩
      refine CallsIn.inRound l (callsIn_wide.2 (Calls.mono h fun e w'' he => ?_))
      cases e <;> first | exact hK _ _ he | exact he
    | row row args =>
      refine ⟨fun e => by simp [Fence.wide] at e, fun c cs _ => ?_⟩
      obtain ⟨v, w'', r, s⟩ := h c cs
      exact ⟨v, w'', hK _ _ r, stepsIn_wide.2 s⟩
    | _ => exact h.elim
  | halt x w' => cases x <;> first | exact h | exact h.elim
theorem round_wpOp {P : Program} {Q : Exit → Act → World → Prop} {l n : Nat} {ops : Array Oper} (hnd : ops.all NoDefer = true) (hQ : ¬ LetsOut Q) {i : Nat} {K K' : Act → World → Prop} {a : Act} {w : World} (hK : ∀ a w, K a w → K' a w) (h : wpOp P ops Q i K a w) :
    wpOpIn (Fence.wide.inRound l) n P ops Q i K' a w := by
  unfold wpOp at h
  unfold wpOpIn
  cases ho : ops[i]? with
  | none => rw [ho] at h; exact hK _ _ h
  | some o =>
    rw [ho] at h
    have hd : NoDefer o = true := by
      obtain ⟨hi, rfl⟩ := Array.getElem?_eq_some_iff.1 ho
      exact Array.all_eq_true.1 hnd i hi
    by_cases hw : Region.wanted o (yielded ops a.tmps) = true
    · simp only [hw, if_true] at h ⊢
      rcases h with h | h
      · exact round_op hd hK h
      · exact absurd h.2 hQ
    · simp only [hw] at h ⊢
      exact ⟨fun _ _ => trivial, hK _ _ h⟩
theorem round_any {P : Program} {Q : Exit → Act → World → Prop} {l n : Nat} {md : Region.Mode} {ops : Array Oper} (hnd : ops.all NoDefer = true) (hQ : ¬ LetsOut Q) : ∀ (fuel : Nat) (listed : Array Bool) (a : Act) (w : World),
    wpAny P md ops Q fuel listed a w → wpAnyIn (Fence.wide.inRound l) n P md ops Q fuel listed a w := by
  intro fuel
  induction fuel with
  | zero => intro listed a w h; exact h
  | succ fuel ih => exact fun listed a w h => ⟨h.1, fun i hi => round_wpOp hnd hQ (fun a w => ih _ a w) (h.2 i hi)⟩
end Go.Proofs.Ytllpfegnpakadaa

/- A region whose order is open, in the body of a range over a function: what each of its operations leaves is said once (Mono's law, at the round's fence). -/
namespace Go.Proofs.Ytllpfegnpakadaa.Mono
open Go.RowKit Go.Proofs.Ytllpfegnpakadaa
section
variable {P : Program} {l : List Oper} {m : Nat} {Q : Exit → Act → World → Prop} {a0 : Act} {w0 : World} {V : Nat → World → List Value → Value → Prop}
theorem any_region_mono (m : Nat) (V : Nat → World → List Value → Value → Prop) (hB : monoB l m = true)
    (hst : ∀ i w w' d v, V i w d v → Ext w w' → V i w' d v)
    (hop : ∀ i o, i < m → l[i]? = some o → ∀ (vals : Nat → Value) (w : World), Ext w0 w → (∀ j, (deps l i).contains j = true → V j w ((deps l j).map vals) (vals j)) →
      if Region.wanted o (yielded l.toArray (all vals (l.take m) 0 a0).tmps) = true
      then Yields P (fun v w' => Ext w w' ∧ V i w' ((deps l i).map vals) v) ((execOp (all vals (l.take m) 0 a0).eval o).run P w)
      else V i w ((deps l i).map vals) undef)
    (hend : ∀ (vals : Nat → Value) (w : World), Ext w0 w → (∀ j, j < m → V j w ((deps l j).map vals) (vals j)) → wpList P l.toArray Q (l.drop m) (all vals (l.take m) 0 a0) w) :
    wpAny P .any l.toArray Q l.toArray.size (Array.replicate l.toArray.size false) a0 { w0 with drawn := w0.drawn + 1 } := by
  have hml : m ≤ l.length := by
    unfold monoB at hB
    simp only [Bool.and_eq_true, decide_eq_true_eq] at hB
    exact hB.1
  refine (any_of_inv (Inv P l m Q a0 w0 V) (fun _ _ _ h => h.1) (step hB hst hop hend) (fun listed a w hI hr => ?_) _ _ _ _ ?_ ?_)
  · obtain ⟨hsz, hI⟩ := hI
    have hal := all_listed hB hsz hr
    rcases hI with ⟨vals, hE, htail, hdc, hV, ha⟩ | ⟨k, hmk, hkl, hiff, hw⟩
    · have hm' : m = l.length := by
        rcases Nat.lt_or_ge m l.length with h | h
        · have := hal m h
          rw [htail m (Nat.le_refl _)] at this; cases this
        · omega
      have hw := hend vals w hE (fun j hj => hV j hj (hal j (by omega)))
      rw [ha, sel_all _ _ _ (fun j _ hj => hal j (by simp at hj; omega))]
      rw [hm', List.drop_length] at hw
      rw [hm']
      exact hw
    · have hk : k = l.length := by
        rcases Nat.lt_or_ge k l.length with h | h
        · have := (hiff k h).1 (hal k h)
          omega
        · omega
      subst hk
      rw [List.drop_length] at hw
      exact hw
  · unfold count
    exact Nat.le_trans (List.length_filter_le (fun b => !b) (Array.replicate l.toArray.size false).toList) (by simp)
  · refine ⟨by simp, .inl ⟨fun _ => undef, (Ext.refl w0).drew, fun j _ => ?_, fun i hi => ?_, fun i _ hi => ?_, ?_⟩⟩
    · by_cases h : j < l.length <;> simp [h]
    · exfalso
      by_cases h : i < l.length <;> simp [h] at hi
    · exfalso
      by_cases h : i < l.length <;> simp [h] at hi
    · have : ∀ (r : List Oper) (k : Nat) (a : Act), sel (Array.replicate l.toArray.size false) (fun _ => undef) r k a = a := by
        intro r
        induction r with
        | nil => intro k a; rfl
        | cons o r ih =>
          intro k a
          simp only [sel]
          rw [if_neg (by by_cases h : k < l.length <;> simp [h])]
          exact ih _ _
      exact (this _ _ _).symm
theorem round_region_mono {id r k : Nat} (m : Nat) (V : Nat → World → List Value → Value → Prop) (hm : P.follows .mixedOrders = true) (hQ : ¬ LetsOut Q) (hnd : l.toArray.all NoDefer = true) (hB : monoB l m = true)
    (hst : ∀ i w w' d v, V i w d v → Ext w w' → V i w' d v)
    (hop : ∀ i o, i < m → l[i]? = some o → ∀ (vals : Nat → Value) (w : World), Ext w0 w → (∀ j, (deps l i).contains j = true → V j w ((deps l j).map vals) (vals j)) →
      if Region.wanted o (yielded l.toArray (all vals (l.take m) 0 a0).tmps) = true
      then Yields P (fun v w' => Ext w w' ∧ V i w' ((deps l i).map vals) v) ((execOp (all vals (l.take m) 0 a0).eval o).run P w)
      else V i w ((deps l i).map vals) undef)
    (hend : ∀ (vals : Nat → Value) (w : World), Ext w0 w → (∀ j, j < m → V j w ((deps l j).map vals) (vals j)) → wpList P l.toArray Q (l.drop m) (all vals (l.take m) 0 a0) w) :
    (Code.region id l.toArray true).wpIn (Fence.wide.inRound r) k P Q a0 w0 :=
  wpIn_region_any hm (round_any hnd hQ _ _ _ _ (any_region_mono m V hB hst hop hend))
end
end Go.Proofs.Ytllpfegnpakadaa.Mono

/- slices.Backward at integers: its iterator's contract, and the law for a range over it whose body writes two blocks. -/
namespace Go.Proofs.Ytllpfegnpakadaa
open Go.BigFrame
open Go.RowKit Go.Shelf Go.Proofs.Ytllpfegnpakadaa.Plain
attribute [local go_sem] Oper.semAt_some

/-- what a round keeps: all blocks below N, but two -/
structure KeepsOff (N G M : Nat) (W W' : World) : Prop where
  os : W'.os = W.os
  tape : W'.tape = W.tape
  output : W'.output = W.output
  size : W.heap.size ≤ W'.heap.size
  block : ∀ b, b < N → b ≠ G → b ≠ M → W'.heap[b]? = W.heap[b]?
theorem KeepsOff.refl (N G M : Nat) (W : World) : KeepsOff N G M W W := ⟨rfl, rfl, rfl, Nat.le_refl _, fun _ _ _ _ => rfl⟩
theorem KeepsOff.trans {N G M : Nat} {A B C : World} (h : KeepsOff N G M A B) (k : KeepsOff N G M B C) : KeepsOff N G M A C :=
  ⟨k.os.trans h.os, k.tape.trans h.tape, k.output.trans h.output, Nat.le_trans h.size k.size, fun b hb hg hm => (k.block b hb hg hm).trans (h.block b hb hg hm)⟩
theorem KeepsOff.grown {N G M : Nat} {W W' : World} {row : Option Nat} (hN : N ≤ W.heap.size) (hg : W.grownBy W' row) (hr : ∀ r, row = some r → N ≤ r ∨ r = G ∨ r = M) : KeepsOff N G M W W' :=
  ⟨hg.os, hg.tape, hg.output, hg.size, fun b hb hG hM => hg.block b (by omega) (fun e => by rcases hr b e.symm with h | h | h <;> omega)⟩
theorem KeepsOff.below {N G M : Nat} {W W' : World} (h : Below N W W') : KeepsOff N G M W W' := ⟨h.os, h.tape, h.output, h.size, fun b hb _ _ => h.block b hb⟩
theorem KeepsOff.ofExt {N G M : Nat} {W W' : World} (hN : N ≤ W.heap.size) (h : Ext W W') : KeepsOff N G M W W' := KeepsOff.below (Below.mono h hN)
theorem KeepsOff.set {N G M : Nat} {W : World} {p : Addr} (hp : p.block = G ∨ p.block = M) (v : Value) : KeepsOff N G M W (W.setCell p v) :=
  ⟨rfl, rfl, rfl, by simp, fun b _ hG hM => heap_setCell_other W p b v (by rcases hp with h | h <;> omega)⟩
theorem KeepsOff.ext {N G M : Nat} {w W W' : World} (hE : Ext w W) (h : KeepsOff N G M W W') (hN : w.heap.size ≤ N) (hG : w.heap.size ≤ G) (hM : w.heap.size ≤ M) : Ext w W' :=
  ⟨h.os.trans hE.os, h.tape.trans hE.tape, h.output.trans hE.output, Nat.le_trans hE.size h.size, fun b hb => (h.block b (by omega) (by omega) (by omega)).trans (hE.block b hb)⟩
theorem KeepsOff.cell {N G M : Nat} {W W' : World} (h : KeepsOff N G M W W') {a : Addr} {v : Value} (hc : W.cell? a = some v) (hb : a.block < N) (hG : a.block ≠ G) (hM : a.block ≠ M) : W'.cell? a = some v := by
  rw [← hc]
  unfold World.cell?
  rw [h.block _ hb hG hM]
theorem KeepsOff.rd {α : Type} {K : Kd α} {N G M : Nat} {W W' : World} (h : KeepsOff N G M W W') {A : Option Addr} {n c : Nat} {xs : List α} (hr : Rd K W (.slice A n c) xs) (hb : ∀ a, A = some a → a.block < N ∧ a.block ≠ G ∧ a.block ≠ M) : Rd K W' (.slice A n c) xs := by
  obtain ⟨h1, h2, A', cap, hv, hcap, h3⟩ := hr
  cases hv
  refine ⟨h1, h2, A, c, rfl, hcap, fun hl => ?_⟩
  obtain ⟨b, off, rfl, hcc⟩ := h3 hl
  exact ⟨b, off, rfl, fun j hj i u hu => h.cell (hcc j hj i u hu) (hb _ rfl).1 (hb _ rfl).2.1 (hb _ rfl).2.2⟩
theorem Ext.others {W W' : World} (h : Ext W W') : KeepsOthers W W' := ⟨h.size, fun k o hk _ => (h.block k (Array.getElem?_eq_some_iff.1 hk).1).trans hk⟩

set_option maxHeartbeats 400000 in
theorem back0_any (Ao : Option Addr) (k co : Nat) (w : World) :
    Calls Try.prog 60 #[.slice Ao k co] w fun ed w' =>
      ed = .returned (.func (.func 61) #[] #[.pointer (some ⟨w.heap.size, 0, none⟩)]) ∧
      w' = w.alloc (.cells #[.slice Ao k co] 22) := by
  have hmf : ∀ (fn : Fn) (first cap : Array Value) (w : World), (Instr.makeFunc fn first cap).run Try.prog w = .ok (.func fn first cap) w := fun _ _ _ _ => rfl
  go_enter Try.func60, Try.ntmps60
  go_wp2_with fail
  go_ret
  exact ⟨rfl, rfl⟩

/-- what comes of a place: its number, and what stands there -/
def backV (xs : List Int) (u : Nat) : Array Value := #[.int .i64 u, .int .i64 (xs.getD u 0)]
set_option maxHeartbeats 2000000 in
set_option maxRecDepth 100000 in
theorem back_in (l n N G M b0 co : Nat) (xs : List Int) (Ao : Option Addr) (J Jx : List (Fin n) → World → Prop) (hn : n = xs.length)
    (hY : ∀ pre x W1, J pre W1 → pre.length < n → YieldAt Fence.wide 0 Try.prog l (backV xs x.1) W1 fun e W' =>
      (e = .returned (.bool true) ∧ J (pre ++ [x]) W' ∧ KeepsOff N G M W1 W') ∨ (e = .returned (.bool false) ∧ Jx (pre ++ [x]) W'))
    (W : World) (hb0 : b0 < N ∧ b0 ≠ G ∧ b0 ≠ M) (c0 : W.cell? ⟨b0, 0, none⟩ = some (.slice Ao n co))
    (hA : Rd kInt W (.slice Ao n co) xs) (hfar : ∀ a, Ao = some a → a.block < N ∧ a.block ≠ G ∧ a.block ≠ M) (h0 : J [] W) :
    CallsIn Fence.wide 1 Try.prog 61 #[.func (.yield l) #[] #[], .pointer (some ⟨b0, 0, none⟩)] W fun e W' => (∃ v, e = .returned v) ∧
      ((∃ ys : List (Fin n), ys.map Fin.val = downs n n ∧ J ys W') ∨ (∃ pre, True ∧ Jx pre W')) := by
  have HA := Lib.hid hA
  have HFAR := Lib.hid hfar
  have HY := Lib.hid hY
  have HJ0 := Lib.hid h0
  have HCS := Lib.hid c0
  have HNB := Lib.hid hb0
  have HN := Lib.hid hn
  have hol : (n : Int) ≤ 9223372036854775807 := by have := hA.len; omega
  clear hA hfar hY h0 hb0 hn
  refine callsIn_of_wp Try.func61 rfl trivial ?_ rfl
  simp only [Try.ntmps61, List.size_toArray, List.length_cons, List.length_nil, Nat.reduceAdd, Nat.reduceSub, Array.replicate_succ, Array.replicate_zero, List.push_toArray, List.append_toArray, List.nil_append, List.cons_append]
  have hw0 : IntKind.i64.wrap ((n : Int) - 1) = (n : Int) - 1 := IntWalk.i64_in _ (by omega)
  gi_wp2
  gi_loopw [3] (fun i wr => ∃ (k : Nat) (pre : List (Fin n)), k ≤ n ∧ i = .int .i64 ((k : Int) - 1) ∧ pre.map Fin.val = downs n (n - k) ∧ J pre wr ∧ KeepsOff N G M W wr) (fun i _ => (intOf i + 1).toNat)
  case atStart => exact ⟨n, [], Nat.le_refl _, by first | rfl | (rw [hw0]; done), by rw [Nat.sub_self]; rfl, HJ0.out, KeepsOff.refl _ _ _ _⟩
  case round =>
    obtain ⟨k, pre, hk, rfl, hpre, hJ, hX⟩ := hrel
    have HX := Lib.hid hX
    have HPRE := Lib.hid hpre
    have HJ := Lib.hid hJ
    have q1 := hX.cell HCS.out HNB.out.1 HNB.out.2.1 HNB.out.2.2
    clear hX hpre hJ c0 hw0
    cases k with
    | zero =>
      have hd : decide ((0 : Int) ≤ ((0 : Nat) : Int) - 1) = false := by decide
      have hd2 : (((0 : Nat) : Int) - 1) = -1 := by decide
      rw [hd2] at hd ⊢
      gi_wp2
      go_end0
      exact ⟨⟨_, rfl⟩, .inl ⟨pre, by rw [HPRE.out]; rfl, HJ.out⟩⟩
    | succ u =>
      have hu2 : (((u + 1 : Nat) : Int) - 1) = (u : Int) := by omega
      have hu0 : (0 : Int) ≤ u := by omega
      have hu1 : (u : Int) < n := by omega
      have hd : decide ((0 : Int) ≤ (u : Int)) = true := decide_eq_true hu0
      have hw1 : IntKind.i64.wrap ((u : Int) - 1) = (u : Int) - 1 := IntWalk.i64_in _ (by omega)
      rw [hu2]
      obtain ⟨bo, oo, rfl, hco⟩ := (ints_of_rd (HX.out.rd HA.out HFAR.out)).cells (by have := HN.out; omega)
      have z0 := hco u (by have := HN.out; omega)
      have hpl : pre.length = n - (u + 1) := by have := congrArg List.length HPRE.out; rw [List.length_map, downs_len] at this; exact this
      obtain ⟨fn, tmps, assign, body, hy, hR⟩ := HY.out pre ⟨u, by omega⟩ wr HJ.out (by omega)
      have HNEXT : Hid ((pre ++ [(⟨u, by omega⟩ : Fin n)]).map Fin.val = downs n (n - u)) := Lib.hid (by
        rw [List.map_append, HPRE.out, show n - u = n - (u + 1) + 1 by omega, downs_succ, show n - 1 - (n - (u + 1)) = u by omega]; rfl)
      unfold backV at hy
      dsimp only at hy
      obtain ⟨x, hx⟩ : ∃ x, xs.getD u 0 = x := ⟨_, rfl⟩
      rw [hx] at z0 hy
      have HR := Lib.hid hR
      clear hR hx hco hpl
      gi_wp2
      refine HR.out.mono ?_
      rintro e W3 (⟨rfl, hJ3, hk3⟩ | ⟨rfl, hJx3⟩)
      · gi_wp2
        go_roundw
        case rel => exact ⟨u, _, by omega, by first | rfl | (rw [hw1]; done) | (simp; done), HNEXT.out, hJ3, HX.out.trans hk3⟩
        case measure => first | (rw [hw1]; simp [intOf]; done) | (rw [hw1]; simp [intOf]; omega) | (simp [intOf]; done) | (simp [intOf]; omega)
      · gi_wp2
        refine bodyPost_ret (results_none rfl _ _ _) rfl ?_
        exact ⟨⟨_, rfl⟩, .inr ⟨_, trivial, hJx3⟩⟩

theorem back_stops (n G M b0 co : Nat) (xs : List Int) (Ao : Option Addr) (w : World) (hn : n = xs.length) (hb0 : b0 ≠ G ∧ b0 ≠ M) (c0 : w.cell? ⟨b0, 0, none⟩ = some (.slice Ao n co))
    (hA : Rd kInt w (.slice Ao n co) xs) (hfar : ∀ a, Ao = some a → a.block < w.heap.size ∧ a.block ≠ G ∧ a.block ≠ M) :
    SeqStopsK Fence.wide 1 Try.prog 61 #[.pointer (some ⟨b0, 0, none⟩)] (fun x : Fin n => backV xs x.1) (KeepsOff w.heap.size G M) (fun ys => ys.map Fin.val = downs n n) (fun _ => True) n w := fun l J Jx W hW _ _ hY h0 =>
  back_in l n w.heap.size G M b0 co xs Ao J Jx hn hY W ⟨World.block_lt_of_cell? _ _ c0, hb0⟩ (Ext.cell hW c0) (hA.ext hW) hfar h0
/-- how a round's body is left -/
def BodyOut (R : World → Prop) : Exit → Act → World → Prop
  | .normal, _, W => R W
  | _, _, _ => False
theorem BodyOut.no (R : World → Prop) : ¬ LetsOut (BodyOut R) := fun ⟨_, _, h⟩ => h
/-- the slots with which a round begins -/
def backAct (a : Act) (p1 p2 d1 d2 : Tmp) (u : Nat) (x : Int) : Act :=
  { tmps := (((a.tmps.setIfInBounds p1 (.int .i64 u)).setIfInBounds p2 (.int .i64 x)).setIfInBounds d1 (.int .i64 u)).setIfInBounds d2 (.int .i64 x), defers := [] }
theorem range_back {g : Operand} {p1 p2 : Tmp} (d1 d2 : Tmp) {assign body : Code} {Q : Exit → Act → World → Prop} {a : Act} {w : World} (G M n b0 co : Nat) (xs : List Int) (Ao : Option Addr) (St : List Nat → World → Prop)
    (hg : a.eval g = .func (.func 61) #[] #[.pointer (some ⟨b0, 0, none⟩)])
    (hn : n = xs.length) (hb0 : b0 ≠ G ∧ b0 ≠ M) (c0 : w.cell? ⟨b0, 0, none⟩ = some (.slice Ao n co))
    (hA : Rd kInt w (.slice Ao n co) xs) (hfar : ∀ a, Ao = some a → a.block < w.heap.size ∧ a.block ≠ G ∧ a.block ≠ M) (hGM : G < w.heap.size ∧ M < w.heap.size)
    (hSt : OwnFrom w.heap.size St) (h0 : St [] w)
    (hassign : ∀ (l u : Nat) (x : Int) (W : World) (K : Act → World → Prop), K (backAct a p1 p2 d1 d2 u x) W →
      assign.wpIn (Fence.wide.inRound l) 0 Try.prog (Exit.then K (fun _ _ _ => False)) { tmps := (a.tmps.setIfInBounds p1 (.int .i64 u)).setIfInBounds p2 (.int .i64 x), defers := [] } W)
    (hbody : ∀ (l : Nat) (pre : List Nat) (u : Nat) (W : World), u < n → pre.length < n → St pre W → KeepsOff w.heap.size G M w W →
      body.wpIn (Fence.wide.inRound l) 0 Try.prog (BodyOut fun W' => KeepsFrom w.heap.size W W' ∧ KeepsOff w.heap.size G M W W' ∧ St (pre ++ [u]) W') (backAct a p1 p2 d1 d2 u (xs.getD u 0)) W)
    (hdone : ∀ (D : Nat) (W : World), w.heap.size ≤ D → St (downs n n) W → KeepsOff w.heap.size G M w W → W.heap[D]? = some (.deferred (some [])) → Q .normal { a with defers := { target := .collected D, args := #[] } :: a.defers } W) :
    (Code.rangeFunc g #[p1, p2] assign body).wp Try.prog Q a w := by
  refine (wpIn_wide (n := 2)).1 ?_
  have hIO : OwnFrom w.heap.size (fun (pre : List (Fin n)) W => St (pre.map Fin.val) W ∧ KeepsOff w.heap.size G M w W) := fun s A C row hs hg hr =>
    ⟨hSt _ _ _ row hs.1 hg hr, hs.2.trans (KeepsOff.grown hs.2.size hg (fun r e => .inl (hr r e).1))⟩
  refine wpIn_rangeFunc_ownH rfl (by decide) (gf := 61) hg trivial (enters_of Try.func61 (by kernel_rfl) rfl)
    (back_stops n G M b0 co xs Ao w hn hb0 c0 hA hfar) KeepsOff.trans
    (fun W l o o' hl h ho _ => KeepsOff.grown (by have := (Array.getElem?_eq_some_iff.1 h).1; omega) (grownBy_putObj' W l o') (fun r e => by cases e; exact .inl hl)) (Below.refl _ _) (fun _ => rfl)
    (fun pre W => St (pre.map Fin.val) W ∧ KeepsOff w.heap.size G M w W) (fun _ _ _ => False) hIO (fun _ _ _ _ _ hs _ _ => hs) ⟨h0, KeepsOff.refl _ _ _ _⟩
    (fun x a' _ => a' = backAct a p1 p2 d1 d2 x.1 (xs.getD x.1 0)) (fun x a' _ A C row hs hg hr => hs)
    ?assign ?body ?done ?stop
  case assign =>
    intro l pre x W K hI hK
    have h9 := hassign l x.1 (xs.getD x.1 0) W K (hK _ _ (KeepsFrom.refl _ _) (KeepsOff.refl _ _ _ _) hI rfl)
    simpa [backV] using h9
  case body =>
    rintro l pre x a' W hl - ⟨hO, hX⟩ rfl hlen
    refine wpIn_mono (hbody l (pre.map Fin.val) x.1 W x.2 (by rw [List.length_map]; exact hlen) hO hX) ?_
    intro e a3 W3 h3
    cases e with
    | normal =>
      obtain ⟨hf3, hk3, hO3⟩ := h3
      exact ⟨hf3, hk3, by rw [List.map_append]; exact hO3, hX.trans hk3⟩
    | _ => exact h3.elim
  case done =>
    rintro D ys W hD hys ⟨hO, hX⟩ hK
    rw [hys] at hO
    exact hdone D W hD hO hX hK
  case stop =>
    rintro D c pre W _ _ h _
    exact h.elim
end Go.Proofs.Ytllpfegnpakadaa

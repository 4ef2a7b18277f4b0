/- Joined by wip/merge.py: S8L, R10C, R10E, RoundR, S8I, S8K, S8D, S8E, D6A, DrS, D6B, D6C, D6D, F7C, F7D, F7P, F7E, F7G, F7S, S8W, S8U, S8V, S8X, R10X, Lit, R10A. -/
import Derived.Test.YtggjjjfdkgfoiaaJ5
import Derived.Laws.BitsAllLaws
import Derived.StillTailTactics
import Derived.RangeFuncNested
import Derived.RangeFuncBound
import Derived.RangeFuncCalls
import Derived.RangeFuncLeaves
import Derived.OwnWalkIn
import Derived.TacticsInMore
import Derived.LoopNIn
import Derived.LoopIn
import Derived.OrdersIn
import Derived.Shelf.Abstract
import Derived.Laws.EntriesVeiled
import Derived.BigRegion
import Derived.Deep.DeepCutAuto
set_option linter.unusedVariables false
set_option linter.unusedSimpArgs false
set_option linter.unnecessarySimpa false
/- The program's along (scan): of each cell what a rule makes of a start and all ahead of it. -/
namespace Go.Proofs.Ytggjjjfdkgfoiaa
open Go.BigFrame
open Go.RowKit Go.Proofs.Ytggjjjfdkgfoiaa.Plain

/-- what along makes of a list: from 'off' on so many cells are others -/
def Plain.alongL (R : Nat → Nat → Nat) (M l : List Nat) (off s j : Nat) : List Nat := byN M.length (fun u => if off ≤ u ∧ u < off + j then (l.take (u - off)).foldl R s else M.getD u 0)
theorem Plain.alongL_len (R : Nat → Nat → Nat) (M l : List Nat) (off s j : Nat) : (alongL R M l off s j).length = M.length := byN_len _ _
theorem Plain.alongL_zero (R : Nat → Nat → Nat) (M l : List Nat) (off s : Nat) : alongL R M l off s 0 = M := by
  unfold alongL
  rw [byN_congr _ _ (fun u => M.getD u 0) (fun u _ => if_neg (by omega))]
  exact byN_id M
theorem Plain.alongL_set (R : Nat → Nat → Nat) (M l : List Nat) (off s j : Nat) : (alongL R M l off s j).set (off + j) ((l.take j).foldl R s) = alongL R M l off s (j + 1) := by
  unfold alongL
  rw [byN_set]
  refine byN_congr _ _ _ (fun u _ => ?_)
  by_cases h : u = off + j
  · subst h
    rw [if_pos rfl, if_pos (by omega), show off + j - off = j by omega]
  · rw [if_neg h]
    by_cases h2 : off ≤ u ∧ u < off + j
    · rw [if_pos h2, if_pos (by omega)]
    · rw [if_neg h2, if_neg (by omega)]
theorem Plain.foldR_lt {R : Nat → Nat → Nat} (hR : ∀ a x, a < 4294967296 → x < 4294967296 → R a x < 4294967296) : ∀ (l : List Nat) (s : Nat), s < 4294967296 → (∀ x ∈ l, x < 4294967296) → l.foldl R s < 4294967296
  | [], _, hs, _ => hs
  | x :: l, s, hs, hl => foldR_lt hR l (R s x) (hR _ _ hs (hl x (by simp))) (fun z hz => hl z (by simp [hz]))
theorem Plain.foldR_snoc (R : Nat → Nat → Nat) (l : List Nat) (s j : Nat) (hj : j < l.length) : (l.take (j + 1)).foldl R s = R ((l.take j).foldl R s) (l.getD j 0) := by
  rw [takeN_snoc hj, List.foldl_append]; rfl
set_option maxHeartbeats 1600000 in
set_option maxRecDepth 100000 in
theorem salong1_any (g off m c c0 B0 s : Nat) (M l : List Nat) (L : Option Addr) (lc : Nat) (w : World) (hM : Ow kU32 B0 w (.slice (some ⟨g, 0, none⟩) M.length c0) (zs M)) (hL : Rd kU32 w (.slice L l.length lc) (zs l))
    (hfar : ∀ a, L = some a → a.block ≠ g) (hom : off + m ≤ M.length) (hlm : l.length ≤ m) (hs : s < 4294967296) (hM9 : M.length ≤ 1000) :
    Calls Try.prog 34 #[.slice (some ⟨g, off, none⟩) m c, .slice L l.length lc, .int .u32 s, .func (.func 29) #[] #[]] w fun ed w' =>
      ed = .returned (.int .u32 (l.foldl addR s : Nat)) ∧ Ow kU32 B0 w' (.slice (some ⟨g, 0, none⟩) M.length c0) (zs (alongL addR M l off s l.length)) ∧ w.grownBy w' (some g) := by
  have HM := Lib.hid hM
  have HL := Lib.hid hL
  have HFAR := Lib.hid hfar
  have HS := Lib.hid (And.intro hs (zs_lt hL))
  have hl' : (l.length : Int) ≤ m := by omega
  have hm' : (m : Int) ≤ 1000 := by omega
  clear hM hL hfar hs
  go_enter Try.func34, Try.ntmps34
  go_wp2_with fail
  go_loopw [2, 13] (fun a i wr => ∃ j : Nat, j ≤ l.length ∧ i = .int .i64 j ∧ a = .int .u32 ((l.take j).foldl addR s : Nat) ∧ Ow kU32 B0 wr (.slice (some ⟨g, 0, none⟩) M.length c0) (zs (alongL addR M l off s j)) ∧ w.grownBy wr (some g)) (fun _ i _ => l.length - (intOf i).toNat)
  case atStart => exact ⟨0, Nat.zero_le _, rfl, rfl, by rw [alongL_zero]; exact HM.out, World.grownBy.refl _ _⟩
  case round =>
    obtain ⟨j, hj, rfl, rfl, hO, hX⟩ := hrel
    have HO := Lib.hid hO
    have HX := Lib.hid hX
    have hj0 : (0 : Int) ≤ j := by omega
    clear hO hX
    by_cases hlt : j < l.length
    · have hlt' : (j : Int) < l.length := by omega
      have hjm : (j : Int) < m := by omega
      obtain ⟨bx, ox, rfl, z0, hxl⟩ := u32_at (HL.out.grown HX.out (fun a ha e => HFAR.out a ha (by cases e; rfl))) j hlt
      obtain ⟨z1, z2, _, _, zg⟩ := HO.out.atN (u := off + j) (by rw [alongL_len]; omega)
      have hal : (l.take j).foldl addR s < 4294967296 := foldR_lt addR_lt _ _ HS.out.1 (fun x hx => HS.out.2 x (List.mem_of_mem_take hx))
      have hset := HO.out.setN (u := off + j) (v := (l.take j).foldl addR s) (by rw [alongL_len]; omega) hal
      rw [alongL_set] at hset
      have hsn := foldR_snoc addR l s j hlt
      obtain ⟨ov, hov⟩ : ∃ ov, Value.int IntKind.u32 (((alongL addR M l off s j).getD (off + j) 0 : Nat) : Int) = ov := ⟨_, rfl⟩
      rw [hov] at z1
      obtain ⟨x, hx⟩ : ∃ x, l.getD j 0 = x := ⟨_, rfl⟩
      obtain ⟨a, ha⟩ : ∃ a, (l.take j).foldl addR s = a := ⟨_, rfl⟩
      rw [hx] at z0 hxl hsn
      rw [ha] at hal hset hsn ⊢
      have HSET := Lib.hid hset
      have HSN := Lib.hid hsn
      have HRU := Lib.hid (fun w => srule1_any a x w hal hxl)
      have z2' := z2 (off + j)
      have hbg : bx ≠ g := HFAR.out _ rfl
      clear hset hsn hov hx ha z2 hal hxl
      go_wp2_with fail
      refine (HRU.out _).mono ?_
      rintro ed w1 ⟨rfl, rfl⟩
      go_wp2_with fail
      go_roundw
      case rel =>
        exact ⟨j + 1, by omega, by go_num, by rw [HSN.out], HSET.out, HX.out.trans (grown_set _ _ _)⟩
      case measure => simp [intOf]; omega
    · obtain rfl : j = l.length := by omega
      go_wp2_with fail
      go_ret
      exact ⟨by rw [List.take_length]; rfl, HO.out, HX.out⟩

end Go.Proofs.Ytggjjjfdkgfoiaa

/- The program's small ones of radix: Passes, isPass, Digit, isOrder, asTheyStand (real code). -/
namespace Go.Proofs.Ytggjjjfdkgfoiaa
open Go.BigFrame
open Go.RowKit Go.Proofs.Ytggjjjfdkgfoiaa.Plain

set_option maxHeartbeats 1600000 in
set_option maxRecDepth 100000 in
theorem ppasses0_any (b : Int) (w : World) (hb : in64 b) :
    Calls Try.prog 14 #[.int .i64 b] w fun ed w' => ed = .returned (.int .i64 (passesP b : Nat)) ∧ w = w' := by
  unfold in64 at hb
  by_cases h : b < 1 ∨ 16 < b
  · have HR := Lib.hid (passesP_no b h)
    rw [HR.out]
    go_enter Try.func14, Try.ntmps14
    by_cases h1 : b < 1
    · have hd1 : decide (b < 1) = true := decide_eq_true h1
      go_wp2_with fail
      all_goals go_ret
      all_goals exact ⟨ret_int rfl, rfl⟩
    · have hd1 : decide (b < 1) = false := decide_eq_false h1
      have hd2 : decide (16 < b) = true := decide_eq_true (by omega)
      go_wp2_with fail
      all_goals go_ret
      all_goals exact ⟨ret_int rfl, rfl⟩
  · have h9 : b = 1 ∨ b = 2 ∨ b = 3 ∨ b = 4 ∨ b = 5 ∨ b = 6 ∨ b = 7 ∨ b = 8 ∨ b = 9 ∨ b = 10 ∨ b = 11 ∨ b = 12 ∨ b = 13 ∨ b = 14 ∨ b = 15 ∨ b = 16 := by omega
    clear h hb
    go_enter Try.func14, Try.ntmps14
    rcases h9 with rfl | rfl | rfl | rfl | rfl | rfl | rfl | rfl | rfl | rfl | rfl | rfl | rfl | rfl | rfl | rfl
    all_goals
      go_wp2_with fail
      go_ret
      exact ⟨ret_int (by first | rfl | decide +kernel), rfl⟩
theorem ppasses_any (b : Int) (w : World) (hb : in64 b) :
    Calls Try.prog 14 #[.int .i64 b] w fun ed w' => ed = .returned (.int .i64 (passesP b : Nat)) ∧ Ext w w' :=
  (ppasses0_any b w hb).mono fun _ _ h => ⟨h.1, h.2 ▸ Ext.refl _⟩

/-- is there such a pass? -/
def Plain.isPassB (p b : Int) : Bool := decide (0 ≤ p) && decide (p < passesP b)
set_option maxHeartbeats 1600000 in
set_option maxRecDepth 100000 in
theorem pispass_any (p b : Int) (w : World) (hp : in64 p) (hb : in64 b) :
    Calls Try.prog 22 #[.int .i64 p, .int .i64 b] w fun ed w' => ed = .returned (.bool (isPassB p b)) ∧ w = w' := by
  have HB := Lib.hid hb
  by_cases h1 : 0 ≤ p
  · have hd1 : decide (0 ≤ p) = true := decide_eq_true h1
    have hd3 : decide (p < 0) = false := decide_eq_false (by omega)
    obtain ⟨N, hN⟩ : ∃ N, passesP b = N := ⟨_, rfl⟩
    have HN := Lib.hid hN
    have HR : Hid (isPassB p b = decide (p < (N : Int))) := Lib.hid (by unfold isPassB; rw [hd1, hN]; rfl)
    obtain ⟨d, hd⟩ : ∃ d, decide (p < (N : Int)) = d := ⟨_, rfl⟩
    rw [hd] at HR
    clear hp hb hN
    go_enter Try.func22, Try.ntmps22
    go_wp2_with fail
    refine (ppasses0_any b _ HB.out).mono ?_
    rintro ed w1 ⟨rfl, rfl⟩
    rw [HN.out]
    go_wp2_with fail
    go_ret
    exact ⟨ret_bool (by rw [HR.out]), rfl⟩
  · have hd1 : decide (0 ≤ p) = false := decide_eq_false h1
    have HR : Hid (isPassB p b = false) := Lib.hid (by unfold isPassB; rw [hd1]; rfl)
    clear hp hb
    go_enter Try.func22, Try.ntmps22
    go_wp2_with fail
    all_goals go_ret
    all_goals exact ⟨ret_bool (by rw [HR.out]), rfl⟩

set_option maxHeartbeats 1600000 in
set_option maxRecDepth 100000 in
theorem pdigit_any (key : Nat) (p b : Int) (w : World) (hk : key < 4294967296) (hp : in64 p) (hb : in64 b) :
    Calls Try.prog 16 #[.int .u32 key, .int .i64 p, .int .i64 b] w fun ed w' => ed = .returned (.int .u32 (digitP key p b : Nat)) ∧ Ext w w' := by
  have HB := Lib.hid hb
  have HP := Lib.hid hp
  cases hip : isPassB p b with
  | false =>
    have HR : Hid (digitP key p b = 0) := Lib.hid (by
      unfold digitP
      refine if_pos ?_
      unfold isPassB at hip
      rw [Bool.and_eq_false_iff, decide_eq_false_iff_not, decide_eq_false_iff_not] at hip
      omega)
    have HI := Lib.hid hip
    rw [HR.out]
    clear hp hb hk hip
    go_enter Try.func16, Try.ntmps16
    go_wp2_with fail
    refine (pispass_any p b _ HP.out HB.out).mono ?_
    rintro ed w1 ⟨rfl, rfl⟩
    rw [HI.out]
    go_wp2_with fail
    go_ret
    exact ⟨ret_int rfl, Ext.refl _⟩
  | true =>
    have HI := Lib.hid hip
    unfold isPassB at hip
    rw [Bool.and_eq_true, decide_eq_true_eq, decide_eq_true_eq] at hip
    obtain ⟨P, rfl⟩ : ∃ P : Nat, p = P := ⟨p.toNat, by omega⟩
    have h4 : 1 ≤ b ∧ b ≤ 16 := by
      by_cases h9 : b < 1 ∨ 16 < b
      · rw [passesP_no b h9] at hip; omega
      · omega
    obtain ⟨B, rfl⟩ : ∃ B : Nat, b = B := ⟨b.toNat, by omega⟩
    obtain ⟨h5, h6⟩ : 1 ≤ B ∧ B ≤ 16 := by omega
    have hq := passes_mul P B h5 h6 (by omega)
    have HR : Hid (digitP key P B = key / 2 ^ (P * B) % 2 ^ B) := Lib.hid (by unfold digitP; rw [if_neg (by omega)]; simp)
    obtain ⟨Q, hQ⟩ : ∃ Q, P * B = Q := ⟨_, rfl⟩
    have hQ' : (P : Int) * (B : Int) = (Q : Int) := by rw [← hQ]; simp
    have hQ9 : IntKind.i64.wrap (Q : Int) = (Q : Int) := IntWalk.i64_in _ (by omega)
    rw [hQ] at HR hq
    have hQ0 : (0 : Int) ≤ Q := by omega
    have hQ1 : (Q : Int) < 32 := by omega
    have hB0 : (0 : Int) ≤ B := by omega
    have hB1 : (B : Int) < 32 := by omega
    have hpw : 2 ^ B ≤ 65536 := by have := Nat.pow_le_pow_right (n := 2) (by decide) h6; simpa using this
    have hpw1 : 1 ≤ 2 ^ B := Nat.one_le_two_pow
    have HK := Lib.hid hk
    rw [HR.out]
    clear hp hb hk hip h4 hQ
    go_enter Try.func16, Try.ntmps16
    go_wp2_with fail
    refine (pispass_any P B _ HP.out HB.out).mono ?_
    rintro ed w1 ⟨rfl, rfl⟩
    rw [HI.out]
    go_wp2_with fail
    try go_quiet (fail)
    go_wp2_with fail
    go_ret
    exact ⟨ret_int (by
      have h8 : (key : Int) / 2 ^ Q = ((key / 2 ^ Q : Nat) : Int) := by simp
      have h9 : ((2 : Int) ^ B - 1) % 4294967296 = ((2 ^ B - 1 : Nat) : Int) := by
        have e : (2 : Int) ^ B = ((2 ^ B : Nat) : Int) := by simp
        rw [e]
        obtain ⟨z, hz⟩ : ∃ z, 2 ^ B = z := ⟨_, rfl⟩
        rw [hz] at hpw hpw1 ⊢
        omega
      rw [h8, h9, u32_and_nat _ _ (Nat.lt_of_le_of_lt (Nat.div_le_self _ _) HK.out) (by omega), Nat.and_two_pow_sub_one_eq_mod]), (Ext.refl _).drewN _⟩
/-- who has come so far -/
def Plain.metJ (l : List Int) (n j : Nat) : List Bool := (List.range n).map (fun u : Nat => decide ((u : Int) ∈ l.take j))
theorem Plain.metJ_len (l : List Int) (n j : Nat) : (metJ l n j).length = n := by simp [metJ]
theorem Plain.metJ_zero (l : List Int) (n : Nat) : metJ l n 0 = List.replicate n false := by
  unfold metJ
  apply List.ext_getElem?
  intro i
  by_cases hi : i < n
  · rw [List.getElem?_map, List.getElem?_range hi, List.getElem?_replicate, if_pos hi]; rfl
  · rw [List.getElem?_eq_none (by simpa using hi), List.getElem?_eq_none (by simpa using hi)]
theorem Plain.metJ_at (l : List Int) (n j u : Nat) (hu : u < n) : (metJ l n j).getD u false = decide ((u : Int) ∈ l.take j) := by
  unfold metJ
  rw [List.getD_eq_getElem?_getD, List.getElem?_map, List.getElem?_range hu]; rfl
theorem Plain.metJ_set (l : List Int) (n j u : Nat) (h : l.take (j + 1) = l.take j ++ [(u : Int)]) : (metJ l n j).set u true = metJ l n (j + 1) := by
  unfold metJ
  apply List.ext_getElem?
  intro i
  by_cases hi : i < n
  · rw [List.getElem?_set, List.getElem?_map, List.getElem?_map, List.getElem?_range hi]
    by_cases e : u = i
    · subst e; simp [hi, h]
    · rw [if_neg e, Option.map_some, Option.map_some, h]
      have : ((i : Int) = (u : Int)) = False := by simp; omega
      simp [this]
  · rw [List.getElem?_eq_none (by simp; omega), List.getElem?_eq_none (by simp; omega)]
theorem Plain.onceB_of (l : List Int) (n : Nat) (hl : l.length = n) (hb : ∀ x ∈ l, 0 ≤ x ∧ x < n) (hn : l.Nodup) : onceB l n = true := by
  have hz : l = zs (l.map Int.toNat) := by
    unfold zs
    rw [List.map_map]
    conv => lhs; rw [← List.map_id l]
    refine List.map_congr_left fun x hx => ?_
    have := hb x hx
    show x = ((x.toNat : Nat) : Int)
    omega
  have hnd : (l.map Int.toNat).Nodup := by
    rw [List.nodup_iff_pairwise_ne, List.pairwise_map]
    refine List.Pairwise.imp_of_mem (fun {a b} ha hb' h e => h ?_) (List.nodup_iff_pairwise_ne.1 hn)
    have h1 := hb a ha
    have h2 := hb b hb'
    omega
  refine (onceB_iff l n).2 ⟨l.map Int.toNat, hz, perm_of_all n _ (by rw [List.length_map]; exact hl) (all_of_nodup n _ hnd (by rw [List.length_map]; exact hl) fun x hx => ?_)⟩
  obtain ⟨y, hy, rfl⟩ := List.mem_map.1 hx
  have := hb y hy
  omega
theorem Plain.onceB_out (l : List Int) (n : Nat) (x : Int) (hx : x ∈ l) (h : x < 0 ∨ (n : Int) ≤ x) : onceB l n = false := by
  rw [← Bool.not_eq_true]
  intro h9
  unfold onceB at h9
  rw [Bool.and_eq_true, Bool.and_eq_true, List.all_eq_true] at h9
  have := h9.1.2 x hx
  rw [Bool.and_eq_true, decide_eq_true_eq, decide_eq_true_eq] at this
  omega
theorem Plain.onceB_len (l : List Int) (n : Nat) (h : l.length ≠ n) : onceB l n = false := by unfold onceB; rw [decide_eq_false h]; simp
theorem Plain.onceB_nodup (l : List Int) (n : Nat) (h : onceB l n = true) : l.Nodup := by
  obtain ⟨os, rfl, hp⟩ := (onceB_iff l n).1 h
  have h1 : os.Nodup := hp.nodup_iff.2 List.nodup_range
  unfold zs
  rw [List.nodup_iff_pairwise_ne, List.pairwise_map]
  exact (List.nodup_iff_pairwise_ne.1 h1).imp fun {a b} h2 e => h2 (by omega)
theorem Plain.nodup_snoc (l : List Int) (x : Int) (h : l.Nodup) (hx : x ∉ l) : (l ++ [x]).Nodup := by
  rw [List.nodup_append]
  refine ⟨h, by simp, fun a ha b hb => ?_⟩
  rw [List.mem_singleton] at hb
  subst hb
  exact fun e => hx (e ▸ ha)
theorem Plain.onceB_twice (l : List Int) (n j : Nat) (x : Int) (h : l.take (j + 1) = l.take j ++ [x]) (hx : x ∈ l.take j) : onceB l n = false := by
  rw [← Bool.not_eq_true]
  intro h9
  have h1 := onceB_nodup l n h9
  rw [← List.take_append_drop (j + 1) l, h, List.nodup_append] at h1
  have h2 := h1.1
  rw [List.nodup_append] at h2
  exact h2.2.2 x hx x (by simp) rfl

set_option maxHeartbeats 1600000 in
set_option maxRecDepth 100000 in
theorem pisorder_any (n : Nat) (l : List Int) (L : Option Addr) (lc : Nat) (w : World) (hl : Rd kInt w (.slice L l.length lc) l) (hn : n ≤ 1000) :
    Calls Try.prog 21 #[.slice L l.length lc, .int .i64 n] w fun ed w' => ed = .returned (.bool (onceB l n)) ∧ Ext w w' := by
  have HLN : Hid (l.length ≤ 9223372036854775807) := Lib.hid hl.len
  have HL := Lib.hid hl
  have hn0 : (0 : Int) ≤ n := by omega
  have hn1 : (n : Int) ≤ 1000 := by omega
  clear hl
  by_cases hne : l.length = n
  · subst hne
    obtain ⟨n, hN⟩ : ∃ n, l.length = n := ⟨_, rfl⟩
    rw [hN] at hn hn0 hn1 HL HLN ⊢
    have HN := Lib.hid hN
    obtain ⟨C, hmk, hmown⟩ := kBool.make false rfl trivial n (by omega)
    have HM : Hid (Ow kBool w.heap.size (w.alloc (.cells C 4)) (.slice (some ⟨w.heap.size, 0, none⟩) n n) (metJ l n 0)) := Lib.hid (by rw [metJ_zero]; exact hmown w w.heap.size w.heap.size rfl (Nat.le_refl _))
    have hmk2 : ∀ w : World, (Instr.makeSlice 55 (.int .i64 n) (.int .i64 n)).run Try.prog w = .ok (.slice (some ⟨w.heap.size, 0, none⟩) n n) (w.alloc (.cells C 4)) := hmk
    have hl9 : (n : Int) ≤ 9223372036854775807 := by omega
    clear hmk hmown hN hn
    go_enter Try.func21, Try.ntmps21
    go_wp2_with fail
    go_loopw [16] (fun i wr => ∃ j : Nat, j ≤ n ∧ i = .int .i64 j ∧ (∀ x ∈ l.take j, 0 ≤ x ∧ x < n) ∧ (l.take j).Nodup ∧ Ow kBool w.heap.size wr (.slice (some ⟨w.heap.size, 0, none⟩) n n) (metJ l n j) ∧ Ext w wr) (fun i _ => n - (intOf i).toNat)
    case atStart => exact ⟨0, Nat.zero_le _, rfl, by simp, by simp, HM.out, (Ext.refl _).alloc _⟩
    case round =>
      obtain ⟨j, hj, rfl, hin, hnd, hM, hX⟩ := hrel
      have HM := Lib.hid hM
      have HX := Lib.hid hX
      have HIN := Lib.hid (And.intro hin hnd)
      have hj0 : (0 : Int) ≤ j := by omega
      clear hM hX hin hnd hmk2
      by_cases hlj : j < n
      · have hlj' : (j : Int) < n := by omega
        have hjl : j < l.length := by rw [HN.out]; exact hlj
        obtain ⟨bl, ol, rfl, hcl⟩ := (ints_of_rd (HN.out ▸ HL.out.ext HX.out : Rd kInt wr (.slice L l.length lc) l)).cells (by omega)
        have z0 := hcl j hjl
        have hmem : l.getD j 0 ∈ l := by rw [List.getD_eq_getElem?_getD, List.getElem?_eq_getElem hjl]; exact List.getElem_mem hjl
        have htk : l.take (j + 1) = l.take j ++ [l.getD j 0] := by rw [List.take_succ_eq_append_getElem hjl, List.getD_eq_getElem?_getD, List.getElem?_eq_getElem hjl]; rfl
        obtain ⟨x, hx⟩ : ∃ x, l.getD j 0 = x := ⟨_, rfl⟩
        rw [hx] at z0 hmem htk
        have lbl : bl < wr.heap.size := World.block_lt_of_cell? _ _ z0
        by_cases hbad : x < 0 ∨ (n : Int) ≤ x
        · have HR : Hid (onceB l n = false) := Lib.hid (onceB_out l n x hmem hbad)
          clear hcl hmem htk hx
          by_cases hneg : x < 0
          · have hd1 : decide (x < 0) = true := decide_eq_true hneg
            clear hbad hneg
            go_wp2_with fail
            try (go_quiet (fail))
            go_wp2_with fail
            go_ret
            exact ⟨ret_bool HR.out.symm, by repeat (first | exact HX.out | refine Ext.drew ?_ | refine Ext.drewN ?_ _)⟩
          · have hd1 : decide (x < 0) = false := decide_eq_false hneg
            have hbig : (n : Int) ≤ x := by omega
            have hd2 : decide ((n : Int) ≤ x) = true := decide_eq_true hbig
            clear hbad hneg
            go_wp2_with fail
            try (go_quiet (fail))
            go_wp2_with fail
            go_ret
            exact ⟨ret_bool HR.out.symm, by repeat (first | exact HX.out | refine Ext.drew ?_ | refine Ext.drewN ?_ _)⟩
        · obtain ⟨u, rfl⟩ : ∃ u : Nat, x = u := ⟨x.toNat, by omega⟩
          have hun : u < n := by omega
          obtain ⟨z1, z2, _, hgl⟩ := HM.out.atB (u := u) (by rw [metJ_len]; exact hun)
          have z2' := z2 u
          rw [metJ_at l n j u hun] at z1
          have hset := HM.out.setB (u := u) (v := true) (by rw [metJ_len]; exact hun)
          rw [metJ_set l n j u htk] at hset
          have HSET := Lib.hid hset
          have hd1 : decide ((u : Int) < 0) = false := decide_eq_false (by omega)
          have hd2 : decide ((n : Int) ≤ (u : Int)) = false := decide_eq_false (by omega)
          have hu0 : (0 : Int) ≤ u := by omega
          have hu1 : (u : Int) < n := by omega
          by_cases hm : (u : Int) ∈ l.take j
          · have HR : Hid (onceB l n = false) := Lib.hid (onceB_twice l n j u htk hm)
            rw [decide_eq_true hm] at z1
            clear hcl hmem htk hx hm hset z2 hbad
            go_wp2_with fail
            try (go_quiet (fail))
            go_wp2_with fail
            go_ret
            exact ⟨ret_bool HR.out.symm, by repeat (first | exact HX.out | refine Ext.drew ?_ | refine Ext.drewN ?_ _)⟩
          · have HIN2 : Hid ((∀ x ∈ l.take (j + 1), 0 ≤ x ∧ x < (n : Int)) ∧ (l.take (j + 1)).Nodup) := Lib.hid (by
              rw [htk]
              refine ⟨fun y hy => ?_, nodup_snoc _ _ HIN.out.2 hm⟩
              rw [List.mem_append, List.mem_singleton] at hy
              rcases hy with hy | hy
              · exact HIN.out.1 y hy
              · rw [hy]; omega)
            rw [decide_eq_false hm] at z1
            clear hcl hmem htk hx hm hset z2 hbad
            go_wp2_with fail
            try (go_quiet (fail))
            go_wp2_with fail
            go_roundw
            case rel => exact ⟨j + 1, by omega, by go_num, HIN2.out.1, HIN2.out.2, HSET.out, HX.out.setCell (p := ⟨w.heap.size, u, none⟩) (Nat.le_refl _) _⟩
            case measure => simp [intOf]; omega
      · obtain rfl : j = n := by omega
        have HR : Hid (onceB l j = true) := Lib.hid (by
          have h1 := HIN.out
          rw [List.take_of_length_le (by rw [HN.out]; exact Nat.le_refl _)] at h1
          exact onceB_of l j HN.out h1.1 h1.2)
        go_wp2_with fail
        go_ret
        exact ⟨ret_bool HR.out.symm, HX.out⟩
  · have HR : Hid (onceB l n = false) := Lib.hid (onceB_len l n hne)
    have e : ((l.length : Int) != (n : Int)) = true := by simp; omega
    clear hne
    go_enter Try.func21, Try.ntmps21
    go_wp2_with fail
    go_ret
    exact ⟨ret_bool HR.out.symm, Ext.refl _⟩

/-- places, so far -/
def Plain.standJ (n j : Nat) : List Nat := byN n (fun i => if i < j then i else 0)
theorem Plain.standJ_len (n j : Nat) : (standJ n j).length = n := byN_len _ _
theorem Plain.standJ_set (n j : Nat) : (standJ n j).set j j = standJ n (j + 1) := by
  unfold standJ
  rw [byN_set]
  refine byN_congr _ _ _ fun i _ => ?_
  by_cases e : i = j
  · subst e; rw [if_pos rfl, if_pos (by omega)]
  · rw [if_neg e]
    by_cases h : i < j
    · rw [if_pos h, if_pos (by omega)]
    · rw [if_neg h, if_neg (by omega)]
theorem Plain.standJ_zero (n : Nat) : zs (standJ n 0) = List.replicate n (0 : Int) := byN_rep _ _ fun i _ => if_neg (by omega)
theorem Plain.standJ_all (n : Nat) : standJ n n = List.range n := by
  unfold standJ
  rw [byN_congr n _ id (fun i hi => by rw [if_pos hi]; rfl)]
  unfold byN
  rw [List.map_id]

set_option maxHeartbeats 1600000 in
set_option maxRecDepth 100000 in
theorem pstand_any (n : Nat) (w : World) (hn : n ≤ 900) :
    Calls Try.prog 25 #[.int .i64 n] w fun ed w' => ∃ (L : Option Addr) (l : Nat), ed = .returned (.slice L n l) ∧ Ow kInt w.heap.size w' (.slice L n l) (zs (List.range n)) ∧ Ext w w' := by
  have hn1 : (n : Int) ≤ 900 := by omega
  have hn0 : (0 : Int) ≤ n := by omega
  obtain ⟨C, hmk, hmown⟩ := kInt.make 0 rfl (show in64 0 by unfold in64; omega) n (by omega)
  have HM : Hid (Ow kInt w.heap.size (w.alloc (.cells C 3)) (.slice (some ⟨w.heap.size, 0, none⟩) n n) (zs (standJ n 0))) := Lib.hid (by rw [standJ_zero]; exact hmown w w.heap.size w.heap.size rfl (Nat.le_refl _))
  have hmk2 : ∀ w : World, (Instr.makeSlice 23 (.int .i64 n) (.int .i64 n)).run Try.prog w = .ok (.slice (some ⟨w.heap.size, 0, none⟩) n n) (w.alloc (.cells C 3)) := hmk
  clear hmk hmown
  go_enter Try.func25, Try.ntmps25
  go_wp2_with fail
  go_loopw [9] (fun i wr => ∃ j : Nat, j ≤ n ∧ i = .int .i64 j ∧ Ow kInt w.heap.size wr (.slice (some ⟨w.heap.size, 0, none⟩) n n) (zs (standJ n j)) ∧ Ext w wr) (fun i _ => n - (intOf i).toNat)
  case atStart => exact ⟨0, Nat.zero_le _, rfl, HM.out, (Ext.refl _).alloc _⟩
  case round =>
    obtain ⟨j, hj, rfl, hO, hX⟩ := hrel
    have HO := Lib.hid hO
    have HX := Lib.hid hX
    have hj0 : (0 : Int) ≤ j := by omega
    clear hO hX hmk2
    by_cases hlt : j < n
    · have hlt' : (j : Int) < n := by omega
      obtain ⟨z1, z2, _, hgl⟩ := HO.out.atI (u := j) (by rw [standJ_len]; exact hlt)
      have z2' := z2 j
      have hset := HO.out.setI (u := j) (v := j) (by rw [standJ_len]; exact hlt) (by omega)
      rw [standJ_set n j] at hset
      obtain ⟨q, hq⟩ : ∃ q, (standJ n j).getD j 0 = q := ⟨_, rfl⟩
      rw [hq] at z1
      have HSET := Lib.hid hset
      clear hset z2 hq
      go_wp2_with fail
      go_roundw
      case rel => exact ⟨j + 1, by omega, by go_num, HSET.out, HX.out.setCell (p := ⟨w.heap.size, j, none⟩) (Nat.le_refl _) _⟩
      case measure => simp [intOf]; omega
    · obtain rfl : j = n := by omega
      have hT := HO.out
      rw [standJ_all] at hT
      have HT := Lib.hid hT
      clear hT
      go_wp2_with fail
      exact bodyPost_ret (v := .slice (some ⟨w.heap.size, 0, none⟩) j j) (by simp [results, Try.results25, go_sem]) rfl ⟨_, _, rfl, HT.out, HX.out⟩
end Go.Proofs.Ytggjjjfdkgfoiaa

/- The program's starts, byDigit (radix, real code): sorting by counting. -/
namespace Go.Proofs.Ytggjjjfdkgfoiaa
open Go.BigFrame
open Go.RowKit Go.Proofs.Ytggjjjfdkgfoiaa.Plain

/-- a place's digit -/
abbrev Plain.digF (keys : List Nat) (p b : Int) (i : Nat) : Nat := digitP (keys.getD i 0) p b
theorem Plain.digF_lt (keys : List Nat) (P B i : Nat) (h1 : 1 ≤ B) (hp : P < passesP B) : digF keys P B i < 2 ^ B := by
  unfold digF digitP
  rw [if_neg (by omega)]
  exact Nat.mod_lt _ (Nat.two_pow_pos _)

set_option maxHeartbeats 1600000 in
set_option maxRecDepth 100000 in
theorem pstarts_any (keys : List Nat) (K : Option Addr) (kc P B D : Nat) (w : World) (hK : Rd kU32 w (.slice K keys.length kc) (zs keys)) (hl : keys.length ≤ 900) (h1 : 1 ≤ B) (h2 : B ≤ 16) (hP : P < passesP B) (hD : 2 ^ B = D) :
    Calls Try.prog 27 #[.slice K keys.length kc, .int .i64 P, .int .i64 B] w fun ed w' => ∃ g : Nat, ed = .returned (.slice (some ⟨g, 0, none⟩) D D) ∧ g = w.heap.size ∧ Ow kInt w.heap.size w' (.slice (some ⟨g, 0, none⟩) D D) (zs (spotsJ (lessF (digF keys P B) keys.length) (digF keys P B) D [])) ∧ Ext w w' := by
  have HK := Lib.hid hK
  have hl' : (keys.length : Int) ≤ 900 := by omega
  have hD9 : D ≤ 65536 := by rw [← hD]; have := Nat.pow_le_pow_right (n := 2) (by decide) h2; simpa using this
  have hP9 : P < 32 := by have := (passesP_enough B h1 h2).2.2.2; omega
  have HDL : Hid (∀ i, digF keys P B i < D) := Lib.hid fun i => by rw [← hD]; exact digF_lt keys P B i h1 hP
  have HG : Hid (in64 (P : Int) ∧ in64 (B : Int)) := Lib.hid ⟨in64_nat P (by omega), in64_nat B (by omega)⟩
  have hDp : (2 : Int) ^ B = (D : Int) := by rw [← hD]; simp
  have hDi : (D : Int) ≤ 65536 := by omega
  have hD0 : (0 : Int) ≤ D := by omega
  have hDw : IntKind.i64.wrap (D : Int) = (D : Int) := IntWalk.i64_in _ (by omega)
  have hB0 : (0 : Int) ≤ B := by omega
  have hB1 : (B : Int) ≤ 16 := by omega
  obtain ⟨C, hmk, hmown⟩ := kInt.make 0 rfl (show in64 0 by unfold in64; omega) D (by omega)
  obtain ⟨f, hf⟩ : ∃ f, digF keys P B = f := ⟨_, rfl⟩
  have HFX : Hid (∀ i, digitP (keys.getD i 0) P B = f i) := Lib.hid fun i => by rw [← hf]
  rw [hf] at HDL ⊢
  have HM : Hid (Ow kInt w.heap.size (w.alloc (.cells C 3)) (.slice (some ⟨w.heap.size, 0, none⟩) D D) (zs (spotsJ (fun _ => 0) f D (List.range 0)))) := Lib.hid (by
    rw [show zs (spotsJ (fun _ => 0) f D (List.range 0)) = List.replicate D (0 : Int) from byN_rep _ _ fun i _ => rfl]
    exact hmown w w.heap.size w.heap.size rfl (Nat.le_refl _))
  have hmk2 : ∀ w : World, (Instr.makeSlice 23 (.int .i64 D) (.int .i64 D)).run Try.prog w = .ok (.slice (some ⟨w.heap.size, 0, none⟩) D D) (w.alloc (.cells C 3)) := hmk
  clear hK hmk hmown hf hP hD h1 h2
  go_enter Try.func27, Try.ntmps27
  go_wp2_with fail
  go_loopw [18] (fun i wr => ∃ j : Nat, j ≤ keys.length ∧ i = .int .i64 j ∧ Ow kInt w.heap.size wr (.slice (some ⟨w.heap.size, 0, none⟩) D D) (zs (spotsJ (fun _ => 0) f D (List.range j))) ∧ Ext w wr) (fun i _ => keys.length - (intOf i).toNat)
  case atStart => exact ⟨0, Nat.zero_le _, rfl, HM.out, (Ext.refl _).alloc _⟩
  case round =>
    obtain ⟨j, hj, rfl, hO, hX⟩ := hrel
    have HO := Lib.hid hO
    have HX := Lib.hid hX
    have hj0 : (0 : Int) ≤ j := by omega
    clear hO hX hmk2
    by_cases hlt : j < keys.length
    · have hlt' : (j : Int) < keys.length := by omega
      obtain ⟨bx, ox, rfl, z0, hxl⟩ := u32_at (HK.out.ext HX.out) j hlt
      have lbx : bx < wr.heap.size := World.block_lt_of_cell? _ _ z0
      have hfx := HFX.out j
      have hset0 := spotsJ_set (fun _ => 0) f D (List.range j) j
      rw [← List.range_succ] at hset0
      have hdl := HDL.out j
      have hsl := sameF_le f (List.range j) (f j)
      rw [List.length_range] at hsl
      have hat := spotsJ_at (fun _ => 0) f D (List.range j) (f j) hdl
      have hlen := spotsJ_len (fun _ => 0) f D (List.range j)
      obtain ⟨x, hx⟩ : ∃ x, keys.getD j 0 = x := ⟨_, rfl⟩
      rw [hx] at z0 hxl hfx
      obtain ⟨d, hd⟩ : ∃ d, f j = d := ⟨_, rfl⟩
      rw [hd] at hfx hset0 hdl hsl hat
      simp only [Nat.zero_add] at hset0 hat
      obtain ⟨q, hq⟩ : ∃ q, sameF f (List.range j) d = q := ⟨_, rfl⟩
      rw [hq] at hset0 hsl hat
      have HCALL : Hid (∀ W, Calls Try.prog 16 #[.int .u32 x, .int .i64 P, .int .i64 B] W fun ed w' => ed = .returned (.int .u32 d) ∧ Ext W w') := Lib.hid fun W => by
        rw [← hfx]
        exact pdigit_any x P B W hxl HG.out.1 HG.out.2
      have HA := Lib.hid (And.intro hset0 (And.intro hat hlen))
      have hd0 : (0 : Int) ≤ d := by omega
      have hd1 : (d : Int) < D := by omega
      have hq0 : (0 : Int) ≤ q := by omega
      have hq1 : (q : Int) ≤ 900 := by omega
      clear hset0 hat hlen hx hd hq hfx hxl
      go_wp2_with fail
      refine (HCALL.out _).mono ?_
      rintro ed w9 ⟨rfl, hE9⟩
      have HO9 := Lib.hid (HO.out.ext hE9)
      have HX9 := Lib.hid (HX.out.trans hE9)
      obtain ⟨z1, z2, _, hgl⟩ := HO9.out.atI (u := d) (by rw [HA.out.2.2]; exact hdl)
      have z2' := z2 d
      rw [HA.out.2.1] at z1
      have hset := HO9.out.setI (u := d) (v := q + 1) (by rw [HA.out.2.2]; exact hdl) (by omega)
      rw [HA.out.1] at hset
      have HSET := Lib.hid hset
      clear hset z2 hE9
      go_wp2_with fail
      go_roundw
      case rel => exact ⟨j + 1, by omega, by go_num, HSET.out, HX9.out.setCell (p := ⟨w.heap.size, d, none⟩) (Nat.le_refl _) _⟩
      case measure => simp [intOf]; omega
    · obtain rfl : j = keys.length := by omega
      have hO2 := HO.out
      rw [← begJ_zero] at hO2
      have HO2 := Lib.hid hO2
      obtain ⟨n, hn⟩ : ∃ n, keys.length = n := ⟨_, rfl⟩
      rw [hn] at HO2 hl' hj0 ⊢
      have HN9 := Lib.hid hn
      clear hO2 HK HFX HO hn
      go_wp2_with fail
      go_loopw [10, 34] (fun a i wq => ∃ q : Nat, q ≤ D ∧ i = .int .i64 q ∧ a = .int .i64 (lessF f n q) ∧ Ow kInt w.heap.size wq (.slice (some ⟨w.heap.size, 0, none⟩) D D) (zs (begJ f n D q)) ∧ Ext w wq) (fun _ i _ => D - (intOf i).toNat)
      case atStart => exact ⟨0, Nat.zero_le _, rfl, by rw [lessF_zero]; rfl, HO2.out, HX.out⟩
      case round =>
        obtain ⟨q, hq, rfl, rfl, hO, hX⟩ := hrel
        have HO := Lib.hid hO
        have HX := Lib.hid hX
        have hq0 : (0 : Int) ≤ q := by omega
        clear hO hX
        have hss := lessF_succ f n q
        have hsl := sameF_le f (List.range n) q
        rw [List.length_range] at hsl
        have hll := lessF_le f n q
        have hsg := begJ_set f n D q
        obtain ⟨a, ha⟩ : ∃ a, lessF f n q = a := ⟨_, rfl⟩
        obtain ⟨s, hs⟩ : ∃ s, sameF f (List.range n) q = s := ⟨_, rfl⟩
        rw [ha, hs] at hss
        rw [ha] at hll hsg ⊢
        rw [hs] at hsl
        have ha0 : (0 : Int) ≤ a := by omega
        have ha1 : (a : Int) ≤ 900 := by omega
        have hs0 : (0 : Int) ≤ s := by omega
        have hs1 : (s : Int) ≤ 900 := by omega
        by_cases hlt : q < D
        · have hlt' : (q : Int) < D := by omega
          have hat := begJ_at f n D q hlt
          rw [hs] at hat
          have HSS := Lib.hid hss
          obtain ⟨z1, z2, _, hgl⟩ := HO.out.atI (u := q) (by rw [begJ_len]; exact hlt)
          have z2' := z2 q
          rw [hat] at z1
          have hset := HO.out.setI (u := q) (v := a) (by rw [begJ_len]; exact hlt) (by omega)
          rw [hsg] at hset
          have HSET := Lib.hid hset
          clear hset z2 hat hss hsg ha hs hsl hll
          go_wp2_with fail
          go_roundw
          case rel => exact ⟨q + 1, by omega, by go_num, by rw [HSS.out]; go_num, HSET.out, HX.out.setCell (p := ⟨w.heap.size, q, none⟩) (Nat.le_refl _) _⟩
          case measure => simp [intOf]; omega
        · obtain rfl : q = D := by omega
          have hT := HO.out
          rw [begJ_all] at hT
          have HT := Lib.hid hT
          clear hT hss hsg ha hs hsl hll
          go_wp2_with fail
          exact bodyPost_ret (v := .slice (some ⟨w.heap.size, 0, none⟩) q q) (by simp [results, Try.results27, go_sem]) rfl ⟨_, rfl, rfl, by rw [HN9.out]; exact HT.out, HX.out⟩

set_option maxHeartbeats 1600000 in
set_option maxRecDepth 100000 in
theorem pbydigit_any (keys os : List Nat) (K O : Option Addr) (kc oc P B : Nat) (w : World) (hK : Rd kU32 w (.slice K keys.length kc) (zs keys)) (hO : Rd kInt w (.slice O os.length oc) (zs os)) (hl : keys.length ≤ 900) (hperm : os.Perm (List.range keys.length)) (h1 : 1 ≤ B) (h2 : B ≤ 16) (hP : P < passesP B) :
    Calls Try.prog 23 #[.slice K keys.length kc, .slice O os.length oc, .int .i64 P, .int .i64 B] w fun ed w' => ∃ (L : Option Addr) (l : Nat), ed = .returned (.slice L os.length l) ∧ Ow kInt w.heap.size w' (.slice L os.length l) (zs (passL keys os P B)) ∧ Ext w w' := by
  have HK := Lib.hid hK
  have HQ := Lib.hid hO
  have hos : os.length = keys.length := by rw [hperm.length_eq, List.length_range]
  have hl' : (os.length : Int) ≤ 900 := by omega
  have HOS := Lib.hid hos
  have HPERM := Lib.hid hperm
  have hP9 : P < 32 := by have := (passesP_enough B h1 h2).2.2.2; omega
  have HG : Hid (in64 (P : Int) ∧ in64 (B : Int)) := Lib.hid ⟨in64_nat P (by omega), in64_nat B (by omega)⟩
  obtain ⟨D, hD⟩ : ∃ D, 2 ^ B = D := ⟨_, rfl⟩
  have HST := Lib.hid fun W h => pstarts_any keys K kc P B D W h hl h1 h2 hP hD
  have hD9 : D ≤ 65536 := by rw [← hD]; have := Nat.pow_le_pow_right (n := 2) (by decide) h2; simpa using this
  have hDi : (D : Int) ≤ 65536 := by omega
  have HDL : Hid (∀ i, digF keys P B i < D) := Lib.hid fun i => by rw [← hD]; exact digF_lt keys P B i h1 hP
  obtain ⟨C, hmk, hmown⟩ := kInt.make 0 rfl (show in64 0 by unfold in64; omega) os.length (by omega)
  obtain ⟨f, hf⟩ : ∃ f, digF keys P B = f := ⟨_, rfl⟩
  have HFX : Hid (∀ i, digitP (keys.getD i 0) P B = f i) := Lib.hid fun i => by rw [← hf]
  have hpl : passL keys os P B = insAll f os := by rw [← hf]; rfl
  rw [hf] at HDL HST
  obtain ⟨S, hS⟩ : ∃ S, insAll f os = S := ⟨_, rfl⟩
  have hSp : S.Perm os := by rw [← hS]; exact insAll_mem f os
  have HSI : Hid (∀ j, j < os.length → lessF f keys.length (f (os.getD j 0)) + sameF f (os.take j) (f (os.getD j 0)) < keys.length ∧ S.getD (lessF f keys.length (f (os.getD j 0)) + sameF f (os.take j) (f (os.getD j 0))) 0 = os.getD j 0) := Lib.hid fun j hj => by rw [← hS]; exact spot_in f os keys.length j hperm hj
  have HSN : Hid (S.Nodup ∧ S.length = os.length) := Lib.hid ⟨(hSp.trans hperm).nodup_iff.2 List.nodup_range, hSp.length_eq⟩
  have HALL : Hid (madeJ S os = S) := Lib.hid (madeJ_all S os hSp.symm)
  rw [hpl, hS]
  have HM : Hid (∀ w3 : World, Ow kInt w3.heap.size (w3.alloc (.cells C 3)) (.slice (some ⟨w3.heap.size, 0, none⟩) os.length os.length) (zs (madeJ S (os.take 0)))) := Lib.hid fun w3 => by
    rw [show zs (madeJ S (os.take 0)) = List.replicate os.length (0 : Int) from by rw [← hSp.length_eq]; exact byN_rep _ _ fun i _ => by simp]
    exact hmown w3 w3.heap.size w3.heap.size rfl (Nat.le_refl _)
  have hmk2 : ∀ w : World, (Instr.makeSlice 23 (.int .i64 os.length) (.int .i64 os.length)).run Try.prog w = .ok (.slice (some ⟨w.heap.size, 0, none⟩) os.length os.length) (w.alloc (.cells C 3)) := hmk
  clear hK hO hmk hmown hf hP hD h1 h2 hpl hSp hperm hos hS
  go_enter Try.func23, Try.ntmps23
  go_wp2_with fail
  refine (HST.out _ HK.out).mono ?_
  rintro ed w1 ⟨_, rfl, rfl, hO1, hE1⟩
  have HO1 := Lib.hid hO1
  have HX1 := Lib.hid hE1
  have hz1 := hE1.size
  have hg1 : w.heap.size < w1.heap.size := (hO1.lt w.heap.size rfl).2
  clear hO1 hE1 HST
  go_wp2_with fail
  go_loopw [23] (fun i wr => ∃ j : Nat, j ≤ os.length ∧ i = .int .i64 j ∧ Ow kInt w.heap.size wr (.slice (some ⟨w.heap.size, 0, none⟩) D D) (zs (spotsJ (lessF f keys.length) f D (os.take j))) ∧ Ow kInt w1.heap.size wr (.slice (some ⟨w1.heap.size, 0, none⟩) os.length os.length) (zs (madeJ S (os.take j))) ∧ Ext w wr) (fun i _ => os.length - (intOf i).toNat)
  case atStart => exact ⟨0, Nat.zero_le _, rfl, HO1.out.ext ((Ext.refl _).alloc _), HM.out w1, HX1.out.alloc _⟩
  case round =>
    obtain ⟨j, hj, rfl, hO, hN, hX⟩ := hrel
    have HO := Lib.hid hO
    have HN := Lib.hid hN
    have HX := Lib.hid hX
    have hj0 : (0 : Int) ≤ j := by omega
    clear hO hX hN hmk2
    by_cases hlt : j < os.length
    · have hlt' : (j : Int) < os.length := by omega
      obtain ⟨bw, ow, rfl, hcw⟩ := (ints_of_rd (HQ.out.ext HX.out)).cells (by rw [zs_len]; omega)
      have y0 := hcw j (by rw [zs_len]; exact hlt)
      rw [zs_getD] at y0
      have hin : os.getD j 0 < keys.length := by
        have h9 : os.getD j 0 ∈ os := by rw [List.getD_eq_getElem?_getD, List.getElem?_eq_getElem hlt]; exact List.getElem_mem hlt
        exact List.mem_range.1 ((HPERM.out.mem_iff).1 h9)
      have htk : os.take (j + 1) = os.take j ++ [os.getD j 0] := takeN_snoc hlt
      obtain ⟨hsp1, hsp2⟩ := HSI.out j hlt
      obtain ⟨s, hs⟩ : ∃ s, os.getD j 0 = s := ⟨_, rfl⟩
      rw [hs] at y0 hin htk hsp1 hsp2
      obtain ⟨bx, ox, rfl, z0, hxl⟩ := u32_at (HK.out.ext HX.out) s hin
      have lbw : bw < wr.heap.size := World.block_lt_of_cell? _ _ y0
      have lbx : bx < wr.heap.size := World.block_lt_of_cell? _ _ z0
      have hfx := HFX.out s
      have hset0 := spotsJ_set (lessF f keys.length) f D (os.take j) s
      rw [← htk] at hset0
      have hdl := HDL.out s
      have hat := spotsJ_at (lessF f keys.length) f D (os.take j) (f s) hdl
      have hlen := spotsJ_len (lessF f keys.length) f D (os.take j)
      have hmset : ∀ q, q < S.length → S.getD q 0 = s → (madeJ S (os.take j)).set q s = madeJ S (os.take (j + 1)) := fun q h3 h4 => by rw [htk]; exact madeJ_set S _ q s HSN.out.1 h3 h4
      obtain ⟨x, hx⟩ : ∃ x, keys.getD s 0 = x := ⟨_, rfl⟩
      rw [hx] at z0 hxl hfx
      obtain ⟨d, hd⟩ : ∃ d, f s = d := ⟨_, rfl⟩
      rw [hd] at hfx hset0 hdl hat hsp1 hsp2
      obtain ⟨q, hq⟩ : ∃ q, lessF f keys.length d + sameF f (os.take j) d = q := ⟨_, rfl⟩
      rw [hq] at hset0 hat hsp1 hsp2
      have hqo : q < os.length := by rw [HOS.out]; exact hsp1
      have HCALL : Hid (∀ W, Calls Try.prog 16 #[.int .u32 x, .int .i64 P, .int .i64 B] W fun ed w' => ed = .returned (.int .u32 d) ∧ Ext W w') := Lib.hid fun W => by
        rw [← hfx]
        exact pdigit_any x P B W hxl HG.out.1 HG.out.2
      have HA := Lib.hid (And.intro hset0 (And.intro hat (And.intro hlen (hmset q (by rw [HSN.out.2]; exact hqo) hsp2))))
      have HKL : Hid (keys.length ≤ 900) := Lib.hid hl
      have hd0 : (0 : Int) ≤ d := by omega
      have hd1 : (d : Int) < D := by omega
      have hq0 : (0 : Int) ≤ q := by omega
      have hq1 : (q : Int) ≤ 900 := by omega
      have hq2 : (q : Int) < os.length := by omega
      have hs0 : (0 : Int) ≤ s := by omega
      have hs1 : (s : Int) < keys.length := by omega
      clear hset0 hat hlen hx hd hq hfx hxl hcw htk hs hmset hsp1 hsp2
      go_wp2_with fail
      refine (HCALL.out _).mono ?_
      rintro ed w9 ⟨rfl, hE9⟩
      have HO9 := Lib.hid (HO.out.ext hE9)
      have HN9 := Lib.hid (HN.out.ext hE9)
      have HX9 := Lib.hid (HX.out.trans hE9)
      obtain ⟨z1, z2, _, hgl⟩ := HO9.out.atI (u := d) (by rw [HA.out.2.2.1]; exact hdl)
      have z2' := z2 d
      rw [HA.out.2.1] at z1
      obtain ⟨m1, m2, _, hml⟩ := HN9.out.atI (u := q) (by rw [madeJ_len, HSN.out.2]; exact hqo)
      have m2' := m2 q
      obtain ⟨mo, hmo⟩ : ∃ mo, (madeJ S (os.take j)).getD q 0 = mo := ⟨_, rfl⟩
      rw [hmo] at m1
      have hmst := HN9.out.setI (u := q) (v := s) (by rw [madeJ_len, HSN.out.2]; exact hqo) (by have := HKL.out; omega)
      rw [HA.out.2.2.2] at hmst
      have hset := (HO9.out.setOther (p := ⟨w1.heap.size, q, none⟩) (by simp [Value.ownBlock]; omega) (.int .i64 s)).setI (u := d) (v := q + 1) (by rw [HA.out.2.2.1]; exact hdl) (by omega)
      rw [HA.out.1] at hset
      have hmst2 := hmst.setOther (p := ⟨w.heap.size, d, none⟩) (by simp [Value.ownBlock]; omega) (.int .i64 ((q : Int) + 1))
      have HSET := Lib.hid hset
      have HMST := Lib.hid hmst2
      have hgne : w.heap.size ≠ w1.heap.size := by omega
      have hgne2 : w1.heap.size ≠ w.heap.size := by omega
      clear hset z2 hE9 m2 hmo hmst hmst2
      go_wp2_with fail
      go_roundw
      case rel => exact ⟨j + 1, by omega, by go_num, HSET.out, HMST.out, (HX9.out.setCell (p := ⟨w1.heap.size, q, none⟩) hz1 _).setCell (p := ⟨w.heap.size, d, none⟩) (Nat.le_refl _) _⟩
      case measure => simp [intOf]; omega
    · obtain rfl : j = os.length := by omega
      have hT := HN.out
      rw [List.take_of_length_le (Nat.le_refl _), HALL.out] at hT
      have HT := Lib.hid hT
      clear hT
      go_wp2_with fail
      exact bodyPost_ret (v := .slice (some ⟨w1.heap.size, 0, none⟩) os.length os.length) (by simp [results, Try.results23, go_sem]) rfl ⟨_, _, rfl, HT.out.mono hz1, HX.out⟩
end Go.Proofs.Ytggjjjfdkgfoiaa

/- A region that draws its order, in the body of a range over a function (at the wide fence): by the plain law 'still, then a tail'. -/
namespace Go.Proofs.Ytggjjjfdkgfoiaa
open Go.RowKit

/-- no statement 'defer' -/
def NoDefer (o : Oper) : Bool := match o.op with | .defer _ => false | _ => true
theorem NoDefer.ne {o : Oper} (h : NoDefer o = true) : ∀ c, o.op ≠ .defer c := fun c e => by simp [NoDefer, e] at h

/-- what may be done of an operation outside may be done in a round -/
theorem round_op {P : Program} {Q : Exit → Act → World → Prop} {l n : Nat} {o : Oper} {a : Act} {w : World} {K K' : Act → World → Prop} (ho : NoDefer o = true) (hK : ∀ a w, K a w → K' a w) (h : o.wp P a w K Q) :
    o.wpIn (Fence.wide.inRound l) n P a w K' Q := by
  refine ⟨fun _ _ => trivial, ?_⟩
  rw [Oper.semAt_eq _ _ _ (NoDefer.ne ho)]
  unfold Oper.wp at h
  generalize (execOp a.eval o).run P w = r at *
  cases r with
  | ok x w' =>
    cases x with
    | value v => exact hK _ _ h
    | skip => exact hK _ _ h
    | defer d => exact hK _ _ h
    | enter f args =>
      refine ⟨fun e => by simp [Fence.wide] at e, ?_⟩
      refine CallsIn.inRound l (callsIn_wide.2 (Calls.mono h fun e w'' he => ?_))
      cases e <;> first | exact hK _ _ he | exact he
    | row row args =>
      refine ⟨fun e => by simp [Fence.wide] at e, fun c cs _ => ?_⟩
      obtain ⟨v, w'', r, s⟩ := h c cs
      exact ⟨v, w'', hK _ _ r, stepsIn_wide.2 s⟩
    | _ => exact h.elim
  | halt x w' => cases x <;> first | exact h | exact h.elim
theorem round_wpOp {P : Program} {Q : Exit → Act → World → Prop} {l n : Nat} {ops : Array Oper} (hnd : ops.all NoDefer = true) (hQ : ¬ LetsOut Q) {i : Nat} {K K' : Act → World → Prop} {a : Act} {w : World} (hK : ∀ a w, K a w → K' a w) (h : wpOp P ops Q i K a w) :
    wpOpIn (Fence.wide.inRound l) n P ops Q i K' a w := by
  unfold wpOp at h
  unfold wpOpIn
  cases ho : ops[i]? with
  | none => rw [ho] at h; exact hK _ _ h
  | some o =>
    rw [ho] at h
    have hd : NoDefer o = true := by
      obtain ⟨hi, rfl⟩ := Array.getElem?_eq_some_iff.1 ho
      exact Array.all_eq_true.1 hnd i hi
    by_cases hw : Region.wanted o (yielded ops a.tmps) = true
    · simp only [hw, if_true] at h ⊢
      rcases h with h | h
      · exact round_op hd hK h
      · exact absurd h.2 hQ
    · simp only [hw] at h ⊢
      exact ⟨fun _ _ => trivial, hK _ _ h⟩
theorem round_any {P : Program} {Q : Exit → Act → World → Prop} {l n : Nat} {md : Region.Mode} {ops : Array Oper} (hnd : ops.all NoDefer = true) (hQ : ¬ LetsOut Q) : ∀ (fuel : Nat) (listed : Array Bool) (a : Act) (w : World),
    wpAny P md ops Q fuel listed a w → wpAnyIn (Fence.wide.inRound l) n P md ops Q fuel listed a w := by
  intro fuel
  induction fuel with
  | zero => intro listed a w h; exact h
  | succ fuel ih => exact fun listed a w h => ⟨h.1, fun i hi => round_wpOp hnd hQ (fun a w => ih _ a w) (h.2 i hi)⟩
/-- nothing is listed at the start -/
theorem headInv_start {md : Region.Mode} {ops : Array Oper} (n : Nat) : HeadInv md ops n (Array.replicate ops.size false) :=
  ⟨by simp, fun j _ _ hl => absurd hl (by rw [getD_replicate_false]; decide), fun t _ ht => getD_in (by simpa using ht) (getD_replicate_false _ _)⟩
/-- a region, all but a tail of which leaves the world as it is, in a round -/
theorem round_still_tail {P : Program} {Q : Exit → Act → World → Prop} {id l m : Nat} {a : Act} {w : World} {ops : List Oper} (hQ : ¬ LetsOut Q) (n : Nat) (hm : P.follows .mixedOrders = true) (hnd : ops.toArray.all NoDefer = true) (hB : Region.lexTailB .any ops.toArray n = true)
    (h : wpStill P ops.toArray w.drew (fun a' => wpList P ops.toArray Q (ops.drop n) a' w.drew) (ops.take n) a) : (Code.region id ops.toArray true).wpIn (Fence.wide.inRound l) m P Q a w := by
  refine wpIn_region_any hm (round_any hnd hQ _ _ _ _ ?_)
  simp only [Region.lexTailB, Bool.and_eq_true, decide_eq_true_eq] at hB
  obtain ⟨⟨⟨⟨h1, h2⟩, h3⟩, h4⟩, h5⟩ := hB
  have hs : ops.toArray.size = ops.length := by simp
  have ht : (ops.take n).length = n := by rw [List.length_take]; omega
  have hd : (ops.drop n).length = ops.toArray.size - n := by rw [List.length_drop, hs]
  have hat : ∀ j, j < (ops.take n).length → (ops.take n)[j]? = ops.toArray[0 + j]? := fun j hj => by rw [ht] at hj; simp [hj]
  have H := wpAnyL_lex (md := .any) (g := ops.toArray.size - n) h1 h3 h4 h2 (ops.take n) 0 _ a hat (by rw [Nat.zero_add]; exact ht) (headInv_start n) (by rw [ht]; exact h5) h
  have H2 := wpAny_of_head (Q' := Q) (g := ops.toArray.size - n) (fun listed a' hL => by
    rw [← hd]
    exact wpAny_of_seq (ops.drop n) n listed a' _ (fun j => by rw [List.getElem?_drop]; simp) (by rw [hd]; exact hL.1) hL.2) _ _ _ H
  rw [ht, show n + (ops.toArray.size - n) = ops.toArray.size by omega] at H2
  exact H2
end Go.Proofs.Ytggjjjfdkgfoiaa

/- The program's iterator over blocks (scan): a range over a function: what a round keeps, the maker, the contract. -/
namespace Go.Proofs.Ytggjjjfdkgfoiaa
open Go.BigFrame
open Go.RowKit Go.Proofs.Ytggjjjfdkgfoiaa.Plain

attribute [local go_sem] Oper.semAt_some

/-- what a round keeps: all blocks below N, but G -/
structure KeepsBut (N G : Nat) (W W' : World) : Prop where
  os : W'.os = W.os
  tape : W'.tape = W.tape
  output : W'.output = W.output
  size : W.heap.size ≤ W'.heap.size
  block : ∀ b, b < N → b ≠ G → W'.heap[b]? = W.heap[b]?
theorem KeepsBut.refl (N G : Nat) (W : World) : KeepsBut N G W W := ⟨rfl, rfl, rfl, Nat.le_refl _, fun _ _ _ => rfl⟩
theorem KeepsBut.trans {N G : Nat} {A B C : World} (h : KeepsBut N G A B) (k : KeepsBut N G B C) : KeepsBut N G A C :=
  ⟨k.os.trans h.os, k.tape.trans h.tape, k.output.trans h.output, Nat.le_trans h.size k.size, fun b hb hg => (k.block b hb hg).trans (h.block b hb hg)⟩
theorem KeepsBut.grown {N G : Nat} {W W' : World} {row : Option Nat} (hN : N ≤ W.heap.size) (hg : W.grownBy W' row) (hr : ∀ r, row = some r → N ≤ r ∨ r = G) : KeepsBut N G W W' :=
  ⟨hg.os, hg.tape, hg.output, hg.size, fun b hb hG => hg.block b (by omega) (fun e => by rcases hr b e.symm with h | h <;> omega)⟩
theorem KeepsBut.below {N G : Nat} {W W' : World} (h : Below N W W') : KeepsBut N G W W' := ⟨h.os, h.tape, h.output, h.size, fun b hb _ => h.block b hb⟩
theorem KeepsBut.ext {N G : Nat} {w W W' : World} (hE : Ext w W) (h : KeepsBut N G W W') (hN : w.heap.size ≤ N) (hG : w.heap.size ≤ G) : Ext w W' :=
  ⟨h.os.trans hE.os, h.tape.trans hE.tape, h.output.trans hE.output, Nat.le_trans hE.size h.size, fun b hb => (h.block b (by omega) (by omega)).trans (hE.block b hb)⟩
theorem cell_of_heap {W W' : World} {a : Addr} {v : Value} (h : W'.heap[a.block]? = W.heap[a.block]?) (hc : W.cell? a = some v) : W'.cell? a = some v := by
  rw [← hc]
  unfold World.cell?
  rw [h]
theorem KeepsBut.cell {N G : Nat} {W W' : World} (h : KeepsBut N G W W') {a : Addr} {v : Value} (hc : W.cell? a = some v) (hb : a.block < N) (hG : a.block ≠ G) : W'.cell? a = some v :=
  cell_of_heap (h.block _ hb hG) hc
theorem KeepsBut.rd {α : Type} {K : Kd α} {N G : Nat} {W W' : World} (h : KeepsBut N G W W') {A : Option Addr} {n c : Nat} {xs : List α} (hr : Rd K W (.slice A n c) xs) (hb : ∀ a, A = some a → a.block < N ∧ a.block ≠ G) : Rd K W' (.slice A n c) xs := by
  obtain ⟨h1, h2, A', cap, hv, hcap, h3⟩ := hr
  cases hv
  refine ⟨h1, h2, A, c, rfl, hcap, fun hl => ?_⟩
  obtain ⟨b, off, rfl, hcc⟩ := h3 hl
  exact ⟨b, off, rfl, fun j hj i u hu => h.cell (hcc j hj i u hu) (hb _ rfl).1 (hb _ rfl).2⟩

set_option maxHeartbeats 400000 in
theorem sblocks0_any (Ao : Option Addr) (k co n : Nat) (bI : Int) (w : World) :
    Calls Try.prog 36 #[.slice Ao k co, .int .i64 n, .int .i64 bI] w fun ed w' =>
      ed = .returned (.func (.func 42) #[] #[.pointer (some ⟨w.heap.size, 0, none⟩), .pointer (some ⟨w.heap.size + 1 + 1, 0, none⟩), .pointer (some ⟨w.heap.size + 1, 0, none⟩)]) ∧
      w' = ((w.alloc (.cells #[.slice Ao k co] 23)).alloc (.cells #[.int .i64 n] 3)).alloc (.cells #[.int .i64 bI] 3) := by
  have hmf : ∀ (fn : Fn) (first cap : Array Value) (w : World), (Instr.makeFunc fn first cap).run Try.prog w = .ok (.func fn first cap) w := fun _ _ _ _ => rfl
  go_enter Try.func36, Try.ntmps36
  go_wp2_with fail
  go_ret
  exact ⟨rfl, rfl⟩

/-- what comes of a block: its number, its span -/
def spanV (n B u : Nat) : Array Value := #[.int .i64 u, .agg #[.int .i64 (u * B : Nat), .int .i64 (min ((u + 1) * B) n : Nat)]]
set_option maxHeartbeats 2000000 in
set_option maxRecDepth 100000 in
theorem siter_in (l k n B N G b0 b1 b2 co : Nat) (bI : Int) (os : List Nat) (Ao : Option Addr) (J Jx : List (Fin k) → World → Prop) (hn : n ≤ 1000) (hB : B ≤ 100) (hk : k ≤ 1000) (hos : ∀ u ∈ os, u < k)
    (hY : ∀ pre x W1, J pre W1 → pre.length < os.length → YieldAt Fence.wide 0 Try.prog l (spanV n B x.1) W1 fun e W' =>
      (e = .returned (.bool true) ∧ J (pre ++ [x]) W' ∧ KeepsBut N G W1 W') ∨ (e = .returned (.bool false) ∧ Jx (pre ++ [x]) W'))
    (W : World) (hb0 : b0 < N ∧ b0 ≠ G) (hb1 : b1 < N ∧ b1 ≠ G) (hb2 : b2 < N ∧ b2 ≠ G) (c0 : W.cell? ⟨b0, 0, none⟩ = some (.slice Ao os.length co)) (c1 : W.cell? ⟨b1, 0, none⟩ = some (.int .i64 bI)) (hbI : os ≠ [] → bI = B) (c2 : W.cell? ⟨b2, 0, none⟩ = some (.int .i64 n))
    (hA : Rd kInt W (.slice Ao os.length co) (zs os)) (hfar : ∀ a, Ao = some a → a.block < N ∧ a.block ≠ G) (h0 : J [] W) :
    CallsIn Fence.wide 1 Try.prog 42 #[.func (.yield l) #[] #[], .pointer (some ⟨b0, 0, none⟩), .pointer (some ⟨b1, 0, none⟩), .pointer (some ⟨b2, 0, none⟩)] W fun e W' => (∃ v, e = .returned v) ∧
      ((∃ ys : List (Fin k), ys.map Fin.val = os ∧ J ys W') ∨ (∃ pre, True ∧ Jx pre W')) := by
  have HA := Lib.hid hA
  have HFAR := Lib.hid hfar
  have HOS := Lib.hid hos
  have HY := Lib.hid hY
  have HJ0 := Lib.hid h0
  have HBI := Lib.hid hbI
  have HCS := Lib.hid (And.intro c0 (And.intro c1 c2))
  have HNB := Lib.hid (And.intro hb0 (And.intro hb1 hb2))
  have hol : (os.length : Int) ≤ 9223372036854775807 := by have := hA.1; rw [zs_len] at this; unfold maxLen at this; omega
  clear hA hfar hos hY h0 hb0 hb1 hb2 hbI
  refine callsIn_of_wp Try.func42 rfl trivial ?_ rfl
  simp only [Try.ntmps42, List.size_toArray, List.length_cons, List.length_nil, Nat.reduceAdd, Nat.reduceSub, Array.replicate_succ, Array.replicate_zero, List.push_toArray, List.append_toArray, List.nil_append, List.cons_append]
  gi_wp2
  gi_loopw [9] (fun i wr => ∃ (j : Nat) (pre : List (Fin k)), j ≤ os.length ∧ i = .int .i64 j ∧ pre.map Fin.val = os.take j ∧ J pre wr ∧ KeepsBut N G W wr) (fun i _ => os.length - (intOf i).toNat)
  case atStart => exact ⟨0, [], Nat.zero_le _, rfl, by simp, HJ0.out, KeepsBut.refl _ _ _⟩
  case round =>
    obtain ⟨j, pre, hj, rfl, hpre, hJ, hX⟩ := hrel
    have HX := Lib.hid hX
    have HPRE := Lib.hid hpre
    have HJ := Lib.hid hJ
    have hj0 : (0 : Int) ≤ j := by omega
    have q1 := hX.cell HCS.out.2.1 HNB.out.2.1.1 HNB.out.2.1.2
    have q2 := hX.cell HCS.out.2.2 HNB.out.2.2.1 HNB.out.2.2.2
    clear hX hpre hJ c0 c1 c2
    by_cases hlt : j < os.length
    · have hlt' : (j : Int) < os.length := by omega
      rw [HBI.out (by intro e; rw [e] at hlt; simp at hlt)] at q1
      obtain ⟨bo, oo, rfl, hco⟩ := (ints_of_rd (HX.out.rd HA.out HFAR.out)).cells (by rw [zs_len]; omega)
      have z0 := hco j (by rw [zs_len]; exact hlt)
      rw [zs_getD] at z0
      have hmem : os.getD j 0 ∈ os := by rw [List.getD_eq_getElem?_getD, List.getElem?_eq_getElem hlt]; exact List.getElem_mem hlt
      have hun := HOS.out _ hmem
      have hpl : pre.length = j := by have := congrArg List.length HPRE.out; rw [List.length_map, List.length_take] at this; omega
      have htk : os.take (j + 1) = os.take j ++ [os.getD j 0] := takeN_snoc hlt
      obtain ⟨fn, tmps, assign, body, hy, hR⟩ := HY.out pre ⟨os.getD j 0, hun⟩ wr HJ.out (by omega)
      have hnext : (pre ++ [(⟨os.getD j 0, hun⟩ : Fin k)]).map Fin.val = os.take (j + 1) := by rw [List.map_append, HPRE.out, htk]; rfl
      have HNEXT := Lib.hid hnext
      unfold spanV at hy
      dsimp only at hy
      have hub : os.getD j 0 * B ≤ 1000 * 100 := Nat.mul_le_mul (by omega) hB
      have hub2 : (os.getD j 0 + 1) * B ≤ 1000 * 100 := Nat.mul_le_mul (by omega) hB
      have e1 : ((os.getD j 0 : Nat) : Int) * (B : Int) = ((os.getD j 0 * B : Nat) : Int) := by simp
      have e2 : (((os.getD j 0 : Nat) : Int) + 1) * (B : Int) = (((os.getD j 0 + 1) * B : Nat) : Int) := by simp
      obtain ⟨p, hp⟩ : ∃ p, os.getD j 0 * B = p := ⟨_, rfl⟩
      obtain ⟨q, hq⟩ : ∃ q, (os.getD j 0 + 1) * B = q := ⟨_, rfl⟩
      rw [hp] at hy e1 hub
      rw [hq] at hy e2 hub2
      obtain ⟨u, hu⟩ : ∃ u, os.getD j 0 = u := ⟨_, rfl⟩
      rw [hu] at z0 hy e1 e2 hun
      have HR := Lib.hid hR
      have hu2 : (u : Int) ≤ 1000 := by omega
      have hu0 : (0 : Int) ≤ u := by omega
      have hp0 : (0 : Int) ≤ p := by omega
      have hp1 : (p : Int) ≤ 100000 := by omega
      have hq0 : (0 : Int) ≤ q := by omega
      have hq1 : (q : Int) ≤ 100000 := by omega
      clear hp hq hu htk hmem hnext hR hub hub2 hco
      rcases Nat.lt_trichotomy q n with hqn | rfl | hqn
      · have hqn' : (q : Int) < n := by omega
        rw [Nat.min_eq_left (by omega)] at hy
        gi_wp2
        refine HR.out.mono ?_
        rintro e W3 (⟨rfl, hJ3, hk3⟩ | ⟨rfl, hJx3⟩)
        · gi_wp2
          go_roundw
          case rel => exact ⟨j + 1, _, by omega, by go_num, HNEXT.out, hJ3, HX.out.trans hk3⟩
          case measure => simp [intOf]; omega
        · gi_wp2
          refine bodyPost_ret (results_none rfl _ _ _) rfl ?_
          exact ⟨⟨_, rfl⟩, .inr ⟨_, trivial, hJx3⟩⟩
      · rw [Nat.min_self] at hy
        gi_wp2
        refine HR.out.mono ?_
        rintro e W3 (⟨rfl, hJ3, hk3⟩ | ⟨rfl, hJx3⟩)
        · gi_wp2
          go_roundw
          case rel => exact ⟨j + 1, _, by omega, by go_num, HNEXT.out, hJ3, HX.out.trans hk3⟩
          case measure => simp [intOf]; omega
        · gi_wp2
          refine bodyPost_ret (results_none rfl _ _ _) rfl ?_
          exact ⟨⟨_, rfl⟩, .inr ⟨_, trivial, hJx3⟩⟩
      · have hqn' : (n : Int) < q := by omega
        rw [Nat.min_eq_right (by omega)] at hy
        gi_wp2
        refine HR.out.mono ?_
        rintro e W3 (⟨rfl, hJ3, hk3⟩ | ⟨rfl, hJx3⟩)
        · gi_wp2
          go_roundw
          case rel => exact ⟨j + 1, _, by omega, by go_num, HNEXT.out, hJ3, HX.out.trans hk3⟩
          case measure => simp [intOf]; omega
        · gi_wp2
          refine bodyPost_ret (results_none rfl _ _ _) rfl ?_
          exact ⟨⟨_, rfl⟩, .inr ⟨_, trivial, hJx3⟩⟩
    · obtain rfl : j = os.length := by omega
      gi_wp2
      go_end0
      exact ⟨⟨_, rfl⟩, .inl ⟨pre, by rw [HPRE.out, List.take_length], HJ.out⟩⟩
end Go.Proofs.Ytggjjjfdkgfoiaa

/- A range over the blocks (scan): the law for its two callers. -/
namespace Go.Proofs.Ytggjjjfdkgfoiaa
open Go.BigFrame
open Go.RowKit Go.Shelf Go.Proofs.Ytggjjjfdkgfoiaa.Plain

theorem siter_stops (n B k co G b0 b1 b2 : Nat) (bI : Int) (os : List Nat) (Ao : Option Addr) (w : World) (hn : n ≤ 1000) (hB : B ≤ 100) (hk : k ≤ 1000) (hos : ∀ u ∈ os, u < k)
    (hb0 : b0 ≠ G) (hb1 : b1 ≠ G) (hb2 : b2 ≠ G) (c0 : w.cell? ⟨b0, 0, none⟩ = some (.slice Ao os.length co)) (c1 : w.cell? ⟨b1, 0, none⟩ = some (.int .i64 bI)) (hbI : os ≠ [] → bI = B) (c2 : w.cell? ⟨b2, 0, none⟩ = some (.int .i64 n))
    (hA : Rd kInt w (.slice Ao os.length co) (zs os)) (hfar : ∀ a, Ao = some a → a.block < w.heap.size ∧ a.block ≠ G) :
    SeqStopsK Fence.wide 1 Try.prog 42 #[.pointer (some ⟨b0, 0, none⟩), .pointer (some ⟨b1, 0, none⟩), .pointer (some ⟨b2, 0, none⟩)] (fun x : Fin k => spanV n B x.1) (KeepsBut w.heap.size G)
      (fun ys => ys.map Fin.val = os) (fun _ => True) os.length w := fun l J Jx W hW _ _ hY h0 =>
  siter_in l k n B w.heap.size G b0 b1 b2 co bI os Ao J Jx hn hB hk hos hY W ⟨World.block_lt_of_cell? _ _ c0, hb0⟩ ⟨World.block_lt_of_cell? _ _ c1, hb1⟩ ⟨World.block_lt_of_cell? _ _ c2, hb2⟩
    (Ext.cell hW c0) (Ext.cell hW c1) hbI (Ext.cell hW c2) (hA.ext hW) hfar h0

/-- how a round's body is left -/
def BodyDone (R : World → Prop) : Exit → Act → World → Prop
  | .normal, _, W => R W
  | _, _, _ => False
theorem BodyDone.no (R : World → Prop) : ¬ LetsOut (BodyDone R) := fun ⟨_, _, h⟩ => h
/-- the slots with which a round begins -/
def roundAct (a : Act) (p1 p2 d1 d2 : Tmp) (u p q Bx : Nat) : Act :=
  { tmps := (((a.tmps.setIfInBounds p1 (.int .i64 u)).setIfInBounds p2 (.agg #[.int .i64 p, .int .i64 q])).setIfInBounds d1 (.int .i64 u)).setIfInBounds d2 (.pointer (some ⟨Bx, 0, none⟩)), defers := [] }
theorem range_blocks {g : Operand} {p1 p2 : Tmp} (d1 d2 : Tmp) {assign body : Code} {Q : Exit → Act → World → Prop} {a : Act} {w : World} (G B0 n B k co c9 m b0 b1 b2 : Nat) (bI : Int) (os : List Nat) (Ao : Option Addr) (F : List Nat → List Nat)
    (hg : a.eval g = .func (.func 42) #[] #[.pointer (some ⟨b0, 0, none⟩), .pointer (some ⟨b1, 0, none⟩), .pointer (some ⟨b2, 0, none⟩)])
    (hn : n ≤ 1000) (hB : B ≤ 100) (hk : k ≤ 1000) (hos : ∀ u ∈ os, u < k)
    (hb0 : b0 ≠ G) (hb1 : b1 ≠ G) (hb2 : b2 ≠ G) (c0 : w.cell? ⟨b0, 0, none⟩ = some (.slice Ao os.length co)) (c1 : w.cell? ⟨b1, 0, none⟩ = some (.int .i64 bI)) (hbI : os ≠ [] → bI = B) (c2 : w.cell? ⟨b2, 0, none⟩ = some (.int .i64 n))
    (hA : Rd kInt w (.slice Ao os.length co) (zs os)) (hfar : ∀ a, Ao = some a → a.block < w.heap.size ∧ a.block ≠ G) (hM : Ow kU32 B0 w (.slice (some ⟨G, 0, none⟩) m c9) (zs (F []))) (hG : G < w.heap.size)
    (hassign : ∀ (l : Nat) (u p q : Nat) (W : World) (K : Act → World → Prop), (∀ Bx W', Ext W W' → KeepsOthers W W' → W.heap.size ≤ Bx → W'.cell? ⟨Bx, 0, none⟩ = some (.int .i64 p) → W'.cell? ⟨Bx, 1, none⟩ = some (.int .i64 q) → K (roundAct a p1 p2 d1 d2 u p q Bx) W') →
      assign.wpIn (Fence.wide.inRound l) 0 Try.prog (Exit.then K (fun _ _ _ => False)) { tmps := (a.tmps.setIfInBounds p1 (.int .i64 u)).setIfInBounds p2 (.agg #[.int .i64 p, .int .i64 q]), defers := [] } W)
    (hbody : ∀ (l : Nat) (pre : List Nat) (u p q Bx : Nat) (W : World), u < k → p = u * B → q = min ((u + 1) * B) n → pre.length < os.length → Ow kU32 B0 W (.slice (some ⟨G, 0, none⟩) m c9) (zs (F pre)) → KeepsBut w.heap.size G w W → w.heap.size ≤ Bx → W.cell? ⟨Bx, 0, none⟩ = some (.int .i64 p) → W.cell? ⟨Bx, 1, none⟩ = some (.int .i64 q) →
      body.wpIn (Fence.wide.inRound l) 0 Try.prog (BodyDone fun W' => W.grownBy W' (some G) ∧ Ow kU32 B0 W' (.slice (some ⟨G, 0, none⟩) m c9) (zs (F (pre ++ [u])))) (roundAct a p1 p2 d1 d2 u p q Bx) W)
    (hdone : ∀ (D : Nat) (W : World), w.heap.size ≤ D → Ow kU32 B0 W (.slice (some ⟨G, 0, none⟩) m c9) (zs (F os)) → KeepsBut w.heap.size G w W → W.heap[D]? = some (.deferred (some [])) → Q .normal { a with defers := { target := .collected D, args := #[] } :: a.defers } W) :
    (Code.rangeFunc g #[p1, p2] assign body).wp Try.prog Q a w := by
  refine (wpIn_wide (n := 2)).1 ?_
  have hIO : OwnFrom w.heap.size (fun (pre : List (Fin k)) W => Ow kU32 B0 W (.slice (some ⟨G, 0, none⟩) m c9) (zs (F (pre.map Fin.val))) ∧ KeepsBut w.heap.size G w W) := fun s A C row hs hg hr =>
    ⟨hs.1.kept hg (.inr fun e => by have h9 : w.heap.size ≤ G := (hr _ e.symm).1; omega), hs.2.trans (KeepsBut.grown hs.2.size hg (fun r e => .inl (hr r e).1))⟩
  refine wpIn_rangeFunc_ownH rfl (by decide) (gf := 42) hg trivial (enters_of Try.func42 (by kernel_rfl) rfl)
    (siter_stops n B k co G b0 b1 b2 bI os Ao w hn hB hk hos hb0 hb1 hb2 c0 c1 hbI c2 hA hfar) KeepsBut.trans
    (fun W l o o' hl h ho _ => KeepsBut.grown (by have := (Array.getElem?_eq_some_iff.1 h).1; omega) (grownBy_putObj' W l o') (fun r e => by cases e; exact .inl hl)) (Below.refl _ _) (fun _ => rfl)
    (fun pre W => Ow kU32 B0 W (.slice (some ⟨G, 0, none⟩) m c9) (zs (F (pre.map Fin.val))) ∧ KeepsBut w.heap.size G w W) (fun _ _ _ => False) hIO (fun _ _ _ _ _ hs _ _ => hs) ⟨hM, KeepsBut.refl _ _ _⟩
    (fun x a' W => ∃ Bx, w.heap.size ≤ Bx ∧ a' = roundAct a p1 p2 d1 d2 x.1 (x.1 * B) (min ((x.1 + 1) * B) n) Bx ∧ W.cell? ⟨Bx, 0, none⟩ = some (.int .i64 (x.1 * B : Nat)) ∧ W.cell? ⟨Bx, 1, none⟩ = some (.int .i64 (min ((x.1 + 1) * B) n : Nat)))
    (fun x a' _ A C row hs hg hr => by
      obtain ⟨Bx, e1, e2, e3, e4⟩ := hs
      exact ⟨Bx, e1, e2, cell_kept e3 hg (fun r e => (hr r e).2), cell_kept e4 hg (fun r e => (hr r e).2)⟩)
    ?assign ?body ?done ?stop
  case assign =>
    intro l pre x W K hI hK
    have h9 := hassign l x.1 (x.1 * B) (min ((x.1 + 1) * B) n) W K
    suffices h8 : _ by simpa [spanV] using h9 h8
    intro Bx W' hE hKO hBx h1 h2
    have hsz := hI.2.size
    exact hK _ _ (hKO.from _) (KeepsBut.below (Below.mono hE hsz)) ⟨hI.1.ext hE, hI.2.trans (KeepsBut.below (Below.mono hE hsz))⟩ ⟨Bx, by omega, rfl, h1, h2⟩
  case body =>
    rintro l pre x a' W hl - ⟨hO, hX⟩ ⟨Bx, hBx, rfl, h1, h2⟩ hlen
    refine wpIn_mono (hbody l (pre.map Fin.val) x.1 _ _ Bx W x.2 rfl rfl (by rw [List.length_map]; exact hlen) hO hX hBx h1 h2) ?_
    intro e a3 W3 h3
    cases e with
    | normal =>
      obtain ⟨hg3, hO3⟩ := h3
      have hkb : KeepsBut w.heap.size G W W3 := KeepsBut.grown hX.size hg3 (fun r e => by cases e; exact .inr rfl)
      exact ⟨KeepsFrom.of_grownBy hg3 (fun j e => by cases e; exact hG), hkb, by rw [List.map_append]; exact hO3, hX.trans hkb⟩
    | _ => exact h3.elim
  case done =>
    rintro D ys W hD hys ⟨hO, hX⟩ hK
    rw [hys] at hO
    exact hdone D W hD hO hX hK
  case stop =>
    rintro D c pre W _ _ h _
    exact h.elim
end Go.Proofs.Ytggjjjfdkgfoiaa

/- The program's totals (scan): of each block what a rule makes of its cells. -/
namespace Go.Proofs.Ytggjjjfdkgfoiaa
open Go.BigFrame
open Go.RowKit Go.Shelf Go.Proofs.Ytggjjjfdkgfoiaa.Plain
attribute [local go_sem] Oper.semAt_some

/-- a block's cells -/
def Plain.blkL (l : List Nat) (B u : Nat) : List Nat := (l.drop (u * B)).take B
theorem Plain.blkL_len (l : List Nat) (B u : Nat) : (blkL l B u).length = min ((u + 1) * B) l.length - u * B := by unfold blkL; rw [List.length_take, List.length_drop, Nat.add_mul, Nat.one_mul]; omega
theorem Plain.blkL_lt {l : List Nat} (h : ∀ x ∈ l, x < 4294967296) (B u : Nat) : ∀ x ∈ blkL l B u, x < 4294967296 := fun x hx => h x (List.mem_of_mem_drop (List.mem_of_mem_take hx))
/-- what stands at a block's place when so many blocks have come -/
def Plain.accF (R : Nat → Nat → Nat) (l : List Nat) (B : Nat) (pre : List Nat) (u : Nat) : Nat := (List.replicate (pre.count u) (blkL l B u)).flatten.foldl R 0
theorem Plain.accF_same (R : Nat → Nat → Nat) (l : List Nat) (B : Nat) (pre : List Nat) (u : Nat) : accF R l B (pre ++ [u]) u = (blkL l B u).foldl R (accF R l B pre u) := by
  unfold accF
  rw [List.count_append, show [u].count u = 1 by simp, List.replicate_succ', List.flatten_append, List.foldl_append]; simp
theorem Plain.accF_other (R : Nat → Nat → Nat) (l : List Nat) (B : Nat) (pre : List Nat) {u v : Nat} (h : v ≠ u) : accF R l B (pre ++ [u]) v = accF R l B pre v := by
  unfold accF
  rw [List.count_append, show [u].count v = 0 by rw [List.count_eq_zero]; simpa using h, Nat.add_zero]
theorem Plain.accF_once {R : Nat → Nat → Nat} {l os : List Nat} {B k : Nat} (h : os.Perm (List.range k)) {u : Nat} (hu : u < k) : accF R l B os u = (blkL l B u).foldl R 0 := by
  unfold accF
  rw [h.count_eq, List.nodup_range.count, if_pos (List.mem_range.2 hu)]; simp
theorem Plain.accF_lt {R : Nat → Nat → Nat} (hR : ∀ a x, a < 4294967296 → x < 4294967296 → R a x < 4294967296) {l : List Nat} (hl : ∀ x ∈ l, x < 4294967296) (B : Nat) (pre : List Nat) (u : Nat) : accF R l B pre u < 4294967296 :=
  foldR_lt hR _ _ (by decide) (fun x hx => by
    obtain ⟨r, hr, hx⟩ := List.mem_flatten.1 hx
    rw [List.eq_of_mem_replicate hr] at hx
    exact blkL_lt hl B u x hx)
/-- the places, in the midst of a block -/
def Plain.midL (R : Nat → Nat → Nat) (l : List Nat) (B k : Nat) (pre : List Nat) (u i : Nat) : List Nat := byN k (fun v => if v = u then ((blkL l B u).take i).foldl R (accF R l B pre u) else accF R l B pre v)
theorem Plain.midL_zero (R : Nat → Nat → Nat) (l : List Nat) (B k : Nat) (pre : List Nat) (u : Nat) : midL R l B k pre u 0 = byN k (accF R l B pre) :=
  byN_congr _ _ _ fun v _ => by by_cases h : v = u; · subst h; rw [if_pos rfl]; rfl
                                · rw [if_neg h]
theorem Plain.midL_all (R : Nat → Nat → Nat) (l : List Nat) (B k : Nat) (pre : List Nat) (u : Nat) : midL R l B k pre u (blkL l B u).length = byN k (accF R l B (pre ++ [u])) :=
  byN_congr _ _ _ fun v _ => by
    by_cases h : v = u
    · subst h; rw [if_pos rfl, accF_same, List.take_length]
    · rw [if_neg h, accF_other _ _ _ _ h]
theorem Plain.midL_set (R : Nat → Nat → Nat) (l : List Nat) (B k : Nat) (pre : List Nat) (u i : Nat) : (midL R l B k pre u i).set u (((blkL l B u).take (i + 1)).foldl R (accF R l B pre u)) = midL R l B k pre u (i + 1) := by
  unfold midL
  rw [byN_set]
  refine byN_congr _ _ _ fun v _ => ?_
  by_cases h : v = u
  · rw [if_pos h, if_pos h]
  · rw [if_neg h, if_neg h, if_neg h]
theorem Plain.midL_getD (R : Nat → Nat → Nat) (l : List Nat) (B k : Nat) (pre : List Nat) (u i : Nat) (hu : u < k) : (midL R l B k pre u i).getD u 0 = ((blkL l B u).take i).foldl R (accF R l B pre u) := by
  unfold midL
  rw [byN_getD _ _ _ hu, if_pos rfl]

set_option maxHeartbeats 1600000 in
set_option maxRecDepth 100000 in
theorem stot1_any (l os : List Nat) (L Ao : Option Addr) (lc co B : Nat) (bI : Int) (w : World) (hL : Rd kU32 w (.slice L l.length lc) (zs l)) (hA : Rd kInt w (.slice Ao os.length co) (zs os)) (hl : l.length ≤ 900) (hB : B ≤ 100) (hk : os.length ≤ 1000) (hB1 : 0 < B) (hbI : os ≠ [] → bI = B)
    (hAl : ∀ a, Ao = some a → a.block < w.heap.size) (hos : ∀ u ∈ os, u < os.length) (hbl : ∀ u, u < os.length → u * B < l.length) :
    Calls Try.prog 35 #[.slice L l.length lc, .int .i64 bI, .slice Ao os.length co, .func (.func 29) #[] #[]] w (ListSaid (byN os.length (accF addR l B os)) w) := by
  have HL := Lib.hid hL
  have HA := Lib.hid hA
  have HAL := Lib.hid hAl
  have HOS := Lib.hid (And.intro hos hbl)
  have HBI := Lib.hid hbI
  have HLT := Lib.hid (zs_lt hL)
  have HB := Lib.hid (And.intro hl (And.intro hB (And.intro hk hB1)))
  have hk' : (os.length : Int) ≤ 1000 := by omega
  obtain ⟨C, hmk, hmown⟩ := kU32.make 0 rfl (show (0 : Int) ≤ 0 ∧ (0 : Int) ≤ 4294967295 by omega) os.length (by omega)
  have HMK := Lib.hid hmown
  have hmk2 : ∀ w : World, (Instr.makeSlice 22 (.int .i64 os.length) (.int .i64 os.length)).run Try.prog w = .ok (.slice (some ⟨w.heap.size, 0, none⟩) os.length os.length) (w.alloc (.cells C 30)) := hmk
  clear hL hA hl hB hk hB1 hbI hAl hos hbl hmown hmk
  refine callsIn_wide.1 (callsIn_of_wp_marks (n := 2) Try.func35 rfl trivial ?_ rfl)
  simp only [Try.ntmps35, List.size_toArray, List.length_cons, List.length_nil, Nat.reduceAdd, Nat.reduceSub, Array.replicate_succ, Array.replicate_zero, List.push_toArray, List.append_toArray, List.nil_append, List.cons_append]
  refine (wpIn_wide (n := 2)).2 ?_
  go_wp2_with fail
  refine (sblocks0_any Ao os.length co l.length bI _).mono ?_
  rintro ed w1 ⟨rfl, rfl⟩
  go_wp2_with fail
  have c0 : (((((((w.alloc (.cells #[.slice L l.length lc] 22)).alloc (.cells #[.func (.func 29) #[] #[]] 58)).alloc (.cells C 30)).alloc (.cells #[.slice (some ⟨w.heap.size + 1 + 1, 0, none⟩) os.length os.length] 22)).alloc (.cells #[.slice Ao os.length co] 23)).alloc (.cells #[.int .i64 l.length] 3)).alloc (.cells #[.int .i64 bI] 3)).cell? ⟨w.heap.size, 0, none⟩ = some (.slice L l.length lc) := by go_simp
  have c1 : (((((((w.alloc (.cells #[.slice L l.length lc] 22)).alloc (.cells #[.func (.func 29) #[] #[]] 58)).alloc (.cells C 30)).alloc (.cells #[.slice (some ⟨w.heap.size + 1 + 1, 0, none⟩) os.length os.length] 22)).alloc (.cells #[.slice Ao os.length co] 23)).alloc (.cells #[.int .i64 l.length] 3)).alloc (.cells #[.int .i64 bI] 3)).cell? ⟨w.heap.size + 1, 0, none⟩ = some (.func (.func 29) #[] #[]) := by go_simp
  have c3 : (((((((w.alloc (.cells #[.slice L l.length lc] 22)).alloc (.cells #[.func (.func 29) #[] #[]] 58)).alloc (.cells C 30)).alloc (.cells #[.slice (some ⟨w.heap.size + 1 + 1, 0, none⟩) os.length os.length] 22)).alloc (.cells #[.slice Ao os.length co] 23)).alloc (.cells #[.int .i64 l.length] 3)).alloc (.cells #[.int .i64 bI] 3)).cell? ⟨w.heap.size + 1 + 1 + 1, 0, none⟩ = some (.slice (some ⟨w.heap.size + 1 + 1, 0, none⟩) os.length os.length) := by go_simp
  have c4 : (((((((w.alloc (.cells #[.slice L l.length lc] 22)).alloc (.cells #[.func (.func 29) #[] #[]] 58)).alloc (.cells C 30)).alloc (.cells #[.slice (some ⟨w.heap.size + 1 + 1, 0, none⟩) os.length os.length] 22)).alloc (.cells #[.slice Ao os.length co] 23)).alloc (.cells #[.int .i64 l.length] 3)).alloc (.cells #[.int .i64 bI] 3)).cell? ⟨w.heap.size + 1 + 1 + 1 + 1, 0, none⟩ = some (.slice Ao os.length co) := by go_simp
  have c5 : (((((((w.alloc (.cells #[.slice L l.length lc] 22)).alloc (.cells #[.func (.func 29) #[] #[]] 58)).alloc (.cells C 30)).alloc (.cells #[.slice (some ⟨w.heap.size + 1 + 1, 0, none⟩) os.length os.length] 22)).alloc (.cells #[.slice Ao os.length co] 23)).alloc (.cells #[.int .i64 l.length] 3)).alloc (.cells #[.int .i64 bI] 3)).cell? ⟨w.heap.size + 1 + 1 + 1 + 1 + 1, 0, none⟩ = some (.int .i64 l.length) := by go_simp
  have c6 : (((((((w.alloc (.cells #[.slice L l.length lc] 22)).alloc (.cells #[.func (.func 29) #[] #[]] 58)).alloc (.cells C 30)).alloc (.cells #[.slice (some ⟨w.heap.size + 1 + 1, 0, none⟩) os.length os.length] 22)).alloc (.cells #[.slice Ao os.length co] 23)).alloc (.cells #[.int .i64 l.length] 3)).alloc (.cells #[.int .i64 bI] 3)).cell? ⟨w.heap.size + 1 + 1 + 1 + 1 + 1 + 1, 0, none⟩ = some (.int .i64 bI) := by go_simp
  have hE : Ext w (((((((w.alloc (.cells #[.slice L l.length lc] 22)).alloc (.cells #[.func (.func 29) #[] #[]] 58)).alloc (.cells C 30)).alloc (.cells #[.slice (some ⟨w.heap.size + 1 + 1, 0, none⟩) os.length os.length] 22)).alloc (.cells #[.slice Ao os.length co] 23)).alloc (.cells #[.int .i64 l.length] 3)).alloc (.cells #[.int .i64 bI] 3)) := (((((((Ext.refl w).alloc _).alloc _).alloc _).alloc _).alloc _).alloc _).alloc _
  have hsz : (((((((w.alloc (.cells #[.slice L l.length lc] 22)).alloc (.cells #[.func (.func 29) #[] #[]] 58)).alloc (.cells C 30)).alloc (.cells #[.slice (some ⟨w.heap.size + 1 + 1, 0, none⟩) os.length os.length] 22)).alloc (.cells #[.slice Ao os.length co] 23)).alloc (.cells #[.int .i64 l.length] 3)).alloc (.cells #[.int .i64 bI] 3)).heap.size = w.heap.size + 7 := by simp
  have hM : Ow kU32 w.heap.size (((((((w.alloc (.cells #[.slice L l.length lc] 22)).alloc (.cells #[.func (.func 29) #[] #[]] 58)).alloc (.cells C 30)).alloc (.cells #[.slice (some ⟨w.heap.size + 1 + 1, 0, none⟩) os.length os.length] 22)).alloc (.cells #[.slice Ao os.length co] 23)).alloc (.cells #[.int .i64 l.length] 3)).alloc (.cells #[.int .i64 bI] 3)) (.slice (some ⟨w.heap.size + 1 + 1, 0, none⟩) os.length os.length) (zs (byN os.length (accF addR l B []))) := by
    have h9 := HMK.out ((w.alloc (.cells #[.slice L l.length lc] 22)).alloc (.cells #[.func (.func 29) #[] #[]] 58)) w.heap.size (w.heap.size + 1 + 1) (by simp) (by omega)
    rw [show zs (byN os.length (accF addR l B [])) = List.replicate os.length (0 : Int) from by
      unfold zs byN; rw [List.map_map]; apply List.ext_getElem?; intro i; by_cases hi : i < os.length
      · rw [List.getElem?_map, List.getElem?_range hi, List.getElem?_replicate, if_pos hi]; rfl
      · rw [List.getElem?_eq_none (by simpa using hi), List.getElem?_eq_none (by simpa using hi)]]
    exact h9.ext (((((Ext.refl _).alloc _).alloc _).alloc _).alloc _)
  obtain ⟨W0, hW0⟩ : ∃ W0, (((((((w.alloc (.cells #[.slice L l.length lc] 22)).alloc (.cells #[.func (.func 29) #[] #[]] 58)).alloc (.cells C 30)).alloc (.cells #[.slice (some ⟨w.heap.size + 1 + 1, 0, none⟩) os.length os.length] 22)).alloc (.cells #[.slice Ao os.length co] 23)).alloc (.cells #[.int .i64 l.length] 3)).alloc (.cells #[.int .i64 bI] 3)) = W0 := ⟨_, rfl⟩
  rw [hW0] at c0 c1 c3 c4 c5 c6 hE hsz hM ⊢
  have HE := Lib.hid hE
  have HC := Lib.hid (And.intro c0 (And.intro c1 c3))
  clear hW0 hmk2
  refine range_blocks 10 11 (w.heap.size + 1 + 1) w.heap.size l.length B os.length co os.length os.length (w.heap.size + 1 + 1 + 1 + 1) (w.heap.size + 1 + 1 + 1 + 1 + 1 + 1) (w.heap.size + 1 + 1 + 1 + 1 + 1) bI os Ao (fun pre => byN os.length (accF addR l B pre))
    rfl (by have := HB.out.1; omega) HB.out.2.1 HB.out.2.2.1 HOS.out.1 (by omega) (by omega) (by omega) c4 c6 HBI.out c5 (HA.out.ext hE) (fun a ha => ⟨by have := HAL.out a ha; omega, by have := HAL.out a ha; omega⟩) hM (by omega) ?assign ?body ?done
  case assign =>
    intro l9 u p q W K hK
    simp only [List.setIfInBounds_toArray, List.set_cons_succ, List.set_cons_zero]
    gi_wp2
    have h9 := hK W.heap.size (W.alloc (.cells #[.int .i64 p, .int .i64 q] 70)) ((Ext.refl W).alloc _) (KeepsOthers.alloc _ _) (Nat.le_refl _) (by go_simp) (by go_simp)
    simpa [roundAct] using h9
  case body =>
    intro l9 pre u p q Bx W hu hp hq hlen hO hX hBx h1 h2
    have hbl := HOS.out.2 u hu
    have hqp : p < q ∧ q ≤ l.length := by
      rw [Nat.add_mul, Nat.one_mul] at hq
      have hB1 := HB.out.2.2.2
      omega
    have hlb : (blkL l B u).length = q - p := by rw [blkL_len, hp, hq]
    have hblk : (l.drop p).take (q - p) = blkL l B u := by
      rw [← hlb]; unfold blkL; rw [← hp, List.length_take, ← List.take_take, List.take_of_length_le (Nat.le_refl _)]
    have cL := hX.cell HC.out.1 (by show w.heap.size < _; omega) (by show w.heap.size ≠ _; omega)
    have cR := hX.cell HC.out.2.1 (by show w.heap.size + 1 < _; omega) (by show w.heap.size + 1 ≠ _; omega)
    have cM := hX.cell HC.out.2.2 (by show w.heap.size + 1 + 1 + 1 < _; omega) (by show w.heap.size + 1 + 1 + 1 ≠ _; omega)
    have hlc : l.length ≤ lc := by obtain ⟨_, c', e, h9⟩ := HL.out.slice; simp only [Value.slice.injEq] at e; rw [zs_len] at h9; omega
    obtain ⟨bx, ox, rfl, -, -⟩ := u32_at HL.out p (by omega)
    have HXW : Hid (Ext w W) := Lib.hid (KeepsBut.ext HE.out hX (by omega) (by omega))
    have hlast : bx < w.heap.size := by
      obtain ⟨b', o', e, h9, -⟩ := u32_at HL.out p (by omega)
      cases e; exact World.block_lt_of_cell? _ _ h9
    have HPC : Hid (Rd kU32 W (.slice (some ⟨bx, ox + p, none⟩) (blkL l B u).length (lc - p)) (zs (blkL l B u))) := Lib.hid (by
      have h9 := ((HL.out.ext HXW.out).dropAdd p p (l.length - p) (lc - p) (by show p = p * 1; omega) (by rw [zs_len]) (by omega)).take (q - p) (lc - p) (by rw [List.length_drop, zs_len]; omega) (by omega)
      rw [hlb, ← hblk]
      rw [add_atk] at h9
      unfold zs at h9 ⊢
      rw [List.map_take, List.map_drop]
      exact h9)
    have HBL := Lib.hid (blkL_lt HLT.out B u)
    have HAC := Lib.hid (accF_lt addR_lt HLT.out B pre u)
    have HLB := Lib.hid hlb
    have HU := Lib.hid hu
    have HO := Lib.hid hO
    have hp9 : (0 : Int) ≤ p := by omega
    have hpq : (p : Int) ≤ q := by omega
    have hqc : q ≤ lc := by omega
    have hqc' : (q : Int) ≤ lc := by omega
    have hne : ¬ lc = p := by omega
    have hq9 : (q : Int) ≤ 900 := by have := HB.out.1; omega
    obtain ⟨Q1, hQ1⟩ : ∃ z, q - p = z := ⟨_, rfl⟩
    clear hp hq hlb hblk hO hX hbl hlc hqp c0 c1 c3 c4 c5 c6 hE hM hu
    simp only [roundAct, List.setIfInBounds_toArray, List.set_cons_succ, List.set_cons_zero]
    gi_wp2
    have HQ1 : Hid (q - p = Q1) := Lib.hid hQ1
    have hQ9 : (Q1 : Int) ≤ 900 := by omega
    clear hQ1
    gi_loopw [31] (fun i wr => ∃ j : Nat, j ≤ Q1 ∧ i = .int .i64 j ∧ Ow kU32 w.heap.size wr (.slice (some ⟨w.heap.size + 1 + 1, 0, none⟩) os.length os.length) (zs (midL addR l B os.length pre u j)) ∧ W.grownBy wr (some (w.heap.size + 1 + 1))) (fun i _ => Q1 - (intOf i).toNat)
    case atStart => exact ⟨0, Nat.zero_le _, rfl, by rw [midL_zero]; exact HO.out, World.grownBy.refl _ _⟩
    case round =>
      obtain ⟨j, hj, rfl, hM9, hg9⟩ := hrel
      have hj0 : (0 : Int) ≤ j := by omega
      have HG := Lib.hid hg9
      have HM9 := Lib.hid hM9
      by_cases hlt : j < Q1
      · have hlt' : (j : Int) < Q1 := by omega
        have hjl : j < (blkL l B u).length := by have := HLB.out; have := HQ1.out; omega
        have hpc := HPC.out.grown hg9 (fun a ha e => by cases ha; have h8 : bx = w.heap.size + 1 + 1 := by simpa using e
                                                        omega)
        obtain ⟨bx', ox', e9, z0, hxl⟩ := u32_at hpc j hjl
        obtain ⟨rfl, rfl⟩ : bx = bx' ∧ ox + p = ox' := by simpa using e9
        have q1 := hg9.cell cR (by simp)
        have q3 := hg9.cell cM (by simp)
        obtain ⟨z1, z2, hal, _, _⟩ := hM9.atN (u := u) (by unfold midL; rw [byN_len]; exact HU.out)
        rw [midL_getD _ _ _ _ _ _ _ HU.out] at z1 hal
        have hsn := foldR_snoc addR (blkL l B u) (accF addR l B pre u) j hjl
        have hset := hM9.setN (u := u) (v := ((blkL l B u).take (j + 1)).foldl addR (accF addR l B pre u)) (by unfold midL; rw [byN_len]; exact HU.out) (foldR_lt addR_lt _ _ HAC.out (fun x hx => HBL.out x (List.mem_of_mem_take hx)))
        rw [midL_set, hsn] at hset
        obtain ⟨x, hx⟩ : ∃ x, (blkL l B u).getD j 0 = x := ⟨_, rfl⟩
        obtain ⟨a, ha⟩ : ∃ a, ((blkL l B u).take j).foldl addR (accF addR l B pre u) = a := ⟨_, rfl⟩
        rw [hx, ha] at hset
        rw [hx] at z0 hxl
        rw [ha] at z1 hal
        have HSET := Lib.hid hset
        have HRU : Hid (Calls Try.prog 29 #[.int .u32 a, .int .u32 x] wr.drew (fun e w'' => e = .returned (.int .u32 (addR a x : Nat)) ∧ w'' = wr.drew)) := Lib.hid ((srule1_any a x _ hal hxl).mono fun _ _ h => ⟨h.1, h.2.symm⟩)
        have z2' := z2 u
        have hu0 : (0 : Int) ≤ u := by omega
        have hu1 : (u : Int) < os.length := by have := HU.out; omega
        have hd1 : decide ((u : Int) < 0) = false := decide_eq_false (by omega)
        have hd2 : decide ((os.length : Int) ≤ (u : Int)) = false := decide_eq_false (by omega)
        have hmo : Try.prog.follows .mixedOrders = true := by kernel_rfl
        obtain ⟨y, hy⟩ : ∃ y, addR a x = y := ⟨_, rfl⟩
        rw [hy] at HRU HSET
        clear hset hsn hx ha z2 hal hxl hM9 hg9 hpc e9 hy hjl cL cR cM h1 h2
        gi_wp2
        refine round_still_tail (by rintro ⟨a, w, h⟩; exact h) 10 hmo (by kernel_rfl) (by kernel_rfl) ?_
        simp only [List.take_succ_cons, List.take_zero, List.drop_succ_cons, List.drop_zero]
        repeat (first | still_step | still_call HRU.out)
        try refine wpStill_nil ?_
        go_wp2_with fail
        gi_wp2
        go_roundw
        case rel => exact ⟨j + 1, by omega, by go_num, HSET.out.ext (Ext.refl _).drew, (HG.out.trans (grown_set _ ⟨w.heap.size + 1 + 1, u, none⟩ _)).trans ⟨rfl, rfl, rfl, Nat.le_refl _, fun _ _ _ => rfl⟩⟩
        case measure => simp [intOf]; omega
      · obtain rfl : j = Q1 := by omega
        gi_wp2
        refine ⟨HG.out, ?_⟩
        have h9 := HM9.out
        rw [← HQ1.out, ← HLB.out, midL_all] at h9
        exact h9
  case done =>
    intro D W hD hO hX hK
    have h9 := hX.cell HC.out.2.2 (by show w.heap.size + 1 + 1 + 1 < _; omega) (by show w.heap.size + 1 + 1 + 1 ≠ _; omega)
    go_wp2_with fail
    refine ⟨by simp, .inl ⟨_, _, rfl, run_takeDeferred hK, ?_⟩⟩
    refine ⟨.slice (some ⟨w.heap.size + 1 + 1, 0, none⟩) os.length os.length, by simp [results, Try.results35, go_sem], ?_⟩
    refine ⟨some ⟨w.heap.size + 1 + 1, 0, none⟩, os.length, by rw [byN_len], by rw [byN_len]; exact hO.kept (grownBy_putObj' W D _) (.inr (fun e => absurd (show w.heap.size + 1 + 1 = D by simpa [Value.ownBlock] using e) (by omega))), ?_⟩
    exact (KeepsBut.ext HE.out hX (by omega) (by omega)).grown (grownBy_putObj' W D _) (fun r e => by cases e; omega)

end Go.Proofs.Ytggjjjfdkgfoiaa

/- The program's Totals and Back (scan). -/
namespace Go.Proofs.Ytggjjjfdkgfoiaa
open Go.BigFrame
open Go.RowKit Go.Proofs.Ytggjjjfdkgfoiaa.Plain

theorem Plain.addF_any : ∀ (l : List Nat) (s : Nat), s < 4294967296 → l.foldl addR s = (s + l.sum) % 4294967296
  | [], s, hs => by simp [Nat.mod_eq_of_lt hs]
  | x :: l, s, _ => by
    have h := addF_any l (addR s x) (Nat.mod_lt _ (by decide))
    rw [List.foldl_cons, h, List.sum_cons]
    unfold addR
    omega
theorem Plain.addF_tot (l : List Nat) : l.foldl addR 0 = totW l := by rw [addF_any l 0 (by decide), Nat.zero_add]; rfl
theorem Plain.blocks_at {n B u : Nat} (hn : n ≤ 1000) (h1 : 1 ≤ B) (h2 : B ≤ 100) (hu : u < blocksP n B) : u * B < n := by
  unfold blocksP at hu
  rw [if_pos (by omega), Int.toNat_natCast] at hu
  have h := (Nat.le_div_iff_mul_le (by omega : 0 < B)).1 (show u + 1 ≤ (n + B - 1) / B from hu)
  rw [Nat.add_mul, Nat.one_mul] at h
  omega
end Go.Proofs.Ytggjjjfdkgfoiaa

/- The program's drain: one that goes on: a step. Written by wip/mk_d6a.py. -/
namespace Go.Proofs.Ytggjjjfdkgfoiaa
open Go.BigFrame
open Go.RowKit Go.Proofs.Ytggjjjfdkgfoiaa.Plain

def D6P (w0 : World) (row : Option Nat) (V : Nat) (ve vo : Value) (B : Nat) (evs : List Ev) (ev : Ev) : Nat → World → List Value → Value → Prop
  | 0, w, ds, v => v = .pointer (some ⟨V, 0, none⟩)
  | 1, w, ds, v => v = .pointer (some ⟨V, 0, none⟩)
  | 2, w, ds, v => v = .pointer (some ⟨V, 0, none⟩)
  | 3, w, ds, v => v = .pointer (some ⟨V, 7, none⟩)
  | 4, w, ds, v => v = vo
  | 5, w, ds, v => v = ve
  | 6, w, ds, v => OneAt kEv w0.heap.size w v ev
  | 7, w, ds, v => AppAt kEv B w v (evs ++ [ev]) vo w0.heap.size
  | 8, w, ds, v => v = .pointer (some ⟨V, 0, none⟩)
  | 9, w, ds, v => v = .pointer (some ⟨V, 7, none⟩)
  | _, _, _, _ => True
theorem D6P_ext (w0 : World) (row : Option Nat) (V : Nat) (ve vo : Value) (B : Nat) (evs : List Ev) (ev : Ev) : ∀ i w w' ds v, D6P w0 row V ve vo B evs ev i w ds v → Ext w w' → D6P w0 row V ve vo B evs ev i w' ds v
  | 0, _, _, _, _, h, _ => h
  | 1, _, _, _, _, h, _ => h
  | 2, _, _, _, _, h, _ => h
  | 3, _, _, _, _, h, _ => h
  | 4, _, _, _, _, h, _ => h
  | 5, _, _, _, _, h, _ => h
  | 6, _, _, _, _, h, hE => OneAt.ext h hE
  | 7, _, _, _, _, h, hE => h.ext hE
  | 8, _, _, _, _, h, _ => h
  | 9, _, _, _, _, h, _ => h
  | _ + 10, _, _, _, _, _, _ => trivial
theorem D6P_sw (w0 : World) (row : Option Nat) (V : Nat) (ve vo : Value) (B : Nat) (evs : List Ev) (ev : Ev) (hrow : ∀ b, row = some b → b < w0.heap.size) : ∀ i w w' ds v, i ≠ 7 → D6P w0 row V ve vo B evs ev i w ds v → Wr row w w' → D6P w0 row V ve vo B evs ev i w' ds v
  | 0, _, _, _, _, _, h, _ => h
  | 1, _, _, _, _, _, h, _ => h
  | 2, _, _, _, _, _, h, _ => h
  | 3, _, _, _, _, _, h, _ => h
  | 4, _, _, _, _, _, h, _ => h
  | 5, _, _, _, _, _, h, _ => h
  | 6, _, _, _, _, _, h, hE => OneAt.sw h hE hrow
  | 7, _, _, _, _, hq, _, _ => absurd rfl hq
  | 8, _, _, _, _, _, h, _ => h
  | 9, _, _, _, _, _, h, _ => h
  | _ + 10, _, _, _, _, _, _, _ => trivial
section
variable (w0 : World) (row : Option Nat) (V : Nat) (ve vo : Value) (B : Nat) (evs : List Ev) (ev : Ev) (w : World) (ds : List Value) (v : Value)
theorem D6P_i0 (h : v = .pointer (some ⟨V, 0, none⟩)) : D6P w0 row V ve vo B evs ev 0 w ds v := h
theorem D6P_e0 (h : D6P w0 row V ve vo B evs ev 0 w ds v) : v = .pointer (some ⟨V, 0, none⟩) := h
theorem D6P_i1 (h : v = .pointer (some ⟨V, 0, none⟩)) : D6P w0 row V ve vo B evs ev 1 w ds v := h
theorem D6P_e1 (h : D6P w0 row V ve vo B evs ev 1 w ds v) : v = .pointer (some ⟨V, 0, none⟩) := h
theorem D6P_i2 (h : v = .pointer (some ⟨V, 0, none⟩)) : D6P w0 row V ve vo B evs ev 2 w ds v := h
theorem D6P_e2 (h : D6P w0 row V ve vo B evs ev 2 w ds v) : v = .pointer (some ⟨V, 0, none⟩) := h
theorem D6P_i3 (h : v = .pointer (some ⟨V, 7, none⟩)) : D6P w0 row V ve vo B evs ev 3 w ds v := h
theorem D6P_e3 (h : D6P w0 row V ve vo B evs ev 3 w ds v) : v = .pointer (some ⟨V, 7, none⟩) := h
theorem D6P_i4 (h : v = vo) : D6P w0 row V ve vo B evs ev 4 w ds v := h
theorem D6P_e4 (h : D6P w0 row V ve vo B evs ev 4 w ds v) : v = vo := h
theorem D6P_i5 (h : v = ve) : D6P w0 row V ve vo B evs ev 5 w ds v := h
theorem D6P_e5 (h : D6P w0 row V ve vo B evs ev 5 w ds v) : v = ve := h
theorem D6P_i6 (h : OneAt kEv w0.heap.size w v ev) : D6P w0 row V ve vo B evs ev 6 w ds v := h
theorem D6P_e6 (h : D6P w0 row V ve vo B evs ev 6 w ds v) : OneAt kEv w0.heap.size w v ev := h
theorem D6P_i7 (h : AppAt kEv B w v (evs ++ [ev]) vo w0.heap.size) : D6P w0 row V ve vo B evs ev 7 w ds v := h
theorem D6P_e7 (h : D6P w0 row V ve vo B evs ev 7 w ds v) : AppAt kEv B w v (evs ++ [ev]) vo w0.heap.size := h
theorem D6P_i8 (h : v = .pointer (some ⟨V, 0, none⟩)) : D6P w0 row V ve vo B evs ev 8 w ds v := h
theorem D6P_e8 (h : D6P w0 row V ve vo B evs ev 8 w ds v) : v = .pointer (some ⟨V, 0, none⟩) := h
theorem D6P_i9 (h : v = .pointer (some ⟨V, 7, none⟩)) : D6P w0 row V ve vo B evs ev 9 w ds v := h
theorem D6P_e9 (h : D6P w0 row V ve vo B evs ev 9 w ds v) : v = .pointer (some ⟨V, 7, none⟩) := h
end

theorem set_box7of8 {w : World} {P : Nat} {T : TypeId} {v0 v1 v2 v3 v4 v5 v6 v7 : Value} {fr : Nat × Nat} (h : w.heap[P]? = some (.cells #[v0, v1, v2, v3, v4, v5, v6, v7] T fr)) (u0 u1 u2 u3 u4 u5 u6 : Value) :
    ((((((((w.setCell ⟨P, 0, none⟩ (u0)).setCell ⟨P, 1, none⟩ (u1)).setCell ⟨P, 2, none⟩ (u2)).setCell ⟨P, 3, none⟩ (u3)).setCell ⟨P, 4, none⟩ (u4)).setCell ⟨P, 5, none⟩ (u5)).setCell ⟨P, 6, none⟩ (u6))).heap[P]? = some (.cells #[u0, u1, u2, u3, u4, u5, u6, v7] T fr) := by
  have h0 : ((w.setCell ⟨P, 0, none⟩ u0)).heap[P]? = some (.cells #[u0, v1, v2, v3, v4, v5, v6, v7] T fr) := by have := set_block (i := 0) h u0; simpa using this
  have h1 : (((w.setCell ⟨P, 0, none⟩ u0).setCell ⟨P, 1, none⟩ u1)).heap[P]? = some (.cells #[u0, u1, v2, v3, v4, v5, v6, v7] T fr) := by have := set_block (i := 1) h0 u1; simpa using this
  have h2 : ((((w.setCell ⟨P, 0, none⟩ u0).setCell ⟨P, 1, none⟩ u1).setCell ⟨P, 2, none⟩ u2)).heap[P]? = some (.cells #[u0, u1, u2, v3, v4, v5, v6, v7] T fr) := by have := set_block (i := 2) h1 u2; simpa using this
  have h3 : (((((w.setCell ⟨P, 0, none⟩ u0).setCell ⟨P, 1, none⟩ u1).setCell ⟨P, 2, none⟩ u2).setCell ⟨P, 3, none⟩ u3)).heap[P]? = some (.cells #[u0, u1, u2, u3, v4, v5, v6, v7] T fr) := by have := set_block (i := 3) h2 u3; simpa using this
  have h4 : ((((((w.setCell ⟨P, 0, none⟩ u0).setCell ⟨P, 1, none⟩ u1).setCell ⟨P, 2, none⟩ u2).setCell ⟨P, 3, none⟩ u3).setCell ⟨P, 4, none⟩ u4)).heap[P]? = some (.cells #[u0, u1, u2, u3, u4, v5, v6, v7] T fr) := by have := set_block (i := 4) h3 u4; simpa using this
  have h5 : (((((((w.setCell ⟨P, 0, none⟩ u0).setCell ⟨P, 1, none⟩ u1).setCell ⟨P, 2, none⟩ u2).setCell ⟨P, 3, none⟩ u3).setCell ⟨P, 4, none⟩ u4).setCell ⟨P, 5, none⟩ u5)).heap[P]? = some (.cells #[u0, u1, u2, u3, u4, u5, v6, v7] T fr) := by have := set_block (i := 5) h4 u5; simpa using this
  have h6 : ((((((((w.setCell ⟨P, 0, none⟩ u0).setCell ⟨P, 1, none⟩ u1).setCell ⟨P, 2, none⟩ u2).setCell ⟨P, 3, none⟩ u3).setCell ⟨P, 4, none⟩ u4).setCell ⟨P, 5, none⟩ u5).setCell ⟨P, 6, none⟩ u6)).heap[P]? = some (.cells #[u0, u1, u2, u3, u4, u5, u6, v7] T fr) := by have := set_block (i := 6) h5 u6; simpa using this
  exact h6

theorem blk_lt {w : World} {x : Nat} {o : Obj} (h : w.heap[x]? = some o) : x < w.heap.size := by
  rcases Nat.lt_or_ge x w.heap.size with h' | h'
  · exact h'
  · rw [Array.getElem?_eq_none h'] at h; cases h
/-- one that goes on to the end, at V: the crew, and what came; its memory has nothing to do with the blocks of S -/
structure DG (S : Nat → Prop) (w : World) (V g m : Nat) (c : Cw) (evs : List Ev) (v : Value) (A B : Option Addr) (e0 eo a b e : Nat) : Prop where
  me : m ≤ e
  box : w.heap[V]? = some (.cells #[.slice A c.ts.length a, .int .i64 g, .slice B c.dn.length b, .slice (some ⟨e0, eo, none⟩) m e, .bool c.over, .int .i64 c.st, .int .i64 c.id, v] 87)
  cr : CrewO (fun x => S x ∨ x = V ∨ v.ownBlock = some x) w m c A B e0 eo a b
  own : Ow kEv (V + 1) w v evs
theorem DG.ext {S : Nat → Prop} {w W : World} {V g m : Nat} {c : Cw} {evs : List Ev} {v : Value} {A B : Option Addr} {e0 eo a b e : Nat} (h : DG S w V g m c evs v A B e0 eo a b e) (hE : Ext w W) : DG S W V g m c evs v A B e0 eo a b e :=
  ⟨h.me, block_keep h.box hE, h.cr.ext hE, h.own.ext hE⟩
/-- what a step leaves -/
def DStepSaid (S : Nat → Prop) (V g m : Nat) (r : Cw × Ev) (evs : List Ev) (w : World) (ed : Ending) (w' : World) : Prop :=
  ∃ (v' : Value) (A B : Option Addr) (e0 a b : Nat), ed = .returned (.int .i64 0) ∧ DG S w' V g m r.1 (evs ++ [r.2]) v' A B e0 0 a b m ∧ Grew (fun x => V ≤ x) w w'

set_option maxHeartbeats 1600000 in
set_option maxRecDepth 100000 in
theorem dstep_any (S : Nat → Prop) (V g n m : Nat) (c : Cw) (evs : List Ev) (v : Value) (A B : Option Addr) (e0 eo a b e : Nat) (p q : Int) (w : World) (hS : ∀ x, S x → x < V) (h : DG S w V g m c evs v A B e0 eo a b e) (hI : ∃ done G, CwI g n m c done G)
    (n1 : 1 ≤ n) (n2 : n ≤ 900) (g1 : 1 ≤ g) (g2 : g ≤ 100) (m1 : 1 ≤ m) (m2 : m ≤ 8) (hst : c.st < 100000) (hid : c.id < 100000) (hp : in64 p) (hq : in64 q) (hl : evs.length ≤ 200000) :
    Calls Try.prog 55 #[.pointer (some ⟨V, 0, none⟩), .int .i64 p, .int .i64 q] w (DStepSaid S V g m (stepP g m c p q) evs w) := by
  obtain ⟨done, G, hI⟩ := hI
  have H := Lib.hid h
  have HI := Lib.hid hI
  have HS := Lib.hid hS
  have HPQ := Lib.hid (And.intro hp hq)
  have k0 : w.cell? ⟨V, 0, none⟩ = some (.slice A c.ts.length a) := (cell_of_row w (V) 0 _ _ _ h.box).trans rfl
  have k1 : w.cell? ⟨V, 1, none⟩ = some (.int .i64 g) := (cell_of_row w (V) 1 _ _ _ h.box).trans rfl
  have k2 : w.cell? ⟨V, 2, none⟩ = some (.slice B c.dn.length b) := (cell_of_row w (V) 2 _ _ _ h.box).trans rfl
  have k3 : w.cell? ⟨V, 3, none⟩ = some (.slice (some ⟨e0, eo, none⟩) m e) := (cell_of_row w (V) 3 _ _ _ h.box).trans rfl
  have k4 : w.cell? ⟨V, 4, none⟩ = some (.bool c.over) := (cell_of_row w (V) 4 _ _ _ h.box).trans rfl
  have k5 : w.cell? ⟨V, 5, none⟩ = some (.int .i64 c.st) := (cell_of_row w (V) 5 _ _ _ h.box).trans rfl
  have k6 : w.cell? ⟨V, 6, none⟩ = some (.int .i64 c.id) := (cell_of_row w (V) 6 _ _ _ h.box).trans rfl
  have k7 : w.cell? ⟨V, 7, none⟩ = some (v) := (cell_of_row w (V) 7 _ _ _ h.box).trans rfl
  have kf := fun o => frozen_of_row w (V) o _ _ h.box
  have lV := blk_lt h.box
  have HOKE : Hid (kEv.ok (stepP g m c p q).2) := Lib.hid (HI.out.evOk g1 n1 n2 m1 m2 _ _)
  obtain ⟨⟨c5, ev⟩, hr⟩ : ∃ x, stepP g m c p q = x := ⟨_, rfl⟩
  have HR := Lib.hid hr
  rw [hr] at HOKE ⊢
  clear h hI hS hp hq hr
  go_enter Try.func55, Try.ntmps55
  go_wp2_with fail
  have hh := cstep_any A B e0 eo a b e g n m c done G p q w (H.out.cr.at_ m1) H.out.me HI.out n1 n2 g1 g2 m1 m2 hst hid HPQ.out.1 HPQ.out.2
  refine hh.mono ?_
  clear hh
  rw [HR.out]
  rintro ed w1 ⟨A5, B5, e5, a5, b5, rfl, hC, hE⟩
  have hz := hE.size
  have HC := Lib.hid hC
  have HE := Lib.hid hE
  have HOK : Hid (kEv.ok ev) := HOKE
  have HB1 := Lib.hid (block_keep H.out.box hE)
  have lV1 : V < w1.heap.size := by omega
  have l0 : w1.cell? ⟨V, 0, none⟩ = some (.slice A c.ts.length a) := (cell_of_row w1 (V) 0 _ _ _ HB1.out).trans rfl
  have l1 : w1.cell? ⟨V, 1, none⟩ = some (.int .i64 g) := (cell_of_row w1 (V) 1 _ _ _ HB1.out).trans rfl
  have l2 : w1.cell? ⟨V, 2, none⟩ = some (.slice B c.dn.length b) := (cell_of_row w1 (V) 2 _ _ _ HB1.out).trans rfl
  have l3 : w1.cell? ⟨V, 3, none⟩ = some (.slice (some ⟨e0, eo, none⟩) m e) := (cell_of_row w1 (V) 3 _ _ _ HB1.out).trans rfl
  have l4 : w1.cell? ⟨V, 4, none⟩ = some (.bool c.over) := (cell_of_row w1 (V) 4 _ _ _ HB1.out).trans rfl
  have l5 : w1.cell? ⟨V, 5, none⟩ = some (.int .i64 c.st) := (cell_of_row w1 (V) 5 _ _ _ HB1.out).trans rfl
  have l6 : w1.cell? ⟨V, 6, none⟩ = some (.int .i64 c.id) := (cell_of_row w1 (V) 6 _ _ _ HB1.out).trans rfl
  have l7 : w1.cell? ⟨V, 7, none⟩ = some (v) := (cell_of_row w1 (V) 7 _ _ _ HB1.out).trans rfl
  have lf := fun o => frozen_of_row w1 (V) o _ _ HB1.out
  clear hC hE k0 k1 k2 k3 k4 k5 k6 k7 kf
  go_upto_region 5 with fail
  have HG8 : Hid (Grew (fun x => x = V) w1 ((((((((w1.setCell ⟨V, 0, none⟩ (.slice A5 c5.ts.length a5)).setCell ⟨V, 1, none⟩ (.int .i64 g)).setCell ⟨V, 2, none⟩ (.slice B5 c5.dn.length b5)).setCell ⟨V, 3, none⟩ (.slice (some ⟨e5, 0, none⟩) m m)).setCell ⟨V, 4, none⟩ (.bool c5.over)).setCell ⟨V, 5, none⟩ (.int .i64 c5.st)).setCell ⟨V, 6, none⟩ (.int .i64 c5.id)))) := Lib.hid (Grew.setCell (S := fun x => x = V) (p := ⟨V, 6, none⟩) (Grew.setCell (S := fun x => x = V) (p := ⟨V, 5, none⟩) (Grew.setCell (S := fun x => x = V) (p := ⟨V, 4, none⟩) (Grew.setCell (S := fun x => x = V) (p := ⟨V, 3, none⟩) (Grew.setCell (S := fun x => x = V) (p := ⟨V, 2, none⟩) (Grew.setCell (S := fun x => x = V) (p := ⟨V, 1, none⟩) (Grew.setCell (S := fun x => x = V) (p := ⟨V, 0, none⟩) (Grew.refl _ _) rfl _) rfl _) rfl _) rfl _) rfl _) rfl _) rfl _)
  have HE2 : Hid (Ext ((((((((w1.setCell ⟨V, 0, none⟩ (.slice A5 c5.ts.length a5)).setCell ⟨V, 1, none⟩ (.int .i64 g)).setCell ⟨V, 2, none⟩ (.slice B5 c5.dn.length b5)).setCell ⟨V, 3, none⟩ (.slice (some ⟨e5, 0, none⟩) m m)).setCell ⟨V, 4, none⟩ (.bool c5.over)).setCell ⟨V, 5, none⟩ (.int .i64 c5.st)).setCell ⟨V, 6, none⟩ (.int .i64 c5.id))) ((((((((((w1.setCell ⟨V, 0, none⟩ (.slice A5 c5.ts.length a5)).setCell ⟨V, 1, none⟩ (.int .i64 g)).setCell ⟨V, 2, none⟩ (.slice B5 c5.dn.length b5)).setCell ⟨V, 3, none⟩ (.slice (some ⟨e5, 0, none⟩) m m)).setCell ⟨V, 4, none⟩ (.bool c5.over)).setCell ⟨V, 5, none⟩ (.int .i64 c5.st)).setCell ⟨V, 6, none⟩ (.int .i64 c5.id)).alloc (.cells #[.slice A5 c5.ts.length a5, .int .i64 g, .slice B5 c5.dn.length b5, .slice (some ⟨e5, 0, none⟩) m m, .bool c5.over, .int .i64 c5.st, .int .i64 c5.id] 77)).alloc (.cells #[.int .i64 ev.wk, .int .i64 ev.fr, .int .i64 ev.tk, .bool ev.pt] 91)))) := Lib.hid (((Ext.refl _).alloc _).alloc _)
  have HBX : Hid (((((((((((w1.setCell ⟨V, 0, none⟩ (.slice A5 c5.ts.length a5)).setCell ⟨V, 1, none⟩ (.int .i64 g)).setCell ⟨V, 2, none⟩ (.slice B5 c5.dn.length b5)).setCell ⟨V, 3, none⟩ (.slice (some ⟨e5, 0, none⟩) m m)).setCell ⟨V, 4, none⟩ (.bool c5.over)).setCell ⟨V, 5, none⟩ (.int .i64 c5.st)).setCell ⟨V, 6, none⟩ (.int .i64 c5.id)).alloc (.cells #[.slice A5 c5.ts.length a5, .int .i64 g, .slice B5 c5.dn.length b5, .slice (some ⟨e5, 0, none⟩) m m, .bool c5.over, .int .i64 c5.st, .int .i64 c5.id] 77)).alloc (.cells #[.int .i64 ev.wk, .int .i64 ev.fr, .int .i64 ev.tk, .bool ev.pt] 91))).heap[V]? = some (.cells #[.slice A5 c5.ts.length a5, .int .i64 g, .slice B5 c5.dn.length b5, .slice (some ⟨e5, 0, none⟩) m m, .bool c5.over, .int .i64 c5.st, .int .i64 c5.id, v] 87)) := Lib.hid (block_keep (set_box7of8 HB1.out _ _ _ _ _ _ _) HE2.out)
  have HBY : Hid (((((((((((w1.setCell ⟨V, 0, none⟩ (.slice A5 c5.ts.length a5)).setCell ⟨V, 1, none⟩ (.int .i64 g)).setCell ⟨V, 2, none⟩ (.slice B5 c5.dn.length b5)).setCell ⟨V, 3, none⟩ (.slice (some ⟨e5, 0, none⟩) m m)).setCell ⟨V, 4, none⟩ (.bool c5.over)).setCell ⟨V, 5, none⟩ (.int .i64 c5.st)).setCell ⟨V, 6, none⟩ (.int .i64 c5.id)).alloc (.cells #[.slice A5 c5.ts.length a5, .int .i64 g, .slice B5 c5.dn.length b5, .slice (some ⟨e5, 0, none⟩) m m, .bool c5.over, .int .i64 c5.st, .int .i64 c5.id] 77)).alloc (.cells #[.int .i64 ev.wk, .int .i64 ev.fr, .int .i64 ev.tk, .bool ev.pt] 91))).heap[w1.heap.size + 1]? = some (.cells #[.int .i64 ev.wk, .int .i64 ev.fr, .int .i64 ev.tk, .bool ev.pt] 91)) := Lib.hid (by
    have h9 := heap_alloc2_new ((((((((w1.setCell ⟨V, 0, none⟩ (.slice A5 c5.ts.length a5)).setCell ⟨V, 1, none⟩ (.int .i64 g)).setCell ⟨V, 2, none⟩ (.slice B5 c5.dn.length b5)).setCell ⟨V, 3, none⟩ (.slice (some ⟨e5, 0, none⟩) m m)).setCell ⟨V, 4, none⟩ (.bool c5.over)).setCell ⟨V, 5, none⟩ (.int .i64 c5.st)).setCell ⟨V, 6, none⟩ (.int .i64 c5.id))) (.cells #[.slice A5 c5.ts.length a5, .int .i64 g, .slice B5 c5.dn.length b5, .slice (some ⟨e5, 0, none⟩) m m, .bool c5.over, .int .i64 c5.st, .int .i64 c5.id] 77) (.cells #[.int .i64 ev.wk, .int .i64 ev.fr, .int .i64 ev.tk, .bool ev.pt] 91)
    rw [show ((((((((w1.setCell ⟨V, 0, none⟩ (.slice A5 c5.ts.length a5)).setCell ⟨V, 1, none⟩ (.int .i64 g)).setCell ⟨V, 2, none⟩ (.slice B5 c5.dn.length b5)).setCell ⟨V, 3, none⟩ (.slice (some ⟨e5, 0, none⟩) m m)).setCell ⟨V, 4, none⟩ (.bool c5.over)).setCell ⟨V, 5, none⟩ (.int .i64 c5.st)).setCell ⟨V, 6, none⟩ (.int .i64 c5.id))).heap.size = w1.heap.size by simp] at h9
    exact h9)
  have hz8 : ((((((((((w1.setCell ⟨V, 0, none⟩ (.slice A5 c5.ts.length a5)).setCell ⟨V, 1, none⟩ (.int .i64 g)).setCell ⟨V, 2, none⟩ (.slice B5 c5.dn.length b5)).setCell ⟨V, 3, none⟩ (.slice (some ⟨e5, 0, none⟩) m m)).setCell ⟨V, 4, none⟩ (.bool c5.over)).setCell ⟨V, 5, none⟩ (.int .i64 c5.st)).setCell ⟨V, 6, none⟩ (.int .i64 c5.id)).alloc (.cells #[.slice A5 c5.ts.length a5, .int .i64 g, .slice B5 c5.dn.length b5, .slice (some ⟨e5, 0, none⟩) m m, .bool c5.over, .int .i64 c5.st, .int .i64 c5.id] 77)).alloc (.cells #[.int .i64 ev.wk, .int .i64 ev.fr, .int .i64 ev.tk, .bool ev.pt] 91))).heap.size = w1.heap.size + 2 := by simp
  have HGW : Hid (Grew (fun x => x = V) w1 ((((((((((w1.setCell ⟨V, 0, none⟩ (.slice A5 c5.ts.length a5)).setCell ⟨V, 1, none⟩ (.int .i64 g)).setCell ⟨V, 2, none⟩ (.slice B5 c5.dn.length b5)).setCell ⟨V, 3, none⟩ (.slice (some ⟨e5, 0, none⟩) m m)).setCell ⟨V, 4, none⟩ (.bool c5.over)).setCell ⟨V, 5, none⟩ (.int .i64 c5.st)).setCell ⟨V, 6, none⟩ (.int .i64 c5.id)).alloc (.cells #[.slice A5 c5.ts.length a5, .int .i64 g, .slice B5 c5.dn.length b5, .slice (some ⟨e5, 0, none⟩) m m, .bool c5.over, .int .i64 c5.st, .int .i64 c5.id] 77)).alloc (.cells #[.int .i64 ev.wk, .int .i64 ev.fr, .int .i64 ev.tk, .bool ev.pt] 91)))) := Lib.hid (HG8.out.ext HE2.out)
  clear HE2 HG8 l0 l1 l2 l3 l4 l5 l6 l7 lf HB1
  generalize (((((((((w1.setCell ⟨V, 0, none⟩ (.slice A5 c5.ts.length a5)).setCell ⟨V, 1, none⟩ (.int .i64 g)).setCell ⟨V, 2, none⟩ (.slice B5 c5.dn.length b5)).setCell ⟨V, 3, none⟩ (.slice (some ⟨e5, 0, none⟩) m m)).setCell ⟨V, 4, none⟩ (.bool c5.over)).setCell ⟨V, 5, none⟩ (.int .i64 c5.st)).setCell ⟨V, 6, none⟩ (.int .i64 c5.id)).alloc (.cells #[.slice A5 c5.ts.length a5, .int .i64 g, .slice B5 c5.dn.length b5, .slice (some ⟨e5, 0, none⟩) m m, .bool c5.over, .int .i64 c5.st, .int .i64 c5.id] 77)).alloc (.cells #[.int .i64 ev.wk, .int .i64 ev.fr, .int .i64 ev.tk, .bool ev.pt] 91)) = w8 at *
  have x0 : w8.cell? ⟨V, 0, none⟩ = some (.slice A5 c5.ts.length a5) := (cell_of_row w8 (V) 0 _ _ _ HBX.out).trans rfl
  have x1 : w8.cell? ⟨V, 1, none⟩ = some (.int .i64 g) := (cell_of_row w8 (V) 1 _ _ _ HBX.out).trans rfl
  have x2 : w8.cell? ⟨V, 2, none⟩ = some (.slice B5 c5.dn.length b5) := (cell_of_row w8 (V) 2 _ _ _ HBX.out).trans rfl
  have x3 : w8.cell? ⟨V, 3, none⟩ = some (.slice (some ⟨e5, 0, none⟩) m m) := (cell_of_row w8 (V) 3 _ _ _ HBX.out).trans rfl
  have x4 : w8.cell? ⟨V, 4, none⟩ = some (.bool c5.over) := (cell_of_row w8 (V) 4 _ _ _ HBX.out).trans rfl
  have x5 : w8.cell? ⟨V, 5, none⟩ = some (.int .i64 c5.st) := (cell_of_row w8 (V) 5 _ _ _ HBX.out).trans rfl
  have x6 : w8.cell? ⟨V, 6, none⟩ = some (.int .i64 c5.id) := (cell_of_row w8 (V) 6 _ _ _ HBX.out).trans rfl
  have x7 : w8.cell? ⟨V, 7, none⟩ = some (v) := (cell_of_row w8 (V) 7 _ _ _ HBX.out).trans rfl
  have xf := fun o => frozen_of_row w8 (V) o _ _ HBX.out
  have y0 : w8.cell? ⟨w1.heap.size + 1, 0, none⟩ = some (.int .i64 ev.wk) := (cell_of_row w8 (w1.heap.size + 1) 0 _ _ _ HBY.out).trans rfl
  have y1 : w8.cell? ⟨w1.heap.size + 1, 1, none⟩ = some (.int .i64 ev.fr) := (cell_of_row w8 (w1.heap.size + 1) 1 _ _ _ HBY.out).trans rfl
  have y2 : w8.cell? ⟨w1.heap.size + 1, 2, none⟩ = some (.int .i64 ev.tk) := (cell_of_row w8 (w1.heap.size + 1) 2 _ _ _ HBY.out).trans rfl
  have y3 : w8.cell? ⟨w1.heap.size + 1, 3, none⟩ = some (.bool ev.pt) := (cell_of_row w8 (w1.heap.size + 1) 3 _ _ _ HBY.out).trans rfl
  have yf := fun o => frozen_of_row w8 (w1.heap.size + 1) o _ _ HBY.out
  obtain ⟨Ao, co, hv, hco⟩ := H.out.own.slice
  obtain ⟨no, hno⟩ : ∃ no, evs.length = no := ⟨_, rfl⟩
  rw [hno] at hv hco
  subst hv
  obtain ⟨row, hrw⟩ : ∃ row, Value.ownBlock (.slice Ao no co) = row := ⟨_, rfl⟩
  have hrlt : ∀ x, row = some x → V + 1 ≤ x ∧ x < w.heap.size := fun x hx => H.out.own.lt x (hrw.trans hx)
  have hrow : ∀ x, row = some x → x < w8.heap.size := fun x hx => by have := hrlt x hx; omega
  have nV : ¬ row = some V := fun hh => by have := hrlt _ hh; omega
  have nY : ¬ row = some (w1.heap.size + 1) := fun hh => by have := hrlt _ hh; omega
  have HRL := Lib.hid hrlt
  have HO8 : Hid (Ow kEv (V + 1) w8 (.slice Ao no co) evs) := Lib.hid ((H.out.own.ext HE.out).grew HGW.out (fun x hx e => by have := (H.out.own.lt x hx).1; omega))
  have HLL : Hid (evs.length + [ev].length ≤ 1048576) := Lib.hid (by simp; omega)
  have HBS : Hid (V + 1 ≤ w8.heap.size) := Lib.hid (by omega)
  have lV8 : V < w8.heap.size := by omega
  clear hno hco hrlt
  refine MonoW.wp_region_write 10 7 (Wr row) (D6P w8 row V (.agg #[.int .i64 ev.wk, .int .i64 ev.fr, .int .i64 ev.tk, .bool ev.pt]) (.slice Ao no co) (V + 1) evs ev) (by kernel_rfl) (by kernel_rfl) (Wr.of row) (Wr.tr row) (D6P_ext w8 row V (.agg #[.int .i64 ev.wk, .int .i64 ev.fr, .int .i64 ev.tk, .bool ev.pt]) (.slice Ao no co) (V + 1) evs ev) (D6P_sw w8 row V (.agg #[.int .i64 ev.wk, .int .i64 ev.fr, .int .i64 ev.tk, .bool ev.pt]) (.slice Ao no co) (V + 1) evs ev hrow) ?_ ?_
  · intro i o hi ho vals w5 hE hQ hcl
    have hi' : i = 0 ∨ i = 1 ∨ i = 2 ∨ i = 3 ∨ i = 4 ∨ i = 5 ∨ i = 6 ∨ i = 7 ∨ i = 8 ∨ i = 9 := by omega
    rcases hi' with rfl | rfl | rfl | rfl | rfl | rfl | rfl | rfl | rfl | rfl
    · simp only [List.getElem?_cons_succ, List.getElem?_cons_zero, Option.some.injEq] at ho
      subst ho
      rw [if_pos (Mono.wanted_none rfl)]
      clear hcl
      refine Mono.yields_same (.pointer (some ⟨V, 0, none⟩)) w5 ?_ ⟨MonoW.Out.of (Wr.of row) (Ext.refl _), D6P_i0 _ _ _ _ _ _ _ _ _ _ _ rfl⟩
      simp only [Mono.all, List.take, Act.put]
      go_simp
    · simp only [List.getElem?_cons_succ, List.getElem?_cons_zero, Option.some.injEq] at ho
      subst ho
      rw [if_pos (Mono.wanted_none rfl)]
      clear hcl
      refine Mono.yields_same (.pointer (some ⟨V, 0, none⟩)) w5 ?_ ⟨MonoW.Out.of (Wr.of row) (Ext.refl _), D6P_i1 _ _ _ _ _ _ _ _ _ _ _ rfl⟩
      simp only [Mono.all, List.take, Act.put]
      go_simp
    · simp only [List.getElem?_cons_succ, List.getElem?_cons_zero, Option.some.injEq] at ho
      subst ho
      rw [if_pos (Mono.wanted_none rfl)]
      have h1 : vals 1 = .pointer (some ⟨V, 0, none⟩) := D6P_e1 _ _ _ _ _ _ _ _ _ _ _ (hcl 1 (by kernel_rfl))
      clear hcl
      refine Mono.yields_same (.pointer (some ⟨V, 0, none⟩)) w5 ?_ ⟨MonoW.Out.of (Wr.of row) (Ext.refl _), D6P_i2 _ _ _ _ _ _ _ _ _ _ _ rfl⟩
      simp only [Mono.all, List.take, Act.put]
      go_simp
    · simp only [List.getElem?_cons_succ, List.getElem?_cons_zero, Option.some.injEq] at ho
      subst ho
      rw [if_pos (Mono.wanted_none rfl)]
      have h2 : vals 2 = .pointer (some ⟨V, 0, none⟩) := D6P_e2 _ _ _ _ _ _ _ _ _ _ _ (hcl 2 (by kernel_rfl))
      clear hcl
      refine Mono.yields_same (.pointer (some ⟨V, 7, none⟩)) w5 ?_ ⟨MonoW.Out.of (Wr.of row) (Ext.refl _), D6P_i3 _ _ _ _ _ _ _ _ _ _ _ rfl⟩
      simp only [Mono.all, List.take, Act.put]
      go_simp
    · simp only [List.getElem?_cons_succ, List.getElem?_cons_zero, Option.some.injEq] at ho
      subst ho
      rw [if_pos (Mono.wanted_none rfl)]
      have h3 : vals 3 = .pointer (some ⟨V, 7, none⟩) := D6P_e3 _ _ _ _ _ _ _ _ _ _ _ (hcl 3 (by kernel_rfl))
      have l7 := hE.cell x7 nV
      clear hcl
      refine Mono.yields_same (.slice Ao no co) w5 ?_ ⟨MonoW.Out.of (Wr.of row) (Ext.refl _), D6P_i4 _ _ _ _ _ _ _ _ _ _ _ rfl⟩
      simp only [Mono.all, List.take, Act.put]
      go_simp
    · simp only [List.getElem?_cons_succ, List.getElem?_cons_zero, Option.some.injEq] at ho
      subst ho
      rw [if_pos (Mono.wanted_none rfl)]
      have l0 := hE.cell y0 nY
      have l1 := hE.cell y1 nY
      have l2 := hE.cell y2 nY
      have l3 := hE.cell y3 nY
      clear hcl
      refine Mono.yields_same (.agg #[.int .i64 ev.wk, .int .i64 ev.fr, .int .i64 ev.tk, .bool ev.pt]) w5 ?_ ⟨MonoW.Out.of (Wr.of row) (Ext.refl _), D6P_i5 _ _ _ _ _ _ _ _ _ _ _ rfl⟩
      simp only [Mono.all, List.take, Act.put]
      go_simp
    · simp only [List.getElem?_cons_succ, List.getElem?_cons_zero, Option.some.injEq] at ho
      subst ho
      rw [if_pos (Mono.wanted_none rfl)]
      have h2 : vals 5 = .agg #[.int .i64 ev.wk, .int .i64 ev.fr, .int .i64 ev.tk, .bool ev.pt] := (D6P_e5 _ _ _ _ _ _ _ _ _ _ _ (hcl 5 (by kernel_rfl)))
      clear hcl
      refine Mono.yields_same (.slice (some ⟨w5.heap.size, 0, none⟩) 1 1) (w5.alloc (.cells #[.int .i64 ev.wk, .int .i64 ev.fr, .int .i64 ev.tk, .bool ev.pt] kEv.e)) ?_ ⟨MonoW.Out.of (Wr.of row) ((Ext.refl _).alloc _), D6P_i6 _ _ _ _ _ _ _ _ _ _ _ (OneAt.made kEv w5 hE.size _ _ rfl HOKE.out)⟩
      simp only [Mono.all, List.take, Act.put, kEv]
      go_simp
    · simp only [List.getElem?_cons_succ, List.getElem?_cons_zero, Option.some.injEq] at ho
      subst ho
      rw [if_pos (Mono.wanted_none rfl)]
      obtain ⟨p, h3, o3⟩ := (D6P_e6 _ _ _ _ _ _ _ _ _ _ _ (hcl 6 (by kernel_rfl)))
      have h1 : vals 4 = .slice Ao no co := (D6P_e4 _ _ _ _ _ _ _ _ _ _ _ (hcl 4 (by kernel_rfl)))
      have hX := hQ rfl
      clear hcl
      refine Kd.yields_grow kEv (B := V + 1) (n := w8.heap.size) (q := 7) (.tmp 32) (.tmp 34) (v := .slice Ao no co) (y := .slice (some ⟨p, 0, none⟩) 1 1) (xs := evs) (ys := [ev]) (HO8.out.ext hX) o3.rd HLL.out (Nat.le_trans HBS.out hX.size) hX.size rfl rfl (by rw [← h1]; kernel_rfl) (by rw [← h3]; kernel_rfl) ?_
      intro v' w' hA hO
      exact ⟨by rw [← hrw]; exact hO, D6P_i7 _ _ _ _ _ _ _ _ _ _ _ hA⟩
    · simp only [List.getElem?_cons_succ, List.getElem?_cons_zero, Option.some.injEq] at ho
      subst ho
      rw [if_pos (Mono.wanted_none rfl)]
      have h0 : vals 0 = .pointer (some ⟨V, 0, none⟩) := D6P_e0 _ _ _ _ _ _ _ _ _ _ _ (hcl 0 (by kernel_rfl))
      clear hcl
      refine Mono.yields_same (.pointer (some ⟨V, 0, none⟩)) w5 ?_ ⟨MonoW.Out.of (Wr.of row) (Ext.refl _), D6P_i8 _ _ _ _ _ _ _ _ _ _ _ rfl⟩
      simp only [Mono.all, List.take, Act.put]
      go_simp
    · simp only [List.getElem?_cons_succ, List.getElem?_cons_zero, Option.some.injEq] at ho
      subst ho
      rw [if_pos (Mono.wanted_none rfl)]
      have h8 : vals 8 = .pointer (some ⟨V, 0, none⟩) := D6P_e8 _ _ _ _ _ _ _ _ _ _ _ (hcl 8 (by kernel_rfl))
      clear hcl
      refine Mono.yields_same (.pointer (some ⟨V, 7, none⟩)) w5 ?_ ⟨MonoW.Out.of (Wr.of row) (Ext.refl _), D6P_i9 _ _ _ _ _ _ _ _ _ _ _ rfl⟩
      simp only [Mono.all, List.take, Act.put]
      go_simp
  · intro vals w5 hE hv
    have hA := (D6P_e7 _ _ _ _ _ _ _ _ _ _ _ (hv 7 (by omega)))
    have ee9 := (D6P_e9 _ _ _ _ _ _ _ _ _ _ _ (hv 9 (by omega)))
    obtain ⟨Az, cz, ee7, hcz⟩ := hA.1.slice
    obtain ⟨nz, hnz⟩ : ∃ nz, (evs ++ [ev]).length = nz := ⟨_, rfl⟩
    rw [hnz] at ee7
    rw [ee7] at hA
    have HA := Lib.hid hA
    have HG := Lib.hid hE
    have hbP : w5.heap[V]? = some (.cells #[.slice A5 c5.ts.length a5, .int .i64 g, .slice B5 c5.dn.length b5, .slice (some ⟨e5, 0, none⟩) m m, .bool c5.over, .int .i64 c5.st, .int .i64 c5.id, .slice Ao no co] 87) := block_wr HBX.out hE nV
    have z0 : w5.cell? ⟨V, 0, none⟩ = some (.slice A5 c5.ts.length a5) := (cell_of_row w5 (V) 0 _ _ _ hbP).trans rfl
    have z1 : w5.cell? ⟨V, 1, none⟩ = some (.int .i64 g) := (cell_of_row w5 (V) 1 _ _ _ hbP).trans rfl
    have z2 : w5.cell? ⟨V, 2, none⟩ = some (.slice B5 c5.dn.length b5) := (cell_of_row w5 (V) 2 _ _ _ hbP).trans rfl
    have z3 : w5.cell? ⟨V, 3, none⟩ = some (.slice (some ⟨e5, 0, none⟩) m m) := (cell_of_row w5 (V) 3 _ _ _ hbP).trans rfl
    have z4 : w5.cell? ⟨V, 4, none⟩ = some (.bool c5.over) := (cell_of_row w5 (V) 4 _ _ _ hbP).trans rfl
    have z5 : w5.cell? ⟨V, 5, none⟩ = some (.int .i64 c5.st) := (cell_of_row w5 (V) 5 _ _ _ hbP).trans rfl
    have z6 : w5.cell? ⟨V, 6, none⟩ = some (.int .i64 c5.id) := (cell_of_row w5 (V) 6 _ _ _ hbP).trans rfl
    have z7 : w5.cell? ⟨V, 7, none⟩ = some (.slice Ao no co) := (cell_of_row w5 (V) 7 _ _ _ hbP).trans rfl
    have zf := fun o => frozen_of_row w5 (V) o _ _ hbP
    have HBP := Lib.hid hbP
    have lV5 : V < w5.heap.size := blk_lt hbP
    clear hA hbP hE hcz hnz
    simp only [Mono.all, List.take, List.drop, Act.put]
    go_wp2_with fail
    go_ret
    have hGV : Grew (fun x => x = V) w5 (w5.setCell ⟨V, 7, none⟩ (.slice Az nz cz)) := Grew.setCell (S := fun x => x = V) (p := ⟨V, 7, none⟩) (Grew.refl _ _) rfl _
    have hGr : Grew (fun x => x = V ∨ row = some x) w8 (w5.setCell ⟨V, 7, none⟩ (.slice Az nz cz)) := (HG.out.mono (fun x _ hx => .inr hx)).trans (hGV.mono (fun x _ hx => .inl hx))
    have hGA : Grew (fun x => x = V ∨ row = some x) w1 (w5.setCell ⟨V, 7, none⟩ (.slice Az nz cz)) := (HGW.out.mono (fun x _ hx => .inl hx)).trans hGr
    refine ⟨.slice Az nz cz, A5, B5, e5, a5, b5, rfl, ⟨Nat.le_refl _, ?_, ?_, ?_⟩, ?_⟩
    · have h9 := set_block (i := 7) HBP.out (.slice Az nz cz)
      simpa using h9
    · refine HC.out.later m1 (hGA.mono (fun x hx hh => ?_)) (fun x hx hT => ?_)
      · rcases hh with hh | hh
        · omega
        · have := (HRL.out x hh).2; omega
      · rcases hT with hT | hT | hT
        · have := HS.out x hT; omega
        · omega
        · rcases HA.out.2 with h9 | ⟨p, h9, h10⟩
          · rw [h9, hrw] at hT
            have := (HRL.out x hT).2; omega
          · rw [h9] at hT; cases hT; omega
    · exact HA.out.1.grew hGV (fun x hx e => by have := (HA.out.1.lt x hx).1; omega)
    · exact (Grew.of HE.out).trans (hGA.mono (fun x _ hx => by
        rcases hx with hx | hx
        · omega
        · have := (HRL.out x hx).1; omega))

set_option maxRecDepth 100000 in
theorem dholds_yes (S : Nat → Prop) (V g m : Nat) (c : Cw) (evs : List Ev) (v : Value) (A B : Option Addr) (e0 eo a b e : Nat) (w : World) (h : DG S w V g m c evs v A B e0 eo a b e) (m1 : 1 ≤ m) (m2 : m ≤ 8) (hp : 0 < (held c.D).length) (hl : (held c.D).length ≤ 1000000) :
    Calls Try.prog 69 #[.pointer (some ⟨V, 0, none⟩)] w fun ed w' => ed = .returned (.bool true) ∧ Ext w w' := by
  have H := Lib.hid h
  have k0 : w.cell? ⟨V, 0, none⟩ = some (.slice A c.ts.length a) := (cell_of_row w (V) 0 _ _ _ h.box).trans rfl
  have k1 : w.cell? ⟨V, 1, none⟩ = some (.int .i64 g) := (cell_of_row w (V) 1 _ _ _ h.box).trans rfl
  have k2 : w.cell? ⟨V, 2, none⟩ = some (.slice B c.dn.length b) := (cell_of_row w (V) 2 _ _ _ h.box).trans rfl
  have k3 : w.cell? ⟨V, 3, none⟩ = some (.slice (some ⟨e0, eo, none⟩) m e) := (cell_of_row w (V) 3 _ _ _ h.box).trans rfl
  have k4 : w.cell? ⟨V, 4, none⟩ = some (.bool c.over) := (cell_of_row w (V) 4 _ _ _ h.box).trans rfl
  have k5 : w.cell? ⟨V, 5, none⟩ = some (.int .i64 c.st) := (cell_of_row w (V) 5 _ _ _ h.box).trans rfl
  have k6 : w.cell? ⟨V, 6, none⟩ = some (.int .i64 c.id) := (cell_of_row w (V) 6 _ _ _ h.box).trans rfl
  have k7 : w.cell? ⟨V, 7, none⟩ = some (v) := (cell_of_row w (V) 7 _ _ _ h.box).trans rfl
  have kf := fun o => frozen_of_row w (V) o _ _ h.box
  obtain ⟨N0, hN0⟩ : ∃ N0, (held c.D).length = N0 := ⟨_, rfl⟩
  have HN0 := Lib.hid hN0
  rw [hN0] at hp hl
  have hp' : (0 : Int) < N0 := by omega
  clear h hN0
  go_enter Try.func69, Try.ntmps69
  go_wp2_with fail
  refine (cheld_any A B e0 eo a b e g m c _ w ((H.out.cr.at_ m1).deq.choose_spec) m2 (by rw [HN0.out]; omega)).mono ?_
  rintro ed w1 ⟨rfl, hE⟩
  rw [HN0.out]
  have HE := Lib.hid hE
  clear hE
  go_wp2_with fail
  go_ret
  exact ⟨ret_bool (by first | rfl | simp; omega), HE.out⟩
end Go.Proofs.Ytggjjjfdkgfoiaa

/- Plain words of a drain under way, and of picks under way. No program in it. -/
namespace Go.Proofs.Ytggjjjfdkgfoiaa.Plain

theorem drainP_ov (g m f t : Nat) (c : Cw) (h : c.over = true) : drainP g m f t c = (c, []) := by
  cases f with
  | zero => rfl
  | succ f => unfold drainP; rw [if_pos h]
theorem drainP_nx (g m f t : Nat) (c : Cw) (h : c.over = false) : drainP g m (f + 1) t c = ((drainP g m f (t + 1) (stepP g m c (dpick m t).1 (dpick m t).2).1).1, (stepP g m c (dpick m t).1 (dpick m t).2).2 :: (drainP g m f (t + 1) (stepP g m c (dpick m t).1 (dpick m t).2).1).2) := by
  conv => lhs; unfold drainP
  rw [if_neg (by rw [h]; decide)]
theorem dpick_eq (m k j : Nat) (hj : j < m) : dpick m (k * m + j) = ((j : Int), (j : Int) + 1 + k) := by
  unfold dpick
  rw [Nat.add_comm, Nat.add_mul_mod_self_right, Nat.mod_eq_of_lt hj, Nat.add_mul_div_right _ _ (by omega), Nat.div_eq_of_lt hj]
  simp
theorem untilP_ov (g m : Nat) (c : Cw) (l : List (Int × Int)) (h : c.over = true) : untilP g m c l = (c, []) := by
  cases l with
  | nil => rfl
  | cons x l => unfold untilP; rw [if_pos h]
theorem untilP_nx (g m k : Nat) (c : Cw) (l : List (Int × Int)) (hk : k < l.length) (h : c.over = false) : untilP g m c (l.drop k) = ((untilP g m (stepP g m c (l.getD k (0, 0)).1 (l.getD k (0, 0)).2).1 (l.drop (k + 1))).1, (stepP g m c (l.getD k (0, 0)).1 (l.getD k (0, 0)).2).2 :: (untilP g m (stepP g m c (l.getD k (0, 0)).1 (l.getD k (0, 0)).2).1 (l.drop (k + 1))).2) := by
  rw [List.drop_eq_getElem_cons hk, List.getD_eq_getElem?_getD, List.getElem?_eq_getElem hk]
  conv => lhs; unfold untilP
  rw [if_neg (by rw [h]; decide)]
  rfl
/-- a drain, t steps on (or over) -/
structure DrSt (g n m N : Nat) (c0 : Cw) (t : Nat) (c : Cw) (ds : List Ev) : Prop where
  inv : ∃ done G, CwI g n m c done G
  st : c.st = c0.st + ds.length
  id : c.id ≤ c0.id + ds.length
  len : ds.length ≤ N
  at_ : (c.over = true ∧ drainP g m N 0 c0 = (c, ds)) ∨ (c.over = false ∧ t ≤ N ∧ ds.length = t ∧ drainP g m N 0 c0 = ((drainP g m (N - t) t c).1, ds ++ (drainP g m (N - t) t c).2))
theorem DrSt.start {g n m N : Nat} {c0 : Cw} (h : ∃ done G, CwI g n m c0 done G) : DrSt g n m N c0 0 c0 [] := by
  refine ⟨h, rfl, Nat.le_refl _, Nat.zero_le _, ?_⟩
  cases ho : c0.over with
  | true => exact .inl ⟨rfl, drainP_ov _ _ _ _ _ ho⟩
  | false => exact .inr ⟨rfl, Nat.zero_le _, rfl, by simp⟩
theorem DrSt.skip {g n m N : Nat} {c0 : Cw} {t : Nat} {c : Cw} {ds : List Ev} (h : DrSt g n m N c0 t c ds) (ho : c.over = true) (t' : Nat) : DrSt g n m N c0 t' c ds := by
  obtain ⟨h1, h2, h3, h4, h5⟩ := h
  rcases h5 with h5 | ⟨h5, _⟩
  · exact ⟨h1, h2, h3, h4, .inl h5⟩
  · rw [ho] at h5; cases h5
theorem DrSt.done {g n m N : Nat} {c0 : Cw} {t : Nat} {c : Cw} {ds : List Ev} (h : DrSt g n m N c0 t c ds) (ho : c.over = true) : drainP g m N 0 c0 = (c, ds) := by
  rcases h.at_ with h5 | ⟨h5, _⟩
  · exact h5.2
  · rw [ho] at h5; cases h5
theorem DrSt.lt {g n m N : Nat} {c0 : Cw} {t : Nat} {c : Cw} {ds : List Ev} (h : DrSt g n m N c0 t c ds) (ho : c.over = false) (he : (drainP g m N 0 c0).1.over = true) : t < N ∧ ds.length = t := by
  rcases h.at_ with ⟨h5, _⟩ | ⟨_, h6, h7, h8⟩
  · rw [ho] at h5; cases h5
  · refine ⟨?_, h7⟩
    rcases Nat.lt_or_ge t N with h9 | h9
    · exact h9
    · exfalso
      rw [h8, show N - t = 0 by omega] at he
      have h5 : c.over = true := he
      rw [ho] at h5; cases h5
theorem DrSt.step {g n m N : Nat} {c0 : Cw} {t : Nat} {c : Cw} {ds : List Ev} (hg : 1 ≤ g) (hm : 1 ≤ m) (h : DrSt g n m N c0 t c ds) (ho : c.over = false) (he : (drainP g m N 0 c0).1.over = true) : DrSt g n m N c0 (t + 1) (stepP g m c (dpick m t).1 (dpick m t).2).1 (ds ++ [(stepP g m c (dpick m t).1 (dpick m t).2).2]) := by
  obtain ⟨hlt, hlen⟩ := h.lt ho he
  obtain ⟨h1, h2, h3, h4, h5⟩ := h
  obtain ⟨s1, s2, s3⟩ := stepP_st g m c (dpick m t).1 (dpick m t).2
  obtain ⟨d, G, hI⟩ := h1
  rcases h5 with ⟨h5, _⟩ | ⟨_, h6, h7, h8⟩
  · rw [ho] at h5; cases h5
  · rw [show N - t = (N - (t + 1)) + 1 by omega, drainP_nx _ _ _ _ _ ho] at h8
    refine ⟨hI.stepD hg hm _ _, by rw [List.length_append]; simp only [List.length_singleton]; omega, by rw [List.length_append]; simp only [List.length_singleton]; omega, by rw [List.length_append]; simp only [List.length_singleton]; omega, ?_⟩
    cases ho' : (stepP g m c (dpick m t).1 (dpick m t).2).1.over with
    | true =>
      refine .inl ⟨rfl, ?_⟩
      rw [h8, drainP_ov _ _ _ _ _ ho']
    | false =>
      refine .inr ⟨rfl, by omega, by rw [List.length_append]; simp only [List.length_singleton]; omega, ?_⟩
      rw [h8, List.append_assoc]
      rfl
/-- picks, k of them on -/
structure UnSt (g n m : Nat) (picks : List (Int × Int)) (k : Nat) (c : Cw) (evs : List Ev) : Prop where
  been : Been g n m c evs
  eq : untilP g m (beginC n m) picks = ((untilP g m c (picks.drop k)).1, evs ++ (untilP g m c (picks.drop k)).2)
  len : evs.length ≤ k
theorem UnSt.start {g n m : Nat} {picks : List (Int × Int)} (hn : 1 ≤ n) (hm : 1 ≤ m) : UnSt g n m picks 0 (beginC n m) [] := ⟨Been.begin g n m hn hm, by simp, Nat.le_refl _⟩
theorem UnSt.step {g n m : Nat} {picks : List (Int × Int)} {k : Nat} {c : Cw} {evs : List Ev} (hg : 1 ≤ g) (hm : 1 ≤ m) (h : UnSt g n m picks k c evs) (hk : k < picks.length) (ho : c.over = false) : UnSt g n m picks (k + 1) (stepP g m c (picks.getD k (0, 0)).1 (picks.getD k (0, 0)).2).1 (evs ++ [(stepP g m c (picks.getD k (0, 0)).1 (picks.getD k (0, 0)).2).2]) := by
  refine ⟨h.been.step hg hm _ _, ?_, by have := h.len; rw [List.length_append]; simp only [List.length_singleton]; omega⟩
  rw [h.eq, untilP_nx g m k c picks hk ho, List.append_assoc]
  rfl
theorem UnSt.over {g n m : Nat} {picks : List (Int × Int)} {k : Nat} {c : Cw} {evs : List Ev} (h : UnSt g n m picks k c evs) (ho : c.over = true) : untilP g m (beginC n m) picks = (c, evs) := by
  rw [h.eq, untilP_ov _ _ _ _ ho]; simp
theorem UnSt.done {g n m : Nat} {picks : List (Int × Int)} {k : Nat} {c : Cw} {evs : List Ev} (h : UnSt g n m picks k c evs) (hk : picks.length ≤ k) : untilP g m (beginC n m) picks = (c, evs) := by
  rw [h.eq, List.drop_of_length_le hk]; simp [untilP]
end Go.Proofs.Ytggjjjfdkgfoiaa.Plain

/- The program's drain: a round, picks, to the end. Written by wip/mk_d6b.py. -/
namespace Go.Proofs.Ytggjjjfdkgfoiaa
open Go.BigFrame
open Go.RowKit Go.Proofs.Ytggjjjfdkgfoiaa.Plain

/-- what some steps of a drain leave -/
def DOnSaid (S : Nat → Prop) (V g n m N t : Nat) (c0 : Cw) (evs0 : List Ev) (w : World) (ed : Ending) (w' : World) : Prop :=
  ∃ (c : Cw) (ds : List Ev) (v : Value) (A B : Option Addr) (e0 eo a b e : Nat), ed = .returned (.int .i64 0) ∧ DrSt g n m N c0 t c ds ∧ DG S w' V g m c (evs0 ++ ds) v A B e0 eo a b e ∧ Grew (fun x => V ≤ x) w w'
theorem held_few {g n m : Nat} {c : Cw} (hg : 1 ≤ g) (hn : 1 ≤ n) (n2 : n ≤ 900) (h : ∃ done G, CwI g n m c done G) : (held c.D).length ≤ 4000 := by
  obtain ⟨d, G, hI⟩ := h
  have h1 := (CrI.fresh hI).2.2.2
  have h2 := hI.few hg hn
  omega
set_option maxHeartbeats 1600000 in
set_option maxRecDepth 100000 in
theorem dround_any (S : Nat → Prop) (V g n m N k : Nat) (c0 c : Cw) (evs0 ds : List Ev) (v : Value) (A B : Option Addr) (e0 eo a b e : Nat) (w : World) (hS : ∀ x, S x → x < V) (h : DG S w V g m c (evs0 ++ ds) v A B e0 eo a b e) (hD : DrSt g n m N c0 (k * m) c ds) (he : (drainP g m N 0 c0).1.over = true)
    (n1 : 1 ≤ n) (n2 : n ≤ 900) (g1 : 1 ≤ g) (g2 : g ≤ 100) (m1 : 1 ≤ m) (m2 : m ≤ 8) (hst : c0.st + N ≤ 100000) (hid : c0.id + N ≤ 100000) (hl : evs0.length + N ≤ 200000) (hk : k ≤ 50000) :
    Calls Try.prog 56 #[.pointer (some ⟨V, 0, none⟩), .int .i64 k] w (DOnSaid S V g n m N ((k + 1) * m) c0 evs0 w) := by
  have H := Lib.hid h
  have HD := Lib.hid hD
  have HS := Lib.hid hS
  have HO := Lib.hid he
  have hk0 : (0 : Int) ≤ k := by omega
  have hk1 : (k : Int) ≤ 50000 := by omega
  have m3 : (m : Int) ≤ 8 := by omega
  have k0 : w.cell? ⟨V, 0, none⟩ = some (.slice A c.ts.length a) := (cell_of_row w (V) 0 _ _ _ h.box).trans rfl
  have k1 : w.cell? ⟨V, 1, none⟩ = some (.int .i64 g) := (cell_of_row w (V) 1 _ _ _ h.box).trans rfl
  have k2 : w.cell? ⟨V, 2, none⟩ = some (.slice B c.dn.length b) := (cell_of_row w (V) 2 _ _ _ h.box).trans rfl
  have k3 : w.cell? ⟨V, 3, none⟩ = some (.slice (some ⟨e0, eo, none⟩) m e) := (cell_of_row w (V) 3 _ _ _ h.box).trans rfl
  have k4 : w.cell? ⟨V, 4, none⟩ = some (.bool c.over) := (cell_of_row w (V) 4 _ _ _ h.box).trans rfl
  have k5 : w.cell? ⟨V, 5, none⟩ = some (.int .i64 c.st) := (cell_of_row w (V) 5 _ _ _ h.box).trans rfl
  have k6 : w.cell? ⟨V, 6, none⟩ = some (.int .i64 c.id) := (cell_of_row w (V) 6 _ _ _ h.box).trans rfl
  have k7 : w.cell? ⟨V, 7, none⟩ = some (v) := (cell_of_row w (V) 7 _ _ _ h.box).trans rfl
  have kf := fun o => frozen_of_row w (V) o _ _ h.box
  have lV := blk_lt h.box
  clear h hD hS he
  go_enter Try.func56, Try.ntmps56
  go_wp2_with fail
  go_loopw [13] (fun i wr => ∃ j : Nat, j ≤ m ∧ i = .int .i64 j ∧ ∃ (c1 : Cw) (ds1 : List Ev) (v1 : Value) (A1 B1 : Option Addr) (e1 o1 a1 b1 q1 : Nat), DrSt g n m N c0 (k * m + j) c1 ds1 ∧ DG S wr V g m c1 (evs0 ++ ds1) v1 A1 B1 e1 o1 a1 b1 q1 ∧ Grew (fun x => V ≤ x) w wr) (fun i _ => m - (intOf i).toNat)
  case atStart => exact ⟨0, Nat.zero_le _, rfl, _, _, _, _, _, _, _, _, _, _, HD.out, H.out, Grew.refl _ _⟩
  case round =>
    clear k0 k1 k2 k3 k4 k5 k6 k7 kf
    obtain ⟨j, hj, rfl, c1, ds1, v1, A1, B1, e1, o1, a1, b1, q1, hD1, hG1, hW1⟩ := hrel
    have HD1 := Lib.hid hD1
    have HG1 := Lib.hid hG1
    have HW1 := Lib.hid hW1
    have hj0 : (0 : Int) ≤ j := by omega
    have hj8 : (j : Int) ≤ 8 := by omega
    have k0 : wr.cell? ⟨V, 0, none⟩ = some (.slice A1 c1.ts.length a1) := (cell_of_row wr (V) 0 _ _ _ hG1.box).trans rfl
    have k1 : wr.cell? ⟨V, 1, none⟩ = some (.int .i64 g) := (cell_of_row wr (V) 1 _ _ _ hG1.box).trans rfl
    have k2 : wr.cell? ⟨V, 2, none⟩ = some (.slice B1 c1.dn.length b1) := (cell_of_row wr (V) 2 _ _ _ hG1.box).trans rfl
    have k3 : wr.cell? ⟨V, 3, none⟩ = some (.slice (some ⟨e1, o1, none⟩) m q1) := (cell_of_row wr (V) 3 _ _ _ hG1.box).trans rfl
    have k4 : wr.cell? ⟨V, 4, none⟩ = some (.bool c1.over) := (cell_of_row wr (V) 4 _ _ _ hG1.box).trans rfl
    have k5 : wr.cell? ⟨V, 5, none⟩ = some (.int .i64 c1.st) := (cell_of_row wr (V) 5 _ _ _ hG1.box).trans rfl
    have k6 : wr.cell? ⟨V, 6, none⟩ = some (.int .i64 c1.id) := (cell_of_row wr (V) 6 _ _ _ hG1.box).trans rfl
    have k7 : wr.cell? ⟨V, 7, none⟩ = some (v1) := (cell_of_row wr (V) 7 _ _ _ hG1.box).trans rfl
    have kf := fun o => frozen_of_row wr (V) o _ _ hG1.box
    have lV1 := blk_lt hG1.box
    clear hD1 hG1 hW1
    by_cases hlt : j < m
    · have hlt' : (j : Int) < m := by omega
      cases hov : c1.over with
      | true =>
        rw [hov] at k4
        have HOV := Lib.hid hov
        clear hov
        go_wp2_with fail
        go_ret
        exact ⟨c1, ds1, v1, A1, B1, e1, o1, a1, b1, q1, rfl, HD1.out.skip HOV.out _, HG1.out, HW1.out⟩
      | false =>
        have HOV := Lib.hid hov
        have hpos : 0 < (held c1.D).length := by
          obtain ⟨d1, G1, hI1⟩ := HD1.out.inv
          exact (CrI.over_iff hI1).2 hov
        have hfew := held_few g1 n1 n2 HD1.out.inv
        obtain ⟨htN, htl⟩ := HD1.out.lt hov HO.out
        have HPF := Lib.hid (And.intro hpos hfew)
        have HTN := Lib.hid (And.intro htN htl)
        rw [hov] at k4
        clear hov hpos hfew htN htl
        go_wp2_with fail
        refine (dholds_yes S V g m c1 _ v1 A1 B1 e1 o1 a1 b1 q1 wr HG1.out m1 m2 HPF.out.1 (by have := HPF.out.2; omega)).mono ?_
        rintro ed w2 ⟨rfl, hE2⟩
        have HE2 := Lib.hid hE2
        clear hE2 k0 k1 k2 k3 k4 k5 k6 k7 kf
        go_wp2_with fail
        refine (dstep_any S V g n m c1 (evs0 ++ ds1) v1 A1 B1 e1 o1 a1 b1 q1 (j : Int) ((j : Int) + 1 + k) w2 HS.out (HG1.out.ext HE2.out) HD1.out.inv n1 n2 g1 g2 m1 m2 (by have := HD1.out.st; have := HTN.out; omega) (by have := HD1.out.id; have := HTN.out; omega) (by unfold in64; omega) (by unfold in64; omega) (by have := HTN.out; rw [List.length_append]; omega)).mono ?_
        have HDN : Hid (DrSt g n m N c0 (k * m + (j + 1)) (stepP g m c1 (j : Int) ((j : Int) + 1 + k)).1 (ds1 ++ [(stepP g m c1 (j : Int) ((j : Int) + 1 + k)).2])) := Lib.hid (by
          have h9 := HD1.out.step g1 m1 HOV.out HO.out
          rw [dpick_eq m k j hlt] at h9
          exact h9)
        obtain ⟨⟨c5, ev⟩, hr⟩ : ∃ x, stepP g m c1 (j : Int) ((j : Int) + 1 + k) = x := ⟨_, rfl⟩
        rw [hr] at HDN ⊢
        rintro ed w3 ⟨v3, A3, B3, e3, a3, b3, rfl, hG3, hW3⟩
        rw [List.append_assoc] at hG3
        have HG3 := Lib.hid hG3
        have HW3 := Lib.hid hW3
        have HDN' : Hid (DrSt g n m N c0 (k * m + (j + 1)) c5 (ds1 ++ [ev])) := HDN
        clear hr hG3 hW3
        go_wp2_with fail
        go_roundw
        case rel => exact ⟨j + 1, by omega, by go_num, c5, ds1 ++ [ev], v3, A3, B3, e3, 0, a3, b3, m, HDN'.out, HG3.out, (HW1.out.ext HE2.out).trans HW3.out⟩
        case measure => simp [intOf]; omega
    · obtain rfl : j = m := by omega
      go_wp2_with fail
      go_ret
      exact ⟨c1, ds1, v1, A1, B1, e1, o1, a1, b1, q1, rfl, by rw [Nat.succ_mul]; exact HD1.out, HG1.out, HW1.out⟩

/-- what a drain leaves -/
def DEndSaid (S : Nat → Prop) (V g m : Nat) (r : Cw × List Ev) (evs0 : List Ev) (w : World) (ed : Ending) (w' : World) : Prop :=
  ∃ (v : Value) (A B : Option Addr) (e0 eo a b e : Nat), ed = .returned (.int .i64 0) ∧ DG S w' V g m r.1 (evs0 ++ r.2) v A B e0 eo a b e ∧ Grew (fun x => V ≤ x) w w'
set_option maxHeartbeats 1600000 in
set_option maxRecDepth 100000 in
theorem ddrain_any (S : Nat → Prop) (V g n m N : Nat) (c0 : Cw) (evs0 : List Ev) (v : Value) (A B : Option Addr) (e0 eo a b e : Nat) (w : World) (hS : ∀ x, S x → x < V) (h : DG S w V g m c0 evs0 v A B e0 eo a b e) (hI : ∃ done G, CwI g n m c0 done G) (he : (drainP g m N 0 c0).1.over = true)
    (n1 : 1 ≤ n) (n2 : n ≤ 900) (g1 : 1 ≤ g) (g2 : g ≤ 100) (m1 : 1 ≤ m) (m2 : m ≤ 8) (hst : c0.st + N ≤ 100000) (hid : c0.id + N ≤ 100000) (hl : evs0.length + N ≤ 200000) (hN : N ≤ 50000) :
    Calls Try.prog 48 #[.pointer (some ⟨V, 0, none⟩)] w (DEndSaid S V g m (drainP g m N 0 c0) evs0 w) := by
  have H := Lib.hid h
  have HI := Lib.hid hI
  have HS := Lib.hid hS
  have HO := Lib.hid he
  clear h hI hS he
  go_enter Try.func48, Try.ntmps48
  go_wp2_with fail
  go_loopw [3] (fun i wr => ∃ k : Nat, k ≤ N ∧ i = .int .i64 k ∧ ∃ (c1 : Cw) (ds1 : List Ev) (v1 : Value) (A1 B1 : Option Addr) (e1 o1 a1 b1 q1 : Nat), DrSt g n m N c0 (k * m) c1 ds1 ∧ DG S wr V g m c1 (evs0 ++ ds1) v1 A1 B1 e1 o1 a1 b1 q1 ∧ Grew (fun x => V ≤ x) w wr) (fun i _ => N - (intOf i).toNat)
  case atStart => exact ⟨0, Nat.zero_le _, rfl, c0, [], v, A, B, e0, eo, a, b, e, by rw [Nat.zero_mul]; exact DrSt.start HI.out, by rw [List.append_nil]; exact H.out, Grew.refl _ _⟩
  case round =>
    obtain ⟨k, hk, rfl, c1, ds1, v1, A1, B1, e1, o1, a1, b1, q1, hD1, hG1, hW1⟩ := hrel
    have HD1 := Lib.hid hD1
    have HG1 := Lib.hid hG1
    have HW1 := Lib.hid hW1
    have hk0 : (0 : Int) ≤ k := by omega
    have hk1 : (k : Int) ≤ 50000 := by omega
    have k0 : wr.cell? ⟨V, 0, none⟩ = some (.slice A1 c1.ts.length a1) := (cell_of_row wr (V) 0 _ _ _ hG1.box).trans rfl
    have k1 : wr.cell? ⟨V, 1, none⟩ = some (.int .i64 g) := (cell_of_row wr (V) 1 _ _ _ hG1.box).trans rfl
    have k2 : wr.cell? ⟨V, 2, none⟩ = some (.slice B1 c1.dn.length b1) := (cell_of_row wr (V) 2 _ _ _ hG1.box).trans rfl
    have k3 : wr.cell? ⟨V, 3, none⟩ = some (.slice (some ⟨e1, o1, none⟩) m q1) := (cell_of_row wr (V) 3 _ _ _ hG1.box).trans rfl
    have k4 : wr.cell? ⟨V, 4, none⟩ = some (.bool c1.over) := (cell_of_row wr (V) 4 _ _ _ hG1.box).trans rfl
    have k5 : wr.cell? ⟨V, 5, none⟩ = some (.int .i64 c1.st) := (cell_of_row wr (V) 5 _ _ _ hG1.box).trans rfl
    have k6 : wr.cell? ⟨V, 6, none⟩ = some (.int .i64 c1.id) := (cell_of_row wr (V) 6 _ _ _ hG1.box).trans rfl
    have k7 : wr.cell? ⟨V, 7, none⟩ = some (v1) := (cell_of_row wr (V) 7 _ _ _ hG1.box).trans rfl
    have kf := fun o => frozen_of_row wr (V) o _ _ hG1.box
    have lV1 := blk_lt hG1.box
    clear hD1 hG1 hW1
    cases hov : c1.over with
    | true =>
      rw [hov] at k4
      have HEQ := Lib.hid (HD1.out.done hov)
      clear hov
      go_wp2_with fail
      go_ret
      rw [HEQ.out]
      exact ⟨v1, A1, B1, e1, o1, a1, b1, q1, rfl, HG1.out, HW1.out⟩
    | false =>
      have hlt : k < N := by
        have h1 := (HD1.out.lt hov HO.out).1
        have h2 : k ≤ k * m := Nat.le_mul_of_pos_right k m1
        omega
      rw [hov] at k4
      clear hov
      go_wp2_with fail
      refine (dround_any S V g n m N k c0 c1 evs0 ds1 v1 A1 B1 e1 o1 a1 b1 q1 wr HS.out HG1.out HD1.out HO.out n1 n2 g1 g2 m1 m2 hst hid hl (by omega)).mono ?_
      rintro ed w3 ⟨c3, ds3, v3, A3, B3, e3, o3, a3, b3, q3, rfl, hD3, hG3, hW3⟩
      have HD3 := Lib.hid hD3
      have HG3 := Lib.hid hG3
      have HW3 := Lib.hid hW3
      clear hD3 hG3 hW3 k0 k1 k2 k3 k4 k5 k6 k7 kf
      go_wp2_with fail
      go_roundw
      case rel => exact ⟨k + 1, by omega, by go_num, c3, ds3, v3, A3, B3, e3, o3, a3, b3, q3, HD3.out, HG3.out, HW1.out.trans HW3.out⟩
      case measure => simp [intOf]; omega
set_option maxHeartbeats 1600000 in
set_option maxRecDepth 100000 in
theorem dpick_any (S : Nat → Prop) (V g n m cp : Nat) (Ap : Option Addr) (picks : List (Int × Int)) (v : Value) (A B : Option Addr) (e0 eo a b e : Nat) (w : World) (hS : ∀ x, S x → x < V) (h : DG S w V g m (beginC n m) [] v A B e0 eo a b e) (hp : RdO kPk (fun x => V ≤ x) w (.slice Ap picks.length cp) picks)
    (n1 : 1 ≤ n) (n2 : n ≤ 900) (g1 : 1 ≤ g) (g2 : g ≤ 100) (m1 : 1 ≤ m) (m2 : m ≤ 8) (hl : picks.length ≤ 50000) :
    Calls Try.prog 47 #[.pointer (some ⟨V, 0, none⟩), .slice Ap picks.length cp] w (DEndSaid S V g m (untilP g m (beginC n m) picks) [] w) := by
  have H := Lib.hid h
  have HS := Lib.hid hS
  have HP := Lib.hid hp
  have hl' : (picks.length : Int) ≤ 50000 := by omega
  clear h hS hp
  go_enter Try.func47, Try.ntmps47
  go_wp2_with fail
  go_loopw [10] (fun i wr => ∃ k : Nat, k ≤ picks.length ∧ i = .int .i64 k ∧ ∃ (c1 : Cw) (evs1 : List Ev) (v1 : Value) (A1 B1 : Option Addr) (e1 o1 a1 b1 q1 : Nat), UnSt g n m picks k c1 evs1 ∧ DG S wr V g m c1 evs1 v1 A1 B1 e1 o1 a1 b1 q1 ∧ Grew (fun x => V ≤ x) w wr) (fun i _ => picks.length - (intOf i).toNat)
  case atStart => exact ⟨0, Nat.zero_le _, rfl, _, _, _, _, _, _, _, _, _, _, UnSt.start n1 m1, H.out, Grew.refl _ _⟩
  case round =>
    obtain ⟨k, hk, rfl, c1, evs1, v1, A1, B1, e1, o1, a1, b1, q1, hD1, hG1, hW1⟩ := hrel
    have HD1 := Lib.hid hD1
    have HG1 := Lib.hid hG1
    have HW1 := Lib.hid hW1
    have hk0 : (0 : Int) ≤ k := by omega
    have k0 : wr.cell? ⟨V, 0, none⟩ = some (.slice A1 c1.ts.length a1) := (cell_of_row wr (V) 0 _ _ _ hG1.box).trans rfl
    have k1 : wr.cell? ⟨V, 1, none⟩ = some (.int .i64 g) := (cell_of_row wr (V) 1 _ _ _ hG1.box).trans rfl
    have k2 : wr.cell? ⟨V, 2, none⟩ = some (.slice B1 c1.dn.length b1) := (cell_of_row wr (V) 2 _ _ _ hG1.box).trans rfl
    have k3 : wr.cell? ⟨V, 3, none⟩ = some (.slice (some ⟨e1, o1, none⟩) m q1) := (cell_of_row wr (V) 3 _ _ _ hG1.box).trans rfl
    have k4 : wr.cell? ⟨V, 4, none⟩ = some (.bool c1.over) := (cell_of_row wr (V) 4 _ _ _ hG1.box).trans rfl
    have k5 : wr.cell? ⟨V, 5, none⟩ = some (.int .i64 c1.st) := (cell_of_row wr (V) 5 _ _ _ hG1.box).trans rfl
    have k6 : wr.cell? ⟨V, 6, none⟩ = some (.int .i64 c1.id) := (cell_of_row wr (V) 6 _ _ _ hG1.box).trans rfl
    have k7 : wr.cell? ⟨V, 7, none⟩ = some (v1) := (cell_of_row wr (V) 7 _ _ _ hG1.box).trans rfl
    have kf := fun o => frozen_of_row wr (V) o _ _ hG1.box
    have lV1 := blk_lt hG1.box
    clear hD1 hG1
    by_cases hlt : k < picks.length
    · have hlt' : (k : Int) < picks.length := by omega
      have HRP := Lib.hid (HP.out wr hW1)
      obtain ⟨bp, op, rfl, hcp⟩ := Rd.picks HRP.out (by omega)
      obtain ⟨z0, z1⟩ := hcp k hlt
      have hok := HRP.out.okAt k hlt
      obtain ⟨⟨p, q⟩, hpq⟩ : ∃ x, picks.getD k (0, 0) = x := ⟨_, rfl⟩
      rw [hpq] at z0 z1
      have HOK : Hid (in64 p ∧ in64 q) := Lib.hid (by have h9 : picks.getD k kPk.d = (p, q) := hpq; rw [h9] at hok; exact hok)
      simp only at z0 z1
      have HPQ := Lib.hid hpq
      have lbp : bp < wr.heap.size := World.block_lt_of_cell? _ _ z0
      clear hcp hok hpq hW1
      cases hov : c1.over with
      | true =>
        rw [hov] at k4
        have HEQ := Lib.hid (HD1.out.over hov)
        clear hov
        go_wp2_with fail
        go_ret
        rw [HEQ.out]
        exact ⟨v1, A1, B1, e1, o1, a1, b1, q1, rfl, HG1.out.ext ((Ext.refl _).alloc _), HW1.out.alloc _⟩
      | false =>
        have HDN : Hid (UnSt g n m picks (k + 1) (stepP g m c1 p q).1 (evs1 ++ [(stepP g m c1 p q).2])) := Lib.hid (by
          have h9 := HD1.out.step g1 m1 hlt hov
          rw [HPQ.out] at h9
          exact h9)
        rw [hov] at k4
        clear hov
        go_wp2_with fail
        refine (dstep_any S V g n m c1 evs1 v1 A1 B1 e1 o1 a1 b1 q1 p q _ HS.out (HG1.out.ext ((Ext.refl _).alloc _)) ⟨_, _, HD1.out.been.inv.choose_spec⟩ n1 n2 g1 g2 m1 m2 (by have := HD1.out.been.st; have := HD1.out.len; omega) (by have := HD1.out.been.id; have := HD1.out.len; omega) HOK.out.1 HOK.out.2 (by have := HD1.out.len; omega)).mono ?_
        obtain ⟨⟨c5, ev⟩, hr⟩ : ∃ x, stepP g m c1 p q = x := ⟨_, rfl⟩
        rw [hr] at HDN ⊢
        rintro ed w3 ⟨v3, A3, B3, e3, a3, b3, rfl, hG3, hW3⟩
        have HG3 := Lib.hid hG3
        have HW3 := Lib.hid hW3
        have HDN' : Hid (UnSt g n m picks (k + 1) c5 (evs1 ++ [ev])) := HDN
        clear hr hG3 hW3 k0 k1 k2 k3 k4 k5 k6 k7 kf z0 z1
        go_wp2_with fail
        go_roundw
        case rel => exact ⟨k + 1, by omega, by go_num, c5, evs1 ++ [ev], v3, A3, B3, e3, 0, a3, b3, m, HDN'.out, HG3.out, (HW1.out.alloc _).trans HW3.out⟩
        case measure => simp [intOf]; omega
    · have HEQ := Lib.hid (HD1.out.done (by omega))
      obtain rfl : k = picks.length := by omega
      clear hW1
      go_wp2_with fail
      go_ret
      rw [HEQ.out]
      exact ⟨v1, A1, B1, e1, o1, a1, b1, q1, rfl, HG1.out, HW1.out⟩
end Go.Proofs.Ytggjjjfdkgfoiaa

/- The program's Whole: from the beginning to the end. Written by wip/mk_d6c.py. -/
namespace Go.Proofs.Ytggjjjfdkgfoiaa
open Go.BigFrame
open Go.RowKit Go.Proofs.Ytggjjjfdkgfoiaa.Plain

/-- a crew's box -/
structure D6Box (w : World) (R : Nat) (A B : Option Addr) (e0 eo a b e g m : Nat) (c : Cw) : Prop where
  v0 : w.cell? ⟨R, 0, none⟩ = some (.slice A c.ts.length a)
  v1 : w.cell? ⟨R, 1, none⟩ = some (.int .i64 g)
  v2 : w.cell? ⟨R, 2, none⟩ = some (.slice B c.dn.length b)
  v3 : w.cell? ⟨R, 3, none⟩ = some (.slice (some ⟨e0, eo, none⟩) m e)
  v4 : w.cell? ⟨R, 4, none⟩ = some (.bool c.over)
  v5 : w.cell? ⟨R, 5, none⟩ = some (.int .i64 c.st)
  v6 : w.cell? ⟨R, 6, none⟩ = some (.int .i64 c.id)
theorem D6Box.one {w : World} {R : Nat} {A B : Option Addr} {e0 eo a b e g m : Nat} {c : Cw} {p0 p1 p2 p3 p4 p5 p6 : Value} (r0 : w.cell? ⟨R, 0, none⟩ = some p0) (r1 : w.cell? ⟨R, 1, none⟩ = some p1) (r2 : w.cell? ⟨R, 2, none⟩ = some p2) (r3 : w.cell? ⟨R, 3, none⟩ = some p3) (r4 : w.cell? ⟨R, 4, none⟩ = some p4) (r5 : w.cell? ⟨R, 5, none⟩ = some p5) (r6 : w.cell? ⟨R, 6, none⟩ = some p6) : D6Box (World.drew (((((((w.setCell ⟨R, 0, none⟩ (.slice A c.ts.length a)).setCell ⟨R, 1, none⟩ (.int .i64 g)).setCell ⟨R, 2, none⟩ (.slice B c.dn.length b)).setCell ⟨R, 3, none⟩ (.slice (some ⟨e0, eo, none⟩) m e)).setCell ⟨R, 4, none⟩ (.bool c.over)).setCell ⟨R, 5, none⟩ (.int .i64 c.st)).setCell ⟨R, 6, none⟩ (.int .i64 c.id))) R A B e0 eo a b e g m c ∧ Grew (fun x => x = R) w (World.drew (((((((w.setCell ⟨R, 0, none⟩ (.slice A c.ts.length a)).setCell ⟨R, 1, none⟩ (.int .i64 g)).setCell ⟨R, 2, none⟩ (.slice B c.dn.length b)).setCell ⟨R, 3, none⟩ (.slice (some ⟨e0, eo, none⟩) m e)).setCell ⟨R, 4, none⟩ (.bool c.over)).setCell ⟨R, 5, none⟩ (.int .i64 c.st)).setCell ⟨R, 6, none⟩ (.int .i64 c.id))) := by
  refine ⟨⟨by go_simp, by go_simp, by go_simp, by go_simp, by go_simp, by go_simp, by go_simp⟩, Grew.drew (Grew.setCell (S := fun x => x = R) (p := ⟨R, 6, none⟩) (Grew.setCell (S := fun x => x = R) (p := ⟨R, 5, none⟩) (Grew.setCell (S := fun x => x = R) (p := ⟨R, 4, none⟩) (Grew.setCell (S := fun x => x = R) (p := ⟨R, 3, none⟩) (Grew.setCell (S := fun x => x = R) (p := ⟨R, 2, none⟩) (Grew.setCell (S := fun x => x = R) (p := ⟨R, 1, none⟩) (Grew.setCell (S := fun x => x = R) (p := ⟨R, 0, none⟩) (Grew.refl _ _) rfl _) rfl _) rfl _) rfl _) rfl _) rfl _) rfl _)⟩
/-- what Whole leaves -/
def DWholeSaid (g m : Nat) (r : Cw × List Ev) (w : World) (ed : Ending) (w' : World) : Prop :=
  ∃ (A B L : Option Addr) (e0 eo a b e l : Nat), m ≤ e ∧ ed = .returned (.tuple #[crewV A B e0 eo a b e g m r.1, .slice L r.2.length l, .int .i64 0]) ∧ CrewAt w' m r.1 A B e0 eo a b ∧ Ow kEv w.heap.size w' (.slice L r.2.length l) r.2 ∧ Ext w w'
set_option maxHeartbeats 1600000 in
set_option maxRecDepth 100000 in
theorem dwhole_any (n g m : Nat) (Ap : Option Addr) (cp : Nat) (picks : List (Int × Int)) (w : World) (hp : Rd kPk w (.slice Ap picks.length cp) picks) (n1 : 1 ≤ n) (n2 : n ≤ 900) (g1 : 1 ≤ g) (g2 : g ≤ 100) (m1 : 1 ≤ m) (m2 : m ≤ 8) (hl : picks.length ≤ 4000) :
    Calls Try.prog 40 #[.int .i64 n, .int .i64 g, .int .i64 m, .slice Ap picks.length cp] w (DWholeSaid g m (wholeP g n m picks) w) := by
  have HP := Lib.hid hp
  obtain ⟨r, hr⟩ : ∃ r, wholeP g n m picks = r := ⟨_, rfl⟩
  have HR := Lib.hid hr
  rw [hr]
  clear hp hr
  go_enter Try.func40, Try.ntmps40
  go_wp2_with fail
  refine (cbegin_off n g m _ n1 (by omega) g1 g2 m1 m2).mono ?_
  obtain ⟨c0, hc0⟩ : ∃ x, beginC n m = x := ⟨_, rfl⟩
  have HC0 := Lib.hid hc0
  rintro ed w2 ⟨A0, B0, e0, a0, b0, rfl, hC, hE⟩
  rw [hc0] at hC ⊢
  have HRS := Lib.hid (block_keep (heap_alloc_new w (.cells #[.slice none 0 0, .int .i64 0, .slice none 0 0, .slice none 0 0, .bool false, .int .i64 0, .int .i64 0] 77)) hE)
  have hz := hE.size
  simp at hz
  have HX2 := Lib.hid (((Ext.refl w).alloc _).trans hE)
  have HC := Lib.hid hC
  obtain ⟨V, hV⟩ : ∃ V, w2.heap.size + 1 = V := ⟨_, rfl⟩
  clear hC hE hc0
  go_wp2_with fail
  have HDG : Hid (DG (fun x => x = w.heap.size) (((w2.alloc (.cells #[.slice A0 c0.ts.length a0, .int .i64 g, .slice B0 c0.dn.length b0, .slice (some ⟨e0, 0, none⟩) m m, .bool c0.over, .int .i64 c0.st, .int .i64 c0.id] 77)).alloc (.cells #[.slice A0 c0.ts.length a0, .int .i64 g, .slice B0 c0.dn.length b0, .slice (some ⟨e0, 0, none⟩) m m, .bool c0.over, .int .i64 c0.st, .int .i64 c0.id, .slice none 0 0] 87))) V g m (beginC n m) [] (.slice none 0 0) A0 B0 e0 0 a0 b0 m) := Lib.hid (by
    rw [HC0.out, ← hV]
    refine ⟨Nat.le_refl _, heap_alloc2_new w2 _ _, HC.out.later m1 (Grew.of (((Ext.refl _).alloc _).alloc _)) (fun x hx hT => ?_), Ow.nil _ _⟩
    rcases hT with hT | hT | hT
    · simp; omega
    · omega
    · cases hT)
  have HRP : Hid (RdO kPk (fun x => V ≤ x) (((w2.alloc (.cells #[.slice A0 c0.ts.length a0, .int .i64 g, .slice B0 c0.dn.length b0, .slice (some ⟨e0, 0, none⟩) m m, .bool c0.over, .int .i64 c0.st, .int .i64 c0.id] 77)).alloc (.cells #[.slice A0 c0.ts.length a0, .int .i64 g, .slice B0 c0.dn.length b0, .slice (some ⟨e0, 0, none⟩) m m, .bool c0.over, .int .i64 c0.st, .int .i64 c0.id, .slice none 0 0] 87))) (.slice Ap picks.length cp) picks) := Lib.hid (fun W hW => HP.out.ext (hW.toExt ((HX2.out.alloc _).alloc _) (fun b hb => by omega)))
  have HRS2 : Hid ((((w2.alloc (.cells #[.slice A0 c0.ts.length a0, .int .i64 g, .slice B0 c0.dn.length b0, .slice (some ⟨e0, 0, none⟩) m m, .bool c0.over, .int .i64 c0.st, .int .i64 c0.id] 77)).alloc (.cells #[.slice A0 c0.ts.length a0, .int .i64 g, .slice B0 c0.dn.length b0, .slice (some ⟨e0, 0, none⟩) m m, .bool c0.over, .int .i64 c0.st, .int .i64 c0.id, .slice none 0 0] 87))).heap[w.heap.size]? = some (.cells #[.slice none 0 0, .int .i64 0, .slice none 0 0, .slice none 0 0, .bool false, .int .i64 0, .int .i64 0] 77)) := Lib.hid (block_keep HRS.out (((Ext.refl _).alloc _).alloc _))
  have HX3 : Hid (Ext w (((w2.alloc (.cells #[.slice A0 c0.ts.length a0, .int .i64 g, .slice B0 c0.dn.length b0, .slice (some ⟨e0, 0, none⟩) m m, .bool c0.over, .int .i64 c0.st, .int .i64 c0.id] 77)).alloc (.cells #[.slice A0 c0.ts.length a0, .int .i64 g, .slice B0 c0.dn.length b0, .slice (some ⟨e0, 0, none⟩) m m, .bool c0.over, .int .i64 c0.st, .int .i64 c0.id, .slice none 0 0] 87)))) := Lib.hid ((HX2.out.alloc _).alloc _)
  clear HRS
  generalize (((w2.alloc (.cells #[.slice A0 c0.ts.length a0, .int .i64 g, .slice B0 c0.dn.length b0, .slice (some ⟨e0, 0, none⟩) m m, .bool c0.over, .int .i64 c0.st, .int .i64 c0.id] 77)).alloc (.cells #[.slice A0 c0.ts.length a0, .int .i64 g, .slice B0 c0.dn.length b0, .slice (some ⟨e0, 0, none⟩) m m, .bool c0.over, .int .i64 c0.st, .int .i64 c0.id, .slice none 0 0] 87))) = w3 at *
  refine (dpick_any (fun x => x = w.heap.size) V g n m cp Ap picks _ A0 B0 e0 0 a0 b0 m w3 (fun x hx => by omega) HDG.out HRP.out n1 n2 g1 g2 m1 m2 (by omega)).mono ?_
  obtain ⟨hU1, hU2⟩ := Been.until g1 m1 picks (beginC n m) [] (Been.begin g n m n1 m1)
  obtain ⟨N, hN⟩ : ∃ N, m * cntT n g = N := ⟨_, rfl⟩
  have hov := (whole_ends g1 n1 m1 picks).1
  have hW : wholeP g n m picks = ((drainP g m N 0 (untilP g m (beginC n m) picks).1).1, (untilP g m (beginC n m) picks).2 ++ (drainP g m N 0 (untilP g m (beginC n m) picks).1).2) := by rw [← hN]; rfl
  rw [hW] at hov
  rw [HR.out] at hW
  rw [List.nil_append] at hU1
  obtain ⟨⟨c1, evs⟩, hu⟩ : ∃ x, untilP g m (beginC n m) picks = x := ⟨_, rfl⟩
  rw [hu] at hU1 hU2 hov hW ⊢
  simp only at hU1 hU2 hov hW
  have hNl : N ≤ 14400 := by
    obtain ⟨dn, hI⟩ := hU1.inv
    have hcn := (hI.counts g1 n1).2.2.1
    have h1 : m * cntT n g ≤ 8 * 1800 := Nat.mul_le_mul m2 (by omega)
    omega
  have HU1 : Hid (Been g n m c1 evs) := Lib.hid hU1
  have HOV : Hid ((drainP g m N 0 c1).1.over = true) := Lib.hid hov
  have HW := Lib.hid hW
  have HU2 : Hid (evs.length ≤ picks.length) := Lib.hid hU2
  rintro ed w4 ⟨v1, A1, B1, e1, o1, a1, b1, q1, rfl, hG, hG4⟩
  rw [List.nil_append] at hG
  have HG := Lib.hid hG
  have HG4 := Lib.hid hG4
  have HNL := Lib.hid hNl
  clear hG hG4 hU1 hov hW hU2 hu hN hNl
  go_wp2_with fail
  refine (ddrain_any (fun x => x = w.heap.size) V g n m N c1 evs v1 A1 B1 e1 o1 a1 b1 q1 w4 (fun x hx => by omega) HG.out ⟨_, _, HU1.out.inv.choose_spec⟩ HOV.out n1 n2 g1 g2 m1 m2 (by have := HU1.out.st; have := HU2.out; have := HNL.out; omega) (by have := HU1.out.id; have := HU2.out; have := HNL.out; omega) (by have := HU2.out; have := HNL.out; omega) (by have := HNL.out; omega)).mono ?_
  obtain ⟨⟨c2, ds⟩, hd⟩ : ∃ x, drainP g m N 0 c1 = x := ⟨_, rfl⟩
  have hW2 := HW.out
  rw [hd] at hW2 ⊢
  simp only at hW2
  rintro ed w7 ⟨v2, A2, B2, e2, o2, a2, b2, q2, rfl, hG5, hW5⟩
  obtain ⟨es, hes⟩ : ∃ es, evs ++ ds = es := ⟨_, rfl⟩
  have hG6 : DG (fun x => x = w.heap.size) w7 V g m c2 es v2 A2 B2 e2 o2 a2 b2 q2 := by rw [← hes]; exact hG5
  rw [hes] at hW2
  obtain ⟨Ao, co, hv, hco⟩ := hG6.own.slice
  obtain ⟨no, hno⟩ : ∃ no, es.length = no := ⟨_, rfl⟩
  rw [hno] at hv
  subst hv
  have HNO := Lib.hid hno
  have HW2 := Lib.hid hW2
  have HG6 := Lib.hid hG6
  have hGW : Grew (fun x => V ≤ x) w3 w7 := HG4.out.trans hW5
  have HRS5 := Lib.hid (block_wr HRS2.out hGW (by omega))
  have HX5 : Hid (Ext w w7) := Lib.hid (hGW.toExt HX3.out (fun b hb => by omega))
  clear hG5 hW5 hes hG6 hco hno hd hW2 hGW
  have z0 : w7.cell? ⟨V, 0, none⟩ = some (.slice A2 c2.ts.length a2) := (cell_of_row w7 (V) 0 _ _ _ HG6.out.box).trans rfl
  have z1 : w7.cell? ⟨V, 1, none⟩ = some (.int .i64 g) := (cell_of_row w7 (V) 1 _ _ _ HG6.out.box).trans rfl
  have z2 : w7.cell? ⟨V, 2, none⟩ = some (.slice B2 c2.dn.length b2) := (cell_of_row w7 (V) 2 _ _ _ HG6.out.box).trans rfl
  have z3 : w7.cell? ⟨V, 3, none⟩ = some (.slice (some ⟨e2, o2, none⟩) m q2) := (cell_of_row w7 (V) 3 _ _ _ HG6.out.box).trans rfl
  have z4 : w7.cell? ⟨V, 4, none⟩ = some (.bool c2.over) := (cell_of_row w7 (V) 4 _ _ _ HG6.out.box).trans rfl
  have z5 : w7.cell? ⟨V, 5, none⟩ = some (.int .i64 c2.st) := (cell_of_row w7 (V) 5 _ _ _ HG6.out.box).trans rfl
  have z6 : w7.cell? ⟨V, 6, none⟩ = some (.int .i64 c2.id) := (cell_of_row w7 (V) 6 _ _ _ HG6.out.box).trans rfl
  have z7 : w7.cell? ⟨V, 7, none⟩ = some (.slice Ao no co) := (cell_of_row w7 (V) 7 _ _ _ HG6.out.box).trans rfl
  have zf := fun o => frozen_of_row w7 (V) o _ _ HG6.out.box
  have y0 : w7.cell? ⟨w.heap.size, 0, none⟩ = some (.slice none 0 0) := (cell_of_row w7 (w.heap.size) 0 _ _ _ HRS5.out).trans rfl
  have y1 : w7.cell? ⟨w.heap.size, 1, none⟩ = some (.int .i64 0) := (cell_of_row w7 (w.heap.size) 1 _ _ _ HRS5.out).trans rfl
  have y2 : w7.cell? ⟨w.heap.size, 2, none⟩ = some (.slice none 0 0) := (cell_of_row w7 (w.heap.size) 2 _ _ _ HRS5.out).trans rfl
  have y3 : w7.cell? ⟨w.heap.size, 3, none⟩ = some (.slice none 0 0) := (cell_of_row w7 (w.heap.size) 3 _ _ _ HRS5.out).trans rfl
  have y4 : w7.cell? ⟨w.heap.size, 4, none⟩ = some (.bool false) := (cell_of_row w7 (w.heap.size) 4 _ _ _ HRS5.out).trans rfl
  have y5 : w7.cell? ⟨w.heap.size, 5, none⟩ = some (.int .i64 0) := (cell_of_row w7 (w.heap.size) 5 _ _ _ HRS5.out).trans rfl
  have y6 : w7.cell? ⟨w.heap.size, 6, none⟩ = some (.int .i64 0) := (cell_of_row w7 (w.heap.size) 6 _ _ _ HRS5.out).trans rfl
  have yf := fun o => frozen_of_row w7 (w.heap.size) o _ _ HRS5.out
  have lV := blk_lt HG6.out.box
  have lR := blk_lt HRS5.out
  have nRV : ¬ w.heap.size = V := by omega
  have nVR : ¬ V = w.heap.size := by omega
  go_upto_region 8 with fail
  go_cut [9, 10] (fun l z wx => l = .slice Ao no co ∧ z = .int .i64 0 ∧ D6Box wx w.heap.size A2 B2 e2 o2 a2 b2 q2 g m c2 ∧ Grew (fun x => x = w.heap.size) w7 wx)
  case first =>
    go_region
    all_goals go_wp2_with fail
    all_goals go_meet
    all_goals (with_reducible exact ⟨rfl, rfl, D6Box.one y0 y1 y2 y3 y4 y5 y6⟩)
  case rest =>
  obtain ⟨rfl, rfl, hB, hGR⟩ := hcut
  obtain ⟨y0, y1, y2, y3, y4, y5, y6⟩ := hB
  have HGR := Lib.hid hGR
  clear hGR z0 z1 z2 z3 z4 z5 z6 z7 zf lV lR
  go_wp2_with fail
  refine bodyPost_ret (v := .tuple #[crewV A2 B2 e2 o2 a2 b2 q2 g m c2, .slice Ao no co, .int .i64 0]) (by simp [results, Try.results40, go_sem, y0, y1, y2, y3, y4, y5, y6]) rfl ?_
  rw [HW2.out]
  refine ⟨A2, B2, Ao, e2, o2, a2, b2, q2, co, HG6.out.me, by rw [HNO.out], ?_, ?_, ?_⟩
  · exact (HG6.out.cr.grew (HGR.out.mono (fun x _ hx => .inl hx))).at_ m1
  · rw [HNO.out]
    exact (HG6.out.own.grew HGR.out (fun x hx e => by have := (HG6.out.own.lt x hx).1; omega)).mono (by omega)
  · exact HGR.out.toExt HX5.out (fun x hx => by omega)
end Go.Proofs.Ytggjjjfdkgfoiaa

/- The program's Leaves. -/
namespace Go.Proofs.Ytggjjjfdkgfoiaa
open Go.BigFrame
open Go.RowKit Go.Proofs.Ytggjjjfdkgfoiaa.Plain

/-- events as steps tell them -/
def Plain.evTold (e : Ev) : Prop := (e.fr = -1 ∧ e.tk = -1) ∨ (0 ≤ e.fr ∧ 0 ≤ e.tk)
theorem Plain.stepP_told (g m : Nat) (c : Cw) (p q : Int) : evTold (stepP g m c p q).2 := by
  unfold stepP
  split
  · exact .inl ⟨rfl, rfl⟩
  · refine .inr ?_
    unfold goP
    simp only
    split <;> exact ⟨by simp, by simp⟩
theorem Plain.untilP_told (g m : Nat) : ∀ (l : List (Int × Int)) (c : Cw), ∀ e ∈ (untilP g m c l).2, evTold e
  | [], c, e, h => by cases h
  | x :: l, c, e, h => by
    unfold untilP at h
    split at h
    · cases h
    · rcases List.mem_cons.1 h with h | h
      · rw [h]; exact stepP_told _ _ _ _ _
      · exact Plain.untilP_told g m l _ e h
theorem Plain.drainP_told (g m : Nat) : ∀ (f t : Nat) (c : Cw), ∀ e ∈ (drainP g m f t c).2, evTold e
  | 0, t, c, e, h => by cases h
  | f + 1, t, c, e, h => by
    unfold drainP at h
    split at h
    · cases h
    · rcases List.mem_cons.1 h with h | h
      · rw [h]; exact stepP_told _ _ _ _ _
      · exact Plain.drainP_told g m f (t + 1) _ e h
theorem Plain.wholeP_told (g n m : Nat) (picks : List (Int × Int)) : ∀ e ∈ (wholeP g n m picks).2, evTold e := by
  intro e h
  unfold wholeP at h
  rcases List.mem_append.1 h with h | h
  · exact untilP_told _ _ _ _ e h
  · exact drainP_told _ _ _ _ _ e h

set_option maxRecDepth 100000 in
theorem didle_yes (wk tk : Int) (pt : Bool) (w : World) :
    Calls Try.prog 49 #[.agg #[.int .i64 wk, .int .i64 (-1), .int .i64 tk, .bool pt]] w fun ed w' => ed = .returned (.bool true) ∧ Ext w w' := by
  go_enter Try.func49, Try.ntmps49
  go_wp2
  go_ret
  exact ⟨rfl, (Ext.refl w).alloc _⟩
set_option maxRecDepth 100000 in
theorem didle_no (wk fr tk : Int) (pt : Bool) (w : World) (h1 : 0 ≤ fr) (h2 : 0 ≤ tk) :
    Calls Try.prog 49 #[.agg #[.int .i64 wk, .int .i64 fr, .int .i64 tk, .bool pt]] w fun ed w' => ed = .returned (.bool false) ∧ Ext w w' := by
  have e1 : (fr == -1) = false := by simp; omega
  have e2 : (tk == -1) = false := by simp; omega
  go_enter Try.func49, Try.ntmps49
  go_wp2
  go_ret
  exact ⟨ret_bool (by first | rfl | simp [e1, e2] | simp; omega), (Ext.refl w).alloc _⟩

set_option maxHeartbeats 1600000 in
set_option maxRecDepth 100000 in
theorem dleaves_any (A B L : Option Addr) (e0 eo a b e g m l : Nat) (c : Cw) (evs : List Ev) (w : World) (hC : CrewAt w m c A B e0 eo a b) (hE : Rd kEv w (.slice L evs.length l) evs) (hl : evs.length ≤ 100000) (hin : evsIn c.ts.length evs) (hto : ∀ e ∈ evs, evTold e) :
    Calls Try.prog 41 #[crewV A B e0 eo a b e g m c, .slice L evs.length l] w fun ed w' => ∃ v, ed = .returned v ∧ Ow kSpan w.heap.size w' v (leavesL c.ts evs) ∧ Ext w w' := by
  have HT := Lib.hid hC.tsk.rd
  have HE := Lib.hid hE
  have HIN := Lib.hid hin
  have HTO := Lib.hid hto
  have hl' : (evs.length : Int) ≤ 100000 := by omega
  clear hC hE hin hto
  go_enter Try.func41, Try.ntmps41
  go_wp2_with fail
  have hbx := heap_alloc_new w (.cells #[.slice A c.ts.length a, .int .i64 g, .slice B c.dn.length b, .slice (some ⟨e0, eo, none⟩) m e, .bool c.over, .int .i64 c.st, .int .i64 c.id] 77)
  have HBX := Lib.hid hbx
  have HX1 : Hid (Ext w (w.alloc (.cells #[.slice A c.ts.length a, .int .i64 g, .slice B c.dn.length b, .slice (some ⟨e0, eo, none⟩) m e, .bool c.over, .int .i64 c.st, .int .i64 c.id] 77))) := Lib.hid ((Ext.refl w).alloc _)
  have HW1 : Hid ((w.alloc (.cells #[.slice A c.ts.length a, .int .i64 g, .slice B c.dn.length b, .slice (some ⟨e0, eo, none⟩) m e, .bool c.over, .int .i64 c.st, .int .i64 c.id] 77)).heap.size = w.heap.size + 1) := Lib.hid (by simp)
  generalize w.alloc (.cells #[.slice A c.ts.length a, .int .i64 g, .slice B c.dn.length b, .slice (some ⟨e0, eo, none⟩) m e, .bool c.over, .int .i64 c.st, .int .i64 c.id] 77) = w1 at *
  clear hbx
  go_loopw [5, 11] (fun v i wr => ∃ k : Nat, k ≤ evs.length ∧ i = .int .i64 k ∧ Ow kSpan (w.heap.size + 1) wr v (leavesL c.ts (evs.take k)) ∧ Ext w1 wr) (fun _ i _ => evs.length - (intOf i).toNat)
  case atStart => exact ⟨0, Nat.zero_le _, rfl, Ow.nil _ _, Ext.refl _⟩
  case round =>
    obtain ⟨k, hk, rfl, hO, hX⟩ := hrel
    have HO := Lib.hid hO
    have HX := Lib.hid hX
    have hk0 : (0 : Int) ≤ k := by omega
    clear hO hX
    by_cases hlt : k < evs.length
    · have hlt' : (k : Int) < evs.length := by omega
      obtain ⟨bv, ov, rfl, hcv⟩ := Rd.evs (HE.out.ext (HX1.out.trans HX.out)) (by omega)
      obtain ⟨z0, z1, z2, z3⟩ := hcv k hlt
      have htk := leavesL_take c.ts evs k hlt
      have hmem : evs.getD k ev0 ∈ evs := by rw [List.getD_eq_getElem?_getD, List.getElem?_eq_getElem hlt]; exact List.getElem_mem hlt
      have hint : (evs.getD k ev0).tk < c.ts.length := HIN.out _ hmem
      have htold : evTold (evs.getD k ev0) := HTO.out _ hmem
      obtain ⟨ev, hev⟩ : ∃ ev, evs.getD k ev0 = ev := ⟨_, rfl⟩
      rw [hev] at z0 z1 z2 z3 htk hint htold
      have HTK := Lib.hid htk
      have lbv : bv < wr.heap.size := World.block_lt_of_cell? _ _ z2
      have hb := block_keep HBX.out HX.out
      have q0 : wr.cell? ⟨w.heap.size, 0, none⟩ = some (.slice A c.ts.length a) := (cell_of_row wr w.heap.size 0 _ _ _ hb).trans rfl
      have lq := blk_lt hb
      clear htk hev hcv hb hmem
      cases hpt : ev.pt with
      | true =>
        rw [hpt] at z3
        rw [if_pos (.inr hpt), List.append_nil] at HTK
        clear hpt
        go_wp2_with fail
        go_roundw
        case rel => exact ⟨k + 1, by omega, by go_num, by rw [HTK.out]; exact HO.out.ext ((Ext.refl _).alloc _), HX.out.alloc _⟩
        case measure => simp [intOf]; omega
      | false =>
        rw [hpt] at z3
        rcases htold with ⟨hfr, htk1⟩ | ⟨hfr, hge⟩
        · rw [if_pos (.inl (by omega)), List.append_nil] at HTK
          rw [hfr] at z1
          clear hpt hfr htk1 hint
          go_wp2_with fail
          refine (didle_yes _ _ _ _).mono ?_
          rintro ed w3 ⟨rfl, hE3⟩
          have HE3 := Lib.hid (((Ext.refl wr).alloc _).trans hE3)
          clear hE3
          go_wp2_with fail
          go_roundw
          case rel => exact ⟨k + 1, by omega, by go_num, by rw [HTK.out]; exact HO.out.ext HE3.out, HX.out.trans HE3.out⟩
          case measure => simp [intOf]; omega
        · rw [if_neg (by rw [hpt]; simp; omega)] at HTK
          obtain ⟨K, hK⟩ : ∃ K : Nat, ev.tk = K := ⟨ev.tk.toNat, by omega⟩
          have hKl : K < c.ts.length := by omega
          have hKl' : (K : Int) < c.ts.length := by omega
          have hK0 : (0 : Int) ≤ K := by omega
          rw [hK] at z2
          obtain ⟨bt, ot, rfl, hct⟩ := Rd.tasks (HT.out.ext (HX1.out.trans HX.out)) (by omega)
          obtain ⟨t0, t1, t2, t3⟩ := hct K hKl
          have hkt := HT.out.okAt K hKl
          obtain ⟨tk, htk⟩ : ∃ tk, c.ts.getD K ⟨0, 0, 0, 0⟩ = tk := ⟨_, rfl⟩
          rw [htk] at t0 t1 t2 t3
          have hkt' : kTask.ok tk := by rw [← htk]; exact hkt
          have HKT := Lib.hid hkt'
          have lbt : bt < wr.heap.size := World.block_lt_of_cell? _ _ t0
          have HTT : Hid (T c.ts ev.tk.toNat = tk) := Lib.hid (by rw [hK, Int.toNat_natCast, ← htk]; rfl)
          have HFR : Hid (0 ≤ ev.fr) := Lib.hid hfr
          clear hct hkt hkt' htk hpt hint hge hK hfr
          go_wp2_with fail
          refine (didle_no _ _ _ _ _ HFR.out (by omega)).mono ?_
          rintro ed w3 ⟨rfl, hE3⟩
          have y0 : w3.cell? ⟨wr.heap.size, 0, none⟩ = some (.int .i64 ev.wk) := Ext.cell hE3 (by go_simp)
          have y1 : w3.cell? ⟨wr.heap.size, 1, none⟩ = some (.int .i64 ev.fr) := Ext.cell hE3 (by go_simp)
          have y2 : w3.cell? ⟨wr.heap.size, 2, none⟩ = some (.int .i64 K) := Ext.cell hE3 (by go_simp)
          have y3 : w3.cell? ⟨wr.heap.size, 3, none⟩ = some (.bool false) := Ext.cell hE3 (by go_simp)
          have yf : ∀ o, w3.frozen? ⟨wr.heap.size, o, none⟩ = false := fun o => (Below.frozen hE3 (p := ⟨wr.heap.size, o, none⟩) (by first | omega | (simp; omega) | simp)).trans (by go_simp)
          have hE4 := ((Ext.refl wr).alloc (.cells #[.int .i64 ev.wk, .int .i64 ev.fr, .int .i64 K, .bool false] 91)).trans hE3
          replace q0 := hE4.cell q0
          replace t0 := hE4.cell t0
          replace t1 := hE4.cell t1
          replace t2 := hE4.cell t2
          replace t3 := hE4.cell t3
          have lz := hE3.size
          simp at lz
          have lq3 : w.heap.size < w3.heap.size := by omega
          have lbt3 : bt < w3.heap.size := by omega
          have HE4 := Lib.hid hE4
          clear hE3 hE4 z0 z1 z2 z3
          go_upto_region 7 with fail
          have hrow := HO.out.len
          have HY : Hid (Rd kSpan ((w3.alloc (.cells #[.int .i64 tk.lo, .int .i64 tk.hi, .int .i64 tk.up, .int .i64 tk.wt] 94)).alloc (.cells #[.int .i64 tk.lo, .int .i64 tk.hi] 70)) (.slice (some ⟨w3.heap.size + 1, 0, none⟩) 1 1) [(tk.lo, tk.hi)]) := Lib.hid (Ow.rd (K := kSpan) (B := 0) (Ow.lit (K := kSpan) (p := w3.heap.size + 1) (n := 1) (w3.alloc (.cells #[.int .i64 tk.lo, .int .i64 tk.hi, .int .i64 tk.up, .int .i64 tk.wt] 94)) [(tk.lo, tk.hi)] #[.int .i64 tk.lo, .int .i64 tk.hi] rfl rfl (by simp) (Nat.zero_le _) (by simp [maxLen]) (by intro x hx; simp only [List.mem_singleton] at hx; subst hx; exact ⟨HKT.out.1, HKT.out.2.1⟩)))
          have HLL : Hid ((leavesL c.ts (evs.take k)).length + [(tk.lo, tk.hi)].length ≤ 1048576) := Lib.hid (by have := leavesL_len c.ts (evs.take k); rw [List.length_take] at this; simp; omega)
          have hzz := HX1.out.size
          have hzx := HX.out.size
          have hw1 := blk_lt HBX.out
          clear hrow
          go_wp2_with (at_builtin; refine kSpan.wpList_app (by rfl) (.tmp 42) (.tmp 48) (by rfl) (by rfl) (w.heap.size + 1) _ (leavesL c.ts (evs.take k)) (by rfl) (HO.out.ext ((HE4.out.alloc _).alloc _)) _ [(tk.lo, tk.hi)] (by rfl) HY.out HLL.out (by simp; omega) ?_; intro v' w8 hown8 hgrow8 hat8)
          have H8 := Lib.hid (And.intro hown8 (And.intro hgrow8 hat8))
          clear hown8 hgrow8 hat8
          go_roundw
          case rel =>
            obtain ⟨hown8, hgrow8, hat8⟩ := H8.out
            refine ⟨k + 1, by omega, by go_num, by rw [HTK.out, HTT.out]; exact hown8, ?_⟩
            exact Ext.grown (((HX.out.trans HE4.out).alloc _).alloc _) hgrow8 (fun x hx => by have := (HO.out.lt x hx).1; have := HW1.out; omega)
          case measure => simp [intOf]; omega
    · obtain rfl : k = evs.length := by omega
      rw [List.take_length] at HO
      go_wp2_with fail
      exact bodyPost_ret (by simp [results, Try.results41, go_sem]) rfl ⟨_, rfl, HO.out.mono (by omega), HX1.out.trans HX.out⟩
end Go.Proofs.Ytggjjjfdkgfoiaa

/- The program's small ones of fill: Right, known, One, and the two closures. -/
namespace Go.Proofs.Ytggjjjfdkgfoiaa
open Go.BigFrame
open Go.RowKit Go.Proofs.Ytggjjjfdkgfoiaa.Plain

set_option maxHeartbeats 800000 in
set_option maxRecDepth 100000 in
theorem fright7_any (g m : Int) (Ap : Option Addr) (np cp : Nat) (w : World) (hg : in64 g) (hm : in64 m) (hn : np ≤ 9223372036854775807) :
    Calls Try.prog 39 #[planV g m Ap np cp] w fun ed w' => ed = .returned (.bool (planB g m np)) ∧ Ext w w' := by
  unfold in64 at hg hm
  have hE : Ext w (w.alloc (.cells #[.int .i64 g, .int .i64 m, .slice Ap np cp] 39)) := (Ext.refl w).alloc _
  go_enter Try.func39, Try.ntmps39
  go_upto_region 1 with fail
  have HE := Lib.hid hE
  by_cases h1 : 1 ≤ g
  · by_cases h2 : g ≤ 100
    · by_cases h3 : 1 ≤ m
      · by_cases h4 : m ≤ 8
        · by_cases h5 : (np : Int) ≤ 4000
          · have e : planB g m np = true := by rw [planB_iff]; omega
            go_wp2_with fail
            all_goals go_ret
            all_goals exact ⟨ret_bool (by first | rfl | (rw [e]; done) | (rw [e]; simp; omega)), HE.out⟩
          · have e : planB g m np = false := by
              rw [← Bool.not_eq_true, planB_iff]; omega
            have d5 : decide ((np : Int) ≤ 4000) = false := decide_eq_false h5
            go_wp2_with fail
            all_goals go_ret
            all_goals exact ⟨ret_bool (by first | rfl | (rw [e]; done) | (rw [e]; simp; omega)), HE.out⟩
        · have e : planB g m np = false := by rw [← Bool.not_eq_true, planB_iff]; omega
          have d5 : decide (m ≤ 8) = false := decide_eq_false h4
          go_wp2_with fail
          all_goals go_ret
          all_goals exact ⟨ret_bool (by first | rfl | (rw [e]; done) | (rw [e]; simp; omega)), HE.out⟩
      · have e : planB g m np = false := by rw [← Bool.not_eq_true, planB_iff]; omega
        have d5 : decide (1 ≤ m) = false := decide_eq_false h3
        go_wp2_with fail
        all_goals go_ret
        all_goals exact ⟨ret_bool (by first | rfl | (rw [e]; done) | (rw [e]; simp; omega)), HE.out⟩
    · have e : planB g m np = false := by rw [← Bool.not_eq_true, planB_iff]; omega
      have d5 : decide (g ≤ 100) = false := decide_eq_false h2
      go_wp2_with fail
      all_goals go_ret
      all_goals exact ⟨ret_bool (by first | rfl | (rw [e]; done) | (rw [e]; simp; omega)), HE.out⟩
  · have e : planB g m np = false := by rw [← Bool.not_eq_true, planB_iff]; omega
    have d5 : decide (1 ≤ g) = false := decide_eq_false h1
    go_wp2_with fail
    all_goals go_ret
    all_goals exact ⟨ret_bool (by first | rfl | (rw [e]; done) | (rw [e]; simp; omega)), HE.out⟩

end Go.Proofs.Ytggjjjfdkgfoiaa

/- The program's Order of a plan's units (fill). -/
namespace Go.Proofs.Ytggjjjfdkgfoiaa
open Go.BigFrame
open Go.RowKit Go.Proofs.Ytggjjjfdkgfoiaa.Plain

set_option maxHeartbeats 1600000 in
set_option maxRecDepth 100000 in
theorem forder_any (n : Nat) (g m : Int) (Ap : Option Addr) (cp : Nat) (picks : List (Int × Int)) (w : World) (hp : Rd kPk w (.slice Ap picks.length cp) picks) (n2 : n ≤ 900) (hg : in64 g) (hm : in64 m) :
    Calls Try.prog 32 #[.int .i64 n, planV g m Ap picks.length cp] w (OrdSaid (ordP n g m picks) w) := by
  have HP := Lib.hid hp
  have HL : Hid (picks.length ≤ 9223372036854775807) := Lib.hid hp.len
  have HGM := Lib.hid (And.intro hg hm)
  have n3 : (n : Int) ≤ 900 := by omega
  have n0 : (0 : Int) ≤ n := by omega
  clear hp hg hm
  go_enter Try.func32, Try.ntmps32
  go_wp2_with fail
  refine (fright7_any g m Ap picks.length cp _ HGM.out.1 HGM.out.2 HL.out).mono ?_
  rintro ed w1 ⟨rfl, hE1⟩
  have hb := block_keep (heap_alloc_new w (.cells #[.int .i64 g, .int .i64 m, .slice Ap picks.length cp] 39)) hE1
  have HB := Lib.hid hb
  have HX1 := Lib.hid (((Ext.refl w).alloc _).trans hE1)
  have q0 : w1.cell? ⟨w.heap.size, 0, none⟩ = some (.int .i64 g) := (cell_of_row w1 w.heap.size 0 _ _ _ hb).trans rfl
  have q1 : w1.cell? ⟨w.heap.size, 1, none⟩ = some (.int .i64 m) := (cell_of_row w1 w.heap.size 1 _ _ _ hb).trans rfl
  have q2 : w1.cell? ⟨w.heap.size, 2, none⟩ = some (.slice Ap picks.length cp) := (cell_of_row w1 w.heap.size 2 _ _ _ hb).trans rfl
  clear hb hE1
  cases hok : planB g m picks.length with
  | false =>
    have e : ordP n g m picks = ([], 0, 1) := by unfold ordP; rw [if_pos hok]
    have HEE := Lib.hid e
    clear e hok
    go_wp2_with fail
    exact bodyPost_ret (v := .tuple #[.slice none 0 0, .int .i64 0, .int .i64 1]) (by simp [results, Try.results32, go_sem]) rfl (by rw [HEE.out]; exact ⟨none, 0, rfl, Ow.nil _ _, HX1.out⟩)
  | true =>
    obtain ⟨p1, p2, p3, p4, p5⟩ := (planB_iff _ _ _).1 hok
    obtain ⟨G, rfl⟩ : ∃ G : Nat, g = G := ⟨g.toNat, by omega⟩
    obtain ⟨M, rfl⟩ : ∃ M : Nat, m = M := ⟨m.toNat, by omega⟩
    by_cases hz : n = 0
    · subst hz
      have e : ordP 0 G M picks = ([], 0, 0) := by unfold ordP; rw [if_neg (by rw [hok]; decide), if_pos rfl]
      have HEE := Lib.hid e
      clear e hok
      go_wp2_with fail
      exact bodyPost_ret (v := .tuple #[.slice none 0 0, .int .i64 0, .int .i64 0]) (by simp [results, Try.results32, go_sem]) rfl (by rw [HEE.out]; exact ⟨none, 0, rfl, Ow.nil _ _, HX1.out⟩)
    · have e : ordP n G M picks = (orderL (wholeP G n M picks).1.ts (wholeP G n M picks).2, (wholeP G n M picks).2.length, 0) := by unfold ordP; rw [if_neg (by rw [hok]; decide), if_neg hz]; rfl
      have hne : ((n : Int) == 0) = false := by simp; omega
      obtain ⟨we1, we2, we3, we4⟩ := whole_ends (g := G) (n := n) (m := M) (by omega) (by omega) (by omega) picks
      have hto := wholeP_told G n M picks
      have hin := we2.ins
      obtain ⟨dn, hI⟩ := we2.inv
      have hcn := (hI.counts (by omega) (by omega)).2.2.1
      have hevl : (wholeP G n M picks).2.length ≤ 60000 := by
        have h2 : M * (cntT n G + 1) ≤ 8 * 1801 := Nat.mul_le_mul (by omega) (by omega)
        omega
      have hbd : ∀ k, k < (wholeP G n M picks).1.ts.length → 0 ≤ (T (wholeP G n M picks).1.ts k).lo ∧ (T (wholeP G n M picks).1.ts k).lo ≤ (T (wholeP G n M picks).1.ts k).hi ∧ (T (wholeP G n M picks).1.ts k).hi ≤ n := fun k hk => by
        have ht := (CrI.inv hI).task k hk
        omega
      have hol : (orderL (wholeP G n M picks).1.ts (wholeP G n M picks).2).length = n := by rw [we4.length_eq, List.length_range]
      obtain ⟨⟨c, evs⟩, hW⟩ : ∃ x, wholeP G n M picks = x := ⟨_, rfl⟩
      rw [hW] at hin hevl hbd hol e hto
      simp only at hin hevl hbd hol e hto
      rw [order_leaves] at hol e
      have hsb : ∀ x ∈ leavesL c.ts evs, 0 ≤ x.1 ∧ x.1 ≤ x.2 ∧ x.2 ≤ n := leavesL_bd hbd hin
      have hsl : (leavesL c.ts evs).length ≤ 60000 := Nat.le_trans (leavesL_len _ _) hevl
      have HEE := Lib.hid e
      have HOL := Lib.hid hol
      have HSB := Lib.hid hsb
      have HIN := Lib.hid hin
      have HTO := Lib.hid hto
      have HEV := Lib.hid hevl
      have HSL := Lib.hid hsl
      have HWW := Lib.hid hW
      have hGn : (0 : Int) ≤ G := by omega
      obtain ⟨C, hmk, hmown⟩ := kInt.makeCap n (by omega)
      have HMK := Lib.hid hmown
      have hmk2 : ∀ w : World, (Instr.makeSlice 23 (.int .i64 0) (.int .i64 n)).run Try.prog w = .ok (.slice (some ⟨w.heap.size, 0, none⟩) 0 n) (w.alloc (.cells C 3)) := hmk
      clear e hok we1 we2 we3 we4 hI hcn hW hin hevl hbd hol hsb hsl hto hmk hmown
      go_wp2_with fail
      refine (dwhole_any n G M Ap cp picks w1 (HP.out.ext HX1.out) (by omega) n2 (by omega) (by omega) (by omega) (by omega) p5).mono ?_
      rw [HWW.out]
      rintro ed w2 ⟨A1, B1, L1, e0, o1, a1, b1, e1, l1, hme, rfl, hC, hO, hE2⟩
      simp only at hC hO ⊢
      have HC := Lib.hid hC
      have HO := Lib.hid hO
      have HX2 := Lib.hid (HX1.out.trans hE2)
      clear hC hO hE2 q0 q1 q2
      go_wp2_with fail
      refine (dleaves_any A1 B1 L1 e0 o1 a1 b1 e1 G M l1 c evs _ (HC.out.ext (((Ext.refl _).alloc _).alloc _)) (HO.out.rd.ext (((Ext.refl _).alloc _).alloc _)) (by have := HEV.out; omega) HIN.out HTO.out).mono ?_
      rintro ed w3 ⟨vs, rfl, hS, hE3⟩
      obtain ⟨S, hSS⟩ : ∃ S, leavesL c.ts evs = S := ⟨_, rfl⟩
      rw [hSS] at hS HEE HOL HSB HSL
      obtain ⟨Ls, ls, hv, hls⟩ := hS.slice
      subst hv
      have hz2 := HX2.out.size
      have hz3 := hE3.size
      simp at hz3
      have HS := Lib.hid (hS.mono (B' := w2.heap.size) (by simp; omega))
      have HM := Lib.hid ((HMK.out _ w2.heap.size (w2.heap.size + 1) (by simp) (by omega)).ext hE3)
      have HX3 := Lib.hid (((Ext.refl w2).alloc _).alloc _ |>.trans hE3)
      have hsl' : (S.length : Int) ≤ 60000 := by have := HSL.out; omega
      obtain ⟨G2, hG2⟩ : ∃ G2, w2.heap.size = G2 := ⟨_, rfl⟩
      rw [hG2] at HS HM hz2 hz3
      have HG2 := Lib.hid hG2
      clear hS hE3 hls hmk2 hSS
      go_wp2_with fail
      try rw [hG2]
      clear hG2
      go_loopw [10, 48] (fun v i wr => ∃ j : Nat, j ≤ S.length ∧ i = .int .i64 j ∧ Ow kInt G2 wr v (zs ((S.take j).flatMap rngS)) ∧ Ext w2 wr ∧ Ow kSpan G2 wr (.slice Ls S.length ls) S) (fun _ i _ => S.length - (intOf i).toNat)
      case atStart => exact ⟨0, Nat.zero_le _, rfl, HM.out, HX3.out, HS.out⟩
      case round =>
        obtain ⟨j, hj, rfl, hO, hX, hSr⟩ := hrel
        have HO5 := Lib.hid hO
        have HX5 := Lib.hid hX
        have HS5 := Lib.hid hSr
        have hj0 : (0 : Int) ≤ j := by omega
        clear hO hX hSr
        by_cases hlt : j < S.length
        · have hlt' : (j : Int) < S.length := by omega
          obtain ⟨bs, os, rfl, hcs⟩ := Rd.spans HS5.out.rd (by omega)
          obtain ⟨z0, z1⟩ := hcs j hlt
          have hmem : S.getD j (0, 0) ∈ S := by rw [List.getD_eq_getElem?_getD, List.getElem?_eq_getElem hlt]; exact List.getElem_mem hlt
          obtain ⟨fl1, fl2⟩ := flat_split S rngS j hlt
          obtain ⟨b1', b2', b3'⟩ := HSB.out _ hmem
          obtain ⟨⟨lo, hi⟩, hlh⟩ : ∃ x, S.getD j (0, 0) = x := ⟨_, rfl⟩
          rw [hlh] at z0 z1 fl1 fl2 b1' b2' b3'
          simp only at z0 z1 b1' b2' b3'
          obtain ⟨Lo, rfl⟩ : ∃ x : Nat, lo = x := ⟨lo.toNat, by omega⟩
          obtain ⟨Hi, rfl⟩ : ∃ x : Nat, hi = x := ⟨hi.toNat, by omega⟩
          have hpre : ((S.take j).flatMap rngS).length + (Hi - Lo) ≤ 900 := by
            have h9 := HOL.out
            change (S.flatMap rngS).length = n at h9
            have e9 : (rngS ((Lo : Int), (Hi : Int))).length = Hi - Lo := by simp [rngS]
            omega
          have HFL := Lib.hid fl2
          have HPRE := Lib.hid hpre
          have hll : Lo ≤ Hi := by omega
          have hhi : (Hi : Int) ≤ 900 := by omega
          have hzr := HX5.out.size
          rw [HG2.out] at hzr
          have HB5 : Hid (Ow kSpan G2 (wr.alloc (.cells #[.int .i64 Lo, .int .i64 Hi] 70)) (.slice (some ⟨wr.heap.size, 0, none⟩) 1 1) [((Lo : Int), (Hi : Int))]) := Lib.hid (Ow.lit (K := kSpan) (p := wr.heap.size) (n := 1) wr [((Lo : Int), (Hi : Int))] #[.int .i64 Lo, .int .i64 Hi] rfl rfl rfl hzr (by simp [maxLen]) (by intro x hx; simp only [List.mem_singleton] at hx; subst hx; exact ⟨in64_nat Lo (by omega), in64_nat Hi (by omega)⟩))
          have HO5' := Lib.hid (HO5.out.ext ((Ext.refl wr).alloc (.cells #[.int .i64 Lo, .int .i64 Hi] 70)))
          have HS5' := Lib.hid (HS5.out.ext ((Ext.refl wr).alloc (.cells #[.int .i64 Lo, .int .i64 Hi] 70)))
          have HX5' := Lib.hid (HX5.out.alloc (.cells #[.int .i64 Lo, .int .i64 Hi] 70))
          obtain ⟨lb, hlb⟩ : ∃ lb, wr.heap.size = lb := ⟨_, rfl⟩
          rw [hlb] at HB5
          clear hcs hmem fl1 fl2 hlh hpre HO5 HS5 HX5
          go_wp2_with fail
          try rw [hlb]
          clear hlb
          go_loopw [10, 13] (fun v i wr' => ∃ u : Nat, Lo ≤ u ∧ u ≤ Hi ∧ i = .int .i64 u ∧ Ow kInt G2 wr' v (zs ((S.take j).flatMap rngS ++ List.range' Lo (u - Lo))) ∧ Ext w2 wr' ∧ Ow kSpan G2 wr' (.slice (some ⟨bs, os, none⟩) S.length ls) S ∧ Ow kSpan G2 wr' (.slice (some ⟨lb, 0, none⟩) 1 1) [((Lo : Int), (Hi : Int))]) (fun _ i _ => Hi - (intOf i).toNat)
          case atStart => exact ⟨Lo, Nat.le_refl _, hll, rfl, by simpa using HO5'.out, HX5'.out, HS5'.out, HB5.out⟩
          case round =>
            obtain ⟨u, hu1, hu2, rfl, hO, hX, hSS, hBB⟩ := hrel
            have z1 : wr.cell? ⟨lb, 1, none⟩ = some (.int .i64 Hi) := by
              obtain ⟨g9, e9, _, _, h9, _⟩ := hBB.pos (by simp)
              cases e9
              simpa using h9 0 (by simp) 1 (.int .i64 Hi) rfl
            have HO6 := Lib.hid hO
            have HX6 := Lib.hid hX
            have HS6 := Lib.hid hSS
            have HB6 := Lib.hid hBB
            have hu0 : (0 : Int) ≤ u := by omega
            clear hO hX hSS hBB
            by_cases hul : u < Hi
            · have hul' : (u : Int) < Hi := by omega
              have HY : ∀ w6 : World, Rd kInt (w6.alloc (.cells #[.int .i64 u] 3)) (.slice (some ⟨w6.heap.size, 0, none⟩) 1 1) [(u : Int)] := fun w6 => Ow.rd (K := kInt) (B := 0) (Ow.lit (K := kInt) (p := w6.heap.size) (n := 1) w6 [(u : Int)] #[.int .i64 u] rfl rfl rfl (Nat.zero_le _) (by simp [maxLen]) (by intro x hx; simp only [List.mem_singleton] at hx; subst hx; exact in64_nat u (by omega)))
              have HYY := Lib.hid HY
              have HLL : Hid ((zs ((S.take j).flatMap rngS ++ List.range' Lo (u - Lo))).length + [(u : Int)].length ≤ 1048576) := Lib.hid (by have := HPRE.out; rw [zs_len, List.length_append, List.length_range', List.length_singleton]; omega)
              have hz6 := HX6.out.size
              rw [HG2.out] at hz6
              clear HY
              go_wp2_with (at_builtin; refine kInt.wpList_app (by rfl) (.tmp 60) (.tmp 62) (by rfl) (by rfl) G2 _ (zs ((S.take j).flatMap rngS ++ List.range' Lo (u - Lo))) (by rfl) (HO6.out.ext ((Ext.refl _).alloc _)) _ [(u : Int)] (by rfl) (HYY.out _) HLL.out (by simp; omega) ?_; intro v' w8 hown8 hgrow8 hat8)
              have H8 := Lib.hid (And.intro hown8 (And.intro hgrow8 hat8))
              clear hown8 hgrow8 hat8
              go_roundw
              case rel =>
                obtain ⟨hown8, hgrow8, hat8⟩ := H8.out
                have hsi : kSpan.e ≠ kInt.e := by decide
                refine ⟨u + 1, by omega, by omega, by go_num, ?_, ?_, ?_, ?_⟩
                · rw [show u + 1 - Lo = (u - Lo) + 1 by omega, List.range'_1_concat, show Lo + (u - Lo) = u by omega, ← List.append_assoc, zs_app]
                  exact hown8
                · exact Ext.grown (HX6.out.alloc _) hgrow8 (fun x hx => by rw [HG2.out]; exact (HO6.out.lt x hx).1)
                · exact (HS6.out.ext ((Ext.refl _).alloc _)).beside (HO6.out.ext ((Ext.refl _).alloc _)) hsi hgrow8
                · exact (HB6.out.ext ((Ext.refl _).alloc _)).beside (HO6.out.ext ((Ext.refl _).alloc _)) hsi hgrow8
              case measure => simp [intOf]; omega
            · obtain rfl : u = Hi := by omega
              go_wp2_with fail
              go_roundw
              case rel => exact ⟨j + 1, by omega, by go_num, by rw [HFL.out]; exact HO6.out, HX6.out, HS6.out⟩
              case measure => simp [intOf]; omega
        · obtain rfl : j = S.length := by omega
          rw [List.take_length] at HO5
          have HXX := Lib.hid (HX2.out.trans HX5.out)
          obtain ⟨Lz, lz, hv, hlz⟩ := HO5.out.slice
          subst hv
          go_wp2_with fail
          refine bodyPost_ret (v := .tuple #[.slice Lz (zs (S.flatMap rngS)).length lz, .int .i64 evs.length, .int .i64 0]) (by simp [results, Try.results32, go_sem]) rfl (by rw [HEE.out]; exact ⟨Lz, lz, by rw [zs_len], by have := HO5.out.mono (B' := w.heap.size) (by omega); rw [zs_len] at this; exact this, HXX.out⟩)
end Go.Proofs.Ytggjjjfdkgfoiaa

/- Plain words of fill: what holds of an order, and of cells. No program in it. -/
namespace Go.Proofs.Ytggjjjfdkgfoiaa.Plain

theorem ordP_good {n : Nat} {g m : Int} {picks : List (Int × Int)} {os : List Nat} {st : Nat} (h : ordP n g m picks = (os, st, 0)) :
    ∃ G M : Nat, g = G ∧ m = M ∧ 1 ≤ G ∧ G ≤ 100 ∧ 1 ≤ M ∧ M ≤ 8 ∧ picks.length ≤ 4000 ∧ os.Perm (List.range n) ∧ st ≤ picks.length + M * (cntT (max 1 n) G + 1) ∧ min 1 n ≤ st := by
  unfold ordP at h
  split at h
  · simp at h
  · rename_i hb
    have hb' : planB g m picks.length = true := by simpa using hb
    obtain ⟨h1, h2, h3, h4, h5⟩ := (planB_iff _ _ _).1 hb'
    refine ⟨g.toNat, m.toNat, by omega, by omega, by omega, by omega, by omega, by omega, h5, ?_⟩
    split at h
    · rename_i hz
      subst hz
      simp only [Prod.mk.injEq] at h
      obtain ⟨rfl, rfl, _⟩ := h
      exact ⟨by simp, by simp, by simp⟩
    · rename_i hz
      simp only [Prod.mk.injEq] at h
      obtain ⟨rfl, rfl, _⟩ := h
      obtain ⟨w1, w2, w3, w4⟩ := whole_ends (g := g.toNat) (n := n) (m := m.toNat) (by omega) (by omega) (by omega) picks
      refine ⟨w4, ?_, ?_⟩
      · rw [show max 1 n = n by omega]; exact w3
      · rcases Nat.eq_zero_or_pos (wholeP g.toNat n m.toNat picks).2.length with h0 | h0
        · exfalso
          have h9 := w4.length_eq
          rw [List.eq_nil_of_length_eq_zero h0, orderL_nil, List.length_range] at h9
          simp at h9
          omega
        · omega
end Go.Proofs.Ytggjjjfdkgfoiaa.Plain

/- The program's each (fill), by Fill's closure. -/
namespace Go.Proofs.Ytggjjjfdkgfoiaa
open Go.BigFrame
open Go.RowKit Go.Proofs.Ytggjjjfdkgfoiaa.Plain

end Go.Proofs.Ytggjjjfdkgfoiaa

/- The program's each (fill), by Zip's closure. -/
namespace Go.Proofs.Ytggjjjfdkgfoiaa
open Go.BigFrame
open Go.RowKit Go.Proofs.Ytggjjjfdkgfoiaa.Plain

end Go.Proofs.Ytggjjjfdkgfoiaa

/- The program's Fill and Zip: with Right, Order, One the five contracts of fill. -/
namespace Go.Proofs.Ytggjjjfdkgfoiaa
open Go.BigFrame
open Go.RowKit Go.Proofs.Ytggjjjfdkgfoiaa.Plain

end Go.Proofs.Ytggjjjfdkgfoiaa

/- The program's walk (scan): in two phases, by each of its two rules. -/
namespace Go.Proofs.Ytggjjjfdkgfoiaa
open Go.BigFrame
open Go.RowKit Go.Shelf Go.Proofs.Ytggjjjfdkgfoiaa.Plain
attribute [local go_sem] Oper.semAt_some

theorem grown_drew (W : World) (row : Option Nat) : W.grownBy W.drew row := ⟨rfl, rfl, rfl, Nat.le_refl _, fun _ _ _ => rfl⟩
/-- no way out but the end and 'return' -/
def Clean (Q : Exit → Act → World → Prop) : Exit → Act → World → Prop
  | .normal, a, w => Q .normal a w
  | .ret, a, w => Q .ret a w
  | _, _, _ => False
theorem Clean.ret {Q : Exit → Act → World → Prop} {a : Act} {w : World} (h : Q .ret a w) : Clean Q .ret a w := h
theorem clean_wp {P : Program} {c : Code} {Q : Exit → Act → World → Prop} {a : Act} {w : World} (h : c.wp P (Clean Q) a w) : c.wp P Q a w :=
  wp_mono h fun e _ _ h9 => by cases e <;> first | exact h9 | exact h9.elim
/-- a rule that comes to the same cell by cell and block by block -/
structure Plain.RuleOk (R : Nat → Nat → Nat) : Prop where
  lt : ∀ a x, a < 4294967296 → x < 4294967296 → R a x < 4294967296
  assoc : ∀ a b c, a < 4294967296 → b < 4294967296 → c < 4294967296 → R (R a b) c = R a (R b c)
  left : ∀ x, x < 4294967296 → R 0 x = x
  right : ∀ x, x < 4294967296 → R x 0 = x
theorem Plain.addR_ok : RuleOk addR := ⟨addR_lt, fun a b c _ _ _ => by unfold addR; omega, fun x h => by unfold addR; omega, fun x h => by unfold addR; omega⟩
theorem Plain.RuleOk.fold {R : Nat → Nat → Nat} (h : RuleOk R) : ∀ (l : List Nat) (s : Nat), s < 4294967296 → (∀ x ∈ l, x < 4294967296) → l.foldl R s = R s (l.foldl R 0)
  | [], s, hs, _ => (h.right s hs).symm
  | x :: l, s, hs, hl => by
    have hx := hl x (by simp)
    have hl' : ∀ z ∈ l, z < 4294967296 := fun z hz => hl z (by simp [hz])
    rw [List.foldl_cons, List.foldl_cons, h.fold l (R s x) (h.lt _ _ hs hx) hl', h.left x hx, h.fold l x hx hl', h.assoc _ _ _ hs hx (foldR_lt h.lt l 0 (by decide) hl')]
/-- the blocks' totals, up to one: what all ahead come to -/
theorem Plain.RuleOk.starts {R : Nat → Nat → Nat} (h : RuleOk R) {l : List Nat} (hl : ∀ x ∈ l, x < 4294967296) (B N : Nat) : ∀ b, b ≤ N → ((byN N (fun u => (blkL l B u).foldl R 0)).take b).foldl R 0 = (l.take (b * B)).foldl R 0
  | 0, _ => by simp
  | b + 1, hb => by
    have ih := h.starts hl B N b (by omega)
    have hl1 : ∀ x ∈ l.take (b * B), x < 4294967296 := fun x hx => hl x (List.mem_of_mem_take hx)
    rw [takeN_snoc (by rw [byN_len]; omega), List.foldl_append, ih, byN_getD _ _ _ (by omega), Nat.add_mul, Nat.one_mul, List.take_add, List.foldl_append]
    show R _ _ = _
    rw [h.fold ((l.drop (b * B)).take B) _ (foldR_lt h.lt _ 0 (by decide) hl1) (fun x hx => hl x (List.mem_of_mem_drop (List.mem_of_mem_take hx)))]
    rfl
/-- what the walk makes of each cell -/
def Plain.walkL (R : Nat → Nat → Nat) (l : List Nat) : List Nat := byN l.length (fun i => (l.take i).foldl R 0)
/-- the cells, when so many blocks have come -/
def Plain.partL (R : Nat → Nat → Nat) (l : List Nat) (B : Nat) (pre : List Nat) : List Nat := byN l.length (fun i => if i / B ∈ pre then (l.take i).foldl R 0 else 0)
theorem Plain.partL_len (R : Nat → Nat → Nat) (l : List Nat) (B : Nat) (pre : List Nat) : (partL R l B pre).length = l.length := byN_len _ _
theorem Plain.partL_all {R : Nat → Nat → Nat} {l : List Nat} {B N : Nat} {os : List Nat} (hB : 0 < B) (hos : os.Perm (List.range N)) (hN : l.length ≤ N * B) : partL R l B os = walkL R l :=
  byN_congr _ _ _ fun i hi => by
    rw [if_pos]
    rw [hos.mem_iff, List.mem_range, Nat.div_lt_iff_lt_mul hB]; omega
theorem Plain.RuleOk.along {R : Nat → Nat → Nat} (h : RuleOk R) {l : List Nat} (hl : ∀ x ∈ l, x < 4294967296) {B : Nat} (hB : 0 < B) (pre : List Nat) (u : Nat) :
    alongL R (partL R l B pre) (blkL l B u) (u * B) ((l.take (u * B)).foldl R 0) (blkL l B u).length = partL R l B (pre ++ [u]) := by
  unfold alongL
  rw [partL_len]
  refine byN_congr _ _ _ fun i hi => ?_
  have hdiv : i / B = u ↔ u * B ≤ i ∧ i < u * B + B := by
    rw [Nat.div_eq_iff hB]; omega
  by_cases hiu : i / B = u
  · obtain ⟨h1, h2⟩ := hdiv.1 hiu
    rw [if_pos ⟨h1, by rw [blkL_len, Nat.add_mul, Nat.one_mul]; omega⟩, if_pos (by rw [hiu]; simp)]
    unfold blkL
    rw [List.take_take, Nat.min_eq_left (by omega), ← List.foldl_append]
    congr 1
    rw [← List.take_add]; congr 1; omega
  · rw [if_neg (fun h9 => hiu (hdiv.2 ⟨h9.1, by have := h9.2; rw [blkL_len, Nat.add_mul, Nat.one_mul] at this; omega⟩))]
    unfold partL
    rw [byN_getD _ _ _ hi]
    by_cases hm : i / B ∈ pre
    · rw [if_pos hm, if_pos (by simp [hm])]
    · rw [if_neg hm, if_neg (by simp [hm, hiu])]
/-- what stands ahead of each block -/
theorem Plain.RuleOk.starts_eq {R : Nat → Nat → Nat} (h : RuleOk R) {l os : List Nat} (hl : ∀ x ∈ l, x < 4294967296) {B : Nat} (hos : os.Perm (List.range os.length)) :
    alongL R (byN os.length (fun _ => 0)) (byN os.length (accF R l B os)) 0 0 os.length = byN os.length (fun u => (l.take (u * B)).foldl R 0) := by
  unfold alongL
  rw [byN_len, byN_congr os.length (accF R l B os) (fun u => (blkL l B u).foldl R 0) (fun u hu => accF_once hos hu)]
  refine byN_congr _ _ _ fun u hu => ?_
  rw [if_pos (by omega), Nat.sub_zero, h.starts hl B os.length u (by omega)]
theorem Plain.RuleOk.total_eq {R : Nat → Nat → Nat} (h : RuleOk R) {l os : List Nat} (hl : ∀ x ∈ l, x < 4294967296) {B : Nat} (hos : os.Perm (List.range os.length)) (hN : l.length ≤ os.length * B) :
    (byN os.length (accF R l B os)).foldl R 0 = l.foldl R 0 := by
  have h1 := h.starts hl B os.length os.length (Nat.le_refl _)
  rw [byN_congr os.length (accF R l B os) (fun u => (blkL l B u).foldl R 0) (fun u hu => accF_once hos hu)]
  rw [List.take_of_length_le (by rw [byN_len]; exact Nat.le_refl _), List.take_of_length_le hN] at h1
  exact h1
def Plain.walkP (R : Nat → Nat → Nat) (l : List Nat) (b g m : Int) (picks : List (Int × Int)) : List Nat × Nat × Nat × Int :=
  if (stepsP l.length b g m picks).2 ≠ 0 then ([], 0, 0, (stepsP l.length b g m picks).2) else (walkL R l, l.foldl R 0, (stepsP l.length b g m picks).1, 0)
theorem Plain.blocks_all {n B : Nat} (hn : n ≤ 1000) (h1 : 1 ≤ B) (h2 : B ≤ 100) : n ≤ blocksP n B * B := by
  unfold blocksP
  rw [if_pos (by omega), Int.toNat_natCast]
  have h := Nat.lt_mul_div_succ (n + B - 1) (show 0 < B by omega)
  rw [Nat.mul_comm, Nat.add_mul, Nat.one_mul] at h
  omega
/-- what the two orders' errors and steps say of each other -/
theorem Plain.steps_by {n B : Nat} (g m : Int) (picks : List (Int × Int)) (h1 : 1 ≤ B) (h2 : B ≤ 100) :
    stepsP n B g m picks = if (ordP (blocksP n B) g m picks).2.2 ≠ 0 then (0, (ordP (blocksP n B) g m picks).2.2) else (2 * (ordP (blocksP n B) g m picks).2.1, 0) := by
  unfold stepsP
  rw [if_neg (by omega)]
  by_cases he : (ordP n g m picks).2.2 = 0
  · have h9 := ordP_err_any n (blocksP n B) g m picks he
    rw [if_neg (by simp [he]), if_neg (by simp [h9])]
  · have h9 : (ordP (blocksP n B) g m picks).2.2 ≠ 0 := fun h8 => he (ordP_err_any _ _ g m picks h8)
    rcases ordP_err n g m picks with h | h
    · exact absurd h he
    · rcases ordP_err (blocksP n B) g m picks with h8 | h8
      · exact absurd h8 h9
      · rw [if_pos he, if_pos h9, h, h8]
end Go.Proofs.Ytggjjjfdkgfoiaa

/- The program's walk (scan), by its rule of sums. -/
namespace Go.Proofs.Ytggjjjfdkgfoiaa
open Go.BigFrame
open Go.RowKit Go.Shelf Go.Proofs.Ytggjjjfdkgfoiaa.Plain
attribute [local go_sem] Oper.semAt_some

set_option maxHeartbeats 3200000 in
set_option maxRecDepth 100000 in
theorem swalk1_any (l : List Nat) (L : Option Addr) (lc : Nat) (b g m : Int) (Ap : Option Addr) (cp : Nat) (picks : List (Int × Int)) (w : World) (hL : Rd kU32 w (.slice L l.length lc) (zs l)) (hp : Rd kPk w (.slice Ap picks.length cp) picks) (hl : l.length ≤ 900) (hb : in64 b) (hg : in64 g) (hm : in64 m) :
    Calls Try.prog 28 #[.slice L l.length lc, .int .i64 b, planV g m Ap picks.length cp, .func (.func 29) #[] #[]] w (SumsSaid (walkP addR l b g m picks) w) := by
  have HP := Lib.hid hp
  have HL := Lib.hid hL
  have HLT := Lib.hid (zs_lt hL)
  have HGM := Lib.hid (And.intro hg (And.intro hm hb))
  have HLL := Lib.hid hl
  have hl' : (l.length : Int) ≤ 900 := by omega
  refine callsIn_wide.1 (callsIn_of_wp_marks (n := 2) Try.func28 rfl trivial ?_ rfl)
  simp only [Try.ntmps28, List.size_toArray, List.length_cons, List.length_nil, Nat.reduceAdd, Nat.reduceSub, Array.replicate_succ, Array.replicate_zero, List.push_toArray, List.append_toArray, List.nil_append, List.cons_append]
  refine (wpIn_wide (n := 2)).2 (clean_wp ?_)
  by_cases hbr : 1 ≤ b ∧ b ≤ 100
  case neg =>
    have HE : Hid (walkP addR l b g m picks = ([], 0, 0, 1)) := Lib.hid (by unfold walkP stepsP; rw [if_pos (by omega : ¬ (1 ≤ b ∧ b ≤ 100))]; simp)
    have HR := Lib.hid (fun w => (sright_any b w hb).mono (fun ed w' (h : _ ∧ _) => (⟨by rw [h.1, decide_eq_false hbr], h.2⟩ : ed = .returned (.bool false) ∧ w = w')))
    clear hp hL hg hm hb hl hbr
    go_wp2_with fail
    refine (HR.out _).mono ?_
    rintro ed w1 ⟨rfl, rfl⟩
    go_wp2_with fail
    refine Clean.ret ⟨.tuple #[.slice none 0 0, .int .u32 0, .int .i64 0, .int .i64 1], by simp [results, Try.results28, go_sem], ?_⟩
    rw [HE.out]
    exact ⟨none, 0, rfl, Ow.nil _ _, (((Ext.refl _).alloc _).alloc _).alloc _⟩
  case pos =>
  obtain ⟨B, rfl⟩ : ∃ B : Nat, b = B := ⟨b.toNat, by omega⟩
  have hB1 : 1 ≤ B := by omega
  have hB2 : B ≤ 100 := by omega
  have HR := Lib.hid (fun w => (sright_any B w hb).mono (fun ed w' (h : _ ∧ _) => (⟨by rw [h.1, decide_eq_true hbr], h.2⟩ : ed = .returned (.bool true) ∧ w = w')))
  have HBK := Lib.hid (fun w => sblocksE_any l.length B w (by omega) hb)
  have HST := Lib.hid (steps_by (n := l.length) g m picks hB1 hB2)
  have hN9 : blocksP l.length B ≤ 900 := Nat.le_trans (blocksP_le _ _) hl
  have HBL := Lib.hid (And.intro (fun u => blocks_at (n := l.length) (B := B) (u := u) (by omega) hB1 hB2) (blocks_all (n := l.length) (B := B) (by omega) hB1 hB2))
  have herr := ordP_err (blocksP l.length B) g m picks
  have HSB : Hid ((ordP (blocksP l.length B) g m picks).2.2 = 0 → (ordP (blocksP l.length B) g m picks).2.1 ≤ 30000 ∧ (ordP (blocksP l.length B) g m picks).1.Perm (List.range (blocksP l.length B))) := Lib.hid (fun h => ⟨by have := ordP_steps (blocksP l.length B) g m picks hN9; have := ordP_plan h; omega, by
    obtain ⟨⟨os, st, er⟩, hr⟩ : ∃ x, ordP (blocksP l.length B) g m picks = x := ⟨_, rfl⟩
    rw [hr] at h ⊢
    simp only at h
    subst h
    obtain ⟨_, _, _, _, _, _, _, _, _, h9, _⟩ := ordP_good hr
    exact h9⟩)
  clear hp hL hg hm hb hl hbr
  obtain ⟨N, hN⟩ : ∃ N, blocksP l.length B = N := ⟨_, rfl⟩
  rw [hN] at HBK HST hN9 HBL herr HSB
  clear hN
  have HORD := Lib.hid (fun (w' : World) (hE : Ext w w') => forder_any N g m Ap cp picks w' (HP.out.ext hE) hN9 HGM.out.1 HGM.out.2.1)
  obtain ⟨⟨os, st, er⟩, hr⟩ : ∃ x, ordP N g m picks = x := ⟨_, rfl⟩
  rw [hr] at HST herr HSB HORD
  simp only at HST herr HSB
  clear hr
  go_upto_region 3 with (refine (HR.out _).mono ?_; rintro ed w1 ⟨rfl, rfl⟩)
  have hW : Ext w (((w.alloc (.cells #[.slice L l.length lc] 22)).alloc (.cells #[.int .i64 g, .int .i64 m, .slice Ap picks.length cp] 39)).alloc (.cells #[.func (.func 29) #[] #[]] 58)) := (((Ext.refl _).alloc _).alloc _).alloc _
  have hzW : (((w.alloc (.cells #[.slice L l.length lc] 22)).alloc (.cells #[.int .i64 g, .int .i64 m, .slice Ap picks.length cp] 39)).alloc (.cells #[.func (.func 29) #[] #[]] 58)).heap.size = w.heap.size + 3 := by simp
  generalize hW1 : (((w.alloc (.cells #[.slice L l.length lc] 22)).alloc (.cells #[.int .i64 g, .int .i64 m, .slice Ap picks.length cp] 39)).alloc (.cells #[.func (.func 29) #[] #[]] 58)) = w1 at *
  have c0 : w1.cell? ⟨w.heap.size, 0, none⟩ = some (.slice L l.length lc) := by subst hW1; go_simp
  have d0 : w1.cell? ⟨w.heap.size + 1, 0, none⟩ = some (.int .i64 g) := by subst hW1; go_simp
  have d1 : w1.cell? ⟨w.heap.size + 1, 1, none⟩ = some (.int .i64 m) := by subst hW1; go_simp
  have d2 : w1.cell? ⟨w.heap.size + 1, 2, none⟩ = some (.slice Ap picks.length cp) := by subst hW1; go_simp
  have c1 : w1.cell? ⟨w.heap.size + 1 + 1, 0, none⟩ = some (.func (.func 29) #[] #[]) := by subst hW1; go_simp
  have HX1 := Lib.hid hW
  have HZ1 := Lib.hid hzW
  have HC1 := Lib.hid (And.intro c0 c1)
  clear hW1 hW hzW
  go_cut [12, 13, 14] from 20 (fun o s e wx => ∃ (Lo : Option Addr) (lo : Nat), o = .slice Lo os.length lo ∧ s = .int .i64 st ∧ e = .int .i64 er ∧ Ow kInt w.heap.size wx (.slice Lo os.length lo) (zs os) ∧ Ext w1 wx)
  case first =>
    go_region_law (first
      | (go_simp; go_at_call 33; refine (HBK.out _).mono ?_; rintro ed w5 ⟨rfl, rfl⟩)
      | (go_simp; go_at_call 32; refine (HORD.out _ (HX1.out.trans (Ext.refl _).drew)).mono ?_; rintro ed w5 ⟨Lo, lo, rfl, hO5, hE5⟩))
    all_goals go_wp2_with fail
    all_goals go_meet
    all_goals exact ⟨Lo, lo, rfl, rfl, rfl, hO5.mono (by have := HZ1.out; simp; omega), (Ext.refl _).drew.trans hE5⟩
  case rest =>
  obtain ⟨Lo, lo, rfl, rfl, rfl, hO2, hE2⟩ := hcut
  generalize wc = w2 at *
  have HX2 := Lib.hid (HX1.out.trans hE2)
  rcases herr with rfl | rfl
  case inr =>
    have HE : Hid (walkP addR l B g m picks = ([], 0, 0, 1)) := Lib.hid (by unfold walkP; rw [HST.out]; simp)
    clear hO2 hE2
    go_wp2_with fail
    refine Clean.ret ⟨.tuple #[.slice none 0 0, .int .u32 0, .int .i64 0, .int .i64 1], by simp [results, Try.results28, go_sem], ?_⟩
    rw [HE.out]
    exact ⟨none, 0, rfl, Ow.nil _ _, HX2.out⟩
  case inl =>
  obtain ⟨hst9, hperm⟩ := HSB.out rfl
  have hlen : os.length = N := by rw [hperm.length_eq, List.length_range]
  subst hlen
  have HPM := Lib.hid hperm
  have HF : Hid (walkP addR l B g m picks = (walkL addR l, l.foldl addR 0, 2 * st, 0)) := Lib.hid (by unfold walkP; rw [HST.out]; simp)
  have hst9' : (st : Int) ≤ 30000 := by omega
  have HO2 := Lib.hid hO2
  have n0 := Ext.cell hE2 HC1.out.1
  have n1 := Ext.cell hE2 HC1.out.2
  have HZ2 : Hid (w.heap.size + 3 ≤ w2.heap.size) := Lib.hid (by have := hE2.size; have := HZ1.out; omega)
  have hos9 : (os.length : Int) ≤ 900 := by omega
  obtain ⟨C, hmk, hmown⟩ := kU32.make 0 rfl (show (0 : Int) ≤ 0 ∧ (0 : Int) ≤ 4294967295 by omega) os.length (by omega)
  have HMK := Lib.hid hmown
  have hmk2 : ∀ w : World, (Instr.makeSlice 22 (.int .i64 os.length) (.int .i64 os.length)).run Try.prog w = .ok (.slice (some ⟨w.heap.size, 0, none⟩) os.length os.length) (w.alloc (.cells C 30)) := hmk
  clear hO2 hE2 hperm hmk hmown c0 c1 d0 d1 d2 hst9
  go_upto_region 7 with fail
  have HTE := Lib.hid ((addR_ok).starts_eq HLT.out (B := B) HPM.out)
  have HTT := Lib.hid ((addR_ok).total_eq HLT.out (B := B) HPM.out HBL.out.2)
  have hT9 : ∀ x ∈ byN os.length (accF addR l B os), x < 4294967296 := fun x hx => by
    obtain ⟨u, _, rfl⟩ := List.mem_map.1 hx
    exact accF_lt addR_lt HLT.out B os u
  obtain ⟨T, hT⟩ : ∃ T, byN os.length (accF addR l B os) = T := ⟨_, rfl⟩
  have hTl : T.length = os.length := by rw [← hT, byN_len]
  have HTOT := Lib.hid (fun (w' : World) (hE : Ext w2 w') => stot1_any l os L Lo lc lo B B w' (HL.out.ext (HX2.out.trans hE)) (HO2.out.rd.ext hE) HLL.out hB2 (by omega) hB1 (fun _ => rfl) (fun a ha => by
    have h9 := HO2.out.lt a.block (by subst ha; rfl)
    have := hE.size
    omega) (fun u hu => by have := (HPM.out.mem_iff (a := u)).1 hu; exact List.mem_range.1 this) (fun u hu => HBL.out.1 u hu))
  rw [hT] at HTE HTT HTOT
  have HTL := Lib.hid (And.intro hTl hT9)
  clear hT hTl hT9
  obtain ⟨S1, hS1⟩ : ∃ S1, w2.heap.size = S1 := ⟨_, rfl⟩
  have HM0 : Hid (Ow kU32 w.heap.size ((w2.alloc (.cells C 30)).alloc (.cells #[.slice (some ⟨S1, 0, none⟩) os.length os.length] 22)) (.slice (some ⟨S1, 0, none⟩) os.length os.length) (zs (byN os.length (fun _ => 0)))) := Lib.hid (by
    have h9 := HMK.out w2 w.heap.size S1 hS1.symm (by have := HZ2.out; omega)
    rw [show zs (byN os.length (fun _ => 0)) = List.replicate os.length (0 : Int) from by
      unfold zs byN; rw [List.map_map]; apply List.ext_getElem?; intro i; by_cases hi : i < os.length
      · rw [List.getElem?_map, List.getElem?_range hi, List.getElem?_replicate, if_pos hi]; rfl
      · rw [List.getElem?_eq_none (by simpa using hi), List.getElem?_eq_none (by simpa using hi)]]
    exact h9.ext ((Ext.refl _).alloc _))
  have hb15 : ((w2.alloc (.cells C 30)).alloc (.cells #[.slice (some ⟨S1, 0, none⟩) os.length os.length] 22)).cell? ⟨S1 + 1, 0, none⟩ = some (.slice (some ⟨S1, 0, none⟩) os.length os.length) := by subst hS1; go_simp
  have hX3 : Ext w2 ((w2.alloc (.cells C 30)).alloc (.cells #[.slice (some ⟨S1, 0, none⟩) os.length os.length] 22)) := ((Ext.refl _).alloc _).alloc _
  have hz3 : ((w2.alloc (.cells C 30)).alloc (.cells #[.slice (some ⟨S1, 0, none⟩) os.length os.length] 22)).heap.size = S1 + 2 := by simp; omega
  rw [hS1]
  generalize ((w2.alloc (.cells C 30)).alloc (.cells #[.slice (some ⟨S1, 0, none⟩) os.length os.length] 22)) = w3 at *
  have m0 := Ext.cell hX3 n0
  have m1 := Ext.cell hX3 n1
  have HX3 := Lib.hid (And.intro hX3 (And.intro hz3 hS1))
  have HN01 := Lib.hid (And.intro n0 (And.intro n1 hb15))
  clear hX3 hz3 hmk2 n0 n1
  go_cut [16] from 20 (fun a wx => a = .int .u32 (T.foldl addR 0 : Nat) ∧ Ow kU32 w.heap.size wx (.slice (some ⟨S1, 0, none⟩) os.length os.length) (zs (alongL addR (byN os.length (fun _ => 0)) T 0 0 T.length)) ∧ Ext w2 wx ∧ wx.cell? ⟨S1 + 1, 0, none⟩ = some (.slice (some ⟨S1, 0, none⟩) os.length os.length) ∧ S1 + 2 ≤ wx.heap.size)
  case first =>
    clear hS1
    go_region_law (first
      | (go_simp; go_at_call 35; refine (HTOT.out _ (HX3.out.1.trans (Ext.refl _).drew)).mono ?_; rintro ed w5 ⟨L5, l5, rfl, hO5, hE5⟩
         have k15 : w5.cell? ⟨S1 + 1, 0, none⟩ = some (.slice (some ⟨S1, 0, none⟩) os.length os.length) := Ext.cell hE5 hb15
         have k1 := Ext.cell hE5 m1)
      | (go_simp; go_at_call 34
         refine (salong1_any S1 0 os.length os.length os.length w.heap.size 0 (byN os.length (fun _ => 0)) T L5 l5 w5 (by rw [byN_len]; exact HM0.out.ext ((Ext.refl _).drew.trans hE5)) hO5.rd (fun a ha => by
           have h9 := hO5.lt a.block (by subst ha; rfl)
           have h8 := HX3.out.2.1
           simp at h9
           omega) (by rw [byN_len]; omega) (by rw [HTL.out.1]; exact Nat.le_refl _) (by decide) (by rw [byN_len]; omega)).mono ?_
         rintro ed w6 ⟨rfl, hO6, hg6⟩))
    all_goals go_wp2_with fail
    all_goals go_meet
    all_goals exact ⟨rfl, by rw [byN_len] at hO6; exact hO6, (HX3.out.1.trans ((Ext.refl _).drew.trans hE5)).grown hg6 (fun r e => by cases e; have := HX3.out.2.2; omega), hg6.cell k15 (by simp), by
      have h9 := hg6.size
      have h8 := hE5.size
      have h7 := HX3.out.2.1
      simp at h8
      omega⟩
  case rest =>
  obtain ⟨rfl, hO4, hE4, hb4, hz4⟩ := hcut
  generalize wc = w4 at *
  rw [HTL.out.1, HTE.out] at hO4
  rw [HTT.out]
  have p0 := Ext.cell hE4 HN01.out.1
  have p1 := Ext.cell hE4 HN01.out.2.1
  have HX4 := Lib.hid (HX2.out.trans hE4)
  have HO4 := Lib.hid hO4
  have HE4 := Lib.hid (And.intro hE4 (And.intro hz4 (And.intro hb4 hS1)))
  obtain ⟨C2, hmk3, hmown2⟩ := kU32.make 0 rfl (show (0 : Int) ≤ 0 ∧ (0 : Int) ≤ 4294967295 by omega) l.length (by omega)
  have HMK2 := Lib.hid hmown2
  have hmk4 : ∀ w : World, (Instr.makeSlice 22 (.int .i64 l.length) (.int .i64 l.length)).run Try.prog w = .ok (.slice (some ⟨w.heap.size, 0, none⟩) l.length l.length) (w.alloc (.cells C2 30)) := hmk3
  have lw4 : w.heap.size < w4.heap.size := World.block_lt_of_cell? _ _ p0
  have lw4' : w.heap.size + 1 + 1 < w4.heap.size := World.block_lt_of_cell? _ _ p1
  clear hmk3 hmown2 HMK HM0 HTOT HTL HX3 HN01 hO4 hE4 m0 m1 hb15 hS1
  go_wp2_with fail
  refine (sblocks0_any Lo os.length lo l.length B _).mono ?_
  rintro ed w5 ⟨rfl, rfl⟩
  go_wp2_with fail
  obtain ⟨G, hG⟩ : ∃ G, w4.heap.size = G := ⟨_, rfl⟩
  rw [hG]
  have r0 : (((((w4.alloc (.cells C2 30)).alloc (.cells #[.slice (some ⟨G, 0, none⟩) l.length l.length] 22)).alloc (.cells #[.slice Lo os.length lo] 23)).alloc (.cells #[.int .i64 l.length] 3)).alloc (.cells #[.int .i64 B] 3)).cell? ⟨G + 1, 0, none⟩ = some (.slice (some ⟨G, 0, none⟩) l.length l.length) := by subst hG; go_simp
  have r1 : (((((w4.alloc (.cells C2 30)).alloc (.cells #[.slice (some ⟨G, 0, none⟩) l.length l.length] 22)).alloc (.cells #[.slice Lo os.length lo] 23)).alloc (.cells #[.int .i64 l.length] 3)).alloc (.cells #[.int .i64 B] 3)).cell? ⟨G + 1 + 1, 0, none⟩ = some (.slice Lo os.length lo) := by subst hG; go_simp
  have r2 : (((((w4.alloc (.cells C2 30)).alloc (.cells #[.slice (some ⟨G, 0, none⟩) l.length l.length] 22)).alloc (.cells #[.slice Lo os.length lo] 23)).alloc (.cells #[.int .i64 l.length] 3)).alloc (.cells #[.int .i64 B] 3)).cell? ⟨G + 1 + 1 + 1, 0, none⟩ = some (.int .i64 l.length) := by subst hG; go_simp
  have r3 : (((((w4.alloc (.cells C2 30)).alloc (.cells #[.slice (some ⟨G, 0, none⟩) l.length l.length] 22)).alloc (.cells #[.slice Lo os.length lo] 23)).alloc (.cells #[.int .i64 l.length] 3)).alloc (.cells #[.int .i64 B] 3)).cell? ⟨G + 1 + 1 + 1 + 1, 0, none⟩ = some (.int .i64 B) := by subst hG; go_simp
  have hE5 : Ext w4 (((((w4.alloc (.cells C2 30)).alloc (.cells #[.slice (some ⟨G, 0, none⟩) l.length l.length] 22)).alloc (.cells #[.slice Lo os.length lo] 23)).alloc (.cells #[.int .i64 l.length] 3)).alloc (.cells #[.int .i64 B] 3)) := (((((Ext.refl w4).alloc _).alloc _).alloc _).alloc _).alloc _
  have hz5 : (((((w4.alloc (.cells C2 30)).alloc (.cells #[.slice (some ⟨G, 0, none⟩) l.length l.length] 22)).alloc (.cells #[.slice Lo os.length lo] 23)).alloc (.cells #[.int .i64 l.length] 3)).alloc (.cells #[.int .i64 B] 3)).heap.size = G + 5 := by simp; omega
  have hM5 : Ow kU32 w.heap.size (((((w4.alloc (.cells C2 30)).alloc (.cells #[.slice (some ⟨G, 0, none⟩) l.length l.length] 22)).alloc (.cells #[.slice Lo os.length lo] 23)).alloc (.cells #[.int .i64 l.length] 3)).alloc (.cells #[.int .i64 B] 3)) (.slice (some ⟨G, 0, none⟩) l.length l.length) (zs (partL addR l B [])) := by
    have h9 := HMK2.out w4 w.heap.size G hG.symm (by have := HX4.out.size; omega)
    rw [show zs (partL addR l B []) = List.replicate l.length (0 : Int) from by
      unfold zs partL byN; rw [List.map_map]; apply List.ext_getElem?; intro i; by_cases hi : i < l.length
      · rw [List.getElem?_map, List.getElem?_range hi, List.getElem?_replicate, if_pos hi]; simp
      · rw [List.getElem?_eq_none (by simpa using hi), List.getElem?_eq_none (by simpa using hi)]]
    exact h9.ext (((((Ext.refl _).alloc _).alloc _).alloc _).alloc _)
  generalize (((((w4.alloc (.cells C2 30)).alloc (.cells #[.slice (some ⟨G, 0, none⟩) l.length l.length] 22)).alloc (.cells #[.slice Lo os.length lo] 23)).alloc (.cells #[.int .i64 l.length] 3)).alloc (.cells #[.int .i64 B] 3)) = W0 at *
  have r4 := Ext.cell hE5 p0
  have r5 := Ext.cell hE5 p1
  have r6 := Ext.cell hE5 hb4
  have HRC := Lib.hid (And.intro r0 (And.intro r4 (And.intro r5 r6)))
  have HE5 := Lib.hid (And.intro hE5 (And.intro hz5 hG))
  have HEW : Hid (Ext w W0) := Lib.hid (HX4.out.trans hE5)
  have HOL : Hid (∀ a, Lo = some a → a.block < w2.heap.size) := Lib.hid (fun a ha => (HO2.out.lt a.block (by subst ha; rfl)).2)
  have hw2 : w2.heap.size + 2 ≤ G := by have := HE4.out.2.1; have := HE4.out.2.2.2; omega
  have hlo := HE4.out.2.2.2
  have hww : w.heap.size + 3 ≤ w2.heap.size := HZ2.out
  clear hmk4 p0 p1 hb4 hG
  refine range_blocks 18 19 G w.heap.size l.length B os.length lo l.length l.length (G + 1 + 1) (G + 1 + 1 + 1 + 1) (G + 1 + 1 + 1) B os Lo (partL addR l B)
    rfl (by have := HLL.out; omega) hB2 (by omega) (fun u hu => by have := (HPM.out.mem_iff (a := u)).1 hu; exact List.mem_range.1 this) (by omega) (by omega) (by omega) r1 r3 (fun _ => rfl) r2 (HO2.out.rd.ext (HE4.out.1.trans hE5)) (fun a ha => ⟨by have := HOL.out a ha; omega, by have := HOL.out a ha; omega⟩) hM5 (by omega) ?assign ?body ?done
  case assign =>
    intro l9 u p q W K hK
    simp only [List.setIfInBounds_toArray, List.set_cons_succ, List.set_cons_zero]
    gi_wp2
    have h9 := hK W.heap.size (W.alloc (.cells #[.int .i64 p, .int .i64 q] 70)) ((Ext.refl W).alloc _) (KeepsOthers.alloc _ _) (Nat.le_refl _) (by go_simp) (by go_simp)
    simpa [roundAct] using h9
  case body =>
    intro l9 pre u p q Bx W hu hp hq hlen hO hX hBx h1 h2
    have hbl := HBL.out.1 u hu
    have hqp : p < q ∧ q ≤ l.length := by
      rw [Nat.add_mul, Nat.one_mul] at hq
      omega
    have hlb : (blkL l B u).length = q - p := by rw [blkL_len, hp, hq]
    have hblk : (l.drop p).take (q - p) = blkL l B u := by
      rw [← hlb]; unfold blkL; rw [← hp, List.length_take, ← List.take_take, List.take_of_length_le (Nat.le_refl _)]
    have cC := hX.cell HRC.out.1 (by show G + 1 < _; omega) (by show G + 1 ≠ _; omega)
    have cL := hX.cell HRC.out.2.1 (by show w.heap.size < _; omega) (by show w.heap.size ≠ _; omega)
    have cR := hX.cell HRC.out.2.2.1 (by show w.heap.size + 1 + 1 < _; omega) (by show w.heap.size + 1 + 1 ≠ _; omega)
    have cS := hX.cell HRC.out.2.2.2 (by show S1 + 1 < _; omega) (by show S1 + 1 ≠ _; omega)
    obtain ⟨zs0, -, hs9, -, -⟩ := (HO4.out.ext HE5.out.1).atN (u := u) (by rw [byN_len]; exact hu)
    rw [byN_getD _ _ _ hu] at zs0 hs9
    have cZ := hX.cell zs0 (by show S1 < _; omega) (by show S1 ≠ _; omega)
    have hlc : l.length ≤ lc := by obtain ⟨_, c', e, h9⟩ := HL.out.slice; simp only [Value.slice.injEq] at e; rw [zs_len] at h9; omega
    obtain ⟨bx, ox, rfl, zb, -⟩ := u32_at HL.out p (by omega)
    have hbx : bx < w.heap.size := World.block_lt_of_cell? _ _ zb
    have hXW : Ext w W := KeepsBut.ext HEW.out hX (by omega) (by omega)
    have hpc : Rd kU32 W (.slice (some ⟨bx, ox + p, none⟩) (blkL l B u).length (lc - p)) (zs (blkL l B u)) := by
      have h9 := ((HL.out.ext hXW).dropAdd p p (l.length - p) (lc - p) (by show p = p * 1; omega) (by rw [zs_len]) (by omega)).take (q - p) (lc - p) (by rw [List.length_drop, zs_len]; omega) (by omega)
      rw [hlb, ← hblk]
      rw [add_atk] at h9
      unfold zs at h9 ⊢
      rw [List.map_take, List.map_drop]
      exact h9
    have hal := (addR_ok).along HLT.out (by omega : 0 < B) pre u
    rw [← hp] at hal hs9 cZ
    obtain ⟨s, hs⟩ : ∃ s, (l.take p).foldl addR 0 = s := ⟨_, rfl⟩
    rw [hs] at hal hs9 cZ
    have hcall : Hid (Calls Try.prog 34 #[.slice (some ⟨G, p, none⟩) (q - p) (l.length - p), .slice (some ⟨bx, ox + p, none⟩) (q - p) (lc - p), .int .u32 s, .func (.func 29) #[] #[]] W.drew
        (fun ed w' => (∃ v, ed = .returned v) ∧ Ow kU32 w.heap.size w' (.slice (some ⟨G, 0, none⟩) l.length l.length) (zs (partL addR l B (pre ++ [u]))) ∧ W.drew.grownBy w' (some G))) := Lib.hid (by
      have h9 := salong1_any G p (q - p) (l.length - p) l.length w.heap.size s (partL addR l B pre) (blkL l B u) (some ⟨bx, ox + p, none⟩) (lc - p) W.drew (by rw [partL_len]; exact hO.ext (Ext.refl _).drew) (hpc.ext (Ext.refl _).drew)
        (fun a ha => by cases ha; show bx ≠ G; omega) (by rw [partL_len]; omega) (by omega) hs9 (by rw [partL_len]; have := HLL.out; omega)
      rw [hal, partL_len, hlb] at h9
      exact h9.mono fun ed w' h8 => ⟨⟨_, h8.1⟩, h8.2⟩)
    have hp9 : (0 : Int) ≤ p := by omega
    have hpq : (p : Int) ≤ q := by omega
    have hqc : q ≤ lc := by omega
    have hqc' : (q : Int) ≤ lc := by omega
    have hql : q ≤ l.length := by omega
    have hql' : (q : Int) ≤ l.length := by omega
    have hne : ¬ lc = p := by omega
    have hne' : ¬ l.length = p := by omega
    have hq9 : (q : Int) ≤ 900 := by omega
    have hu0 : (0 : Int) ≤ u := by omega
    have hu1 : (u : Int) < os.length := by omega
    have hd1 : decide ((u : Int) < 0) = false := decide_eq_false (by omega)
    have hd2 : decide ((os.length : Int) ≤ (u : Int)) = false := decide_eq_false (by omega)
    have hmo : Try.prog.follows .mixedOrders = true := by kernel_rfl
    obtain ⟨Q1, hQ1⟩ : ∃ z, q - p = z := ⟨_, rfl⟩
    rw [hQ1] at hcall
    clear hp hq hlb hblk hO hX hbl hlc hqp zs0 hs9 hs hal hpc hu zb hXW hM5 hE5 r0 r1 r2 r3 r4 r5 r6
    simp only [roundAct, List.setIfInBounds_toArray, List.set_cons_succ, List.set_cons_zero]
    gi_wp2
    refine round_still_tail (by rintro ⟨a, w, h⟩; exact h) 17 hmo (by kernel_rfl) (by kernel_rfl) ?_
    simp only [List.take_succ_cons, List.take_zero, List.drop_succ_cons, List.drop_zero]
    repeat still_step
    try refine wpStill_nil ?_
    go_wp2_with fail
    refine hcall.out.mono ?_
    rintro ed w5 ⟨⟨v5, rfl⟩, hO5, hg5⟩
    go_wp2_with fail
    exact ⟨(grown_drew W _).trans hg5, hO5⟩
  case done =>
    intro D W hD hO hX hK
    have h9 := hX.cell HRC.out.1 (by show G + 1 < _; omega) (by show G + 1 ≠ _; omega)
    rw [partL_all (by omega : 0 < B) HPM.out HBL.out.2] at hO
    go_wp2_with fail
    refine Clean.ret ⟨by simp, .inl ⟨_, _, rfl, run_takeDeferred hK, ?_⟩⟩
    refine ⟨.tuple #[.slice (some ⟨G, 0, none⟩) l.length l.length, .int .u32 (l.foldl addR 0 : Nat), .int .i64 (2 * st : Nat), .int .i64 0], by simp [results, Try.results28, go_sem], ?_⟩
    rw [HF.out]
    refine ⟨some ⟨G, 0, none⟩, l.length, by simp [walkL, byN_len], by
      have hlw : (walkL addR l).length = l.length := byN_len _ _
      rw [hlw]
      exact hO.kept (grownBy_putObj' W D _) (.inr (fun e => absurd (show G = D by simpa [Value.ownBlock] using e) (by omega))), ?_⟩
    exact (KeepsBut.ext HEW.out hX (by omega) (by omega)).grown (grownBy_putObj' W D _) (fun r e => by cases e; omega)
end Go.Proofs.Ytggjjjfdkgfoiaa

/- The program's walk (scan), by its rule of the highest. -/
namespace Go.Proofs.Ytggjjjfdkgfoiaa
open Go.BigFrame
open Go.RowKit Go.Shelf Go.Proofs.Ytggjjjfdkgfoiaa.Plain
attribute [local go_sem] Oper.semAt_some

end Go.Proofs.Ytggjjjfdkgfoiaa

/- The program's Sums and Highest: with Blocks, Totals, Back the five contracts of scan. -/
namespace Go.Proofs.Ytggjjjfdkgfoiaa
open Go.BigFrame
open Go.RowKit Go.Proofs.Ytggjjjfdkgfoiaa.Plain

theorem Plain.walk_sums (l : List Nat) (b g m : Int) (picks : List (Int × Int)) : walkP addR l b g m picks = sumsP l b g m picks := by
  have h1 : walkL addR l = sumsW l := byN_congr _ _ _ fun i _ => addF_tot _
  unfold walkP sumsP
  rw [h1, addF_tot]
set_option maxHeartbeats 800000 in
set_option maxRecDepth 100000 in
theorem ssums_any (l : List Nat) (L : Option Addr) (lc : Nat) (b g m : Int) (Ap : Option Addr) (cp : Nat) (picks : List (Int × Int)) (w : World) (hL : Rd kU32 w (.slice L l.length lc) (zs l)) (hp : Rd kPk w (.slice Ap picks.length cp) picks) (hl : l.length ≤ 900) (hb : in64 b) (hg : in64 g) (hm : in64 m) :
    Calls Try.prog 24 #[.slice L l.length lc, .int .i64 b, planV g m Ap picks.length cp] w (SumsSaid (sumsP l b g m picks) w) := by
  have hh := swalk1_any l L lc b g m Ap cp picks (w.alloc (.cells #[.int .i64 g, .int .i64 m, .slice Ap picks.length cp] 39)) (hL.ext ((Ext.refl _).alloc _)) (hp.ext ((Ext.refl _).alloc _)) hl hb hg hm
  rw [walk_sums] at hh
  have HH := Lib.hid hh
  clear hh hL hp hb hg hm
  go_enter Try.func24, Try.ntmps24
  go_wp2_with fail
  obtain ⟨r, hr⟩ : ∃ r, sumsP l b g m picks = r := ⟨_, rfl⟩
  have HR := Lib.hid hr
  rw [hr] at HH
  refine HH.out.mono ?_
  rintro ed w1 ⟨L1, l1, rfl, hO, hE⟩
  go_wp2_with fail
  exact bodyPost_ret (v := .tuple #[.slice L1 r.1.length l1, .int .u32 r.2.1, .int .i64 r.2.2.1, .int .i64 r.2.2.2]) (by simp [results, Try.results24, go_sem]) rfl (by rw [HR.out]; exact ⟨L1, l1, rfl, hO.mono (B' := w.heap.size) (by simp), ((Ext.refl _).alloc _).trans hE⟩)

end Go.Proofs.Ytggjjjfdkgfoiaa

/- The program's Pass, Sort, Sorted (radix, real code). -/
namespace Go.Proofs.Ytggjjjfdkgfoiaa
open Go.BigFrame
open Go.RowKit Go.Proofs.Ytggjjjfdkgfoiaa.Plain

theorem Plain.isPassB_iff (p b : Int) : isPassB p b = true ↔ 0 ≤ p ∧ p < passesP b := by
  unfold isPassB; rw [Bool.and_eq_true, decide_eq_true_eq, decide_eq_true_eq]
theorem Plain.passesP_bits (p b : Int) (h : 0 ≤ p ∧ p < passesP b) : ∃ P B : Nat, p = P ∧ b = B ∧ 1 ≤ B ∧ B ≤ 16 ∧ P < passesP B := by
  have h4 : 1 ≤ b ∧ b ≤ 16 := by
    by_cases h9 : b < 1 ∨ 16 < b
    · rw [passesP_no b h9] at h; omega
    · omega
  obtain ⟨B, rfl⟩ : ∃ B : Nat, b = B := ⟨b.toNat, by omega⟩
  exact ⟨p.toNat, B, by omega, rfl, by omega, by omega, by omega⟩
theorem Plain.passL_len (keys os : List Nat) (p b : Int) : (passL keys os p b).length = os.length := insAll_len _ _ _ rfl

set_option maxHeartbeats 1600000 in
set_option maxRecDepth 100000 in
theorem ppass10_any (keys : List Nat) (order : List Int) (L O : Option Addr) (lc oc : Nat) (p b : Int) (w : World) (hL : Rd kU32 w (.slice L keys.length lc) (zs keys)) (hO : Rd kInt w (.slice O order.length oc) order) (hl : keys.length ≤ 900) (ho : order.length ≤ 900) (hp : in64 p) (hb : in64 b) :
    Calls Try.prog 8 #[.slice L keys.length lc, .slice O order.length oc, .int .i64 p, .int .i64 b] w (PassSaid (passR keys order p b) w) := by
  have HL := Lib.hid hL
  have HQ := Lib.hid hO
  have HG := Lib.hid (And.intro hp hb)
  have hl' : (keys.length : Int) ≤ 900 := by omega
  have ho' : (order.length : Int) ≤ 900 := by omega
  clear hL hO hp hb
  go_enter Try.func8, Try.ntmps8
  go_wp2_with fail
  refine (pisorder_any keys.length order O oc _ HQ.out (by omega)).mono ?_
  rintro ed w1 ⟨rfl, hE1⟩
  have HX1 := Lib.hid hE1
  clear hE1
  cases hob : onceB order keys.length with
  | false =>
    have HR : Hid (passR keys order p b = ([], false)) := Lib.hid (by unfold passR; rw [if_neg (by rw [hob]; simp)])
    clear hob
    go_wp2_with fail
    exact bodyPost_ret (v := .tuple #[.slice none 0 0, .bool false]) (by simp [results, Try.results8, go_sem]) rfl (by rw [HR.out]; exact ⟨none, 0, rfl, Ow.nil _ _, HX1.out⟩)
  | true =>
    have HOB := Lib.hid hob
    clear hob
    go_wp2_with fail
    refine (pispass_any p b _ HG.out.1 HG.out.2).mono ?_
    rintro ed w9 ⟨rfl, rfl⟩
    cases hip : isPassB p b with
    | false =>
      have HR : Hid (passR keys order p b = ([], false)) := Lib.hid (by
        unfold passR
        refine if_neg fun h => ?_
        rw [(isPassB_iff p b).2 ⟨h.2.1, h.2.2⟩] at hip; cases hip)
      clear hip
      go_wp2_with fail
      exact bodyPost_ret (v := .tuple #[.slice none 0 0, .bool false]) (by simp [results, Try.results8, go_sem]) rfl (by rw [HR.out]; exact ⟨none, 0, rfl, Ow.nil _ _, HX1.out⟩)
    | true =>
      obtain ⟨os, rfl, hperm⟩ := (onceB_iff _ _).1 HOB.out
      obtain ⟨P, B, rfl, rfl, g1, g2, g3⟩ := passesP_bits p b ((isPassB_iff p b).1 hip)
      have HR : Hid (passR keys (zs os) P B = (passL keys os P B, true)) := Lib.hid (by unfold passR; rw [if_pos ⟨HOB.out, (isPassB_iff _ _).1 hip⟩, orderN_zs])
      have HPL : Hid ((passL keys os P B).length = os.length) := Lib.hid (passL_len _ _ _ _)
      simp only [zs_len] at HQ ⊢
      have HB := Lib.hid (pbydigit_any keys os L O lc oc P B w1 (HL.out.ext HX1.out) (HQ.out.ext HX1.out) hl hperm g1 g2 g3)
      clear hip hperm g1 g2 g3 ho'
      go_wp2_with fail
      refine HB.out.mono ?_
      rintro ed w2 ⟨L2, l2, rfl, hO2, hE2⟩
      have HO2 := Lib.hid hO2
      have HX2 := Lib.hid (HX1.out.trans hE2)
      have hz1 := HX1.out.size
      clear hO2 hE2
      go_wp2_with fail
      exact bodyPost_ret (v := .tuple #[.slice L2 os.length l2, .bool true]) (by simp [results, Try.results8, go_sem]) rfl (by rw [HR.out]; exact ⟨L2, l2, by rw [HPL.out], by rw [HPL.out]; exact HO2.out.mono hz1, HX2.out⟩)

set_option maxHeartbeats 1600000 in
set_option maxRecDepth 100000 in
theorem psort_any (l : List Nat) (L : Option Addr) (lc : Nat) (b blk g m : Int) (Ap : Option Addr) (cp : Nat) (picks : List (Int × Int)) (w : World) (hL : Rd kU32 w (.slice L l.length lc) (zs l)) (hp : Rd kPk w (.slice Ap picks.length cp) picks) (hl : l.length ≤ 900) (hb : in64 b) (hk : in64 blk) (hg : in64 g) (hm : in64 m) :
    Calls Try.prog 18 #[.slice L l.length lc, .int .i64 b, .int .i64 blk, planV g m Ap picks.length cp] w (OrdSaid (sortP l b blk g m picks) w) := by
  have HP := Lib.hid hp
  have HL := Lib.hid hL
  have HG := Lib.hid (And.intro hg (And.intro hm (And.intro hb hk)))
  have hl' : (l.length : Int) ≤ 900 := by omega
  have HK9 : Hid (∀ i, l.getD i 0 < 4294967296) := Lib.hid fun i => by
    rcases Nat.lt_or_ge i l.length with h | h
    · rw [List.getD_eq_getElem?_getD, List.getElem?_eq_getElem h]; exact zs_lt hL _ (List.getElem_mem h)
    · rw [List.getD_eq_getElem?_getD, List.getElem?_eq_none h]; exact (by decide : (0 : Nat) < 4294967296)
  clear hp hL hg hm hb hk
  obtain ⟨N, hN⟩ : ∃ N, passesP b = N := ⟨_, rfl⟩
  have HN := Lib.hid hN
  have hN1 : N ≤ 32 := by rw [← hN]; exact passesP_le b
  go_enter Try.func18, Try.ntmps18
  go_wp2_with fail
  refine (ppasses0_any b _ HG.out.2.2.1).mono ?_
  rintro ed w1 ⟨rfl, rfl⟩
  rw [hN]
  by_cases h0 : N = 0
  · subst h0
    have HE : Hid (sortP l b blk g m picks = ([], 0, 1)) := Lib.hid (by unfold sortP; rw [if_pos hN])
    clear hN
    go_wp2_with fail
    exact bodyPost_ret (v := .tuple #[.slice none 0 0, .int .i64 0, .int .i64 1]) (by simp [results, Try.results18, go_sem]) rfl (by rw [HE.out]; exact ⟨none, 0, rfl, Ow.nil _ _, (Ext.refl _).alloc _⟩)
  have hne : ((N : Int) == 0) = false := by simp; omega
  have HF : Hid (sortP l b blk g m picks = if (stepsP l.length blk g m picks).2 ≠ 0 then ([], 0, (stepsP l.length blk g m picks).2) else (sortL l, (stepsP l.length blk g m picks).1 * N, 0)) := Lib.hid (by unfold sortP; rw [hN, if_neg h0])
  obtain ⟨B, rfl, g1, g2⟩ : ∃ B : Nat, b = B ∧ 1 ≤ B ∧ B ≤ 16 := by
    have h4 : 1 ≤ b ∧ b ≤ 16 := by
      by_cases h9 : b < 1 ∨ 16 < b
      · rw [passesP_no b h9] at hN; omega
      · omega
    exact ⟨b.toNat, by omega, by omega, by omega⟩
  have HB := Lib.hid (And.intro g1 g2)
  clear hN h0 g1 g2
  go_wp2_with fail
  refine (ssums_any l L lc blk g m Ap cp picks _ (HL.out.ext ((Ext.refl _).alloc _)) (HP.out.ext ((Ext.refl _).alloc _)) hl HG.out.2.2.2 HG.out.1 HG.out.2.1).mono ?_
  have herr := stepsP_err l.length blk g m picks
  have hbd : (stepsP l.length blk g m picks).2 = 0 → (stepsP l.length blk g m picks).1 ≤ 60000 := fun h => (stepsP_bd l.length blk g m picks hl h).1
  unfold sumsP
  obtain ⟨⟨st, er⟩, hr⟩ : ∃ x, stepsP l.length blk g m picks = x := ⟨_, rfl⟩
  rw [hr] at HF herr hbd ⊢
  simp only at HF herr hbd ⊢
  rcases herr with rfl | rfl
  · rw [if_neg (by simp)] at HF
    rw [if_neg (by simp)]
    rintro ed w1 ⟨Lo, lo, rfl, hO, hE1⟩
    simp only at hO ⊢
    have HX1 := Lib.hid (((Ext.refl w).alloc _).trans hE1)
    have hst : st ≤ 60000 := hbd rfl
    have hz1 := HX1.out.size
    have hmul : st * N ≤ 60000 * 32 := Nat.mul_le_mul hst hN1
    obtain ⟨M, hM⟩ : ∃ M, st * N = M := ⟨_, rfl⟩
    have hM2 : (st : Int) * (N : Int) = (M : Int) := by rw [← hM]; simp
    rw [hM] at HF hmul
    have hM9 : IntKind.i64.wrap (M : Int) = (M : Int) := IntWalk.i64_in _ (by omega)
    have hN0 : (0 : Int) ≤ N := by omega
    have hN9 : (N : Int) ≤ 32 := by omega
    clear hO hE1 hr hbd hM hmul hst
    go_wp2_with fail
    refine (pstand_any l.length _ hl).mono ?_
    rintro ed w2 ⟨L2, l2, rfl, hO2, hE2⟩
    have HO2 := Lib.hid hO2
    have HX2 := Lib.hid (HX1.out.trans hE2)
    have hz2 := HX2.out.size
    clear hO2 hE2
    go_wp2_with fail
    go_loopw [16, 38] (fun v i wr => ∃ k : Nat, k ≤ N ∧ i = .int .i64 k ∧ (∃ (A : Option Addr) (c : Nat), v = .slice A l.length c ∧ Ow kInt w.heap.size wr v (zs (passesL l B k))) ∧ Ext w wr) (fun _ i _ => N - (intOf i).toNat)
    case atStart => exact ⟨0, Nat.zero_le _, rfl, ⟨_, _, rfl, HO2.out.mono (by have := HX1.out.size; omega)⟩, HX2.out⟩
    case round =>
      obtain ⟨k, hk, rfl, ⟨A, c, rfl, hO⟩, hX⟩ := hrel
      have HO := Lib.hid hO
      have HX := Lib.hid hX
      have hk0 : (0 : Int) ≤ k := by omega
      clear hO hX
      by_cases hlt : k < N
      · have hlt' : (k : Int) < N := by omega
        have hgood := passesL_good l B HB.out.1 HB.out.2 k (by rw [HN.out]; omega)
        have hpl : (passesL l B k).length = l.length := by rw [hgood.1.length_eq, List.length_range]
        have hbd := pbydigit_any l (passesL l B k) L A lc c k B wr (HL.out.ext HX.out) (by rw [hpl]; exact HO.out.rd) hl hgood.1 HB.out.1 HB.out.2 (by rw [HN.out]; exact hlt)
        rw [hpl] at hbd
        have HBD := Lib.hid hbd
        clear hbd hgood hpl
        go_wp2_with fail
        refine HBD.out.mono ?_
        rintro ed w5 ⟨L5, l5, rfl, hO5, hE5⟩
        have HO5 := Lib.hid hO5
        have HX5 := Lib.hid (HX.out.trans hE5)
        clear hO5 hE5
        go_wp2_with fail
        go_roundw
        case rel => exact ⟨k + 1, by omega, by go_num, ⟨_, _, rfl, HO5.out.mono HX.out.size⟩, HX5.out⟩
        case measure => simp [intOf]; omega
      · obtain rfl : k = N := by omega
        have hSL : passesL l B k = sortL l := by rw [← HN.out]; exact passes_sort l HK9.out B HB.out.1 HB.out.2
        have hO9 := HO.out
        rw [hSL] at hO9
        have HO9 := Lib.hid hO9
        have HLN : Hid ((sortL l).length = l.length) := Lib.hid (insAll_len _ _ _ List.length_range)
        have hM0 : (0 : Int) ≤ M := by omega
        clear hSL hO9
        go_wp2_with fail
        exact bodyPost_ret (v := .tuple #[.slice A l.length c, .int .i64 M, .int .i64 0]) (by simp [results, Try.results18, go_sem]) rfl (by rw [HF.out]; exact ⟨A, c, by rw [HLN.out], by rw [HLN.out]; exact HO9.out, HX.out⟩)
  · rw [if_pos (by decide)] at HF
    rw [if_pos (by decide)]
    rintro ed w1 ⟨Lo, lo, rfl, hO, hE1⟩
    simp only at hO ⊢
    have HX1 := Lib.hid (((Ext.refl w).alloc _).trans hE1)
    clear hO hE1
    go_wp2_with fail
    exact bodyPost_ret (v := .tuple #[.slice none 0 0, .int .i64 0, .int .i64 1]) (by simp [results, Try.results18, go_sem]) rfl (by rw [HF.out]; exact ⟨none, 0, rfl, Ow.nil _ _, HX1.out⟩)

/-- keys, put down so far -/
def Plain.keysJ (keys os : List Nat) (j : Nat) : List Nat := byN os.length (fun i => if i < j then keys.getD (os.getD i 0) 0 else 0)
theorem Plain.keysJ_len (keys os : List Nat) (j : Nat) : (keysJ keys os j).length = os.length := byN_len _ _
theorem Plain.keysJ_set (keys os : List Nat) (j : Nat) : (keysJ keys os j).set j (keys.getD (os.getD j 0) 0) = keysJ keys os (j + 1) := by
  unfold keysJ
  rw [byN_set]
  refine byN_congr _ _ _ fun i _ => ?_
  by_cases e : i = j
  · subst e; rw [if_pos rfl, if_pos (by omega)]
  · rw [if_neg e]
    by_cases h : i < j
    · rw [if_pos h, if_pos (by omega)]
    · rw [if_neg h, if_neg (by omega)]
theorem Plain.keysJ_zero (keys os : List Nat) : zs (keysJ keys os 0) = List.replicate os.length (0 : Int) := byN_rep _ _ fun i _ => if_neg (by omega)
theorem Plain.keysJ_all (keys os : List Nat) : keysJ keys os os.length = os.map (fun i => keys.getD i 0) := by
  unfold keysJ
  rw [byN_congr _ _ (fun i => keys.getD (os.getD i 0) 0) fun i hi => if_pos hi]
  conv => rhs; rw [← byN_id os]
  unfold byN
  rw [List.map_map]; rfl

set_option maxHeartbeats 1600000 in
set_option maxRecDepth 100000 in
theorem psorted_any (keys : List Nat) (order : List Int) (L O : Option Addr) (lc oc : Nat) (w : World) (hL : Rd kU32 w (.slice L keys.length lc) (zs keys)) (hO : Rd kInt w (.slice O order.length oc) order) (hl : keys.length ≤ 900) (ho : order.length ≤ 900) :
    Calls Try.prog 10 #[.slice L keys.length lc, .slice O order.length oc] w (SrtSaid (sortedR keys order) w) := by
  have HL := Lib.hid hL
  have HQ := Lib.hid hO
  have hl' : (keys.length : Int) ≤ 900 := by omega
  have ho' : (order.length : Int) ≤ 900 := by omega
  clear hL hO
  go_enter Try.func10, Try.ntmps10
  go_wp2_with fail
  refine (pisorder_any keys.length order O oc _ HQ.out (by omega)).mono ?_
  rintro ed w1 ⟨rfl, hE1⟩
  have HX1 := Lib.hid hE1
  clear hE1
  cases hob : onceB order keys.length with
  | false =>
    have HR : Hid (sortedR keys order = ([], false)) := Lib.hid (by unfold sortedR; rw [if_neg (by rw [hob]; decide)])
    clear hob
    go_wp2_with fail
    exact bodyPost_ret (v := .tuple #[.slice none 0 0, .bool false]) (by simp [results, Try.results10, go_sem]) rfl (by rw [HR.out]; exact ⟨none, 0, rfl, Ow.nil _ _, HX1.out⟩)
  | true =>
    obtain ⟨os, rfl, hperm⟩ := (onceB_iff _ _).1 hob
    have HR : Hid (sortedR keys (zs os) = (os.map (fun i => keys.getD i 0), true)) := Lib.hid (by unfold sortedR; rw [if_pos hob, orderN_zs])
    have HPERM := Lib.hid hperm
    simp only [zs_len] at HQ ho' ho ⊢
    obtain ⟨C, hmk, hmown⟩ := kU32.make 0 rfl (show (0 : Int) ≤ 0 ∧ (0 : Int) ≤ 4294967295 by omega) os.length (by omega)
    have HM : Hid (∀ w3 : World, Ow kU32 w3.heap.size (w3.alloc (.cells C 30)) (.slice (some ⟨w3.heap.size, 0, none⟩) os.length os.length) (zs (keysJ keys os 0))) := Lib.hid fun w3 => by
      rw [keysJ_zero]
      exact hmown w3 w3.heap.size w3.heap.size rfl (Nat.le_refl _)
    have hmk2 : ∀ w : World, (Instr.makeSlice 22 (.int .i64 os.length) (.int .i64 os.length)).run Try.prog w = .ok (.slice (some ⟨w.heap.size, 0, none⟩) os.length os.length) (w.alloc (.cells C 30)) := hmk
    have hz1 := HX1.out.size
    clear hob hperm hmk hmown
    go_wp2_with fail
    go_loopw [19] (fun i wr => ∃ k : Nat, k ≤ os.length ∧ i = .int .i64 k ∧ Ow kU32 w1.heap.size wr (.slice (some ⟨w1.heap.size, 0, none⟩) os.length os.length) (zs (keysJ keys os k)) ∧ Ext w1 wr) (fun i _ => os.length - (intOf i).toNat)
    case atStart => exact ⟨0, Nat.zero_le _, rfl, HM.out w1, (Ext.refl _).alloc _⟩
    case round =>
      obtain ⟨k, hk, rfl, hO, hX⟩ := hrel
      have HO := Lib.hid hO
      have HX := Lib.hid hX
      have hk0 : (0 : Int) ≤ k := by omega
      clear hO hX hmk2
      by_cases hlt : k < os.length
      · have hlt' : (k : Int) < os.length := by omega
        obtain ⟨bw, ow, rfl, hcw⟩ := (ints_of_rd (HQ.out.ext (HX1.out.trans HX.out))).cells (by rw [zs_len]; omega)
        have y0 := hcw k (by rw [zs_len]; exact hlt)
        rw [zs_getD] at y0
        have hin : os.getD k 0 < keys.length := by
          have h9 : os.getD k 0 ∈ os := by rw [List.getD_eq_getElem?_getD, List.getElem?_eq_getElem hlt]; exact List.getElem_mem hlt
          exact List.mem_range.1 ((HPERM.out.mem_iff).1 h9)
        have hks := keysJ_set keys os k
        obtain ⟨u, hu⟩ : ∃ u, os.getD k 0 = u := ⟨_, rfl⟩
        rw [hu] at y0 hin hks
        obtain ⟨bx, ox, rfl, z0, hxl⟩ := u32_at (HL.out.ext (HX1.out.trans HX.out)) u hin
        obtain ⟨x, hx⟩ : ∃ x, keys.getD u 0 = x := ⟨_, rfl⟩
        rw [hx] at z0 hxl hks
        obtain ⟨m1, m2, _, _, hml⟩ := HO.out.atN (u := k) (by rw [keysJ_len]; exact hlt)
        have m2' := m2 k
        obtain ⟨mo, hmo⟩ : ∃ mo, (keysJ keys os k).getD k 0 = mo := ⟨_, rfl⟩
        rw [hmo] at m1
        have hset := HO.out.setN (u := k) (v := x) (by rw [keysJ_len]; exact hlt) hxl
        rw [hks] at hset
        have HSET := Lib.hid hset
        have hu0 : (0 : Int) ≤ u := by omega
        have hu1 : (u : Int) < keys.length := by omega
        have lbw : bw < wr.heap.size := World.block_lt_of_cell? _ _ y0
        have lbx : bx < wr.heap.size := World.block_lt_of_cell? _ _ z0
        clear hcw hu hx hxl hks hmo m2 hset
        go_wp2_with fail
        go_roundw
        case rel => exact ⟨k + 1, by omega, by go_num, HSET.out, HX.out.setCell (p := ⟨w1.heap.size, k, none⟩) (Nat.le_refl _) _⟩
        case measure => simp [intOf]; omega
      · obtain rfl : k = os.length := by omega
        have hT := HO.out
        rw [keysJ_all] at hT
        have HT := Lib.hid hT
        have HXX := Lib.hid (HX1.out.trans HX.out)
        clear hT
        go_wp2_with fail
        exact bodyPost_ret (v := .tuple #[.slice (some ⟨w1.heap.size, 0, none⟩) os.length os.length, .bool true]) (by simp [results, Try.results10, go_sem]) rfl (by rw [HR.out]; exact ⟨_, _, by rw [List.length_map], by rw [List.length_map]; exact HT.out.mono hz1, HXX.out⟩)
end Go.Proofs.Ytggjjjfdkgfoiaa

/- Literals of numbers of 32 bits. -/
namespace Go.Proofs.Ytggjjjfdkgfoiaa
open Go.BigFrame
open Go.RowKit Go.Proofs.Ytggjjjfdkgfoiaa.Plain
end Go.Proofs.Ytggjjjfdkgfoiaa

/- The fixed fact of radix's statements. Written by wip/mk_r10.py. -/
namespace Go.Proofs.Ytggjjjfdkgfoiaa
open Go.BigFrame
open Go.RowKit Go.Proofs.Ytggjjjfdkgfoiaa.Plain

theorem ints_e (v u : Value) (xs ys : List Int) (w : World) (h : Rd kInt w v xs) (h' : Rd kInt w u ys) :
    Calls Try.prog 12 #[v, u] w fun ed w' => ed = .returned (.bool (sameB xs ys)) ∧ Ext w w' :=
  (ints_any v u xs ys w (ints_of_rd h) (ints_of_rd h')).mono fun ed w' hh => ⟨hh.1, by obtain ⟨n, h9⟩ := hh.2; rw [h9]; exact (Ext.refl _).drewN _⟩
theorem flat_ints (xs : List Int) : kInt.flat xs = xs.map (Value.int .i64) := by
  induction xs with
  | nil => rfl
  | cons a l ih =>
    show [Value.int .i64 a] ++ kInt.flat l = _
    rw [ih]; rfl
theorem int_list (w : World) (xs : List Int) (p n : Nat) (cs : Array Value) (hcs : cs.toList = xs.map (Value.int .i64)) (hn : xs.length = n) (hp : p = w.heap.size) (hm : n ≤ 1000) (hx : ∀ x ∈ xs, in64 x) : Rd kInt (w.alloc (.cells cs 3)) (.slice (some ⟨p, 0, none⟩) n n) xs :=
  Ow.rd (K := kInt) (B := 0) (Ow.lit (K := kInt) w xs cs (by rw [hcs, flat_ints]) hn hp (Nat.zero_le _) (by unfold maxLen; omega) hx)
theorem psort_to (l : List Nat) (ln np : Nat) (L : Option Addr) (lc : Nat) (b blk g m : Int) (Ap : Option Addr) (cp : Nat) (picks : List (Int × Int)) (os : List Nat) (st k : Nat) (er si : Int) (w : World) (hL : Rd kU32 w (.slice L ln lc) (zs l)) (hln : l.length = ln) (hp : Rd kPk w (.slice Ap np cp) picks) (hnp : picks.length = np) (hl : l.length ≤ 900) (hb : in64 b) (hbk : in64 blk) (hg : in64 g) (hm : in64 m) (he : sortP l b blk g m picks = (os, st, er)) (hk : os.length = k) (hs : (st : Int) = si) :
    Calls Try.prog 18 #[.slice L ln lc, .int .i64 b, .int .i64 blk, planV g m Ap np cp] w fun ed w' => ∃ (L : Option Addr) (l : Nat), ed = .returned (.tuple #[.slice L k l, .int .i64 si, .int .i64 er]) ∧ Ow kInt w.heap.size w' (.slice L k l) (zs os) ∧ Ext w w' := by
  subst hln hnp hk hs
  have h := psort_any l L lc b blk g m Ap cp picks w hL hp hl hb hbk hg hm
  rw [he] at h
  exact h.mono fun _ _ hh => hh
theorem psorted_to (keys : List Nat) (order : List Int) (ln on : Nat) (L O : Option Addr) (lc oc : Nat) (os : List Nat) (ok : Bool) (k : Nat) (w : World) (hL : Rd kU32 w (.slice L ln lc) (zs keys)) (hln : keys.length = ln) (hO : Rd kInt w (.slice O on oc) order) (hon : order.length = on) (hl : keys.length ≤ 900) (ho : order.length ≤ 900) (he : sortedR keys order = (os, ok)) (hk : os.length = k) :
    Calls Try.prog 10 #[.slice L ln lc, .slice O on oc] w fun ed w' => ∃ (L : Option Addr) (c : Nat), ed = .returned (.tuple #[.slice L k c, .bool ok]) ∧ Ow kU32 w.heap.size w' (.slice L k c) (zs os) ∧ Ext w w' := by
  subst hln hon hk
  have h := psorted_any keys order L O lc oc w hL hO hl ho
  rw [he] at h
  exact h.mono fun _ _ hh => hh
theorem ppass10_to (keys : List Nat) (order : List Int) (ln on : Nat) (L O : Option Addr) (lc oc : Nat) (p b : Int) (os : List Nat) (ok : Bool) (k : Nat) (w : World) (hL : Rd kU32 w (.slice L ln lc) (zs keys)) (hln : keys.length = ln) (hO : Rd kInt w (.slice O on oc) order) (hon : order.length = on) (hl : keys.length ≤ 900) (ho : order.length ≤ 900) (hp : in64 p) (hb : in64 b) (he : passR keys order p b = (os, ok)) (hk : os.length = k) :
    Calls Try.prog 8 #[.slice L ln lc, .slice O on oc, .int .i64 p, .int .i64 b] w fun ed w' => ∃ (L : Option Addr) (c : Nat), ed = .returned (.tuple #[.slice L k c, .bool ok]) ∧ Ow kInt w.heap.size w' (.slice L k c) (zs os) ∧ Ext w w' := by
  subst hln hon hk
  have h := ppass10_any keys order L O lc oc p b w hL hO hl ho hp hb
  rw [he] at h
  exact h.mono fun _ _ hh => hh
set_option maxHeartbeats 3200000 in
set_option maxRecDepth 100000 in
theorem ralive_any (w : World) : Calls Try.prog 7 #[] w fun ed w' => ed = .returned (.bool true) ∧ Ext w w' := by
  have he1 : sortP [196609, 7, 131073, 7] 8 2 1 1 [] = ([1, 3, 2, 0], 24, 0) := by decide +kernel
  have he2 : sortedR [196609, 7, 131073, 7] (zs [1, 3, 2, 0]) = ([7, 7, 131073, 196609], true) := by decide +kernel
  have he3 : passR [196609, 7, 131073, 7] [0, 1, 2, 3] 0 16 = ([0, 2, 1, 3], true) := by decide +kernel
  have he4 : passR [196609, 7, 131073, 7] [0, 1, 2, 2] 0 16 = ([], false) := by decide +kernel
  have he5 : passesP 5 = 7 := by decide +kernel
  have he6 : digitP 196609 2 8 = 3 := by decide +kernel
  have H1 := Lib.hid he1
  have H2 := Lib.hid he2
  have H3 := Lib.hid he3
  have H4 := Lib.hid he4
  have H5 := Lib.hid he5
  have H6 := Lib.hid he6
  clear he1 he2 he3 he4 he5 he6
  go_enter Try.func7, Try.ntmps7
  go_wp2_with fail
  obtain ⟨w1, hW0⟩ : ∃ W0, ((w.alloc (.cells #[.int .i64 1, .int .i64 1, .slice none 0 0] 39)).alloc (.cells #[.int .u32 196609, .int .u32 7, .int .u32 131073, .int .u32 7] 30)) = W0 := ⟨_, rfl⟩
  have HL_1 : Hid (Rd kU32 w1 (.slice (some ⟨w.heap.size + 1, 0, none⟩) 4 4) (zs [196609, 7, 131073, 7])) := Lib.hid (by rw [← hW0]; exact (u32_list (w.alloc (.cells #[.int .i64 1, .int .i64 1, .slice none 0 0] 39)) [196609, 7, 131073, 7] (w.heap.size + 1) 4 #[.int .u32 196609, .int .u32 7, .int .u32 131073, .int .u32 7] rfl rfl (by simp) (by decide) (by decide)))
  have HX1 : Hid (Ext w w1) := Lib.hid (by rw [← hW0]; exact ((Ext.refl w).alloc _).alloc _)
  have k0 : w1.cell? ⟨w.heap.size, 0, none⟩ = some (.int .i64 1) := by subst hW0; go_simp
  have k1 : w1.cell? ⟨w.heap.size, 1, none⟩ = some (.int .i64 1) := by subst hW0; go_simp
  have k2 : w1.cell? ⟨w.heap.size, 2, none⟩ = some (.slice none 0 0) := by subst hW0; go_simp
  have l0 : w.heap.size < w1.heap.size := by rw [← hW0]; simp; omega
  rw [hW0]
  clear hW0
  refine (psort_to [196609, 7, 131073, 7] 4 0 (some ⟨w.heap.size + 1, 0, none⟩) 4 8 2 1 1 none 0 [] [1, 3, 2, 0] 24 4 0 24 _ HL_1.out rfl (Rd.nil _ _ _) rfl (by decide) (by decide) (by decide) (by decide) (by decide) H1.out rfl rfl).mono ?_
  rintro ed w2 ⟨Lo, lo, rfl, hOo, hE2⟩
  replace k0 := Ext.cell hE2 k0
  replace k1 := Ext.cell hE2 k1
  replace k2 := Ext.cell hE2 k2
  have lb2_0 : w.heap.size < w2.heap.size := by have := Ext.size hE2; omega
  have HX2 := Lib.hid (HX1.out.trans hE2)
  have HL_2 := Lib.hid (HL_1.out.ext hE2)
  have Ho_2 := Lib.hid (hOo.rd)
  clear hE2 HX1 HL_1
  go_wp2_with fail
  clear k0 k1 k2
  refine (psorted_to [196609, 7, 131073, 7] (zs [1, 3, 2, 0]) 4 4 (some ⟨w.heap.size + 1, 0, none⟩) Lo 4 lo [7, 7, 131073, 196609] true 4 _ HL_2.out rfl Ho_2.out rfl (by decide) (by decide) H2.out rfl).mono ?_
  rintro ed w3 ⟨Ls, ls, rfl, hOs, hE3⟩
  have HX3 := Lib.hid (HX2.out.trans hE3)
  have HL_3 := Lib.hid (HL_2.out.ext hE3)
  have Ho_3 := Lib.hid (Ho_2.out.ext hE3)
  have Hs_3 := Lib.hid (hOs.rd)
  clear hE3 HX2 HL_2 Ho_2 lb2_0
  go_wp2_with fail
  refine (ppass10_to [196609, 7, 131073, 7] [0, 1, 2, 3] 4 4 (some ⟨w.heap.size + 1, 0, none⟩) (some ⟨w3.heap.size, 0, none⟩) 4 4 0 16 [0, 2, 1, 3] true 4 _ (HL_3.out.ext ((Ext.refl _).alloc _)) rfl (int_list w3 [0, 1, 2, 3] _ 4 #[.int .i64 0, .int .i64 1, .int .i64 2, .int .i64 3] rfl rfl rfl (by decide) (by decide)) rfl (by decide) (by decide) (by decide) (by decide) H3.out rfl).mono ?_
  rintro ed w4 ⟨Lq, lq, rfl, hOq, hE4⟩
  have hF4 := ((Ext.refl w3).alloc (.cells #[.int .i64 0, .int .i64 1, .int .i64 2, .int .i64 3] 3)).trans hE4
  have HX4 := Lib.hid (HX3.out.trans hF4)
  have HL_4 := Lib.hid (HL_3.out.ext hF4)
  have Ho_4 := Lib.hid (Ho_3.out.ext hF4)
  have Hs_4 := Lib.hid (Hs_3.out.ext hF4)
  have Hq_4 := Lib.hid (hOq.rd)
  clear hE4 hF4 HX3 HL_3 Ho_3 Hs_3
  go_wp2_with fail
  refine (ppass10_to [196609, 7, 131073, 7] [0, 1, 2, 2] 4 4 (some ⟨w.heap.size + 1, 0, none⟩) (some ⟨w4.heap.size, 0, none⟩) 4 4 0 16 [] false 0 _ (HL_4.out.ext ((Ext.refl _).alloc _)) rfl (int_list w4 [0, 1, 2, 2] _ 4 #[.int .i64 0, .int .i64 1, .int .i64 2, .int .i64 2] rfl rfl rfl (by decide) (by decide)) rfl (by decide) (by decide) (by decide) (by decide) H4.out rfl).mono ?_
  rintro ed w5 ⟨Ln, ln, rfl, hOn, hE5⟩
  have hF5 := ((Ext.refl w4).alloc (.cells #[.int .i64 0, .int .i64 1, .int .i64 2, .int .i64 2] 3)).trans hE5
  have HX5 := Lib.hid (HX4.out.trans hF5)
  have HL_5 := Lib.hid (HL_4.out.ext hF5)
  have Ho_5 := Lib.hid (Ho_4.out.ext hF5)
  have Hs_5 := Lib.hid (Hs_4.out.ext hF5)
  have Hq_5 := Lib.hid (Hq_4.out.ext hF5)
  clear hE5 hF5 HX4 HL_4 Ho_4 Hs_4 Hq_4
  go_wp2_with fail
  clear HL_5
  refine (ints_e _ _ (zs [1, 3, 2, 0]) [1, 3, 2, 0] _ (Ho_5.out.ext ((Ext.refl _).alloc _)) (int_list w5 [1, 3, 2, 0] _ 4 #[.int .i64 1, .int .i64 3, .int .i64 2, .int .i64 0] rfl rfl rfl (by decide) (by decide))).mono ?_
  rintro ed w6 ⟨rfl, hE6⟩
  rw [show sameB (zs [1, 3, 2, 0]) [1, 3, 2, 0] = true by decide +kernel]
  have hF6 := ((Ext.refl w5).alloc (.cells #[.int .i64 1, .int .i64 3, .int .i64 2, .int .i64 0] 3)).trans hE6
  have HX6 := Lib.hid (HX5.out.trans hF6)
  have Ho_6 := Lib.hid (Ho_5.out.ext hF6)
  have Hs_6 := Lib.hid (Hs_5.out.ext hF6)
  have Hq_6 := Lib.hid (Hq_5.out.ext hF6)
  clear hE6 hF6 HX5 Ho_5 Hs_5 Hq_5
  go_wp2_with fail
  clear Ho_6
  refine (rwords_any _ _ _ (zs [7, 7, 131073, 196609]) _ (Hs_6.out.ext ((Ext.refl _).alloc _)) (u32_list w6 [7, 7, 131073, 196609] _ 4 #[.int .u32 7, .int .u32 7, .int .u32 131073, .int .u32 196609] rfl rfl rfl (by decide) (by decide))).mono ?_
  rintro ed w7 ⟨rfl, hE7⟩
  rw [show sameB (zs [7, 7, 131073, 196609]) (zs [7, 7, 131073, 196609]) = true by decide +kernel]
  have hF7 := ((Ext.refl w6).alloc (.cells #[.int .u32 7, .int .u32 7, .int .u32 131073, .int .u32 196609] 30)).trans hE7
  have HX7 := Lib.hid (HX6.out.trans hF7)
  have Hs_7 := Lib.hid (Hs_6.out.ext hF7)
  have Hq_7 := Lib.hid (Hq_6.out.ext hF7)
  clear hE7 hF7 HX6 Hs_6 Hq_6
  go_wp2_with fail
  clear Hs_7
  refine (ints_e _ _ (zs [0, 2, 1, 3]) [0, 2, 1, 3] _ (Hq_7.out.ext ((Ext.refl _).alloc _)) (int_list w7 [0, 2, 1, 3] _ 4 #[.int .i64 0, .int .i64 2, .int .i64 1, .int .i64 3] rfl rfl rfl (by decide) (by decide))).mono ?_
  rintro ed w8 ⟨rfl, hE8⟩
  rw [show sameB (zs [0, 2, 1, 3]) [0, 2, 1, 3] = true by decide +kernel]
  have hF8 := ((Ext.refl w7).alloc (.cells #[.int .i64 0, .int .i64 2, .int .i64 1, .int .i64 3] 3)).trans hE8
  have HX8 := Lib.hid (HX7.out.trans hF8)
  have Hq_8 := Lib.hid (Hq_7.out.ext hF8)
  clear hE8 hF8 HX7 Hq_7
  go_wp2_with fail
  clear Hq_8
  refine (ppasses_any 5 _ (by decide)).mono ?_
  rw [H5.out]
  rintro ed w9 ⟨rfl, hE9⟩
  have HX9 := Lib.hid (HX8.out.trans hE9)
  clear hE9 HX8
  go_wp2_with fail
  refine (pdigit_any 196609 2 8 _ (by decide) (by decide) (by decide)).mono ?_
  rw [H6.out]
  rintro ed w10 ⟨rfl, hE10⟩
  have HX10 := Lib.hid (HX9.out.trans hE10)
  clear hE10 HX9
  go_wp2_with fail
  go_ret
  exact ⟨rfl, HX10.out⟩
end Go.Proofs.Ytggjjjfdkgfoiaa

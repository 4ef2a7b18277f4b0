/- FillBack: the law returns true. -/
import Derived.Test.YtjabahfkgaamdaaJ7
namespace Go.Proofs.Ytjabahfkgaamdaa
open Go.BigFrame
open Go.RowKit Go.Proofs.Ytjabahfkgaamdaa.Plain

theorem Plain.fillP_ok (l : List Nat) (op : Int) (y : Nat) (g m : Int) (picks : List (Int × Int)) (hk : knownB op = true) (hb : planB g m picks.length = true) : ∃ st, fillP l op y g m picks = (l.map (fun x => oneP x op y), st, 0) := by
  have he : (ordP l.length g m picks).2.2 = 0 := by
    unfold ordP
    rw [if_neg (by rw [hb]; decide)]
    split <;> rfl
  unfold fillP
  rw [if_neg (by rw [hk]; decide), if_neg (by rw [he]; simp)]
  exact ⟨_, rfl⟩
theorem Plain.xor_back (l : List Nat) (y : Nat) : (l.map (fun x => oneP x 2 y)).map (fun x => oneP x 2 y) = l := by
  rw [List.map_map]
  conv => rhs; rw [← List.map_id l]
  refine List.map_congr_left fun x _ => ?_
  show oneP (oneP x 2 y) 2 y = x
  show (x ^^^ y) ^^^ y = x
  rw [Nat.xor_assoc, Nat.xor_self, Nat.xor_zero]
/-- all bits that are left -/
def Plain.lowB (y : Nat) : Nat := 4294967295 / 2 ^ (y % 32)
theorem Plain.lowB_lt (y : Nat) : lowB y < 4294967296 := by
  have : lowB y ≤ 4294967295 := Nat.div_le_self _ _
  omega
theorem Plain.shift_back (x y : Nat) : oneP (oneP x 3 y) 4 y = oneP x 5 (lowB y) := by
  show (x * 2 ^ (y % 32) % 4294967296) / 2 ^ (y % 32) = x &&& (4294967295 / 2 ^ (y % 32))
  obtain ⟨k, hk⟩ : ∃ k, y % 32 = k := ⟨_, rfl⟩
  have hk2 : k < 32 := by omega
  rw [hk]
  have e1 : (4294967296 : Nat) = 2 ^ (32 - k) * 2 ^ k := by rw [← Nat.pow_add, show 32 - k + k = 32 by omega]
  have hp : 0 < 2 ^ k := Nat.two_pow_pos k
  have e2 : (4294967295 : Nat) / 2 ^ k = 2 ^ (32 - k) - 1 := by
    have h1 : (4294967295 : Nat) = (2 ^ (32 - k) - 1) * 2 ^ k + (2 ^ k - 1) := by
      rw [Nat.sub_mul, ← e1, Nat.one_mul]
      have h2 : 2 ^ k ≤ 4294967296 := by
        rw [e1]; exact Nat.le_mul_of_pos_left _ (Nat.two_pow_pos _)
      omega
    rw [h1, Nat.mul_comm, Nat.mul_add_div hp, Nat.div_eq_of_lt (by omega), Nat.add_zero]
  rw [e2, Nat.and_two_pow_sub_one_eq_mod, e1, Nat.mul_mod_mul_right, Nat.mul_div_cancel _ hp]
theorem Plain.add_turn (x y : Nat) : oneP x 1 y = oneP y 1 x := by
  show (x + y) % 4294967296 = (y + x) % 4294967296
  rw [Nat.add_comm]
theorem Plain.more_one (x y : Nat) : oneP x 6 y + oneP y 6 x ≤ 1 := by
  show (if y < x then 1 else 0) + (if x < y then 1 else 0) ≤ 1
  split <;> split <;> omega

set_option maxHeartbeats 3200000 in
set_option maxRecDepth 100000 in
theorem fillback_any (l : List Nat) (L : Option Addr) (lc : Nat) (y : Nat) (g m : Int) (Ap : Option Addr) (cp : Nat) (picks : List (Int × Int)) (W : World) (hL : Rd kU32 W (.slice L l.length lc) (zs l)) (hp : Rd kPk W (.slice Ap picks.length cp) picks) (hy : y < 4294967296) (hg : in64 g) (hm : in64 m) :
    Calls Try.prog 6 #[.slice L l.length lc, .int .u32 y, planV g m Ap picks.length cp] W fun ed w' => ed = .returned (.bool true) ∧ Ext W w' := by
  have HL := Lib.hid hL
  have HP := Lib.hid hp
  have HPL := Lib.hid hp.len
  have HG := Lib.hid (And.intro hg hm)
  have HY := Lib.hid hy
  clear hL hp hg hm hy
  go_enter Try.func6, Try.ntmps6
  go_wp2_with fail
  refine (falive_any _).mono ?_
  rintro ed w1 ⟨rfl, hE1⟩
  have q0 : w1.cell? ⟨W.heap.size, 0, none⟩ = some (.int .i64 g) := Ext.cell hE1 (by go_simp)
  have q1 : w1.cell? ⟨W.heap.size, 1, none⟩ = some (.int .i64 m) := Ext.cell hE1 (by go_simp)
  have q2 : w1.cell? ⟨W.heap.size, 2, none⟩ = some (.slice Ap picks.length cp) := Ext.cell hE1 (by go_simp)
  have qf : ∀ o, w1.frozen? ⟨W.heap.size, o, none⟩ = false := fun o => (Below.frozen hE1 (p := ⟨W.heap.size, o, none⟩) (by first | omega | (simp; omega) | simp)).trans (by go_simp)
  have HX1 := Lib.hid (((Ext.refl W).alloc (.cells #[.int .i64 g, .int .i64 m, .slice Ap picks.length cp] 26)).trans hE1)
  have lz1 := hE1.size
  simp at lz1
  have n1 : W.heap.size < w1.heap.size := by omega
  clear hE1
  by_cases h1 : (60 : Int) < l.length
  · go_wp2_with fail
    go_ret
    exact ⟨rfl, HX1.out⟩
  by_cases h2 : (200 : Int) < picks.length
  · have h1' : (l.length : Int) ≤ 60 := by omega
    go_wp2_with fail
    go_ret
    exact ⟨rfl, HX1.out⟩
  have h1' : (l.length : Int) ≤ 60 := by omega
  have h2' : (picks.length : Int) ≤ 200 := by omega
  clear h1 h2
  go_wp2_with fail
  refine (rright7_any g m Ap picks.length cp w1 HG.out.1 HG.out.2 HPL.out).mono ?_
  rintro ed w2 ⟨rfl, hE2⟩
  replace q0 := Ext.cell hE2 q0
  replace q1 := Ext.cell hE2 q1
  replace q2 := Ext.cell hE2 q2
  have lz2 := hE2.size
  have n2 : W.heap.size < w2.heap.size := by omega
  have HX2 := Lib.hid (HX1.out.trans hE2)
  clear hE2 qf HX1 n1
  cases hpb : planB g m picks.length with
  | false =>
    clear hpb
    go_wp2_with fail
    go_ret
    exact ⟨rfl, HX2.out⟩
  | true =>
    obtain ⟨s1, e1⟩ := fillP_ok l 2 y g m picks rfl hpb
    obtain ⟨s2, e2⟩ := fillP_ok (l.map (fun x => oneP x 2 y)) 2 y g m picks rfl hpb
    obtain ⟨s3, e3⟩ := fillP_ok l 3 y g m picks rfl hpb
    obtain ⟨s4, e4⟩ := fillP_ok (l.map (fun x => oneP x 3 y)) 4 y g m picks rfl hpb
    rw [xor_back] at e2
    obtain ⟨la, hla⟩ : ∃ la, l.map (fun x => oneP x 2 y) = la := ⟨_, rfl⟩
    obtain ⟨lc', hlc⟩ : ∃ lc', l.map (fun x => oneP x 3 y) = lc' := ⟨_, rfl⟩
    obtain ⟨ld, hld⟩ : ∃ ld, lc'.map (fun x => oneP x 4 y) = ld := ⟨_, rfl⟩
    rw [hla] at e1 e2
    rw [hlc] at e3 e4
    rw [hld] at e4
    have f1 : la.length = l.length := by rw [← hla, List.length_map]
    have f3 : lc'.length = l.length := by rw [← hlc, List.length_map]
    have f4 : ld.length = l.length := by rw [← hld, List.length_map, f3]
    have HE := Lib.hid (And.intro e1 (And.intro e2 (And.intro e3 e4)))
    have HF := Lib.hid (And.intro f1 (And.intro f3 f4))
    have HD : Hid (∀ k, k < l.length → ld.getD k 0 = oneP (l.getD k 0) 5 (lowB y)) := Lib.hid (fun k hk => by
      rw [← shift_back, ← hld, ← hlc, List.map_map, List.getD_eq_getElem?_getD, List.getElem?_map, List.getElem?_eq_getElem hk, List.getD_eq_getElem?_getD, List.getElem?_eq_getElem hk]; rfl)
    clear e1 e2 e3 e4 f1 f3 f4 hpb hla hlc hld
    go_wp2_with fail
    refine (ffill_any l L lc 2 y g m Ap cp picks _ (HL.out.ext HX2.out) (HP.out.ext HX2.out) (by omega) (by decide) HY.out HG.out.1 HG.out.2).mono ?_
    rw [HE.out.1]
    rintro ed w3 ⟨L3, l3, rfl, hO3, hE3⟩
    simp only at hO3 ⊢
    rw [HF.out.1] at hO3 ⊢
    replace q0 := Ext.cell hE3 q0
    replace q1 := Ext.cell hE3 q1
    replace q2 := Ext.cell hE3 q2
    have lz3 := hE3.size
    have n3 : W.heap.size < w3.heap.size := by omega
    have HX3 := Lib.hid (HX2.out.trans hE3)
    have HO3 := Lib.hid hO3
    clear hE3 hO3 HX2 n2
    go_wp2_with fail
    have hh := ffill_any la L3 l3 2 y g m Ap cp picks w3 (by rw [HF.out.1]; exact HO3.out.rd) (HP.out.ext HX3.out) (by have := HF.out.1; omega) (by decide) HY.out HG.out.1 HG.out.2
    rw [HF.out.1] at hh
    refine hh.mono ?_
    clear hh
    rw [HE.out.2.1]
    rintro ed w4 ⟨L4, l4, rfl, hO4, hE4⟩
    simp only at hO4 ⊢
    replace q0 := Ext.cell hE4 q0
    replace q1 := Ext.cell hE4 q1
    replace q2 := Ext.cell hE4 q2
    have lz4 := hE4.size
    have n4 : W.heap.size < w4.heap.size := by omega
    have HX4 := Lib.hid (HX3.out.trans hE4)
    have HO4 := Lib.hid hO4
    clear hE4 hO4 HX3 n3 HO3
    go_wp2_with fail
    refine (ffill_any l L lc 3 y g m Ap cp picks _ (HL.out.ext HX4.out) (HP.out.ext HX4.out) (by omega) (by decide) HY.out HG.out.1 HG.out.2).mono ?_
    rw [HE.out.2.2.1]
    rintro ed w5 ⟨L5, l5, rfl, hO5, hE5⟩
    simp only at hO5 ⊢
    rw [HF.out.2.1] at hO5 ⊢
    replace q0 := Ext.cell hE5 q0
    replace q1 := Ext.cell hE5 q1
    replace q2 := Ext.cell hE5 q2
    have lz5 := hE5.size
    have n5 : W.heap.size < w5.heap.size := by omega
    have HX5 := Lib.hid (HX4.out.trans hE5)
    have HO4' := Lib.hid (HO4.out.ext hE5)
    have HO5 := Lib.hid hO5
    clear hE5 hO5 HX4 n4 HO4
    go_wp2_with fail
    have hh := ffill_any lc' L5 l5 4 y g m Ap cp picks w5 (by rw [HF.out.2.1]; exact HO5.out.rd) (HP.out.ext HX5.out) (by have := HF.out.2.1; omega) (by decide) HY.out HG.out.1 HG.out.2
    rw [HF.out.2.1] at hh
    refine hh.mono ?_
    clear hh
    rw [HE.out.2.2.2]
    rintro ed w6 ⟨L6, l6, rfl, hO6, hE6⟩
    simp only at hO6 ⊢
    rw [HF.out.2.2] at hO6 ⊢
    have HX6 := Lib.hid (HX5.out.trans hE6)
    have HO4 := Lib.hid (HO4'.out.ext hE6)
    have HO6 := Lib.hid hO6
    clear hE6 hO6 HX5 n5 HO4' HO5 q0 q1 q2
    go_wp2_with fail
    refine (rwords_any _ _ _ _ _ HO4.out.rd (HL.out.ext HX6.out)).mono ?_
    rintro ed w7 ⟨rfl, hE7⟩
    rw [sameB_refl]
    have HX7 := Lib.hid (HX6.out.trans hE7)
    have HO7 := Lib.hid (HO6.out.ext hE7)
    clear hE7 HX6 HO4 HO6
    go_wp2_with fail
    go_loopw [19] (fun i wr => ∃ k : Nat, k ≤ l.length ∧ i = .int .i64 k ∧ Ext w7 wr) (fun i _ => l.length - (intOf i).toNat)
    case atStart => exact ⟨0, Nat.zero_le _, rfl, Ext.refl _⟩
    case round =>
      obtain ⟨k, hk, rfl, hX⟩ := hrel
      have HX := Lib.hid hX
      have hk0 : (0 : Int) ≤ k := by omega
      clear hX
      by_cases hlt : k < l.length
      · have hlt' : (k : Int) < l.length := by omega
        obtain ⟨bx, ox, rfl, hcx⟩ := Rd.u32s (HL.out.ext (HX7.out.trans HX.out)) (by rw [zs_len]; omega)
        have z0 := hcx k (by rw [zs_len]; exact hlt)
        have hok := HL.out.okAt k (by rw [zs_len]; exact hlt)
        rw [zs_getD] at z0
        have hok' : (0 : Int) ≤ ((l.getD k 0 : Nat) : Int) ∧ ((l.getD k 0 : Nat) : Int) ≤ 4294967295 := by rw [← zs_getD]; exact hok
        have hdl : l.length = ld.length := HF.out.2.2.symm
        have hO8 := HO7.out.rd.ext HX.out
        rw [hdl] at hO8
        obtain ⟨bd, od, rfl, hcd⟩ := Rd.u32s hO8 (by rw [zs_len]; omega)
        have z1 := hcd k (by rw [zs_len]; omega)
        rw [zs_getD, HD.out k hlt] at z1
        obtain ⟨x, hx⟩ : ∃ x, l.getD k 0 = x := ⟨_, rfl⟩
        rw [hx] at z0 z1 hok'
        have hxl : x < 4294967296 := by omega
        obtain ⟨zd, hzd⟩ : ∃ zd, oneP x 5 (lowB y) = zd := ⟨_, rfl⟩
        obtain ⟨za, hza⟩ : ∃ za, oneP x 1 y = za := ⟨_, rfl⟩
        obtain ⟨ya, hya⟩ : ∃ ya, oneP x 6 y = ya := ⟨_, rfl⟩
        obtain ⟨yb, hyb⟩ : ∃ yb, oneP y 6 x = yb := ⟨_, rfl⟩
        have hm1 := more_one x y
        rw [hya, hyb] at hm1
        rw [hzd] at z1
        obtain ⟨S, hS⟩ : ∃ S, lowB y = S := ⟨_, rfl⟩
        have KS : Hid (∀ w', Ext wr w' → w'.cell? ⟨bx, ox + k, none⟩ = some (.int .u32 x) ∧ w'.cell? ⟨bd, od + k, none⟩ = some (.int .u32 zd)) := Lib.hid (fun w' hE => ⟨hE.cell z0, hE.cell z1⟩)
        have HF1 : Hid (∀ w', Ext wr w' → Calls Try.prog 12 #[.int .u32 x, .int .i64 5, .int .u32 S] w' fun ed w'' => ed = .returned (.int .u32 zd) ∧ Ext wr w'') := Lib.hid fun w' hE => (fone_any x 5 S w' hxl (by rw [← hS]; exact lowB_lt y) (by decide)).mono fun ed w'' hh => ⟨by rw [hh.1, ← hS, hzd], hh.2 ▸ hE⟩
        have HF2 : Hid (∀ w', Ext wr w' → Calls Try.prog 12 #[.int .u32 x, .int .i64 1, .int .u32 y] w' fun ed w'' => ed = .returned (.int .u32 za) ∧ Ext wr w'') := Lib.hid fun w' hE => (fone_any x 1 y w' hxl HY.out (by decide)).mono fun ed w'' hh => ⟨by rw [hh.1, hza], hh.2 ▸ hE⟩
        have HF3 : Hid (∀ w', Ext wr w' → Calls Try.prog 12 #[.int .u32 y, .int .i64 1, .int .u32 x] w' fun ed w'' => ed = .returned (.int .u32 za) ∧ Ext wr w'') := Lib.hid fun w' hE => (fone_any y 1 x w' HY.out hxl (by decide)).mono fun ed w'' hh => ⟨by rw [hh.1, add_turn, hza], hh.2 ▸ hE⟩
        have HF4 : Hid (∀ w', Ext wr w' → Calls Try.prog 12 #[.int .u32 x, .int .i64 6, .int .u32 y] w' fun ed w'' => ed = .returned (.int .u32 ya) ∧ Ext wr w'') := Lib.hid fun w' hE => (fone_any x 6 y w' hxl HY.out (by decide)).mono fun ed w'' hh => ⟨by rw [hh.1, hya], hh.2 ▸ hE⟩
        have HF5 : Hid (∀ w', Ext wr w' → Calls Try.prog 12 #[.int .u32 y, .int .i64 6, .int .u32 x] w' fun ed w'' => ed = .returned (.int .u32 yb) ∧ Ext wr w'') := Lib.hid fun w' hE => (fone_any y 6 x w' HY.out hxl (by decide)).mono fun ed w'' hh => ⟨by rw [hh.1, hyb], hh.2 ▸ hE⟩
        have hdl' : k < ld.length := by omega
        obtain ⟨K, hK⟩ : ∃ K, y % 32 = K := ⟨_, rfl⟩
        have hKl : K < 32 := by omega
        have hKi : (K : Int) < 32 := by omega
        have hK0 : (0 : Int) ≤ K := by omega
        have htm : (y : Int).tmod 32 = (K : Int) := by
          rw [Int.tmod_eq_emod_of_nonneg (by omega)]; omega
        have hS2 : (4294967295 : Int) / 2 ^ K = (S : Int) := by
          rw [← hS, ← hK]
          unfold lowB
          simp
        have hsu : IntKind.u32.wrap ((ya : Int) + yb) = (ya : Int) + yb := IntWalk.u32_in _ (by omega)
        have hsd : decide ((1 : Int) < (ya : Int) + yb) = false := decide_eq_false (by omega)
        clear hK hm1
        clear hcx hok hok' hO8 hcd hx hxl hzd hza hya hyb z0 z1 hdl hS
        go_wp2_with fail
        refine wp_region_class (Ext wr) (by kernel_rfl) (by kernel_rfl) (Ext.refl _).drew ?_
        try simp only [List.append_eq, List.cons_append, List.nil_append]
        repeat (first
          | go_big_quiet_skip
          | (go_big_quiet_want
             first
             | (go_big_quiet_op; go_big_quiet_on)
             | (unfold Oper.quiet
                apply Exists.intro
                refine ⟨fun w' hC => ?_, ?_⟩
                · (obtain ⟨k1, k2⟩ := KS.out w' hC
                   unfold Oper.quietAt
                   go_simp
                   first
                   | exact rfl
                   | (with_reducible exact HF1.out w' hC)
                   | (with_reducible exact HF2.out w' hC)
                   | (with_reducible exact HF3.out w' hC)
                   | (with_reducible exact HF4.out w' hC)
                   | (with_reducible exact HF5.out w' hC))
                go_simp
                go_big_quiet_on)
             | (go_big_quiet_op
                apply Exists.intro
                refine ⟨fun w' hC => ?_, ?_⟩
                · exact HF1.out w' hC
                go_big_quiet_on)
             | (go_big_quiet_op
                apply Exists.intro
                refine ⟨fun w' hC => ?_, ?_⟩
                · exact HF2.out w' hC
                go_big_quiet_on)
             | (go_big_quiet_op
                apply Exists.intro
                refine ⟨fun w' hC => ?_, ?_⟩
                · exact HF3.out w' hC
                go_big_quiet_on)
             | (go_big_quiet_op
                apply Exists.intro
                refine ⟨fun w' hC => ?_, ?_⟩
                · exact HF4.out w' hC
                go_big_quiet_on)
             | (go_big_quiet_op
                apply Exists.intro
                refine ⟨fun w' hC => ?_, ?_⟩
                · exact HF5.out w' hC
                go_big_quiet_on)))
        refine wpQuiet_nil ?_
        intro w8 hC8
        clear htm hS2 hsu hsd
        go_wp2_with fail
        go_roundw
        case rel => exact ⟨k + 1, by omega, by go_num, HX.out.trans hC8⟩
        case measure => simp [intOf]; omega
      · obtain rfl : k = l.length := by omega
        go_wp2_with fail
        go_ret
        exact ⟨rfl, HX7.out.trans HX.out⟩
end Go.Proofs.Ytjabahfkgaamdaa

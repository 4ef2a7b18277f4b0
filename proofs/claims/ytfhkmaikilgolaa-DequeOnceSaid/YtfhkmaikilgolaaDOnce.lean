/- The walk of DequeOnce. -/
import Derived.Test.YtfhkmaikilgolaaDAlive
import Derived.Test.YtfhkmaikilgolaaOPlain
import Derived.Test.YtfhkmaikilgolaaFlags
import Derived.Test.YtfhkmaikilgolaaOpenD
namespace Go.Proofs.Ytfhkmaikilgolaa
open Go.RowKit Go.Proofs.Ytfhkmaikilgolaa.Plain

/-- what holds ahead of each act -/
def OnceAt (w0 : World) (u v : Value) (next first : Value) (wr : World) (k : Nat) : Prop :=
  ∃ (l gone : List Int) (n : Nat) (f : Int), Ints wr u l ∧ Own w0.heap.size wr v gone ∧ next = .int .i64 n ∧ first = .int .i64 f ∧ OnceI l gone n f ∧ n ≤ k ∧ Ext w0 wr

theorem rem3 (a : Int) (h0 : 0 ≤ a) : (a % 3 = 0 ∨ a % 3 = 1 ∨ a % 3 = 2) := by omega

set_option maxHeartbeats 6400000 in
set_option maxRecDepth 100000 in
theorem donce_walk (A : Option Addr) (c : Nat) (acts : List Int) (w : World) (h : Bytes w (.slice A acts.length c) acts) (hl : acts.length ≤ 300) :
    Calls Try.prog 6 #[.slice A acts.length c] w fun e w' => e = .returned (.bool true) ∧ Ext w w' := by
  have H := Lib.hid h
  have hq0 : (acts.length : Int) ≤ 300 := by omega
  clear h
  go_enter Try.func6, Try.ntmps6
  go_wp2_with fail
  refine (dalive_any _).mono ?_
  rintro e w0 ⟨rfl, hE⟩
  have E0 := Lib.hid hE
  have I := Lib.hid (H.out.ext hE)
  clear hE
  go_wp2_with fail
  go_loopw [3, 4, 5, 6, 7] (fun u next first v i wr => ∃ k : Nat, k ≤ acts.length ∧ i = .int .i64 k ∧ OnceAt w0 u v next first wr k) (fun _ _ _ _ i _ => acts.length - (intOf i).toNat)
  case atStart => exact ⟨0, Nat.zero_le _, rfl, [], [], 0, 0, Ints.nil _ _ _, Own.nil _ _, rfl, rfl, once_nil, Nat.le_refl _, Ext.refl _⟩
  case round =>
    obtain ⟨k, hk, rfl, l, gone, n, f, hil, hgo, rfl, rfl, hI, hn, hE⟩ := hrel
    by_cases hlt : k < acts.length
    · obtain ⟨b, off, rfl, hcc⟩ := I.out.cells (by omega)
      have ha := I.out.getD_bd k
      obtain ⟨a, hav⟩ : ∃ a, acts.getD k 0 = a := ⟨_, rfl⟩
      rw [hav] at ha
      have k0 : wr.cell? ⟨b, off + k, none⟩ = some (.int .u8 a) := (hE.cell (hcc k hlt)).trans (by rw [hav])
      obtain ⟨A1, c1, rfl, hlc⟩ := hil.slice
      have hll : l.length + gone.length = n := hI.2.2.2.2.2.2
      have hlb : (l.length : Int) ≤ 300 := by omega
      have HI := Lib.hid hI
      have HL := Lib.hid hil
      have HGO := Lib.hid hgo
      have HE := Lib.hid hE
      have hz := hE.size
      have hnb : (n : Int) ≤ 300 := by omega
      clear hcc hav hI hil hgo hE hll
      by_cases hp : a % 3 = 0
      · have t1 : (a % 3 == 0) = true := by rw [hp]; rfl
        clear hp
        have q1 := Lib.hid (push_small l n (by omega))
        have hnb2 : -9223372036854775808 ≤ (n : Int) ∧ (n : Int) ≤ 9223372036854775807 := by omega
        have q2 := Lib.hid (once_push HI.out)
        go_wp2_with fail
        refine (push_to _ _ _ l (l ++ [(n : Int)]) n 0 (l.length + 1) _ HL.out rfl (by omega) hnb2 q1.out.1 q1.out.2 (by simp)).mono ?_
        rintro e w1 ⟨A2, c2, rfl, hi, hE1⟩
        go_wp2
        go_roundw
        case rel => exact ⟨k + 1, by omega, by go_num, l ++ [(n : Int)], gone, n + 1, f, hi, HGO.out.ext hE1, by go_num, rfl, q2.out, by omega, HE.out.trans hE1⟩
        case measure => simp [intOf]; omega
      · have t1 : (a % 3 == 0) = false := by rw [beq_eq_false_iff_ne]; exact hp
        by_cases h0 : l.length = 0
        · have t2 : ((l.length : Int) == 0) = true := by rw [h0]; rfl
          clear hp h0
          have q1 := Lib.hid (push_small l n (by omega))
          have hnb2 : -9223372036854775808 ≤ (n : Int) ∧ (n : Int) ≤ 9223372036854775807 := by omega
          have q2 := Lib.hid (once_push HI.out)
          go_wp2_with fail
          refine (push_to _ _ _ l (l ++ [(n : Int)]) n 0 (l.length + 1) _ HL.out rfl (by omega) hnb2 q1.out.1 q1.out.2 (by simp)).mono ?_
          rintro e w1 ⟨A2, c2, rfl, hi, hE1⟩
          go_wp2
          go_roundw
          case rel => exact ⟨k + 1, by omega, by go_num, l ++ [(n : Int)], gone, n + 1, f, hi, HGO.out.ext hE1, by go_num, rfl, q2.out, by omega, HE.out.trans hE1⟩
          case measure => simp [intOf]; omega
        · have t2 : ((l.length : Int) == 0) = false := by rw [beq_eq_false_iff_ne]; omega
          have h1 : 0 < l.length := by omega
          have q1 := Lib.hid (popE_pos l h1)
          by_cases hq : a % 3 = 1
          · have t3 : (a % 3 == 1) = true := by rw [hq]; rfl
            clear hp h0 hq
            obtain ⟨x, hx⟩ : ∃ x, lastD l = x := ⟨_, rfl⟩
            obtain ⟨b1, off1, rfl, hcc⟩ := HL.out.cells h1
            have k1 : wr.cell? ⟨b1, off1 + (l.length - 1), none⟩ = some (.int .i64 x) := (hcc (l.length - 1) (by omega)).trans (by rw [← hx]; rfl)
            have hxb : -9223372036854775808 ≤ x ∧ x ≤ 9223372036854775807 := hx ▸ HL.out.getD_bd (l.length - 1)
            have q2 : Hid (OnceI (popL l) (gone ++ [x]) n f) := Lib.hid (by rw [← hx]; exact once_pop HI.out h1)
            have HX := Lib.hid hx
            have hl1 : (1 : Int) ≤ l.length := by omega
            have hl2 : (l.length : Int) - 1 < l.length := by omega
            have hl3 : (0 : Int) ≤ (l.length : Int) - 1 := by omega
            clear hcc hx
            go_wp2_with fail
            refine (pop_far _ _ l _ HL.out (by omega)).mono ?_
            rw [HX.out, q1.out.1, popL_len l]
            rintro e w1 ⟨A2, c2, rfl, hi, hE1, hfr⟩
            have HI1 := Lib.hid hi
            have HE1 := Lib.hid hE1
            have HFR := Lib.hid hfr
            have hz1 := hE1.size
            clear hi hE1 hfr
            go_wp2_with (at_builtin; refine wpList_app rfl _ _ rfl rfl w0.heap.size _ gone rfl (HGO.out.ext (HE1.out.alloc _)) _ [x] rfl (Ints.one w1 x 1 (by omega) hxb) (by have := HI.out.2.2.2.2.2.2; simp; omega) (by simp; omega) ?_; intro v2 w2 hown2 hgrow2 hat2)
            go_roundw
            case rel => exact ⟨k + 1, by omega, by go_num, popL l, gone ++ [x], n, f, popL_len l ▸ (((popL_len l).symm ▸ HI1.out).ext ((Ext.refl _).alloc _)).grown hgrow2 (fun a ha he => by
              have h1 := HFR.out a ha
              have h2 := (HGO.out.lt _ he.symm).2
              omega), hown2, rfl, rfl, q2.out, by omega, ((HE.out.trans HE1.out).alloc _).grown hgrow2 (fun k hk => (HGO.out.lt k hk).1)⟩
            case measure => simp [intOf]; omega
          · have t3 : (a % 3 == 1) = false := by rw [beq_eq_false_iff_ne]; exact hq
            clear hp h0 hq
            obtain ⟨x, hx⟩ : ∃ x, topD l = x := ⟨_, rfl⟩
            have hxb : -9223372036854775808 ≤ x ∧ x ≤ 9223372036854775807 := hx ▸ HL.out.getD_bd 0
            have q2 : Hid (OnceI (stealL l) (gone ++ [x]) n x) := Lib.hid (by rw [← hx]; exact (once_steal HI.out h1).1)
            have q3 : f ≤ x := by rw [← hx]; exact (once_steal HI.out h1).2
            have HX := Lib.hid hx
            clear hx
            go_wp2_with fail
            refine (steal_far _ _ l _ HL.out (by omega)).mono ?_
            rw [HX.out, q1.out.1, stealL_len l]
            rintro e w1 ⟨A2, c2, rfl, hi, hE1, hfr⟩
            have HI1 := Lib.hid hi
            have HE1 := Lib.hid hE1
            have HFR := Lib.hid hfr
            have hz1 := hE1.size
            clear hi hE1 hfr
            go_wp2_with (at_builtin; refine wpList_app rfl _ _ rfl rfl w0.heap.size _ gone rfl (HGO.out.ext (HE1.out.alloc _)) _ [x] rfl (Ints.one w1 x 1 (by omega) hxb) (by have := HI.out.2.2.2.2.2.2; simp; omega) (by simp; omega) ?_; intro v2 w2 hown2 hgrow2 hat2)
            go_roundw
            case rel => exact ⟨k + 1, by omega, by go_num, stealL l, gone ++ [x], n, x, stealL_len l ▸ (((stealL_len l).symm ▸ HI1.out).ext ((Ext.refl _).alloc _)).grown hgrow2 (fun a ha he => by
              have h1 := HFR.out a ha
              have h2 := (HGO.out.lt _ he.symm).2
              omega), hown2, rfl, rfl, q2.out, by omega, ((HE.out.trans HE1.out).alloc _).grown hgrow2 (fun k hk => (HGO.out.lt k hk).1)⟩
            case measure => simp [intOf]; omega
    · have HA := Lib.hid (once_all hI)
      have hll := hI.2.2.2.2.2.2
      have hnb : (n : Int) ≤ 300 := by omega
      have hn0 : (0 : Int) ≤ n := by omega
      obtain ⟨C, hmk, hfl⟩ := made_flags n (by omega)
      have HL := Lib.hid hil
      have HGO := Lib.hid hgo
      have HE := Lib.hid hE
      have hz := hE.size
      have HF : Hid (Flags wr.heap.size (wr.alloc (.cells C 4)) wr.heap.size n (metL n [])) := Lib.hid (by rw [metL_nil]; exact hfl wr _ (Nat.le_refl _))
      clear hI hil hgo hE hfl
      go_wp2_with (first | (at_builtin; refine wpList_app rfl (.tmp 106) (.tmp 107) rfl rfl (wr.heap.size + 1) _ [] rfl (own_emptyAt (p := wr.heap.size + 1) (wr.alloc (.cells C 4)) (by simp) (Nat.le_refl _)) _ l rfl (HL.out.ext (((Ext.refl wr).alloc _).alloc _)) (by simp; omega) (by simp) ?_; intro v1 w1 hown1 hgrow1 hat1; have hE1 := (((Ext.refl wr).alloc (.cells C 4)).alloc (.cells #[] 3)).grown hgrow1 (fun k hk => by cases hk; simp); have hF1 := ((Ext.refl (wr.alloc (.cells C 4))).alloc (.cells #[] 3)).grown hgrow1 (fun k hk => by cases hk; simp); simp only [List.nil_append] at hown1) | (at_builtin; refine wpList_app rfl (.tmp 108) (.tmp 109) rfl rfl (wr.heap.size + 1) _ l rfl hown1 _ gone rfl (HGO.out.ints.ext hE1) (by omega) (by have := hgrow1.size; simp at this; omega) ?_; intro v2 w2 hown2 hgrow2 hat2))
      have hF2 := hF1.grown hgrow2 (fun k hk => by have := (hown1.lt k hk).1; simp; omega)
      have HFL := Lib.hid (HF.out.ext hF2)
      have HX := Lib.hid (HE.out.trans (((Ext.refl wr).alloc _).trans hF2))
      obtain ⟨xs, hxs⟩ : ∃ xs, l ++ gone = xs := ⟨_, rfl⟩
      rw [hxs] at hown2 HA
      obtain ⟨A3, c3, rfl⟩ := hown2.slice
      obtain ⟨hnd, hbd, hlen⟩ := HA.out
      rw [hlen] at hown2 ⊢
      have HO := Lib.hid hown2
      have HND := Lib.hid hnd
      have HBD := Lib.hid hbd
      have HLEN := Lib.hid hlen
      clear hF1 hF2 hE1 hgrow1 hgrow2 hat1 hat2 hown1 hown2 hxs HA HF hmk HL HGO hll hnd hbd hlen
      go_loopw [19] (fun i wx => ∃ j : Nat, j ≤ n ∧ i = .int .i64 j ∧ Own (wr.heap.size + 1) wx (.slice A3 n c3) xs ∧ Flags wr.heap.size wx wr.heap.size n (metL n (xs.take j)) ∧ Ext w0 wx) (fun i _ => n - (intOf i).toNat)
      case atStart => exact ⟨0, Nat.zero_le _, rfl, HO.out, HFL.out, HX.out⟩
      case round =>
        obtain ⟨j, hj, rfl, hown, hfl, hEx⟩ := hrel
        by_cases hjn : j < n
        · obtain ⟨g3, rfl, hg3, hg3w, hgc, hgf, _⟩ := hown.pos (by rw [HLEN.out]; omega)
          have kc := hgc j (by rw [HLEN.out]; exact hjn)
          have hb := HBD.out (xs.getD j 0) (getD_mem xs j (by rw [HLEN.out]; exact hjn))
          have hnm := nodup_take_get xs j (by rw [HLEN.out]; exact hjn) HND.out
          have hts := take_snoc xs j (by rw [HLEN.out]; exact hjn)
          obtain ⟨q, hq⟩ : ∃ q : Nat, xs.getD j 0 = q := ⟨(xs.getD j 0).toNat, by omega⟩
          rw [hq] at kc hb hnm hts
          have hqn : (q : Int) < n := hb.2
          have hqn' : q < n := by omega
          have hm := metL_get n (xs.take j) q hqn'
          have kf := hfl.cell q hqn'
          rw [hm, decide_eq_false hnm] at kf
          have kz := hfl.frozen q
          have hMS := Lib.hid (metL_snoc n (xs.take j) q hqn')
          have HTS := Lib.hid hts
          have HOW := Lib.hid hown
          have HFX := Lib.hid hfl
          have HEX := Lib.hid hEx
          clear hgc hgf hb hnm hts hq hm hown hfl hEx
          go_wp2
          go_roundw
          case rel =>
            refine ⟨j + 1, by omega, by go_num, HOW.out.setOther (by simp [Value.ownBlock]; omega) _, ?_, HEX.out.setCell (by simp; omega) _⟩
            rw [HTS.out, ← hMS.out]
            exact HFX.out.set q true
          case measure => simp [intOf]; omega
        · go_wp2
          go_ret
          exact ⟨rfl, E0.out.trans hEx⟩

set_option maxRecDepth 100000 in
theorem donce_great (A : Option Addr) (n c : Nat) (w : World) (hn : n ≤ 9223372036854775807) (hl : 300 < n) :
    Calls Try.prog 6 #[.slice A n c] w fun e w' => e = .returned (.bool true) ∧ Ext w w' := by
  have h1 : (300 : Int) < n := by omega
  go_enter Try.func6, Try.ntmps6
  go_wp2_with fail
  refine (dalive_any _).mono ?_
  rintro e w0 ⟨rfl, hE⟩
  go_wp2_with fail
  go_ret
  exact ⟨rfl, hE⟩
theorem donce_any (A : Option Addr) (c : Nat) (acts : List Int) (w : World) (h : Bytes w (.slice A acts.length c) acts) :
    Calls Try.prog 6 #[.slice A acts.length c] w fun e w' => e = .returned (.bool true) ∧ Ext w w' := by
  have k1 := h.1
  unfold maxLen at k1
  by_cases hg : 300 < acts.length
  · exact donce_great A _ c w (by omega) hg
  · exact donce_walk A c acts w h (by omega)
end Go.Proofs.Ytfhkmaikilgolaa

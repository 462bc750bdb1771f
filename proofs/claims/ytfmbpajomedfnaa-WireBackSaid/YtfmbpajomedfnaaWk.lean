/-
  The walk of the statement WireBack.
-/
import Derived.Test.YtfmbpajomedfnaaWj
import Derived.Test.YtfmbpajomedfnaaWf
namespace Go.Proofs.Ytfmbpajomedfnaa
open Go.RowKit

/-- A slice of texts. -/
def TextsAt (w : World) (A : Option Addr) (ts : List ByteArray) : Prop :=
  0 < ts.length → ∃ b o, A = some ⟨b, o, none⟩ ∧ b < w.heap.size ∧ ∀ j t, ts[j]? = some t → w.cell? ⟨b, o + j, none⟩ = some (.string t)

set_option maxRecDepth 100000 in
set_option maxHeartbeats 1000000 in
theorem wback_out (A B : Option Addr) (tn tc ln lc : Nat) (cut : Int) (w : World) (h1 : tn ≤ maxLen) (h2 : ln ≤ maxLen) (h : 50 < tn ∨ 100 < ln) :
    Calls Try.prog 5 #[.slice A tn tc, .slice B ln lc, .int .i64 cut] w fun e w' => e = .returned (.bool true) ∧ Ext w w' := by
  unfold maxLen at h1 h2
  rcases h with h | h
  · go_enter Try.func5, Try.ntmps5
    go_wp2_with (go_at_call 9; refine (wfixed_yes _).mono ?_; rintro e w1 ⟨rfl, hb1⟩)
    all_goals (go_ret; exact ⟨rfl, (by repeat (first | exact Ext.refl _ | assumption | refine Ext.trans (by assumption) ?_))⟩)
  · by_cases h50 : 50 < tn
    · go_enter Try.func5, Try.ntmps5
      go_wp2_with (go_at_call 9; refine (wfixed_yes _).mono ?_; rintro e w1 ⟨rfl, hb1⟩)
      all_goals (go_ret; exact ⟨rfl, (by repeat (first | exact Ext.refl _ | assumption | refine Ext.trans (by assumption) ?_))⟩)
    · go_enter Try.func5, Try.ntmps5
      go_wp2_with (go_at_call 9; refine (wfixed_yes _).mono ?_; rintro e w1 ⟨rfl, hb1⟩)
      all_goals (go_ret; exact ⟨rfl, (by repeat (first | exact Ext.refl _ | assumption | refine Ext.trans (by assumption) ?_))⟩)

set_option maxRecDepth 100000 in
set_option maxHeartbeats 1000000 in
theorem wback_bad (A B : Option Addr) (tn tc ln lc : Nat) (xs : List Int) (cut : Int) (w : World) (h1 : tn ≤ 50) (h2 : ln ≤ 100) (h0 : 0 < ln) (hB : IntsAt w (.slice B ln lc) xs) (hxl : xs.length = ln) (hn : Wi.nums xs = ⟨#[]⟩) :
    Calls Try.prog 5 #[.slice A tn tc, .slice B ln lc, .int .i64 cut] w fun e w' => e = .returned (.bool true) ∧ Ext w w' := by
  have HB := Lib.hid hB; clear hB
  have HL := Lib.hid (show xs.length ≤ 1000000 by omega)
  have HN := Lib.hid hn
  clear hxl hn
  go_enter Try.func5, Try.ntmps5
  go_wp2_with fail
  refine (wfixed_yes _).mono ?_
  rintro e w1 ⟨rfl, hx1⟩
  go_wp2_with fail
  refine (nums_eq _ xs _ _ (HB.out.ext hx1) HL.out HN.out).mono ?_
  rintro e w2 ⟨rfl, hx2⟩
  go_wp2_with fail
  refine (wfixed_yes _).mono ?_
  rintro e w3 ⟨rfl, hx3⟩
  go_wp2_with fail
  go_ret
  exact ⟨rfl, (by repeat (first | exact Ext.refl _ | assumption | refine Ext.trans (by assumption) ?_))⟩

theorem Wi.cats_ne {xs : List Int} (h : 0 < xs.length) : (Wi.cats xs).toList.isEmpty = false := by
  rw [ByteArray.toList_eq]
  show (Wi.cat xs).isEmpty = false
  cases xs with
  | nil => simp at h
  | cons x r =>
    have := Va.put_len_pos x.toNat
    simp only [Wi.cat, List.map_cons, List.flatten_cons]
    cases hp : Va.put x.toNat with
    | nil => rw [hp] at this; simp at this
    | cons a b => rfl

/-- What the walk knows behind its first tests. -/
structure Known (w : World) (A B : Option Addr) (tn ln lc : Nat) (xs : List Int) (ts : List ByteArray) : Prop where
  tl : ts.length = tn
  xl : xs.length = ln
  t50 : tn ≤ 50
  l100 : ln ≤ 100
  ok : ∀ x ∈ xs, Wi.ok x
  hA : TextsAt w A ts
  hB : IntsAt w (.slice B ln lc) xs
theorem Known.nums {w : World} {A B : Option Addr} {tn ln lc : Nat} {xs : List Int} {ts : List ByteArray} (h : Known w A B tn ln lc xs ts) : Wi.nums xs = Wi.cats xs := by
  unfold Wi.nums; rw [Wi.numsL_ok xs h.ok]; rfl
theorem Known.size {w : World} {A B : Option Addr} {tn ln lc : Nat} {xs : List Int} {ts : List ByteArray} (h : Known w A B tn ln lc xs ts) (k : Nat) (ht : ∀ t ∈ ts.take k, t.size ≤ 1000) : (Wi.full xs (ts.take k)).size ≤ 100000 := by
  rw [Wi.full_size]
  have h1 := Wi.cat_len xs h.ok
  have h2 := Wi.catT_len _ ht
  have := h.xl
  have := h.tl
  have := h.l100
  have := h.t50
  rw [List.length_take] at h2
  omega
theorem Known.text {w : World} {A B : Option Addr} {tn ln lc : Nat} {xs : List Int} {ts : List ByteArray} (h : Known w A B tn ln lc xs ts) {k : Nat} (hk : k < tn) :
    ∃ b o t, A = some ⟨b, o, none⟩ ∧ ts[k]? = some t ∧ ∀ v, Ext w v → v.cell? ⟨b, o + k, none⟩ = some (.string t) := by
  have hk' : k < ts.length := by have := h.tl; omega
  obtain ⟨b, o, rfl, hb, hc⟩ := h.hA (by omega)
  exact ⟨b, o, ts[k], rfl, List.getElem?_eq_getElem hk', fun v hv => by rw [Below.cell hv hb]; exact hc k _ (List.getElem?_eq_getElem hk')⟩
theorem Known.num {w : World} {A B : Option Addr} {tn ln lc : Nat} {xs : List Int} {ts : List ByteArray} (h : Known w A B tn ln lc xs ts) {k : Nat} (hk : k < ln) :
    ∃ b o x, B = some ⟨b, o, none⟩ ∧ xs[k]? = some x ∧ ∀ v, Ext w v → v.cell? ⟨b, o + k, none⟩ = some (.int .i64 x) := by
  have hk' : k < xs.length := by have := h.xl; omega
  obtain ⟨B', c, hv, hc⟩ := h.hB
  injection hv with hv1 hv2 hv3
  subst hv1
  obtain ⟨b, o, rfl, hb, hc⟩ := hc (by omega)
  exact ⟨b, o, xs[k], rfl, List.getElem?_eq_getElem hk', fun v hv => by rw [Below.cell hv hb]; exact hc k _ (List.getElem?_eq_getElem hk')⟩

set_option maxRecDepth 100000 in
set_option maxHeartbeats 4000000 in
theorem wback_pos (A B : Option Addr) (tn tc ln lc : Nat) (xs : List Int) (ts : List ByteArray) (cut : Int) (w : World) (hK : Known w A B tn ln lc xs ts) (h0 : 0 < ln) (hne : (Wi.cats xs).toList.isEmpty = false) :
    Calls Try.prog 5 #[.slice A tn tc, .slice B ln lc, .int .i64 cut] w fun e w' => e = .returned (.bool true) ∧ Ext w w' := by
  have h1 := hK.t50
  have h2 := hK.l100
  have HK := Lib.hid hK; clear hK
  have HN := Lib.hid HK.out.nums
  have HL := Lib.hid (show xs.length ≤ 1000000 by have := HK.out.xl; omega)
  have hnn : ¬ (Wi.cats xs).toList = [] := by intro h; rw [h] at hne; simp at hne
  go_enter Try.func5, Try.ntmps5
  go_wp2_with fail
  refine (wfixed_yes _).mono ?_
  rintro e w1 ⟨rfl, hx1⟩
  go_wp2_with fail
  refine (nums_eq _ xs _ _ (HK.out.hB.ext hx1) HL.out HN.out).mono ?_
  rintro e w2 ⟨rfl, hx2⟩
  go_wp2_with fail
  refine (nums_eq _ xs _ _ (HK.out.hB.ext (hx1.trans hx2)) HL.out HN.out).mono ?_
  rintro e w3 ⟨rfl, hx3⟩
  have HX := Lib.hid ((hx1.trans hx2).trans hx3)
  clear hx1 hx2 hx3 hne hnn
  go_wp2_with fail
  go_loopw [7, 8] (fun s i wr => ∃ k : Nat, k ≤ tn ∧ i = .int .i64 k ∧ s = .string (Wi.full xs (ts.take k)) ∧ (∀ t ∈ ts.take k, t.size ≤ 1000) ∧ Ext w wr) (fun _ i _ => tn - (intOf i).toNat)
  case atStart => exact ⟨0, by omega, rfl, by rw [List.take_zero, Wi.full_nil], by simp, HX.out⟩
  case round =>
    obtain ⟨k, hk, rfl, rfl, hall, hx⟩ := hrel
    clear HX
    have HX := Lib.hid hx; clear hx
    have HT := Lib.hid hall; clear hall
    have hsz := HK.out.size k HT.out
    by_cases hlt : k < tn
    · obtain ⟨b, o, t, rfl, htk, hcell⟩ := HK.out.text hlt
      have hc0 : wr.cell? ⟨b, o + k, none⟩ = some (.string t) := hcell _ HX.out
      have HC := Lib.hid hcell
      have HTK := Lib.hid htk
      clear hcell htk
      by_cases hbig : 1000 < t.size
      · go_wp2_with fail
        go_ret
        exact ⟨rfl, HX.out⟩
      · have hts : t.size ≤ 1000 := by omega
        have hpz : (Va.puts t.size).size ≤ 9 := by rw [Va.puts_size]; exact Va.put_len_most (by unfold Va.most; omega)
        have HE : Hid (ts.take (k + 1) = ts.take k ++ [t]) := Lib.hid (by rw [List.take_add_one, HTK.out]; rfl)
        go_wp2_with fail
        refine (text_w t _ (by omega)).mono ?_
        rintro e w4 ⟨rfl, hx4⟩
        go_wp2
        go_roundw
        case rel =>
          refine ⟨k + 1, by omega, by go_num, by rw [HE.out, ← Wi.full_snoc], ?_, HX.out.trans hx4⟩
          rw [HE.out]
          intro y hy
          rcases List.mem_append.1 hy with hy | hy
          · exact HT.out y hy
          · rw [List.mem_singleton.1 hy]; exact hts
        case measure => simp [intOf]; omega
    · have hS : ts.take k = ts := List.take_of_length_le (by have := HK.out.tl; omega)
      rw [hS] at HT hsz ⊢
      have hge : tn ≤ k := by omega
      clear hS hk hlt
      have HS : Hid ((Wi.full xs ts).size ≤ maxLen) := Lib.hid (by unfold maxLen; omega)
      go_wp2_with fail
      refine (new_any _ _).mono ?_
      rintro e w5 ⟨rfl, hr5, hx5⟩
      have hg : w.heap.size ≤ wr.heap.size := HX.out.size
      have HX5 := Lib.hid (HX.out.trans hx5)
      clear HX hx5
      generalize wr.heap.size = g at *
      have HR := Lib.hid hr5
      clear hr5
      go_wp2_with fail
      go_loopw [10] (fun i wq => ∃ j : Nat, j ≤ ln ∧ i = .int .i64 j ∧ RD wq g (Wi.full xs ts) (Wi.offN xs j : Nat) 0 ∧ Ext w wq) (fun i _ => ln - (intOf i).toNat)
      case atStart => exact ⟨0, by omega, rfl, HR.out, HX5.out⟩
      case round =>
        obtain ⟨j, hj, rfl, hr, hx⟩ := hrel
        clear HR HX5
        have HR := Lib.hid hr; clear hr
        have HX := Lib.hid hx; clear hx
        by_cases hlt : j < ln
        · obtain ⟨b, o, x, rfl, hxk, hcell⟩ := HK.out.num hlt
          have hjx : j < xs.length := by have := HK.out.xl; omega
          have hxe : xs[j] = x := by rw [List.getElem?_eq_getElem hjx] at hxk; injection hxk
          have HQ : Hid (Wi.num (Wi.full xs ts) (Wi.offN xs j : Nat) 0 = (x, ((Wi.offN xs (j + 1) : Nat) : Int), 0)) := Lib.hid (by
            have := Wi.num_has (Wi.full xs ts) (Wi.offN xs j) xs[j] _ (Wi.offN_le xs ts j) (HK.out.ok _ (List.getElem_mem hjx)) (Wi.atN xs ts j hjx)
            rw [Wi.offN_succ xs j hjx, ← hxe]; exact this)
          clear hxk hxe hjx
          have hxd : Ext w wr.drew := HX.out.drew
          go_wp2_with fail
          go_region_with (go_at_call 11; refine (num_eq x HR.out.drew HS.out HQ.out).mono ?_; rintro e w6 ⟨rfl, hr6, hu6⟩; have hx6 := (HX.out.drew).upd hu6 hg)
          all_goals
            go_wp2
            refine ⟨⟨j + 1, by omega, by go_num, hr6, hx6⟩, ?_⟩
            simp [intOf]; omega
        · have hjl : j = ln := by omega
          have HR2 : Hid (RD wr g (Wi.full xs ts) (Wi.offT xs ts 0 : Nat) 0) := Lib.hid (by rw [← Wi.off_mid, HK.out.xl, ← hjl]; exact HR.out)
          have hge2 : ln ≤ j := by omega
          clear hjl
          clear HR
          go_wp2_with fail
          go_loopw [11] (fun i wq => ∃ j : Nat, j ≤ tn ∧ i = .int .i64 j ∧ RD wq g (Wi.full xs ts) (Wi.offT xs ts j : Nat) 0 ∧ Ext w wq) (fun i _ => tn - (intOf i).toNat)
          case atStart => exact ⟨0, by omega, rfl, HR2.out, HX.out⟩
          case round =>
            obtain ⟨m, hm, rfl, hr, hx⟩ := hrel
            clear HR2 HX
            have HR := Lib.hid hr; clear hr
            have HX := Lib.hid hx; clear hx
            by_cases hlt : m < tn
            · obtain ⟨b, o, t, rfl, htk, hcell⟩ := HK.out.text hlt
              have hjx : m < ts.length := by have := HK.out.tl; omega
              have hxe : ts[m] = t := by rw [List.getElem?_eq_getElem hjx] at htk; injection htk
              have HQ : Hid (Wi.text (Wi.full xs ts) (Wi.offT xs ts m : Nat) 0 = (t, ((Wi.offT xs ts (m + 1) : Nat) : Int), 0)) := Lib.hid (by
                have := Wi.text_has (Wi.full xs ts) (Wi.offT xs ts m) ts[m] _ (Wi.offT_le xs ts m) (HT.out _ (List.getElem_mem hjx)) (Wi.atT xs ts m hjx)
                rw [Wi.offT_succ xs ts m hjx, ← hxe]; exact this)
              clear htk hxe hjx
              have hxd : Ext w wr.drew := HX.out.drew
              go_wp2_with fail
              go_region_with (go_at_call 15; refine (text_eq t HR.out.drew HS.out HQ.out).mono ?_; rintro e w6 ⟨rfl, hr6, hu6⟩; have hx6 := (HX.out.drew).upd hu6 hg)
              all_goals
                go_wp2
                refine ⟨⟨m + 1, by omega, by go_num, hr6, hx6⟩, ?_⟩
                simp [intOf]; omega
            · have HD : Hid ((((Wi.offT xs ts m : Nat) : Int) == ((Wi.full xs ts).size : Int)) = true) := Lib.hid (by
                rw [show m = ts.length by have := HK.out.tl; omega, Wi.off_end]; exact beq_self_eq_true _)
              have hge3 : tn ≤ m := by omega
              clear hm hlt
              go_wp2_with fail
              refine (done_eq true HR.out HD.out).mono ?_
              rintro e w7 ⟨rfl, hr7, hu7⟩
              have HX7 := Lib.hid (HX.out.upd hu7 hg)
              clear hr7 hu7 HX HR HD
              by_cases hc : cut < 0 ∨ ((Wi.full xs ts).size : Int) ≤ cut
              · rcases hc with hc | hc
                all_goals
                  go_wp2_with fail
                  go_ret
                  exact ⟨rfl, HX7.out⟩
              · obtain ⟨c, rfl⟩ := Int.eq_ofNat_of_zero_le (show 0 ≤ cut by omega)
                have hc1 : c < (Wi.full xs ts).size := by omega
                clear hc
                go_wp2_with fail
                refine (new_any _ _).mono ?_
                rintro e w8 ⟨rfl, hr8, hx8⟩
                have hg8 : w.heap.size ≤ w7.heap.size := HX7.out.size
                have HX8 := Lib.hid (HX7.out.trans hx8)
                clear HX7 hx8
                generalize w7.heap.size = g8 at *
                have HR8 := Lib.hid hr8
                clear hr8
                have HC := Lib.hid (Nat.le_of_lt hc1)
                have HS8 : Hid (((Wi.full xs ts).extract 0 c).size ≤ maxLen) := Lib.hid (by simp [maxLen]; omega)
                go_wp2_with fail
                go_loopw [13] (fun i wq => ∃ (j : Nat) (a e : Int), j ≤ ln ∧ i = .int .i64 j ∧ RD wq g8 ((Wi.full xs ts).extract 0 c) a e ∧ Wi.Inv c (Wi.offN xs j) a e ∧ Ext w wq) (fun i _ => ln - (intOf i).toNat)
                case atStart => exact ⟨0, 0, 0, by omega, rfl, HR8.out, .inl ⟨rfl, by simp [Wi.offN, Wi.cat], by simp [Wi.offN, Wi.cat]⟩, HX8.out⟩
                case round =>
                  obtain ⟨j, a, e, hj, rfl, hr, hi, hx⟩ := hrel
                  clear HR8 HX8
                  have HR := Lib.hid hr; clear hr
                  have HX := Lib.hid hx; clear hx
                  have HI := Lib.hid hi; clear hi
                  by_cases hlt : j < ln
                  · have HI2 := Lib.hid (Wi.inv_num HC.out (k := j) (by have := HK.out.xl; omega) HK.out.ok HI.out)
                    go_wp2_with fail
                    refine (num_any g8 _ a e _ HR.out HS8.out).mono ?_
                    rintro r w9 ⟨rfl, hr9, hu9⟩
                    go_wp2
                    go_roundw
                    case rel => exact ⟨j + 1, _, _, by omega, by go_num, hr9, HI2.out, HX.out.upd hu9 hg8⟩
                    case measure => simp [intOf]; omega
                  · have HI2 : Hid (Wi.Inv c (Wi.offT xs ts 0) a e) := Lib.hid (by rw [← Wi.off_mid, HK.out.xl, ← show j = ln by omega]; exact HI.out)
                    clear HI
                    have hge4 : ln ≤ j := by omega
                    go_wp2_with fail
                    go_loopw [14] (fun i wq => ∃ (j : Nat) (a e : Int), j ≤ tn ∧ i = .int .i64 j ∧ RD wq g8 ((Wi.full xs ts).extract 0 c) a e ∧ Wi.Inv c (Wi.offT xs ts j) a e ∧ Ext w wq) (fun i _ => tn - (intOf i).toNat)
                    case atStart => exact ⟨0, a, e, by omega, rfl, HR.out, HI2.out, HX.out⟩
                    case round =>
                      obtain ⟨q, a2, e2, hq, rfl, hr, hi, hx⟩ := hrel
                      clear HR HX HI2
                      have HR := Lib.hid hr; clear hr
                      have HX := Lib.hid hx; clear hx
                      have HI := Lib.hid hi; clear hi
                      by_cases hlt : q < tn
                      · have HI2 := Lib.hid (Wi.inv_text HC.out (k := q) (by have := HK.out.tl; omega) HT.out HI.out)
                        go_wp2_with fail
                        refine (text_any g8 _ a2 e2 _ HR.out HS8.out).mono ?_
                        rintro r w9 ⟨rfl, hr9, hu9⟩
                        go_wp2
                        go_roundw
                        case rel => exact ⟨q + 1, _, _, by omega, by go_num, hr9, HI2.out, HX.out.upd hu9 hg8⟩
                        case measure => simp [intOf]; omega
                      · have hoff : Wi.offT xs ts q = (Wi.full xs ts).size := by rw [show q = ts.length by have := HK.out.tl; omega, Wi.off_end]
                        have hge5 : tn ≤ q := by omega
                        rcases HI.out with ⟨_, _, h3⟩ | ⟨rfl, ha0, ha1⟩
                        · omega
                        · clear hoff
                          go_wp2_with fail
                          refine (err_ne HR.out (by omega)).mono ?_
                          rintro r wa ⟨rfl, hra, hua⟩
                          go_wp2_with fail
                          refine (done_ne hra (by omega)).mono ?_
                          rintro r wb ⟨rfl, hrb, hub⟩
                          go_wp2_with fail
                          go_ret
                          exact ⟨rfl, (HX.out.upd hua hg8).upd hub hg8⟩

set_option maxRecDepth 100000 in
set_option maxHeartbeats 4000000 in
theorem wback_zero (A B : Option Addr) (tn tc ln lc : Nat) (xs : List Int) (ts : List ByteArray) (cut : Int) (w : World) (hK : Known w A B tn ln lc xs ts) (h0 : ¬ 0 < ln) :
    Calls Try.prog 5 #[.slice A tn tc, .slice B ln lc, .int .i64 cut] w fun e w' => e = .returned (.bool true) ∧ Ext w w' := by
  have h1 := hK.t50
  have h2 := hK.l100
  have HK := Lib.hid hK; clear hK
  have HN := Lib.hid HK.out.nums
  have HL := Lib.hid (show xs.length ≤ 1000000 by have := HK.out.xl; omega)
  go_enter Try.func5, Try.ntmps5
  go_wp2_with fail
  refine (wfixed_yes _).mono ?_
  rintro e w1 ⟨rfl, hx1⟩
  go_wp2_with fail
  refine (nums_eq _ xs _ _ (HK.out.hB.ext hx1) HL.out HN.out).mono ?_
  rintro e w2 ⟨rfl, hx2⟩
  have HX := Lib.hid (hx1.trans hx2)
  clear hx1 hx2
  go_wp2_with fail
  go_loopw [7, 8] (fun s i wr => ∃ k : Nat, k ≤ tn ∧ i = .int .i64 k ∧ s = .string (Wi.full xs (ts.take k)) ∧ (∀ t ∈ ts.take k, t.size ≤ 1000) ∧ Ext w wr) (fun _ i _ => tn - (intOf i).toNat)
  case atStart => exact ⟨0, by omega, rfl, by rw [List.take_zero, Wi.full_nil], by simp, HX.out⟩
  case round =>
    obtain ⟨k, hk, rfl, rfl, hall, hx⟩ := hrel
    clear HX
    have HX := Lib.hid hx; clear hx
    have HT := Lib.hid hall; clear hall
    have hsz := HK.out.size k HT.out
    by_cases hlt : k < tn
    · obtain ⟨b, o, t, rfl, htk, hcell⟩ := HK.out.text hlt
      have hc0 : wr.cell? ⟨b, o + k, none⟩ = some (.string t) := hcell _ HX.out
      have HC := Lib.hid hcell
      have HTK := Lib.hid htk
      clear hcell htk
      by_cases hbig : 1000 < t.size
      · go_wp2_with fail
        go_ret
        exact ⟨rfl, HX.out⟩
      · have hts : t.size ≤ 1000 := by omega
        have hpz : (Va.puts t.size).size ≤ 9 := by rw [Va.puts_size]; exact Va.put_len_most (by unfold Va.most; omega)
        have HE : Hid (ts.take (k + 1) = ts.take k ++ [t]) := Lib.hid (by rw [List.take_add_one, HTK.out]; rfl)
        go_wp2_with fail
        refine (text_w t _ (by omega)).mono ?_
        rintro e w4 ⟨rfl, hx4⟩
        go_wp2
        go_roundw
        case rel =>
          refine ⟨k + 1, by omega, by go_num, by rw [HE.out, ← Wi.full_snoc], ?_, HX.out.trans hx4⟩
          rw [HE.out]
          intro y hy
          rcases List.mem_append.1 hy with hy | hy
          · exact HT.out y hy
          · rw [List.mem_singleton.1 hy]; exact hts
        case measure => simp [intOf]; omega
    · have hS : ts.take k = ts := List.take_of_length_le (by have := HK.out.tl; omega)
      rw [hS] at HT hsz ⊢
      have hge : tn ≤ k := by omega
      clear hS hk hlt
      have HS : Hid ((Wi.full xs ts).size ≤ maxLen) := Lib.hid (by unfold maxLen; omega)
      go_wp2_with fail
      refine (new_any _ _).mono ?_
      rintro e w5 ⟨rfl, hr5, hx5⟩
      have hg : w.heap.size ≤ wr.heap.size := HX.out.size
      have HX5 := Lib.hid (HX.out.trans hx5)
      clear HX hx5
      generalize wr.heap.size = g at *
      have HR := Lib.hid hr5
      clear hr5
      go_wp2_with fail
      go_loopw [10] (fun i wq => ∃ j : Nat, j ≤ ln ∧ i = .int .i64 j ∧ RD wq g (Wi.full xs ts) (Wi.offN xs j : Nat) 0 ∧ Ext w wq) (fun i _ => ln - (intOf i).toNat)
      case atStart => exact ⟨0, by omega, rfl, HR.out, HX5.out⟩
      case round =>
        obtain ⟨j, hj, rfl, hr, hx⟩ := hrel
        clear HR HX5
        have HR := Lib.hid hr; clear hr
        have HX := Lib.hid hx; clear hx
        by_cases hlt : j < ln
        · omega
        · have hjl : j = ln := by omega
          have HR2 : Hid (RD wr g (Wi.full xs ts) (Wi.offT xs ts 0 : Nat) 0) := Lib.hid (by rw [← Wi.off_mid, HK.out.xl, ← hjl]; exact HR.out)
          have hge2 : ln ≤ j := by omega
          clear hjl
          clear HR
          go_wp2_with fail
          go_loopw [11] (fun i wq => ∃ j : Nat, j ≤ tn ∧ i = .int .i64 j ∧ RD wq g (Wi.full xs ts) (Wi.offT xs ts j : Nat) 0 ∧ Ext w wq) (fun i _ => tn - (intOf i).toNat)
          case atStart => exact ⟨0, by omega, rfl, HR2.out, HX.out⟩
          case round =>
            obtain ⟨m, hm, rfl, hr, hx⟩ := hrel
            clear HR2 HX
            have HR := Lib.hid hr; clear hr
            have HX := Lib.hid hx; clear hx
            by_cases hlt : m < tn
            · obtain ⟨b, o, t, rfl, htk, hcell⟩ := HK.out.text hlt
              have hjx : m < ts.length := by have := HK.out.tl; omega
              have hxe : ts[m] = t := by rw [List.getElem?_eq_getElem hjx] at htk; injection htk
              have HQ : Hid (Wi.text (Wi.full xs ts) (Wi.offT xs ts m : Nat) 0 = (t, ((Wi.offT xs ts (m + 1) : Nat) : Int), 0)) := Lib.hid (by
                have := Wi.text_has (Wi.full xs ts) (Wi.offT xs ts m) ts[m] _ (Wi.offT_le xs ts m) (HT.out _ (List.getElem_mem hjx)) (Wi.atT xs ts m hjx)
                rw [Wi.offT_succ xs ts m hjx, ← hxe]; exact this)
              clear htk hxe hjx
              have hxd : Ext w wr.drew := HX.out.drew
              go_wp2_with fail
              go_region_with (go_at_call 15; refine (text_eq t HR.out.drew HS.out HQ.out).mono ?_; rintro e w6 ⟨rfl, hr6, hu6⟩; have hx6 := (HX.out.drew).upd hu6 hg)
              all_goals
                go_wp2
                refine ⟨⟨m + 1, by omega, by go_num, hr6, hx6⟩, ?_⟩
                simp [intOf]; omega
            · have HD : Hid ((((Wi.offT xs ts m : Nat) : Int) == ((Wi.full xs ts).size : Int)) = true) := Lib.hid (by
                rw [show m = ts.length by have := HK.out.tl; omega, Wi.off_end]; exact beq_self_eq_true _)
              have hge3 : tn ≤ m := by omega
              clear hm hlt
              go_wp2_with fail
              refine (done_eq true HR.out HD.out).mono ?_
              rintro e w7 ⟨rfl, hr7, hu7⟩
              have HX7 := Lib.hid (HX.out.upd hu7 hg)
              clear hr7 hu7 HX HR HD
              by_cases hc : cut < 0 ∨ ((Wi.full xs ts).size : Int) ≤ cut
              · rcases hc with hc | hc
                all_goals
                  go_wp2_with fail
                  go_ret
                  exact ⟨rfl, HX7.out⟩
              · obtain ⟨c, rfl⟩ := Int.eq_ofNat_of_zero_le (show 0 ≤ cut by omega)
                have hc1 : c < (Wi.full xs ts).size := by omega
                clear hc
                go_wp2_with fail
                refine (new_any _ _).mono ?_
                rintro e w8 ⟨rfl, hr8, hx8⟩
                have hg8 : w.heap.size ≤ w7.heap.size := HX7.out.size
                have HX8 := Lib.hid (HX7.out.trans hx8)
                clear HX7 hx8
                generalize w7.heap.size = g8 at *
                have HR8 := Lib.hid hr8
                clear hr8
                have HC := Lib.hid (Nat.le_of_lt hc1)
                have HS8 : Hid (((Wi.full xs ts).extract 0 c).size ≤ maxLen) := Lib.hid (by simp [maxLen]; omega)
                go_wp2_with fail
                go_loopw [13] (fun i wq => ∃ (j : Nat) (a e : Int), j ≤ ln ∧ i = .int .i64 j ∧ RD wq g8 ((Wi.full xs ts).extract 0 c) a e ∧ Wi.Inv c (Wi.offN xs j) a e ∧ Ext w wq) (fun i _ => ln - (intOf i).toNat)
                case atStart => exact ⟨0, 0, 0, by omega, rfl, HR8.out, .inl ⟨rfl, by simp [Wi.offN, Wi.cat], by simp [Wi.offN, Wi.cat]⟩, HX8.out⟩
                case round =>
                  obtain ⟨j, a, e, hj, rfl, hr, hi, hx⟩ := hrel
                  clear HR8 HX8
                  have HR := Lib.hid hr; clear hr
                  have HX := Lib.hid hx; clear hx
                  have HI := Lib.hid hi; clear hi
                  by_cases hlt : j < ln
                  · have HI2 := Lib.hid (Wi.inv_num HC.out (k := j) (by have := HK.out.xl; omega) HK.out.ok HI.out)
                    go_wp2_with fail
                    refine (num_any g8 _ a e _ HR.out HS8.out).mono ?_
                    rintro r w9 ⟨rfl, hr9, hu9⟩
                    go_wp2
                    go_roundw
                    case rel => exact ⟨j + 1, _, _, by omega, by go_num, hr9, HI2.out, HX.out.upd hu9 hg8⟩
                    case measure => simp [intOf]; omega
                  · have HI2 : Hid (Wi.Inv c (Wi.offT xs ts 0) a e) := Lib.hid (by rw [← Wi.off_mid, HK.out.xl, ← show j = ln by omega]; exact HI.out)
                    clear HI
                    have hge4 : ln ≤ j := by omega
                    go_wp2_with fail
                    go_loopw [14] (fun i wq => ∃ (j : Nat) (a e : Int), j ≤ tn ∧ i = .int .i64 j ∧ RD wq g8 ((Wi.full xs ts).extract 0 c) a e ∧ Wi.Inv c (Wi.offT xs ts j) a e ∧ Ext w wq) (fun i _ => tn - (intOf i).toNat)
                    case atStart => exact ⟨0, a, e, by omega, rfl, HR.out, HI2.out, HX.out⟩
                    case round =>
                      obtain ⟨q, a2, e2, hq, rfl, hr, hi, hx⟩ := hrel
                      clear HR HX HI2
                      have HR := Lib.hid hr; clear hr
                      have HX := Lib.hid hx; clear hx
                      have HI := Lib.hid hi; clear hi
                      by_cases hlt : q < tn
                      · have HI2 := Lib.hid (Wi.inv_text HC.out (k := q) (by have := HK.out.tl; omega) HT.out HI.out)
                        go_wp2_with fail
                        refine (text_any g8 _ a2 e2 _ HR.out HS8.out).mono ?_
                        rintro r w9 ⟨rfl, hr9, hu9⟩
                        go_wp2
                        go_roundw
                        case rel => exact ⟨q + 1, _, _, by omega, by go_num, hr9, HI2.out, HX.out.upd hu9 hg8⟩
                        case measure => simp [intOf]; omega
                      · have hoff : Wi.offT xs ts q = (Wi.full xs ts).size := by rw [show q = ts.length by have := HK.out.tl; omega, Wi.off_end]
                        have hge5 : tn ≤ q := by omega
                        rcases HI.out with ⟨_, _, h3⟩ | ⟨rfl, ha0, ha1⟩
                        · omega
                        · clear hoff
                          go_wp2_with fail
                          refine (err_ne HR.out (by omega)).mono ?_
                          rintro r wa ⟨rfl, hra, hua⟩
                          go_wp2_with fail
                          refine (done_ne hra (by omega)).mono ?_
                          rintro r wb ⟨rfl, hrb, hub⟩
                          go_wp2_with fail
                          go_ret
                          exact ⟨rfl, (HX.out.upd hua hg8).upd hub hg8⟩

theorem walk_WireBack (A : Option Addr) (tn tc : Nat) (ts : List ByteArray) (B : Option Addr) (ln lc : Nat) (zs : List Int) (cut : Int) (w : World) (h1 : tn ≤ maxLen)
    (hA : ts.length = tn ∧ (0 < tn → ∃ b o, A = some ⟨b, o, none⟩ ∧ b < w.heap.size ∧ ∀ j t, ts[j]? = some t → w.cell? ⟨b, o + j, none⟩ = some (.string t)))
    (h : IsRow .i64 w B ln lc zs) (_ : (Lit.int .i64 cut).wf = true) :
    Calls Try.prog 5 #[.slice A tn tc, .slice B ln lc, .int .i64 cut] w fun e w' => e = .returned (.bool true) ∧ Ext w w' := by
  obtain ⟨htl, hcells⟩ := hA
  have hr := ints_of_row h
  have h2 : ln ≤ maxLen := by
    rcases h with ⟨_, rfl, _⟩ | ⟨_, _, hl, hm, _⟩
    · simp [maxLen]
    · omega
  by_cases hh : 50 < tn ∨ 100 < ln
  · exact wback_out A B tn tc ln lc cut w h1 h2 hh
  · by_cases hok : ∀ x ∈ zs.take ln, Wi.ok x
    · have hK : Known w A B tn ln lc (zs.take ln) ts := ⟨htl, hr.2.1, by omega, by omega, hok, fun h0 => hcells (by omega), hr.1⟩
      by_cases h0 : 0 < ln
      · exact wback_pos A B tn tc ln lc _ ts cut w hK h0 (Wi.cats_ne (by rw [hr.2.1]; exact h0))
      · exact wback_zero A B tn tc ln lc _ ts cut w hK h0
    · have hex : ∃ x ∈ zs.take ln, ¬ Wi.ok x := by simpa using hok
      have h0 : 0 < ln := by
        obtain ⟨x, hx, _⟩ := hex
        have := List.length_pos_of_mem hx
        rw [hr.2.1] at this
        exact this
      exact wback_bad A B tn tc ln lc _ cut w (by omega) (by omega) h0 hr.1 hr.2.1 (by unfold Wi.nums; rw [Wi.numsL_no _ hex])

end Go.Proofs.Ytfmbpajomedfnaa

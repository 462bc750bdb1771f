/-
  Several texts in one: Uh, Ui, Ul.
-/
import Derived.Test.YtogcfndhcphpaaaA23
import Derived.Test.YtogcfndhcphpaaaA22
import Derived.Test.YtogcfndhcphpaaaA01
/-
  slices.DeleteFunc with the closures of Wake.
-/
set_option linter.unusedVariables false
set_option linter.unusedSimpArgs false
namespace Go.Proofs.Ytogcfndhcphpaaa
open Go.RowKit

theorem filter_none {α : Type} {p : α → Bool} {l : List α} (h : ∀ (j : Nat) x, l[j]? = some x → p x = true) : l.filter p = l :=
  List.filter_eq_self.2 fun x hx => by obtain ⟨j, hj⟩ := List.mem_iff_getElem?.1 hx; exact h j x hj
theorem filter_first {α : Type} {p : α → Bool} {l : List α} {k : Nat} {x : α} (hx : l[k]? = some x) (hp : p x = false) (h : ∀ (j : Nat) y, l[j]? = some y → j < k → p y = true) : l.take k = (l.take (k + 1)).filter p := by
  rw [List.take_add_one, hx, List.filter_append, filter_none (l := l.take k)]
  · simp [hp]
  · intro j y hj
    rw [List.getElem?_take] at hj
    split at hj
    · exact h j y hj (by assumption)
    · cases hj
theorem own_block {α : Type} {e : TypeId} {m : Nat} {f : α → List Value} {w : World} {B : Nat} {A : Option Addr} {n c : Nat} {xs : List α} (h : OwnRows e m f w B (.slice A n c) xs) (h0 : 0 < xs.length) : ∃ b, A = some ⟨b, 0, none⟩ ∧ B ≤ b ∧ b < w.heap.size ∧ n = xs.length ∧ xs.length ≤ c := by
  rcases h.2 with ⟨_, h1⟩ | ⟨g, cap, cur, hv, hb, hg, hnc, _⟩
  · omega
  · simp only [Value.slice.injEq] at hv
    obtain ⟨rfl, rfl, rfl⟩ := hv
    exact ⟨g, rfl, hb, blk_lt hg, rfl, hnc⟩
set_option maxRecDepth 100000 in
set_option maxHeartbeats 4000000 in
theorem delf1_any (A : Option Addr) (c : Nat) (l : List Int) (g : Int) (G B : Nat) (w : World) (ho : OwnRows 3 1 numL w B (.slice A l.length c) l) (hl : l.length ≤ 1000000) (hG : w.cell? ⟨G, 0, none⟩ = some (.int .i64 g)) (hGB : G < B) (hB : B ≤ w.heap.size) :
    Calls Try.prog 51 #[.slice A l.length c, .func (.func 52) #[] #[.pointer (some ⟨G, 0, none⟩)]] w fun e w' => e = .returned (.slice A (l.filter (fun x => x != g)).length c) ∧ OwnRows 3 1 numL w' B (.slice A (l.filter (fun x => x != g)).length c) (l.filter (fun x => x != g)) ∧ But (fun b => (Value.slice A l.length c).ownBlock = some b) w w' := by
  have HO := Lib.hid ho
  have HG := Lib.hid hG
  have HGB := Lib.hid hGB
  have HBB := Lib.hid hB
  have HIX := Lib.hid (idxf1_any A c l g G w (ints_rows.2 ho).at.2 (by omega) hG (by omega))
  clear ho hG hGB hB
  go_enter Try.func51, Try.ntmps51
  go_wp2_with fail
  refine HIX.out.mono ?_
  rintro e w1 ⟨i0, rfl, hcase, hx1⟩
  clear HIX
  have HX1 := Lib.hid hx1
  clear hx1
  rcases hcase with ⟨rfl, hno⟩ | ⟨k, rfl, ⟨x, hxk, hxg⟩, hbef⟩
  · have HF : Hid (l.filter (fun x => x != g) = l) := Lib.hid (filter_none fun j x hj => by simpa using hno j x hj)
    clear hno
    go_wp2
    go_ret
    rw [HF.out]
    exact ⟨rfl, HO.out.ext HX1.out, But.ext HX1.out⟩
  · have hkl := (List.getElem?_eq_some_iff.1 hxk).1
    obtain ⟨b, rfl, hbB, hbw, _, hlc⟩ := own_block HO.out (by omega)
    have HBL : Hid (B ≤ b ∧ b < w.heap.size ∧ l.length ≤ c) := Lib.hid ⟨hbB, hbw, hlc⟩
    have HST : Hid (l.take k = (l.take (k + 1)).filter (fun x => x != g)) := Lib.hid (filter_first hxk (by simp [hxg]) fun j y hj hjk => by simpa using hbef j y hj hjk)
    have hb1 : (k : Int) < 1000000 := by omega
    have hneg : ((k : Int) == -1) = false := by rw [beq_eq_false_iff_ne]; omega
    clear hxk hxg hbef hbB hbw hlc
    go_wp2_with fail
    clear hneg
    go_loopw [5, 6] (fun iv jv wr => ∃ (i j : Nat) (ys : List Int), iv = .int .i64 i ∧ jv = .int .i64 j ∧ i < j ∧ j ≤ l.length ∧ OwnRows 3 1 numL wr B (.slice (some ⟨b, 0, none⟩) l.length c) ys ∧ ys.take i = (l.take j).filter (fun x => x != g) ∧ ys.drop j = l.drop j ∧ ys.length = l.length ∧ But (fun x => x = b) w wr) (fun _ jv _ => l.length - (intOf jv).toNat)
    case atStart => exact ⟨k, k + 1, l, rfl, by go_num, by omega, by omega, HO.out.ext HX1.out, HST.out, rfl, rfl, But.ext HX1.out⟩
    case round =>
      obtain ⟨i, j, ys, rfl, rfl, hij, hj, hown, htk, hdr, hyl, hbt⟩ := hrel
      have HOW := Lib.hid hown
      have HTK := Lib.hid htk
      have HDR := Lib.hid hdr
      have HYL := Lib.hid hyl
      have HBT := Lib.hid hbt
      clear hown htk hdr hyl hbt
      by_cases hlt : j < l.length
      · obtain ⟨x, hx⟩ : ∃ x, l[j]? = some x := ⟨_, List.getElem?_eq_getElem hlt⟩
        have hyx : ys[j]? = some x := by
          have h1 : (ys.drop j)[0]? = (l.drop j)[0]? := by rw [HDR.out]
          rw [List.getElem?_drop, List.getElem?_drop, Nat.add_zero] at h1
          rw [h1]; exact hx
        have hyl := HYL.out
        obtain ⟨b', o', hbo, _, hgt⟩ := (OwnRows.rows numL_len HOW.out).get hyx
        simp only [Option.some.injEq, Addr.mk.injEq, and_true] at hbo
        obtain ⟨rfl, rfl⟩ := hbo
        have hGw : wr.cell? ⟨G, 0, none⟩ = some (.int .i64 g) := by rw [HBT.out.cell (by have := HGB.out; have := HBB.out; omega) (by have := HGB.out; have := HBL.out; omega)]; exact HG.out
        have hc : wr.cell? ⟨b, j, none⟩ = some (.int .i64 x) := by have := hgt 0 _ rfl; rwa [Nat.mul_one, Nat.zero_add, Nat.add_zero] at this
        have HCL := Lib.hid (wclo1_any x g G _ rfl wr hGw)
        have HX := Lib.hid hx
        have HYX := Lib.hid hyx
        clear hx hyx hgt hGw hyl
        go_wp2_with fail
        refine HCL.out.mono ?_
        rintro e wa ⟨rfl, hxa⟩
        have HXA := Lib.hid hxa
        clear hxa hc HCL
        by_cases h1 : x = g
        · have h1' : (x == g) = true := by simpa using h1
          have HS := Lib.hid (del_skip (p := (fun x => x != g)) HTK.out HDR.out HX.out (by simp [h1]))
          clear h1
          go_wp2
          go_roundw
          case rel => exact ⟨i, j + 1, ys, rfl, by go_num, by omega, by omega, HOW.out.ext HXA.out, HS.out.1, HS.out.2, HYL.out, HBT.out.trans (But.ext HXA.out)⟩
          case measure => simp [intOf]; omega
        · have h1' : (x == g) = false := by simpa using h1
          have hS := del_keep (p := (fun x => x != g)) HTK.out HDR.out hij HYL.out HX.out (by simpa using h1)
          have hyl := HYL.out
          obtain ⟨g', c', e1, _, _, _, hth, hown', hu⟩ := OwnRows.setCells (m := 1) numL_len (HOW.out.ext HXA.out) (i := i) (x' := x) (List.getElem?_eq_getElem (by omega)) (j := 0) (ds := [.int .i64 x]) (Nat.le_refl 1) (fun t ht => by match t, ht with | 0, _ => rfl)
          simp only [Value.slice.injEq, Option.some.injEq, Addr.mk.injEq, and_true] at e1
          have e2 := e1.1
          clear e1
          subst e2
          have r0 := (hth 0 (Nat.lt_succ_self 0)).1
          have r1 := (hth 0 (Nat.lt_succ_self 0)).2
          simp only [Nat.mul_one, Nat.add_zero] at r0 r1
          obtain ⟨ov, r0⟩ := Option.isSome_iff_exists.1 r0
          obtain ⟨wn, hwn⟩ : ∃ wn, wa.setCell ⟨b, i, none⟩ (.int .i64 x) = wn := ⟨_, rfl⟩
          have ewn : wa.setCells b (i * 1 + 0) [.int .i64 x] = wn := by rw [← hwn, Nat.mul_one, Nat.add_zero]; rfl
          rw [ewn] at hown' hu
          have HS := Lib.hid hS
          have HON := Lib.hid hown'
          have HUN := Lib.hid hu
          have HWN := Lib.hid hwn
          have hb2 : (i : Int) < (l.length : Int) := by omega
          have hb3 : (i : Int) < 1000000 := by omega
          have hb4 : (j : Int) < 1000000 := by omega
          clear h1 hS hth hown' hu hwn ewn hyl
          go_wp2_with (rw [HWN.out])
          go_roundw
          case rel => exact ⟨i + 1, j + 1, ys.set i x, by go_num, by go_num, by omega, by omega, HON.out, HS.out.1, HS.out.2.1, HS.out.2.2, (HBT.out.trans (But.ext HXA.out)).trans (But.upd HUN.out rfl)⟩
          case measure => simp [intOf]; omega
      · obtain rfl : j = l.length := by omega
        have hyl := HYL.out
        have hlc := HBL.out.2.2
        have htk := HTK.out
        rw [List.take_length] at htk
        have hfl : (l.filter (fun x => x != g)).length = i := by rw [← htk, List.length_take]; omega
        have S1 : ∀ v, _ := cut1_from b l.length c i hij hlc
        have S2 : ∀ v, _ := cut1_to (some ⟨b, 0, none⟩) l.length c i (Nat.le_of_lt hij) hlc
        obtain ⟨zs, hzl, hclr⟩ := run_clear_rows (P := Try.prog) wr 27 3 (.int .i64 0) 1 Try.underlying27 (fun _ => by kernel_rfl) (by kernel_rfl) (by simp [Value.cells, Value.oneCell']) b (i * 1) (l.length - i) (c - i) (by omega) (there_own HOW.out (by rw [hyl, Nat.sub_mul]; have : i * 1 ≤ l.length * 1 := Nat.mul_le_mul_right _ (Nat.le_of_lt hij); omega))
        have hct := OwnRows.cutTo numL_len HOW.out (i := i) (by omega) (zs := zs) (by rw [hzl, hyl])
        rw [htk] at hct
        have HCT := Lib.hid hct
        have HFL := Lib.hid hfl
        clear hyl htk hfl hct hzl
        simp only [Nat.mul_one] at hclr HCT
        go_wp2
        go_ret
        rw [HFL.out]
        exact ⟨rfl, HCT.out.1, (HBT.out.trans (But.upd HCT.out.2 rfl)).wide fun y _ e => by subst e; rfl⟩
set_option maxRecDepth 100000 in
set_option maxHeartbeats 4000000 in
theorem delf2_any (A : Option Addr) (c : Nat) (l : List (Int × Int)) (g : Int) (G B : Nat) (w : World) (ho : OwnRows 76 2 pairL w B (.slice A l.length c) l) (hl : l.length ≤ 1000000) (hG : w.cell? ⟨G, 0, none⟩ = some (.int .i64 g)) (hGB : G < B) (hB : B ≤ w.heap.size) :
    Calls Try.prog 53 #[.slice A l.length c, .func (.func 54) #[] #[.pointer (some ⟨G, 0, none⟩)]] w fun e w' => e = .returned (.slice A (l.filter (fun x => x.2 != g)).length c) ∧ OwnRows 76 2 pairL w' B (.slice A (l.filter (fun x => x.2 != g)).length c) (l.filter (fun x => x.2 != g)) ∧ But (fun b => (Value.slice A l.length c).ownBlock = some b) w w' := by
  have HO := Lib.hid ho
  have HG := Lib.hid hG
  have HGB := Lib.hid hGB
  have HBB := Lib.hid hB
  have HIX := Lib.hid (idxf2_any A c l g G w (OwnRows.rows pairL_len ho) (by omega) hG (by omega))
  clear ho hG hGB hB
  go_enter Try.func53, Try.ntmps53
  go_wp2_with fail
  refine HIX.out.mono ?_
  rintro e w1 ⟨i0, rfl, hcase, hx1⟩
  clear HIX
  have HX1 := Lib.hid hx1
  clear hx1
  rcases hcase with ⟨rfl, hno⟩ | ⟨k, rfl, ⟨x, hxk, hxg⟩, hbef⟩
  · have HF : Hid (l.filter (fun x => x.2 != g) = l) := Lib.hid (filter_none fun j x hj => by simpa using hno j x hj)
    clear hno
    go_wp2
    go_ret
    rw [HF.out]
    exact ⟨rfl, HO.out.ext HX1.out, But.ext HX1.out⟩
  · have hkl := (List.getElem?_eq_some_iff.1 hxk).1
    obtain ⟨b, rfl, hbB, hbw, _, hlc⟩ := own_block HO.out (by omega)
    have HBL : Hid (B ≤ b ∧ b < w.heap.size ∧ l.length ≤ c) := Lib.hid ⟨hbB, hbw, hlc⟩
    have HST : Hid (l.take k = (l.take (k + 1)).filter (fun x => x.2 != g)) := Lib.hid (filter_first hxk (by simp [hxg]) fun j y hj hjk => by simpa using hbef j y hj hjk)
    have hb1 : (k : Int) < 1000000 := by omega
    have hneg : ((k : Int) == -1) = false := by rw [beq_eq_false_iff_ne]; omega
    clear hxk hxg hbef hbB hbw hlc
    go_wp2_with fail
    clear hneg
    go_loopw [5, 6] (fun iv jv wr => ∃ (i j : Nat) (ys : List (Int × Int)), iv = .int .i64 i ∧ jv = .int .i64 j ∧ i < j ∧ j ≤ l.length ∧ OwnRows 76 2 pairL wr B (.slice (some ⟨b, 0, none⟩) l.length c) ys ∧ ys.take i = (l.take j).filter (fun x => x.2 != g) ∧ ys.drop j = l.drop j ∧ ys.length = l.length ∧ But (fun x => x = b) w wr) (fun _ jv _ => l.length - (intOf jv).toNat)
    case atStart => exact ⟨k, k + 1, l, rfl, by go_num, by omega, by omega, HO.out.ext HX1.out, HST.out, rfl, rfl, But.ext HX1.out⟩
    case round =>
      obtain ⟨i, j, ys, rfl, rfl, hij, hj, hown, htk, hdr, hyl, hbt⟩ := hrel
      have HOW := Lib.hid hown
      have HTK := Lib.hid htk
      have HDR := Lib.hid hdr
      have HYL := Lib.hid hyl
      have HBT := Lib.hid hbt
      clear hown htk hdr hyl hbt
      by_cases hlt : j < l.length
      · obtain ⟨x, hx⟩ : ∃ x, l[j]? = some x := ⟨_, List.getElem?_eq_getElem hlt⟩
        have hyx : ys[j]? = some x := by
          have h1 : (ys.drop j)[0]? = (l.drop j)[0]? := by rw [HDR.out]
          rw [List.getElem?_drop, List.getElem?_drop, Nat.add_zero] at h1
          rw [h1]; exact hx
        have hyl := HYL.out
        obtain ⟨b', o', hbo, _, hgt⟩ := (OwnRows.rows pairL_len HOW.out).get hyx
        simp only [Option.some.injEq, Addr.mk.injEq, and_true] at hbo
        obtain ⟨rfl, rfl⟩ := hbo
        have hGw : wr.cell? ⟨G, 0, none⟩ = some (.int .i64 g) := by rw [HBT.out.cell (by have := HGB.out; have := HBB.out; omega) (by have := HGB.out; have := HBL.out; omega)]; exact HG.out
        have hc : wr.cell? ⟨b, j * 2, none⟩ = some (.int .i64 x.1) := by have := hgt 0 _ rfl; rwa [Nat.zero_add, Nat.add_zero] at this
        have hc2 : wr.cell? ⟨b, j * 2 + 1, none⟩ = some (.int .i64 x.2) := by have := hgt 1 _ rfl; rwa [Nat.zero_add] at this
        obtain ⟨b7, hb7⟩ : ∃ b7, wr.heap.size = b7 := ⟨_, rfl⟩
        obtain ⟨wb, hwb⟩ : ∃ wb, wr.alloc (.cells #[.int .i64 x.1, .int .i64 x.2] 76) = wb := ⟨_, rfl⟩
        have hxb : Ext wr wb := by rw [← hwb]; exact (Ext.refl wr).alloc _
        have hbb : wb.heap[b7]? = some (.cells #[.int .i64 x.1, .int .i64 x.2] 76 (0, 0)) := by rw [← hwb, ← hb7]; exact blk_new wr _
        have hG7 : G < wr.heap.size := by have := HGB.out; have := HBB.out; have := HBT.out.size; omega
        have HCL := Lib.hid (wclo2_any x g G _ rfl wb (by rw [Below.cell (p := ⟨G, 0, none⟩) hxb hG7]; exact hGw) (by have := hxb.size; omega))
        have q0 := blk_cell hbb 0 _ rfl
        have q1 := blk_cell hbb 1 _ rfl
        have HX := Lib.hid hx
        have HYX := Lib.hid hyx
        have HXB := Lib.hid hxb
        have HBX := Lib.hid hbb
        have HWB := Lib.hid hwb
        have HB7 := Lib.hid hb7
        clear hx hyx hgt hGw hyl hb7 hwb hxb hbb hG7
        go_wp2_with (first | rw [HWB.out, HB7.out] | rw [HWB.out])
        refine HCL.out.mono ?_
        rintro e wa ⟨rfl, hxa⟩
        have HXA := Lib.hid (HXB.out.trans hxa)
        have hba := hxa.blk HBX.out
        have q2 := blk_cell hba 0 _ rfl
        have q3 := blk_cell hba 1 _ rfl
        clear hxa hc hc2 HCL q0 q1 hba
        by_cases h1 : x.2 = g
        · have h1' : (x.2 == g) = true := by simpa using h1
          have HS := Lib.hid (del_skip (p := (fun x => x.2 != g)) HTK.out HDR.out HX.out (by simp [h1]))
          clear h1
          go_wp2
          go_roundw
          case rel => exact ⟨i, j + 1, ys, rfl, by go_num, by omega, by omega, HOW.out.ext HXA.out, HS.out.1, HS.out.2, HYL.out, HBT.out.trans (But.ext HXA.out)⟩
          case measure => simp [intOf]; omega
        · have h1' : (x.2 == g) = false := by simpa using h1
          have hS := del_keep (p := (fun x => x.2 != g)) HTK.out HDR.out hij HYL.out HX.out (by simpa using h1)
          have hyl := HYL.out
          obtain ⟨g', c', e1, _, _, _, hth, hown', hu⟩ := OwnRows.setCells (m := 2) pairL_len (HOW.out.ext HXA.out) (i := i) (x' := x) (List.getElem?_eq_getElem (by omega)) (j := 0) (ds := [.int .i64 x.1, .int .i64 x.2]) (Nat.le_refl 2) (fun t ht => by
            match t, ht with
            | 0, _ => rfl
            | 1, _ => rfl)
          simp only [Value.slice.injEq, Option.some.injEq, Addr.mk.injEq, and_true] at e1
          have e2 := e1.1
          clear e1
          subst e2
          have r0 := (hth 0 (Nat.succ_pos 1)).1
          have r1 := (hth 0 (Nat.succ_pos 1)).2
          have r2 := (hth 1 (Nat.lt_succ_self 1)).1
          have r3 := (hth 1 (Nat.lt_succ_self 1)).2
          simp only [Nat.add_zero] at r0 r1 r2 r3
          obtain ⟨ov, r0⟩ := Option.isSome_iff_exists.1 r0
          obtain ⟨ov2, r2⟩ := Option.isSome_iff_exists.1 r2
          obtain ⟨wn, hwn⟩ : ∃ wn, (wa.setCell ⟨b, i * 2, none⟩ (.int .i64 x.1)).setCell ⟨b, i * 2 + 1, none⟩ (.int .i64 x.2) = wn := ⟨_, rfl⟩
          have ewn : wa.setCells b (i * 2 + 0) [.int .i64 x.1, .int .i64 x.2] = wn := by rw [← hwn, Nat.add_zero]; rfl
          rw [ewn] at hown' hu
          have HS := Lib.hid hS
          have HON := Lib.hid hown'
          have HUN := Lib.hid hu
          have HWN := Lib.hid hwn
          have hb2 : (i : Int) < (l.length : Int) := by omega
          have hb3 : (i : Int) < 1000000 := by omega
          have hb4 : (j : Int) < 1000000 := by omega
          clear h1 hS hth hown' hu hwn ewn hyl
          go_wp2_with (rw [HWN.out])
          go_roundw
          case rel => exact ⟨i + 1, j + 1, ys.set i x, by go_num, by go_num, by omega, by omega, HON.out, HS.out.1, HS.out.2.1, HS.out.2.2, (HBT.out.trans (But.ext HXA.out)).trans (But.upd HUN.out rfl)⟩
          case measure => simp [intOf]; omega
      · obtain rfl : j = l.length := by omega
        have hyl := HYL.out
        have hlc := HBL.out.2.2
        have htk := HTK.out
        rw [List.take_length] at htk
        have hfl : (l.filter (fun x => x.2 != g)).length = i := by rw [← htk, List.length_take]; omega
        have S1 : ∀ v, _ := cut2_from b l.length c i hij hlc
        have S2 : ∀ v, _ := cut2_to (some ⟨b, 0, none⟩) l.length c i (Nat.le_of_lt hij) hlc
        obtain ⟨zs, hzl, hclr⟩ := run_clear_rows (P := Try.prog) wr 30 76 (.agg #[.int .i64 0, .int .i64 0]) 2 Try.underlying30 (fun _ => by kernel_rfl) (by kernel_rfl) (by simp [Value.cells, Value.oneCell']) b (i * 2) (l.length - i) (c - i) (by omega) (there_own HOW.out (by rw [hyl, Nat.sub_mul]; have : i * 2 ≤ l.length * 2 := Nat.mul_le_mul_right _ (Nat.le_of_lt hij); omega))
        have hct := OwnRows.cutTo pairL_len HOW.out (i := i) (by omega) (zs := zs) (by rw [hzl, hyl])
        rw [htk] at hct
        have HCT := Lib.hid hct
        have HFL := Lib.hid hfl
        clear hyl htk hfl hct hzl
        go_wp2
        go_ret
        rw [HFL.out]
        exact ⟨rfl, HCT.out.1, (HBT.out.trans (But.upd HCT.out.2 rfl)).wide fun y _ e => by subst e; rfl⟩
end Go.Proofs.Ytogcfndhcphpaaa
/-
  A G that is woken: the program's Wake.
-/
set_option linter.unusedVariables false
set_option linter.unusedSimpArgs false
namespace Go.Proofs.Ytogcfndhcphpaaa
open Go.RowKit

theorem own_len (A : Option Addr) (n m c d : Nat) : (Value.slice A n c).ownBlock = (Value.slice A m d).ownBlock := by cases A <;> rfl
theorem Sit.wait0 {w v c : World} {W0 R B : Nat} {h : StH} {s : St} {I : Nat → Nat × Nat} {l : List Int} (k : Sit w W0 R B v h s) (a : StApart B v I h s) (ho : OwnInts c (I 5).1 (.slice h.a0 l.length h.k0) l) (hc : But (fun b => (Value.slice h.a0 s.w0.length h.k0).ownBlock = some b) v c) :
    c.cell? ⟨W0, 9, none⟩ = some (.slice h.a0 s.w0.length h.k0) ∧ c.frozen? ⟨W0, 9, none⟩ = false ∧ Sit w W0 R B (c.setCell ⟨W0, 9, none⟩ (.slice h.a0 l.length h.k0)) h { s with w0 := l } := by
  have kl := k.lo
  have hlow := a.low 5 (by omega)
  have hS : ∀ b, (Value.slice h.a0 s.w0.length h.k0).ownBlock = some b → B ≤ b := fun b hb => by have := (World.ownsRow.lt a.w0.1 b hb).1; omega
  have b1 := hc.blk k.box (fun e => by have := hS _ e; omega)
  have b2 := hc.blk k.res (fun e => by have := hS _ e; omega)
  have a' := a.withW0 hc (fun b _ _ hb => ⟨(World.ownsRow.lt a.w0.1 b hb).1, a.w0.2 b hb⟩) (.inl rfl) (A := h.a0) (cc := h.k0) (l := l) ⟨ho, fun b hb => a.w0.2 b ((own_len _ _ _ _ _).trans hb)⟩
  have hu := (Upd.refl W0 c).set 9 (.slice h.a0 l.length h.k0)
  have hcs := hc.size
  exact ⟨st9 b1, frozen_of_row _ _ 9 _ _ b1, blk_set b1 9 _, blk_set_other b2 _ (by simp only; omega) _, ⟨_, (StApart.putI_same a').far (But.upd (S := fun b => b = W0) hu rfl) (fun b hb => by omega)⟩, (But.after k.ext hc (fun b hb => by have := hS b hb; omega)).upd hu (by omega), by have := hu.size; omega⟩
theorem Sit.wait1 {w v c : World} {W0 R B : Nat} {h : StH} {s : St} {I : Nat → Nat × Nat} {l : List Int} (k : Sit w W0 R B v h s) (a : StApart B v I h s) (ho : OwnInts c (I 6).1 (.slice h.a1 l.length h.k1) l) (hc : But (fun b => (Value.slice h.a1 s.w1.length h.k1).ownBlock = some b) v c) :
    c.cell? ⟨W0, 10, none⟩ = some (.slice h.a1 s.w1.length h.k1) ∧ c.frozen? ⟨W0, 10, none⟩ = false ∧ Sit w W0 R B (c.setCell ⟨W0, 10, none⟩ (.slice h.a1 l.length h.k1)) h { s with w1 := l } := by
  have kl := k.lo
  have hlow := a.low 6 (by omega)
  have hS : ∀ b, (Value.slice h.a1 s.w1.length h.k1).ownBlock = some b → B ≤ b := fun b hb => by have := (World.ownsRow.lt a.w1.1 b hb).1; omega
  have b1 := hc.blk k.box (fun e => by have := hS _ e; omega)
  have b2 := hc.blk k.res (fun e => by have := hS _ e; omega)
  have a' := a.withW1 hc (fun b _ _ hb => ⟨(World.ownsRow.lt a.w1.1 b hb).1, a.w1.2 b hb⟩) (.inl rfl) (A := h.a1) (cc := h.k1) (l := l) ⟨ho, fun b hb => a.w1.2 b ((own_len _ _ _ _ _).trans hb)⟩
  have hu := (Upd.refl W0 c).set 10 (.slice h.a1 l.length h.k1)
  have hcs := hc.size
  exact ⟨st10 b1, frozen_of_row _ _ 10 _ _ b1, blk_set b1 10 _, blk_set_other b2 _ (by simp only; omega) _, ⟨_, (StApart.putI_same a').far (But.upd (S := fun b => b = W0) hu rfl) (fun b hb => by omega)⟩, (But.after k.ext hc (fun b hb => by have := hS b hb; omega)).upd hu (by omega), by have := hu.size; omega⟩
theorem Sit.wait2 {w v c : World} {W0 R B : Nat} {h : StH} {s : St} {I : Nat → Nat × Nat} {l : List Int} (k : Sit w W0 R B v h s) (a : StApart B v I h s) (ho : OwnInts c (I 7).1 (.slice h.a2 l.length h.k2) l) (hc : But (fun b => (Value.slice h.a2 s.w2.length h.k2).ownBlock = some b) v c) :
    c.cell? ⟨W0, 11, none⟩ = some (.slice h.a2 s.w2.length h.k2) ∧ c.frozen? ⟨W0, 11, none⟩ = false ∧ Sit w W0 R B (c.setCell ⟨W0, 11, none⟩ (.slice h.a2 l.length h.k2)) h { s with w2 := l } := by
  have kl := k.lo
  have hlow := a.low 7 (by omega)
  have hS : ∀ b, (Value.slice h.a2 s.w2.length h.k2).ownBlock = some b → B ≤ b := fun b hb => by have := (World.ownsRow.lt a.w2.1 b hb).1; omega
  have b1 := hc.blk k.box (fun e => by have := hS _ e; omega)
  have b2 := hc.blk k.res (fun e => by have := hS _ e; omega)
  have a' := a.withW2 hc (fun b _ _ hb => ⟨(World.ownsRow.lt a.w2.1 b hb).1, a.w2.2 b hb⟩) (.inl rfl) (A := h.a2) (cc := h.k2) (l := l) ⟨ho, fun b hb => a.w2.2 b ((own_len _ _ _ _ _).trans hb)⟩
  have hu := (Upd.refl W0 c).set 11 (.slice h.a2 l.length h.k2)
  have hcs := hc.size
  exact ⟨st11 b1, frozen_of_row _ _ 11 _ _ b1, blk_set b1 11 _, blk_set_other b2 _ (by simp only; omega) _, ⟨_, (StApart.putI_same a').far (But.upd (S := fun b => b = W0) hu rfl) (fun b hb => by omega)⟩, (But.after k.ext hc (fun b hb => by have := hS b hb; omega)).upd hu (by omega), by have := hu.size; omega⟩
theorem Sit.wait3 {w v c : World} {W0 R B : Nat} {h : StH} {s : St} {I : Nat → Nat × Nat} {l : List Int} (k : Sit w W0 R B v h s) (a : StApart B v I h s) (ho : OwnInts c (I 8).1 (.slice h.a3 l.length h.k3) l) (hc : But (fun b => (Value.slice h.a3 s.w3.length h.k3).ownBlock = some b) v c) :
    c.cell? ⟨W0, 12, none⟩ = some (.slice h.a3 s.w3.length h.k3) ∧ c.frozen? ⟨W0, 12, none⟩ = false ∧ Sit w W0 R B (c.setCell ⟨W0, 12, none⟩ (.slice h.a3 l.length h.k3)) h { s with w3 := l } := by
  have kl := k.lo
  have hlow := a.low 8 (by omega)
  have hS : ∀ b, (Value.slice h.a3 s.w3.length h.k3).ownBlock = some b → B ≤ b := fun b hb => by have := (World.ownsRow.lt a.w3.1 b hb).1; omega
  have b1 := hc.blk k.box (fun e => by have := hS _ e; omega)
  have b2 := hc.blk k.res (fun e => by have := hS _ e; omega)
  have a' := a.withW3 hc (fun b _ _ hb => ⟨(World.ownsRow.lt a.w3.1 b hb).1, a.w3.2 b hb⟩) (.inl rfl) (A := h.a3) (cc := h.k3) (l := l) ⟨ho, fun b hb => a.w3.2 b ((own_len _ _ _ _ _).trans hb)⟩
  have hu := (Upd.refl W0 c).set 12 (.slice h.a3 l.length h.k3)
  have hcs := hc.size
  exact ⟨st12 b1, frozen_of_row _ _ 12 _ _ b1, blk_set b1 12 _, blk_set_other b2 _ (by simp only; omega) _, ⟨_, (StApart.putI_same a').far (But.upd (S := fun b => b = W0) hu rfl) (fun b hb => by omega)⟩, (But.after k.ext hc (fun b hb => by have := hS b hb; omega)).upd hu (by omega), by have := hu.size; omega⟩
theorem Sit.times {w v c : World} {W0 R B : Nat} {h : StH} {s : St} {I : Nat → Nat × Nat} {l : List (Int × Int)} (k : Sit w W0 R B v h s) (a : StApart B v I h s) (ho : OwnRows 76 2 pairL c (I 9).1 (.slice h.ta l.length h.tc) l) (hc : But (fun b => (Value.slice h.ta s.timers.length h.tc).ownBlock = some b) v c) :
    c.cell? ⟨W0, 13, none⟩ = some (.slice h.ta s.timers.length h.tc) ∧ c.frozen? ⟨W0, 13, none⟩ = false ∧ Sit w W0 R B (c.setCell ⟨W0, 13, none⟩ (.slice h.ta l.length h.tc)) h { s with timers := l } := by
  have kl := k.lo
  have hlow := a.low 9 (by omega)
  have hS : ∀ b, (Value.slice h.ta s.timers.length h.tc).ownBlock = some b → B ≤ b := fun b hb => by have := (OwnRows.lt a.timers.1 b hb).1; omega
  have b1 := hc.blk k.box (fun e => by have := hS _ e; omega)
  have b2 := hc.blk k.res (fun e => by have := hS _ e; omega)
  have a' := a.withTimers hc (fun b _ _ hb => ⟨(OwnRows.lt a.timers.1 b hb).1, a.timers.2 b hb⟩) (.inl rfl) (A := h.ta) (cc := h.tc) (l := l) ⟨ho, fun b hb => a.timers.2 b ((own_len _ _ _ _ _).trans hb)⟩
  have hu := (Upd.refl W0 c).set 13 (.slice h.ta l.length h.tc)
  have hcs := hc.size
  exact ⟨st13 b1, frozen_of_row _ _ 13 _ _ b1, blk_set b1 13 _, blk_set_other b2 _ (by simp only; omega) _, ⟨_, (StApart.putI_same a').far (But.upd (S := fun b => b = W0) hu rfl) (fun b hb => by omega)⟩, (But.after k.ext hc (fun b hb => by have := hS b hb; omega)).upd hu (by omega), by have := hu.size; omega⟩
def St.outK (s : St) (g : Int) (k : Nat) : St := { s with w0 := if 0 < k then s.w0.filter (· != g) else s.w0, w1 := if 1 < k then s.w1.filter (· != g) else s.w1, w2 := if 2 < k then s.w2.filter (· != g) else s.w2, w3 := if 3 < k then s.w3.filter (· != g) else s.w3 }
theorem St.wake_no {s : St} {p g : Int} (h : ¬ (s.may = true ∧ (1 ≤ p ∧ p ≤ s.procs) ∧ (1 ≤ g ∧ g ≤ s.gs.length) ∧ (s.gAt g).st = 3)) : s.wake p g = (St.nil, 1) := if_neg h
theorem St.wake_yes {s : St} {i k : Nat} {x : Pr} {y : Gr} (hm : s.may = true) (hp : 1 ≤ (i : Int) + 1 ∧ (i : Int) + 1 ≤ s.procs) (hx : s.ps[i]? = some x) (hy : s.gs[k]? = some y) (h3 : y.st = 3) :
    s.wake ((i : Int) + 1) ((k : Int) + 1) = (({ s.out ((k : Int) + 1) with gs := s.gs.set k { y with st := 1, m := 0, seq := y.seq + 1 }, ps := s.ps.set i { x with next := (k : Int) + 1 } } : St).tail ((i : Int) + 1) x.next, 0) := by
  have hl := (List.getElem?_eq_some_iff.1 hy).1
  unfold St.wake
  rw [if_pos ⟨hm, hp, ⟨by omega, by omega⟩, by rw [gAt_of hy]; exact h3⟩]
  have e1 : (s.out ((k : Int) + 1)).turn ((k : Int) + 1) 1 0 = { s.out ((k : Int) + 1) with gs := s.gs.set k { y with st := 1, m := 0, seq := y.seq + 1 } } := by
    unfold St.turn
    rw [show (s.out ((k : Int) + 1)).gAt ((k : Int) + 1) = y from gAt_of hy, show ((k : Int) + 1 - 1).toNat = k by omega]
    rfl
  rw [e1]
  unfold St.next
  rw [show ({ s.out ((k : Int) + 1) with gs := s.gs.set k { y with st := 1, m := 0, seq := y.seq + 1 } } : St).pAt ((i : Int) + 1) = x from pAt_of hx, putP_of]
  rfl
theorem StFew.woken {s : St} (h : StFew s) {g : Int} {gs : List Gr} {ps : List Pr} (h1 : gs.length = s.gs.length) (h2 : ps.length = s.ps.length) : StFew { s.out g with gs := gs, ps := ps } := by
  have hw := h.w
  have f := fun (l : List Int) (hl : l.length ≤ 100000) => show (l.filter (· != g)).length ≤ 100000 from Nat.le_trans (List.length_filter_le _ _) hl
  exact ⟨h.prog, by show gs.length ≤ _; rw [h1]; exact h.gs, by show ps.length ≤ _; rw [h2]; exact h.ps, h.ms, h.glob, ⟨f _ hw.1, f _ hw.2.1, f _ hw.2.2.1, f _ hw.2.2.2⟩, Nat.le_trans (List.length_filter_le _ _) h.timers, fun p hp => h.tnum p (List.mem_filter.1 hp).1⟩
theorem Sit.round {w v : World} {W0 R B n : Nat} {h : StH} {s : St} {g : Int} (k : Sit w W0 R B v h (s.outK g n)) (hn : n < 4) :
    ∃ A cc l, s.wts[n]? = some l ∧ (∀ u, (Instr.index 29 (.agg #[.slice h.a0 s.w0.length h.k0, .slice h.a1 s.w1.length h.k1, .slice h.a2 s.w2.length h.k2, .slice h.a3 s.w3.length h.k3]) (.int .i64 (n : Int))).run Try.prog u = .ok (.slice A l.length cc) u) ∧ ∃ B5, B ≤ B5 ∧ B5 ≤ v.heap.size ∧ OwnInts v B5 (.slice A l.length cc) l ∧
      ∀ c, OwnInts c B5 (.slice A (l.filter (· != g)).length cc) (l.filter (· != g)) → But (fun b => (Value.slice A l.length cc).ownBlock = some b) v c →
        (∃ o, c.cell? ⟨W0, 9 + n, none⟩ = some o) ∧ c.frozen? ⟨W0, 9 + n, none⟩ = false ∧ Sit w W0 R B (c.setCell ⟨W0, 9 + n, none⟩ (.slice A (l.filter (· != g)).length cc)) h (s.outK g (n + 1)) := by
  obtain ⟨I, a⟩ := k.ap
  by_cases h0 : n = 0
  · subst h0
    have hl := a.low 5 (by omega)
    refine ⟨h.a0, h.k0, s.w0, rfl, fun u => by kernel_rfl, (I 5).1, hl.1, Nat.le_trans hl.2.1 hl.2.2, a.w0.1, fun c ho hc => ?_⟩
    have hs := k.wait0 a ho hc
    exact ⟨⟨_, hs.1⟩, hs.2.1, hs.2.2⟩
  by_cases h1 : n = 1
  · subst h1
    have hl := a.low 6 (by omega)
    refine ⟨h.a1, h.k1, s.w1, rfl, fun u => by kernel_rfl, (I 6).1, hl.1, Nat.le_trans hl.2.1 hl.2.2, a.w1.1, fun c ho hc => ?_⟩
    have hs := k.wait1 a ho hc
    exact ⟨⟨_, hs.1⟩, hs.2.1, hs.2.2⟩
  by_cases h2 : n = 2
  · subst h2
    have hl := a.low 7 (by omega)
    refine ⟨h.a2, h.k2, s.w2, rfl, fun u => by kernel_rfl, (I 7).1, hl.1, Nat.le_trans hl.2.1 hl.2.2, a.w2.1, fun c ho hc => ?_⟩
    have hs := k.wait2 a ho hc
    exact ⟨⟨_, hs.1⟩, hs.2.1, hs.2.2⟩
  by_cases h3 : n = 3
  · subst h3
    have hl := a.low 8 (by omega)
    refine ⟨h.a3, h.k3, s.w3, rfl, fun u => by kernel_rfl, (I 8).1, hl.1, Nat.le_trans hl.2.1 hl.2.2, a.w3.1, fun c ho hc => ?_⟩
    have hs := k.wait3 a ho hc
    exact ⟨⟨_, hs.1⟩, hs.2.1, hs.2.2⟩
  omega
theorem St.outK_out (s : St) (g : Int) : { s.outK g 4 with timers := s.timers.filter (fun x => x.2 != g) } = s.out g := rfl
set_option maxRecDepth 100000 in
set_option maxHeartbeats 16000000 in
theorem rdWake_any (h : StH) (s : St) (p g : Int) (r : St × Int) (hrr : s.wake p g = r) (w : World) (hk : StOk w h s) (hf : StFew s) : Calls Try.prog 18 #[stV h s, .int .i64 p, .int .i64 g] w (StRes w r) := by
  have HRS := Lib.hid hrr
  clear hrr
  have HF := Lib.hid hf
  have HK := Lib.hid hk
  obtain ⟨W0, hW0⟩ : ∃ W0, w.heap.size = W0 := ⟨_, rfl⟩
  obtain ⟨G0, hG0⟩ : ∃ G0, W0 + 1 = G0 := ⟨_, rfl⟩
  obtain ⟨R, hR⟩ : ∃ R, G0 + 1 = R := ⟨_, rfl⟩
  obtain ⟨w2, hw2⟩ : ∃ w2, ((w.alloc (.cells #[.slice h.pa s.prog.length h.pc, .slice h.ga s.gs.length h.gc, .slice h.qa s.ps.length h.qc, .slice h.ma s.ms.length h.mc, .slice h.la s.glob.length h.lc, .int .i64 s.c0, .int .i64 s.c1, .int .i64 s.c2, .int .i64 s.c3, .slice h.a0 s.w0.length h.k0, .slice h.a1 s.w1.length h.k1, .slice h.a2 s.w2.length h.k2, .slice h.a3 s.w3.length h.k3, .slice h.ta s.timers.length h.tc, .int .i64 s.clock, .int .i64 s.procs] 32)).alloc (.cells #[.int .i64 g] 3)).alloc (.cells #[.slice none 0 0, .slice none 0 0, .slice none 0 0, .slice none 0 0, .slice none 0 0, .int .i64 0, .int .i64 0, .int .i64 0, .int .i64 0, .slice none 0 0, .slice none 0 0, .slice none 0 0, .slice none 0 0, .slice none 0 0, .int .i64 0, .int .i64 0] 32) = w2 := ⟨_, rfl⟩
  have HX1 : Hid (Ext w w2) := Lib.hid (by rw [← hw2]; exact (((Ext.refl w).alloc _).alloc _).alloc _)
  have HB1 : Hid (w2.heap[W0]? = some (.cells (stC h s) 32 (0, 0))) := Lib.hid (by rw [← hw2, ← hW0]; exact blk_alloc (blk_alloc (blk_new w _) _) _)
  have HG1 : Hid (w2.heap[G0]? = some (.cells #[.int .i64 g] 3 (0, 0))) := Lib.hid (by
    have := blk_alloc (blk_new (w.alloc (.cells #[.slice h.pa s.prog.length h.pc, .slice h.ga s.gs.length h.gc, .slice h.qa s.ps.length h.qc, .slice h.ma s.ms.length h.mc, .slice h.la s.glob.length h.lc, .int .i64 s.c0, .int .i64 s.c1, .int .i64 s.c2, .int .i64 s.c3, .slice h.a0 s.w0.length h.k0, .slice h.a1 s.w1.length h.k1, .slice h.a2 s.w2.length h.k2, .slice h.a3 s.w3.length h.k3, .slice h.ta s.timers.length h.tc, .int .i64 s.clock, .int .i64 s.procs] 32)) (.cells #[.int .i64 g] 3)) (.cells #[.slice none 0 0, .slice none 0 0, .slice none 0 0, .slice none 0 0, .slice none 0 0, .int .i64 0, .int .i64 0, .int .i64 0, .int .i64 0, .slice none 0 0, .slice none 0 0, .slice none 0 0, .slice none 0 0, .slice none 0 0, .int .i64 0, .int .i64 0] 32)
    rw [hw2, World.size_alloc, hW0, hG0] at this
    exact this)
  have HR1 : Hid (w2.heap[R]? = some (.cells #[.slice none 0 0, .slice none 0 0, .slice none 0 0, .slice none 0 0, .slice none 0 0, .int .i64 0, .int .i64 0, .int .i64 0, .int .i64 0, .slice none 0 0, .slice none 0 0, .slice none 0 0, .slice none 0 0, .slice none 0 0, .int .i64 0, .int .i64 0] 32 (0, 0))) := Lib.hid (by
    have := blk_new ((w.alloc (.cells #[.slice h.pa s.prog.length h.pc, .slice h.ga s.gs.length h.gc, .slice h.qa s.ps.length h.qc, .slice h.ma s.ms.length h.mc, .slice h.la s.glob.length h.lc, .int .i64 s.c0, .int .i64 s.c1, .int .i64 s.c2, .int .i64 s.c3, .slice h.a0 s.w0.length h.k0, .slice h.a1 s.w1.length h.k1, .slice h.a2 s.w2.length h.k2, .slice h.a3 s.w3.length h.k3, .slice h.ta s.timers.length h.tc, .int .i64 s.clock, .int .i64 s.procs] 32)).alloc (.cells #[.int .i64 g] 3)) (.cells #[.slice none 0 0, .slice none 0 0, .slice none 0 0, .slice none 0 0, .slice none 0 0, .int .i64 0, .int .i64 0, .int .i64 0, .int .i64 0, .slice none 0 0, .slice none 0 0, .slice none 0 0, .slice none 0 0, .slice none 0 0, .int .i64 0, .int .i64 0] 32)
    rw [hw2, World.size_alloc, World.size_alloc, hW0, hG0, hR] at this
    exact this)
  have HRR := Lib.hid hR
  have HG0 := Lib.hid hG0
  have HW0 := Lib.hid hW0
  have HW2 := Lib.hid hw2
  have HK1 := Lib.hid (hk.ext HX1.out)
  clear hk hf hw2 hW0 hR hG0
  obtain ⟨PQ, hPQ⟩ : ∃ PQ : Ending → World → Prop, PQ = StRes w r := ⟨_, rfl⟩
  rw [← hPQ]
  have HPQ := Lib.hid hPQ
  clear hPQ
  unfold stV
  go_enter Try.func18, Try.ntmps18
  go_upto_region 1 with fail
  rw [HW2.out, HW0.out, HG0.out, HRR.out]
  generalize Value.agg #[.slice h.pa s.prog.length h.pc, .slice h.ga s.gs.length h.gc, .slice h.qa s.ps.length h.qc, .slice h.ma s.ms.length h.mc, .slice h.la s.glob.length h.lc, .int .i64 s.c0, .int .i64 s.c1, .int .i64 s.c2, .int .i64 s.c3, .slice h.a0 s.w0.length h.k0, .slice h.a1 s.w1.length h.k1, .slice h.a2 s.w2.length h.k2, .slice h.a3 s.w3.length h.k3, .slice h.ta s.timers.length h.tc, .int .i64 s.clock, .int .i64 s.procs] = sv0
  go_wp2_with (refine wpList_load_rowW (by rfl) 32 _ rfl W0 (by go_simp) (stL h s) (stV h s) rfl _ (range_row HB1.out) Try.underlying32 rfl (by kernel_rfl) ?_)
  refine (sstmay_any h s _ rfl _ HK1.out HF.out).mono ?_
  rintro e wa ⟨rfl, hxa⟩
  have HXA := Lib.hid (HX1.out.trans hxa)
  have HBA := Lib.hid (hxa.blk HB1.out)
  have HGA := Lib.hid (hxa.blk HG1.out)
  have HRA := Lib.hid (hxa.blk HR1.out)
  clear hxa
  cases bm : s.may with
  | false =>
    have HN : Hid (r = (St.nil, 1)) := Lib.hid (by rw [← HRS.out]; exact St.wake_no (by rw [bm]; simp))
    go_upto_if 40 with fail
    obtain ⟨wf, hwf⟩ : ∃ wf, wa.setCells R 0 (stL StH.nil St.nil) = wf := ⟨_, rfl⟩
    have hfn := fin_nil HRA.out HXA.out (show w.heap.size ≤ R by have := HRR.out; have := HW0.out; have := HG0.out; omega)
    rw [hwf] at hfn
    have HFN := Lib.hid hfn
    have HWF := Lib.hid hwf
    clear hfn hwf
    go_wp2_with (refine wpList_store_row rfl 32 _ _ rfl R (stL StH.nil St.nil) (stV StH.nil St.nil) rfl rfl rfl HFN.out.2.1 (by kernel_rfl) (stL_one _ _) HWF.out ?_)
    refine bodyPost_cell_tmp rfl R _ _ _ _ rfl HFN.out.1 Try.underlying32 rfl (by kernel_rfl) (.int .i64 1) rfl rfl ?_
    rw [HPQ.out]
    show StRes w _ _ _
    rw [HN.out]
    exact StRes.nil HFN.out.2.2
  | true =>
  have HM := Lib.hid bm
  clear bm
  go_wp2_with (refine wpList_load_rowW (by rfl) 32 _ rfl W0 (by go_simp) (stL h s) (stV h s) rfl _ (range_row HBA.out) Try.underlying32 rfl (by kernel_rfl) ?_)
  refine (sinuse_any h s p _ rfl _ (HK.out.ext HXA.out)).mono ?_
  rintro e wb ⟨rfl, hxb⟩
  have HXB := Lib.hid (HXA.out.trans hxb)
  have HBB := Lib.hid (hxb.blk HBA.out)
  have HGB := Lib.hid (hxb.blk HGA.out)
  have HRB := Lib.hid (hxb.blk HRA.out)
  clear hxb
  cases bi : decide (1 ≤ p ∧ p ≤ s.procs) with
  | false =>
    have HN : Hid (r = (St.nil, 1)) := Lib.hid (by rw [← HRS.out]; exact St.wake_no (by intro h; have := of_decide_eq_false bi; exact this h.2.1))
    go_upto_if 40 with fail
    obtain ⟨wf, hwf⟩ : ∃ wf, wb.setCells R 0 (stL StH.nil St.nil) = wf := ⟨_, rfl⟩
    have hfn := fin_nil HRB.out HXB.out (show w.heap.size ≤ R by have := HRR.out; have := HW0.out; have := HG0.out; omega)
    rw [hwf] at hfn
    have HFN := Lib.hid hfn
    have HWF := Lib.hid hwf
    clear hfn hwf
    go_wp2_with (refine wpList_store_row rfl 32 _ _ rfl R (stL StH.nil St.nil) (stV StH.nil St.nil) rfl rfl rfl HFN.out.2.1 (by kernel_rfl) (stL_one _ _) HWF.out ?_)
    refine bodyPost_cell_tmp rfl R _ _ _ _ rfl HFN.out.1 Try.underlying32 rfl (by kernel_rfl) (.int .i64 1) rfl rfl ?_
    rw [HPQ.out]
    show StRes w _ _ _
    rw [HN.out]
    exact StRes.nil HFN.out.2.2
  | true =>
  have hpp := of_decide_eq_true bi
  clear bi
  have q1 := st1 HBB.out
  have qg := blk_cell HGB.out 0 _ rfl
  by_cases a1 : g < 1
  · have HN : Hid (r = (St.nil, 1)) := Lib.hid (by rw [← HRS.out]; exact St.wake_no (by omega))
    go_upto_if 40 with fail
    obtain ⟨wf, hwf⟩ : ∃ wf, wb.setCells R 0 (stL StH.nil St.nil) = wf := ⟨_, rfl⟩
    have hfn := fin_nil HRB.out HXB.out (show w.heap.size ≤ R by have := HRR.out; have := HW0.out; have := HG0.out; omega)
    rw [hwf] at hfn
    have HFN := Lib.hid hfn
    have HWF := Lib.hid hwf
    clear hfn hwf
    go_wp2_with (refine wpList_store_row rfl 32 _ _ rfl R (stL StH.nil St.nil) (stV StH.nil St.nil) rfl rfl rfl HFN.out.2.1 (by kernel_rfl) (stL_one _ _) HWF.out ?_)
    refine bodyPost_cell_tmp rfl R _ _ _ _ rfl HFN.out.1 Try.underlying32 rfl (by kernel_rfl) (.int .i64 1) rfl rfl ?_
    rw [HPQ.out]
    show StRes w _ _ _
    rw [HN.out]
    exact StRes.nil HFN.out.2.2
  by_cases a2 : (s.gs.length : Int) < g
  · have HN : Hid (r = (St.nil, 1)) := Lib.hid (by rw [← HRS.out]; exact St.wake_no (by omega))
    go_upto_if 40 with fail
    obtain ⟨wf, hwf⟩ : ∃ wf, wb.setCells R 0 (stL StH.nil St.nil) = wf := ⟨_, rfl⟩
    have hfn := fin_nil HRB.out HXB.out (show w.heap.size ≤ R by have := HRR.out; have := HW0.out; have := HG0.out; omega)
    rw [hwf] at hfn
    have HFN := Lib.hid hfn
    have HWF := Lib.hid hwf
    clear hfn hwf
    go_wp2_with (refine wpList_store_row rfl 32 _ _ rfl R (stL StH.nil St.nil) (stV StH.nil St.nil) rfl rfl rfl HFN.out.2.1 (by kernel_rfl) (stL_one _ _) HWF.out ?_)
    refine bodyPost_cell_tmp rfl R _ _ _ _ rfl HFN.out.1 Try.underlying32 rfl (by kernel_rfl) (.int .i64 1) rfl rfl ?_
    rw [HPQ.out]
    show StRes w _ _ _
    rw [HN.out]
    exact StRes.nil HFN.out.2.2
  obtain ⟨k, rfl⟩ : ∃ k : Nat, g = (k : Int) + 1 := ⟨(g - 1).toNat, by omega⟩
  obtain ⟨y, hy⟩ : ∃ y, s.gs[k]? = some y := ⟨_, List.getElem?_eq_getElem (by omega)⟩
  obtain ⟨bg0, og0, hA, hbg, hc⟩ := gs_get (HK.out.ext HXB.out).gs hy
  rw [hA] at q1
  have c2 := hc.2.2.1
  have e1 : (k : Int) + 1 - 1 = (k : Int) := by omega
  have e4 : (k : Int) < (s.gs.length : Int) := by omega
  have e5 : (k : Int) < 100000 := by have := HF.out.gs; omega
  have d1 : decide ((k : Int) + 1 < 1) = false := decide_eq_false (by omega)
  have d2 : decide ((s.gs.length : Int) < (k : Int) + 1) = false := decide_eq_false (by omega)
  have HY := Lib.hid hy
  have HKL : Hid (k < s.gs.length) := Lib.hid (by omega)
  have HPP := Lib.hid hpp
  clear hA hbg hc hy a1 a2 hpp
  by_cases a3 : y.st = 3
  case neg =>
    have HN : Hid (r = (St.nil, 1)) := Lib.hid (by rw [← HRS.out]; exact St.wake_no (by rw [St.gAt_of HY.out]; intro h; exact a3 h.2.2.2))
    have d3 : (y.st != 3) = true := by simpa using a3
    clear a3
    go_upto_if 40 with fail
    obtain ⟨wf, hwf⟩ : ∃ wf, wb.setCells R 0 (stL StH.nil St.nil) = wf := ⟨_, rfl⟩
    have hfn := fin_nil HRB.out HXB.out (show w.heap.size ≤ R by have := HRR.out; have := HW0.out; have := HG0.out; omega)
    rw [hwf] at hfn
    have HFN := Lib.hid hfn
    have HWF := Lib.hid hwf
    clear hfn hwf
    go_wp2_with (refine wpList_store_row rfl 32 _ _ rfl R (stL StH.nil St.nil) (stV StH.nil St.nil) rfl rfl rfl HFN.out.2.1 (by kernel_rfl) (stL_one _ _) HWF.out ?_)
    refine bodyPost_cell_tmp rfl R _ _ _ _ rfl HFN.out.1 Try.underlying32 rfl (by kernel_rfl) (.int .i64 1) rfl rfl ?_
    rw [HPQ.out]
    show StRes w _ _ _
    rw [HN.out]
    exact StRes.nil HFN.out.2.2
  have d3 : (y.st != 3) = false := by simpa using a3
  have HY3 := Lib.hid a3
  clear a3
  have hps := St.may_procs HM.out
  have hpp := HPP.out
  obtain ⟨i, rfl⟩ : ∃ i : Nat, p = (i : Int) + 1 := ⟨(p - 1).toNat, by omega⟩
  obtain ⟨x, hp⟩ : ∃ x, s.ps[i]? = some x := ⟨_, List.getElem?_eq_getElem (by omega)⟩
  have HP := Lib.hid hp
  have HIL : Hid (i < s.ps.length) := Lib.hid (by omega)
  have HYQ := Lib.hid (St.may_seq HM.out HY.out)
  clear hps hpp hp
  go_upto_if 40 with fail
  clear c2 q1
  have HLD := Lib.hid (HBB.out)
  go_wp2_with (refine wpList_load_rowW (by rfl) 32 _ rfl W0 (by go_simp) (stL h s) (stV h s) rfl _ (range_row HLD.out) Try.underlying32 rfl (by kernel_rfl) ?_)
  refine (sCopy_any h s _ (HK.out.ext HXB.out) HF.out).mono ?_
  rintro e w3 ⟨h1, L, rfl, ho, hL, hx⟩
  obtain ⟨w4, hw4⟩ : ∃ w4, w3.setCells W0 0 (stL h1 s) = w4 := ⟨_, rfl⟩
  have hst := Sit.start (w := w) rfl HXB.out HLD.out (HRB.out) hx (ho.apart hL) (by have := HRR.out; have := HG0.out; omega) (by have := HW0.out; omega) (by have := HW0.out; have := HRR.out; have := HG0.out; omega)
  rw [hw4] at hst
  have HTH := Lib.hid hst.1
  have S4 := Lib.hid hst.2
  have HW4 := Lib.hid hw4
  have HX3 := Lib.hid hx
  have HU4 : Hid (Upd W0 w3 w4) := Lib.hid (by rw [← hw4]; exact setCells_upd _ _ _ _)
  clear ho hL hx hst hw4 HLD
  have HGL : Hid (G0 < wb.heap.size) := Lib.hid (blk_lt HGB.out)
  have HG4 : Hid (w4.heap[G0]? = some (.cells #[.int .i64 ((k : Int) + 1)] 3 (0, 0))) := Lib.hid ((HU4.out.block G0 (by have := HX3.out.size; have := HGL.out; omega) (fun e => by injection e; have := HG0.out; omega)).trans (HX3.out.blk HGB.out))
  go_upto_region 4 with (refine wpList_store_row rfl 32 _ _ rfl W0 (stL h1 s) (stV h1 s) (by go_simp) (by go_simp) rfl HTH.out (by kernel_rfl) (stL_one _ _) HW4.out ?_)
  clear d1 d2 d3 e1 e4 e5 qg
  have q9 := st9 S4.out.box
  have q10 := st10 S4.out.box
  have q11 := st11 S4.out.box
  have q12 := st12 S4.out.box
  go_wp2_with fail
  clear q9 q10 q11 q12
  obtain ⟨gg, hgg⟩ : ∃ gg : Int, (k : Int) + 1 = gg := ⟨_, rfl⟩
  rw [hgg] at HG4 HRS
  have HGG := Lib.hid hgg
  clear hgg
  go_loopw [46] (fun iv wr => ∃ n : Nat, n ≤ 4 ∧ iv = .int .i64 n ∧ Sit w W0 R wb.heap.size wr h1 (s.outK gg n) ∧ wr.heap[G0]? = some (.cells #[.int .i64 gg] 3 (0, 0))) (fun iv _ => 4 - (intOf iv).toNat)
  case atStart => exact ⟨0, by omega, rfl, S4.out, HG4.out⟩
  case round =>
    obtain ⟨n, hn, rfl, hsit, hgb⟩ := hrel
    have SN := Lib.hid hsit
    have HGN := Lib.hid hgb
    clear hsit hgb
    by_cases hlt : n < 4
    · obtain ⟨A, cc, l, hwl, hidx, B5, hB1, hB2, ho, hfin⟩ := SN.out.round hlt
      have hll : l.length ≤ 100000 := wts_few HF.out.w hwl
      have HD := Lib.hid (delf1_any A cc l gg G0 B5 wr (ints_rows.1 ho) (by omega) (blk_cell HGN.out 0 _ rfl) (by have := HGL.out; omega) hB2)
      have HFIN := Lib.hid hfin
      have HBB5 : Hid (wb.heap.size ≤ B5) := Lib.hid hB1
      have HOW := Lib.hid ho
      clear hwl hB1 hB2 ho hfin hll
      go_wp2_with fail
      refine HD.out.mono ?_
      rintro e c ⟨rfl, ho', hb⟩
      clear hidx
      have hst := HFIN.out c (ints_rows.2 ho') hb
      obtain ⟨ov, r0⟩ := hst.1
      have r1 := hst.2.1
      have NS := Lib.hid hst.2.2
      have NG : Hid ((c.setCell ⟨W0, 9 + n, none⟩ (.slice A (l.filter (· != gg)).length cc)).heap[G0]? = some (.cells #[.int .i64 gg] 3 (0, 0))) := Lib.hid (blk_set_other (hb.blk HGN.out (fun e => by have := (World.ownsRow.lt HOW.out G0 e).1; have := HBB5.out; have := HGL.out; omega)) _ (by have := HG0.out; simp only; omega) _)
      clear ho' hb hst HD HFIN
      go_wp2
      go_roundw
      case rel => exact ⟨n + 1, by omega, by go_num, NS.out, NG.out⟩
      case measure => simp [intOf]; omega
    · obtain rfl : n = 4 := by omega
      obtain ⟨I9, ha9⟩ := SN.out.ap
      have q13 : wr.cell? ⟨W0, 13, none⟩ = some (.slice h1.ta s.timers.length h1.tc) := by have := st13 SN.out.box; exact this
      have hl9 := ha9.low 9 (by omega)
      have HD := Lib.hid (delf2_any h1.ta h1.tc s.timers gg G0 (I9 9).1 wr ha9.timers.1 (by have := HF.out.timers; omega) (blk_cell HGN.out 0 _ rfl) (by have := HGL.out; omega) (by omega))
      have HA9 := Lib.hid ha9
      have HL9 := Lib.hid hl9
      clear ha9 hl9
      go_wp2_with fail
      refine HD.out.mono ?_
      rintro e c ⟨rfl, ho', hb⟩
      have hst := SN.out.times HA9.out ho' hb
      obtain ⟨w9, hw9⟩ : ∃ w9, c.setCell ⟨W0, 13, none⟩ (.slice h1.ta (s.timers.filter (fun x => x.2 != gg)).length h1.tc) = w9 := ⟨_, rfl⟩
      have r0 : c.cell? ⟨W0, 13, none⟩ = some (.slice h1.ta s.timers.length h1.tc) := hst.1
      have r1 := hst.2.1
      have hs9 := hst.2.2
      rw [hw9, St.outK_out] at hs9
      have S9 := Lib.hid hs9
      have HG9 : Hid (w9.heap[G0]? = some (.cells #[.int .i64 gg] 3 (0, 0))) := Lib.hid (by
        rw [← hw9]
        exact blk_set_other (hb.blk HGN.out (fun e => by have := (OwnRows.lt HA9.out.timers.1 G0 e).1; have := HL9.out; have := HGL.out; omega)) _ (by have := HG0.out; simp only; omega) _)
      have HW9 := Lib.hid hw9
      clear ho' hb hst hs9 hw9 HD q13
      go_upto_region 10 with (rw [HW9.out])
      clear r0 r1
      obtain ⟨bg, hga, hgB, hrg⟩ := S9.out.getG (x := y) HY.out
      have hst10 := S9.out.setG' (x := y) HY.out hga (x' := { y with st := 1, m := 0, seq := y.seq + 1 }) (j := 2) (ds := [.int .i64 1, .int .i64 0, .int .i64 (y.seq + 1)]) (by simp) (gL_turn y)
      have qg := blk_cell HG9.out 0 _ rfl
      have HRU := Lib.hid (srun_any W0 bg k gg h1 (s.out gg) y w9 HGG.out.symm S9.out.box hga HKL.out HF.out.gs hrg hst10.1 (by have := HYQ.out; omega))
      have HS10 := Lib.hid hst10.2
      have HGB2 := Lib.hid hgB
      clear hst10 hga hrg hgB
      go_wp2_with fail
      refine HRU.out.mono ?_
      rintro e w10 ⟨rfl, hw10⟩
      have hs10 := HS10.out
      rw [← hw10] at hs10
      have S10 := Lib.hid hs10
      have HG10 : Hid (w10.heap[G0]? = some (.cells #[.int .i64 gg] 3 (0, 0))) := Lib.hid (by
        rw [hw10]
        exact ((setCells_upd bg _ w9 _).block G0 (blk_lt HG9.out) (fun e => by injection e; have := HGB2.out; have := HGL.out; omega)).trans HG9.out)
      clear hs10 hw10 HRU HS10 qg
      have e1 : (i : Int) + 1 - 1 = (i : Int) := by omega
      have e4 : (i : Int) < (s.ps.length : Int) := by have := HIL.out; omega
      have e5 : (i : Int) < 100000 := by have := HF.out.ps; have := HIL.out; omega
      obtain ⟨bq, hqa, hqb, hrp⟩ := S10.out.getP (x := x) HP.out
      have q2 : w10.cell? ⟨W0, 2, none⟩ = some (.slice (some ⟨bq, 0, none⟩) s.ps.length h1.qc) := by rw [← hqa]; have := st2 S10.out.box; exact this
      have r0 : w10.cell? ⟨bq, i * 13 + 1, none⟩ = some (.int .i64 x.next) := hrp 1 _ rfl
      have qg := blk_cell HG10.out 0 _ rfl
      have hst11 := S10.out.setP' (x := x) HP.out hqa (x' := { x with next := gg }) (j := 1) (ds := [.int .i64 gg]) (by simp) (pL_next x gg)
      have r1 := (hst11.1 0 (by simp)).2
      rw [Nat.add_zero] at r1
      obtain ⟨w12, hw12⟩ : ∃ w12, w10.setCell ⟨bq, i * 13 + 1, none⟩ (.int .i64 gg) = w12 := ⟨_, rfl⟩
      obtain ⟨s3, hs3⟩ : ∃ s3 : St, { s.out gg with gs := s.gs.set k { y with st := 1, m := 0, seq := y.seq + 1 }, ps := s.ps.set i { x with next := gg } } = s3 := ⟨_, rfl⟩
      have hs12 := hst11.2
      rw [show w10.setCells bq (i * 13 + 1) [.int .i64 gg] = w12 from hw12] at hs12
      have S12 : Hid (Sit w W0 R wb.heap.size w12 h1 s3) := Lib.hid (by rw [← hs3]; exact hs12)
      have HW12 := Lib.hid hw12
      have HF3 : Hid (StFew s3) := Lib.hid (by rw [← hs3]; exact HF.out.woken (List.length_set) (List.length_set))
      have HOK3 : Hid (StOk w12 h1 s3) := Lib.hid (by
        obtain ⟨I, a⟩ := S12.out.ap
        refine a.ok fun q hq => ?_
        rw [← hs3] at hq
        rcases List.mem_or_eq_of_mem_set hq with hq | rfl
        · exact HK.out.buf q hq
        · exact HK.out.buf x (List.mem_of_getElem? HP.out))
      have HE : Hid (r = (s3.tail ((i : Int) + 1) x.next, 0)) := Lib.hid (by rw [← HRS.out, ← hs3, ← HGG.out]; exact St.wake_yes HM.out HPP.out HP.out HY.out HY3.out)
      clear hqa hrp hst11 hw12 hs12 hs3
      go_upto_region 13 with (rw [HW12.out])
      clear q2 r0 r1 qg e1 e4 e5
      have HB12 := Lib.hid S12.out.box
      go_wp2_with (refine wpList_load_rowW (by rfl) 32 _ rfl W0 (by go_simp) (stL h1 s3) (stV h1 s3) rfl _ (range_row HB12.out) Try.underlying32 rfl (by kernel_rfl) ?_)
      refine (rdTail_any h1 s3 _ x.next w12 HOK3.out HF3.out).mono ?_
      rintro e w13 ⟨h4, I4, rfl, ha4, hx13⟩
      obtain ⟨s4, hs4⟩ : ∃ s4, s3.tail ((i : Int) + 1) x.next = s4 := ⟨_, rfl⟩
      rw [hs4] at ha4 HE ⊢
      obtain ⟨wf, hwf⟩ : ∃ wf, w13.setCells R 0 (stL h4 s4) = wf := ⟨_, rfl⟩
      have hr13 := hx13.blk S12.out.res
      have HTR : Hid (w13.there R 0 (stL h4 s4).length) := Lib.hid (there_row hr13 (Nat.le_refl 16))
      have HRZ : Hid (wf.heap[R]? = some (.cells (stL h4 s4).toArray 32 (0, 0))) := Lib.hid (by rw [← hwf]; exact setCells_at [.slice none 0 0, .slice none 0 0, .slice none 0 0, .slice none 0 0, .slice none 0 0, .int .i64 0, .int .i64 0, .int .i64 0, .int .i64 0, .slice none 0 0, .slice none 0 0, .slice none 0 0, .slice none 0 0, .slice none 0 0, .int .i64 0, .int .i64 0] (stL h4 s4) rfl hr13)
      have HUF : Hid (Upd R w13 wf) := Lib.hid (by rw [← hwf]; exact setCells_upd _ _ _ _)
      have HFI : Hid ((∃ I, StApart w.heap.size wf I h4 s4) ∧ Ext w wf) := Lib.hid (by
        have l := S12.out.lo
        exact ⟨⟨I4, (ha4.far (But.upd (S := fun b => b = R) HUF.out rfl) (fun b hb => by omega)).lower (by omega)⟩, (S12.out.ext.trans hx13).upd HUF.out (by omega)⟩)
      have HWF := Lib.hid hwf
      clear hwf hr13 ha4 hx13 hs4
      go_wp2_with (refine wpList_store_row rfl 32 _ _ rfl R (stL h4 s4) (stV h4 s4) (by go_simp) (by go_simp) rfl HTR.out (by kernel_rfl) (stL_one _ _) HWF.out ?_)
      refine bodyPost_cell_tmp rfl R _ _ _ _ rfl HRZ.out Try.underlying32 rfl (by kernel_rfl) (.int .i64 0) rfl rfl ?_
      rw [HPQ.out]
      show StRes w _ _ _
      rw [HE.out]
      exact ⟨h4, rfl, HFI.out.1, HFI.out.2⟩
end Go.Proofs.Ytogcfndhcphpaaa
/-
  The statements of layer 13: what the document fixes.
-/
set_option linter.unusedVariables false
set_option linter.unusedSimpArgs false
namespace Go.Proofs.Ytogcfndhcphpaaa
open Go.RowKit
def bS : St := { fullS with gs := List.replicate 8 ⟨0, 0, 1, 0, 0⟩ ++ [⟨0, 0, 1, 0, 1⟩], ms := [(1, 0)], glob := [9] }
theorem full_tail : (fullS.tail 1 9).glob = [1, 2, 3, 4, 9] ∧ (fullS.tail 1 9).ps.length = 8 ∧ (fullS.tail 1 9).ps[0]? = some ⟨1, 0, ⟨[0, 0, 0, 0, 5, 6, 7, 8], 4, 4⟩, 0⟩ := ⟨by kernel_rfl, by kernel_rfl, by kernel_rfl⟩
theorem full_yield : fullS.yield 1 = (bS, 0) := by kernel_rfl
theorem full_drain : (bS.drain 1).2 = 0 ∧ (bS.drain 1).1.glob = [9, 1, 2, 3, 4, 5, 6, 7, 8] := ⟨by kernel_rfl, by kernel_rfl⟩
theorem full_wake : fullS.wake 1 1 = (St.nil, 1) := by kernel_rfl
theorem full_few : StFew fullS ∧ StFew bS := by
  refine ⟨⟨?_, ?_, ?_, ?_, ?_, ?_, ?_, ?_⟩, ⟨?_, ?_, ?_, ?_, ?_, ?_, ?_, ?_⟩⟩
  all_goals first | decide | (simp [fullS, bS])
theorem full_buf : (∀ p ∈ bS.ps, p.ring.buf.length = 8) ∧ (∀ p ∈ (fullS.tail 1 9).ps, p.ring.buf.length = 8) ∧ (∀ p ∈ (bS.drain 1).1.ps, p.ring.buf.length = 8) := ⟨by decide +kernel, by decide +kernel, by decide +kernel⟩
set_option maxRecDepth 100000 in
set_option maxHeartbeats 16000000 in
theorem rfixed_yes (w : World) : Calls Try.prog 17 #[] w fun e w' => e = .returned (.bool true) ∧ Ext w w' := by
  obtain ⟨aS, hA⟩ : ∃ aS, fullS.tail 1 9 = aS := ⟨_, rfl⟩
  obtain ⟨⟨cS, cn⟩, hC⟩ : ∃ c, bS.drain 1 = c := ⟨_, rfl⟩
  have FA := Lib.hid full_tail
  have FC := Lib.hid full_drain
  have FB := Lib.hid full_buf
  rw [hA] at FA FB
  rw [hC] at FC FB
  obtain rfl : cn = 0 := FC.out.1
  have HA := Lib.hid hA
  have HC := Lib.hid hC
  clear hA hC
  go_enter Try.func17, Try.ntmps17
  go_wp2_with fail
  refine (full_any w).mono ?_
  rintro e w1 ⟨h1, rfl, hk1, hx1⟩
  go_wp2_with fail
  refine (rdTail_any h1 fullS 1 9 w1 hk1 full_few.1).mono ?_
  rintro e w2 ⟨ha, I, rfl, hap, hx2⟩
  rw [HA.out] at hap ⊢
  have HKA := Lib.hid (hap.ok FB.out.2.1)
  have HX2 := Lib.hid (hx1.trans hx2)
  obtain ⟨wb1, wc1, hwb, hwc, hth, hbc, hxc⟩ := st_box w2 ha aS
  obtain ⟨B1, hB⟩ : ∃ B1, w2.heap.size = B1 := ⟨_, rfl⟩
  rw [hB] at hwc hth hbc
  have HWB1 := Lib.hid hwb
  have HB1 := Lib.hid hB
  have HWC1 := Lib.hid hwc
  have HTH1 := Lib.hid hth
  have HBS1 := Lib.hid hbc
  have HXC1 := Lib.hid hxc
  clear hwb hwc hth hbc hxc hB
  clear hk1 hx1 hap hx2
  go_upto_region 2 with (first | rw [HWB1.out, HB1.out] | (refine wpList_store_row rfl 32 _ _ rfl B1 (stL ha aS) (stV ha aS) (by go_simp) (by go_simp) rfl HTH1.out (by kernel_rfl) (stL_one _ _) HWC1.out ?_))
  go_wp2_with fail
  refine (full_any wc1).mono ?_
  rintro e w3 ⟨h3, rfl, hk3, hx3⟩
  go_wp2_with fail
  refine (rdYield_any h3 fullS 1 _ full_yield w3 hk3 full_few.1).mono ?_
  rintro e w4 ⟨hb, rfl, ⟨I, hap⟩, hx4⟩
  simp only at hap ⊢
  have HKB := Lib.hid (hap.ok FB.out.1)
  have HX4 := Lib.hid (hx3.trans hx4)
  obtain ⟨wb2, wc2, hwb, hwc, hth, hbc, hxc⟩ := st_box w4 hb bS
  obtain ⟨B2, hB⟩ : ∃ B2, w4.heap.size = B2 := ⟨_, rfl⟩
  rw [hB] at hwc hth hbc
  have HWB2 := Lib.hid hwb
  have HB2 := Lib.hid hB
  have HWC2 := Lib.hid hwc
  have HTH2 := Lib.hid hth
  have HBS2 := Lib.hid hbc
  have HXC2 := Lib.hid hxc
  clear hwb hwc hth hbc hxc hB
  clear hk3 hx3 hap hx4
  go_upto_region 3 with (first | rw [HWB2.out, HB2.out] | (refine wpList_store_row rfl 32 _ _ rfl B2 (stL hb bS) (stV hb bS) (by go_simp) (by go_simp) rfl HTH2.out (by kernel_rfl) (stL_one _ _) HWC2.out ?_))
  go_wp2_with (refine wpList_load_rowW (by rfl) 32 _ rfl B2 (by go_simp) (stL hb bS) (stV hb bS) rfl _ (range_row HBS2.out) Try.underlying32 rfl (by kernel_rfl) ?_)
  refine (rdDrain_any hb bS 1 _ HC.out wc2 (HKB.out.ext HXC2.out) full_few.2).mono ?_
  rintro e w5 ⟨hc, rfl, ⟨I, hap⟩, hx5⟩
  simp only at hap ⊢
  have HKC := Lib.hid (hap.ok FB.out.2.2)
  have HX5 := Lib.hid hx5
  obtain ⟨wb3, wc3, hwb, hwc, hth, hbc, hxc⟩ := st_box w5 hc cS
  obtain ⟨B3, hB⟩ : ∃ B3, w5.heap.size = B3 := ⟨_, rfl⟩
  rw [hB] at hwc hth hbc
  have HWB3 := Lib.hid hwb
  have HB3 := Lib.hid hB
  have HWC3 := Lib.hid hwc
  have HTH3 := Lib.hid hth
  have HBS3 := Lib.hid hbc
  have HXC3 := Lib.hid hxc
  clear hwb hwc hth hbc hxc hB
  clear hap hx5
  go_upto_region 4 with (first | rw [HWB3.out, HB3.out] | (refine wpList_store_row rfl 32 _ _ rfl B3 (stL hc cS) (stV hc cS) (by go_simp) (by go_simp) rfl HTH3.out (by kernel_rfl) (stL_one _ _) HWC3.out ?_))
  go_wp2_with fail
  refine (full_any wc3).mono ?_
  rintro e w6 ⟨h6, rfl, hk6, hx6⟩
  go_wp2_with fail
  refine (rdWake_any h6 fullS 1 1 _ full_wake w6 hk6 full_few.1).mono ?_
  rintro e w7 ⟨hd, rfl, -, hx7⟩
  simp only
  have HX7 := Lib.hid (hx6.trans hx7)
  obtain ⟨wb4, wc4, hwb, hwc, hth, hbc, hxc⟩ := st_box w7 hd St.nil
  obtain ⟨B4, hB⟩ : ∃ B4, w7.heap.size = B4 := ⟨_, rfl⟩
  rw [hB] at hwc hth hbc
  have HWB4 := Lib.hid hwb
  have HB4 := Lib.hid hB
  have HWC4 := Lib.hid hwc
  have HTH4 := Lib.hid hth
  have HBS4 := Lib.hid hbc
  have HXC4 := Lib.hid hxc
  clear hwb hwc hth hbc hxc hB
  clear hk6 hx6 hx7
  go_upto_region 5 with (first | rw [HWB4.out, HB4.out] | (refine wpList_store_row rfl 32 _ _ rfl B4 (stL hd St.nil) (stV hd St.nil) (by go_simp) (by go_simp) rfl HTH4.out (by kernel_rfl) (stL_one _ _) HWC4.out ?_))
  have X3 : Hid (Ext wc3 wc4) := Lib.hid (HX7.out.trans HXC4.out)
  have X2 : Hid (Ext wc2 wc4) := Lib.hid (HX5.out.trans (HXC3.out.trans X3.out))
  have X1 : Hid (Ext wc1 wc4) := Lib.hid (HX4.out.trans (HXC2.out.trans X2.out))
  have X0 : Hid (Ext w wc4) := Lib.hid (HX2.out.trans (HXC1.out.trans X1.out))
  have BA := Lib.hid (X1.out.blk HBS1.out)
  have BB := Lib.hid (X2.out.blk HBS2.out)
  have BC := Lib.hid (X3.out.blk HBS3.out)
  have KA := Lib.hid (HKA.out.ext (HXC1.out.trans X1.out))
  have KB := Lib.hid (HKB.out.ext (HXC2.out.trans X2.out))
  have KC := Lib.hid (HKC.out.ext (HXC3.out.trans X3.out))
  obtain ⟨bq, oq, hqa, hqb, hcc⟩ := ps_get KA.out.ps FA.out.2.2
  have HQA := Lib.hid hqa
  have HQB := Lib.hid hqb
  have HQC := Lib.hid hcc
  have q2 : wc4.cell? ⟨B1, 2, none⟩ = some (.slice (some ⟨bq, oq, none⟩) 8 ha.qc) := by have := st2 BA.out; rw [hqa, FA.out.2.1] at this; exact this
  have q4 : wc4.cell? ⟨B1, 4, none⟩ = some (.slice ha.la 5 ha.lc) := by have := st4 BA.out; rw [FA.out.1] at this; exact this
  obtain ⟨wl1, hwl⟩ : ∃ wl1, wc4.alloc (.cells #[.int .i64 1, .int .i64 2, .int .i64 3, .int .i64 4, .int .i64 9] 3) = wl1 := ⟨_, rfl⟩
  have HWL1 := Lib.hid hwl
  have HI1 : Hid (IntsAt wl1 (.slice (some ⟨wc4.heap.size, 0, none⟩) 5 5) [1, 2, 3, 4, 9]) := Lib.hid (by rw [← hwl]; exact ints_lit wc4 [1, 2, 3, 4, 9])
  have HXL1 : Hid (Ext wc4 wl1) := Lib.hid (by rw [← hwl]; exact (Ext.refl _).alloc _)
  clear hwl
  clear hqa hqb hcc
  go_wp2_with (rw [HWL1.out])
  refine (rints_eq _ _ [1, 2, 3, 4, 9] [1, 2, 3, 4, 9] true (by decide) _ (by have := (KA.out.ext HXL1.out).glob; rw [FA.out.1] at this; exact this) HI1.out (by decide)).mono ?_
  rintro e wm1 ⟨rfl, hxm⟩
  have XM1 := Lib.hid (HXL1.out.trans hxm)
  clear hxm q2 q4
  have q2 : wm1.cell? ⟨B1, 2, none⟩ = some (.slice (some ⟨bq, oq, none⟩) 8 ha.qc) := by have := st2 (XM1.out.blk BA.out); rw [HQA.out, FA.out.2.1] at this; exact this
  obtain ⟨⟨p0, p1, p2, p3, p4, p5, p6⟩, p7, p8, p9, p10, p11, p12⟩ := HQC.out
  rw [← bcell XM1.out _ _ HQB.out] at p0 p1 p2 p3 p4 p5 p6 p7 p8 p9 p10 p11 p12
  simp only [Nat.zero_mul, Nat.add_zero] at p0 p1 p2 p3 p4 p5 p6 p7 p8 p9 p10 p11 p12
  go_wp2_with fail
  refine (rrlist_k 0 0 0 0 5 6 7 8 4 4 [5, 6, 7, 8] (by kernel_rfl) wm1).mono ?_
  rintro e wn1 ⟨v, rfl, hov, hxn⟩
  have XN1 := Lib.hid (XM1.out.trans hxn)
  have HOV := Lib.hid hov
  obtain ⟨Av, cv, hv, _⟩ := hov.ints
  subst hv
  clear hxn hov q2 p0 p1 p2 p3 p4 p5 p6 p7 p8 p9 p10 p11 p12
  obtain ⟨wl2, hwl⟩ : ∃ wl2, wn1.alloc (.cells #[.int .i64 5, .int .i64 6, .int .i64 7, .int .i64 8] 3) = wl2 := ⟨_, rfl⟩
  have HWL2 := Lib.hid hwl
  have HI2 : Hid (IntsAt wl2 (.slice (some ⟨wn1.heap.size, 0, none⟩) 4 4) [5, 6, 7, 8]) := Lib.hid (by rw [← hwl]; exact ints_lit wn1 [5, 6, 7, 8])
  have HXL2 : Hid (Ext wn1 wl2) := Lib.hid (by rw [← hwl]; exact (Ext.refl _).alloc _)
  clear hwl
  go_wp2_with (rw [HWL2.out])
  refine (rints_eq _ _ [5, 6, 7, 8] [5, 6, 7, 8] true (by decide) _ (HOV.out.ext HXL2.out).at.2 HI2.out (by decide)).mono ?_
  rintro e wm2 ⟨rfl, hxm⟩
  have XM2 := Lib.hid (XN1.out.trans (HXL2.out.trans hxm))
  clear hxm
  have q4 : wm2.cell? ⟨B2, 4, none⟩ = some (.slice hb.la 1 hb.lc) := st4 (XM2.out.blk BB.out)
  obtain ⟨wl3, hwl⟩ : ∃ wl3, wm2.alloc (.cells #[.int .i64 9] 3) = wl3 := ⟨_, rfl⟩
  have HWL3 := Lib.hid hwl
  have HI3 : Hid (IntsAt wl3 (.slice (some ⟨wm2.heap.size, 0, none⟩) 1 1) [9]) := Lib.hid (by rw [← hwl]; exact ints_lit wm2 [9])
  have HXL3 : Hid (Ext wm2 wl3) := Lib.hid (by rw [← hwl]; exact (Ext.refl _).alloc _)
  clear hwl
  go_wp2_with (rw [HWL3.out])
  refine (rints_eq _ _ [9] [9] true (by decide) _ (KB.out.ext (XM2.out.trans HXL3.out)).glob HI3.out (by decide)).mono ?_
  rintro e wm3 ⟨rfl, hxm⟩
  have XM3 := Lib.hid (XM2.out.trans (HXL3.out.trans hxm))
  clear hxm q4
  have q4 : wm3.cell? ⟨B3, 4, none⟩ = some (.slice hc.la 9 hc.lc) := by have := st4 (XM3.out.blk BC.out); rw [FC.out.2] at this; exact this
  obtain ⟨wl4, hwl⟩ : ∃ wl4, wm3.alloc (.cells #[.int .i64 9, .int .i64 1, .int .i64 2, .int .i64 3, .int .i64 4, .int .i64 5, .int .i64 6, .int .i64 7, .int .i64 8] 3) = wl4 := ⟨_, rfl⟩
  have HWL4 := Lib.hid hwl
  have HI4 : Hid (IntsAt wl4 (.slice (some ⟨wm3.heap.size, 0, none⟩) 9 9) [9, 1, 2, 3, 4, 5, 6, 7, 8]) := Lib.hid (by rw [← hwl]; exact ints_lit wm3 [9, 1, 2, 3, 4, 5, 6, 7, 8])
  have HXL4 : Hid (Ext wm3 wl4) := Lib.hid (by rw [← hwl]; exact (Ext.refl _).alloc _)
  clear hwl
  go_wp2_with (rw [HWL4.out])
  refine (rints_eq _ _ [9, 1, 2, 3, 4, 5, 6, 7, 8] [9, 1, 2, 3, 4, 5, 6, 7, 8] true (by decide) _ (by have := (KC.out.ext (XM3.out.trans HXL4.out)).glob; rw [FC.out.2] at this; exact this) HI4.out (by decide)).mono ?_
  rintro e wm4 ⟨rfl, hxm⟩
  have XM4 := Lib.hid (XM3.out.trans (HXL4.out.trans hxm))
  clear hxm q4
  go_wp2
  go_ret
  exact ⟨rfl, X0.out.trans XM4.out⟩
end Go.Proofs.Ytogcfndhcphpaaa

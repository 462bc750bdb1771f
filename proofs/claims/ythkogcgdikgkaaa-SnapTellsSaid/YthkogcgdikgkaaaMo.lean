/-
  The contract of snap.Decode.
-/
import Derived.Test.YthkogcgdikgkaaaMn
set_option linter.unusedVariables false
set_option linter.unusedSimpArgs false
namespace Go.Proofs.Ythkogcgdikgkaaa
open Go.RowKit Go.Maps

def SnDecPost (w : World) (r : Sn × Int) (e : Ending) (w' : World) : Prop := ∃ v, e = .returned (.tuple #[v, .int .i64 r.2]) ∧ SnAt w' v r.1 ∧ Ext w w'
set_option maxRecDepth 100000 in
set_option maxHeartbeats 1000000 in
theorem sndec_any (s : ByteArray) (w : World) (hs : s.size ≤ maxLen) :
    Calls Try.prog 10 #[.string s] w (SnDecPost w (snDec s)) := by
  obtain ⟨i0, I0', I1', I2', I3'⟩ := info_parts Try.infoPStat
  have I0 := Lib.hid I0'
  have I1 := Lib.hid I1'
  have I2 := Lib.hid I2'
  have I3 := Lib.hid I3'
  clear I0' I1' I2' I3'
  obtain ⟨j0, J0', J1', J2', J3'⟩ := info_parts Try.infoGStat
  have J0 := Lib.hid J0'
  have J1 := Lib.hid J1'
  have J2 := Lib.hid J2'
  have J3 := Lib.hid J3'
  clear J0' J1' J2' J3'
  obtain ⟨res, hres⟩ : ∃ r, snDec s = r := ⟨_, rfl⟩
  rw [hres]
  obtain ⟨⟨tm, a1, e1⟩, hx⟩ : ∃ p, Wi.num s 0 0 = p := ⟨_, rfl⟩
  obtain ⟨⟨n, a2, e2⟩, hy⟩ : ∃ p, Wi.num s a1 e1 = p := ⟨_, rfl⟩
  have hn := Wi.num_val s a1 e1
  rw [hy] at hn
  simp only at hn
  obtain ⟨hn0, hn1⟩ := hn
  unfold snDec at hres
  simp only [hx, hy] at hres
  have HRES := Lib.hid hres
  have HX := Lib.hid hx
  have HY := Lib.hid hy
  have HS := Lib.hid hs
  clear hres hx hy hs
  have HB := Lib.hid (blk_new w (.cells #[.int .i64 0, .slice none 0 0, .slice none 0 0] 25))
  have HX0 : Hid (Ext w (w.alloc (.cells #[.int .i64 0, .slice none 0 0, .slice none 0 0] 25))) := Lib.hid ((Ext.refl w).alloc _)
  go_enter Try.func10, Try.ntmps10
  go_wp2_with fail
  refine (new_any s _).mono ?_
  rintro r w1 ⟨rfl, hrd, hx1⟩
  have HR1 := Lib.hid hrd
  have HX1 := Lib.hid (HX0.out.trans hx1)
  have HB1 := Lib.hid (hx1.blk HB.out)
  clear hrd hx1
  rw [World.size_alloc] at *
  go_wp2_with fail
  refine (rdnum_eq _ s 0 0 tm a1 e1 HX.out _ HR1.out HS.out).mono ?_
  rintro r w2 ⟨rfl, hrd, hu2⟩
  obtain ⟨sb, hsb⟩ : ∃ b, w2.heap.size = b := ⟨_, rfl⟩
  have hgs := hrd.lt
  have HD2 : Hid (DecI w (w.heap.size + 1) sb w.heap.size s #[.int .i64 tm, .slice none 0 0, .slice none 0 0] a1 e1 (w2.alloc (.cells #[.int .i64 tm, .slice none 0 0, .slice none 0 0] 25))) := Lib.hid
    ⟨RD.ext hrd ((Ext.refl w2).alloc _), by rw [← hsb]; exact blk_new w2 _, blk_alloc (hu2.blk HB1.out (by omega)) _, (HX1.out.upd hu2 (by omega)).alloc _, Nat.le_refl _, by omega, by omega⟩
  have HSB := Lib.hid hsb
  have hgsb : w.heap.size + 1 < sb := by omega
  have HSZ : Hid ((w2.alloc (.cells #[.int .i64 tm, .slice none 0 0, .slice none 0 0] 25)).heap.size = sb + 1) := Lib.hid (by rw [World.size_alloc, hsb])
  clear hsb hgs hrd hu2 HX0 HX1 HB1 HB HR1
  go_upto_region 3 with fail
  generalize hw3 : w2.alloc (.cells #[.int .i64 tm, .slice none 0 0, .slice none 0 0] 25) = w3 at *
  rw [HSB.out]
  generalize hr0 : w.heap.size = r0 at *
  generalize hg : r0 + 1 = g at *
  clear hw3 HSB
  have HO1 : Hid (w.heap.size ≤ r0) := Lib.hid (by omega)
  clear hr0
  go_wp2_with fail
  refine (rdnum_eq _ s a1 e1 n a2 e2 HY.out _ HD2.out.rd HS.out).mono ?_
  rintro r w4 ⟨rfl, hrd, hu4⟩
  have HD4 := Lib.hid (HD2.out.upd hu4 hrd)
  have hs4 : sb < w4.heap.size := by have := hu4.size; rw [HSZ.out] at this; omega
  clear hrd hu4 HD2 HSZ w2
  by_cases h64 : 64 < n
  · obtain rfl : res = (Sn.zero, 80) := by rw [← HRES.out, if_pos h64]
    have HDZ := HD4
    have z0 := blk_cell HDZ.out.res 0 _ rfl
    have z1 := blk_cell HDZ.out.res 1 _ rfl
    have z2 := blk_cell HDZ.out.res 2 _ rfl
    have y0 := HDZ.out.fr 0
    have y1 := HDZ.out.fr 1
    have y2 := HDZ.out.fr 2
    go_wp2
    have hzz := blk_set3 HDZ.out.res (.int .i64 0) (.slice none 0 0) (.slice none 0 0)
    have t0 := blk_cell hzz 0 _ rfl
    have t1 := blk_cell hzz 1 _ rfl
    have t2 := blk_cell hzz 2 _ rfl
    refine bodyPost_ret (v := .tuple #[.agg #[.int .i64 0, .slice none 0 0, .slice none 0 0], .int .i64 80]) (by simp [results, Try.results10, go_sem, t0, t1, t2]) rfl ⟨_, rfl, snAt_zero _, HDZ.out.ext.set3 HDZ.out.o1 _ _ _⟩
  · have HRES2 := Lib.hid HRES.out
    rw [if_neg h64] at HRES2
    obtain ⟨N, rfl⟩ := Int.eq_ofNat_of_zero_le hn0
    rw [Int.toNat_natCast] at HRES2
    have hN : N ≤ 64 := by omega
    clear HRES hn0 hn1 h64 HY
    go_wp2
    go_loopw [26] (fun iv wr => ∃ (k : Nat) (l : List (Int × Int)) (a e : Int) (v : Value), k ≤ N ∧ iv = .int .i64 k ∧ Hid (snStP s a2 e2 k = (l, a, e)) ∧ DecI w g sb r0 s #[.int .i64 tm, v, .slice none 0 0] a e wr ∧ OwnRows 46 2 snPCells wr (sb + 1) v l) (fun iv _ => N - (intOf iv).toNat)
    case atStart => exact ⟨0, [], a2, e2, .slice none 0 0, by omega, rfl, Lib.hid rfl, HD4.out, OwnRows.nil _ _⟩
    case round =>
      clear HD4 hs4 w4
      obtain ⟨k, l, a, e, v, hk, rfl, HST, hd, ho⟩ := hrel
      have HD := Lib.hid hd
      have HO := Lib.hid ho
      have hll : l.length = k := by have := snStP_len s a2 e2 k; rw [HST.out] at this; exact this
      have hszr := blk_lt hd.box
      clear hd ho
      by_cases hlt : k < N
      · obtain ⟨⟨m, a5, e5⟩, hx5⟩ : ∃ p, Wi.num s a e = p := ⟨_, rfl⟩
        obtain ⟨⟨q, a6, e6⟩, hx6⟩ : ∃ p, Wi.num s a5 e5 = p := ⟨_, rfl⟩
        have HE : Hid (snStP s a2 e2 (k + 1) = (l ++ [(m, q)], a6, e6)) := Lib.hid (by unfold snStP; rw [HST.out]; simp only [hx5, hx6])
        have HX5 := Lib.hid hx5
        have HX6 := Lib.hid hx6
        have HLL := Lib.hid hll
        clear hx5 hx6 hll
        go_wp2_with fail
        refine (rdnum_eq _ s a e m a5 e5 HX5.out _ HD.out.rd HS.out).mono ?_
        rintro r w5 ⟨rfl, hrd, hu5⟩
        have HD5 := Lib.hid (HD.out.upd hu5 hrd)
        have HO5 := Lib.hid (HO.out.upd hu5 (by omega))
        clear hrd hu5 HD HO
        go_wp2_with fail
        refine (rdnum_eq _ s a5 e5 q a6 e6 HX6.out _ HD5.out.rd HS.out).mono ?_
        rintro r w6 ⟨rfl, hrd, hu6⟩
        have HD6 := Lib.hid (HD5.out.upd hu6 hrd)
        have HO6 := HO5.out.upd hu6 (by omega)
        have hs6 := blk_lt HD6.out.box
        have hrw : RowsAt 2 snPCells (w6.alloc (.cells #[.int .i64 m, .int .i64 q] 46)) (.slice (some ⟨w6.heap.size, 0, none⟩) [(m, q)].length 1) [(m, q)] := rows_one (f := snPCells) w6 (m, q) 46 _ rfl
        obtain ⟨v', w7, hr, ho7, hg7⟩ := OwnRows.append (P := Try.prog) 22 Try.underlying22 I0.out I1.out I2.out I3.out rfl (by decide) snPC_len snPC_one (HO6.alloc (.cells #[.int .i64 m, .int .i64 q] 46)) hrw (show l.length + 1 ≤ maxLen by unfold maxLen; have := HLL.out; omega) (show (l.length + 1) * 16 ≤ 140737488355328 by have := HLL.out; omega) (by rw [World.size_alloc]; omega)
        obtain ⟨A', n', c', rfl⟩ : ∃ A n c, v' = .slice A n c := by obtain ⟨A, c, h, _⟩ := (ho7.rows snPC_len).form; exact ⟨_, _, _, h⟩
        have HD7 := HD6.out.ex ((Ext.refl w6).alloc (.cells #[.int .i64 m, .int .i64 q] 46))
        have hrow : ∀ r, v.ownBlock = some r → sb < r := fun r hr => by have := (HO6.lt r hr).1; omega
        have HD8 := Lib.hid (HD7.put hg7 hrow 1 (.slice A' n' c'))
        have HO8 := Lib.hid (ho7.upd ((Upd.refl sb w7).set 1 (.slice A' n' c')) (by omega))
        have c1 := HD6.out.c0 1 v rfl
        have f1 : w7.frozen? ⟨sb, 1, none⟩ = false := frozen_of_row _ _ _ _ _ ((hg7.block sb (by rw [World.size_alloc]; omega) (fun he => by have := hrow sb he.symm; omega)).trans HD7.box)
        have d1 : w7.cell? ⟨sb, 1, none⟩ = some v := blk_cell ((hg7.block sb (by rw [World.size_alloc]; omega) (fun he => by have := hrow sb he.symm; omega)).trans HD7.box) 1 v rfl
        have HR := Lib.hid hr
        clear hr ho7 hg7 hrow hrw HD7 HO6 hrd hu6 HD5 HO5
        go_wp2_with (at_builtin; refine wpList_append_run rfl _ _ 22 rfl v _ rfl rfl HR.out ?_)
        go_roundw
        case rel => exact ⟨k + 1, _, a6, e6, .slice A' n' c', by omega, by go_num, HE, HD8.out, HO8.out⟩
        case measure => simp [intOf]; omega
      · obtain rfl : k = N := by omega
        obtain ⟨⟨n2, a4, e4⟩, hx4⟩ : ∃ p, Wi.num s a e = p := ⟨_, rfl⟩
        have hn2 := Wi.num_val s a e
        rw [hx4] at hn2
        simp only at hn2
        obtain ⟨hn20, hn21⟩ := hn2
        have hres2 := HRES2.out
        rw [HST.out] at hres2
        simp only [hx4] at hres2
        have HRES3 := Lib.hid hres2
        have HX4 := Lib.hid hx4
        have hl64 : l.length ≤ 64 := by omega
        clear hres2 hx4 HRES2 HST hll hlt
        go_wp2_with fail
        refine (rdnum_eq _ s a e n2 a4 e4 HX4.out _ HD.out.rd HS.out).mono ?_
        rintro r w5 ⟨rfl, hrd, hu5⟩
        have HD5 := Lib.hid (HD.out.upd hu5 hrd)
        have HO5 := Lib.hid (HO.out.upd hu5 (by omega))
        clear hrd hu5 HD HO HX4 hszr
        by_cases h1000 : 1000 < n2
        · obtain rfl : res = (Sn.zero, 80) := by rw [← HRES3.out, if_pos h1000]
          have HDZ := HD5
          have z0 := blk_cell HDZ.out.res 0 _ rfl
          have z1 := blk_cell HDZ.out.res 1 _ rfl
          have z2 := blk_cell HDZ.out.res 2 _ rfl
          have y0 := HDZ.out.fr 0
          have y1 := HDZ.out.fr 1
          have y2 := HDZ.out.fr 2
          go_wp2
          have hzz := blk_set3 HDZ.out.res (.int .i64 0) (.slice none 0 0) (.slice none 0 0)
          have t0 := blk_cell hzz 0 _ rfl
          have t1 := blk_cell hzz 1 _ rfl
          have t2 := blk_cell hzz 2 _ rfl
          refine bodyPost_ret (v := .tuple #[.agg #[.int .i64 0, .slice none 0 0, .slice none 0 0], .int .i64 80]) (by simp [results, Try.results10, go_sem, t0, t1, t2]) rfl ⟨_, rfl, snAt_zero _, HDZ.out.ext.set3 HDZ.out.o1 _ _ _⟩
        · have HRES4 := Lib.hid HRES3.out
          rw [if_neg h1000] at HRES4
          obtain ⟨N2, rfl⟩ := Int.eq_ofNat_of_zero_le hn20
          rw [Int.toNat_natCast] at HRES4
          have hN2 : N2 ≤ 1000 := by omega
          clear HRES3 hn20 hn21 h1000
          have hM5 := HO5.out.lt
          have hszb := blk_lt HD5.out.box
          obtain ⟨M, hM⟩ : ∃ m, w5.heap.size = m := ⟨_, rfl⟩
          rw [hM] at hM5 hszb
          have HM5 := Lib.hid hM5
          have HMZ : Hid (M ≤ w5.heap.size) := Lib.hid (by omega)
          clear hM5 hM
          go_wp2
          go_loopw [47] (fun iv wr => ∃ (k2 : Nat) (l2 : List Gs4) (a e : Int) (v2 : Value), k2 ≤ N2 ∧ iv = .int .i64 k2 ∧ Hid (snStG s a4 e4 k2 = (l2, a, e)) ∧ DecI w g sb r0 s #[.int .i64 tm, v, v2] a e wr ∧ OwnRows 46 2 snPCells wr (sb + 1) v l ∧ OwnRows 36 4 snGCells wr M v2 l2 ∧ M ≤ wr.heap.size) (fun iv _ => N2 - (intOf iv).toNat)
          case atStart => exact ⟨0, [], a4, e4, .slice none 0 0, by omega, rfl, Lib.hid rfl, HD5.out, HO5.out, OwnRows.nil _ _, HMZ.out⟩
          case round =>
            clear HD5 HO5 HMZ w5
            obtain ⟨k2, l2, a, e, v2, hk2, rfl, HST2, hd, ho, ho2, hMr⟩ := hrel
            have HD := Lib.hid hd
            have HO := Lib.hid ho
            have HO2 := Lib.hid ho2
            have hll2 : l2.length = k2 := by have := snStG_len s a4 e4 k2; rw [HST2.out] at this; exact this
            have hszr := blk_lt hd.box
            clear hd ho ho2
            by_cases hlt2 : k2 < N2
            · obtain ⟨⟨x0, a5, e5⟩, hx5⟩ : ∃ p, Wi.num s a e = p := ⟨_, rfl⟩
              obtain ⟨⟨x1, a6, e6⟩, hx6⟩ : ∃ p, Wi.num s a5 e5 = p := ⟨_, rfl⟩
              obtain ⟨⟨x2, a7, e7⟩, hx7⟩ : ∃ p, Wi.num s a6 e6 = p := ⟨_, rfl⟩
              obtain ⟨⟨x3, a8, e8⟩, hx8⟩ : ∃ p, Wi.num s a7 e7 = p := ⟨_, rfl⟩
              have HE : Hid (snStG s a4 e4 (k2 + 1) = (l2 ++ [(x0, x1, x2, x3)], a8, e8)) := Lib.hid (by unfold snStG; rw [HST2.out]; simp only [hx5, hx6, hx7, hx8])
              have HX5 := Lib.hid hx5
              have HX6 := Lib.hid hx6
              have HX7 := Lib.hid hx7
              have HX8 := Lib.hid hx8
              have HLL := Lib.hid hll2
              clear hx5 hx6 hx7 hx8 hll2
              go_wp2_with fail
              refine (rdnum_eq _ s a e x0 a5 e5 HX5.out _ HD.out.rd HS.out).mono ?_
              rintro r w5 ⟨rfl, hrd, hu5⟩
              have HD5 := Lib.hid (HD.out.upd hu5 hrd)
              have HO5 := Lib.hid (HO.out.upd hu5 (by omega))
              have HP5 := Lib.hid (HO2.out.upd hu5 (by omega))
              have hs5 := hu5.size
              clear hrd hu5 HD HO HO2
              go_wp2_with fail
              refine (rdnum_eq _ s a5 e5 x1 a6 e6 HX6.out _ HD5.out.rd HS.out).mono ?_
              rintro r w6 ⟨rfl, hrd, hu6⟩
              have HD6 := Lib.hid (HD5.out.upd hu6 hrd)
              have HO6 := Lib.hid (HO5.out.upd hu6 (by omega))
              have HP6 := Lib.hid (HP5.out.upd hu6 (by omega))
              have hs6 := hu6.size
              clear hrd hu6 HD5 HO5 HP5
              go_wp2_with fail
              refine (rdnum_eq _ s a6 e6 x2 a7 e7 HX7.out _ HD6.out.rd HS.out).mono ?_
              rintro r w7 ⟨rfl, hrd, hu7⟩
              have HD7 := Lib.hid (HD6.out.upd hu7 hrd)
              have HO7 := Lib.hid (HO6.out.upd hu7 (by omega))
              have HP7 := Lib.hid (HP6.out.upd hu7 (by omega))
              have hs7 := hu7.size
              clear hrd hu7 HD6 HO6 HP6
              go_wp2_with fail
              refine (rdnum_eq _ s a7 e7 x3 a8 e8 HX8.out _ HD7.out.rd HS.out).mono ?_
              rintro r w8 ⟨rfl, hrd, hu8⟩
              have HD8 := Lib.hid (HD7.out.upd hu8 hrd)
              have HO8 := Lib.hid (HO7.out.upd hu8 (by omega))
              have HP8 := HP7.out.upd hu8 (by omega)
              have hs8 := hu8.size
              clear hrd hu8 HD7 HO7 HP7
              have hrw : RowsAt 4 snGCells (w8.alloc (.cells #[.int .i64 x0, .int .i64 x1, .int .i64 x2, .int .i64 x3] 36)) (.slice (some ⟨w8.heap.size, 0, none⟩) [(x0, x1, x2, x3)].length 1) [(x0, x1, x2, x3)] := rows_one (f := snGCells) w8 (x0, x1, x2, x3) 36 _ rfl
              obtain ⟨v', w9, hr, ho9, hg9⟩ := OwnRows.append (P := Try.prog) 23 Try.underlying23 J0.out J1.out J2.out J3.out rfl (by decide) snGC_len snGC_one (HP8.alloc (.cells #[.int .i64 x0, .int .i64 x1, .int .i64 x2, .int .i64 x3] 36)) hrw (show l2.length + 1 ≤ maxLen by unfold maxLen; have := HLL.out; omega) (show (l2.length + 1) * 32 ≤ 140737488355328 by have := HLL.out; omega) (by rw [World.size_alloc]; omega)
              obtain ⟨A', n', c', rfl⟩ : ∃ A n c, v' = .slice A n c := by obtain ⟨A, c, h, _⟩ := (ho9.rows snGC_len).form; exact ⟨_, _, _, h⟩
              have HDa := HD8.out.ex ((Ext.refl w8).alloc (.cells #[.int .i64 x0, .int .i64 x1, .int .i64 x2, .int .i64 x3] 36))
              have hrow : ∀ r, v2.ownBlock = some r → sb < r := fun r hr => by have := (HP8.lt r hr).1; omega
              have HDb := Lib.hid (HDa.put hg9 hrow 2 (.slice A' n' c'))
              have HPb := Lib.hid (ho9.upd ((Upd.refl sb w9).set 2 (.slice A' n' c')) (by omega))
              have HOb := Lib.hid (((HO8.out.alloc (.cells #[.int .i64 x0, .int .i64 x1, .int .i64 x2, .int .i64 x3] 36)).kept hg9 (by
                cases hv : v.ownBlock with
                | none => exact .inl rfl
                | some j => right; intro he; have h1 := (HM5.out j hv).2; have h2 := (HP8.lt j he.symm).1; omega)).upd ((Upd.refl sb w9).set 2 (.slice A' n' c')) (by omega))
              have hsb : M ≤ (w9.setCell ⟨sb, 2, none⟩ (.slice A' n' c')).heap.size := by have h1 := hg9.size; have h2 := ((Upd.refl sb w9).set 2 (.slice A' n' c')).size; rw [World.size_alloc] at h1; omega
              have HSB := Lib.hid hsb
              have c1 := HD8.out.c0 2 v2 rfl
              have f1 : w9.frozen? ⟨sb, 2, none⟩ = false := frozen_of_row _ _ _ _ _ ((hg9.block sb (blk_lt HDa.box) (fun he => by have := hrow sb he.symm; omega)).trans HDa.box)
              have d1 : w9.cell? ⟨sb, 2, none⟩ = some v2 := blk_cell ((hg9.block sb (blk_lt HDa.box) (fun he => by have := hrow sb he.symm; omega)).trans HDa.box) 2 v2 rfl
              have HR := Lib.hid hr
              clear hr ho9 hg9 hrow hrw HDa HP8 hsb
              go_wp2_with (at_builtin; refine wpList_append_run rfl _ _ 23 rfl v2 _ rfl rfl HR.out ?_)
              go_roundw
              case rel => exact ⟨k2 + 1, _, a8, e8, .slice A' n' c', by omega, by go_num, HE, HDb.out, HOb.out, HPb.out, HSB.out⟩
              case measure => simp [intOf]; omega
            · obtain rfl : k2 = N2 := by omega
              have hres4 := HRES4.out
              rw [HST2.out] at hres4
              simp only at hres4
              have HRES5 := Lib.hid hres4
              clear hres4 HRES4 HST2 hlt2
              by_cases he : e = 0
              · subst he
                have HRES6 : Hid ((if Wi.fin s a 0 = true ∧ Sn.may ⟨tm, l, l2⟩ = true then ((⟨tm, l, l2⟩ : Sn), (0 : Int)) else (Sn.zero, 80)) = res) := Lib.hid (by rw [← HRES5.out]; simp)
                clear HRES5
                go_wp2_with fail
                refine (err_ok _ s a _ HD.out.rd).mono ?_
                rintro r w5 ⟨rfl, rfl⟩
                cases hf : Wi.fin s a 0 with
                | false =>
                  obtain rfl : res = (Sn.zero, 80) := by rw [← HRES6.out, hf]; simp
                  have HF := Lib.hid hf
                  clear hf HRES6
                  go_wp2_with fail
                  refine (done_any _ s a 0 _ HD.out.rd).mono ?_
                  rintro r w6 ⟨hr, nd, rfl⟩
                  rw [HF.out] at hr
                  subst hr
                  have HDZ := Lib.hid (HD.out.drewN nd)
                  clear HD HO HO2
                  have z0 := blk_cell HDZ.out.res 0 _ rfl
                  have z1 := blk_cell HDZ.out.res 1 _ rfl
                  have z2 := blk_cell HDZ.out.res 2 _ rfl
                  have y0 := HDZ.out.fr 0
                  have y1 := HDZ.out.fr 1
                  have y2 := HDZ.out.fr 2
                  go_wp2
                  have hzz := blk_set3 HDZ.out.res (.int .i64 0) (.slice none 0 0) (.slice none 0 0)
                  have t0 := blk_cell hzz 0 _ rfl
                  have t1 := blk_cell hzz 1 _ rfl
                  have t2 := blk_cell hzz 2 _ rfl
                  refine bodyPost_ret (v := .tuple #[.agg #[.int .i64 0, .slice none 0 0, .slice none 0 0], .int .i64 80]) (by simp [results, Try.results10, go_sem, t0, t1, t2]) rfl ⟨_, rfl, snAt_zero _, HDZ.out.ext.set3 HDZ.out.o1 _ _ _⟩
                | true =>
                  have HF := Lib.hid hf
                  have HRES7 : Hid ((if Sn.may ⟨tm, l, l2⟩ = true then ((⟨tm, l, l2⟩ : Sn), (0 : Int)) else (Sn.zero, 80)) = res) := Lib.hid (by rw [← HRES6.out, hf]; simp)
                  clear hf HRES6
                  go_wp2_with fail
                  refine (done_any _ s a 0 _ HD.out.rd).mono ?_
                  rintro r w6 ⟨hr, nd, rfl⟩
                  rw [HF.out] at hr
                  subst hr
                  have HD6 := Lib.hid (HD.out.drewN nd)
                  have hsn : ∃ A c B d, v = .slice A l.length c ∧ v2 = .slice B l2.length d ∧ RowsAt 2 snPCells (wr.drewN nd) (.slice A l.length c) l ∧ RowsAt 4 snGCells (wr.drewN nd) (.slice B l2.length d) l2 := by
                    obtain ⟨A, c, h1, _⟩ := (HO.out.rows snPC_len).form
                    obtain ⟨B, d, h2, _⟩ := (HO2.out.rows snGC_len).form
                    have h3 := (HO.out.rows snPC_len).ext ((Ext.refl wr).drewN nd)
                    have h4 := (HO2.out.rows snGC_len).ext ((Ext.refl wr).drewN nd)
                    rw [h1] at h3
                    rw [h2] at h4
                    exact ⟨A, c, B, d, h1, h2, h3, h4⟩
                  obtain ⟨A, c, B, d, rfl, rfl, hr1, hr2⟩ := hsn
                  have HSN : Hid (SnAt (wr.drewN nd) (.agg #[.int .i64 tm, .slice A l.length c, .slice B l2.length d]) ⟨tm, l, l2⟩) := Lib.hid ⟨A, c, B, d, rfl, hr1, hr2⟩
                  have HLL1 : Hid (l.length ≤ 10000) := Lib.hid (by omega)
                  have HO6 := Lib.hid (HO.out.ext ((Ext.refl wr).drewN nd))
                  have HP6 := Lib.hid (HO2.out.ext ((Ext.refl wr).drewN nd))
                  have HLL2 : Hid (l2.length ≤ 10000) := Lib.hid (by omega)
                  clear HD HO HO2 hr1 hr2 hll2
                  generalize hw6 : wr.drewN nd = w6 at *
                  clear hw6
                  have z0 := HD6.out.c0 0 _ rfl
                  have z1 := HD6.out.c0 1 _ rfl
                  have z2 := HD6.out.c0 2 _ rfl
                  go_wp2_with fail
                  refine (snmay_any _ ⟨tm, l, l2⟩ _ HSN.out HLL1.out HLL2.out).mono ?_
                  rintro r w7 ⟨hr, hx7⟩
                  clear z0 z1 z2
                  have HDZ := Lib.hid (HD6.out.ex hx7)
                  have HO7 := Lib.hid (HO6.out.ext hx7)
                  have HP7 := Lib.hid (HP6.out.ext hx7)
                  clear hx7 HD6 HSN HO6 HP6
                  cases hmay : Sn.may ⟨tm, l, l2⟩ with
                  | false =>
                    obtain rfl : res = (Sn.zero, 80) := by rw [← HRES7.out, hmay]; simp
                    rw [hmay] at hr
                    subst hr
                    clear hmay HRES7 HO7 HP7
                    have z0 := blk_cell HDZ.out.res 0 _ rfl
                    have z1 := blk_cell HDZ.out.res 1 _ rfl
                    have z2 := blk_cell HDZ.out.res 2 _ rfl
                    have y0 := HDZ.out.fr 0
                    have y1 := HDZ.out.fr 1
                    have y2 := HDZ.out.fr 2
                    go_wp2
                    have hzz := blk_set3 HDZ.out.res (.int .i64 0) (.slice none 0 0) (.slice none 0 0)
                    have t0 := blk_cell hzz 0 _ rfl
                    have t1 := blk_cell hzz 1 _ rfl
                    have t2 := blk_cell hzz 2 _ rfl
                    refine bodyPost_ret (v := .tuple #[.agg #[.int .i64 0, .slice none 0 0, .slice none 0 0], .int .i64 80]) (by simp [results, Try.results10, go_sem, t0, t1, t2]) rfl ⟨_, rfl, snAt_zero _, HDZ.out.ext.set3 HDZ.out.o1 _ _ _⟩
                  | true =>
                    obtain rfl : res = (⟨tm, l, l2⟩, 0) := by rw [← HRES7.out, hmay]; simp
                    rw [hmay] at hr
                    subst hr
                    clear hmay HRES7
                    have s0 := HDZ.out.c0 0 _ rfl
                    have s1 := HDZ.out.c0 1 _ rfl
                    have s2 := HDZ.out.c0 2 _ rfl
                    have z0 := blk_cell HDZ.out.res 0 _ rfl
                    have z1 := blk_cell HDZ.out.res 1 _ rfl
                    have z2 := blk_cell HDZ.out.res 2 _ rfl
                    have y0 := HDZ.out.fr 0
                    have y1 := HDZ.out.fr 1
                    have y2 := HDZ.out.fr 2
                    go_wp2
                    have hzz := blk_set3 HDZ.out.res (.int .i64 tm) (.slice A l.length c) (.slice B l2.length d)
                    have t0 := blk_cell hzz 0 _ rfl
                    have t1 := blk_cell hzz 1 _ rfl
                    have t2 := blk_cell hzz 2 _ rfl
                    refine bodyPost_ret (v := .tuple #[.agg #[.int .i64 tm, .slice A l.length c, .slice B l2.length d], .int .i64 0]) (by simp [results, Try.results10, go_sem, t0, t1, t2]) rfl ⟨_, rfl, ?_, HDZ.out.ext.set3 HDZ.out.o1 _ _ _⟩
                    have k1 := HDZ.out.o2
                    have k2 := HDZ.out.o3
                    exact ⟨A, c, B, d, rfl, (HO7.out.upd (Upd.set3 w7 _ _ _) (by omega)).rows snPC_len, (HP7.out.upd (Upd.set3 w7 _ _ _) (by omega)).rows snGC_len⟩
              · obtain rfl : res = (Sn.zero, e) := by rw [← HRES5.out, if_pos he]
                have he1 : (e != 0) = true := by simpa using he
                have HE := Lib.hid he
                clear HRES5 he
                go_wp2_with fail
                refine (err_no _ s a e _ HD.out.rd HE.out).mono ?_
                rintro r w5 ⟨rfl, nd, rfl⟩
                have HDZ := Lib.hid (HD.out.drewN nd)
                clear HD HO HO2
                have z0 := blk_cell HDZ.out.res 0 _ rfl
                have z1 := blk_cell HDZ.out.res 1 _ rfl
                have z2 := blk_cell HDZ.out.res 2 _ rfl
                have y0 := HDZ.out.fr 0
                have y1 := HDZ.out.fr 1
                have y2 := HDZ.out.fr 2
                go_wp2
                have hzz := blk_set3 HDZ.out.res (.int .i64 0) (.slice none 0 0) (.slice none 0 0)
                have t0 := blk_cell hzz 0 _ rfl
                have t1 := blk_cell hzz 1 _ rfl
                have t2 := blk_cell hzz 2 _ rfl
                refine bodyPost_ret (v := .tuple #[.agg #[.int .i64 0, .slice none 0 0, .slice none 0 0], .int .i64 e]) (by simp [results, Try.results10, go_sem, t0, t1, t2]) rfl ⟨_, rfl, snAt_zero _, HDZ.out.ext.set3 HDZ.out.o1 _ _ _⟩

end Go.Proofs.Ythkogcgdikgkaaa

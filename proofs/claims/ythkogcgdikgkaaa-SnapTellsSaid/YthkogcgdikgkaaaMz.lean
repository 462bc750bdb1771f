/-
  The contract of the document's Decode (layer 8).
-/
import Derived.Test.YthkogcgdikgkaaaMy
set_option linter.unusedVariables false
set_option linter.unusedSimpArgs false
namespace Go.Proofs.Ythkogcgdikgkaaa
open Go.RowKit Go.Maps

theorem qnum_k (g : Nat) (s : ByteArray) (a e m a1 e1 : Int) (hx : Wi.num s a e = (m, a1, e1)) (w : World) (h : RQ w g s a e) (hs : s.size ≤ maxLen) :
    Calls Try.prog 23 #[.pointer (some ⟨g, 0, none⟩)] w fun r w' => r = .returned (.int .i64 m) ∧ RQ w' g s a1 e1 ∧ Upd g w w' := by
  have := qnum_any g s a e w h hs; rw [hx] at this; exact this
theorem snStP_range (s : ByteArray) (a e : Int) (h0 : 0 ≤ a) (h1 : a ≤ s.size) : ∀ k, 0 ≤ (snStP s a e k).2.1 ∧ (snStP s a e k).2.1 ≤ s.size
  | 0 => ⟨h0, h1⟩
  | k + 1 => by
    have h := snStP_range s a e h0 h1 k
    have x := Wi.num_range s (snStP s a e k).2.1 (snStP s a e k).2.2 h.1 h.2
    exact Wi.num_range s _ _ x.1 x.2
theorem snStG_range (s : ByteArray) (a e : Int) (h0 : 0 ≤ a) (h1 : a ≤ s.size) : ∀ k, 0 ≤ (snStG s a e k).2.1 ∧ (snStG s a e k).2.1 ≤ s.size
  | 0 => ⟨h0, h1⟩
  | k + 1 => by
    have h := snStG_range s a e h0 h1 k
    have x := Wi.num_range s (snStG s a e k).2.1 (snStG s a e k).2.2 h.1 h.2
    have y := Wi.num_range s _ (Wi.num s (snStG s a e k).2.1 (snStG s a e k).2.2).2.2 x.1 x.2
    have z := Wi.num_range s _ (Wi.num s (Wi.num s (snStG s a e k).2.1 (snStG s a e k).2.2).2.1 (Wi.num s (snStG s a e k).2.1 (snStG s a e k).2.2).2.2).2.2 y.1 y.2
    exact Wi.num_range s _ _ z.1 z.2
/-- What stays along the document's decoding: the reader, the snap's box, the result's. -/
structure DecJ (w : World) (g sb r0 : Nat) (s : ByteArray) (bx : Array Value) (a e : Int) (wr : World) : Prop where
  rd : RQ wr g s a e
  box : wr.heap[sb]? = some (.cells bx 25 (0, 0))
  res : wr.heap[r0]? = some (.cells #[.int .i64 0, .slice none 0 0, .slice none 0 0] 25 (0, 0))
  ext : Ext w wr
  o1 : w.heap.size ≤ r0
  o2 : r0 < g
  o3 : g < sb
section
variable {w wr w' : World} {g sb r0 : Nat} {s : ByteArray} {bx : Array Value} {a e a1 e1 : Int}
theorem DecJ.upd (h : DecJ w g sb r0 s bx a e wr) (hu : Upd g wr w') (hr : RQ w' g s a1 e1) : DecJ w g sb r0 s bx a1 e1 w' :=
  ⟨hr, hu.blk h.box (by have := h.o3; omega), hu.blk h.res (by have := h.o2; omega), h.ext.upd hu (by have := h.o1; have := h.o2; omega), h.o1, h.o2, h.o3⟩
theorem DecJ.updp {p : Nat} (h : DecJ w g sb r0 s bx a e wr) (hu : Upd p wr w') (hp : sb < p) : DecJ w g sb r0 s bx a e w' :=
  ⟨h.rd.upd hu (by have := h.o3; omega), hu.blk h.box (by omega), hu.blk h.res (by have := h.o2; have := h.o3; omega), h.ext.upd hu (by have := h.o1; have := h.o2; have := h.o3; omega), h.o1, h.o2, h.o3⟩
theorem DecJ.put {row : Option Nat} (h : DecJ w g sb r0 s bx a e wr) (hu : wr.grownBy w' row) (hrow : ∀ r, row = some r → sb < r) (i : Nat) (u : Value) : DecJ w g sb r0 s (bx.setIfInBounds i u) a e (w'.setCell ⟨sb, i, none⟩ u) := by
  have keep : ∀ {b : Nat} {o : Obj}, b ≤ sb → wr.heap[b]? = some o → w'.heap[b]? = some o := fun {b o} hb ho => (hu.block b (blk_lt ho) (fun he => by have := hrow b he.symm; omega)).trans ho
  have o1 := h.o1
  have o2 := h.o2
  have o3 := h.o3
  refine ⟨blk_set_other (keep (by omega) h.rd) _ (by simp only; omega) _, blk_set (keep (Nat.le_refl _) h.box) i u, blk_set_other (keep (by omega) h.res) _ (by simp only; omega) _, ?_, o1, o2, o3⟩
  refine Ext.setCell (Below.grown h.ext hu h.ext.size fun r hr => ?_) (by simp only; omega) u
  have := hrow r hr
  omega
theorem DecJ.ex (h : DecJ w g sb r0 s bx a e wr) (hx : Ext wr w') : DecJ w g sb r0 s bx a e w' :=
  ⟨h.rd.ext hx, hx.blk h.box, hx.blk h.res, h.ext.trans hx, h.o1, h.o2, h.o3⟩
theorem DecJ.drewN (h : DecJ w g sb r0 s bx a e wr) (n : Nat) : DecJ w g sb r0 s bx a e (wr.drewN n) := ⟨h.rd.drewN n, h.box, h.res, h.ext.drewN n, h.o1, h.o2, h.o3⟩
theorem DecJ.c0 (h : DecJ w g sb r0 s bx a e wr) (i : Nat) (x : Value) (hx : bx[i]? = some x) : wr.cell? ⟨sb, i, none⟩ = some x := blk_cell h.box i x hx
theorem DecJ.fz (h : DecJ w g sb r0 s bx a e wr) (i : Nat) : wr.frozen? ⟨sb, i, none⟩ = false := frozen_of_row wr sb i _ _ h.box
theorem DecJ.fr (h : DecJ w g sb r0 s bx a e wr) (i : Nat) : wr.frozen? ⟨r0, i, none⟩ = false := frozen_of_row wr r0 i _ _ h.res
end
/-- What the region that answers an error keeps. -/
structure DecK (r0 g : Nat) (s : ByteArray) (a e : Int) (w : World) : Prop where
  res : w.heap[r0]? = some (.cells #[.int .i64 0, .slice none 0 0, .slice none 0 0] 25 (0, 0))
  rd : RQ w g s a e
theorem DecK.low {r0 g M : Nat} {s : ByteArray} {a e : Int} {w w' : World} (h : DecK r0 g s a e w) (hl : LowSame M w w') (hlt : r0 < M ∧ g < M) : DecK r0 g s a e w' := ⟨(hl r0 hlt.1).trans h.res, (hl g hlt.2).trans h.rd⟩
set_option maxRecDepth 100000 in
set_option maxHeartbeats 4000000 in
theorem rsndec_any (s : ByteArray) (w : World) (hs : s.size ≤ maxLen) :
    Calls Try.prog 11 #[.string s] w (SnDecPost w (snDec s)) := by
  obtain ⟨i0, I0', I1', I2', I3'⟩ := info_parts Try.infoPStat
  have I0 := Lib.hid I0'
  have I1 := Lib.hid I1'
  have I2 := Lib.hid I2'
  have I3 := Lib.hid I3'
  clear I0' I1' I2' I3'
  obtain ⟨j0, J0', J1', J2', J3'⟩ := info_parts Try.infoGStat
  have J0 := Lib.hid J0'
  have J1 := Lib.hid J1'
  have J2 := Lib.hid J2'
  have J3 := Lib.hid J3'
  clear J0' J1' J2' J3'
  obtain ⟨res, hres⟩ : ∃ r, snDec s = r := ⟨_, rfl⟩
  rw [hres]
  obtain ⟨⟨tm, a1, e1⟩, hx⟩ : ∃ p, Wi.num s 0 0 = p := ⟨_, rfl⟩
  obtain ⟨⟨n, a2, e2⟩, hy⟩ : ∃ p, Wi.num s a1 e1 = p := ⟨_, rfl⟩
  have hn := Wi.num_val s a1 e1
  rw [hy] at hn
  simp only at hn
  obtain ⟨hn0, hn1⟩ := hn
  have hr1 := Wi.num_range s 0 0 (by omega) (by omega)
  rw [hx] at hr1
  have hr2 := Wi.num_range s a1 e1 hr1.1 hr1.2
  rw [hy] at hr2
  have HR2 := Lib.hid hr2
  unfold snDec at hres
  simp only [hx, hy] at hres
  have HRES := Lib.hid hres
  have HX := Lib.hid hx
  have HY := Lib.hid hy
  have HS := Lib.hid hs
  clear hres hx hy hs hr1 hr2
  obtain ⟨r0, hr0⟩ : ∃ b, w.heap.size = b := ⟨_, rfl⟩
  obtain ⟨g, hg⟩ : ∃ b, r0 + 1 = b := ⟨_, rfl⟩
  obtain ⟨sb, hsb⟩ : ∃ b, g + 1 = b := ⟨_, rfl⟩
  obtain ⟨w3, hw3⟩ : ∃ v, ((w.alloc (.cells #[.int .i64 0, .slice none 0 0, .slice none 0 0] 25)).alloc (.cells #[.string s, .int .i64 0, .int .i64 0, .int .i64 0] 51)).alloc (.cells #[.int .i64 0, .slice none 0 0, .slice none 0 0] 25) = v := ⟨_, rfl⟩
  have HD3 : Hid (DecJ w g sb r0 s #[.int .i64 0, .slice none 0 0, .slice none 0 0] 0 0 w3) := Lib.hid (by
    have s1 : (w.alloc (.cells #[.int .i64 0, .slice none 0 0, .slice none 0 0] 25)).heap.size = g := by rw [World.size_alloc]; omega
    have s2 : ((w.alloc (.cells #[.int .i64 0, .slice none 0 0, .slice none 0 0] 25)).alloc (.cells #[.string s, .int .i64 0, .int .i64 0, .int .i64 0] 51)).heap.size = sb := by rw [World.size_alloc]; omega
    have b0 := blk_new w (.cells #[.int .i64 0, .slice none 0 0, .slice none 0 0] 25)
    have b1 := blk_new (w.alloc (.cells #[.int .i64 0, .slice none 0 0, .slice none 0 0] 25)) (.cells #[.string s, .int .i64 0, .int .i64 0, .int .i64 0] 51)
    have b2 := blk_new ((w.alloc (.cells #[.int .i64 0, .slice none 0 0, .slice none 0 0] 25)).alloc (.cells #[.string s, .int .i64 0, .int .i64 0, .int .i64 0] 51)) (.cells #[.int .i64 0, .slice none 0 0, .slice none 0 0] 25)
    rw [hr0] at b0
    rw [s1] at b1
    rw [s2] at b2
    rw [← hw3]
    exact ⟨blk_alloc b1 _, b2, blk_alloc (blk_alloc b0 _) _, (((Ext.refl w).alloc _).alloc _).alloc _, by omega, by omega, by omega⟩)
  have HO1 : Hid (w.heap.size = r0 ∧ r0 + 1 = g ∧ g + 1 = sb) := Lib.hid ⟨hr0, hg, hsb⟩
  have HW3 := Lib.hid hw3
  clear hr0 hg hsb hw3
  go_enter Try.func11, Try.ntmps11
  go_wp2_with fail
  rw [HW3.out]
  (try rw [HO1.out.1])
  (try rw [HO1.out.2.1])
  (try rw [HO1.out.2.2])
  clear HW3
  have hgsb : g < sb := by have := HO1.out.2.2; omega
  have hr0g : r0 < g := by have := HO1.out.2.1; omega
  have hwr0 : w.heap.size ≤ r0 := by have := HO1.out.1; omega
  clear HO1
  refine (qnum_k _ s 0 0 tm a1 e1 HX.out _ HD3.out.rd HS.out).mono ?_
  rintro r w4 ⟨rfl, hrd, hu4⟩
  have hd4 := HD3.out.upd hu4 hrd
  have HD4 := Lib.hid (hd4.put (World.grownBy.refl w4 none) (by simp) 0 (.int .i64 tm))
  have c0 := hd4.c0 0 _ rfl
  have f0 := hd4.fz 0
  clear hrd hu4 HD3 hd4 w3
  go_upto_region 4 with fail
  generalize w4.setCell ⟨sb, 0, none⟩ (.int .i64 tm) = w5 at *
  clear c0 f0 w4
  go_wp2_with fail
  refine (qnum_k _ s a1 e1 n a2 e2 HY.out _ HD4.out.rd HS.out).mono ?_
  rintro r w6 ⟨rfl, hrd, hu6⟩
  have HD6 : Hid (DecJ w g sb r0 s #[.int .i64 tm, .slice none 0 0, .slice none 0 0] a2 e2 w6) := Lib.hid (HD4.out.upd hu6 hrd)
  clear hrd hu6 HD4 w5
  by_cases h64 : 64 < n
  · obtain rfl : res = (Sn.zero, 80) := by rw [← HRES.out, if_pos h64]
    have HDZ := HD6
    have z0 := blk_cell HDZ.out.res 0 _ rfl
    have z1 := blk_cell HDZ.out.res 1 _ rfl
    have z2 := blk_cell HDZ.out.res 2 _ rfl
    have y0 := HDZ.out.fr 0
    have y1 := HDZ.out.fr 1
    have y2 := HDZ.out.fr 2
    go_wp2
    have hzz := blk_set3 HDZ.out.res (.int .i64 0) (.slice none 0 0) (.slice none 0 0)
    have t0 := blk_cell hzz 0 _ rfl
    have t1 := blk_cell hzz 1 _ rfl
    have t2 := blk_cell hzz 2 _ rfl
    refine bodyPost_ret (v := .tuple #[.agg #[.int .i64 0, .slice none 0 0, .slice none 0 0], .int .i64 80]) (by simp [results, Try.results11, go_sem, t0, t1, t2]) rfl ⟨_, rfl, snAt_zero _, HDZ.out.ext.set3 HDZ.out.o1 _ _ _⟩
  · have HRES2 := Lib.hid HRES.out
    rw [if_neg h64] at HRES2
    obtain ⟨N, rfl⟩ := Int.eq_ofNat_of_zero_le hn0
    rw [Int.toNat_natCast] at HRES2
    have hN : N ≤ 64 := by omega
    clear HRES hn0 hn1 h64 HY HX
    go_wp2
    go_loopw [7] (fun iv wr => ∃ (k : Nat) (l : List (Int × Int)) (a e : Int) (v : Value), k ≤ N ∧ iv = .int .i64 k ∧ Hid (snStP s a2 e2 k = (l, a, e)) ∧ DecJ w g sb r0 s #[.int .i64 tm, v, .slice none 0 0] a e wr ∧ OwnRows 46 2 snPCells wr (sb + 1) v l) (fun iv _ => N - (intOf iv).toNat)
    case atStart => exact ⟨0, [], a2, e2, .slice none 0 0, by omega, rfl, Lib.hid rfl, HD6.out, OwnRows.nil _ _⟩
    case round =>
      clear HD6 w6
      obtain ⟨k, l, a, e, v, hk, rfl, HST, hd, ho⟩ := hrel
      have HD := Lib.hid hd
      have HO := Lib.hid ho
      have hll : l.length = k := by have := snStP_len s a2 e2 k; rw [HST.out] at this; exact this
      have hszr := blk_lt hd.box
      clear hd ho
      by_cases hlt : k < N
      · obtain ⟨⟨m, a5, e5⟩, hx5⟩ : ∃ p, Wi.num s a e = p := ⟨_, rfl⟩
        obtain ⟨⟨q, a6, e6⟩, hx6⟩ : ∃ p, Wi.num s a5 e5 = p := ⟨_, rfl⟩
        have HE : Hid (snStP s a2 e2 (k + 1) = (l ++ [(m, q)], a6, e6)) := Lib.hid (by unfold snStP; rw [HST.out]; simp only [hx5, hx6])
        have HX5 := Lib.hid hx5
        have HX6 := Lib.hid hx6
        have HLL := Lib.hid hll
        clear hx5 hx6 hll
        obtain ⟨pb, hpb⟩ : ∃ b, wr.heap.size = b := ⟨_, rfl⟩
        have hpb1 : sb < pb := by omega
        have HVL : Hid (∀ j, v.ownBlock = some j → j ≠ pb) := Lib.hid fun j hj => by have := (HO.out.lt j hj).2; omega
        have HD3 := Lib.hid (HD.out.ex ((Ext.refl wr).alloc (.cells #[.int .i64 0, .int .i64 0] 46)))
        have HO3 := Lib.hid (HO.out.alloc (.cells #[.int .i64 0, .int .i64 0] 46))
        have HP3 : Hid ((wr.alloc (.cells #[.int .i64 0, .int .i64 0] 46)).heap[pb]? = some (.cells #[.int .i64 0, .int .i64 0] 46 (0, 0))) := Lib.hid (by rw [← hpb]; exact blk_new wr _)
        have HPB := Lib.hid hpb
        clear hpb HD HO
        go_upto_region 11 with fail
        (try rw [HPB.out])
        generalize wr.alloc (.cells #[.int .i64 0, .int .i64 0] 46) = w3 at *
        clear HPB
        go_wp2_with fail
        refine (qnum_k _ s a e m a5 e5 HX5.out _ HD3.out.rd HS.out).mono ?_
        rintro r vv0 ⟨rfl, hrd, huq⟩
        have hd0 := HD3.out.upd huq hrd
        have hp0 := huq.blk HP3.out (by omega)
        have HDq0 := Lib.hid (hd0.updp ((Upd.refl pb vv0).set 0 (.int .i64 m)) hpb1)
        have HOq0 := Lib.hid ((HO3.out.upd huq (by omega)).kept ((Upd.refl pb vv0).set 0 (.int .i64 m)) (by cases hv : v.ownBlock with | none => exact .inl rfl | some j => right; intro he; injection he with he; exact HVL.out j hv he))
        have HPq0 : Hid ((vv0.setCell ⟨pb, 0, none⟩ (.int .i64 m)).heap[pb]? = some (.cells #[.int .i64 m, .int .i64 0] 46 (0, 0))) := Lib.hid (blk_set hp0 0 _)
        have z0 := blk_cell hp0 0 _ rfl
        have y0 := frozen_of_row _ _ 0 _ _ hp0
        clear hrd huq HD3 HO3 HP3 hd0 hp0
        go_upto_region 12 with fail
        generalize vv0.setCell ⟨pb, 0, none⟩ (.int .i64 m) = ww0 at *
        clear z0 y0 vv0
        go_wp2_with fail
        refine (qnum_k _ s a5 e5 q a6 e6 HX6.out _ HDq0.out.rd HS.out).mono ?_
        rintro r vv1 ⟨rfl, hrd, huq⟩
        have hd1 := HDq0.out.upd huq hrd
        have hp1 := huq.blk HPq0.out (by omega)
        have HD8 := Lib.hid (hd1.updp ((Upd.refl pb vv1).set 1 (.int .i64 q)) hpb1)
        have HO8 := Lib.hid ((HOq0.out.upd huq (by omega)).kept ((Upd.refl pb vv1).set 1 (.int .i64 q)) (by cases hv : v.ownBlock with | none => exact .inl rfl | some j => right; intro he; injection he with he; exact HVL.out j hv he))
        have HP8 : Hid ((vv1.setCell ⟨pb, 1, none⟩ (.int .i64 q)).heap[pb]? = some (.cells #[.int .i64 m, .int .i64 q] 46 (0, 0))) := Lib.hid (blk_set hp1 1 _)
        have z1 := blk_cell hp1 1 _ rfl
        have y1 := frozen_of_row _ _ 1 _ _ hp1
        clear hrd huq HDq0 HOq0 HPq0 hd1 hp1
        go_upto_region 13 with fail
        generalize vv1.setCell ⟨pb, 1, none⟩ (.int .i64 q) = w8 at *
        clear z1 y1 vv1
        obtain ⟨v', w9, hr, ho9, hg9⟩ := OwnRows.append (P := Try.prog) 22 Try.underlying22 I0.out I1.out I2.out I3.out rfl (by decide) snPC_len snPC_one (HO8.out.alloc (.cells #[.int .i64 m, .int .i64 q] 46)) (show RowsAt 2 snPCells (w8.alloc (.cells #[.int .i64 m, .int .i64 q] 46)) (.slice (some ⟨w8.heap.size, 0, none⟩) [(m, q)].length 1) [(m, q)] from rows_one (f := snPCells) w8 (m, q) 46 _ rfl) (show l.length + 1 ≤ maxLen by unfold maxLen; have := HLL.out; omega) (show (l.length + 1) * 16 ≤ 140737488355328 by have := HLL.out; omega) (by rw [World.size_alloc]; have := blk_lt HD8.out.box; omega)
        obtain ⟨A', n', c', rfl⟩ : ∃ A n c, v' = .slice A n c := by obtain ⟨A, c, h, _⟩ := (ho9.rows snPC_len).form; exact ⟨_, _, _, h⟩
        have HD7 := HD8.out.ex ((Ext.refl w8).alloc (.cells #[.int .i64 m, .int .i64 q] 46))
        have hrow : ∀ r, v.ownBlock = some r → sb < r := fun r hr => by have := (HO8.out.lt r hr).1; omega
        have HDa := Lib.hid (HD7.put hg9 hrow 1 (.slice A' n' c'))
        have HOa := Lib.hid (ho9.upd ((Upd.refl sb w9).set 1 (.slice A' n' c')) (by omega))
        have c1 := HD8.out.c0 1 v rfl
        have hbx := (hg9.block sb (blk_lt HD7.box) (fun he => by have := hrow sb he.symm; omega)).trans HD7.box
        have f1 : w9.frozen? ⟨sb, 1, none⟩ = false := frozen_of_row _ _ _ _ _ hbx
        have d1 : w9.cell? ⟨sb, 1, none⟩ = some v := blk_cell hbx 1 v rfl
        have z0 := blk_cell HP8.out 0 _ rfl
        have z1 := blk_cell HP8.out 1 _ rfl
        have HR := Lib.hid hr
        clear hr ho9 hg9 hrow hbx HD7 HO8 HD8 HVL HP8
        go_wp2_with (at_builtin; refine wpList_append_run rfl _ _ 22 rfl v _ rfl rfl HR.out ?_)
        go_roundw
        case rel => exact ⟨k + 1, _, a6, e6, .slice A' n' c', by omega, by go_num, HE, HDa.out, HOa.out⟩
        case measure => simp [intOf]; omega
      · obtain rfl : k = N := by omega
        have HRa := Lib.hid (snStP_range s a2 e2 HR2.out.1 HR2.out.2 k)
        rw [HST.out] at HRa
        obtain ⟨⟨n2, a4, e4⟩, hx4⟩ : ∃ p, Wi.num s a e = p := ⟨_, rfl⟩
        have hn2 := Wi.num_val s a e
        have hr4 := Wi.num_range s a e HRa.out.1 HRa.out.2
        have hz4 := Wi.num_zero s a e
        rw [hx4] at hn2 hr4 hz4
        simp only at hn2 hr4 hz4
        obtain ⟨hn20, hn21⟩ := hn2
        have HR4 := Lib.hid hr4
        have HZ4 := Lib.hid hz4
        have hres2 := HRES2.out
        rw [HST.out] at hres2
        simp only [hx4] at hres2
        have HRES3 := Lib.hid hres2
        have HX4 := Lib.hid hx4
        have hl64 : l.length ≤ 64 := by omega
        clear hres2 hx4 HRES2 HST hll hlt hr4 hz4 HRa
        go_wp2_with fail
        refine (qnum_k _ s a e n2 a4 e4 HX4.out _ HD.out.rd HS.out).mono ?_
        rintro r w5 ⟨rfl, hrd, hu5⟩
        have HD5 : Hid (DecJ w g sb r0 s #[.int .i64 tm, v, .slice none 0 0] a4 e4 w5) := Lib.hid (HD.out.upd hu5 hrd)
        have HO5 := Lib.hid (HO.out.upd hu5 (by omega))
        clear hrd hu5 HD HO HX4 hszr
        have k2 := RR.c2 HD5.out.rd
        by_cases he4 : e4 = 0
        · subst he4
          by_cases h1000 : 1000 < n2
          · obtain rfl : res = (Sn.zero, 80) := by rw [← HRES3.out, if_pos h1000]
            have HDZ := HD5
            have z0 := blk_cell HDZ.out.res 0 _ rfl
            have z1 := blk_cell HDZ.out.res 1 _ rfl
            have z2 := blk_cell HDZ.out.res 2 _ rfl
            have y0 := HDZ.out.fr 0
            have y1 := HDZ.out.fr 1
            have y2 := HDZ.out.fr 2
            go_wp2
            have hzz := blk_set3 HDZ.out.res (.int .i64 0) (.slice none 0 0) (.slice none 0 0)
            have t0 := blk_cell hzz 0 _ rfl
            have t1 := blk_cell hzz 1 _ rfl
            have t2 := blk_cell hzz 2 _ rfl
            refine bodyPost_ret (v := .tuple #[.agg #[.int .i64 0, .slice none 0 0, .slice none 0 0], .int .i64 80]) (by simp [results, Try.results11, go_sem, t0, t1, t2]) rfl ⟨_, rfl, snAt_zero _, HDZ.out.ext.set3 HDZ.out.o1 _ _ _⟩
          · have HRES4 := Lib.hid HRES3.out
            rw [if_neg h1000] at HRES4
            obtain ⟨N2, rfl⟩ := Int.eq_ofNat_of_zero_le hn20
            rw [Int.toNat_natCast] at HRES4
            have hN2 : N2 ≤ 1000 := by omega
            clear HRES3 hn20 hn21 h1000 HZ4
            have hM5 := HO5.out.lt
            have hszb := blk_lt HD5.out.box
            obtain ⟨M, hM⟩ : ∃ m, w5.heap.size = m := ⟨_, rfl⟩
            rw [hM] at hM5 hszb
            have HM5 := Lib.hid hM5
            have HMZ : Hid (M ≤ w5.heap.size) := Lib.hid (by omega)
            clear hM5 hM
            go_wp2
            clear k2
            go_loopw [10] (fun iv wr => ∃ (k2 : Nat) (l2 : List Gs4) (a e : Int) (v2 : Value), k2 ≤ N2 ∧ iv = .int .i64 k2 ∧ Hid (snStG s a4 0 k2 = (l2, a, e)) ∧ DecJ w g sb r0 s #[.int .i64 tm, v, v2] a e wr ∧ OwnRows 46 2 snPCells wr (sb + 1) v l ∧ OwnRows 36 4 snGCells wr M v2 l2 ∧ M ≤ wr.heap.size) (fun iv _ => N2 - (intOf iv).toNat)
            case atStart => exact ⟨0, [], a4, 0, .slice none 0 0, by omega, rfl, Lib.hid rfl, HD5.out, HO5.out, OwnRows.nil _ _, HMZ.out⟩
            case round =>
              clear HD5 HO5 HMZ w5
              obtain ⟨k2, l2, a, e, v2, hk2, rfl, HST2, hd, ho, ho2, hMr⟩ := hrel
              have HD := Lib.hid hd
              have HO := Lib.hid ho
              have HO2 := Lib.hid ho2
              have hll2 : l2.length = k2 := by have := snStG_len s a4 0 k2; rw [HST2.out] at this; exact this
              have hszr := blk_lt hd.box
              clear hd ho ho2
              by_cases hlt2 : k2 < N2
              · obtain ⟨⟨x0, a5, e5⟩, hx5⟩ : ∃ p, Wi.num s a e = p := ⟨_, rfl⟩
                obtain ⟨⟨x1, a6, e6⟩, hx6⟩ : ∃ p, Wi.num s a5 e5 = p := ⟨_, rfl⟩
                obtain ⟨⟨x2, a7, e7⟩, hx7⟩ : ∃ p, Wi.num s a6 e6 = p := ⟨_, rfl⟩
                obtain ⟨⟨x3, a8, e8⟩, hx8⟩ : ∃ p, Wi.num s a7 e7 = p := ⟨_, rfl⟩
                have HE : Hid (snStG s a4 0 (k2 + 1) = (l2 ++ [(x0, x1, x2, x3)], a8, e8)) := Lib.hid (by unfold snStG; rw [HST2.out]; simp only [hx5, hx6, hx7, hx8])
                have HX5 := Lib.hid hx5
                have HX6 := Lib.hid hx6
                have HX7 := Lib.hid hx7
                have HX8 := Lib.hid hx8
                have HLL := Lib.hid hll2
                clear hx5 hx6 hx7 hx8 hll2
                obtain ⟨pb, hpb⟩ : ∃ b, wr.heap.size = b := ⟨_, rfl⟩
                have hpb1 : sb < pb := by omega
                have hMp : M ≤ pb := by omega
                have HVL : Hid (∀ j, v2.ownBlock = some j → j ≠ pb) := Lib.hid fun j hj => by have := (HO2.out.lt j hj).2; omega
                have HVE : Hid (∀ j, v.ownBlock = some j → j ≠ pb) := Lib.hid fun j hj => by have := (HO.out.lt j hj).2; omega
                have HD3 := Lib.hid (HD.out.ex ((Ext.refl wr).alloc (.cells #[.int .i64 0, .int .i64 0, .int .i64 0, .int .i64 0] 36)))
                have HO3 := Lib.hid (HO2.out.alloc (.cells #[.int .i64 0, .int .i64 0, .int .i64 0, .int .i64 0] 36))
                have HE3 := Lib.hid (HO.out.alloc (.cells #[.int .i64 0, .int .i64 0, .int .i64 0, .int .i64 0] 36))
                have HP3 : Hid ((wr.alloc (.cells #[.int .i64 0, .int .i64 0, .int .i64 0, .int .i64 0] 36)).heap[pb]? = some (.cells #[.int .i64 0, .int .i64 0, .int .i64 0, .int .i64 0] 36 (0, 0))) := Lib.hid (by rw [← hpb]; exact blk_new wr _)
                have HPB := Lib.hid hpb
                clear hpb HD HO HO2
                go_upto_region 23 with fail
                (try rw [HPB.out])
                generalize wr.alloc (.cells #[.int .i64 0, .int .i64 0, .int .i64 0, .int .i64 0] 36) = w3 at *
                clear HPB
                go_wp2_with fail
                refine (qnum_k _ s a e x0 a5 e5 HX5.out _ HD3.out.rd HS.out).mono ?_
                rintro r vv0 ⟨rfl, hrd, huq⟩
                have hd0 := HD3.out.upd huq hrd
                have hp0 := huq.blk HP3.out (by omega)
                have HDq0 := Lib.hid (hd0.updp ((Upd.refl pb vv0).set 0 (.int .i64 x0)) hpb1)
                have HOq0 := Lib.hid ((HO3.out.upd huq (by omega)).kept ((Upd.refl pb vv0).set 0 (.int .i64 x0)) (by cases hv : v2.ownBlock with | none => exact .inl rfl | some j => right; intro he; injection he with he; exact HVL.out j hv he))
                have HEq0 := Lib.hid ((HE3.out.upd huq (by omega)).kept ((Upd.refl pb vv0).set 0 (.int .i64 x0)) (by cases hv : v.ownBlock with | none => exact .inl rfl | some j => right; intro he; injection he with he; exact HVE.out j hv he))
                have HPq0 : Hid ((vv0.setCell ⟨pb, 0, none⟩ (.int .i64 x0)).heap[pb]? = some (.cells #[.int .i64 x0, .int .i64 0, .int .i64 0, .int .i64 0] 36 (0, 0))) := Lib.hid (blk_set hp0 0 _)
                have z0 := blk_cell hp0 0 _ rfl
                have y0 := frozen_of_row _ _ 0 _ _ hp0
                clear hrd huq HD3 HO3 HP3 hd0 hp0 HE3
                go_upto_region 24 with fail
                generalize vv0.setCell ⟨pb, 0, none⟩ (.int .i64 x0) = ww0 at *
                clear z0 y0 vv0
                go_wp2_with fail
                refine (qnum_k _ s a5 e5 x1 a6 e6 HX6.out _ HDq0.out.rd HS.out).mono ?_
                rintro r vv1 ⟨rfl, hrd, huq⟩
                have hd1 := HDq0.out.upd huq hrd
                have hp1 := huq.blk HPq0.out (by omega)
                have HDq1 := Lib.hid (hd1.updp ((Upd.refl pb vv1).set 1 (.int .i64 x1)) hpb1)
                have HOq1 := Lib.hid ((HOq0.out.upd huq (by omega)).kept ((Upd.refl pb vv1).set 1 (.int .i64 x1)) (by cases hv : v2.ownBlock with | none => exact .inl rfl | some j => right; intro he; injection he with he; exact HVL.out j hv he))
                have HEq1 := Lib.hid ((HEq0.out.upd huq (by omega)).kept ((Upd.refl pb vv1).set 1 (.int .i64 x1)) (by cases hv : v.ownBlock with | none => exact .inl rfl | some j => right; intro he; injection he with he; exact HVE.out j hv he))
                have HPq1 : Hid ((vv1.setCell ⟨pb, 1, none⟩ (.int .i64 x1)).heap[pb]? = some (.cells #[.int .i64 x0, .int .i64 x1, .int .i64 0, .int .i64 0] 36 (0, 0))) := Lib.hid (blk_set hp1 1 _)
                have z1 := blk_cell hp1 1 _ rfl
                have y1 := frozen_of_row _ _ 1 _ _ hp1
                clear hrd huq HDq0 HOq0 HPq0 hd1 hp1 HEq0
                go_upto_region 25 with fail
                generalize vv1.setCell ⟨pb, 1, none⟩ (.int .i64 x1) = ww1 at *
                clear z1 y1 vv1
                go_wp2_with fail
                refine (qnum_k _ s a6 e6 x2 a7 e7 HX7.out _ HDq1.out.rd HS.out).mono ?_
                rintro r vv2 ⟨rfl, hrd, huq⟩
                have hd2 := HDq1.out.upd huq hrd
                have hp2 := huq.blk HPq1.out (by omega)
                have HDq2 := Lib.hid (hd2.updp ((Upd.refl pb vv2).set 2 (.int .i64 x2)) hpb1)
                have HOq2 := Lib.hid ((HOq1.out.upd huq (by omega)).kept ((Upd.refl pb vv2).set 2 (.int .i64 x2)) (by cases hv : v2.ownBlock with | none => exact .inl rfl | some j => right; intro he; injection he with he; exact HVL.out j hv he))
                have HEq2 := Lib.hid ((HEq1.out.upd huq (by omega)).kept ((Upd.refl pb vv2).set 2 (.int .i64 x2)) (by cases hv : v.ownBlock with | none => exact .inl rfl | some j => right; intro he; injection he with he; exact HVE.out j hv he))
                have HPq2 : Hid ((vv2.setCell ⟨pb, 2, none⟩ (.int .i64 x2)).heap[pb]? = some (.cells #[.int .i64 x0, .int .i64 x1, .int .i64 x2, .int .i64 0] 36 (0, 0))) := Lib.hid (blk_set hp2 2 _)
                have z2 := blk_cell hp2 2 _ rfl
                have y2 := frozen_of_row _ _ 2 _ _ hp2
                clear hrd huq HDq1 HOq1 HPq1 hd2 hp2 HEq1
                go_upto_region 26 with fail
                generalize vv2.setCell ⟨pb, 2, none⟩ (.int .i64 x2) = ww2 at *
                clear z2 y2 vv2
                go_wp2_with fail
                refine (qnum_k _ s a7 e7 x3 a8 e8 HX8.out _ HDq2.out.rd HS.out).mono ?_
                rintro r vv3 ⟨rfl, hrd, huq⟩
                have hd3 := HDq2.out.upd huq hrd
                have hp3 := huq.blk HPq2.out (by omega)
                have HD8 := Lib.hid (hd3.updp ((Upd.refl pb vv3).set 3 (.int .i64 x3)) hpb1)
                have HO8 := Lib.hid ((HOq2.out.upd huq (by omega)).kept ((Upd.refl pb vv3).set 3 (.int .i64 x3)) (by cases hv : v2.ownBlock with | none => exact .inl rfl | some j => right; intro he; injection he with he; exact HVL.out j hv he))
                have HE8 := Lib.hid ((HEq2.out.upd huq (by omega)).kept ((Upd.refl pb vv3).set 3 (.int .i64 x3)) (by cases hv : v.ownBlock with | none => exact .inl rfl | some j => right; intro he; injection he with he; exact HVE.out j hv he))
                have HP8 : Hid ((vv3.setCell ⟨pb, 3, none⟩ (.int .i64 x3)).heap[pb]? = some (.cells #[.int .i64 x0, .int .i64 x1, .int .i64 x2, .int .i64 x3] 36 (0, 0))) := Lib.hid (blk_set hp3 3 _)
                have z3 := blk_cell hp3 3 _ rfl
                have y3 := frozen_of_row _ _ 3 _ _ hp3
                clear hrd huq HDq2 HOq2 HPq2 hd3 hp3 HEq2
                go_upto_region 27 with fail
                generalize vv3.setCell ⟨pb, 3, none⟩ (.int .i64 x3) = w8 at *
                clear z3 y3 vv3
                have hp8 := blk_lt HP8.out
                obtain ⟨v', w9, hr, ho9, hg9⟩ := OwnRows.append (P := Try.prog) 23 Try.underlying23 J0.out J1.out J2.out J3.out rfl (by decide) snGC_len snGC_one (HO8.out.alloc (.cells #[.int .i64 x0, .int .i64 x1, .int .i64 x2, .int .i64 x3] 36)) (show RowsAt 4 snGCells (w8.alloc (.cells #[.int .i64 x0, .int .i64 x1, .int .i64 x2, .int .i64 x3] 36)) (.slice (some ⟨w8.heap.size, 0, none⟩) [(x0, x1, x2, x3)].length 1) [(x0, x1, x2, x3)] from rows_one (f := snGCells) w8 (x0, x1, x2, x3) 36 _ rfl) (show l2.length + 1 ≤ maxLen by unfold maxLen; have := HLL.out; omega) (show (l2.length + 1) * 32 ≤ 140737488355328 by have := HLL.out; omega) (by rw [World.size_alloc]; omega)
                obtain ⟨A', n', c', rfl⟩ : ∃ A n c, v' = .slice A n c := by obtain ⟨A, c, h, _⟩ := (ho9.rows snGC_len).form; exact ⟨_, _, _, h⟩
                have HD7 := HD8.out.ex ((Ext.refl w8).alloc (.cells #[.int .i64 x0, .int .i64 x1, .int .i64 x2, .int .i64 x3] 36))
                have hrow : ∀ r, v2.ownBlock = some r → sb < r := fun r hr => by have := (HO8.out.lt r hr).1; omega
                have HDa := Lib.hid (HD7.put hg9 hrow 2 (.slice A' n' c'))
                have HOa := Lib.hid (ho9.upd ((Upd.refl sb w9).set 2 (.slice A' n' c')) (by omega))
                have HEa := Lib.hid (((HE8.out.alloc (.cells #[.int .i64 x0, .int .i64 x1, .int .i64 x2, .int .i64 x3] 36)).kept hg9 (by
                  cases hv : v.ownBlock with
                  | none => exact .inl rfl
                  | some j => right; intro he; have h1 := (HM5.out j hv).2; have h2 := (HO8.out.lt j he.symm).1; omega)).upd ((Upd.refl sb w9).set 2 (.slice A' n' c')) (by omega))
                have HSB : Hid (M ≤ (w9.setCell ⟨sb, 2, none⟩ (.slice A' n' c')).heap.size) := Lib.hid (by have h1 := hg9.size; have h2 := ((Upd.refl sb w9).set 2 (.slice A' n' c')).size; rw [World.size_alloc] at h1; omega)
                have c1 := HD8.out.c0 2 v2 rfl
                have hbx := (hg9.block sb (blk_lt HD7.box) (fun he => by have := hrow sb he.symm; omega)).trans HD7.box
                have f1 : w9.frozen? ⟨sb, 2, none⟩ = false := frozen_of_row _ _ _ _ _ hbx
                have d1 : w9.cell? ⟨sb, 2, none⟩ = some v2 := blk_cell hbx 2 v2 rfl
                have z0 := blk_cell HP8.out 0 _ rfl
                have z1 := blk_cell HP8.out 1 _ rfl
                have z2 := blk_cell HP8.out 2 _ rfl
                have z3 := blk_cell HP8.out 3 _ rfl
                have HR := Lib.hid hr
                clear hr ho9 hg9 hrow hbx HD7 HO8 HD8 HE8 HVL HVE HP8
                go_wp2_with (at_builtin; refine wpList_append_run rfl _ _ 23 rfl v2 _ rfl rfl HR.out ?_)
                go_roundw
                case rel => exact ⟨k2 + 1, _, a8, e8, .slice A' n' c', by omega, by go_num, HE, HDa.out, HEa.out, HOa.out, HSB.out⟩
                case measure => simp [intOf]; omega
              · obtain rfl : k2 = N2 := by omega
                have HRb := Lib.hid (snStG_range s a4 0 HR4.out.1 HR4.out.2 k2)
                rw [HST2.out] at HRb
                have hres4 := HRES4.out
                rw [HST2.out] at hres4
                simp only at hres4
                have HRES5 := Lib.hid hres4
                clear hres4 HRES4 HST2 hlt2
                have k2 := RR.c2 HD.out.rd
                by_cases he : e = 0
                · subst he
                  have hra := HRb.out
                  simp only at hra
                  have HRES6 : Hid ((if Wi.fin s a 0 = true ∧ Sn.may ⟨tm, l, l2⟩ = true then ((⟨tm, l, l2⟩ : Sn), (0 : Int)) else (Sn.zero, 80)) = res) := Lib.hid (by rw [← HRES5.out]; simp)
                  clear HRES5 HRb
                  have k1 := RR.c1 HD.out.rd
                  by_cases hfin : a < (s.size : Int)
                  · obtain rfl : res = (Sn.zero, 80) := by
                      rw [← HRES6.out, if_neg]
                      intro h
                      have := h.1
                      unfold Wi.fin at this
                      simp at this
                      omega
                    clear HRES6 hra
                    have HDZ := HD
                    have z0 := blk_cell HDZ.out.res 0 _ rfl
                    have z1 := blk_cell HDZ.out.res 1 _ rfl
                    have z2 := blk_cell HDZ.out.res 2 _ rfl
                    have y0 := HDZ.out.fr 0
                    have y1 := HDZ.out.fr 1
                    have y2 := HDZ.out.fr 2
                    go_wp2
                    have hzz := blk_set3 HDZ.out.res (.int .i64 0) (.slice none 0 0) (.slice none 0 0)
                    have t0 := blk_cell hzz 0 _ rfl
                    have t1 := blk_cell hzz 1 _ rfl
                    have t2 := blk_cell hzz 2 _ rfl
                    refine bodyPost_ret (v := .tuple #[.agg #[.int .i64 0, .slice none 0 0, .slice none 0 0], .int .i64 80]) (by simp [results, Try.results11, go_sem, t0, t1, t2]) rfl ⟨_, rfl, snAt_zero _, HDZ.out.ext.set3 HDZ.out.o1 _ _ _⟩
                  · obtain rfl : a = (s.size : Int) := by omega
                    have HRES7 : Hid ((if Sn.may ⟨tm, l, l2⟩ = true then ((⟨tm, l, l2⟩ : Sn), (0 : Int)) else (Sn.zero, 80)) = res) := Lib.hid (by rw [← HRES6.out]; simp [Wi.fin])
                    clear HRES6 hfin hra
                    have hsn : ∃ A c B d, v = .slice A l.length c ∧ v2 = .slice B l2.length d ∧ RowsAt 2 snPCells wr (.slice A l.length c) l ∧ RowsAt 4 snGCells wr (.slice B l2.length d) l2 := by
                      obtain ⟨A, c, h1, _⟩ := (HO.out.rows snPC_len).form
                      obtain ⟨B, d, h2, _⟩ := (HO2.out.rows snGC_len).form
                      have h3 := HO.out.rows snPC_len
                      have h4 := HO2.out.rows snGC_len
                      rw [h1] at h3
                      rw [h2] at h4
                      exact ⟨A, c, B, d, h1, h2, h3, h4⟩
                    obtain ⟨A, c, B, d, rfl, rfl, hr1, hr2⟩ := hsn
                    have HSN : Hid (SnAt wr (.agg #[.int .i64 tm, .slice A l.length c, .slice B l2.length d]) ⟨tm, l, l2⟩) := Lib.hid ⟨A, c, B, d, rfl, hr1, hr2⟩
                    have HLL1 : Hid (l.length ≤ 10000) := Lib.hid (by omega)
                    have HLL2 : Hid (l2.length ≤ 10000) := Lib.hid (by omega)
                    clear hr1 hr2 hll2
                    have z0 := HD.out.c0 0 _ rfl
                    have z1 := HD.out.c0 1 _ rfl
                    have z2 := HD.out.c0 2 _ rfl
                    obtain ⟨mb, hmb⟩ : ∃ b, Sn.may ⟨tm, l, l2⟩ = b := ⟨_, rfl⟩
                    have HMB := Lib.hid hmb
                    clear hmb
                    go_wp2_with fail
                    refine (rsnmay_k _ ⟨tm, l, l2⟩ mb _ HMB.out HSN.out HLL1.out HLL2.out).mono ?_
                    rintro r w7 ⟨rfl, hx7⟩
                    clear z0 z1 z2 k1 k2
                    have HDZ := Lib.hid (HD.out.ex hx7)
                    have HO7 := Lib.hid (HO.out.ext hx7)
                    have HP7 := Lib.hid (HO2.out.ext hx7)
                    clear hx7 HD HSN HO HO2
                    cases mb with
                    | false =>
                      obtain rfl : res = (Sn.zero, 80) := by rw [← HRES7.out, HMB.out]; simp
                      clear HMB HRES7 HO7 HP7
                      have z0 := blk_cell HDZ.out.res 0 _ rfl
                      have z1 := blk_cell HDZ.out.res 1 _ rfl
                      have z2 := blk_cell HDZ.out.res 2 _ rfl
                      have y0 := HDZ.out.fr 0
                      have y1 := HDZ.out.fr 1
                      have y2 := HDZ.out.fr 2
                      go_wp2
                      have hzz := blk_set3 HDZ.out.res (.int .i64 0) (.slice none 0 0) (.slice none 0 0)
                      have t0 := blk_cell hzz 0 _ rfl
                      have t1 := blk_cell hzz 1 _ rfl
                      have t2 := blk_cell hzz 2 _ rfl
                      refine bodyPost_ret (v := .tuple #[.agg #[.int .i64 0, .slice none 0 0, .slice none 0 0], .int .i64 80]) (by simp [results, Try.results11, go_sem, t0, t1, t2]) rfl ⟨_, rfl, snAt_zero _, HDZ.out.ext.set3 HDZ.out.o1 _ _ _⟩
                    | true =>
                      obtain rfl : res = (⟨tm, l, l2⟩, 0) := by rw [← HRES7.out, HMB.out]; simp
                      clear HMB HRES7
                      have s0 := HDZ.out.c0 0 _ rfl
                      have s1 := HDZ.out.c0 1 _ rfl
                      have s2 := HDZ.out.c0 2 _ rfl
                      have z0 := blk_cell HDZ.out.res 0 _ rfl
                      have z1 := blk_cell HDZ.out.res 1 _ rfl
                      have z2 := blk_cell HDZ.out.res 2 _ rfl
                      have y0 := HDZ.out.fr 0
                      have y1 := HDZ.out.fr 1
                      have y2 := HDZ.out.fr 2
                      go_wp2
                      have hzz := blk_set3 HDZ.out.res (.int .i64 tm) (.slice A l.length c) (.slice B l2.length d)
                      have t0 := blk_cell hzz 0 _ rfl
                      have t1 := blk_cell hzz 1 _ rfl
                      have t2 := blk_cell hzz 2 _ rfl
                      refine bodyPost_ret (v := .tuple #[.agg #[.int .i64 tm, .slice A l.length c, .slice B l2.length d], .int .i64 0]) (by simp [results, Try.results11, go_sem, t0, t1, t2]) rfl ⟨_, rfl, ?_, HDZ.out.ext.set3 HDZ.out.o1 _ _ _⟩
                      have k1 := HDZ.out.o2
                      have k2 := HDZ.out.o3
                      exact ⟨A, c, B, d, rfl, (HO7.out.upd (Upd.set3 w7 _ _ _) (by omega)).rows snPC_len, (HP7.out.upd (Upd.set3 w7 _ _ _) (by omega)).rows snGC_len⟩
                · obtain rfl : res = (Sn.zero, e) := by rw [← HRES5.out, if_pos he]
                  have hb : (e != 0) = true := by simpa using he
                  have HDZ := HD
                  clear HRES5 he HD HO HO2 HRb
                  go_wp2
                  clear k2
                  have hdk : DecK r0 g s a e wr := ⟨HDZ.out.res, HDZ.out.rd⟩
                  have hlt3 : r0 < wr.heap.size ∧ g < wr.heap.size := ⟨blk_lt HDZ.out.res, RR.lt HDZ.out.rd⟩
                  have hxz := HDZ.out.ext
                  refine region_rgz ([(5, (fun u => u = undef : Value → Prop), (fun _ _ => True : (Nat → GV) → World → Prop))]) (w) (wr.heap.size) (r0) (5) (fun w => DecK r0 g s a e w) ([]) (by kernel_rfl) (by kernel_rfl) ?_ ?_ (by omega) (fun w w2 hl hk => by first | (obtain ⟨x, hx⟩ := hk; exact ⟨x, (hl _ (by omega)).trans hx⟩) | exact hk.low hl (by assumption)) ?_ ?_ ?_ ?_
                  · exact List.forall_mem_nil _
                  · exact List.forall_mem_cons.2 ⟨⟨⟨_, rfl⟩, fun _ _ _ _ _ => trivial, fun _ _ _ _ _ => trivial, List.forall_mem_nil _, fun hne => absurd rfl hne⟩, List.forall_mem_nil _⟩
                  · first | assumption | exact Ext.refl _
                  · first | assumption | omega
                  · assumption
                  refine rg_pure (v := ?_) rfl (by kernel_rfl) (by kernel_rfl) (fun w hS hN => ?_) ?_
                  rotate_left 1
                  · obtain ⟨hS, hM, hK⟩ := hS
                    clear hN
                    go_simp
                    refine givesP_mk ?_
                    with_reducible rfl
                  refine rg_pure (v := ?_) rfl (by kernel_rfl) (by kernel_rfl) (fun w hS hN => ?_) ?_
                  rotate_left 1
                  · obtain ⟨hS, hM, hK⟩ := hS
                    clear hN
                    go_simp
                    refine givesP_mk ?_
                    with_reducible rfl
                  refine rg_pure (v := ?_) rfl (by kernel_rfl) (by kernel_rfl) (fun w hS hN => ?_) ?_
                  rotate_left 1
                  · obtain ⟨hS, hM, hK⟩ := hS
                    clear hN
                    go_simp
                    refine givesP_mk ?_
                    with_reducible rfl
                  refine rg_pure (v := ?_) rfl (by kernel_rfl) (by kernel_rfl) (fun w hS hN => ?_) ?_
                  rotate_left 1
                  · obtain ⟨hS, hM, hK⟩ := hS
                    clear hN
                    go_simp
                    refine givesP_mk ?_
                    with_reducible rfl
                  refine rg_pure (v := ?_) rfl (by kernel_rfl) (by kernel_rfl) (fun w hS hN => ?_) ?_
                  rotate_left 1
                  · obtain ⟨hS, hM, hK⟩ := hS
                    have k2 := RR.c2 hK.rd
                    clear hN
                    go_simp
                    refine givesP_mk ?_
                    with_reducible rfl
                  refine rg_mem (fun u => u = undef : Value → Prop) (fun _ _ => True : (Nat → GV) → World → Prop) (fun _ w w2 => Upd (r0) w w2 ∧ (fun w => DecK r0 g s a e w : World → Prop) w2) rfl rfl rfl rfl (by kernel_rfl) (by kernel_rfl) (fun w hS hN R hR => ?_) ?_
                  · obtain ⟨hS, hM, hK⟩ := hS
                    have HR := Lib.hid hR
                    clear hR
                    have z0 := blk_cell hK.res 0 _ rfl
                    have z1 := blk_cell hK.res 1 _ rfl
                    have z2 := blk_cell hK.res 2 _ rfl
                    have y0 := frozen_of_row _ _ 0 _ _ hK.res
                    have y1 := frozen_of_row _ _ 1 _ _ hK.res
                    have y2 := frozen_of_row _ _ 2 _ _ hK.res
                    have hz := blk_set3 hK.res (.int .i64 0) (.slice none 0 0) (.slice none 0 0)
                    have hq := hK.rd.upd (Upd.set3 (k := r0) w (.int .i64 0) (.slice none 0 0) (.slice none 0 0)) (by omega)
                    have HZ := Lib.hid hz
                    have HQ := Lib.hid hq
                    clear hz hq
                    (try clear hN)
                    go_simp
                    refine givesM_skipz (HR.out _ _ rfl trivial ⟨Upd.set3 _ _ _ _, ⟨HZ.out, HQ.out⟩⟩)
                  rintro u5 s5 t5 rfl
                  refine rg_pure (v := ?_) rfl (by kernel_rfl) (by kernel_rfl) (fun w hS hN => ?_) ?_
                  rotate_left 1
                  · obtain ⟨hS, hM, hK⟩ := hS
                    clear hN
                    go_simp
                    refine givesP_mk ?_
                    with_reducible rfl
                  refine rg_done rfl (Nat.le_of_ble_eq_true (by kernel_rfl)) ?_
                  intro w8 hS hT
                  have hres8 := hS.2.2.res
                  have t0 := blk_cell hres8 0 _ rfl
                  have t1 := blk_cell hres8 1 _ rfl
                  have t2 := blk_cell hres8 2 _ rfl
                  go_simp
                  go_wp2
                  refine bodyPost_ret (v := .tuple #[.agg #[.int .i64 0, .slice none 0 0, .slice none 0 0], .int .i64 e]) (by simp [results, Try.results11, go_sem, t0, t1, t2]) rfl ⟨_, rfl, snAt_zero _, hS.1⟩
        · have HRES4 : Hid ((Sn.zero, e4) = res) := Lib.hid (by
            rw [← HRES3.out, HZ4.out he4]
            rw [if_neg (by omega), show (0 : Int).toNat = 0 from rfl]
            simp [snStG, he4])
          obtain rfl := HRES4.out
          have hb : (e4 != 0) = true := by simpa using he4
          have HDZ := HD5
          clear HRES3 HRES4 he4 HD5 HO5 hn20 hn21 HZ4
          go_wp2
          clear k2
          have hdk : DecK r0 g s a4 e4 w5 := ⟨HDZ.out.res, HDZ.out.rd⟩
          have hlt3 : r0 < w5.heap.size ∧ g < w5.heap.size := ⟨blk_lt HDZ.out.res, RR.lt HDZ.out.rd⟩
          have hxz := HDZ.out.ext
          refine region_rgz ([(5, (fun u => u = undef : Value → Prop), (fun _ _ => True : (Nat → GV) → World → Prop))]) (w) (w5.heap.size) (r0) (5) (fun w => DecK r0 g s a4 e4 w) ([]) (by kernel_rfl) (by kernel_rfl) ?_ ?_ (by omega) (fun w w2 hl hk => by first | (obtain ⟨x, hx⟩ := hk; exact ⟨x, (hl _ (by omega)).trans hx⟩) | exact hk.low hl (by assumption)) ?_ ?_ ?_ ?_
          · exact List.forall_mem_nil _
          · exact List.forall_mem_cons.2 ⟨⟨⟨_, rfl⟩, fun _ _ _ _ _ => trivial, fun _ _ _ _ _ => trivial, List.forall_mem_nil _, fun hne => absurd rfl hne⟩, List.forall_mem_nil _⟩
          · first | assumption | exact Ext.refl _
          · first | assumption | omega
          · assumption
          refine rg_pure (v := ?_) rfl (by kernel_rfl) (by kernel_rfl) (fun w hS hN => ?_) ?_
          rotate_left 1
          · obtain ⟨hS, hM, hK⟩ := hS
            clear hN
            go_simp
            refine givesP_mk ?_
            with_reducible rfl
          refine rg_pure (v := ?_) rfl (by kernel_rfl) (by kernel_rfl) (fun w hS hN => ?_) ?_
          rotate_left 1
          · obtain ⟨hS, hM, hK⟩ := hS
            clear hN
            go_simp
            refine givesP_mk ?_
            with_reducible rfl
          refine rg_pure (v := ?_) rfl (by kernel_rfl) (by kernel_rfl) (fun w hS hN => ?_) ?_
          rotate_left 1
          · obtain ⟨hS, hM, hK⟩ := hS
            clear hN
            go_simp
            refine givesP_mk ?_
            with_reducible rfl
          refine rg_pure (v := ?_) rfl (by kernel_rfl) (by kernel_rfl) (fun w hS hN => ?_) ?_
          rotate_left 1
          · obtain ⟨hS, hM, hK⟩ := hS
            clear hN
            go_simp
            refine givesP_mk ?_
            with_reducible rfl
          refine rg_pure (v := ?_) rfl (by kernel_rfl) (by kernel_rfl) (fun w hS hN => ?_) ?_
          rotate_left 1
          · obtain ⟨hS, hM, hK⟩ := hS
            have k2 := RR.c2 hK.rd
            clear hN
            go_simp
            refine givesP_mk ?_
            with_reducible rfl
          refine rg_mem (fun u => u = undef : Value → Prop) (fun _ _ => True : (Nat → GV) → World → Prop) (fun _ w w2 => Upd (r0) w w2 ∧ (fun w => DecK r0 g s a4 e4 w : World → Prop) w2) rfl rfl rfl rfl (by kernel_rfl) (by kernel_rfl) (fun w hS hN R hR => ?_) ?_
          · obtain ⟨hS, hM, hK⟩ := hS
            have HR := Lib.hid hR
            clear hR
            have z0 := blk_cell hK.res 0 _ rfl
            have z1 := blk_cell hK.res 1 _ rfl
            have z2 := blk_cell hK.res 2 _ rfl
            have y0 := frozen_of_row _ _ 0 _ _ hK.res
            have y1 := frozen_of_row _ _ 1 _ _ hK.res
            have y2 := frozen_of_row _ _ 2 _ _ hK.res
            have hz := blk_set3 hK.res (.int .i64 0) (.slice none 0 0) (.slice none 0 0)
            have hq := hK.rd.upd (Upd.set3 (k := r0) w (.int .i64 0) (.slice none 0 0) (.slice none 0 0)) (by omega)
            have HZ := Lib.hid hz
            have HQ := Lib.hid hq
            clear hz hq
            (try clear hN)
            go_simp
            refine givesM_skipz (HR.out _ _ rfl trivial ⟨Upd.set3 _ _ _ _, ⟨HZ.out, HQ.out⟩⟩)
          rintro u5 s5 t5 rfl
          refine rg_pure (v := ?_) rfl (by kernel_rfl) (by kernel_rfl) (fun w hS hN => ?_) ?_
          rotate_left 1
          · obtain ⟨hS, hM, hK⟩ := hS
            clear hN
            go_simp
            refine givesP_mk ?_
            with_reducible rfl
          refine rg_done rfl (Nat.le_of_ble_eq_true (by kernel_rfl)) ?_
          intro w8 hS hT
          have hres8 := hS.2.2.res
          have t0 := blk_cell hres8 0 _ rfl
          have t1 := blk_cell hres8 1 _ rfl
          have t2 := blk_cell hres8 2 _ rfl
          go_simp
          go_wp2
          refine bodyPost_ret (v := .tuple #[.agg #[.int .i64 0, .slice none 0 0, .slice none 0 0], .int .i64 e4]) (by simp [results, Try.results11, go_sem, t0, t1, t2]) rfl ⟨_, rfl, snAt_zero _, hS.1⟩

end Go.Proofs.Ythkogcgdikgkaaa

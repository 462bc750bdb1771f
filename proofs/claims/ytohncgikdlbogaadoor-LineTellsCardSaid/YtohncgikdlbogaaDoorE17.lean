/-
  Several texts in one: Jv, Ls, Lr, Lf, Lq, Ln, Jx, Jy, Jw, Jz.
-/
import Derived.Test.YtohncgikdlbogaaDoorE16
import Derived.Test.YtohncgikdlbogaaDoorE01
import Derived.Deep.Slices
import Derived.Deep.Fields
import Derived.ChangeSame
import Derived.SliceStrings
import Derived.Lib.SmallJoins
import Derived.Test.YtohncgikdlbogaaDoorE04
import Derived.Test.YtohncgikdlbogaaDoorE13
set_option linter.unusedVariables false
set_option linter.unusedSimpArgs false
namespace Go.Proofs.YtohncgikdlbogaaDoor
open Go.RowKit
def Sp.atG (g : Int) (x : Sn) : Option Gs4 := (Md.fnd x.gs g).map fun k => x.gs.getD k (0, 0, 0, 0)
theorem Md.fnd_lt' {g : Int} : ∀ {l : List Gs4} {k : Nat}, Md.fnd l g = some k → k < l.length
 | [], _, h => by cases h
 | y :: l, k, h => by
  unfold Md.fnd at h
  split at h
  · obtain rfl := Option.some.inj h; simp
  · obtain ⟨j, hj, rfl⟩ := Option.map_eq_some_iff.1 h
    have := Md.fnd_lt' hj
    simp only [List.length_cons]; omega
def gsA (y : Gs4) : Value := .agg #[.int .i64 y.1, .int .i64 y.2.1, .int .i64 y.2.2.1, .int .i64 y.2.2.2]
theorem Sp.atG_look (g : Int) (x : Sn) : Sp.lookG g x = (Sp.atG g x).map (·.2) := by
 unfold Sp.lookG Sp.atG
 cases Md.fnd x.gs g <;> rfl
theorem gs4_one (y : Gs4) : ∀ u ∈ [Value.int .i64 y.1, .int .i64 y.2.1, .int .i64 y.2.2.1, .int .i64 y.2.2.2], u.oneCell' = true := by intro u hu; simp at hu; rcases hu with rfl | rfl | rfl | rfl <;> rfl
theorem gs_lay {w w1 w2 : World} {R : Nat} (hx : Ext w w2) (hR : w.heap.size ≤ R) (hb : w2.heap[R]? = some (.cells #[.int .i64 0, .int .i64 0, .int .i64 0, .int .i64 0] 49 (0, 0))) (y : Gs4) :
    w2.there R 0 [Value.int .i64 y.1, .int .i64 y.2.1, .int .i64 y.2.2.1, .int .i64 y.2.2.2].length ∧ ∃ w6, w2.setCells R 0 [.int .i64 y.1, .int .i64 y.2.1, .int .i64 y.2.2.1, .int .i64 y.2.2.2] = w6 ∧ w6.heap[R]? = some (.cells [Value.int .i64 y.1, .int .i64 y.2.1, .int .i64 y.2.2.1, .int .i64 y.2.2.2].toArray 49 (0, 0)) ∧ Ext w w6 :=
 ⟨there_row hb (by simp), _, rfl, setCells_at [.int .i64 0, .int .i64 0, .int .i64 0, .int .i64 0] _ rfl hb, Ext.upd hx (setCells_upd R _ w2 0) hR⟩
set_option maxRecDepth 100000 in
set_option maxHeartbeats 8000000 in
theorem rat_any (v : Value) (x : Sn) (g : Int) (w : World) (hs : SnAt w v x) (hp : x.ps.length ≤ 10000) (hg : x.gs.length ≤ 10000) (o : Option Gs4) (ho : Sp.atG g x = o) :
    Calls Tryd.prog 24 #[v, .int .i64 g] w fun e w' => e = .returned (.tuple #[gsA (o.getD (0, 0, 0, 0)), .bool o.isSome]) ∧ Ext w w' := by
 subst ho
 obtain ⟨A, c, D, d, rfl, h2, h3⟩ := hs
 obtain ⟨w1, hw1, hx1, hb1, hg1⟩ := ln_two w #[.int .i64 x.time, .slice A x.ps.length c, .slice D x.gs.length d] 25 #[.int .i64 0, .int .i64 0, .int .i64 0, .int .i64 0] 49
 have HSN : Hid (SnAt w1 (.agg #[.int .i64 x.time, .slice A x.ps.length c, .slice D x.gs.length d]) x) := Lib.hid ⟨A, c, D, d, rfl, h2.ext hx1, h3.ext hx1⟩
 have H3 := Lib.hid (h3.ext hx1)
 obtain ⟨S0, hS0⟩ : ∃ S0, w.heap.size = S0 := ⟨_, rfl⟩
 have HLO : Hid (w.heap.size ≤ S0 + 1) := Lib.hid (by omega)
 rw [hS0] at hb1 hg1
 have HS0 := Lib.hid hS0
 have HW1 := Lib.hid hw1
 have HX1 := Lib.hid hx1
 have HB1 := Lib.hid hb1
 have HG1 := Lib.hid hg1
 have HP := Lib.hid hp
 have HGL := Lib.hid hg
 have c0 := blk_cell hb1 0 _ rfl
 have c1 := blk_cell hb1 1 _ rfl
 have c2 := blk_cell hb1 2 _ rfl
 clear hw1 hx1 hb1 hg1 h2 h3 hS0 hp hg
 go_enter Tryd.func24, Tryd.ntmps24
 go_upto_region 1 with fail
 rw [HW1.out, HS0.out]
 go_wp2_with fail
 refine (rfind_any _ x g w1 HSN.out HP.out HGL.out _ rfl).mono ?_
 rintro e w2 ⟨rfl, hx2⟩
 have HX2 := Lib.hid (HX1.out.trans hx2)
 have HG2 := Lib.hid (hx2.blk HG1.out)
 have HB2 := Lib.hid (hx2.blk HB1.out)
 have H32 := Lib.hid (H3.out.ext hx2)
 clear hx2 c0 c1 c2 H3 HSN
 cases hf : Md.fnd x.gs g with
 | none =>
  have HA : Hid (Sp.atG g x = none) := Lib.hid (by unfold Sp.atG; rw [hf]; rfl)
  have HFI : Hid (Md.fidx x.gs g = -1) := Lib.hid (by unfold Md.fidx; rw [hf])
  rw [HFI.out]
  obtain ⟨hth, w6, hw6, hb6, hx6⟩ := gs_lay (w1 := w1) HX2.out HLO.out HG2.out (0, 0, 0, 0)
  obtain ⟨y, hy⟩ : ∃ y : Gs4, (0, 0, 0, 0) = y := ⟨_, rfl⟩
  rw [hy] at hth hw6 hb6
  have HTH := Lib.hid hth
  have HW6 := Lib.hid hw6
  have HB6 := Lib.hid hb6
  have HX6 := Lib.hid hx6
  have HY := Lib.hid hy
  clear hth hw6 hb6 hx6 hf
  obtain rfl := hy
  go_wp2_with (refine wpList_store_rowN rfl 49 _ _ rfl (S0 + 1) 0 [.int .i64 0, .int .i64 0, .int .i64 0, .int .i64 0] (.agg ([.int .i64 0, .int .i64 0, .int .i64 0, .int .i64 0]).toArray) (by go_simp) (by go_simp) rfl HTH.out (by kernel_rfl) (gs4_one (0, 0, 0, 0)) HW6.out ?_)
  refine bodyPost_cell_tmp rfl (S0 + 1) _ _ _ _ rfl HB6.out Tryd.underlying49 rfl (by kernel_rfl) (.bool false) rfl rfl ?_
  rw [HA.out]
  exact ⟨rfl, HX6.out⟩
 | some k =>
  have hk : k < x.gs.length := Md.fnd_lt' hf
  obtain ⟨y, hy⟩ : ∃ y, x.gs[k]? = some y := ⟨_, List.getElem?_eq_getElem hk⟩
  have HA : Hid (Sp.atG g x = some y) := Lib.hid (by unfold Sp.atG; rw [hf]; simp [List.getD, hy])
  have HFI : Hid (Md.fidx x.gs g = (k : Int)) := Lib.hid (by unfold Md.fidx; rw [hf])
  rw [HFI.out]
  obtain ⟨b, o, hA, hb, hc⟩ := H32.out.get hy
  subst hA
  have k0 := hc 0 _ rfl
  have k1 := hc 1 _ rfl
  have k2 := hc 2 _ rfl
  have k3 := hc 3 _ rfl
  rw [Nat.add_zero] at k0
  have c2 := blk_cell HB2.out 2 _ rfl
  obtain ⟨hth, w6, hw6, hb6, hx6⟩ := gs_lay (w1 := w1) HX2.out HLO.out HG2.out y
  have HTH := Lib.hid hth
  have HW6 := Lib.hid hw6
  have HB6 := Lib.hid hb6
  have HX6 := Lib.hid hx6
  clear hth hw6 hb6 hx6 hf hy hc hb
  have hkl : (k : Int) < (x.gs.length : Int) := by omega
  have hk0 : ((k : Int) < 0) = False := eq_false (by omega)
  go_wp2_with (refine wpList_store_rowN rfl 49 _ _ rfl (S0 + 1) 0 [.int .i64 y.1, .int .i64 y.2.1, .int .i64 y.2.2.1, .int .i64 y.2.2.2] (.agg ([.int .i64 y.1, .int .i64 y.2.1, .int .i64 y.2.2.1, .int .i64 y.2.2.2]).toArray) (by go_simp) (by go_simp) rfl HTH.out (by kernel_rfl) (gs4_one y) HW6.out ?_)
  refine bodyPost_cell_tmp rfl (S0 + 1) _ _ _ _ rfl HB6.out Tryd.underlying49 rfl (by kernel_rfl) (.bool true) rfl rfl ?_
  rw [HA.out]
  exact ⟨rfl, HX6.out⟩
open Go.ChangeShapes Go.WideShapes Go.Deep Go.RowKit
section
variable {H : Type} {enc : TypeId × Value → H} {P : Program} {w : World} {base : Nat} {spare : Nat → Bool} {held : Bool}
theorem open_slice_fields {t e : TypeId} {fs : Array Field} {fuel : Nat} {cs : List Value} {x : DataW H × List MemPlace} (ht : P.underlying t = some (.slice e)) (he : P.underlying e = some (.struct fs))
    (hone : oneCellFields P fs = true) (hC : P.cellsOf e = fs.size) (h : DataW.trod enc P w base spare held fuel t cs = some x) :
    (cs = [.slice none 0 0] ∧ x = (.nil, [])) ∨
    ∃ (a : Addr) (len cap m : Nat) (D : Nat → DataW H) (Pl : Nat → List MemPlace), cs = [.slice (some a) len cap] ∧ base ≤ a.block ∧ len ≤ cap ∧ cap ≤ maxLen ∧ m = (if spare a.block then cap else len) ∧
     x = (.slice ((List.range len).map D) ((List.range (m - len)).map fun j => D (len + j)), MemPlace.row a (m * fs.size) ++ (List.range m).flatMap Pl) ∧
     ∀ i, i < m → ∃ (ys : List (DataW H × List MemPlace)) (n : Nat), D i = .agg (ys.map (·.1)) ∧ Pl i = ys.flatMap (·.2) ∧ ys.length = fs.size ∧
      ∀ (j : Nat) (f : Field), fs[j]? = some f → ∃ (v : Value) (y : DataW H × List MemPlace), w.cell? (a.add (i * fs.size + j)) = some v ∧ ys[j]? = some y ∧ DataW.trod enc P w base spare held n f.type [v] = some y := by
 rcases open_slice ht h with h0 | ⟨a, len, cap, m, n, D, Pl, hcs, hb, hl, hm, hmm, hx, hi⟩
 · exact .inl h0
 · refine .inr ⟨a, len, cap, m, D, Pl, hcs, hb, hl, hm, hmm, by rw [hC] at hx; exact hx, fun i him => ?_⟩
   obtain ⟨cs', hc, ht'⟩ := hi i him
   rw [hC] at hc
   obtain ⟨ys, n', hn', hy, hlen, hyl, hf⟩ := DataW.trod_struct he ht'
   obtain ⟨_, hcl, hat⟩ := World.cells?_some hc
   simp only [Prod.mk.injEq] at hy
   refine ⟨ys, n', hy.1, hy.2, hyl, fun j f hj => ?_⟩
   obtain ⟨ho, hk⟩ := hone_of hone j f hj
   have hjl : j < fs.size := (Array.getElem?_eq_some_iff.1 hj).1
   have hcell := hat j hjl
   have hv : cs'[j]? = some (cs'[j]'(by omega)) := List.getElem?_eq_getElem (by omega)
   have h1 := hf j f hj
   rw [ho, hk] at h1
   have hone' : (cs'.drop j).take 1 = [cs'[j]'(by omega)] := by
    rw [List.drop_eq_getElem_cons (by omega)]
    rfl
   rw [hone'] at h1
   have hys : ys[j]? = some (ys[j]'(by omega)) := List.getElem?_eq_getElem (by omega)
   refine ⟨_, _, ?_, hys, h1.trans hys⟩
   rw [← Go.Deep.add_add, hcell, hv]
def numIn : Option Value → Int
 | some (.int _ n) => n
 | _ => 0
theorem open_pairs {t e : TypeId} {f0 f1 : Field} {fuel len cap : Nat} {A : Option Addr} {x : DataW H × List MemPlace} (ht : P.underlying t = some (.slice e)) (he : P.underlying e = some (.struct #[f0, f1]))
    (hone : oneCellFields P #[f0, f1] = true) (hC : P.cellsOf e = 2) (t0 : P.underlying f0.type = some (.int .i64)) (t1 : P.underlying f1.type = some (.int .i64))
    (h : DataW.trod enc P w base (fun _ => true) held fuel t [.slice A len cap] = some x) :
    len ≤ maxLen ∧ ∃ f : Nat → Int × Int, 0 < len → ∃ b o, A = some ⟨b, o, none⟩ ∧ b < w.heap.size ∧ ∀ j, j < len → w.cell? ⟨b, o + j * 2, none⟩ = some (.int .i64 (f j).1) ∧ w.cell? ⟨b, o + j * 2 + 1, none⟩ = some (.int .i64 (f j).2) ∧
     (-9223372036854775808 ≤ (f j).1 ∧ (f j).1 ≤ 9223372036854775807) ∧ -9223372036854775808 ≤ (f j).2 ∧ (f j).2 ≤ 9223372036854775807 := by
 rcases open_slice_fields ht he hone hC h with ⟨h0, _⟩ | ⟨a, l, c, m, D, Pl, hcs, _, hl, hm, hmm, _, hi⟩
 · simp at h0
   obtain ⟨rfl, rfl, rfl⟩ := h0
   exact ⟨by simp [maxLen], fun _ => (0, 0), fun h => by omega⟩
 · simp at hcs
   obtain ⟨rfl, rfl, rfl⟩ := hcs
   have hmc : m = cap := by simpa using hmm
   subst hmc
   refine ⟨by omega, fun j => (numIn (w.cell? (a.add (j * 2))), numIn (w.cell? (a.add (j * 2 + 1)))), fun hpos => ?_⟩
   have key : ∀ j, j < len → (∃ n, w.cell? (a.add (j * 2)) = some (.int .i64 n) ∧ -9223372036854775808 ≤ n ∧ n ≤ 9223372036854775807) ∧ (∃ n, w.cell? (a.add (j * 2 + 1)) = some (.int .i64 n) ∧ -9223372036854775808 ≤ n ∧ n ≤ 9223372036854775807) := fun j hj => by
    obtain ⟨ys, n, _, _, _, hf⟩ := hi j (by omega)
    obtain ⟨v0, y0, c0, _, h0⟩ := hf 0 f0 rfl
    obtain ⟨v1, y1, c1, _, h1⟩ := hf 1 f1 rfl
    obtain ⟨n0, e0, _, w0⟩ := DataW.trod_int t0 h0
    obtain ⟨n1, e1, _, w1⟩ := DataW.trod_int t1 h1
    simp at e0 e1
    subst e0 e1
    exact ⟨⟨n0, by simpa using c0, bounds_i64 w0⟩, ⟨n1, by simpa using c1, bounds_i64 w1⟩⟩
   obtain ⟨b, o, spot⟩ := a
   have hspot : spot = none := by
    obtain ⟨⟨n, hn, _⟩, _⟩ := key 0 hpos
    simpa [Addr.add] using World.cell?_spot hn
   subst hspot
   refine ⟨b, o, rfl, ?_, fun j hj => ?_⟩
   · obtain ⟨⟨n, hn, _⟩, _⟩ := key 0 hpos
     rw [Addr.add_lit] at hn
     exact block_lt_of_cell hn
   · obtain ⟨⟨n, hn, b0, b1⟩, ⟨m, hm, d0, d1⟩⟩ := key j hj
     rw [Addr.add_lit] at hn hm
     rw [← Nat.add_assoc] at hm
     simp only [Addr.add_lit, ← Nat.add_assoc]
     rw [hn, hm]
     exact ⟨rfl, rfl, ⟨b0, b1⟩, d0, d1⟩
theorem open_texts {t e : TypeId} {fuel len cap : Nat} {A : Option Addr} {x : DataW H × List MemPlace} (ht : P.underlying t = some (.slice e)) (he : P.underlying e = some .string) (hC : P.cellsOf e = 1)
    (h : DataW.trod enc P w base (fun _ => true) held fuel t [.slice A len cap] = some x) :
    len ≤ maxLen ∧ ∃ ts : List ByteArray, ts.length = len ∧ (0 < len → ∃ b o, A = some ⟨b, o, none⟩ ∧ b < w.heap.size ∧ ∀ j t, ts[j]? = some t → w.cell? ⟨b, o + j, none⟩ = some (.string t)) := by
 rcases open_strings ht he hC h with ⟨h0, _⟩ | ⟨a, l, c, ss, hcs, _, hl, hm, hss, _, hc, hsz⟩
 · simp at h0
   obtain ⟨rfl, rfl, rfl⟩ := h0
   exact ⟨by simp [maxLen], [], rfl, fun h => by omega⟩
 · simp at hcs
   obtain ⟨rfl, rfl, rfl⟩ := hcs
   have hlen : ss.length = cap := by simpa using hss
   refine ⟨by omega, ss.take len, by rw [List.length_take]; omega, fun hpos => ?_⟩
   obtain ⟨b, o, spot⟩ := a
   have hspot : spot = none := by simpa [Addr.add] using World.cell?_spot (hc 0 (by omega))
   subst hspot
   have hc' : ∀ j, j < ss.length → w.cell? ⟨b, o + j, none⟩ = some (.string (ss.getD j ByteArray.empty)) := fun j hj => by
    have := hc j hj; rwa [Addr.add_lit] at this
   refine ⟨b, o, rfl, block_lt_of_cell (hc' 0 (by omega)), fun j t hj => ?_⟩
   rw [List.getElem?_take] at hj
   split at hj
   · rw [hc' j (by omega), List.getD, hj]
     rfl
   · simp at hj
end
open Go.ChangeShapes Go.WideShapes Go.Deep Go.RowKit
def RecsAt {α : Type} (m : Nat) (R : World → List Value → α → Prop) (w : World) (v : Value) (xs : List α) : Prop :=
 ∃ A c, v = .slice A xs.length c ∧ xs.length ≤ c ∧ (0 < xs.length → ∃ b o, A = some ⟨b, o, none⟩ ∧ b < w.heap.size ∧ ∀ j x, xs[j]? = some x → ∃ cs : List Value, cs.length = m ∧ R w cs x ∧ ∀ i u, cs[i]? = some u → w.cell? ⟨b, o + j * m + i, none⟩ = some u)
theorem RecsAt.rows {α : Type} {m : Nat} {f : α → List Value} {w : World} {v : Value} {xs : List α} (h : RecsAt m (fun _ cs x => cs = f x) w v xs) : RowsAt m f w v xs := by
 obtain ⟨A, c, rfl, hc, hA⟩ := h
 refine ⟨A, c, rfl, hc, fun h0 => ?_⟩
 obtain ⟨b, o, hb, hlt, hk⟩ := hA h0
 refine ⟨b, o, hb, hlt, fun j x hj i u hu => ?_⟩
 obtain ⟨cs, _, rfl, h3⟩ := hk j x hj
 exact h3 i u hu
section
variable {H : Type} {enc : TypeId × Value → H} {P : Program} {w : World} {base : Nat} {held : Bool}
theorem open_recs {α : Type} {R : World → List Value → α → Prop} {G : α → Prop} {m : Nat} (x0 : α) {t e : TypeId} {fuel len cap : Nat} {A : Option Addr} {x : DataW H × List MemPlace} (ht : P.underlying t = some (.slice e)) (hC : P.cellsOf e = m) (hm0 : 0 < m)
    (elem : ∀ (n : Nat) (cs : List Value) (y : DataW H × List MemPlace), DataW.trod enc P w base (fun _ => true) held n e cs = some y → ∃ x : α, R w cs x ∧ G x)
    (h : DataW.trod enc P w base (fun _ => true) held fuel t [.slice A len cap] = some x) :
    len ≤ maxLen ∧ ∃ l : List α, l.length = len ∧ RecsAt m R w (.slice A len cap) l ∧ ∀ x ∈ l, G x := by
 rcases open_slice ht h with ⟨h0, _⟩ | ⟨a, l, c, mm, n, D, Pl, hcs, _, hl, hm, hmm, _, hi⟩
 · simp at h0
   obtain ⟨rfl, rfl, rfl⟩ := h0
   exact ⟨by simp [maxLen], [], rfl, ⟨none, 0, rfl, Nat.le_refl _, fun h => by simp at h⟩, by simp⟩
 · simp at hcs
   obtain ⟨rfl, rfl, rfl⟩ := hcs
   have hmc : mm = cap := by simpa using hmm
   subst hmc
   have key : ∀ i, i < len → ∃ x : α, G x ∧ ∃ cs : List Value, cs.length = m ∧ R w cs x ∧ ∀ j u, cs[j]? = some u → w.cell? (a.add (i * m + j)) = some u := fun i hi' => by
    obtain ⟨cs', hc, ht'⟩ := hi i (by omega)
    rw [hC] at hc
    obtain ⟨x, hx, hg⟩ := elem _ _ _ ht'
    obtain ⟨_, hcl, hat⟩ := World.cells?_some hc
    refine ⟨x, hg, cs', hcl, hx, fun j u hj => ?_⟩
    have hjl : j < m := by rw [← hcl]; exact (List.getElem?_eq_some_iff.1 hj).1
    rw [← Go.Deep.add_add, hat j hjl, hj]
   refine ⟨by omega, (List.range len).map fun i => if h : i < len then (key i h).choose else x0, by simp, ⟨some a, mm, by simp, by simpa using hl, fun hpos => ?_⟩, ?_⟩
   · obtain ⟨b, o, spot⟩ := a
     have hl0 : 0 < len := by simpa using hpos
     have h00 : ∃ u, w.cell? ((⟨b, o, spot⟩ : Addr).add 0) = some u := by
      obtain ⟨_, _, cs, hcl, _, hat⟩ := key 0 hl0
      refine ⟨cs[0]'(by omega), ?_⟩
      have := hat 0 _ (List.getElem?_eq_getElem (by omega))
      simpa using this
     have hspot : spot = none := by
      obtain ⟨u, hu⟩ := h00
      simpa [Addr.add] using World.cell?_spot hu
     subst hspot
     refine ⟨b, o, rfl, ?_, fun j p hj => ?_⟩
     · obtain ⟨u, hu⟩ := h00
       rw [Addr.add_lit] at hu
       exact block_lt_of_cell hu
     · rw [List.getElem?_map] at hj
       have hjl : j < len := by
        rcases Nat.lt_or_ge j len with h | h
        · exact h
        · rw [List.getElem?_eq_none (by simpa using h)] at hj; simp at hj
       rw [List.getElem?_range hjl] at hj
       simp only [Option.map_some, Option.some.injEq, hjl, dif_pos] at hj
       obtain ⟨_, cs, k0, k1, k2⟩ := (key j hjl).choose_spec
       rw [hj] at k1
       refine ⟨cs, k0, k1, fun i u hu => ?_⟩
       have := k2 i u hu
       rw [Addr.add_lit] at this
       rw [Nat.add_assoc]
       exact this
   · intro x hx
     obtain ⟨i, hi', rfl⟩ := List.mem_map.1 hx
     have hil := List.mem_range.1 hi'
     rw [dif_pos hil]
     exact (key i hil).choose_spec.1
theorem cells_fields {e : TypeId} {fs : Array Field} {n : Nat} {cs : List Value} {y : DataW H × List MemPlace} (he : P.underlying e = some (.struct fs)) (hone : oneCellFields P fs = true) (hC : P.cellsOf e = fs.size)
    (h : DataW.trod enc P w base (fun _ => true) held n e cs = some y) :
    cs.length = fs.size ∧ ∀ (j : Nat) (f : Field), fs[j]? = some f → ∃ (v : Value) (z : DataW H × List MemPlace) (k : Nat), cs[j]? = some v ∧ DataW.trod enc P w base (fun _ => true) held k f.type [v] = some z := by
 obtain ⟨ys, n', hn', hy, hlen, hyl, hf⟩ := DataW.trod_struct he h
 refine ⟨by rw [hlen, hC], fun j f hj => ?_⟩
 obtain ⟨ho, hk⟩ := hone_of hone j f hj
 have hjl : j < fs.size := (Array.getElem?_eq_some_iff.1 hj).1
 have h1 := hf j f hj
 rw [ho, hk] at h1
 have hone' : (cs.drop j).take 1 = [cs[j]'(by omega)] := by
  rw [List.drop_eq_getElem_cons (by omega)]
  rfl
 rw [hone'] at h1
 have hys : ys[j]? = some (ys[j]'(by omega)) := List.getElem?_eq_getElem (by omega)
 exact ⟨_, _, _, List.getElem?_eq_getElem (by omega), h1.trans hys⟩
theorem cells_int {t : TypeId} {n : Nat} {v : Value} {y : DataW H × List MemPlace} (t0 : P.underlying t = some (.int .i64)) (h : DataW.trod enc P w base (fun _ => true) held n t [v] = some y) : ∃ a : Int, v = .int .i64 a ∧ (Lit.int .i64 a).wf = true := by
 obtain ⟨a, e0, _, w0⟩ := DataW.trod_int t0 h
 simp at e0
 exact ⟨a, e0, w0⟩
theorem cells_pair {e : TypeId} {f0 f1 : Field} {n : Nat} {cs : List Value} {y : DataW H × List MemPlace} (he : P.underlying e = some (.struct #[f0, f1])) (hone : oneCellFields P #[f0, f1] = true) (hC : P.cellsOf e = 2)
    (t0 : P.underlying f0.type = some (.int .i64)) (t1 : P.underlying f1.type = some (.int .i64)) (h : DataW.trod enc P w base (fun _ => true) held n e cs = some y) :
    ∃ p : Int × Int, cs = [.int .i64 p.1, .int .i64 p.2] ∧ (Lit.int .i64 p.1).wf = true ∧ (Lit.int .i64 p.2).wf = true := by
 obtain ⟨hl, hf⟩ := cells_fields he hone hC h
 obtain ⟨v0, _, _, c0, h0⟩ := hf 0 f0 rfl
 obtain ⟨v1, _, _, c1, h1⟩ := hf 1 f1 rfl
 obtain ⟨a, rfl, wa⟩ := cells_int t0 h0
 obtain ⟨b, rfl, wb⟩ := cells_int t1 h1
 match cs, hl, c0, c1 with
 | [u0, u1], _, c0, c1 =>
  simp only [List.getElem?_cons_zero, List.getElem?_cons_succ, Option.some.injEq] at c0 c1
  subst c0 c1
  exact ⟨(a, b), rfl, wa, wb⟩
theorem cells_four {e : TypeId} {f0 f1 f2 f3 : Field} {n : Nat} {cs : List Value} {y : DataW H × List MemPlace} (he : P.underlying e = some (.struct #[f0, f1, f2, f3])) (hone : oneCellFields P #[f0, f1, f2, f3] = true) (hC : P.cellsOf e = 4)
    (t0 : P.underlying f0.type = some (.int .i64)) (t1 : P.underlying f1.type = some (.int .i64)) (t2 : P.underlying f2.type = some (.int .i64)) (t3 : P.underlying f3.type = some (.int .i64)) (h : DataW.trod enc P w base (fun _ => true) held n e cs = some y) :
    ∃ p : Int × Int × Int × Int, cs = [.int .i64 p.1, .int .i64 p.2.1, .int .i64 p.2.2.1, .int .i64 p.2.2.2] ∧ (Lit.int .i64 p.1).wf = true ∧ (Lit.int .i64 p.2.1).wf = true ∧ (Lit.int .i64 p.2.2.1).wf = true ∧ (Lit.int .i64 p.2.2.2).wf = true := by
 obtain ⟨hl, hf⟩ := cells_fields he hone hC h
 obtain ⟨v0, _, _, c0, h0⟩ := hf 0 f0 rfl
 obtain ⟨v1, _, _, c1, h1⟩ := hf 1 f1 rfl
 obtain ⟨v2, _, _, c2, h2⟩ := hf 2 f2 rfl
 obtain ⟨v3, _, _, c3, h3⟩ := hf 3 f3 rfl
 obtain ⟨a, rfl, wa⟩ := cells_int t0 h0
 obtain ⟨b, rfl, wb⟩ := cells_int t1 h1
 obtain ⟨c, rfl, wc⟩ := cells_int t2 h2
 obtain ⟨d, rfl, wd⟩ := cells_int t3 h3
 match cs, hl, c0, c1, c2, c3 with
 | [u0, u1, u2, u3], _, c0, c1, c2, c3 =>
  simp only [List.getElem?_cons_zero, List.getElem?_cons_succ, Option.some.injEq] at c0 c1 c2 c3
  subst c0 c1 c2 c3
  exact ⟨(a, b, c, d), rfl, wa, wb, wc, wd⟩
theorem cells_slice {t e : TypeId} {n : Nat} {v : Value} {y : DataW H × List MemPlace} (ht : P.underlying t = some (.slice e)) (h : DataW.trod enc P w base (fun _ => true) held n t [v] = some y) : ∃ A len cap, v = .slice A len cap := by
 rcases open_slice ht h with ⟨h0, _⟩ | ⟨a, l, c, mm, n, D, Pl, hcs, _⟩
 · simp at h0; exact ⟨_, _, _, h0⟩
 · simp at hcs; exact ⟨_, _, _, hcs⟩
end
open Go.ChangeShapes Go.WideShapes Go.Deep Go.RowKit Go.Maps
section
variable {H : Type} {enc : TypeId × Value → H} {P : Program} {w : World} {base : Nat} {held : Bool}
def wf64 (a : Int) : Prop := (Lit.int .i64 a).wf = true
def SnIn (s : Sn) : Prop := wf64 s.time ∧ s.ps.length ≤ maxLen ∧ s.gs.length ≤ maxLen ∧ (∀ p ∈ s.ps, wf64 p.1 ∧ wf64 p.2) ∧ ∀ g ∈ s.gs, wf64 g.1 ∧ wf64 g.2.1 ∧ wf64 g.2.2.1 ∧ wf64 g.2.2.2
theorem open_snap {r : Reach} {b0 : Nat} {t ep eg : TypeId} {f0 f1 f2 p0 p1 g0 g1 g2 g3 : Field} {v : Value} {d : DataW H} {p : List MemPlace} (hs : P.underlying t = some (.struct #[f0, f1, f2])) (hone : oneCellFields P #[f0, f1, f2] = true) (hC : P.cellsOf t = 3)
    (t0 : P.underlying f0.type = some (.int .i64)) (t1 : P.underlying f1.type = some (.slice ep)) (t2 : P.underlying f2.type = some (.slice eg))
    (hp : P.underlying ep = some (.struct #[p0, p1])) (hpo : oneCellFields P #[p0, p1] = true) (hpC : P.cellsOf ep = 2) (tp : P.underlying p0.type = some (.int .i64) ∧ P.underlying p1.type = some (.int .i64))
    (hg : P.underlying eg = some (.struct #[g0, g1, g2, g3])) (hgo : oneCellFields P #[g0, g1, g2, g3] = true) (hgC : P.cellsOf eg = 4) (tg : P.underlying g0.type = some (.int .i64) ∧ P.underlying g1.type = some (.int .i64) ∧ P.underlying g2.type = some (.int .i64) ∧ P.underlying g3.type = some (.int .i64))
    (hv : Value.okWide P w r b0 t v) (h : DataW.Trod enc P w base (fun _ => true) held t v d p) : ∃ s : Sn, SnAt w v s ∧ SnIn s := by
 obtain ⟨v0, v1, v2, y0, y1, y2, n, rfl, _, _, h0, h1, h2⟩ := Go.Joins.open_agg3 hs hone hC hv h
 obtain ⟨a, rfl, wa⟩ := cells_int t0 h0
 obtain ⟨A, l, c, rfl⟩ := cells_slice t1 h1
 obtain ⟨B, m, d, rfl⟩ := cells_slice t2 h2
 obtain ⟨m1, ps, rfl, hps, wps⟩ := open_recs (R := fun _ cs x => cs = snPCells x) (G := fun p => wf64 p.1 ∧ wf64 p.2) (0, 0) t1 hpC (by decide) (fun n cs y hy => cells_pair hp hpo hpC tp.1 tp.2 hy) h1
 obtain ⟨m2, gs, rfl, hgs, wgs⟩ := open_recs (R := fun _ cs x => cs = snGCells x) (G := fun g => wf64 g.1 ∧ wf64 g.2.1 ∧ wf64 g.2.2.1 ∧ wf64 g.2.2.2) (0, 0, 0, 0) t2 hgC (by decide) (fun n cs y hy => cells_four hg hgo hgC tg.1 tg.2.1 tg.2.2.1 tg.2.2.2 hy) h2
 exact ⟨⟨a, ps, gs⟩, ⟨A, c, B, d, rfl, hps.rows, hgs.rows⟩, wa, m1, m2, wps, wgs⟩
end
open Go.ChangeShapes Go.WideShapes Go.Deep Go.RowKit Go.Maps
section
variable {H : Type} {enc : TypeId × Value → H} {w : World} {base : Nat} {held : Bool}
end
open Go.ChangeShapes Go.WideShapes Go.Deep Go.RowKit Go.Maps
section
variable {H : Type} {enc : TypeId × Value → H} {w : World} {base : Nat} {held : Bool}
def LeIn (e : Le) : Prop := (∃ A n c, e.stack = .slice A n c) ∧ e.why.size ≤ maxLen ∧ wf64 e.l.time ∧ wf64 e.l.m ∧ wf64 e.l.kind ∧ wf64 e.l.g ∧ wf64 e.l.p ∧ wf64 e.l.seq
def SpIn (s : Sp) : Prop := s.why.size ≤ maxLen ∧ wf64 s.fr ∧ wf64 s.till ∧ wf64 s.st ∧ wf64 s.n
theorem cells_le {n : Nat} {cs : List Value} {y : DataW H × List MemPlace} (h : DataW.trod enc Tryd.prog w base (fun _ => true) held n 34 cs = some y) : ∃ e : Le, cs = leL e ∧ LeIn e := by
 obtain ⟨hl, hfd⟩ := cells_fields Tryd.underlying34 (by kernel_rfl) (by kernel_rfl) h
 obtain ⟨v0, _, _, k0, h0⟩ := hfd 0 _ rfl
 obtain ⟨v1, _, _, k1, h1⟩ := hfd 1 _ rfl
 obtain ⟨v2, _, _, k2, h2⟩ := hfd 2 _ rfl
 obtain ⟨v3, _, _, k3, h3⟩ := hfd 3 _ rfl
 obtain ⟨v4, _, _, k4, h4⟩ := hfd 4 _ rfl
 obtain ⟨v5, _, _, k5, h5⟩ := hfd 5 _ rfl
 obtain ⟨v6, _, _, k6, h6⟩ := hfd 6 _ rfl
 obtain ⟨v7, _, _, k7, h7⟩ := hfd 7 _ rfl
 obtain ⟨sy, e6, _, hsy⟩ := DataW.trod_string Tryd.underlying9 h6
 obtain rfl : v6 = .string sy := by simpa using e6
 obtain ⟨A7, n7, c7', rfl⟩ := cells_slice Tryd.underlying32 h7
 obtain ⟨a0, rfl, w0⟩ := cells_int Tryd.underlying3 h0
 obtain ⟨a1, rfl, w1⟩ := cells_int Tryd.underlying3 h1
 obtain ⟨a2, rfl, w2⟩ := cells_int Tryd.underlying3 h2
 obtain ⟨a3, rfl, w3⟩ := cells_int Tryd.underlying3 h3
 obtain ⟨a4, rfl, w4⟩ := cells_int Tryd.underlying3 h4
 obtain ⟨a5, rfl, w5⟩ := cells_int Tryd.underlying3 h5
 match cs, hl, k0, k1, k2, k3, k4, k5, k6, k7 with
 | [u0, u1, u2, u3, u4, u5, u6, u7], _, k0, k1, k2, k3, k4, k5, k6, k7 =>
  simp only [List.getElem?_cons_zero, List.getElem?_cons_succ, Option.some.injEq] at k0 k1 k2 k3 k4 k5 k6 k7
  subst k0 k1 k2 k3 k4 k5 k6 k7
  exact ⟨⟨⟨a0, a1, a2, a3, a4, a5⟩, sy, _⟩, rfl, ⟨_, _, _, rfl⟩, hsy, w0, w1, w2, w3, w4, w5⟩
theorem cells_sp {n : Nat} {cs : List Value} {y : DataW H × List MemPlace} (h : DataW.trod enc Tryd.prog w base (fun _ => true) held n 36 cs = some y) : ∃ s : Sp, cs = spL s ∧ SpIn s := by
 obtain ⟨hl, hfd⟩ := cells_fields Tryd.underlying36 (by kernel_rfl) (by kernel_rfl) h
 obtain ⟨v0, _, _, k0, h0⟩ := hfd 0 _ rfl
 obtain ⟨v1, _, _, k1, h1⟩ := hfd 1 _ rfl
 obtain ⟨v2, _, _, k2, h2⟩ := hfd 2 _ rfl
 obtain ⟨v3, _, _, k3, h3⟩ := hfd 3 _ rfl
 obtain ⟨v4, _, _, k4, h4⟩ := hfd 4 _ rfl
 obtain ⟨sy, e4, _, hsy⟩ := DataW.trod_string Tryd.underlying9 h4
 obtain rfl : v4 = .string sy := by simpa using e4
 obtain ⟨a0, rfl, w0⟩ := cells_int Tryd.underlying3 h0
 obtain ⟨a1, rfl, w1⟩ := cells_int Tryd.underlying3 h1
 obtain ⟨a2, rfl, w2⟩ := cells_int Tryd.underlying3 h2
 obtain ⟨a3, rfl, w3⟩ := cells_int Tryd.underlying3 h3
 match cs, hl, k0, k1, k2, k3, k4 with
 | [u0, u1, u2, u3, u4], _, k0, k1, k2, k3, k4 =>
  simp only [List.getElem?_cons_zero, List.getElem?_cons_succ, Option.some.injEq] at k0 k1 k2 k3 k4
  subst k0 k1 k2 k3 k4
  exact ⟨⟨a0, a1, a2, a3, sy⟩, rfl, hsy, w0, w1, w2, w3⟩
def Le.nil : Le := ⟨⟨0, 0, 0, 0, 0, 0⟩, ByteArray.empty, .nilIface⟩
def Sp.nil : Sp := ⟨0, 0, 0, 0, ByteArray.empty⟩
theorem open_logs {A : Option Addr} {len cap fuel : Nat} {y : DataW H × List MemPlace} (h : DataW.trod enc Tryd.prog w base (fun _ => true) held fuel 26 [.slice A len cap] = some y) :
    len ≤ maxLen ∧ ∃ l : List Le, len = l.length ∧ RowsAt 8 leL w (.slice A l.length cap) l ∧ ∀ e ∈ l, LeIn e := by
 obtain ⟨hlen, l, rfl, hr, hg⟩ := open_recs (m := 8) (R := fun _ cs x => cs = leL x) (G := LeIn) Le.nil Tryd.underlying26 (by kernel_rfl) (by decide) (fun n cs y hy => cells_le hy) h
 exact ⟨hlen, l, rfl, hr.rows, hg⟩
theorem open_spans {A : Option Addr} {len cap fuel : Nat} {y : DataW H × List MemPlace} (h : DataW.trod enc Tryd.prog w base (fun _ => true) held fuel 27 [.slice A len cap] = some y) :
    len ≤ maxLen ∧ ∃ l : List Sp, len = l.length ∧ RowsAt 5 spL w (.slice A l.length cap) l ∧ ∀ s ∈ l, SpIn s := by
 obtain ⟨hlen, l, rfl, hr, hg⟩ := open_recs (m := 5) (R := fun _ cs x => cs = spL x) (G := SpIn) Sp.nil Tryd.underlying27 (by kernel_rfl) (by decide) (fun n cs y hy => cells_sp hy) h
 exact ⟨hlen, l, rfl, hr.rows, hg⟩
end
theorem svP_two (x : Int × Int) : ∃ (a b : Int) (r : List Value), snPCells x = .int .i64 a :: .int .i64 b :: r := ⟨_, _, _, rfl⟩
theorem svG_two (x : Gs4) : ∃ (a b : Int) (r : List Value), snGCells x = .int .i64 a :: .int .i64 b :: r := ⟨_, _, _, rfl⟩
theorem SvAt.upd {w w' : World} {s : Sv} {X : Nat} {t : Int} {A D : Option Addr} {n c m d : Nat} (h : SvAt w s) (hb : w.heap[X]? = some (.cells #[.int .i64 t, .slice A n c, .slice D m d] 25 (0, 0))) (hu : Upd X w w') : SvAt w' s :=
 ⟨rows_off h.1 svP_two hb (by simp) (by simp) hu, rows_off h.2 svG_two hb (by simp) (by simp) hu⟩
theorem SvAt.push {w w' : World} {s : Sv} {B g cap : Nat} {vs : List Sv} (h : SvAt w s) (hr : SnRow w B g cap vs) (hg : w.grownBy w' (some g)) : SvAt w' s :=
 ⟨h.1.grown hg fun h0 a ha e => hr.off h.1 svP_two rfl h0 a ha (by injection e with e; exact e.symm), h.2.grown hg fun h0 a ha e => hr.off h.2 svG_two rfl h0 a ha (by injection e with e; exact e.symm)⟩
structure SnsB (w0 w : World) (X : Nat) (cur : Sv) (g cap : Nat) (vs : List Sv) : Prop where
 xbox : w.heap[X]? = some (.cells #[.int .i64 cur.x.time, .slice cur.A cur.x.ps.length cur.c, .slice cur.D cur.x.gs.length cur.d] 25 (0, 0))
 cur : SvAt w cur
 row : SnRow w (X + 1) g cap vs
 all : ∀ s ∈ vs, SvAt w s
 ext : Ext w0 w
 lo : w0.heap.size ≤ X
namespace SnsB
variable {w0 w w' : World} {X g cap : Nat} {cur : Sv} {vs : List Sv}
theorem more (h : SnsB w0 w X cur g cap vs) (hx : Ext w w') : SnsB w0 w' X cur g cap vs :=
 ⟨hx.blk h.xbox, h.cur.ext hx, h.row.ext hx, fun s hs => (h.all s hs).ext hx, h.ext.trans hx, h.lo⟩
theorem setX (h : SnsB w0 w X cur g cap vs) {y : Sv} (hy : SvAt w y) : w.there X 0 (svL y).length ∧ ∃ w', w.setCells X 0 (svL y) = w' ∧ SnsB w0 w' X y g cap vs := by
 have hu := setCells_upd X (svL y) w 0
 refine ⟨there_row h.xbox (by simp [svL]), _, rfl, ⟨setCells_at [.int .i64 cur.x.time, .slice cur.A cur.x.ps.length cur.c, .slice cur.D cur.x.gs.length cur.d] (svL y) rfl h.xbox, hy.upd h.xbox hu, h.row.upd hu (by omega), fun s hs => (h.all s hs).upd h.xbox hu, Ext.upd h.ext hu h.lo, h.lo⟩⟩
theorem push (h : SnsB w0 w X cur g cap vs) (hl : vs.length ≤ 1000000) :
    ∃ g' cap' w', (Builtin.append_ #[54, 54] 54 #[.slice (some ⟨g, 0, none⟩) vs.length cap, .slice (some ⟨w.heap.size, 0, none⟩) 1 1]).run Tryd.prog (w.alloc (.cells (svL cur).toArray 25)) = .ok (.slice (some ⟨g', 0, none⟩) (vs.length + 1) cap') w' ∧ SnsB w0 w' X cur g' cap' (vs ++ [cur]) := by
 have hX := blk_lt h.xbox
 have hlo := h.lo
 have hgl := h.row.lo
 obtain ⟨g', cap', w', hr, ho, hg⟩ := h.row.push cur (by omega) hl
 refine ⟨g', cap', w', hr, ⟨?_, h.cur.push h.row hg, ho, fun s hs => ?_, Below.grown h.ext hg h.ext.size fun k hk => by injection hk with hk; omega, h.lo⟩⟩
 · rw [hg.block X hX (fun e => by injection e with e; omega)]; exact h.xbox
 · rcases List.mem_append.1 hs with hs | hs
   · exact (h.all s hs).push h.row hg
   · rw [List.mem_singleton] at hs; subst hs; exact h.cur.push h.row hg
end SnsB
def SvTup (W : World) (x : Sn) (b : Bool) (u : Value) (v : World) : Prop := ∃ A c D d, u = .tuple #[.agg #[.int .i64 x.time, .slice A x.ps.length c, .slice D x.gs.length d], .bool b] ∧ SvAt v ⟨x, A, c, D, d⟩ ∧ Ext W v
theorem SvTup.at {W v : World} {x : Sn} {b : Bool} {A D : Option Addr} {c d : Nat} (h : SvTup W x b (.tuple #[.agg #[.int .i64 x.time, .slice A x.ps.length c, .slice D x.gs.length d], .bool b]) v) : SvAt v ⟨x, A, c, D, d⟩ ∧ Ext W v := by
 obtain ⟨A', c', D', d', he, h1, h2⟩ := h
 simp at he
 obtain ⟨⟨rfl, rfl⟩, rfl, rfl⟩ := he
 exact ⟨h1, h2⟩
def SnsAns (w : World) (o : Option (List Sn)) (e : Ending) (w' : World) : Prop := ∃ u, e = .returned (.tuple #[u, .bool o.isSome]) ∧ (o = none → u = .slice none 0 0) ∧ (∀ xs, o = some xs → ∃ vs : List Sv, vs.map (·.x) = xs ∧ RowsAt 3 svL w' u vs ∧ ∀ s ∈ vs, SvAt w' s) ∧ Ext w w'
theorem rsnmay_every (v : Value) (x : Sn) (w : World) (hs : SnAt w v x) : Calls Tryd.prog 33 #[v] w fun e w' => e = .returned (.bool x.may) ∧ Ext w w' := by
 by_cases h : 64 < x.ps.length ∨ 1000 < x.gs.length
 · obtain ⟨time, ps, gs⟩ := x
   have hm := sn_big (time := time) h
   rw [hm]
   exact rsnmay_big v ⟨time, ps, gs⟩ w hs h
 · exact rsnmay_k v x _ w rfl hs (by omega) (by omega)
def SvBox (W : World) (u : Value) (v : World) : Prop := ∃ x, u = .pointer (some ⟨x, 0, none⟩) ∧ W.heap.size ≤ x ∧ v.heap[x]? = some (.cells #[.int .i64 0, .slice none 0 0, .slice none 0 0] 25 (0, 0)) ∧ Ext W v
theorem SvBox.x {W : World} {u : Value} {v : World} (h : SvBox W u v) : Ext W v := by obtain ⟨_, _, _, _, h⟩ := h; exact h
theorem SvBox.at {W : World} {x : Nat} {v : World} (h : SvBox W (.pointer (some ⟨x, 0, none⟩)) v) : W.heap.size ≤ x ∧ v.heap[x]? = some (.cells #[.int .i64 0, .slice none 0 0, .slice none 0 0] 25 (0, 0)) ∧ Ext W v := by
 obtain ⟨y, hy, h1, h2, h3⟩ := h
 simp only [Value.pointer.injEq, Option.some.injEq, Addr.mk.injEq, and_true] at hy
 subst hy
 exact ⟨h1, h2, h3⟩
def SvBoth (W : World) (s : Sv) (u : Value) (v : World) : Prop := ∃ x, u = .pointer (some ⟨x, 0, none⟩) ∧ W.heap.size ≤ x ∧ v.heap[x]? = some (.cells #[.int .i64 0, .slice none 0 0, .slice none 0 0] 25 (0, 0)) ∧ SvAt v s ∧ Ext W v
theorem SvBoth.x {W : World} {s : Sv} {u : Value} {v : World} (h : SvBoth W s u v) : Ext W v := by obtain ⟨_, _, _, _, _, h⟩ := h; exact h
theorem SvBoth.at {W : World} {s : Sv} {x : Nat} {v : World} (h : SvBoth W s (.pointer (some ⟨x, 0, none⟩)) v) : W.heap.size ≤ x ∧ v.heap[x]? = some (.cells #[.int .i64 0, .slice none 0 0, .slice none 0 0] 25 (0, 0)) ∧ SvAt v s ∧ Ext W v := by
 obtain ⟨y, hy, h1, h2, h3, h4⟩ := h
 simp only [Value.pointer.injEq, Option.some.injEq, Addr.mk.injEq, and_true] at hy
 subst hy
 exact ⟨h1, h2, h3, h4⟩
def SvTup2 (W : World) (x : Sn) (b : Bool) (Y : Nat) (u : Value) (v : World) : Prop := ∃ A c D d, u = .tuple #[.agg #[.int .i64 x.time, .slice A x.ps.length c, .slice D x.gs.length d], .bool b] ∧ W.heap.size ≤ Y ∧ v.heap[Y]? = some (.cells #[.int .i64 0, .slice none 0 0, .slice none 0 0] 25 (0, 0)) ∧ SvAt v ⟨x, A, c, D, d⟩ ∧ Ext W v
theorem SvTup2.x {W v : World} {x : Sn} {b : Bool} {Y : Nat} {u : Value} (h : SvTup2 W x b Y u v) : Ext W v := by obtain ⟨_, _, _, _, _, _, _, _, h⟩ := h; exact h
theorem SvTup2.at {W v : World} {x : Sn} {b : Bool} {Y : Nat} {A D : Option Addr} {c d : Nat} (h : SvTup2 W x b Y (.tuple #[.agg #[.int .i64 x.time, .slice A x.ps.length c, .slice D x.gs.length d], .bool b]) v) : W.heap.size ≤ Y ∧ v.heap[Y]? = some (.cells #[.int .i64 0, .slice none 0 0, .slice none 0 0] 25 (0, 0)) ∧ SvAt v ⟨x, A, c, D, d⟩ ∧ Ext W v := by
 obtain ⟨A', c', D', d', he, h0, h1, h2, h3⟩ := h
 simp at he
 obtain ⟨⟨rfl, rfl⟩, rfl, rfl⟩ := he
 exact ⟨h0, h1, h2, h3⟩
theorem SvTup.x {W v : World} {x : Sn} {b : Bool} {u : Value} (h : SvTup W x b u v) : Ext W v := by obtain ⟨_, _, _, _, _, _, h⟩ := h; exact h
def SvLaid (W : World) (s : Sv) (Y : Nat) (_ : Value) (v : World) : Prop := W.heap.size ≤ Y ∧ v.heap[Y]? = some (.cells #[.int .i64 s.x.time, .slice s.A s.x.ps.length s.c, .slice s.D s.x.gs.length s.d] 25 (0, 0)) ∧ SvAt v s ∧ Ext W v
theorem sv_lay {W v : World} {s : Sv} {Y : Nat} (hY : W.heap.size ≤ Y) (hb : v.heap[Y]? = some (.cells #[.int .i64 0, .slice none 0 0, .slice none 0 0] 25 (0, 0))) (hs : SvAt v s) (hx : Ext W v) :
    SvLaid W s Y undef (((v.setCell ⟨Y, 0, none⟩ (.int .i64 s.x.time)).setCell ⟨Y, 1, none⟩ (.slice s.A s.x.ps.length s.c)).setCell ⟨Y, 2, none⟩ (.slice s.D s.x.gs.length s.d)) := by
 have hu : Upd Y v (((v.setCell ⟨Y, 0, none⟩ (.int .i64 s.x.time)).setCell ⟨Y, 1, none⟩ (.slice s.A s.x.ps.length s.c)).setCell ⟨Y, 2, none⟩ (.slice s.D s.x.gs.length s.d)) := (((Upd.refl _ _).set 0 _).set 1 _).set 2 _
 exact ⟨hY, blk_set (blk_set (blk_set hb 0 _) 1 _) 2 _, hs.upd hb hu, Ext.upd hx hu hY⟩
theorem rapply_s {W : World} (v : Value) (x : Sn) (l : Lg) (wy st : Value) (w : World) (hs : SnAt w v x) (o : Option Sn) (hr : Md.app x l = o) (hW : Ext W w) :
    Calls Tryd.prog 34 #[v, lgV l wy st] w fun e w' => ∃ u, e = .returned u ∧ SvTup W (o.getD Md.zero) o.isSome u w' :=
 (rapply_all v x l wy st w hs o hr).mono fun e w' ⟨u, he, ⟨A, c, D, d, hu, h2, h3⟩, hx⟩ => ⟨_, he, A, c, D, d, by rw [hu], ⟨h2, h3⟩, hW.trans hx⟩
theorem rapply_s2 {W : World} {Y : Nat} (v : Value) (x : Sn) (l : Lg) (wy st : Value) (w : World) (hs : SnAt w v x) (o : Option Sn) (hr : Md.app x l = o) (hW : SvBox W (.pointer (some ⟨Y, 0, none⟩)) w) :
    Calls Tryd.prog 34 #[v, lgV l wy st] w fun e w' => ∃ u, e = .returned u ∧ SvTup2 W (o.getD Md.zero) o.isSome Y u w' :=
 (rapply_all v x l wy st w hs o hr).mono fun e w' ⟨u, he, ⟨A, c, D, d, hu, h2, h3⟩, hx⟩ => ⟨_, he, A, c, D, d, by rw [hu], hW.at.1, hx.blk hW.at.2.1, ⟨h2, h3⟩, hW.x.trans hx⟩
set_option maxRecDepth 100000 in
set_option maxHeartbeats 16000000 in
theorem rsnaps_any (v vl : Value) (x : Sn) (es : List Le) (w : World) (hs : SnAt w v x) (hl : RowsAt 8 leL w vl es) (hn : es.length ≤ 1000) (he : ∀ e ∈ es, ∃ A n c, e.stack = .slice A n c) (o : Option (List Sn)) (ho : Sp.snaps x es = o) :
    Calls Tryd.prog 23 #[v, vl] w (SnsAns w o) := by
 obtain ⟨s0, rfl, rfl, hsv⟩ := hs.sv
 obtain ⟨wa, hwa⟩ : ∃ wa, w.alloc (.cells (svL s0).toArray 25) = wa := ⟨_, rfl⟩
 have hxa : Ext w wa := by rw [← hwa]; exact (Ext.refl w).alloc _
 have hba : wa.heap[w.heap.size]? = some (.cells (svL s0).toArray 25 (0, 0)) := by rw [← hwa]; exact blk_new w _
 obtain ⟨X, hX⟩ : ∃ X, w.heap.size = X := ⟨_, rfl⟩
 have hsz : wa.heap.size = X + 1 := by rw [← hwa, World.size_alloc, hX]
 obtain ⟨wb, hwb⟩ : ∃ wb, wa.alloc (.cells (svL s0).toArray 25) = wb := ⟨_, rfl⟩
 have hxb : Ext wa wb := by rw [← hwb]; exact (Ext.refl wa).alloc _
 have HB : Hid (SnsB w wb X s0 (X + 1) 1 [s0]) := Lib.hid ⟨by rw [← hX]; exact hxb.blk hba, hsv.ext (hxa.trans hxb), by rw [← hwb]; have := SnRow.made wa (B := X + 1) s0 (by omega); rwa [hsz] at this, fun s hs => by rw [List.mem_singleton] at hs; subst hs; exact hsv.ext (hxa.trans hxb), hxa.trans hxb, by omega⟩
 rw [hX] at hba
 have HBX0 : Hid (wa.heap[X]? = some (.cells #[.int .i64 s0.x.time, .slice s0.A s0.x.ps.length s0.c, .slice s0.D s0.x.gs.length s0.d] 25 (0, 0))) := Lib.hid hba
 have HWA : Hid (w.alloc (.cells #[.int .i64 s0.x.time, .slice s0.A s0.x.ps.length s0.c, .slice s0.D s0.x.gs.length s0.d] 25) = wa) := Lib.hid hwa
 have HWB : Hid (wa.alloc (.cells #[.int .i64 s0.x.time, .slice s0.A s0.x.ps.length s0.c, .slice s0.D s0.x.gs.length s0.d] 25) = wb) := Lib.hid hwb
 have HXX := Lib.hid hX
 have HSZ := Lib.hid hsz
 obtain ⟨AL, CL, rfl, -⟩ := hl.form
 have HLL := Lib.hid hl
 have HE := Lib.hid he
 have HO := Lib.hid ho
 have hn' : (es.length : Int) ≤ 1000 := by omega
 clear hwa hba hX hsz hwb hl he ho hxa hs hsv
 unfold svL
 go_enter Tryd.func23, Tryd.ntmps23
 go_upto_region 1 with fail
 rw [HWA.out, HXX.out]
 have q0 := blk_cell HBX0.out 0 _ rfl
 have q1 := blk_cell HBX0.out 1 _ rfl
 have q2 := blk_cell HBX0.out 2 _ rfl
 go_upto_region 2 with fail
 rw [HWB.out, HSZ.out]
 clear q0 q1 q2
 have q0 := blk_cell HB.out.xbox 0 _ rfl
 have q1 := blk_cell HB.out.xbox 1 _ rfl
 have q2 := blk_cell HB.out.xbox 2 _ rfl
 go_wp2_with fail
 refine (rsnmay_every _ s0.x wb HB.out.cur.at).mono ?_
 rintro e w2 ⟨rfl, hx2⟩
 have HB2 := Lib.hid (HB.out.more hx2)
 clear hx2 q0 q1 q2 HB HBX0
 obtain ⟨my, hmy⟩ : ∃ my, s0.x.may = my := ⟨_, rfl⟩
 have HMY := Lib.hid hmy
 rw [hmy]
 clear hmy
 cases my with
 | false =>
  have HN : Hid (o = none) := Lib.hid (by rw [← HO.out]; unfold Sp.snaps; rw [HMY.out]; rfl)
  have HX2 := Lib.hid HB2.out.ext
  go_wp2
  go_ret2
  rw [HN.out]
  exact ⟨_, rfl, fun _ => rfl, fun xs h => (by cases h), HX2.out⟩
 | true =>
 have HOO : Hid (o = (Sp.steps es s0.x).map (s0.x :: ·)) := Lib.hid (by rw [← HO.out]; unfold Sp.snaps; rw [HMY.out]; rfl)
 go_wp2_with fail
 go_loopw [6, 7] (fun uv iv wr => ∃ (k : Nat) (cur : Sv) (g cap : Nat) (vs : List Sv), k ≤ es.length ∧ iv = .int .i64 k ∧ uv = .slice (some ⟨g, 0, none⟩) vs.length cap ∧ vs.length ≤ 1001 ∧ vs.length = k + 1 ∧ SnsB w wr X cur g cap vs ∧ Hid (o = (Sp.steps (es.drop k) cur.x).map (vs.map (·.x) ++ ·))) (fun _ iv _ => es.length - (intOf iv).toNat)
 case atStart => exact ⟨0, s0, _, _, [s0], Nat.zero_le _, rfl, rfl, by simp, rfl, HB2.out, Lib.hid (by rw [HOO.out]; rfl)⟩
 case round =>
  obtain ⟨k, cur, g, cap, vs, hk, rfl, rfl, hvl, hvk, hb, HGO⟩ := hrel
  have HB := Lib.hid hb
  have HVL := Lib.hid hvl
  have HVK := Lib.hid hvk
  clear hb hvl hvk
  by_cases hlt : k < es.length
  · obtain ⟨e, he⟩ : ∃ e, es[k]? = some e := ⟨_, List.getElem?_eq_getElem hlt⟩
    have HD := Lib.hid (drop_cons he)
    have HST := HE.out e (List.mem_of_getElem? he)
    obtain ⟨b, p, hB, hb, hc⟩ := (HLL.out.ext HB.out.ext).get he
    subst hB
    obtain ⟨⟨et, em, ek, eg, ep, eq⟩, ew, ev⟩ := e
    obtain ⟨Av, nv, cv, hev⟩ := HST
    dsimp only at hev
    subst hev
    have HCL : Hid (∀ v, Ext wr v → v.cell? ⟨b, p + k * 8, none⟩ = some (.int .i64 et) ∧ v.cell? ⟨b, p + k * 8 + 1, none⟩ = some (.int .i64 em) ∧ v.cell? ⟨b, p + k * 8 + 2, none⟩ = some (.int .i64 ek) ∧ v.cell? ⟨b, p + k * 8 + 3, none⟩ = some (.int .i64 eg) ∧ v.cell? ⟨b, p + k * 8 + 4, none⟩ = some (.int .i64 ep) ∧ v.cell? ⟨b, p + k * 8 + 5, none⟩ = some (.int .i64 eq) ∧ v.cell? ⟨b, p + k * 8 + 6, none⟩ = some (.string ew) ∧ v.cell? ⟨b, p + k * 8 + 7, none⟩ = some (.slice Av nv cv)) := Lib.hid fun v hv =>
     ⟨(Below.cell (p := ⟨b, p + k * 8, none⟩) hv hb).trans (by have := hc 0 _ rfl; rwa [Nat.add_zero] at this), (Below.cell (p := ⟨b, p + k * 8 + 1, none⟩) hv hb).trans (hc 1 _ rfl), (Below.cell (p := ⟨b, p + k * 8 + 2, none⟩) hv hb).trans (hc 2 _ rfl), (Below.cell (p := ⟨b, p + k * 8 + 3, none⟩) hv hb).trans (hc 3 _ rfl), (Below.cell (p := ⟨b, p + k * 8 + 4, none⟩) hv hb).trans (hc 4 _ rfl), (Below.cell (p := ⟨b, p + k * 8 + 5, none⟩) hv hb).trans (hc 5 _ rfl), (Below.cell (p := ⟨b, p + k * 8 + 6, none⟩) hv hb).trans (hc 6 _ rfl), (Below.cell (p := ⟨b, p + k * 8 + 7, none⟩) hv hb).trans (hc 7 _ rfl)⟩
    clear he hb hc
    obtain ⟨oa, hoa⟩ : ∃ oa, Md.app cur.x ⟨et, em, ek, eg, ep, eq⟩ = oa := ⟨_, rfl⟩
    obtain ⟨ya, hya⟩ : ∃ ya, oa.getD Md.zero = ya := ⟨_, rfl⟩
    obtain ⟨ob, hob⟩ : ∃ ob, oa.isSome = ob := ⟨_, rfl⟩
    have HOA := Lib.hid hoa
    have HYA := Lib.hid hya
    have HOB := Lib.hid hob
    have HCU := Lib.hid (fun v (hv : Ext wr v) => (HB.out.cur.ext hv).at)
    clear hoa hya hob
    go_upto_region 7 with fail
    refine region_g 99 (fun v => Ext wr v) (fun v => Ext wr v) (by kernel_rfl) (Ext.refl _).drew ?_
    have HG : ∀ (l : Array Bool) v, Ext wr v → l.getD 99 false = false → Ext wr v := fun _ _ h _ => h
    have K0 : ∀ v, Ext wr v → v.cell? ⟨X, 0, none⟩ = some (.int .i64 cur.x.time) := fun v hv => blk_cell (hv.blk HB.out.xbox) 0 _ rfl
    have K1 : ∀ v, Ext wr v → v.cell? ⟨X, 1, none⟩ = some (.slice cur.A cur.x.ps.length cur.c) := fun v hv => blk_cell (hv.blk HB.out.xbox) 1 _ rfl
    have K2 : ∀ v, Ext wr v → v.cell? ⟨X, 2, none⟩ = some (.slice cur.D cur.x.gs.length cur.d) := fun v hv => blk_cell (hv.blk HB.out.xbox) 2 _ rfl
    have L0 := fun v hv => (HCL.out v hv).1
    have L1 := fun v hv => (HCL.out v hv).2.1
    have L2 := fun v hv => (HCL.out v hv).2.2.1
    have L3 := fun v hv => (HCL.out v hv).2.2.2.1
    have L4 := fun v hv => (HCL.out v hv).2.2.2.2.1
    have L5 := fun v hv => (HCL.out v hv).2.2.2.2.2.1
    have L6 := fun v hv => (HCL.out v hv).2.2.2.2.2.2.1
    have L7 := fun v hv => (HCL.out v hv).2.2.2.2.2.2.2
    have i0 : (0 : Int) ≤ (k : Int) := by omega
    have i1 : (k : Int) < (es.length : Int) := by omega
    refine g_take (HG _) (i := 0) (v := ?_) rfl (by kernel_rfl) (by kernel_rfl) (by kernel_rfl) (by kernel_rfl) (by kernel_rfl) (fun _ _ _ h => h) (Still.yes (by kernel_rfl) fun w hS => ?_) ?_
    rotate_left 1
    · go_simp; refine gives_mk ?_ rfl; with_reducible rfl
    refine g_take (HG _) (i := 1) (v := ?_) rfl (by kernel_rfl) (by kernel_rfl) (by kernel_rfl) (by kernel_rfl) (by kernel_rfl) (fun _ _ _ h => h) (Still.yes (by kernel_rfl) fun w hS => ?_) ?_
    rotate_left 1
    · go_simp; refine gives_mk ?_ rfl; with_reducible rfl
    refine g_take (HG _) (i := 2) (v := ?_) rfl (by kernel_rfl) (by kernel_rfl) (by kernel_rfl) (by kernel_rfl) (by kernel_rfl) (fun _ _ _ h => h) (Still.yes (by kernel_rfl) fun w hS => ?_) ?_
    rotate_left 1
    · go_simp; refine gives_mk ?_ rfl; with_reducible rfl
    refine g_take (HG _) (i := 3) (v := ?_) rfl (by kernel_rfl) (by kernel_rfl) (by kernel_rfl) (by kernel_rfl) (by kernel_rfl) (fun _ _ _ h => h) (Still.yes (by kernel_rfl) fun w hS => ?_) ?_
    rotate_left 1
    · go_simp; refine gives_mk ?_ rfl; with_reducible rfl
    refine g_take (HG _) (i := 4) (v := ?_) rfl (by kernel_rfl) (by kernel_rfl) (by kernel_rfl) (by kernel_rfl) (by kernel_rfl) (fun _ _ _ h => h) (Still.yes (by kernel_rfl) fun w hS => ?_) ?_
    rotate_left 1
    · go_simp; refine gives_mk ?_ rfl; with_reducible rfl
    refine g_two (SvTup wr ya ob) (SvBox wr) (k := 5) (l := 9) (by kernel_rfl) (fun _ _ h _ => h.x) (fun _ _ h _ => h.x) (fun v hv => ?_) (fun v hv => ?_)
    · refine at_call (S := fun _ => True) rfl (by kernel_rfl) (by go_simp; (try exact ⟨rfl, rfl⟩)) (by rw [← HYA.out, ← HOB.out]; exact rapply_s _ cur.x ⟨et, em, ek, eg, ep, eq⟩ (.string ew) (.slice Av nv cv) v (HCU.out v hv) oa HOA.out hv) ?_
      rintro u ⟨_, A, c, D, d, rfl, -, -⟩
      replace HG : ∀ (l : Array Bool) v, SvTup wr ya ob (.tuple #[.agg #[.int .i64 ya.time, .slice A ya.ps.length c, .slice D ya.gs.length d], .bool ob]) v → l.getD 99 false = false → Ext wr v := fun _ _ h _ => h.x
      refine g_free (HG _) (i := 6) (v := ?_) rfl (by kernel_rfl) (by kernel_rfl) (by kernel_rfl) (by kernel_rfl) (fun _ _ _ h => h) (Still.yes (by kernel_rfl) fun w hS => ?_) ?_
      rotate_left 1
      · go_simp; refine gives_mk ?_ rfl; with_reducible rfl
      refine g_free (HG _) (i := 7) (v := ?_) rfl (by kernel_rfl) (by kernel_rfl) (by kernel_rfl) (by kernel_rfl) (fun _ _ _ h => h) (Still.yes (by kernel_rfl) fun w hS => ?_) ?_
      rotate_left 1
      · go_simp; refine gives_mk ?_ rfl; with_reducible rfl
      refine g_free (HG _) (i := 8) (v := ?_) rfl (by kernel_rfl) (by kernel_rfl) (by kernel_rfl) (by kernel_rfl) (fun _ _ _ h => h) (Still.yes (by kernel_rfl) fun w hS => ?_) ?_
      rotate_left 1
      · go_simp; refine gives_mk ?_ rfl; with_reducible rfl
      refine g_turn (SvBoth wr ⟨ya, A, c, D, d⟩) (k := 9) (by kernel_rfl) (fun _ _ h _ => h.x) (fun v hv => ?_)
      refine at_value rfl (by kernel_rfl) (by go_simp; exact ⟨_, _, ⟨rfl, rfl⟩, v.heap.size, rfl, hv.at.2.size, blk_new _ _, hv.at.1.ext ((Ext.refl v).alloc _), hv.at.2.alloc _⟩) ?_
      rintro u ⟨_, Y, rfl, -⟩
      refine g_turn (SvLaid wr ⟨ya, A, c, D, d⟩ Y) (k := 10) (by kernel_rfl) (fun _ _ h _ => h.2.2.2) (fun v hv => ?_)
      refine at_skip rfl (by kernel_rfl) ?_ ?_
      · have HYY := Lib.hid hv.at.1
        have HZB := Lib.hid hv.at.2.1
        have HSV := Lib.hid hv.at.2.2.1
        have HV := Lib.hid hv.at.2.2.2
        clear hv K0 K1 K2 L0 L1 L2 L3 L4 L5 L6 L7 HG i0 i1
        have z0 := blk_cell HZB.out 0 _ rfl
        have z1 := blk_cell HZB.out 1 _ rfl
        have z2 := blk_cell HZB.out 2 _ rfl
        have y0 := frozen_of_row _ _ 0 _ _ HZB.out
        have y1 := frozen_of_row _ _ 1 _ _ HZB.out
        have y2 := frozen_of_row _ _ 2 _ _ HZB.out
        go_simp
        first | exact sv_lay HYY.out HZB.out HSV.out HV.out | exact ⟨_, rfl, sv_lay HYY.out HZB.out HSV.out HV.out⟩
      replace HG : ∀ (l : Array Bool) v, SvLaid wr ⟨ya, A, c, D, d⟩ Y undef v → l.getD 99 false = false → Ext wr v := fun _ _ h _ => h.2.2.2
      refine g_free (HG _) (i := 11) (v := ?_) rfl (by kernel_rfl) (by kernel_rfl) (by kernel_rfl) (by kernel_rfl) (fun _ _ _ h => h) (Still.yes (by kernel_rfl) fun w hS => ?_) ?_
      rotate_left 1
      · go_simp; refine gives_mk ?_ rfl; with_reducible rfl
      refine g_done (by kernel_rfl) ?_ _
      intro w6 hw6
      have HLD := Lib.hid hw6.2.1
      have HSY := Lib.hid hw6.2.2.1
      have HS6 := Lib.hid (HB.out.more hw6.2.2.2)
      clear K0 K1 K2 L0 L1 L2 L3 L4 L5 L6 L7 i0 i1 HG hw6
      go_simp
      cases ob with
      | false =>
       have HN : Hid (o = none) := Lib.hid (by
        rw [HGO.out, HD.out]
        have h1 : oa = none := by cases oa with | none => rfl | some z => cases HOB.out
        unfold Sp.steps
        simp only [HOA.out, h1]
        rfl)
       go_wp2
       go_ret2
       rw [HN.out]
       exact ⟨_, rfl, fun _ => rfl, fun xs h => (by cases h), HS6.out.ext⟩
      | true =>
       have HOY : Hid (Md.app cur.x ⟨et, em, ek, eg, ep, eq⟩ = some ya) := Lib.hid (by
        rw [HOA.out]
        have h1 := HYA.out
        cases oa with
        | none => cases HOB.out
        | some z => rw [← h1]; rfl)
       have HGN : Hid (o = (Sp.steps (es.drop (k + 1)) ya).map ((vs ++ [(⟨ya, A, c, D, d⟩ : Sv)]).map (·.x) ++ ·)) := Lib.hid (by
        rw [HGO.out, HD.out]
        conv => lhs; unfold Sp.steps
        simp only [HOY.out, Option.map_map]
        congr 1
        funext z
        simp)
       obtain ⟨hth, w7, hw7, hs7⟩ := HS6.out.setX HSY.out
       have HTH := Lib.hid hth
       have HW7 := Lib.hid hw7
       have HS7 := Lib.hid hs7
       clear hth hw7 hs7
       go_upto_region 11 with (first | (refine wpList_load_rowW rfl 25 _ rfl Y rfl [.int .i64 ya.time, .slice A ya.ps.length c, .slice D ya.gs.length d] (.agg #[.int .i64 ya.time, .slice A ya.ps.length c, .slice D ya.gs.length d]) rfl _ (range_row HLD.out) Tryd.underlying25 rfl (by kernel_rfl) ?_) | (refine wpList_store_rowN rfl 25 _ _ rfl X 0 [.int .i64 ya.time, .slice A ya.ps.length c, .slice D ya.gs.length d] (.agg ([.int .i64 ya.time, .slice A ya.ps.length c, .slice D ya.gs.length d]).toArray) (by go_simp) (by go_simp) rfl HTH.out (by kernel_rfl) (svL_one ⟨ya, A, c, D, d⟩) HW7.out ?_))
       obtain ⟨gn, cn, w8, hr8, hs8⟩ := HS7.out.push (by have := HVL.out; omega)
       have HR8 := Lib.hid hr8
       have HS8 := Lib.hid hs8
       clear hr8 hs8
       have q0 := blk_cell HS7.out.xbox 0 _ rfl
       have q1 := blk_cell HS7.out.xbox 1 _ rfl
       have q2 := blk_cell HS7.out.xbox 2 _ rfl
       dsimp only at q0 q1 q2
       go_wp2_with (at_builtin; refine wpList_append_run rfl _ _ 54 rfl _ _ rfl rfl HR8.out ?_)
       go_roundw
       case rel => exact ⟨k + 1, ⟨ya, A, c, D, d⟩, gn, cn, vs ++ [⟨ya, A, c, D, d⟩], by omega, by go_num, by rw [List.length_append, List.length_singleton], by rw [List.length_append, List.length_singleton]; have := HVK.out; omega, by rw [List.length_append, List.length_singleton, HVK.out], HS8.out, HGN⟩
       case measure => simp [intOf]; omega
    · refine at_value rfl (by kernel_rfl) (by go_simp; exact ⟨_, _, ⟨rfl, rfl⟩, v.heap.size, rfl, hv.size, blk_new _ _, hv.alloc _⟩) ?_
      rintro u ⟨_, Y, rfl, -⟩
      refine g_turn (SvTup2 wr ya ob Y) (k := 5) (by kernel_rfl) (fun _ _ h _ => h.x) (fun v hv => ?_)
      refine at_call (S := fun _ => True) rfl (by kernel_rfl) (by go_simp; (try exact ⟨rfl, rfl⟩)) (by rw [← HYA.out, ← HOB.out]; exact rapply_s2 _ cur.x ⟨et, em, ek, eg, ep, eq⟩ (.string ew) (.slice Av nv cv) v (HCU.out v hv.x) oa HOA.out hv) ?_
      rintro u ⟨_, A, c, D, d, rfl, -, -, -, -⟩
      replace HG : ∀ (l : Array Bool) v, SvTup2 wr ya ob Y (.tuple #[.agg #[.int .i64 ya.time, .slice A ya.ps.length c, .slice D ya.gs.length d], .bool ob]) v → l.getD 99 false = false → Ext wr v := fun _ _ h _ => h.x
      refine g_free (HG _) (i := 6) (v := ?_) rfl (by kernel_rfl) (by kernel_rfl) (by kernel_rfl) (by kernel_rfl) (fun _ _ _ h => h) (Still.yes (by kernel_rfl) fun w hS => ?_) ?_
      rotate_left 1
      · go_simp; refine gives_mk ?_ rfl; with_reducible rfl
      refine g_free (HG _) (i := 7) (v := ?_) rfl (by kernel_rfl) (by kernel_rfl) (by kernel_rfl) (by kernel_rfl) (fun _ _ _ h => h) (Still.yes (by kernel_rfl) fun w hS => ?_) ?_
      rotate_left 1
      · go_simp; refine gives_mk ?_ rfl; with_reducible rfl
      refine g_free (HG _) (i := 8) (v := ?_) rfl (by kernel_rfl) (by kernel_rfl) (by kernel_rfl) (by kernel_rfl) (fun _ _ _ h => h) (Still.yes (by kernel_rfl) fun w hS => ?_) ?_
      rotate_left 1
      · go_simp; refine gives_mk ?_ rfl; with_reducible rfl
      refine g_turn (SvLaid wr ⟨ya, A, c, D, d⟩ Y) (k := 10) (by kernel_rfl) (fun _ _ h _ => h.2.2.2) (fun v hv => ?_)
      refine at_skip rfl (by kernel_rfl) ?_ ?_
      · have HYY := Lib.hid hv.at.1
        have HZB := Lib.hid hv.at.2.1
        have HSV := Lib.hid hv.at.2.2.1
        have HV := Lib.hid hv.at.2.2.2
        clear hv K0 K1 K2 L0 L1 L2 L3 L4 L5 L6 L7 HG i0 i1
        have z0 := blk_cell HZB.out 0 _ rfl
        have z1 := blk_cell HZB.out 1 _ rfl
        have z2 := blk_cell HZB.out 2 _ rfl
        have y0 := frozen_of_row _ _ 0 _ _ HZB.out
        have y1 := frozen_of_row _ _ 1 _ _ HZB.out
        have y2 := frozen_of_row _ _ 2 _ _ HZB.out
        go_simp
        first | exact sv_lay HYY.out HZB.out HSV.out HV.out | exact ⟨_, rfl, sv_lay HYY.out HZB.out HSV.out HV.out⟩
      replace HG : ∀ (l : Array Bool) v, SvLaid wr ⟨ya, A, c, D, d⟩ Y undef v → l.getD 99 false = false → Ext wr v := fun _ _ h _ => h.2.2.2
      refine g_free (HG _) (i := 11) (v := ?_) rfl (by kernel_rfl) (by kernel_rfl) (by kernel_rfl) (by kernel_rfl) (fun _ _ _ h => h) (Still.yes (by kernel_rfl) fun w hS => ?_) ?_
      rotate_left 1
      · go_simp; refine gives_mk ?_ rfl; with_reducible rfl
      refine g_done (by kernel_rfl) ?_ _
      intro w6 hw6
      have HLD := Lib.hid hw6.2.1
      have HSY := Lib.hid hw6.2.2.1
      have HS6 := Lib.hid (HB.out.more hw6.2.2.2)
      clear K0 K1 K2 L0 L1 L2 L3 L4 L5 L6 L7 i0 i1 HG hw6
      go_simp
      cases ob with
      | false =>
       have HN : Hid (o = none) := Lib.hid (by
        rw [HGO.out, HD.out]
        have h1 : oa = none := by cases oa with | none => rfl | some z => cases HOB.out
        unfold Sp.steps
        simp only [HOA.out, h1]
        rfl)
       go_wp2
       go_ret2
       rw [HN.out]
       exact ⟨_, rfl, fun _ => rfl, fun xs h => (by cases h), HS6.out.ext⟩
      | true =>
       have HOY : Hid (Md.app cur.x ⟨et, em, ek, eg, ep, eq⟩ = some ya) := Lib.hid (by
        rw [HOA.out]
        have h1 := HYA.out
        cases oa with
        | none => cases HOB.out
        | some z => rw [← h1]; rfl)
       have HGN : Hid (o = (Sp.steps (es.drop (k + 1)) ya).map ((vs ++ [(⟨ya, A, c, D, d⟩ : Sv)]).map (·.x) ++ ·)) := Lib.hid (by
        rw [HGO.out, HD.out]
        conv => lhs; unfold Sp.steps
        simp only [HOY.out, Option.map_map]
        congr 1
        funext z
        simp)
       obtain ⟨hth, w7, hw7, hs7⟩ := HS6.out.setX HSY.out
       have HTH := Lib.hid hth
       have HW7 := Lib.hid hw7
       have HS7 := Lib.hid hs7
       clear hth hw7 hs7
       go_upto_region 11 with (first | (refine wpList_load_rowW rfl 25 _ rfl Y rfl [.int .i64 ya.time, .slice A ya.ps.length c, .slice D ya.gs.length d] (.agg #[.int .i64 ya.time, .slice A ya.ps.length c, .slice D ya.gs.length d]) rfl _ (range_row HLD.out) Tryd.underlying25 rfl (by kernel_rfl) ?_) | (refine wpList_store_rowN rfl 25 _ _ rfl X 0 [.int .i64 ya.time, .slice A ya.ps.length c, .slice D ya.gs.length d] (.agg ([.int .i64 ya.time, .slice A ya.ps.length c, .slice D ya.gs.length d]).toArray) (by go_simp) (by go_simp) rfl HTH.out (by kernel_rfl) (svL_one ⟨ya, A, c, D, d⟩) HW7.out ?_))
       obtain ⟨gn, cn, w8, hr8, hs8⟩ := HS7.out.push (by have := HVL.out; omega)
       have HR8 := Lib.hid hr8
       have HS8 := Lib.hid hs8
       clear hr8 hs8
       have q0 := blk_cell HS7.out.xbox 0 _ rfl
       have q1 := blk_cell HS7.out.xbox 1 _ rfl
       have q2 := blk_cell HS7.out.xbox 2 _ rfl
       dsimp only at q0 q1 q2
       go_wp2_with (at_builtin; refine wpList_append_run rfl _ _ 54 rfl _ _ rfl rfl HR8.out ?_)
       go_roundw
       case rel => exact ⟨k + 1, ⟨ya, A, c, D, d⟩, gn, cn, vs ++ [⟨ya, A, c, D, d⟩], by omega, by go_num, by rw [List.length_append, List.length_singleton], by rw [List.length_append, List.length_singleton]; have := HVK.out; omega, by rw [List.length_append, List.length_singleton, HVK.out], HS8.out, HGN⟩
       case measure => simp [intOf]; omega
  · obtain rfl : k = es.length := by omega
    have HN : Hid (o = some (vs.map (·.x))) := Lib.hid (by rw [HGO.out, List.drop_length]; simp [Sp.steps])
    go_wp2
    go_ret2
    rw [HN.out]
    exact ⟨_, rfl, fun h => (by cases h), fun xs h => ⟨vs, by simpa using h, HB.out.row.own.rows svL_len, HB.out.all⟩, HB.out.ext⟩
set_option maxRecDepth 100000 in
set_option maxHeartbeats 8000000 in
theorem rwhy_any (g : Int) (e : Le) (w : World) (o : ByteArray) (ho : Sp.whyG g e = o) : Calls Tryd.prog 25 #[.agg (leL e).toArray, .int .i64 g] w fun e' w' => e' = .returned (.string o) ∧ Ext w w' := by
 subst ho
 obtain ⟨⟨et, em, ek, eg, ep, eq⟩, ew, ev⟩ := e
 unfold leL
 simp only
 obtain ⟨w1, hw1⟩ : ∃ w1, w.alloc (.cells #[.int .i64 et, .int .i64 em, .int .i64 ek, .int .i64 eg, .int .i64 ep, .int .i64 eq, .string ew, ev] 34) = w1 := ⟨_, rfl⟩
 have hx1 : Ext w w1 := by rw [← hw1]; exact (Ext.refl w).alloc _
 have hb1 : w1.heap[w.heap.size]? = some (.cells #[.int .i64 et, .int .i64 em, .int .i64 ek, .int .i64 eg, .int .i64 ep, .int .i64 eq, .string ew, ev] 34 (0, 0)) := by rw [← hw1]; exact blk_new w _
 have q2 := blk_cell hb1 2 _ rfl
 have q3 := blk_cell hb1 3 _ rfl
 have q6 := blk_cell hb1 6 _ rfl
 have HW1 := Lib.hid hw1
 have HX1 := Lib.hid hx1
 clear hw1 hx1 hb1
 go_enter Tryd.func25, Tryd.ntmps25
 go_upto_region 1 with fail
 rw [HW1.out]
 by_cases a1 : eg = g
 rotate_left 1
 · have e1 : (eg == g) = false := by simpa using a1
   have HN : Hid (Sp.whyG g ⟨⟨et, em, ek, eg, ep, eq⟩, ew, ev⟩ = ByteArray.empty) := Lib.hid (by unfold Sp.whyG; rw [if_neg (fun h => a1 h.1)])
   clear a1
   go_wp2
   go_ret
   exact ⟨by rw [HN.out] <;> rfl, HX1.out⟩
 have e1 : (eg == g) = true := by simpa using a1
 by_cases a2 : ek = 5
 · have e2 : (ek == 5) = true := by simpa using a2
   have HN : Hid (Sp.whyG g ⟨⟨et, em, ek, eg, ep, eq⟩, ew, ev⟩ = ew) := Lib.hid (by unfold Sp.whyG; rw [if_pos ⟨a1, .inl a2⟩])
   clear a1 a2
   go_wp2
   go_ret
   exact ⟨by rw [HN.out] <;> rfl, HX1.out⟩
 have e2 : (ek == 5) = false := by simpa using a2
 by_cases a3 : ek = 6
 · have e3 : (ek == 6) = true := by simpa using a3
   have HN : Hid (Sp.whyG g ⟨⟨et, em, ek, eg, ep, eq⟩, ew, ev⟩ = ew) := Lib.hid (by unfold Sp.whyG; rw [if_pos ⟨a1, .inr a3⟩])
   clear a1 a2 a3
   go_wp2
   go_ret
   exact ⟨by rw [HN.out] <;> rfl, HX1.out⟩
 · have e3 : (ek == 6) = false := by simpa using a3
   have HN : Hid (Sp.whyG g ⟨⟨et, em, ek, eg, ep, eq⟩, ew, ev⟩ = ByteArray.empty) := Lib.hid (by unfold Sp.whyG; rw [if_neg (fun h => h.2.elim a2 a3)])
   clear a1 a2 a3
   go_wp2
   go_ret
   exact ⟨by rw [HN.out] <;> rfl, HX1.out⟩
structure OuR (wb w : World) (u : Value) (l : List Sp) : Prop where
 own : OwnRows 36 5 spL w wb.heap.size u l
 ext : Ext wb w
namespace OuR
variable {wb w w' : World} {u : Value} {l : List Sp} {Y : Nat}
theorem more (h : OuR wb w u l) (hx : Ext w w') : OuR wb w' u l := ⟨h.own.ext hx, h.ext.trans hx⟩
theorem upd (h : OuR wb w u l) (hu : Upd Y w w') (hlo : wb.heap.size ≤ Y) (hne : u.ownBlock ≠ some Y) : OuR wb w' u l := ⟨h.own.kept hu (.inr hne), Ext.upd h.ext hu hlo⟩
theorem ends {done : List Sp} {s : Sp} (h : OuR wb w u (done ++ [s])) (t : Int) : ∃ g c, u = .slice (some ⟨g, 0, none⟩) (done.length + 1) c ∧ g < w.heap.size ∧ w.cell? ⟨g, done.length * 5 + 1, none⟩ = some (.int .i64 s.till) ∧ w.frozen? ⟨g, done.length * 5 + 1, none⟩ = false ∧ Upd g w (w.setCell ⟨g, done.length * 5 + 1, none⟩ (.int .i64 t)) ∧ u.ownBlock = some g ∧ OuR wb (w.setCell ⟨g, done.length * 5 + 1, none⟩ (.int .i64 t)) u (done ++ [Sp.close t s]) := by
 have hi : (done ++ [s])[done.length]? = some s := by simp
 obtain ⟨g, c', hv, hown, hB, hlt, hth, ho, hu⟩ := h.own.setCell spL_len hi (j := 1) (d := .int .i64 t) (by omega) (x' := Sp.close t s) rfl
 rw [List.length_append, List.length_singleton] at hv
 have hset : (done ++ [s]).set done.length (Sp.close t s) = done ++ [Sp.close t s] := by simp
 rw [hset] at ho
 have hrow := h.own.rows spL_len
 rw [hv] at hrow
 have hcell : w.cell? ⟨g, done.length * 5 + 1, none⟩ = some (.int .i64 s.till) := by
  have hr2 : RowsAt 5 spL w (.slice (some ⟨g, 0, none⟩) (done.length + 1) c') (done ++ [s]) := hrow
  obtain ⟨b, o, hb, _, hcc⟩ := RowsAt.get hr2 hi
  simp only [Option.some.injEq, Addr.mk.injEq, and_true] at hb
  obtain ⟨rfl, rfl⟩ := hb
  have := hcc 1 _ rfl
  rwa [Nat.zero_add] at this
 have hfz := (there_one hth).2
 exact ⟨g, c', hv, hlt, hcell, hfz, hu, hown, ho, Ext.upd h.ext hu hB⟩
theorem push (h : OuR wb w u l) (s : Sp) (hl : l.length ≤ 1000000) :
    ∃ u' w', (Builtin.append_ #[27, 27] 27 #[u, .slice (some ⟨w.heap.size, 0, none⟩) 1 1]).run Tryd.prog (w.alloc (.cells (spL s).toArray 36)) = .ok u' w' ∧ OuR wb w' u' (l ++ [s]) ∧ (∀ (b : Nat) (o : Obj), w.heap[b]? = some o → u.ownBlock ≠ some b → w'.heap[b]? = some o ∧ u'.ownBlock ≠ some b) := by
 obtain ⟨i0, I0, I1, I2, I3⟩ := info_parts Tryd.infoSP
 have hlo := h.ext.size
 obtain ⟨u', w', hr, ho, hg, hb⟩ := OwnRows.append2 (P := Tryd.prog) (e := 36) (m := 5) (f := spL) (xs := l) (ys := [s]) 27 Tryd.underlying27 I0 I1 I2 I3 rfl (by decide) spL_len spL_one (h.own.alloc (.cells (spL s).toArray 36)) (rows_one w 36 s) (by simp [maxLen]; omega) (by simp; omega) (by simp; omega)
 refine ⟨u', w', hr, ⟨ho, Below.grown (h.ext.alloc _) hg (by simp; omega) fun k hk => (h.own.lt k hk).1⟩, fun b o hb' hne => ⟨(hg.block b (by have := blk_lt hb'; simp; omega) (fun e => hne e.symm)).trans (blk_alloc hb' _), fun e => ?_⟩⟩
 rcases hb with hb | hb
 · exact hne (hb ▸ e)
 · rw [hb] at e
   injection e with e
   have := blk_lt hb'
   simp at e
   omega
end OuR
def gsC (y : Gs4) : Array Value := #[.int .i64 y.1, .int .i64 y.2.1, .int .i64 y.2.2.1, .int .i64 y.2.2.2]
structure OuB (wb w : World) (Y : Nat) (old : Gs4) (u : Value) (l : List Sp) : Prop where
 r : OuR wb w u l
 ybox : w.heap[Y]? = some (.cells (gsC old) 49 (0, 0))
 off : u.ownBlock ≠ some Y
 lo : wb.heap.size ≤ Y
namespace OuB
variable {wb w w' : World} {u : Value} {l : List Sp} {Y : Nat} {old : Gs4}
theorem more (h : OuB wb w Y old u l) (hx : Ext w w') : OuB wb w' Y old u l := ⟨h.r.more hx, hx.blk h.ybox, h.off, h.lo⟩
theorem setY (h : OuB wb w Y old u l) (v : Gs4) : w.there Y 0 [Value.int .i64 v.1, .int .i64 v.2.1, .int .i64 v.2.2.1, .int .i64 v.2.2.2].length ∧ ∃ w', w.setCells Y 0 [.int .i64 v.1, .int .i64 v.2.1, .int .i64 v.2.2.1, .int .i64 v.2.2.2] = w' ∧ OuB wb w' Y v u l :=
 ⟨there_row h.ybox (by simp [gsC]), _, rfl, h.r.upd (setCells_upd Y _ w 0) h.lo h.off, setCells_at [.int .i64 old.1, .int .i64 old.2.1, .int .i64 old.2.2.1, .int .i64 old.2.2.2] _ rfl h.ybox, h.off, h.lo⟩
theorem ends {done : List Sp} {s : Sp} (h : OuB wb w Y old u (done ++ [s])) (t : Int) : ∃ g c, u = .slice (some ⟨g, 0, none⟩) (done.length + 1) c ∧ g < w.heap.size ∧ w.cell? ⟨g, done.length * 5 + 1, none⟩ = some (.int .i64 s.till) ∧ w.frozen? ⟨g, done.length * 5 + 1, none⟩ = false ∧ Upd g w (w.setCell ⟨g, done.length * 5 + 1, none⟩ (.int .i64 t)) ∧ u.ownBlock = some g ∧ OuB wb (w.setCell ⟨g, done.length * 5 + 1, none⟩ (.int .i64 t)) Y old u (done ++ [Sp.close t s]) := by
 obtain ⟨g, c, hv, hlt, hc, hf, hu, ho, hr⟩ := h.r.ends t
 exact ⟨g, c, hv, hlt, hc, hf, hu, ho, hr, hu.blk h.ybox (fun e => h.off (by rw [ho, e])), h.off, h.lo⟩
theorem push (h : OuB wb w Y old u l) (s : Sp) (hl : l.length ≤ 1000000) :
    ∃ u' w', (Builtin.append_ #[27, 27] 27 #[u, .slice (some ⟨w.heap.size, 0, none⟩) 1 1]).run Tryd.prog (w.alloc (.cells (spL s).toArray 36)) = .ok u' w' ∧ OuB wb w' Y old u' (l ++ [s]) ∧ (∀ (b : Nat) (o : Obj), w.heap[b]? = some o → u.ownBlock ≠ some b → w'.heap[b]? = some o ∧ u'.ownBlock ≠ some b) := by
 obtain ⟨u', w', hr, h1, h2⟩ := h.r.push s hl
 exact ⟨u', w', hr, ⟨h1, (h2 _ _ h.ybox h.off).1, (h2 _ _ h.ybox h.off).2, h.lo⟩, h2⟩
end OuB
theorem run_eqG4 (y z : Gs4) (w : World) : (Op.equalIn 10000 49 (.agg #[.int .i64 y.1, .int .i64 y.2.1, .int .i64 y.2.2.1, .int .i64 y.2.2.2]) (.agg #[.int .i64 z.1, .int .i64 z.2.1, .int .i64 z.2.2.1, .int .i64 z.2.2.2])).run Tryd.prog w = .ok (decide (y = z)) w := by
 have h := run_eqInts (ti := 3) Tryd.underlying3 (by kernel_rfl) (by kernel_rfl) 4 (by kernel_rfl) [y.1, y.2.1, y.2.2.1, y.2.2.2] [z.1, z.2.1, z.2.2.1, z.2.2.2] rfl rfl w (P := Tryd.prog) (t := 49)
 have e : decide (y = z) = decide ([y.1, y.2.1, y.2.2.1, y.2.2.2] = [z.1, z.2.1, z.2.2.1, z.2.2.2]) := by
  obtain ⟨a, b, c, d⟩ := y
  obtain ⟨a', b', c', d'⟩ := z
  simp
 rw [e]
 exact h
theorem Sp.snaps_may {x : Sn} {es : List Le} {xs : List Sn} (h : Sp.snaps x es = some xs) : (∀ y ∈ xs, y.may = true) ∧ xs.length = es.length + 1 ∧ ∃ s, xs = x :: s ∧ Sp.steps es x = some s := by
 unfold Sp.snaps at h
 split at h
 · next hm =>
   obtain ⟨s, hs, rfl⟩ := Option.map_eq_some_iff.1 h
   have key : ∀ (l : List Le) (x : Sn) (s : List Sn), Sp.steps l x = some s → (∀ y ∈ s, y.may = true) ∧ s.length = l.length := by
    intro l
    induction l with
    | nil => intro x s h; simp only [Sp.steps, Option.some.injEq] at h; subst h; simp
    | cons e l ih =>
     intro x s h
     unfold Sp.steps at h
     cases ha : Md.app x e.l with
     | none => rw [ha] at h; cases h
     | some y =>
      rw [ha] at h
      obtain ⟨s', hs', rfl⟩ := Option.map_eq_some_iff.1 h
      obtain ⟨h1, h2⟩ := ih y s' hs'
      refine ⟨fun z hz => ?_, by simp [h2]⟩
      rcases List.mem_cons.1 hz with rfl | hz
      · exact (Md.app_time ha).2.2.2.1
      · exact h1 z hz
   obtain ⟨h1, h2⟩ := key es x s hs
   refine ⟨fun y hy => ?_, by simp [h2], s, rfl, hs⟩
   rcases List.mem_cons.1 hy with rfl | hy
   · exact hm
   · exact h1 y hy
 · cases h
def Sp.fin (T : Int) (a : Option Vw × List Sp × Option Sp) : List Sp := a.2.1 ++ (a.2.2.map (Sp.close T)).toList
theorem Sp.fin_cur {T : Int} {look : Sn → Option Vw} {why : Le → ByteArray} {l : List Le} {s : List Sn} {v : Option Vw} {done : List Sp} {c d : Sp} (h : ∀ t, Sp.close t c = Sp.close t d) : Sp.fin T (Sp.rgo look why l s (v, done, some c)) = Sp.fin T (Sp.rgo look why l s (v, done, some d)) := by
 cases l with
 | nil => unfold Sp.rgo Sp.fin; simp only [Option.map_some, h]
 | cons e l => cases s with
  | nil => unfold Sp.rgo Sp.fin; simp only [Option.map_some, h]
  | cons y s => unfold Sp.rgo Sp.rstep; simp only [Option.map_some, h]
theorem Sp.ofG_none {x : Sn} {es : List Le} {g : Int} (h : Sp.snaps x es = none) : Sp.ofG x es g = [] := by
 unfold Sp.ofG
 rw [Sp.all_eq, h]
theorem Sp.ofG_some {x : Sn} {es : List Le} {g : Int} {s : List Sn} (h : Sp.snaps x es = some (x :: s)) : Sp.ofG x es g = Sp.fin ((x :: s).getLast (by simp)).time (Sp.rgo (Sp.lookG g) (Sp.whyG g) es s (Sp.lookG g x, [], (Sp.lookG g x).map (Sp.opr x.time ByteArray.empty))) := by
 unfold Sp.ofG
 rw [Sp.all_eq, h]
 rfl
theorem Sp.atG_fst {g : Int} {x : Sn} {z : Gs4} (h : Sp.atG g x = some z) : z.1 = g := by
 unfold Sp.atG at h
 obtain ⟨k, hk, rfl⟩ := Option.map_eq_some_iff.1 h
 obtain ⟨y, hy, h1, _⟩ := Md.fnd_some hk
 simp only [List.getD_eq_getElem?_getD, hy, Option.getD_some]
 exact h1
end Go.Proofs.YtohncgikdlbogaaDoor

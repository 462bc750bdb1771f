/-
  Several texts in one: Jm, Jc, Sh, Jt, Jj, Jn, Jo, Jpa, Jr, Gi, Js, Jb, Ju.
-/
import Derived.Test.YtohncgikdlbogaaDoorE14
import Derived.Test.YtohncgikdlbogaaDoorE15
import Derived.Test.YtohncgikdlbogaaDoorE13
import Derived.Lib.ItoaNum
import Derived.Lib.Join
import Derived.Shelf.Strings.Builder1
import Derived.Shelf.Strings.Builder2
import Derived.Shelf.Strings.OnBuilder
import Derived.Shelf.Strings.BuilderF
import Derived.Shelf.Strings.BuilderK
import Derived.Shelf.Strconv.Itoa0
import Derived.Shelf.Strconv.Itoa1
import Derived.Shelf.LaysM
import Derived.Shelf.Strconv.Itoa2
import Derived.Shelf.Strconv.Itoa3
import Derived.Test.YtohncgikdlbogaaDoorProg
import Derived.Test.YtohncgikdlbogaaDoorE01
import Derived.Sort.Grow
import Derived.Test.YtohncgikdlbogaaDoorE02
import Derived.IntWalk
import Derived.BigQuiet
import Derived.Test.YtohncgikdlbogaaDoorE05
import Derived.Deep.MidRow
import Derived.Test.YtohncgikdlbogaaDoorE12
set_option linter.unusedVariables false
set_option linter.unusedSimpArgs false
namespace Go.Proofs.YtohncgikdlbogaaDoor
open Go.RowKit
theorem ln_two (w : World) (x : Array Value) (X : TypeId) (z : Array Value) (Z : TypeId) : ∃ w1, ((w.alloc (.cells x X)).alloc (.cells z Z)) = w1 ∧ Ext w w1 ∧ w1.heap[w.heap.size]? = some (.cells x X (0, 0)) ∧ w1.heap[w.heap.size + 1]? = some (.cells z Z (0, 0)) := by
 have s1 := World.size_alloc w (.cells x X)
 refine ⟨_, rfl, ((Ext.refl w).alloc _).alloc _, blk_alloc (blk_new w _) _, ?_⟩
 rw [← s1]; exact blk_new _ _
def LnAns (w : World) (r : List Sp) (e : Ending) (w' : World) : Prop := ∃ u, e = .returned u ∧ RowsAt 5 spL w' u r ∧ Ext w w'
set_option maxRecDepth 100000 in
set_option maxHeartbeats 8000000 in
theorem lnG_any (v vl : Value) (x : Sn) (es : List Le) (g : Int) (w : World) (hs : SnAt w v x) (hl : RowsAt 8 leL w vl es) (hn : es.length ≤ 1000) (he : ∀ e ∈ es, ∃ A n c, e.stack = .slice A n c) (r : List Sp) (hr : Sp.ofG x es g = r) :
    Calls Tryd.prog 9 #[v, vl, .int .i64 g] w (LnAns w r) := by
 obtain ⟨A, c, D, d, rfl, h2, h3⟩ := hs
 have hmf : ∀ (fn : Fn) (first cap : Array Value) (w : World), (Instr.makeFunc fn first cap).run Tryd.prog w = .ok (.func fn first cap) w := fun _ _ _ _ => rfl
 obtain ⟨w1, hw1, hx1, hb1, hg1⟩ := ln_two w #[.int .i64 x.time, .slice A x.ps.length c, .slice D x.gs.length d] 25 #[.int .i64 g] 3
 have HW1 := Lib.hid hw1
 have HX1 := Lib.hid hx1
 have HG1 := Lib.hid hg1
 have HSN : Hid (SnAt w1 (.agg #[.int .i64 x.time, .slice A x.ps.length c, .slice D x.gs.length d]) x) := Lib.hid ⟨A, c, D, d, rfl, h2.ext hx1, h3.ext hx1⟩
 have HLL := Lib.hid (hl.ext hx1)
 have HE := Lib.hid he
 have HRR := Lib.hid hr
 have c0 := blk_cell hb1 0 _ rfl
 have c1 := blk_cell hb1 1 _ rfl
 have c2 := blk_cell hb1 2 _ rfl
 clear hw1 hx1 hb1 hg1 h2 h3 hl he hr
 go_enter Tryd.func9, Tryd.ntmps9
 go_upto_region 1 with fail
 rw [HW1.out]
 go_wp2_with fail
 refine (spansG_any (Sp.lookG g) (Sp.whyG g) ⟨w.heap.size + 1, 0, none⟩ ⟨w.heap.size + 1, 0, none⟩ _ vl x es w1 HSN.out HLL.out hn HE.out (fun u y w' hx hy hm => ?_) (fun e w' hx => ?_) r HRR.out).mono ?_
 · exact lookG_any g (w.heap.size + 1) u y w' hy (by have := ((Sn.may_iff y).1 hm).2.2.1; omega) (blk_cell (hx.blk HG1.out) 0 _ rfl) (blk_lt (hx.blk HG1.out)) _ rfl
 · exact whyG_any g (w.heap.size + 1) e w' (blk_cell (hx.blk HG1.out) 0 _ rfl) (blk_lt (hx.blk HG1.out)) _ rfl
 rintro e w2 ⟨u, rfl, hr2, hx2⟩
 have HR2 := Lib.hid hr2
 have HX2 := Lib.hid hx2
 clear hr2 hx2 c0 c1 c2
 go_wp2
 go_ret
 exact ⟨u, rfl, HR2.out, HX1.out.trans HX2.out⟩
set_option maxRecDepth 100000 in
set_option maxHeartbeats 8000000 in
theorem lnP_any (v vl : Value) (x : Sn) (es : List Le) (p : Int) (w : World) (hs : SnAt w v x) (hl : RowsAt 8 leL w vl es) (hn : es.length ≤ 1000) (he : ∀ e ∈ es, ∃ A n c, e.stack = .slice A n c) (r : List Sp) (hr : Sp.ofP x es p = r) :
    Calls Tryd.prog 11 #[v, vl, .int .i64 p] w (LnAns w r) := by
 obtain ⟨A, c, D, d, rfl, h2, h3⟩ := hs
 have hmf : ∀ (fn : Fn) (first cap : Array Value) (w : World), (Instr.makeFunc fn first cap).run Tryd.prog w = .ok (.func fn first cap) w := fun _ _ _ _ => rfl
 obtain ⟨w1, hw1, hx1, hb1, hg1⟩ := ln_two w #[.int .i64 x.time, .slice A x.ps.length c, .slice D x.gs.length d] 25 #[.int .i64 p] 3
 have HW1 := Lib.hid hw1
 have HX1 := Lib.hid hx1
 have HG1 := Lib.hid hg1
 have HSN : Hid (SnAt w1 (.agg #[.int .i64 x.time, .slice A x.ps.length c, .slice D x.gs.length d]) x) := Lib.hid ⟨A, c, D, d, rfl, h2.ext hx1, h3.ext hx1⟩
 have HLL := Lib.hid (hl.ext hx1)
 have HE := Lib.hid he
 have HRR := Lib.hid hr
 have c0 := blk_cell hb1 0 _ rfl
 have c1 := blk_cell hb1 1 _ rfl
 have c2 := blk_cell hb1 2 _ rfl
 clear hw1 hx1 hb1 hg1 h2 h3 hl he hr
 go_enter Tryd.func11, Tryd.ntmps11
 go_upto_region 1 with fail
 rw [HW1.out]
 go_wp2_with fail
 refine (spansP_any (Sp.lookP p) (fun _ => ByteArray.empty) ⟨w.heap.size + 1, 0, none⟩ _ vl x es w1 HSN.out HLL.out hn HE.out (fun u y w' hx hy hm => ?_) (fun e w' hx => ?_) r HRR.out).mono ?_
 · exact lookP_any p (w.heap.size + 1) u y w' hy (by have := ((Sn.may_iff y).1 hm).2.1; omega) (blk_cell (hx.blk HG1.out) 0 _ rfl) (blk_lt (hx.blk HG1.out)) _ rfl
 · exact whyP_any e w'
 rintro e w2 ⟨u, rfl, hr2, hx2⟩
 have HR2 := Lib.hid hr2
 have HX2 := Lib.hid hx2
 clear hr2 hx2 c0 c1 c2
 go_wp2
 go_ret
 exact ⟨u, rfl, HR2.out, HX1.out.trans HX2.out⟩
def ity (n : Int) : ByteArray := ⟨(Lib.itoa n).toArray⟩
theorem ity_small (n : Nat) (h : n < 10) : ity (n : Int) = ⟨#[UInt8.ofNat (48 + n)]⟩ := by
 unfold ity Lib.itoa
 rw [if_neg (by omega), Int.toNat_natCast, Lib.decDigits, dif_pos h]
namespace Sp
def word0 (s : Sp) : ByteArray := ity s.fr ++ ⟨#[45]⟩ ++ ity s.till ++ ⟨#[58]⟩ ++ ity s.st ++ ⟨#[58]⟩ ++ ity s.n
def word (s : Sp) : ByteArray := if s.why = ByteArray.empty then s.word0 else s.word0 ++ (⟨#[58]⟩ ++ s.why)
def text (l : List Sp) : ByteArray := ⟨(Lib.join (l.map fun s => s.word.data.toList) [32]).toArray⟩
end Sp
def lnOne : Sn := ⟨3, [(2, 0)], [(3, 2, 2, 0)]⟩
def lnSleep : ByteArray := ⟨#[115, 108, 101, 101, 112]⟩
def lnLogs : List Le := [⟨⟨5, 2, 6, 3, 0, 0⟩, lnSleep, .slice none 0 0⟩, ⟨⟨8, 2, 2, 0, 1, 0⟩, ByteArray.empty, .slice none 0 0⟩]
def lnG : List Sp := [⟨3, 5, 2, 2, ByteArray.empty⟩, ⟨5, 8, 3, 0, lnSleep⟩]
def lnP : List Sp := [⟨3, 8, 1, 2, ByteArray.empty⟩, ⟨8, 8, 0, 0, ByteArray.empty⟩]
theorem ln_g : Sp.ofG lnOne lnLogs 3 = lnG := by kernel_rfl
theorem ln_p : Sp.ofP lnOne lnLogs 1 = lnP := by kernel_rfl
theorem ln_g1 : Sp.ofG lnOne (lnLogs.drop 1) 3 = [] := by kernel_rfl
theorem ln_p2 : Sp.ofP lnOne lnLogs 2 = [] := by kernel_rfl
theorem ln_sum : Sp.sum lnG 2 = 2 := by kernel_rfl
theorem ln_sum0 : Sp.sum [⟨5, 3, 0, 0, ByteArray.empty⟩] 0 = 0 := by kernel_rfl
theorem ity_0 : ity 0 = ⟨#[48]⟩ := ity_small 0 (by decide)
theorem ity_1 : ity 1 = ⟨#[49]⟩ := ity_small 1 (by decide)
theorem ity_2 : ity 2 = ⟨#[50]⟩ := ity_small 2 (by decide)
theorem ity_3 : ity 3 = ⟨#[51]⟩ := ity_small 3 (by decide)
theorem ity_5 : ity 5 = ⟨#[53]⟩ := ity_small 5 (by decide)
theorem ity_8 : ity 8 = ⟨#[56]⟩ := ity_small 8 (by decide)
theorem ln_tg : Sp.text lnG = ⟨#[51, 45, 53, 58, 50, 58, 50, 32, 53, 45, 56, 58, 51, 58, 48, 58, 115, 108, 101, 101, 112]⟩ := by
 unfold Sp.text lnG Sp.word Sp.word0
 simp only [List.map_cons, List.map_nil, ity_0, ity_2, ity_3, ity_5, ity_8]
 kernel_rfl
theorem ln_tp : Sp.text lnP = ⟨#[51, 45, 56, 58, 49, 58, 50, 32, 56, 45, 56, 58, 48, 58, 48]⟩ := by
 unfold Sp.text lnP Sp.word Sp.word0
 simp only [List.map_cons, List.map_nil, ity_0, ity_1, ity_2, ity_3, ity_8]
 kernel_rfl
end Go.Proofs.YtohncgikdlbogaaDoor
namespace Go.Proofs
open Go.Shelf
def Tryd.lays156_ren : Go.Shelf.Ren := ⟨fun | 156 => 29 | 165 => 37 | 166 => 38 | 169 => 39 | 240 => 56 | 241 => 57 | 276 => 84 | 277 => 85 | n => n, fun | 31 => 62 | 9 => 9 | 3 => 3 | 4 => 4 | 0 => 0 | 20 => 20 | 72 => 72 | 76 => 76 | 70 => 69 | 37 => 70 | 75 => 75 | 127 => 102 | 164 => 124 | 5 => 5 | 80 => 78 | n => n, fun | n => n⟩
theorem Tryd.lays156 : Go.Proofs.Lays.n156 Tryd.prog Tryd.lays156_ren := {
 mixed := by kernel_rfl
 f156 := Tryd.func29.trans (congrArg some (by kernel_rfl))
 f165 := Tryd.func37.trans (congrArg some (by kernel_rfl))
 f166 := Tryd.func38.trans (congrArg some (by kernel_rfl))
 f169 := Tryd.func39.trans (congrArg some (by kernel_rfl))
 f240 := Tryd.func56.trans (congrArg some (by kernel_rfl))
 f241 := Tryd.func57.trans (congrArg some (by kernel_rfl))
 f276 := Tryd.func84.trans (congrArg some (by kernel_rfl))
 f277 := Tryd.func85.trans (congrArg some (by kernel_rfl))
 t0 := Tryd.underlying0
 a0 := Tryd.isAgg0
 z0 := Tryd.sizeOf0
 v0 := Tryd.zeroValue0
 t3 := Tryd.underlying3
 a3 := Tryd.isAgg3
 z3 := Tryd.sizeOf3
 v3 := Tryd.zeroValue3
 t4 := Tryd.underlying4
 a4 := Tryd.isAgg4
 z4 := Tryd.sizeOf4
 v4 := Tryd.zeroValue4
 t9 := Tryd.underlying9
 a9 := Tryd.isAgg9
 z9 := Tryd.sizeOf9
 v9 := Tryd.zeroValue9
 t20 := Tryd.underlying20
 a20 := Tryd.isAgg20
 z20 := Tryd.sizeOf20
 v20 := Tryd.zeroValue20
 t31 := Tryd.underlying62
 a31 := Tryd.isAgg62
 z31 := Tryd.sizeOf62
 v31 := Tryd.zeroValue62
 t37 := Tryd.underlying70
 a37 := Tryd.isAgg70
 z37 := Tryd.sizeOf70
 v37 := Tryd.zeroValue70
 t70 := Tryd.underlying69
 a70 := Tryd.isAgg69
 z70 := Tryd.sizeOf69
 v70 := Tryd.zeroValue69
 t72 := Tryd.underlying72
 a72 := Tryd.isAgg72
 z72 := Tryd.sizeOf72
 v72 := Tryd.zeroValue72
 t75 := Tryd.underlying75
 a75 := Tryd.isAgg75
 z75 := Tryd.sizeOf75
 v75 := Tryd.zeroValue75
 t76 := Tryd.underlying76
 a76 := Tryd.isAgg76
 z76 := Tryd.sizeOf76
 v76 := Tryd.zeroValue76
 t127 := Tryd.underlying102
 a127 := Tryd.isAgg102
 z127 := Tryd.sizeOf102
 v127 := Tryd.zeroValue102
 t164 := Tryd.underlying124
 a164 := Tryd.isAgg124
 z164 := Tryd.sizeOf124
 v164 := Tryd.zeroValue124 }
theorem Tryd.Builder_Extra_156 : Builder.Extra Tryd.prog Tryd.lays156_ren := {
 sizeBuilder := by kernel_rfl
 liesBuilder := by kernel_rfl
 t5 := Tryd.underlying5
 a5 := Tryd.isAgg5
 z5 := Tryd.sizeOf5
 v5 := Tryd.zeroValue5
 infoByte := by kernel_rfl
 cellsByte := by kernel_rfl
 sizeByte := by kernel_rfl
 neB5 := by decide }
open Go.RowKit in
theorem Tryd.strings_Join_none (a : Option Addr) (c : Nat) (sep : ByteArray) (w : World) :
    Calls Tryd.prog 29 #[.slice a 0 c, .string sep] w fun e w' => e = .returned (.string ⟨#[]⟩) ∧ w' = w := Any.strings_Join_none Tryd.lays156 Tryd.Builder_Extra_156 a c sep w
open Go.RowKit in
theorem Tryd.strings_Join (bk o c : Nat) (xs : List ByteArray) (sep : ByteArray) (w : World) (hcells : ∀ (j : Nat) x, xs[j]? = some x → w.cell? ⟨bk, o + j, none⟩ = some (.string x)) (hbk : bk < w.heap.size) (hN : xs.length ≤ 140737488355328) (hcap : xs.length ≤ c) (hlen : (Lib.join (xs.map (·.data.toList)) sep.data.toList).length ≤ 140737488355328) :
    Calls Tryd.prog 29 #[.slice (some ⟨bk, o, none⟩) xs.length c, .string sep] w fun e w' => e = .returned (.string ⟨(Lib.join (xs.map (·.data.toList)) sep.data.toList).toArray⟩) ∧ Below w.heap.size w w' := Any.strings_Join Tryd.lays156 Tryd.Builder_Extra_156 bk o c xs sep w hcells hbk hN hcap hlen
def Tryd.laysM171_ren : Go.Shelf.Ren := ⟨fun | 171 => 28 | 243 => 36 | 246 => 55 | 283 => 80 | 284 => 81 | 285 => 82 | 286 => 83 | 129 => 93 | 317 => 92 | 318 => 94 | 319 => 95 | 320 => 96 | 337 => 100 | 338 => 101 | n => n, fun | 3 => 3 | 9 => 9 | 2 => 2 | 4 => 4 | 171 => 119 | 0 => 0 | 53 => 80 | 37 => 70 | 5 => 5 | 173 => 122 | 212 => 133 | 51 => 134 | 20 => 20 | 213 => 135 | 46 => 136 | 232 => 141 | 233 => 142 | n => n, fun | 17 => 0 | 18 => 2 | 19 => 3 | n => n⟩
theorem Tryd.laysM171 : Go.Proofs.LaysM.n171 Tryd.prog Tryd.laysM171_ren := {
 mixed := by kernel_rfl
 f129 := Tryd.func93.trans (congrArg some (by kernel_rfl))
 f171 := Tryd.func28.trans (congrArg some (by kernel_rfl))
 f243 := Tryd.func36.trans (congrArg some (by kernel_rfl))
 f246 := Tryd.func55.trans (congrArg some (by kernel_rfl))
 f283 := Tryd.func80.trans (congrArg some (by kernel_rfl))
 f284 := Tryd.func81.trans (congrArg some (by kernel_rfl))
 f285 := Tryd.func82.trans (congrArg some (by kernel_rfl))
 f286 := Tryd.func83.trans (congrArg some (by kernel_rfl))
 f317 := Tryd.func92.trans (congrArg some (by kernel_rfl))
 f318 := Tryd.func94.trans (congrArg some (by kernel_rfl))
 f319 := Tryd.func95.trans (congrArg some (by kernel_rfl))
 f320 := Tryd.func96.trans (congrArg some (by kernel_rfl))
 f337 := Tryd.func100.trans (congrArg some (by kernel_rfl))
 f338 := Tryd.func101.trans (congrArg some (by kernel_rfl))
 t0 := Tryd.underlying0
 a0 := Tryd.isAgg0
 z0 := Tryd.sizeOf0
 v0 := Tryd.zeroValue0
 t2 := Tryd.underlying2
 a2 := Tryd.isAgg2
 z2 := Tryd.sizeOf2
 v2 := Tryd.zeroValue2
 t3 := Tryd.underlying3
 a3 := Tryd.isAgg3
 z3 := Tryd.sizeOf3
 v3 := Tryd.zeroValue3
 t4 := Tryd.underlying4
 a4 := Tryd.isAgg4
 z4 := Tryd.sizeOf4
 v4 := Tryd.zeroValue4
 t5 := Tryd.underlying5
 a5 := Tryd.isAgg5
 z5 := Tryd.sizeOf5
 v5 := Tryd.zeroValue5
 t9 := Tryd.underlying9
 a9 := Tryd.isAgg9
 z9 := Tryd.sizeOf9
 v9 := Tryd.zeroValue9
 t20 := Tryd.underlying20
 a20 := Tryd.isAgg20
 z20 := Tryd.sizeOf20
 v20 := Tryd.zeroValue20
 t37 := Tryd.underlying70
 a37 := Tryd.isAgg70
 z37 := Tryd.sizeOf70
 v37 := Tryd.zeroValue70
 t46 := Tryd.underlying136
 a46 := Tryd.isAgg136
 z46 := Tryd.sizeOf136
 v46 := Tryd.zeroValue136
 t51 := Tryd.underlying134
 a51 := Tryd.isAgg134
 z51 := Tryd.sizeOf134
 v51 := Tryd.zeroValue134
 t53 := Tryd.underlying80
 a53 := Tryd.isAgg80
 z53 := Tryd.sizeOf80
 v53 := Tryd.zeroValue80
 t171 := Tryd.underlying119
 a171 := Tryd.isAgg119
 z171 := Tryd.sizeOf119
 v171 := Tryd.zeroValue119
 t173 := Tryd.underlying122
 a173 := Tryd.isAgg122
 z173 := Tryd.sizeOf122
 v173 := Tryd.zeroValue122
 t212 := Tryd.underlying133
 a212 := Tryd.isAgg133
 z212 := Tryd.sizeOf133
 v212 := Tryd.zeroValue133
 t213 := Tryd.underlying135
 a213 := Tryd.isAgg135
 z213 := Tryd.sizeOf135
 t232 := Tryd.underlying141
 a232 := Tryd.isAgg141
 z232 := Tryd.sizeOf141
 v232 := Tryd.zeroValue141
 t233 := Tryd.underlying142
 a233 := Tryd.isAgg142
 z233 := Tryd.sizeOf142
 v233 := Tryd.zeroValue142
 g17 := by kernel_rfl
 g18 := by kernel_rfl
 g19 := by kernel_rfl
 i0 := by kernel_rfl
 i2 := by kernel_rfl
 i3 := by kernel_rfl
 i4 := by kernel_rfl
 i5 := by kernel_rfl
 i9 := by kernel_rfl
 i20 := by kernel_rfl
 i37 := by kernel_rfl
 i46 := by kernel_rfl
 i51 := by kernel_rfl
 i53 := by kernel_rfl
 i171 := by kernel_rfl
 i173 := by kernel_rfl
 i212 := by kernel_rfl
 i232 := by kernel_rfl
 i233 := by kernel_rfl
 m17 := by kernel_rfl
 m18 := by kernel_rfl
 m19 := by kernel_rfl }
open Go.RowKit Go.Sort Go.Lib in
theorem Tryd.strconv_Itoa (n : Int) (h0 : -9223372036854775808 ≤ n) (h1 : n ≤ 9223372036854775807) (w : World) (htab : Lib.TabIs Tryd.prog w "internal/strconv.uint64pow10" .u64 Lib.pow10Tab) :
    Calls Tryd.prog 28 #[.int .i64 n] w fun e w' => e = .returned (.string ⟨(Lib.itoa n).toArray⟩) ∧ ∃ k os, w' = grow (w.drewN k) os := Any.strconv_Itoa Tryd.laysM171 n h0 h1 w htab
end Go.Proofs
namespace Go.Proofs.YtohncgikdlbogaaDoor
open Go.RowKit
def Tab (w : World) : Prop := Lib.TabIs Tryd.prog w "internal/strconv.uint64pow10" .u64 Lib.pow10Tab
theorem Tab.ext {w w' : World} (h : Tab w) (hx : Ext w w') : Tab w' := by
 unfold Tab Lib.TabIs World.var? at *
 cases hg : Tryd.prog.globalNamed "internal/strconv.uint64pow10" with
 | none => rw [hg] at h; cases h
 | some g =>
  rw [hg] at h
  simp only [Option.bind_some] at h ⊢
  have hlt : g < w.heap.size := by
   rcases Nat.lt_or_ge g w.heap.size with h' | h'
   · exact h'
   · rw [Array.getElem?_eq_none h'] at h; cases h
  rw [hx.block g hlt]
  exact h
theorem grow_ext (w : World) (k : Nat) (os : Array Obj) : Ext w (Go.Sort.grow (w.drewN k) os) :=
 ⟨rfl, rfl, rfl, by simp [Go.Sort.grow], fun i hi => by
  show (w.heap ++ os)[i]? = w.heap[i]?
  rw [Array.getElem?_append_left hi]⟩
theorem itoa_x (n : Int) (w : World) (ht : Tab w) (h0 : -9223372036854775808 ≤ n) (h1 : n ≤ 9223372036854775807) : Calls Tryd.prog 28 #[.int .i64 n] w fun e w' => e = .returned (.string ⟨(Lib.itoa n).toArray⟩) ∧ Ext w w' :=
 (Tryd.strconv_Itoa n h0 h1 w ht).mono fun e w' ⟨he, k, os, hw⟩ => ⟨he, by rw [hw]; exact grow_ext w k os⟩
def tsL (s : ByteArray) : List Value := [.string s]
theorem tsL_len (s : ByteArray) : (tsL s).length = 1 := rfl
theorem tsL_one (s : ByteArray) : ∀ u ∈ tsL s, u.oneCell' = true := by intro u hu; simp [tsL] at hu; subst hu; rfl
theorem Tryd.infoTS : (Tryd.prog.info? 9).map (fun i => (i.zero, i.size, i.bytes)) = some (some (.string ByteArray.empty), 1, 16) := by kernel_rfl
theorem decDigits_len' : ∀ (k u : Nat), u < 10 ^ (k + 1) → (Lib.decDigits u).length ≤ k + 1
 | 0, u, h => by
  unfold Lib.decDigits
  rw [dif_pos (by simpa using h)]
  simp
 | k + 1, u, h => by
  unfold Lib.decDigits
  split
  · simp
  · rw [List.length_append]
    have := decDigits_len' k (u / 10) (by rw [Nat.pow_succ] at h; omega)
    simp only [List.length_cons, List.length_nil]
    omega
theorem ity_size {n : Int} (h0 : -9223372036854775808 ≤ n) (h1 : n ≤ 9223372036854775807) : (ity n).size ≤ 21 := by
 have : (ity n).size = (Lib.itoa n).length := by unfold ity; simp [ByteArray.size]
 rw [this]
 unfold Lib.itoa
 split
 · have := decDigits_len' 19 n.natAbs (by omega)
   simp only [List.length_cons]
   omega
 · have := decDigits_len' 19 n.toNat (by omega)
   omega
def i64tx (x : Int) : Prop := -9223372036854775808 ≤ x ∧ x ≤ 9223372036854775807
def TxIn (s : Sp) : Prop := i64tx s.fr ∧ i64tx s.till ∧ i64tx s.st ∧ i64tx s.n ∧ s.why.size ≤ 1000
theorem word0_size {s : Sp} (h : TxIn s) : s.word0.size ≤ 87 := by
 obtain ⟨h1, h2, h3, h4, _⟩ := h
 unfold i64tx at h1 h2 h3 h4
 have k1 := ity_size (n := s.fr) (by omega) (by omega)
 have k2 := ity_size (n := s.till) (by omega) (by omega)
 have k3 := ity_size (n := s.st) (by omega) (by omega)
 have k4 := ity_size (n := s.n) (by omega) (by omega)
 have e : ∀ b : UInt8, (⟨#[b]⟩ : ByteArray).size = 1 := fun b => rfl
 unfold Sp.word0
 simp only [ByteArray.size_append, e]
 omega
theorem word_size {s : Sp} (h : TxIn s) : s.word.size ≤ 1100 := by
 have h0 := word0_size h
 have e : ∀ b : UInt8, (⟨#[b]⟩ : ByteArray).size = 1 := fun b => rfl
 unfold Sp.word
 split
 · omega
 · have := h.2.2.2.2
   simp only [ByteArray.size_append, e]
   omega
theorem join_len (sep : List UInt8) (n : Nat) : ∀ (xs : List (List UInt8)), (∀ x ∈ xs, x.length ≤ n) → (Lib.join xs sep).length ≤ xs.length * (n + sep.length)
 | [], _ => by simp [Lib.join]
 | [x], h => by
  have := h x (by simp)
  simp only [Lib.join, List.intercalate, List.intersperse_singleton, List.flatten_cons, List.flatten_nil, List.append_nil, List.length_cons, List.length_nil]
  omega
 | x :: y :: r, h => by
  have h1 := h x (by simp)
  have h2 := join_len sep n (y :: r) fun z hz => h z (List.mem_cons_of_mem _ hz)
  have e : Lib.join (x :: y :: r) sep = x ++ sep ++ Lib.join (y :: r) sep := by simp [Lib.join, List.intercalate]
  rw [e, List.length_append, List.length_append]
  simp only [List.length_cons] at h2 ⊢
  rw [Nat.succ_mul]
  omega
theorem ts_push {W w : World} {u : Value} {l : List ByteArray} (h : OwnRows 9 1 tsL w W.heap.size u l) (hx : Ext W w) (y : ByteArray) (hl : l.length ≤ 1000000) :
    ∃ u' w', (Builtin.append_ #[62, 62] 62 #[u, .slice (some ⟨w.heap.size, 0, none⟩) 1 1]).run Tryd.prog (w.alloc (.cells (tsL y).toArray 9)) = .ok u' w' ∧ OwnRows 9 1 tsL w' W.heap.size u' (l ++ [y]) ∧ Ext W w' := by
 obtain ⟨i0, I0, I1, I2, I3⟩ := info_parts Tryd.infoTS
 obtain ⟨u', w', hr, ho, hg⟩ := OwnRows.append (P := Tryd.prog) (e := 9) (m := 1) (f := tsL) (xs := l) (ys := [y]) 62 Tryd.underlying62 I0 I1 I2 I3 rfl (by decide) tsL_len tsL_one (h.alloc (.cells (tsL y).toArray 9)) (rows_one w 9 y) (by simp [maxLen]; omega) (by simp; omega) (by have := hx.size; simp; omega)
 exact ⟨u', w', hr, ho, OwnRows.grown (W := W) (h.alloc _) (hx.alloc _) hg⟩
theorem ln_bytes_list {s : ByteArray} (h : ¬ s = ⟨#[]⟩) : s.toList.isEmpty = false ∧ ¬ s.toList = [] := by
 have h1 : ¬ s.toList = [] := fun e => h (by
  obtain ⟨⟨l⟩⟩ := s
  rw [ByteArray.toList_eq] at e
  simp only at e
  rw [e])
 exact ⟨by simpa using h1, h1⟩
theorem join_any (u : Value) (ws : List ByteArray) (w : World) (h : RowsAt 1 tsL w u ws) (hn : ws.length ≤ 1000) (hs : ∀ x ∈ ws, x.size ≤ 1100) : Calls Tryd.prog 29 #[u, .string ⟨#[32]⟩] w fun e w' => e = .returned (.string ⟨(Lib.join (ws.map (·.data.toList)) [32]).toArray⟩) ∧ Ext w w' := by
 obtain ⟨A, c, rfl, hc⟩ := h.form
 match ws, h, hn, hs, hc with
 | [], _, _, _, _ => exact (Tryd.strings_Join_none A c ⟨#[32]⟩ w).mono fun e w' ⟨he, hw⟩ => ⟨he, hw ▸ Ext.refl w⟩
 | y :: ys, h, hn, hs, hc =>
  obtain ⟨b, o, hB, hb, _⟩ := h.get (k := 0) (x := y) rfl
  subst hB
  refine (Tryd.strings_Join b o c (y :: ys) ⟨#[32]⟩ w (fun j x hx => ?_) hb (by omega) hc ?_).mono fun e w' ⟨he, hw⟩ => ⟨he, hw⟩
  · obtain ⟨b', o', hB', _, hc'⟩ := h.get hx
    simp only [Option.some.injEq, Addr.mk.injEq, and_true] at hB'
    obtain ⟨rfl, rfl⟩ := hB'
    have := hc' 0 _ rfl
    rwa [Nat.mul_one, Nat.add_zero] at this
  · have h1 := join_len [32] 1100 ((y :: ys).map (·.data.toList)) (fun z hz => by
     obtain ⟨x, hx, rfl⟩ := List.mem_map.1 hz
     have := hs x hx
     rw [Array.length_toList]
     exact this)
    rw [List.length_map] at h1
    simp only [List.length_cons, List.length_nil] at h1 hn
    have h2 : (ys.length + 1) * 1101 ≤ 1000 * 1101 := Nat.mul_le_mul_right _ hn
    exact Nat.le_trans h1 (by omega)
set_option maxRecDepth 100000 in
set_option maxHeartbeats 8000000 in
theorem ltext_any (v : Value) (l : List Sp) (w : World) (ht : Tab w) (h : RowsAt 5 spL w v l) (hl : l.length ≤ 1000) (hin : ∀ s ∈ l, TxIn s) (r : ByteArray) (hr : Sp.text l = r) :
    Calls Tryd.prog 15 #[v] w fun e w' => e = .returned (.string r) ∧ Ext w w' := by
 obtain ⟨A, c, rfl, -⟩ := h.form
 have H := Lib.hid h
 have HT := Lib.hid ht
 have HIN := Lib.hid hin
 have HRR := Lib.hid hr
 have hl' : (l.length : Int) ≤ 1000 := by omega
 clear h ht hin hr
 go_enter Tryd.func15, Tryd.ntmps15
 go_wp2_with fail
 go_loopw [3, 9] (fun uv iv wr => ∃ k : Nat, k ≤ l.length ∧ iv = .int .i64 k ∧ OwnRows 9 1 tsL wr w.heap.size uv ((l.take k).map Sp.word) ∧ Ext w wr) (fun _ iv _ => l.length - (intOf iv).toNat)
 case atStart => exact ⟨0, Nat.zero_le _, rfl, OwnRows.nil _ _, Ext.refl _⟩
 case round =>
  obtain ⟨k, hk, rfl, ho, hx⟩ := hrel
  have HO := Lib.hid ho
  have HX := Lib.hid hx
  clear ho hx
  by_cases hlt : k < l.length
  · obtain ⟨s, hs⟩ : ∃ s, l[k]? = some s := ⟨_, List.getElem?_eq_getElem hlt⟩
    have HTX := Lib.hid (HIN.out s (List.mem_of_getElem? hs))
    have HTK : Hid ((l.take (k + 1)).map Sp.word = (l.take k).map Sp.word ++ [s.word]) := Lib.hid (by rw [List.take_add_one, hs, List.map_append]; rfl)
    have HWS := Lib.hid (word_size HTX.out)
    obtain ⟨b, o, hB, hb, hc⟩ := (H.out.ext HX.out).get hs
    subst hB
    obtain ⟨sf, sl, ss, sn, sw⟩ := s
    have k0 := hc 0 _ rfl
    have k1 := hc 1 _ rfl
    have k2 := hc 2 _ rfl
    have k3 := hc 3 _ rfl
    have k4 := hc 4 _ rfl
    rw [Nat.add_zero] at k0
    dsimp only at k0 k1 k2 k3 k4
    have HB : Hid (i64tx sf ∧ i64tx sl ∧ i64tx ss ∧ i64tx sn) := Lib.hid ⟨HTX.out.1, HTX.out.2.1, HTX.out.2.2.1, HTX.out.2.2.2.1⟩
    have hww : sw.size ≤ 1000 := HTX.out.2.2.2.2
    clear hs hb hc
    go_upto_region 5 with fail
    obtain ⟨w3, hw3⟩ : ∃ w3, wr.alloc (.cells #[.int .i64 sf, .int .i64 sl, .int .i64 ss, .int .i64 sn, .string sw] 36) = w3 := ⟨_, rfl⟩
    have hx3 : Ext wr w3 := by rw [← hw3]; exact (Ext.refl _).alloc _
    have HQ3 : Hid (w3.heap[wr.heap.size]? = some (.cells #[.int .i64 sf, .int .i64 sl, .int .i64 ss, .int .i64 sn, .string sw] 36 (0, 0))) := Lib.hid (by rw [← hw3]; exact blk_new wr _)
    rw [hw3]
    have HX3 := Lib.hid hx3
    have HT3 := Lib.hid (HT.out.ext (HX.out.trans hx3))
    have HWD : Hid (Sp.word ⟨sf, sl, ss, sn, sw⟩ = if sw = ByteArray.empty then ity sf ++ ⟨#[45]⟩ ++ ity sl ++ ⟨#[58]⟩ ++ ity ss ++ ⟨#[58]⟩ ++ ity sn else ity sf ++ ⟨#[45]⟩ ++ ity sl ++ ⟨#[58]⟩ ++ ity ss ++ ⟨#[58]⟩ ++ ity sn ++ (⟨#[58]⟩ ++ sw)) := Lib.hid rfl
    clear hw3 hx3 k0 k1 k2 k3 k4
    obtain ⟨i1, hi1⟩ : ∃ i1, ity sf = i1 := ⟨_, rfl⟩
    obtain ⟨i2, hi2⟩ : ∃ i2, ity sl = i2 := ⟨_, rfl⟩
    obtain ⟨i3, hi3⟩ : ∃ i3, ity ss = i3 := ⟨_, rfl⟩
    obtain ⟨i4, hi4⟩ : ∃ i4, ity sn = i4 := ⟨_, rfl⟩
    have hs1 : i1.size ≤ 21 := by rw [← hi1]; exact ity_size HB.out.1.1 HB.out.1.2
    have hs2 : i2.size ≤ 21 := by rw [← hi2]; exact ity_size HB.out.2.1.1 HB.out.2.1.2
    have hs3 : i3.size ≤ 21 := by rw [← hi3]; exact ity_size HB.out.2.2.1.1 HB.out.2.2.1.2
    have hs4 : i4.size ≤ 21 := by rw [← hi4]; exact ity_size HB.out.2.2.2.1 HB.out.2.2.2.2
    rw [hi1, hi2, hi3, hi4] at HWD
    have HI1 : Hid ((⟨(Lib.itoa sf).toArray⟩ : ByteArray) = i1) := Lib.hid hi1
    have HI2 : Hid ((⟨(Lib.itoa sl).toArray⟩ : ByteArray) = i2) := Lib.hid hi2
    have HI3 : Hid ((⟨(Lib.itoa ss).toArray⟩ : ByteArray) = i3) := Lib.hid hi3
    have HI4 : Hid ((⟨(Lib.itoa sn).toArray⟩ : ByteArray) = i4) := Lib.hid hi4
    clear hi1 hi2 hi3 hi4
    have c1 : (9223372036854775807 < i1.size + 1) = False := eq_false (by omega)
    have c2 : (9223372036854775807 < i1.size + 1 + i2.size) = False := eq_false (by omega)
    have c3 : (9223372036854775807 < i1.size + 1 + i2.size + 1) = False := eq_false (by omega)
    have c4 : (9223372036854775807 < i1.size + 1 + i2.size + 1 + i3.size) = False := eq_false (by omega)
    have c5 : (9223372036854775807 < i1.size + 1 + i2.size + 1 + i3.size + 1) = False := eq_false (by omega)
    have c6 : (9223372036854775807 < i1.size + 1 + i2.size + 1 + i3.size + 1 + i4.size) = False := eq_false (by omega)
    refine region_rgx ([(2, (fun u => u = .string i1 : Value → Prop), (fun _ _ => True : (Nat → GV) → World → Prop)), (6, (fun u => u = .string i2 : Value → Prop), (fun _ _ => True : (Nat → GV) → World → Prop)), (11, (fun u => u = .string i3 : Value → Prop), (fun _ _ => True : (Nat → GV) → World → Prop)), (16, (fun u => u = .string i4 : Value → Prop), (fun _ _ => True : (Nat → GV) → World → Prop))]) (w3) (by kernel_rfl) (by kernel_rfl) ?_ ?_ ?_
    · exact List.forall_mem_cons.2 ⟨⟨⟨_, rfl⟩, fun _ _ _ _ _ => trivial, fun _ _ _ _ _ => trivial⟩, List.forall_mem_cons.2 ⟨⟨⟨_, rfl⟩, fun _ _ _ _ _ => trivial, fun _ _ _ _ _ => trivial⟩, List.forall_mem_cons.2 ⟨⟨⟨_, rfl⟩, fun _ _ _ _ _ => trivial, fun _ _ _ _ _ => trivial⟩, List.forall_mem_cons.2 ⟨⟨⟨_, rfl⟩, fun _ _ _ _ _ => trivial, fun _ _ _ _ _ => trivial⟩, List.forall_mem_nil _⟩⟩⟩⟩
    · first | assumption | exact Ext.refl _
    refine rg_pure (v := ?_) rfl (by kernel_rfl) (by kernel_rfl) (fun w hS hN => ?_) ?_
    rotate_left 1
    · clear hN
      go_simp
      try simp only [c1, c2, c3, c4, c5, c6, if_false]
      refine givesP_mk ?_
      with_reducible rfl
    refine rg_pure (v := ?_) rfl (by kernel_rfl) (by kernel_rfl) (fun w hS hN => ?_) ?_
    rotate_left 1
    · have z0 := blk_cell (hS.blk HQ3.out) 0 _ rfl
      clear hN
      go_simp
      try simp only [c1, c2, c3, c4, c5, c6, if_false]
      refine givesP_mk ?_
      with_reducible rfl
    refine rg_mem (fun u => u = .string i1 : Value → Prop) (fun _ _ => True : (Nat → GV) → World → Prop) (fun _ => Ext) rfl rfl rfl rfl (by kernel_rfl) (by kernel_rfl) (fun w hS hN R hR => ?_) ?_
    · have HR := Lib.hid hR
      clear hR
      (try clear hN)
      go_simp
      refine givesM_call ((itoa_x sf w (HT3.out.ext hS) HB.out.1.1 HB.out.1.2).mono ?_)
      rintro e w' ⟨rfl, hx⟩
      rw [HI1.out]
      exact ⟨_, rfl, HR.out _ _ rfl trivial hx⟩
    rintro u2 s2 t2 rfl
    iterate 2
     refine rg_pure (v := ?_) rfl (by kernel_rfl) (by kernel_rfl) (fun w hS hN => ?_) ?_
     rotate_left 1
     · clear hN
       go_simp
       try simp only [c1, c2, c3, c4, c5, c6, if_false]
       refine givesP_mk ?_
       with_reducible rfl
    refine rg_pure (v := ?_) rfl (by kernel_rfl) (by kernel_rfl) (fun w hS hN => ?_) ?_
    rotate_left 1
    · have z1 := blk_cell (hS.blk HQ3.out) 1 _ rfl
      clear hN
      go_simp
      try simp only [c1, c2, c3, c4, c5, c6, if_false]
      refine givesP_mk ?_
      with_reducible rfl
    refine rg_mem (fun u => u = .string i2 : Value → Prop) (fun _ _ => True : (Nat → GV) → World → Prop) (fun _ => Ext) rfl rfl rfl rfl (by kernel_rfl) (by kernel_rfl) (fun w hS hN R hR => ?_) ?_
    · have HR := Lib.hid hR
      clear hR
      (try clear hN)
      go_simp
      refine givesM_call ((itoa_x sl w (HT3.out.ext hS) HB.out.2.1.1 HB.out.2.1.2).mono ?_)
      rintro e w' ⟨rfl, hx⟩
      rw [HI2.out]
      exact ⟨_, rfl, HR.out _ _ rfl trivial hx⟩
    rintro u6 s6 t6 rfl
    iterate 3
     refine rg_pure (v := ?_) rfl (by kernel_rfl) (by kernel_rfl) (fun w hS hN => ?_) ?_
     rotate_left 1
     · clear hN
       go_simp
       try simp only [c1, c2, c3, c4, c5, c6, if_false]
       refine givesP_mk ?_
       with_reducible rfl
    refine rg_pure (v := ?_) rfl (by kernel_rfl) (by kernel_rfl) (fun w hS hN => ?_) ?_
    rotate_left 1
    · have z2 := blk_cell (hS.blk HQ3.out) 2 _ rfl
      clear hN
      go_simp
      try simp only [c1, c2, c3, c4, c5, c6, if_false]
      refine givesP_mk ?_
      with_reducible rfl
    refine rg_mem (fun u => u = .string i3 : Value → Prop) (fun _ _ => True : (Nat → GV) → World → Prop) (fun _ => Ext) rfl rfl rfl rfl (by kernel_rfl) (by kernel_rfl) (fun w hS hN R hR => ?_) ?_
    · have HR := Lib.hid hR
      clear hR
      (try clear hN)
      go_simp
      refine givesM_call ((itoa_x ss w (HT3.out.ext hS) HB.out.2.2.1.1 HB.out.2.2.1.2).mono ?_)
      rintro e w' ⟨rfl, hx⟩
      rw [HI3.out]
      exact ⟨_, rfl, HR.out _ _ rfl trivial hx⟩
    rintro u11 s11 t11 rfl
    iterate 3
     refine rg_pure (v := ?_) rfl (by kernel_rfl) (by kernel_rfl) (fun w hS hN => ?_) ?_
     rotate_left 1
     · clear hN
       go_simp
       try simp only [c1, c2, c3, c4, c5, c6, if_false]
       refine givesP_mk ?_
       with_reducible rfl
    refine rg_pure (v := ?_) rfl (by kernel_rfl) (by kernel_rfl) (fun w hS hN => ?_) ?_
    rotate_left 1
    · have z3 := blk_cell (hS.blk HQ3.out) 3 _ rfl
      clear hN
      go_simp
      try simp only [c1, c2, c3, c4, c5, c6, if_false]
      refine givesP_mk ?_
      with_reducible rfl
    refine rg_mem (fun u => u = .string i4 : Value → Prop) (fun _ _ => True : (Nat → GV) → World → Prop) (fun _ => Ext) rfl rfl rfl rfl (by kernel_rfl) (by kernel_rfl) (fun w hS hN R hR => ?_) ?_
    · have HR := Lib.hid hR
      clear hR
      (try clear hN)
      go_simp
      refine givesM_call ((itoa_x sn w (HT3.out.ext hS) HB.out.2.2.2.1 HB.out.2.2.2.2).mono ?_)
      rintro e w' ⟨rfl, hx⟩
      rw [HI4.out]
      exact ⟨_, rfl, HR.out _ _ rfl trivial hx⟩
    rintro u16 s16 t16 rfl
    iterate 2
     refine rg_pure (v := ?_) rfl (by kernel_rfl) (by kernel_rfl) (fun w hS hN => ?_) ?_
     rotate_left 1
     · clear hN
       go_simp
       try simp only [c1, c2, c3, c4, c5, c6, if_false]
       refine givesP_mk ?_
       with_reducible rfl
    refine rg_done rfl (Nat.le_of_ble_eq_true (by kernel_rfl)) ?_
    intro w8 hS hT
    have HX8 := Lib.hid (HX.out.trans (HX3.out.trans hS))
    have HO8 := Lib.hid (HO.out.ext (HX3.out.trans hS))
    have z4 := blk_cell (hS.blk HQ3.out) 4 _ rfl
    clear hS hT
    go_simp
    by_cases he : sw = ByteArray.empty
    · subst he
      rw [if_pos rfl] at HWD
      obtain ⟨un, wn, hr1, ho1, hx1⟩ := ts_push (W := w) HO8.out HX8.out (i1 ++ ⟨#[45]⟩ ++ i2 ++ ⟨#[58]⟩ ++ i3 ++ ⟨#[58]⟩ ++ i4) (by rw [List.length_map, List.length_take]; omega)
      have HR1 := Lib.hid hr1
      have HO1 := Lib.hid ho1
      have HXN := Lib.hid hx1
      clear hr1 ho1 hx1
      go_upto_region 8 with fail
      go_wp2_with (at_builtin; refine wpList_append_run rfl _ _ 62 rfl _ _ rfl rfl HR1.out ?_)
      go_roundw
      case rel => exact ⟨k + 1, by omega, by go_num, by rw [HTK.out, HWD.out]; exact HO1.out, HXN.out⟩
      case measure => simp [intOf]; omega
    · rw [if_neg he] at HWD
      obtain ⟨un, wn, hr1, ho1, hx1⟩ := ts_push (W := w) HO8.out HX8.out (i1 ++ ⟨#[45]⟩ ++ i2 ++ ⟨#[58]⟩ ++ i3 ++ ⟨#[58]⟩ ++ i4 ++ (⟨#[58]⟩ ++ sw)) (by rw [List.length_map, List.length_take]; omega)
      obtain ⟨e2, e3⟩ := ln_bytes_list (s := sw) he
      have HR1 := Lib.hid hr1
      have HO1 := Lib.hid ho1
      have HXN := Lib.hid hx1
      clear hr1 ho1 hx1
      go_upto_region 8 with fail
      go_wp2_with (at_builtin; refine wpList_append_run rfl _ _ 62 rfl _ _ rfl rfl HR1.out ?_)
      go_roundw
      case rel => exact ⟨k + 1, by omega, by go_num, by rw [HTK.out, HWD.out]; exact HO1.out, HXN.out⟩
      case measure => simp [intOf]; omega
  · obtain rfl : k = l.length := by omega
    have HW9 : Hid (RowsAt 1 tsL wr u3 (l.map Sp.word)) := Lib.hid (by have := HO.out.rows tsL_len; rwa [List.take_length] at this)
    go_wp2_with fail
    refine (join_any u3 (l.map Sp.word) wr HW9.out (by rw [List.length_map]; omega) (fun x hx => ?_)).mono ?_
    · obtain ⟨s, hs, rfl⟩ := List.mem_map.1 hx
      exact word_size (HIN.out s hs)
    rintro e w9 ⟨rfl, hx9⟩
    have HX9 := Lib.hid (HX.out.trans hx9)
    have HRE : Hid ((⟨(Lib.join ((l.map Sp.word).map (·.data.toList)) [32]).toArray⟩ : ByteArray) = r) := Lib.hid (by rw [← HRR.out, List.map_map]; rfl)
    clear hx9
    rw [HRE.out]
    go_wp2
    go_ret
    exact ⟨rfl, HX9.out⟩
set_option maxRecDepth 100000 in
set_option maxHeartbeats 8000000 in
theorem lnone_any (w : World) : Calls Tryd.prog 17 #[] w fun e w' => ∃ u, e = .returned u ∧ SnAt w' u lnOne ∧ Ext w w' := by
 obtain ⟨w1, hw1⟩ : ∃ w1, w.alloc (.cells #[.int .i64 0, .slice none 0 0, .slice none 0 0] 25) = w1 := ⟨_, rfl⟩
 obtain ⟨w2, hw2⟩ : ∃ w2, w1.alloc (.cells #[.int .i64 2, .int .i64 0] 61) = w2 := ⟨_, rfl⟩
 obtain ⟨w3, hw3⟩ : ∃ w3, w2.alloc (.cells #[.int .i64 3, .int .i64 2, .int .i64 2, .int .i64 0] 49) = w3 := ⟨_, rfl⟩
 have hx1 : Ext w w1 := by rw [← hw1]; exact (Ext.refl w).alloc _
 have hx2 : Ext w1 w2 := by rw [← hw2]; exact (Ext.refl w1).alloc _
 have hx3 : Ext w2 w3 := by rw [← hw3]; exact (Ext.refl w2).alloc _
 have hb1 : w3.heap[w.heap.size]? = some (.cells #[.int .i64 0, .slice none 0 0, .slice none 0 0] 25 (0, 0)) := hx3.blk (hx2.blk (by rw [← hw1]; exact blk_new w _))
 have hr2 : RowsAt 2 snPCells w3 (.slice (some ⟨w1.heap.size, 0, none⟩) 1 1) [(2, 0)] := (by have := rows_one (f := snPCells) (m := 2) w1 61 (2, 0); rw [show (snPCells (2, 0)).toArray = #[.int .i64 2, .int .i64 0] from rfl, hw2] at this; exact this.ext hx3)
 have hr3 : RowsAt 4 snGCells w3 (.slice (some ⟨w2.heap.size, 0, none⟩) 1 1) [(3, 2, 2, 0)] := (by have := rows_one (f := snGCells) (m := 4) w2 49 (3, 2, 2, 0); rw [show (snGCells (3, 2, 2, 0)).toArray = #[.int .i64 3, .int .i64 2, .int .i64 2, .int .i64 0] from rfl, hw3] at this; exact this)
 obtain ⟨hth, w6, hw6, hb6, hret⟩ := sn_lay (y := lnOne) (A := some ⟨w1.heap.size, 0, none⟩) (B := some ⟨w2.heap.size, 0, none⟩) (c := 1) (d := 1) (time := 3) (hx1.trans (hx2.trans hx3)) (Nat.le_refl _) hb1 ⟨_, _, _, _, rfl, hr2, hr3⟩
 simp only [lnOne, List.length_cons, List.length_nil, Nat.zero_add, Nat.reduceAdd] at hth hw6 hb6 hret
 have HW1 := Lib.hid hw1
 have HW2 := Lib.hid hw2
 have HW3 := Lib.hid hw3
 have HTH := Lib.hid hth
 have HW6 := Lib.hid hw6
 have HB6 := Lib.hid hb6
 have HRET := Lib.hid hret
 clear hw1 hw2 hw3 hx1 hx2 hx3 hb1 hr2 hr3 hth hw6 hb6 hret
 go_enter Tryd.func17, Tryd.ntmps17
 go_wp2_with (first | rw [HW1.out] | rw [HW2.out] | rw [HW3.out] | (refine wpList_store_rowN rfl 25 _ _ rfl w.heap.size 0 [.int .i64 3, .slice (some ⟨w1.heap.size, 0, none⟩) 1 1, .slice (some ⟨w2.heap.size, 0, none⟩) 1 1] (.agg ([.int .i64 3, .slice (some ⟨w1.heap.size, 0, none⟩) 1 1, .slice (some ⟨w2.heap.size, 0, none⟩) 1 1]).toArray) (by go_simp) (by go_simp) rfl HTH.out (by kernel_rfl) (sn3_one _ _ _ rfl rfl) HW6.out ?_))
 refine bodyPost_ret (v := .agg ([.int .i64 3, .slice (some ⟨w1.heap.size, 0, none⟩) 1 1, .slice (some ⟨w2.heap.size, 0, none⟩) 1 1]).toArray) (results_cell_row rfl _ _ w.heap.size _ _ _ _ rfl HB6.out Tryd.underlying25 rfl (by kernel_rfl)) rfl ?_
 exact HRET.out
theorem ln_logs_at {w : World} {B : Nat} (hb : w.heap[B]? = some (.cells #[.int .i64 5, .int .i64 2, .int .i64 6, .int .i64 3, .int .i64 0, .int .i64 0, .string ⟨#[115, 108, 101, 101, 112]⟩, .slice none 0 0, .int .i64 8, .int .i64 2, .int .i64 2, .int .i64 0, .int .i64 1, .int .i64 0, .string ⟨#[]⟩, .slice none 0 0] 34 (0, 0))) : RowsAt 8 leL w (.slice (some ⟨B, 0, none⟩) 2 2) lnLogs ∧ RowsAt 8 leL w (.slice (some ⟨B, 8, none⟩) 1 1) (lnLogs.drop 1) := by
 refine ⟨⟨_, _, rfl, Nat.le_refl 2, fun _ => ⟨B, 0, rfl, blk_lt hb, fun j x hj i u hu => ?_⟩⟩, ⟨_, _, rfl, Nat.le_refl 1, fun _ => ⟨B, 8, rfl, blk_lt hb, fun j x hj i u hu => ?_⟩⟩⟩
 · match j, i with
   | 0, 0 | 0, 1 | 0, 2 | 0, 3 | 0, 4 | 0, 5 | 0, 6 | 0, 7 | 1, 0 | 1, 1 | 1, 2 | 1, 3 | 1, 4 | 1, 5 | 1, 6 | 1, 7 => simp [lnLogs] at hj; subst hj; simp [leL] at hu; subst hu; exact blk_cell hb _ _ rfl
   | 0, i + 8 | 1, i + 8 => simp [lnLogs] at hj; subst hj; simp [leL] at hu
   | j + 2, _ => simp [lnLogs] at hj
 · match j, i with
   | 0, 0 | 0, 1 | 0, 2 | 0, 3 | 0, 4 | 0, 5 | 0, 6 | 0, 7 => simp [lnLogs] at hj; subst hj; simp [leL] at hu; subst hu; exact blk_cell hb _ _ rfl
   | 0, i + 8 => simp [lnLogs] at hj; subst hj; simp [leL] at hu
   | j + 1, _ => simp [lnLogs] at hj
theorem ln_logs_st : ∀ e ∈ lnLogs, ∃ A n c, e.stack = .slice A n c := by intro e he; simp [lnLogs] at he; rcases he with rfl | rfl <;> exact ⟨_, _, _, rfl⟩
theorem ln_txin : (∀ s ∈ lnG, TxIn s) ∧ ∀ s ∈ lnP, TxIn s := by
 refine ⟨fun s hs => ?_, fun s hs => ?_⟩
 · simp [lnG] at hs; rcases hs with rfl | rfl <;> exact ⟨by unfold i64tx; decide, by unfold i64tx; decide, by unfold i64tx; decide, by unfold i64tx; decide, by decide⟩
 · simp [lnP] at hs; rcases hs with rfl | rfl <;> exact ⟨by unfold i64tx; decide, by unfold i64tx; decide, by unfold i64tx; decide, by unfold i64tx; decide, by decide⟩
set_option maxRecDepth 100000 in
set_option maxHeartbeats 16000000 in
theorem lnfixed_yes (w : World) (ht : Tab w) : Calls Tryd.prog 7 #[] w fun e w' => e = .returned (.bool true) ∧ Ext w w' := by
 obtain ⟨w1, hw1⟩ : ∃ w1, w.alloc (.cells #[.int .i64 5, .int .i64 2, .int .i64 6, .int .i64 3, .int .i64 0, .int .i64 0, .string ⟨#[115, 108, 101, 101, 112]⟩, .slice none 0 0, .int .i64 8, .int .i64 2, .int .i64 2, .int .i64 0, .int .i64 1, .int .i64 0, .string ⟨#[]⟩, .slice none 0 0] 34) = w1 := ⟨_, rfl⟩
 have hx1 : Ext w w1 := by rw [← hw1]; exact (Ext.refl w).alloc _
 have hb1 : w1.heap[w.heap.size]? = some (.cells #[.int .i64 5, .int .i64 2, .int .i64 6, .int .i64 3, .int .i64 0, .int .i64 0, .string ⟨#[115, 108, 101, 101, 112]⟩, .slice none 0 0, .int .i64 8, .int .i64 2, .int .i64 2, .int .i64 0, .int .i64 1, .int .i64 0, .string ⟨#[]⟩, .slice none 0 0] 34 (0, 0)) := by rw [← hw1]; exact blk_new w _
 obtain ⟨hla, hlb⟩ := ln_logs_at hb1
 obtain ⟨B, hB⟩ : ∃ B, w.heap.size = B := ⟨_, rfl⟩
 rw [hB] at hla hlb
 have HBB := Lib.hid hB
 have HW1 := Lib.hid hw1
 have HX1 := Lib.hid hx1
 have HLA := Lib.hid hla
 have HLB := Lib.hid hlb
 have HT := Lib.hid (ht.ext hx1)
 clear hw1 hx1 hb1 hla hlb hB ht
 go_enter Tryd.func7, Tryd.ntmps7
 go_upto_region 2 with fail
 rw [HW1.out, HBB.out]
 go_wp2_with fail
 refine (lnone_any w1).mono ?_
 rintro e w2 ⟨u, rfl, hs, hx2⟩
 have HS2 := Lib.hid hs
 have X2 := Lib.hid hx2
 clear hs hx2
 go_wp2_with fail
 refine (lnG_any u _ lnOne lnLogs 3 w2 HS2.out (HLA.out.ext X2.out) (by decide) ln_logs_st lnG ln_g).mono ?_
 rintro e w3 ⟨u3, rfl, hr3, hx3⟩
 obtain ⟨A3, c3, rfl, -⟩ := hr3.form
 have HR3 := Lib.hid hr3
 have X3 := Lib.hid (X2.out.trans hx3)
 clear hr3 hx3 HS2
 go_wp2_with fail
 refine (lnone_any w3).mono ?_
 rintro e w4 ⟨u4, rfl, hs, hx4⟩
 have HS4 := Lib.hid hs
 have X4 := Lib.hid (X3.out.trans hx4)
 have HR4 := Lib.hid (HR3.out.ext hx4)
 clear hs hx4
 go_wp2_with fail
 refine (lnP_any u4 _ lnOne lnLogs 1 w4 HS4.out (HLA.out.ext X4.out) (by decide) ln_logs_st lnP ln_p).mono ?_
 rintro e w5 ⟨u5, rfl, hr5, hx5⟩
 obtain ⟨A5, c5, rfl, -⟩ := hr5.form
 have HP5 := Lib.hid hr5
 have X5 := Lib.hid (X4.out.trans hx5)
 have HG5 := Lib.hid (HR4.out.ext hx5)
 have HT5 := Lib.hid (HT.out.ext X5.out)
 have HLA5 := Lib.hid (HLA.out.ext X5.out)
 have HLB5 := Lib.hid (HLB.out.ext X5.out)
 clear hr5 hx5 HS4 HR3 HR4
 go_wp2_with fail
 refine region_rgx ([(1, (fun u => u = .string ⟨#[51, 45, 53, 58, 50, 58, 50, 32, 53, 45, 56, 58, 51, 58, 48, 58, 115, 108, 101, 101, 112]⟩ : Value → Prop), (fun _ _ => True : (Nat → GV) → World → Prop)), (5, (fun u => u = .string ⟨#[51, 45, 56, 58, 49, 58, 50, 32, 56, 45, 56, 58, 48, 58, 48]⟩ : Value → Prop), (fun _ _ => True : (Nat → GV) → World → Prop)), (10, (fun u => u = .int .i64 2 : Value → Prop), (fun _ _ => True : (Nat → GV) → World → Prop)), (14, (fun u => ∃ A c D d, u = .agg #[.int .i64 3, .slice A 1 c, .slice D 1 d] : Value → Prop), (fun u w => SnAt w (u 14).v lnOne : (Nat → GV) → World → Prop)), (17, (fun u => ∃ A c, u = .slice A 0 c : Value → Prop), (fun _ _ => True : (Nat → GV) → World → Prop)), (22, (fun u => ∃ A c D d, u = .agg #[.int .i64 3, .slice A 1 c, .slice D 1 d] : Value → Prop), (fun u w => SnAt w (u 22).v lnOne : (Nat → GV) → World → Prop)), (24, (fun u => ∃ A c, u = .slice A 0 c : Value → Prop), (fun _ _ => True : (Nat → GV) → World → Prop)), (30, (fun u => ∃ g, u = .slice (some ⟨g, 0, none⟩) 1 1 : Value → Prop), (fun u w => RowsAt 5 spL w (u 30).v [⟨5, 3, 0, 0, ByteArray.empty⟩] : (Nat → GV) → World → Prop)), (31, (fun u => u = .int .i64 0 : Value → Prop), (fun _ _ => True : (Nat → GV) → World → Prop))]) (w5) (by kernel_rfl) (by kernel_rfl) ?_ ?_ ?_
 · exact List.forall_mem_cons.2 ⟨⟨⟨_, rfl⟩, fun _ _ _ _ _ => trivial, fun _ _ _ _ _ => trivial⟩, List.forall_mem_cons.2 ⟨⟨⟨_, rfl⟩, fun _ _ _ _ _ => trivial, fun _ _ _ _ _ => trivial⟩, List.forall_mem_cons.2 ⟨⟨⟨_, rfl⟩, fun _ _ _ _ _ => trivial, fun _ _ _ _ _ => trivial⟩, List.forall_mem_cons.2 ⟨⟨⟨_, none, 0, none, 0, rfl⟩, fun u v w h ht => by show (fun u w => SnAt w (u 14).v lnOne : (Nat → GV) → World → Prop) v w; dsimp only; rw [← h 14 (.inl rfl) (by kernel_rfl)]; exact ht, fun u w w2 hx ht => ht.ext hx⟩, List.forall_mem_cons.2 ⟨⟨⟨_, none, 0, rfl⟩, fun _ _ _ _ _ => trivial, fun _ _ _ _ _ => trivial⟩, List.forall_mem_cons.2 ⟨⟨⟨_, none, 0, none, 0, rfl⟩, fun u v w h ht => by show (fun u w => SnAt w (u 22).v lnOne : (Nat → GV) → World → Prop) v w; dsimp only; rw [← h 22 (.inl rfl) (by kernel_rfl)]; exact ht, fun u w w2 hx ht => ht.ext hx⟩, List.forall_mem_cons.2 ⟨⟨⟨_, none, 0, rfl⟩, fun _ _ _ _ _ => trivial, fun _ _ _ _ _ => trivial⟩, List.forall_mem_cons.2 ⟨⟨⟨_, 0, rfl⟩, fun u v w h ht => by show (fun u w => RowsAt 5 spL w (u 30).v [⟨5, 3, 0, 0, ByteArray.empty⟩] : (Nat → GV) → World → Prop) v w; dsimp only; rw [← h 30 (.inl rfl) (by kernel_rfl)]; exact ht, fun u w w2 hx ht => ht.ext hx⟩, List.forall_mem_cons.2 ⟨⟨⟨_, rfl⟩, fun _ _ _ _ _ => trivial, fun _ _ _ _ _ => trivial⟩, List.forall_mem_nil _⟩⟩⟩⟩⟩⟩⟩⟩⟩
 · first | assumption | exact Ext.refl _
 refine rg_pure (v := ?_) rfl (by kernel_rfl) (by kernel_rfl) (fun w hS hN => ?_) ?_
 rotate_left 1
 · clear hN
   go_simp
   refine givesP_mk ?_
   with_reducible rfl
 refine rg_mem (fun u => u = .string ⟨#[51, 45, 53, 58, 50, 58, 50, 32, 53, 45, 56, 58, 51, 58, 48, 58, 115, 108, 101, 101, 112]⟩ : Value → Prop) (fun _ _ => True : (Nat → GV) → World → Prop) (fun _ => Ext) rfl rfl rfl rfl (by kernel_rfl) (by kernel_rfl) (fun w hS hN R hR => ?_) ?_
 · have HR := Lib.hid hR
   clear hR
   (try clear hN)
   go_simp
   refine givesM_call ((ltext_any _ lnG w (HT5.out.ext hS) (HG5.out.ext hS) (by decide) ln_txin.1 _ ln_tg).mono ?_)
   rintro e w' ⟨rfl, hx⟩
   exact ⟨_, rfl, HR.out _ _ rfl trivial hx⟩
 rintro u1 s1 t1 rfl
 iterate 3
  refine rg_pure (v := ?_) rfl (by kernel_rfl) (by kernel_rfl) (fun w hS hN => ?_) ?_
  rotate_left 1
  · clear hN
    go_simp
    refine givesP_mk ?_
    with_reducible rfl
 refine rg_mem (fun u => u = .string ⟨#[51, 45, 56, 58, 49, 58, 50, 32, 56, 45, 56, 58, 48, 58, 48]⟩ : Value → Prop) (fun _ _ => True : (Nat → GV) → World → Prop) (fun _ => Ext) rfl rfl rfl rfl (by kernel_rfl) (by kernel_rfl) (fun w hS hN R hR => ?_) ?_
 · have HR := Lib.hid hR
   clear hR
   (try clear hN)
   go_simp
   refine givesM_call ((ltext_any _ lnP w (HT5.out.ext hS) (HP5.out.ext hS) (by decide) ln_txin.2 _ ln_tp).mono ?_)
   rintro e w' ⟨rfl, hx⟩
   exact ⟨_, rfl, HR.out _ _ rfl trivial hx⟩
 rintro u5 s5 t5 rfl
 iterate 4
  refine rg_pure (v := ?_) rfl (by kernel_rfl) (by kernel_rfl) (fun w hS hN => ?_) ?_
  rotate_left 1
  · clear hN
    go_simp
    refine givesP_mk ?_
    with_reducible rfl
 refine rg_mem (fun u => u = .int .i64 2 : Value → Prop) (fun _ _ => True : (Nat → GV) → World → Prop) (fun _ => Ext) rfl rfl rfl rfl (by kernel_rfl) (by kernel_rfl) (fun w hS hN R hR => ?_) ?_
 · have HR := Lib.hid hR
   clear hR
   (try clear hN)
   go_simp
   refine givesM_call ((lsum_any _ lnG 2 w (HG5.out.ext hS) (by decide) (fun s hs => (ln_txin.1 s hs).2.1.2) _ ln_sum).mono ?_)
   rintro e w' ⟨rfl, hx⟩
   exact ⟨_, rfl, HR.out _ _ rfl trivial hx⟩
 rintro u10 s10 t10 rfl
 iterate 3
  refine rg_pure (v := ?_) rfl (by kernel_rfl) (by kernel_rfl) (fun w hS hN => ?_) ?_
  rotate_left 1
  · clear hN
    go_simp
    refine givesP_mk ?_
    with_reducible rfl
 refine rg_mem (fun u => ∃ A c D d, u = .agg #[.int .i64 3, .slice A 1 c, .slice D 1 d] : Value → Prop) (fun u w => SnAt w (u 14).v lnOne : (Nat → GV) → World → Prop) (fun _ => Ext) rfl rfl rfl rfl (by kernel_rfl) (by kernel_rfl) (fun w hS hN R hR => ?_) ?_
 · have HR := Lib.hid hR
   clear hR
   (try clear hN)
   go_simp
   refine givesM_call ((lnone_any w).mono ?_)
   rintro e w' ⟨v, rfl, hs, hx⟩
   obtain ⟨A', c', D', d', rfl, h2, h3⟩ := hs
   exact ⟨_, rfl, HR.out _ _ ⟨_, _, _, _, rfl⟩ ⟨_, _, _, _, rfl, h2, h3⟩ hx⟩
 rintro u14 s14 t14 ⟨A14, c14, D14, d14, rfl⟩
 iterate 2
  refine rg_pure (v := ?_) rfl (by kernel_rfl) (by kernel_rfl) (fun w hS hN => ?_) ?_
  rotate_left 1
  · clear hN
    go_simp
    refine givesP_mk ?_
    with_reducible rfl
 refine rg_mem (fun u => ∃ A c, u = .slice A 0 c : Value → Prop) (fun _ _ => True : (Nat → GV) → World → Prop) (fun _ => Ext) rfl rfl rfl rfl (by kernel_rfl) (by kernel_rfl) (fun w hS hN R hR => ?_) ?_
 · have HR := Lib.hid hR
   clear hR
   have h14 : SnAt w (.agg #[.int .i64 3, .slice A14 1 c14, .slice D14 1 d14]) lnOne := hN.get 14 rfl (by kernel_rfl)
   have HCC := Lib.hid (lnG_any _ _ lnOne (lnLogs.drop 1) 3 w h14 (HLB5.out.ext hS) (by decide) (fun e he => ln_logs_st e (List.mem_of_mem_drop he)) [] ln_g1)
   clear h14
   (try clear hN)
   go_simp
   refine givesM_call (HCC.out.mono ?_)
   rintro e w' ⟨v, rfl, hr, hx⟩
   obtain ⟨A', c', rfl, -⟩ := hr.form
   exact ⟨_, rfl, HR.out _ _ ⟨_, _, rfl⟩ trivial hx⟩
 rintro u17 s17 t17 ⟨A17, c17, rfl⟩
 iterate 4
  refine rg_pure (v := ?_) rfl (by kernel_rfl) (by kernel_rfl) (fun w hS hN => ?_) ?_
  rotate_left 1
  · clear hN
    go_simp
    refine givesP_mk ?_
    with_reducible rfl
 refine rg_mem (fun u => ∃ A c D d, u = .agg #[.int .i64 3, .slice A 1 c, .slice D 1 d] : Value → Prop) (fun u w => SnAt w (u 22).v lnOne : (Nat → GV) → World → Prop) (fun _ => Ext) rfl rfl rfl rfl (by kernel_rfl) (by kernel_rfl) (fun w hS hN R hR => ?_) ?_
 · have HR := Lib.hid hR
   clear hR
   (try clear hN)
   go_simp
   refine givesM_call ((lnone_any w).mono ?_)
   rintro e w' ⟨v, rfl, hs, hx⟩
   obtain ⟨A', c', D', d', rfl, h2, h3⟩ := hs
   exact ⟨_, rfl, HR.out _ _ ⟨_, _, _, _, rfl⟩ ⟨_, _, _, _, rfl, h2, h3⟩ hx⟩
 rintro u22 s22 t22 ⟨A22, c22, D22, d22, rfl⟩
 refine rg_pure (v := ?_) rfl (by kernel_rfl) (by kernel_rfl) (fun w hS hN => ?_) ?_
 rotate_left 1
 · clear hN
   go_simp
   refine givesP_mk ?_
   with_reducible rfl
 refine rg_mem (fun u => ∃ A c, u = .slice A 0 c : Value → Prop) (fun _ _ => True : (Nat → GV) → World → Prop) (fun _ => Ext) rfl rfl rfl rfl (by kernel_rfl) (by kernel_rfl) (fun w hS hN R hR => ?_) ?_
 · have HR := Lib.hid hR
   clear hR
   have h22 : SnAt w (.agg #[.int .i64 3, .slice A22 1 c22, .slice D22 1 d22]) lnOne := hN.get 22 rfl (by kernel_rfl)
   have HCC := Lib.hid (lnP_any _ _ lnOne lnLogs 2 w h22 (HLA5.out.ext hS) (by decide) ln_logs_st [] ln_p2)
   clear h22
   (try clear hN)
   go_simp
   refine givesM_call (HCC.out.mono ?_)
   rintro e w' ⟨v, rfl, hr, hx⟩
   obtain ⟨A', c', rfl, -⟩ := hr.form
   exact ⟨_, rfl, HR.out _ _ ⟨_, _, rfl⟩ trivial hx⟩
 rintro u24 s24 t24 ⟨A24, c24, rfl⟩
 iterate 5
  refine rg_pure (v := ?_) rfl (by kernel_rfl) (by kernel_rfl) (fun w hS hN => ?_) ?_
  rotate_left 1
  · clear hN
    go_simp
    refine givesP_mk ?_
    with_reducible rfl
 refine rg_mem (fun u => ∃ g, u = .slice (some ⟨g, 0, none⟩) 1 1 : Value → Prop) (fun u w => RowsAt 5 spL w (u 30).v [⟨5, 3, 0, 0, ByteArray.empty⟩] : (Nat → GV) → World → Prop) (fun _ => Ext) rfl rfl rfl rfl (by kernel_rfl) (by kernel_rfl) (fun w hS hN R hR => ?_) ?_
 · have HR := Lib.hid hR
   clear hR
   (try clear hN)
   go_simp
   exact givesM_val (HR.out _ _ ⟨_, rfl⟩ (rows_one w 36 (⟨5, 3, 0, 0, ByteArray.empty⟩ : Sp)) ((Ext.refl w).alloc _))
 rintro u30 s30 t30 ⟨g30, rfl⟩
 refine rg_mem (fun u => u = .int .i64 0 : Value → Prop) (fun _ _ => True : (Nat → GV) → World → Prop) (fun _ => Ext) rfl rfl rfl rfl (by kernel_rfl) (by kernel_rfl) (fun w hS hN R hR => ?_) ?_
 · have HR := Lib.hid hR
   clear hR
   have h30 : RowsAt 5 spL w (.slice (some ⟨g30, 0, none⟩) 1 1) [⟨5, 3, 0, 0, ByteArray.empty⟩] := hN.get 30 rfl (by kernel_rfl)
   have HCC := Lib.hid (lsum_any _ _ 0 w h30 (by decide) (fun s hs => by simp at hs; subst hs; decide) _ ln_sum0)
   clear h30
   (try clear hN)
   go_simp
   refine givesM_call (HCC.out.mono ?_)
   rintro e w' ⟨rfl, hx⟩
   exact ⟨_, rfl, HR.out _ _ rfl trivial hx⟩
 rintro u31 s31 t31 rfl
 iterate 3
  refine rg_pure (v := ?_) rfl (by kernel_rfl) (by kernel_rfl) (fun w hS hN => ?_) ?_
  rotate_left 1
  · clear hN
    go_simp
    refine givesP_mk ?_
    with_reducible rfl
 refine rg_done rfl (Nat.le_of_ble_eq_true (by kernel_rfl)) ?_
 intro w8 hS hT
 have HX8 := Lib.hid (HX1.out.trans (X5.out.trans hS))
 clear hT hS
 go_simp
 go_wp2
 go_ret
 exact ⟨rfl, HX8.out⟩
theorem Sp.go_len (look : Sn → Option Vw) (why : Le → ByteArray) : ∀ (l : List Le) (x : Sn) (old : Option Vw) (done : List Sp) (cur : Option Sp), (Sp.go look why l x old done cur).length ≤ (done ++ cur.toList).length + l.length
 | [], x, old, done, cur => by unfold Sp.go; cases cur <;> simp
 | e :: l, x, old, done, cur => by
  unfold Sp.go
  cases h : Md.app x e.l with
  | none => simp
  | some y =>
   simp only
   split
   · have := Sp.go_len look why l y old done cur
     simp only [List.length_cons]
     omega
   · have := Sp.go_len look why l y (look y) (done ++ (cur.map (Sp.close y.time)).toList) ((look y).map (Sp.opn y.time (why e)))
     simp only [List.length_cons]
     refine Nat.le_trans this ?_
     cases cur <;> cases look y <;> simp <;> omega
theorem Sp.ofP_len (x : Sn) (l : List Le) (p : Int) : (Sp.ofP x l p).length ≤ 1 + l.length := by
 unfold Sp.ofP Sp.all
 split
 · have := Sp.go_len (Sp.lookP p) (fun _ => ByteArray.empty) l x (Sp.lookP p x) [] ((Sp.lookP p x).map (Sp.opn x.time ByteArray.empty))
   refine Nat.le_trans this ?_
   cases Sp.lookP p x <;> simp
 · simp
set_option maxRecDepth 100000 in
set_option maxHeartbeats 1000000 in
theorem lnsmall_any (v : Value) (s : Sn) (w : World) (hs : SnAt w v s) (r : Bool) (hr : (decide (s.ps.length ≤ 70) && decide (s.gs.length ≤ 100)) = r) :
    Calls Tryd.prog 6 #[v] w fun e w' => e = .returned (.bool r) ∧ Ext w w' := by
 obtain ⟨A, c, B, d, rfl, h2, h3⟩ := hs
 obtain ⟨time, ps, gs⟩ := s
 simp only at *
 clear h2 h3
 by_cases h1 : ps.length ≤ 70
 · by_cases h2 : gs.length ≤ 100
   · obtain rfl : r = true := by rw [← hr]; simp [h1, h2]
     have i1 : (ps.length : Int) ≤ 70 := by omega
     have i2 : (gs.length : Int) ≤ 100 := by omega
     clear h1 h2 hr
     have HB := Lib.hid (blk_new w (.cells #[.int .i64 time, .slice A ps.length c, .slice B gs.length d] 25))
     go_enter Tryd.func6, Tryd.ntmps6
     go_wp2
     go_ret
     exact ⟨by first | rfl | (simp; done) | (simp; omega), (Ext.refl w).alloc _⟩
   · obtain rfl : r = false := by rw [← hr]; simp [h1]; omega
     have i1 : (ps.length : Int) ≤ 70 := by omega
     have i2 : 100 < (gs.length : Int) := by omega
     clear h1 h2 hr
     have HB := Lib.hid (blk_new w (.cells #[.int .i64 time, .slice A ps.length c, .slice B gs.length d] 25))
     go_enter Tryd.func6, Tryd.ntmps6
     go_wp2
     go_ret
     exact ⟨by first | rfl | (simp; done) | (simp; omega), (Ext.refl w).alloc _⟩
 · obtain rfl : r = false := by rw [← hr]; simp [h1]
   have i1 : 70 < (ps.length : Int) := by omega
   clear h1 hr
   have HB := Lib.hid (blk_new w (.cells #[.int .i64 time, .slice A ps.length c, .slice B gs.length d] 25))
   go_enter Tryd.func6, Tryd.ntmps6
   go_wp2
   go_ret
   exact ⟨by first | rfl | (simp; done) | (simp; omega), (Ext.refl w).alloc _⟩
theorem sp_add_yes {st a sf sl ss sn : Int} {sw : ByteArray} (c1 : ss = st) (c2 : 0 ≤ sf) (c3 : sf ≤ sl) (a0 : 0 ≤ a) : Sp.add st a ⟨sf, sl, ss, sn, sw⟩ = min (a + min (sl - sf) 4611686018427387903) 4611686018427387903 := by
 unfold Sp.add Sp.most
 rw [if_pos ⟨c1, c2, c3⟩]
 simp only
 omega
set_option maxRecDepth 100000 in
set_option maxHeartbeats 8000000 in
theorem rlsum_any (v : Value) (l : List Sp) (st : Int) (w : World) (h : RowsAt 5 spL w v l) (hl : l.length ≤ 1000000) (hin : ∀ s ∈ l, s.till ≤ 9223372036854775807) (r : Int) (hr : Sp.sum l st = r) :
    Calls Tryd.prog 14 #[v, .int .i64 st] w fun e w' => e = .returned (.int .i64 r) ∧ Ext w w' := by
 obtain ⟨A, c, rfl, -⟩ := h.form
 have H := Lib.hid h
 have HIN := Lib.hid hin
 have HR0 := Lib.hid hr
 have hl' : (l.length : Int) ≤ 1000000 := by omega
 clear h hin hr
 go_enter Tryd.func14, Tryd.ntmps14
 go_wp2_with fail
 go_loopw [5, 6] (fun av iv wr => ∃ (k : Nat) (a : Int), k ≤ l.length ∧ iv = .int .i64 k ∧ av = .int .i64 a ∧ Hid (0 ≤ a ∧ a ≤ 4611686018427387903 ∧ (l.drop k).foldl (Sp.add st) a = r) ∧ Ext w wr) (fun _ iv _ => l.length - (intOf iv).toNat)
 case atStart => exact ⟨0, 0, Nat.zero_le _, rfl, rfl, Lib.hid ⟨by decide, by decide, HR0.out⟩, Ext.refl _⟩
 case round =>
  obtain ⟨k, a, hk, rfl, rfl, HA, hx⟩ := hrel
  have HX := Lib.hid hx
  clear hx
  by_cases hlt : k < l.length
  · obtain ⟨s, hs⟩ : ∃ s, l[k]? = some s := ⟨_, List.getElem?_eq_getElem hlt⟩
    have HD := Lib.hid (drop_cons hs)
    have ht := HIN.out s (List.mem_of_getElem? hs)
    obtain ⟨b, o, hB, hb, hc⟩ := (H.out.ext HX.out).get hs
    subst hB
    obtain ⟨sf, sl, ss, sn, sw⟩ := s
    simp only at ht
    have k0 := hc 0 _ rfl
    have k1 := hc 1 _ rfl
    have k2 := hc 2 _ rfl
    rw [Nat.add_zero] at k0
    clear hs hb hc
    obtain ⟨a0, a1, hf⟩ := HA.out
    rw [HD.out, List.foldl_cons] at hf
    have HF := Lib.hid hf
    clear hf
    by_cases c1 : ss = st
    rotate_left 1
    · have e1 : (ss == st) = false := by simpa using c1
      have HN : Hid (Sp.add st a ⟨sf, sl, ss, sn, sw⟩ = a) := Lib.hid (by unfold Sp.add; rw [if_neg (fun h => c1 h.1)])
      clear c1
      go_upto_region 5 with fail
      go_quiet (fail)
      go_wp2
      go_roundw
      case rel => exact ⟨k + 1, a, by omega, by go_num, rfl, Lib.hid ⟨a0, a1, by rw [← HF.out, HN.out]⟩, HX.out.drewN _⟩
      case measure => simp [intOf]; omega
    have e1 : (ss == st) = true := by simpa using c1
    have C1 := Lib.hid c1
    clear c1
    by_cases c2 : sf < 0
    · have e2 : decide (0 ≤ sf) = false := decide_eq_false (by omega)
      have HN : Hid (Sp.add st a ⟨sf, sl, ss, sn, sw⟩ = a) := Lib.hid (by unfold Sp.add; rw [if_neg (fun h => by have := h.2.1; simp only at this; omega)])
      clear c2
      go_upto_region 5 with fail
      go_quiet (fail)
      go_wp2
      go_roundw
      case rel => exact ⟨k + 1, a, by omega, by go_num, rfl, Lib.hid ⟨a0, a1, by rw [← HF.out, HN.out]⟩, HX.out.drewN _⟩
      case measure => simp [intOf]; omega
    have e2 : decide (0 ≤ sf) = true := decide_eq_true (by omega)
    have c2' : 0 ≤ sf := by omega
    clear c2
    by_cases c3 : sl < sf
    · have e3 : decide (sf ≤ sl) = false := decide_eq_false (by omega)
      have HN : Hid (Sp.add st a ⟨sf, sl, ss, sn, sw⟩ = a) := Lib.hid (by unfold Sp.add; rw [if_neg (fun h => by have := h.2.2; simp only at this; omega)])
      clear c3
      go_upto_region 5 with fail
      go_quiet (fail)
      go_wp2
      go_roundw
      case rel => exact ⟨k + 1, a, by omega, by go_num, rfl, Lib.hid ⟨a0, a1, by rw [← HF.out, HN.out]⟩, HX.out.drewN _⟩
      case measure => simp [intOf]; omega
    have e3 : decide (sf ≤ sl) = true := decide_eq_true (by omega)
    have c3' : sf ≤ sl := by omega
    clear c3
    have HN := Lib.hid (sp_add_yes (sn := sn) (sw := sw) C1.out c2' c3' a0)
    go_upto_region 5 with fail
    go_quiet (fail)
    go_upto_region 6 with fail
    go_quiet (fail)
    go_wp2
    go_roundw
    case rel => exact ⟨k + 1, min (a + min (sl - sf) 4611686018427387903) 4611686018427387903, by omega, by go_num, by go_num, Lib.hid ⟨by omega, by omega, by rw [← HF.out, HN.out]⟩, HX.out.drewN _⟩
    case measure => simp [intOf]; omega
  · obtain rfl : k = l.length := by omega
    have HE : Hid (a = r) := Lib.hid (by have := HA.out.2.2; rw [List.drop_length] at this; exact this)
    go_wp2
    go_ret
    exact ⟨by rw [← HE.out] <;> rfl, HX.out⟩
section
variable {P : Program}
theorem run_eqFields_all (d : Nat) (xs ys : Array Value) (R : Nat → Bool) (w : World) : ∀ fs : List Field, (∀ f ∈ fs, f.name ≠ "_" ∧ ∃ a b, (part f.type xs f.offset).run P w = .ok a w ∧ (part f.type ys f.offset).run P w = .ok b w ∧ (Op.equalIn d f.type a b).run P w = .ok (R f.offset) w) →
    (Op.eqFields d xs ys fs).run P w = .ok (fs.all fun f => R f.offset) w
 | [], _ => by simp [Op.eqFields]
 | f :: fs, h => by
  obtain ⟨hn, a, b, p1, p2, p3⟩ := h f (by simp)
  have ih := run_eqFields_all d xs ys R w fs fun g hg => h g (by simp [hg])
  simp only [Op.eqFields, hn, ne_eq, not_false_eq_true, if_true, Sem.run_bind, p1, p2, p3, Result.andThen_ok, List.all_cons]
  cases hr : R f.offset with
  | false => simp
  | true => simpa using ih
def FieldsAre (P : Program) (t : TypeId) (fs : List (TypeId × Nat)) : Bool := !P.stoodInHeld t && (P.fieldsOf t).toList.all (fun e => e.name != "_") && (P.fieldsOf t).toList.map (fun e => (e.type, e.offset)) == fs
theorem run_eqStruct {t : TypeId} (ht : P.underlying t = some (.struct (P.fieldsOf t))) (fs : List (TypeId × Nat)) (hs : FieldsAre P t fs = true) (d : Nat) (xs ys : Array Value) (R : Nat → Bool) (w : World)
    (h : ∀ f ∈ fs, ∃ a b, (part f.1 xs f.2).run P w = .ok a w ∧ (part f.1 ys f.2).run P w = .ok b w ∧ (Op.equalIn d f.1 a b).run P w = .ok (R f.2) w) : (Op.equalIn (d + 1) t (.agg xs) (.agg ys)).run P w = .ok (fs.all fun f => R f.2) w := by
 unfold FieldsAre at hs
 simp only [Bool.and_eq_true, Bool.not_eq_true', beq_iff_eq] at hs
 obtain ⟨⟨h1, h2⟩, h3⟩ := hs
 rw [run_equalIn_struct w d _ _ _ ht h1, run_eqFields_all d xs ys R w _ fun f hf => by
  have hn := List.all_eq_true.1 h2 f hf
  refine ⟨by simpa using hn, ?_⟩
  exact h (f.type, f.offset) (by rw [← h3]; exact List.mem_map_of_mem hf)]
 congr 1
 rw [← h3, List.all_map]
 rfl
end
deriving instance DecidableEq for Sp
set_option maxRecDepth 100000 in
theorem run_eqSp (s t : Sp) (w : World) : (Op.equalIn 10000 36 (.agg #[.int .i64 s.fr, .int .i64 s.till, .int .i64 s.st, .int .i64 s.n, .string s.why]) (.agg #[.int .i64 t.fr, .int .i64 t.till, .int .i64 t.st, .int .i64 t.n, .string t.why])).run Tryd.prog w = .ok (decide (s = t)) w := by
 refine (run_eqStruct (P := Tryd.prog) Tryd.underlying36 [(3, 0), (3, 1), (3, 2), (3, 3), (9, 4)] (by kernel_rfl) 9999 _ _ (fun o => if o = 0 then s.fr == t.fr else if o = 1 then s.till == t.till else if o = 2 then s.st == t.st else if o = 3 then s.n == t.n else s.why.toList == t.why.toList) w fun f hf => by
  simp only [List.mem_cons, List.not_mem_nil, or_false] at hf
  rcases hf with rfl | rfl | rfl | rfl | rfl
  · exact ⟨_, _, run_part_plain w (by kernel_rfl) rfl, run_part_plain w (by kernel_rfl) rfl, run_equalIn_int w _ _ .i64 .i64 _ _ Tryd.underlying3⟩
  · exact ⟨_, _, run_part_plain w (by kernel_rfl) rfl, run_part_plain w (by kernel_rfl) rfl, run_equalIn_int w _ _ .i64 .i64 _ _ Tryd.underlying3⟩
  · exact ⟨_, _, run_part_plain w (by kernel_rfl) rfl, run_part_plain w (by kernel_rfl) rfl, run_equalIn_int w _ _ .i64 .i64 _ _ Tryd.underlying3⟩
  · exact ⟨_, _, run_part_plain w (by kernel_rfl) rfl, run_part_plain w (by kernel_rfl) rfl, run_equalIn_int w _ _ .i64 .i64 _ _ Tryd.underlying3⟩
  · exact ⟨_, _, run_part_plain w (by kernel_rfl) rfl, run_part_plain w (by kernel_rfl) rfl, run_equalIn_string w _ _ _ _ Tryd.underlying9⟩).trans ?_
 congr 1
 rw [Bool.eq_iff_iff, decide_eq_true_eq]
 obtain ⟨a, b, c, d, ⟨⟨x⟩⟩⟩ := s
 obtain ⟨a', b', c', d', ⟨⟨y⟩⟩⟩ := t
 simp [ByteArray.toList_eq]
set_option maxRecDepth 100000 in
set_option maxHeartbeats 8000000 in
theorem rlsame_any (v u : Value) (xs ys : List Sp) (w : World) (h : RowsAt 5 spL w v xs) (k : RowsAt 5 spL w u ys) (hn : xs.length ≤ 1000000) (hm : ys.length ≤ 1000000) :
    Calls Tryd.prog 8 #[v, u] w fun e w' => e = .returned (.bool (decide (xs = ys))) ∧ Ext w w' := by
 obtain ⟨A, c, rfl, -⟩ := h.form
 obtain ⟨B, d, rfl, -⟩ := k.form
 by_cases hne : xs.length = ys.length
 · have HL := Lib.hid hne
   have H1 := Lib.hid h
   have H2 := Lib.hid k
   have hb0 : ((xs.length : Int) != (ys.length : Int)) = false := by simp; omega
   have hn' : (xs.length : Int) ≤ 1000000 := by omega
   clear h k
   go_enter Tryd.func8, Tryd.ntmps8
   go_wp2_with fail
   go_loopw [5] (fun iv wr => ∃ k : Nat, k ≤ xs.length ∧ iv = .int .i64 k ∧ Hid (xs.take k = ys.take k) ∧ Ext w wr) (fun iv _ => xs.length - (intOf iv).toNat)
   case atStart => exact ⟨0, Nat.zero_le _, rfl, Lib.hid rfl, Ext.refl _⟩
   case round =>
    obtain ⟨k, hk, rfl, HEQ, hx⟩ := hrel
    have HX := Lib.hid hx
    clear hx
    by_cases hlt : k < xs.length
    · have hlt2 : k < ys.length := by omega
      obtain ⟨x, hxe⟩ : ∃ x, xs[k]? = some x := ⟨_, List.getElem?_eq_getElem hlt⟩
      obtain ⟨y, hye⟩ : ∃ y, ys[k]? = some y := ⟨_, List.getElem?_eq_getElem hlt2⟩
      have HXE := Lib.hid hxe
      have HYE := Lib.hid hye
      have HT : Hid (xs.take (k + 1) = xs.take k ++ [x]) := Lib.hid (by rw [List.take_add_one, hxe]; rfl)
      have HT' : Hid (ys.take (k + 1) = ys.take k ++ [y]) := Lib.hid (by rw [List.take_add_one, hye]; rfl)
      have HNE : Hid (x ≠ y → decide (xs = ys) = false) := Lib.hid fun hne => decide_eq_false fun hh => hne (by
       subst hh
       have h1 := HXE.out
       rw [HYE.out] at h1
       exact (Option.some.inj h1).symm)
      obtain ⟨b1, o1, hB1, hb1, hc1⟩ := (H1.out.ext HX.out).get hxe
      obtain ⟨b2, o2, hB2, hb2, hc2⟩ := (H2.out.ext HX.out).get hye
      subst hB1 hB2
      have a0 := hc1 0 _ rfl
      have a1 := hc1 1 _ rfl
      have a2 := hc1 2 _ rfl
      have a3 := hc1 3 _ rfl
      have a4 := hc1 4 _ rfl
      have f0 := hc2 0 _ rfl
      have f1 := hc2 1 _ rfl
      have f2 := hc2 2 _ rfl
      have f3 := hc2 3 _ rfl
      have f4 := hc2 4 _ rfl
      rw [Nat.add_zero] at a0 f0
      have i0 : (0 : Int) ≤ (k : Int) := by omega
      have i1 : (k : Int) < (xs.length : Int) := by omega
      have i2 : (k : Int) < (ys.length : Int) := by omega
      have hqq := run_eqSp x y
      clear hxe hye hc1 hc2 hb1 hb2
      go_upto_region 6 with fail
      by_cases hxy : x = y
      · rw [decide_eq_true hxy] at hqq
        have HEN : Hid (xs.take (k + 1) = ys.take (k + 1)) := Lib.hid (by rw [HT.out, HT'.out, HEQ.out, hxy])
        clear hxy
        go_quiet (fail)
        go_wp2
        go_roundw
        case rel => exact ⟨k + 1, by omega, by go_num, HEN, HX.out.drewN _⟩
        case measure => simp [intOf]; omega
      · rw [decide_eq_false hxy] at hqq
        have HRR := Lib.hid (HNE.out hxy)
        clear hxy
        go_quiet (fail)
        go_wp2
        go_ret
        exact ⟨by rw [HRR.out] <;> rfl, HX.out.drewN _⟩
    · obtain rfl : k = xs.length := by omega
      have HPQ : Hid (decide (xs = ys) = true) := Lib.hid (by have h1 := HEQ.out; rw [List.take_length, HL.out, List.take_length] at h1; exact decide_eq_true h1)
      go_wp2
      go_ret
      exact ⟨by rw [HPQ.out] <;> rfl, HX.out⟩
 · have hb0 : ((xs.length : Int) != (ys.length : Int)) = true := by simp; omega
   have hr : decide (xs = ys) = false := decide_eq_false fun hh => hne (by rw [hh])
   rw [hr]
   go_enter Tryd.func8, Tryd.ntmps8
   go_wp2
   go_ret
   exact ⟨rfl, Ext.refl _⟩
namespace Sp
def steps : List Le → Sn → Option (List Sn)
 | [], _ => some []
 | e :: l, x => match Md.app x e.l with
  | none => none
  | some y => (steps l y).map (y :: ·)
def snaps (x : Sn) (l : List Le) : Option (List Sn) := if x.may = true then (steps l x).map (x :: ·) else none
def opr (t : Int) (w : ByteArray) (v : Vw) : Sp := ⟨t, t, v.1, v.2.1, w⟩
def rstep (look : Sn → Option Vw) (y : Sn) (w : ByteArray) (a : Option Vw × List Sp × Option Sp) : Option Vw × List Sp × Option Sp :=
 (look y, (if look y = a.1 then a.2.1 else a.2.1 ++ (a.2.2.map (close y.time)).toList), (if look y = a.1 then a.2.2.map (close y.time) else (look y).map (opr y.time w)))
def rgo (look : Sn → Option Vw) (why : Le → ByteArray) : List Le → List Sn → Option Vw × List Sp × Option Sp → Option Vw × List Sp × Option Sp
 | e :: l, y :: s, a => rgo look why l s (rstep look y (why e) a)
 | _, _, a => a
theorem rgo_eq (look : Sn → Option Vw) (why : Le → ByteArray) : ∀ (l : List Le) (s : List Sn) (x : Sn) (done : List Sp) (c d : Option Sp), steps l x = some s → (∀ t, c.map (close t) = d.map (close t)) → c.isSome = (look x).isSome →
    go look why l x (look x) done c = (rgo look why l s (look x, done, d)).2.1 ++ ((rgo look why l s (look x, done, d)).2.2.map (close ((x :: s).getLast (by simp)).time)).toList
 | [], s, x, done, c, d, hs, hcd, hc => by
  simp only [steps, Option.some.injEq] at hs
  subst hs
  unfold go rgo
  simp only [List.getLast_singleton]
  rw [hcd]
 | e :: l, s, x, done, c, d, hs, hcd, hc => by
  unfold steps at hs
  unfold go
  cases ha : Md.app x e.l with
  | none => rw [ha] at hs; cases hs
  | some y =>
   rw [ha] at hs
   simp only [Option.map_eq_some_iff] at hs
   obtain ⟨s', hs', rfl⟩ := hs
   simp only
   unfold rgo
   have hlast : ((x :: y :: s').getLast (by simp)) = ((y :: s').getLast (by simp)) := List.getLast_cons (by simp)
   rw [hlast]
   by_cases he : look y = look x
   · rw [if_pos he, ← he]
     unfold rstep
     simp only [if_pos]
     refine rgo_eq look why l s' y done c (d.map (close y.time)) hs' (fun t => ?_) (by rw [he]; exact hc)
     rw [hcd t, Option.map_map]
     congr 1
   · rw [if_neg he]
     unfold rstep
     simp only [if_neg he]
     rw [hcd]
     refine rgo_eq look why l s' y _ ((look y).map (opn y.time (why e))) ((look y).map (opr y.time (why e))) hs' (fun t => ?_) (by cases look y <;> rfl)
     rw [Option.map_map, Option.map_map]
     congr 1
theorem go_none (look : Sn → Option Vw) (why : Le → ByteArray) : ∀ (l : List Le) (x : Sn) (old : Option Vw) (done : List Sp) (c : Option Sp), steps l x = none → go look why l x old done c = []
 | [], x, _, _, _, hs => by simp [steps] at hs
 | e :: l, x, old, done, c, hs => by
  unfold steps at hs
  unfold go
  cases ha : Md.app x e.l with
  | none => rfl
  | some y =>
   rw [ha] at hs
   simp only [Option.map_eq_none_iff] at hs
   simp only
   split
   · exact go_none look why l y _ _ _ hs
   · exact go_none look why l y _ _ _ hs
theorem all_eq (look : Sn → Option Vw) (why : Le → ByteArray) (x : Sn) (l : List Le) : all look why x l = match snaps x l with
    | none => []
    | some [] => []
    | some (x' :: s) => (rgo look why l s (look x', [], (look x').map (opr x'.time ByteArray.empty))).2.1 ++ ((rgo look why l s (look x', [], (look x').map (opr x'.time ByteArray.empty))).2.2.map (close ((x' :: s).getLast (by simp)).time)).toList := by
 unfold all snaps
 by_cases hm : x.may = true
 · rw [if_pos hm, if_pos hm]
   cases hs : steps l x with
   | none => exact go_none look why l x _ _ _ hs
   | some s =>
    simp only [Option.map_some]
    exact rgo_eq look why l s x [] _ _ hs (fun t => by rw [Option.map_map, Option.map_map]; congr 1) (by cases look x <;> rfl)
 · rw [if_neg hm, if_neg hm]
end Sp
structure Sv where
 x : Sn
 A : Option Addr
 c : Nat
 D : Option Addr
 d : Nat
def svL (s : Sv) : List Value := [.int .i64 s.x.time, .slice s.A s.x.ps.length s.c, .slice s.D s.x.gs.length s.d]
def SvAt (w : World) (s : Sv) : Prop := RowsAt 2 snPCells w (.slice s.A s.x.ps.length s.c) s.x.ps ∧ RowsAt 4 snGCells w (.slice s.D s.x.gs.length s.d) s.x.gs
theorem svL_len (s : Sv) : (svL s).length = 3 := rfl
theorem svL_one (s : Sv) : ∀ u ∈ svL s, u.oneCell' = true := by intro u hu; simp [svL] at hu; rcases hu with rfl | rfl | rfl <;> rfl
theorem SvAt.ext {w w' : World} {s : Sv} (h : SvAt w s) (hx : Ext w w') : SvAt w' s := ⟨h.1.ext hx, h.2.ext hx⟩
theorem SvAt.at {w : World} {s : Sv} (h : SvAt w s) : SnAt w (.agg (svL s).toArray) s.x := ⟨s.A, s.c, s.D, s.d, rfl, h.1, h.2⟩
theorem SnAt.sv {w : World} {v : Value} {x : Sn} (h : SnAt w v x) : ∃ s : Sv, s.x = x ∧ v = .agg (svL s).toArray ∧ SvAt w s := by
 obtain ⟨A, c, D, d, rfl, h2, h3⟩ := h
 exact ⟨⟨x, A, c, D, d⟩, rfl, rfl, h2, h3⟩
theorem Tryd.infoSN : (Tryd.prog.info? 25).map (fun i => (i.zero, i.size, i.bytes)) = some (some (.agg #[.int .i64 0, .slice none 0 0, .slice none 0 0]), 3, 56) := by kernel_rfl
def Pt (l : List Value) : Prop := ∀ j a, l[j]? = some (.int .i64 a) → j % 3 = 0
theorem Pt.app {l m : List Value} {n : Nat} (hl : l.length = n * 3) (h : Pt l) (k : Pt m) : Pt (l ++ m) := fun j a hj => by
 rcases Nat.lt_or_ge j l.length with hlt | hge
 · rw [List.getElem?_append_left hlt] at hj; exact h j a hj
 · rw [List.getElem?_append_right hge] at hj
   have := k _ a hj
   omega
theorem Pt.drop {l : List Value} (h : Pt l) (n : Nat) : Pt (l.drop (n * 3)) := fun j a hj => by
 rw [List.getElem?_drop] at hj
 have := h _ a hj
 omega
theorem Pt.take {l : List Value} (h : Pt l) (n : Nat) : Pt (l.take n) := fun j a hj => by
 rw [List.getElem?_take] at hj
 split at hj
 · exact h j a hj
 · cases hj
theorem Pt.one (s : Sv) : Pt (svL s) := fun j a hj => by
 match j, hj with
 | 0, _ => rfl
 | 1, hj => simp [svL] at hj
 | 2, hj => simp [svL] at hj
 | j + 3, hj => simp [svL] at hj
theorem Pt.zero (n : Nat) : Pt (Builtin.zeroCells #[.int .i64 0, .slice none 0 0, .slice none 0 0] n).toList := fun j a hj => by
 unfold Builtin.zeroCells at hj
 rw [Array.getElem?_toList, Array.getElem?_map] at hj
 have h3 : j % 3 = 0 ∨ j % 3 = 1 ∨ j % 3 = 2 := by omega
 rcases h3 with h3 | h3 | h3
 · exact h3
 · exfalso
   cases hr : (Array.range (n * 3))[j]? with
   | none => simp [hr] at hj
   | some i =>
    have : i = j := by
     obtain ⟨hlt, he⟩ := Array.getElem?_eq_some_iff.1 hr
     rw [Array.getElem_range] at he
     exact he.symm
    subst this
    have e : (#[Value.int .i64 0, .slice none 0 0, .slice none 0 0] : Array Value).size = 3 := rfl
    rw [e, hr] at hj
    simp only [Option.map_some, Option.some.injEq, h3] at hj
    simp at hj
 · exfalso
   cases hr : (Array.range (n * 3))[j]? with
   | none => simp [hr] at hj
   | some i =>
    have : i = j := by
     obtain ⟨hlt, he⟩ := Array.getElem?_eq_some_iff.1 hr
     rw [Array.getElem_range] at he
     exact he.symm
    subst this
    have e : (#[Value.int .i64 0, .slice none 0 0, .slice none 0 0] : Array Value).size = 3 := rfl
    rw [e, hr] at hj
    simp only [Option.map_some, Option.some.injEq, h3] at hj
    simp at hj
structure SnRow (w : World) (B g cap : Nat) (vs : List Sv) : Prop where
 lo : B ≤ g
 row : ∃ cur, w.heap[g]? = some (.cells cur 25 (0, 0)) ∧ vs.length ≤ cap ∧ cap ≤ maxLen ∧ cur.size = cap * 3 ∧ cur.toList.take (vs.length * 3) = vs.flatMap svL ∧ Pt cur.toList
theorem SnRow.ext {w w' : World} {B g cap : Nat} {vs : List Sv} (h : SnRow w B g cap vs) (hx : Ext w w') : SnRow w' B g cap vs := by
 obtain ⟨cur, h1, h2⟩ := h.row
 exact ⟨h.lo, cur, hx.blk h1, h2⟩
theorem SnRow.upd {w w' : World} {B g cap k : Nat} {vs : List Sv} (h : SnRow w B g cap vs) (hx : Upd k w w') (hk : k < B) : SnRow w' B g cap vs := by
 obtain ⟨cur, h1, h2⟩ := h.row
 have := h.lo
 exact ⟨h.lo, cur, hx.blk h1 (by omega), h2⟩
theorem SnRow.own {w : World} {B g cap : Nat} {vs : List Sv} (h : SnRow w B g cap vs) : OwnRows 25 3 svL w B (.slice (some ⟨g, 0, none⟩) vs.length cap) vs := by
 obtain ⟨cur, h1, h2, h3, h4, h5, _⟩ := h.row
 exact ⟨flatMap_len svL_len vs, .inr ⟨g, cap, cur, rfl, h.lo, h1, h2, h3, h4, h5⟩⟩
theorem SnRow.made (w : World) {B : Nat} (s : Sv) (hB : B ≤ w.heap.size) : SnRow (w.alloc (.cells (svL s).toArray 25)) B w.heap.size 1 [s] :=
 ⟨hB, _, blk_new w _, Nat.le_refl _, by decide, rfl, by simp [svL], Pt.one s⟩
theorem SnRow.off {α : Type} {m : Nat} {f : α → List Value} {w : World} {B g cap : Nat} {vs : List Sv} (h : SnRow w B g cap vs) {v : Value} {xs : List α} (hr : RowsAt m f w v xs) (hf : ∀ x, ∃ (a b : Int) (r : List Value), f x = .int .i64 a :: .int .i64 b :: r) {A : Option Addr} {n c : Nat} (hv : v = .slice A n c) : 0 < n → ∀ a, A = some a → a.block ≠ g := fun h0 a ha e => by
 obtain ⟨A', c', hv', hc, hA⟩ := hr
 rw [hv] at hv'
 simp only [Value.slice.injEq] at hv'
 obtain ⟨rfl, rfl, rfl⟩ := hv'
 obtain ⟨b, o, hAe, hlt, hcell⟩ := hA h0
 rw [ha] at hAe
 obtain rfl := Option.some.inj hAe
 simp only at e
 subst e
 obtain ⟨cur, h1, _, _, _, _, hp⟩ := h.row
 obtain ⟨x, hx⟩ : ∃ x, xs[0]? = some x := ⟨_, List.getElem?_eq_getElem h0⟩
 obtain ⟨p, q, r, hfx⟩ := hf x
 have k0 := hcell 0 x hx 0 (.int .i64 p) (by rw [hfx]; rfl)
 have k1 := hcell 0 x hx 1 (.int .i64 q) (by rw [hfx]; rfl)
 rw [show o + 0 * m + 0 = o by omega, cell_of_row w b o _ _ _ h1] at k0
 rw [show o + 0 * m + 1 = o + 1 by omega, cell_of_row w b (o + 1) _ _ _ h1] at k1
 have e0 := hp o p (by rw [Array.getElem?_toList]; exact k0)
 have e1 := hp (o + 1) q (by rw [Array.getElem?_toList]; exact k1)
 omega
theorem SnRow.push {w : World} {B g cap : Nat} {vs : List Sv} (h : SnRow w B g cap vs) (s : Sv) (hB : B ≤ w.heap.size) (hl : vs.length ≤ 1000000) :
    ∃ g' cap' w', (Builtin.append_ #[54, 54] 54 #[.slice (some ⟨g, 0, none⟩) vs.length cap, .slice (some ⟨w.heap.size, 0, none⟩) 1 1]).run Tryd.prog (w.alloc (.cells (svL s).toArray 25)) = .ok (.slice (some ⟨g', 0, none⟩) (vs.length + 1) cap') w' ∧ SnRow w' B g' cap' (vs ++ [s]) ∧ w.grownBy w' (some g) := by
 obtain ⟨i0, I0, I1, I2, I3⟩ := info_parts Tryd.infoSN
 have h1 := h.ext ((Ext.refl w).alloc (.cells (svL s).toArray 25))
 have hgo := World.grownBy_alloc w (.cells (svL s).toArray 25) (some g)
 obtain ⟨cur, c1, c2, c3, c4, c5, c6⟩ := h1.row
 have hnew : ∀ j u, (svL s)[j]? = some u → (w.alloc (.cells (svL s).toArray 25)).cell? ((⟨w.heap.size, 0, none⟩ : Addr).add j) = some u := fun j u hj => by
  have := blk_cell (blk_new w (.cells (svL s).toArray 25)) j u (by simpa using hj)
  rw [Addr.add_lit, Nat.zero_add]
  exact this
 have hfl : vs.flatMap svL ++ svL s = (vs ++ [s]).flatMap svL := by rw [List.flatMap_append]; simp
 have hln : (vs.flatMap svL).length = vs.length * 3 := flatMap_len svL_len vs
 by_cases hroom : vs.length + 1 ≤ cap
 · have hr := run_append_room (P := Tryd.prog) (w.alloc (.cells (svL s).toArray 25)) 54 54 25 i0 Tryd.underlying54 I0 g vs.length cap cur c1 ⟨w.heap.size, 0, none⟩ 1 1 (svL s) (by rw [I2]; rfl) hnew (svL_one s) hroom (by rw [I2, c4, svL_len]; omega)
   rw [I2, c5, svL_len] at hr
   refine ⟨g, cap, _, hr, ⟨h.lo, _, setRow_heap _ g cur _ _ _ c1, by simpa using hroom, c3, ?_, ?_, ?_⟩, ?_⟩
   · simp only [List.size_toArray, List.length_append, List.length_drop, Array.length_toList, hln, svL_len, c4]
     omega
   · rw [← hfl, List.length_append, List.length_singleton, show (vs.length + 1) * 3 = (vs.flatMap svL ++ svL s).length by rw [List.length_append, hln, svL_len]; omega]
     exact List.take_left
   · refine Pt.app (n := vs.length + 1) (by rw [List.length_append, hln, svL_len]; omega) (Pt.app hln (by rw [← c5]; exact c6.take _) (Pt.one s)) ?_
     rw [show vs.length * 3 + 3 = (vs.length + 1) * 3 by omega]
     exact c6.drop _
   · refine ⟨rfl, rfl, rfl, by simp, fun k hk hne => ?_⟩
     rw [setRow_other _ g k _ (fun e => hne (by rw [e]))]
     exact hgo.block k hk hne
 · have holds : ∀ j u, (vs.flatMap svL)[j]? = some u → (w.alloc (.cells (svL s).toArray 25)).cell? ((⟨g, 0, none⟩ : Addr).add j) = some u := World.ownsRow.cells (h1.own) (g := g) rfl
   have hr := run_append_grow (P := Tryd.prog) (w.alloc (.cells (svL s).toArray 25)) 54 54 25 i0 _ Tryd.underlying54 I0 I1 ⟨g, 0, none⟩ vs.length cap (vs.flatMap svL) (by rw [I2]; exact hln) holds ⟨w.heap.size, 0, none⟩ 1 1 (svL s) (by rw [I2]; rfl) hnew (by omega) (by omega) (growslice_fits (by omega) (by rw [I3]; omega))
   have hge := grownCap_ge (w.alloc (.cells (svL s).toArray 25)) (vs.length + 1) cap 25
   have hcm := grownCap_le_maxLen (w.alloc (.cells (svL s).toArray 25)) (vs.length + 1) cap 25 (by simp [maxLen]; omega)
   refine ⟨_, _, _, hr, ⟨?_, _, heap_alloc_new _ _, by simpa using hge, hcm, ?_, ?_, ?_⟩, ?_⟩
   · simp; omega
   · simp only [Array.size_append, List.size_toArray, size_zeroCells, hln, svL_len, Value.cells]
     simp
     omega
   · simp only [Array.toList_append, List.append_assoc]
     rw [← List.append_assoc, hfl, List.length_append, List.length_singleton, show (vs.length + 1) * 3 = ((vs ++ [s]).flatMap svL).length by rw [flatMap_len svL_len, List.length_append, List.length_singleton]]
     exact List.take_left
   · simp only [Array.toList_append]
     exact Pt.app (n := vs.length + 1) (by rw [List.length_append, hln, svL_len]; omega) (Pt.app hln (by rw [← c5]; exact c6.take _) (Pt.one s)) (Pt.zero _)
   · refine ⟨rfl, rfl, rfl, by simp; omega, fun k hk hne => ?_⟩
     rw [Go.heap_alloc_old _ _ (show k < (w.alloc (.cells (svL s).toArray 25)).drew.heap.size by simp; omega)]
     exact hgo.block k hk hne
end Go.Proofs.YtohncgikdlbogaaDoor

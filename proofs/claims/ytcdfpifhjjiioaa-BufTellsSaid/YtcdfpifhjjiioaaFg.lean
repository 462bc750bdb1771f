/-
  The contracts of buf.Put and buf.Seal in all; layer 19's own helper 'fixed': it returns true.
-/
import Derived.Test.YtcdfpifhjjiioaaFd
import Derived.Test.YtcdfpifhjjiioaaFf
import Derived.Test.YtcdfpifhjjiioaaEr
set_option linter.unusedVariables false
set_option linter.unusedSimpArgs false
namespace Go.Proofs.Ytcdfpifhjjiioaa
open Go.RowKit

theorem bput_any (m ba la : Int) (bo : ByteArray) (t : Int) (k d : Int) (xs : List Int) (tx : ByteArray) (A : Option Addr) (c : Nat) (w : World) (hbz : bo.size ≤ 1000000) (hI : IntsAt w (.slice A xs.length c) xs) (hn : xs.length ≤ 1000) (htx : tx.size ≤ 1000000) :
    Calls Try.prog 10 #[.agg #[.int .i64 m, .int .i64 ba, .int .i64 la, .string bo], .int .i64 t, .agg #[.int .i64 k, .int .i64 d, .slice A xs.length c, .string tx]] w (BPut (Bu.put ⟨m, ba, la, bo⟩ t ⟨k, d, xs, tx⟩) w) := by
  have hez : ∀ dt, (Ev.enc ⟨k, dt, xs, tx⟩).size ≤ 140737488351300 := fun dt => by
    cases hm : Ev.may ⟨k, dt, xs, tx⟩ with
    | false => unfold Ev.enc; rw [hm]; exact Nat.zero_le _
    | true =>
      rw [Ev.enc_size hm]
      have := Ev.encL_le hm (by unfold Va.most; simp only; omega)
      simp only at this
      omega
  cases ht : Ev.ok t with
  | false => rw [Bu.put_no ht]; exact bput_no m ba la bo t k d xs tx A c w ht
  | true =>
    have h0 := Ev.ok_wi.1 ht
    unfold Wi.ok at h0
    by_cases hb : bo.size = 0
    · have e := Bu.put_empty (b := ⟨m, ba, la, bo⟩) (t := t) (e := ⟨k, d, xs, tx⟩) hb ht
      cases hm : Ev.may ⟨k, 0, xs, tx⟩ with
      | false => simp only [hm] at e; rw [e]; exact bput_bad0 m ba la bo t k d xs tx A c w h0.1 h0.2 hb hI (by omega) hm
      | true => simp only [hm] at e; rw [e]; exact bput_ok0 m ba la bo t k d xs tx A c w h0.1 h0.2 hb (by omega) hI (by omega) (by omega) hm _ _ rfl (hez 0) rfl
    · by_cases hl : la ≤ t
      · have e := Bu.put_more (b := ⟨m, ba, la, bo⟩) (t := t) (e := ⟨k, d, xs, tx⟩) hb ht hl
        simp only at e
        cases hm : Ev.may ⟨k, IntKind.i64.wrap (t - la), xs, tx⟩ with
        | false => simp only [hm] at e; rw [e]; exact bput_bad m ba la bo t k d xs tx A c w h0.1 h0.2 hb hl hI (by omega) _ rfl hm
        | true => simp only [hm] at e; rw [e]; exact bput_ok m ba la bo t k d xs tx A c w h0.1 h0.2 hb (by omega) hl hI (by omega) (by omega) _ rfl hm _ _ rfl (hez _) rfl
      · rw [Bu.put_early (b := ⟨m, ba, la, bo⟩) hb (by simp only; omega)]
        exact bput_early m ba la bo t k d xs tx A c w h0.1 h0.2 hb (by omega)
theorem bseal_any (m ba la : Int) (bo : ByteArray) (g : Int) (w : World) : Calls Try.prog 12 #[.agg #[.int .i64 m, .int .i64 ba, .int .i64 la, .string bo], .int .i64 g] w (BSeal (Bu.seal ⟨m, ba, la, bo⟩ g) w) := by
  unfold Bu.seal
  by_cases hb : bo.size = 0
  · rw [if_pos (.inl hb)]
    exact bseal_out m ba la bo g _ rfl w (.inl hb)
  · by_cases h1 : m < 1
    · rw [if_pos (.inr h1)]
      exact bseal_out m ba la bo g _ rfl w (.inr ⟨hb, h1⟩)
    · rw [if_neg (by simp only; omega)]
      cases hm : Bt.may ⟨g, IntKind.i64.wrap (m + 1), ba, bo⟩ with
      | false => simp only [hm]; exact bseal_bad m ba la bo g _ rfl w hb (by omega) hm
      | true => simp only [hm]; exact bseal_ok m ba la bo g _ rfl w hb (by omega) hm
theorem bput_k (m ba la : Int) (bo : ByteArray) (t : Int) (k d : Int) (xs : List Int) (tx : ByteArray) (m' ba' la' : Int) (bo' : ByteArray) (ok : Bool) (h : Bu.put ⟨m, ba, la, bo⟩ t ⟨k, d, xs, tx⟩ = (⟨m', ba', la', bo'⟩, ok)) (A : Option Addr) (c : Nat) (w : World) (hbz : bo.size ≤ 1000000) (hI : IntsAt w (.slice A xs.length c) xs) (hn : xs.length ≤ 1000) (htx : tx.size ≤ 1000000) :
    Calls Try.prog 10 #[.agg #[.int .i64 m, .int .i64 ba, .int .i64 la, .string bo], .int .i64 t, .agg #[.int .i64 k, .int .i64 d, .slice A xs.length c, .string tx]] w fun r w' => r = .returned (.tuple #[.agg #[.int .i64 m', .int .i64 ba', .int .i64 la', .string bo'], .bool ok]) ∧ Ext w w' := by
  have := bput_any m ba la bo t k d xs tx A c w hbz hI hn htx
  rw [h] at this
  exact this
theorem bseal_k (m ba la : Int) (bo : ByteArray) (g : Int) (g' s' b' : Int) (x' : ByteArray) (m' ba' la' : Int) (bo' : ByteArray) (ok : Bool) (h : Bu.seal ⟨m, ba, la, bo⟩ g = (⟨g', s', b', x'⟩, ⟨m', ba', la', bo'⟩, ok)) (w : World) :
    Calls Try.prog 12 #[.agg #[.int .i64 m, .int .i64 ba, .int .i64 la, .string bo], .int .i64 g] w fun r w' => r = .returned (.tuple #[.agg #[.int .i64 g', .int .i64 s', .int .i64 b', .string x'], .agg #[.int .i64 m', .int .i64 ba', .int .i64 la', .string bo'], .bool ok]) ∧ Ext w w' := by
  have := bseal_any m ba la bo g w
  rw [h] at this
  exact this

end Go.Proofs.Ytcdfpifhjjiioaa

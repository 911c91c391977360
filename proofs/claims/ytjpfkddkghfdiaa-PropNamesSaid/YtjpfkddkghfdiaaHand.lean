/- The program's package hand, its parts: digits, classes, runs. Conditions: those that each theorem writes out (lengths that memory can hold). -/
import Derived.Test.YtjpfkddkghfdiaaHandP
import Derived.Test.YtjpfkddkghfdiaaCore
import Derived.Test.YtjpfkddkghfdiaaBytes
import Derived.Test.YtjpfkddkghfdiaaTexts
namespace Go.Proofs.Ytjpfkddkghfdiaa
open Go.RowKit

set_option maxHeartbeats 800000 in
theorem handValue_is (v : Int) (c : Nat) (w : World) (hc : c ≤ 1114111) (h : U.cHexV c = v) :
    Calls Try.prog 45 #[.int .i32 (c : Int)] w fun e w' => e = .returned (.int .i64 v) ∧ w = w' := by
  have H := Lib.hid h
  clear h
  unfold U.cHexV at H
  rcases (show c < 48 ∨ (48 ≤ c ∧ c ≤ 57) ∨ (57 < c ∧ c < 65) ∨ (65 ≤ c ∧ c ≤ 70) ∨ (70 < c ∧ c < 97) ∨ (97 ≤ c ∧ c ≤ 102) ∨ 102 < c from by omega) with g | ⟨g, g2⟩ | ⟨g, g2⟩ | ⟨g, g2⟩ | ⟨g, g2⟩ | ⟨g, g2⟩ | g
  all_goals
    go_enter Try.func45, Try.ntmps45
    go_wp2
    go_ret
    refine ⟨congrArg (fun z : Int => Ending.returned (.int .i64 z)) (?_ : _ = v), rfl⟩
    have H2 := H.out
    repeat' split at H2
    all_goals omega

set_option maxHeartbeats 800000 in
theorem handSuffixed_any (c : Int) (w : World) :
    Calls Try.prog 41 #[.int .u8 c] w fun e w' => e = .returned (.bool (U.sfx c)) ∧ w = w' := by
  cases hu : U.uri c with
  | false =>
    have F := Lib.hid (show U.sfx c = false by unfold U.sfx; rw [hu]; rfl)
    have HU := Lib.hid hu
    clear hu
    go_enter Try.func41, Try.ntmps41
    go_wp2_with fail
    refine (Uri_is false c _ HU.out).mono ?_
    rintro e w1 ⟨rfl, rfl⟩
    go_wp2
    go_ret
    exact ⟨by rw [F.out]; rfl, rfl⟩
  | true =>
    by_cases h33 : c = 33
    · subst h33
      have F := Lib.hid (show U.sfx 33 = false by decide)
      have HU := Lib.hid hu
      clear hu
      go_enter Try.func41, Try.ntmps41
      go_wp2_with fail
      refine (Uri_is true 33 _ HU.out).mono ?_
      rintro e w1 ⟨rfl, rfl⟩
      go_wp2
      go_ret
      exact ⟨by rw [F.out]; rfl, rfl⟩
    · have h33b : (c != 33) = true := by simp [h33]
      have F := Lib.hid (show U.sfx c = !(U.flow c) by unfold U.sfx; rw [hu, decide_eq_false h33]; rfl)
      have HU := Lib.hid hu
      clear hu h33
      go_enter Try.func41, Try.ntmps41
      go_wp2_with fail
      refine (Uri_is true c _ HU.out).mono ?_
      rintro e w1 ⟨rfl, rfl⟩
      go_wp2_with fail
      refine (Flow_any c _).mono ?_
      rintro e w1 ⟨rfl, rfl⟩
      go_wp2
      go_ret
      exact ⟨by rw [F.out]; rfl, rfl⟩
theorem classUri : ClassF 39 U.uri := ⟨Try.call39, Uri_any⟩
theorem classWord : ClassF 40 U.wordc := ⟨Try.call40, Word_any⟩
theorem classSuffixed : ClassF 41 U.sfx := ⟨Try.call41, handSuffixed_any⟩

theorem decode_rune (s : ByteArray) (k : Nat) : (Utf8.decode s k).1 ≤ 1114111 := by
  have h := U.decodeL_scalar (s.data.toList.drop k)
  rw [Lib.decodeL_drop] at h
  unfold U.scalar at h
  rw [decide_eq_true_eq] at h
  omega
/-- A code point that begins with a byte of ASCII is that byte; another one is none of ASCII. -/
theorem decode_low (s : ByteArray) (k : Nat) (h : k < s.size) : (byt s k < 128 ∧ (Utf8.decode s k).1 = byt s k ∧ (Utf8.decode s k).2 = 1) ∨ (128 ≤ byt s k ∧ 128 ≤ (Utf8.decode s k).1) := by
  by_cases ha : byt s k < 128
  · have := decode_ascii s k h ha
    exact .inl ⟨ha, by rw [this], by rw [this]⟩
  · refine .inr ⟨by omega, ?_⟩
    cases hb : U.bad (s.data.toList.drop k) with
    | true => rw [bad_width s k h hb]; omega
    | false =>
      by_cases h1 : (Utf8.decode s k).1 < 128
      · have := (decode13 s k h hb h1).1
        omega
      · omega

set_option maxRecDepth 100000 in
set_option maxHeartbeats 1600000 in
theorem handRun_is {K : FuncId} {p : Int → Bool} (hK : ClassF K p) (hp : ∀ c : Int, p c = true → c < 128) (n : Nat) (s : ByteArray) (w : World) (hs : s.size ≤ 1099511627776) (h : U.tR p 0 s.data.toList = n) :
    Calls Try.prog 38 #[.string s, .func (.func K) #[] #[]] w fun e w' => e = .returned (.int .i64 (n : Int)) ∧ Below w.heap.size w w' := by
  have HQ := Lib.hid h
  have hC := hK.enter
  have hb0 : ∀ pos, Below w.heap.size w (w.iter s pos) := fun pos => (Below.refl _ _).alloc (Nat.le_refl _) _
  clear h
  go_enter Try.func38, Try.ntmps38
  go_wp2
  go_loopw [5, 6] (fun e a w' => ∃ k en aw : Nat, e = .int .i64 (en : Int) ∧ a = .int .i64 (aw : Int) ∧ w' = w.iter s k ∧ k ≤ s.size ∧ aw ≤ 2 ∧ en + U.pend aw = k ∧ Hid (en + U.tR p aw (s.data.toList.drop k) = n)) (fun _ _ w' => s.size - w'.iterPos w.heap.size)
  case atStart => exact ⟨0, 0, 0, rfl, rfl, rfl, Nat.zero_le _, by omega, rfl, by show _ = _; rw [List.drop_zero, HQ.out, Nat.zero_add]⟩
  case round =>
    obtain ⟨k, en, aw, rfl, rfl, rfl, hk, haw, hen, H⟩ := hrel
    by_cases hk2 : k < s.size
    · have hnx : ∀ ty, (Instr.next (.pointer (some ⟨w.heap.size, 0, none⟩)) true ty).run Try.prog (w.iter s k) = _ := fun ty => run_next_any w s k ty hk2
      have hwd := dec_pos s k
      have hle := dec_le s k hk2
      have hxm := decode_rune s k
      obtain ⟨b, hd, hb⟩ := drop_byte s k hk2
      have H2 := H.out
      rw [hd] at H2
      have hlow := decode_low s k hk2
      obtain ⟨x, hx⟩ : ∃ x : Nat, x = (Utf8.decode s k).1 := ⟨_, rfl⟩
      obtain ⟨d, hdd⟩ : ∃ d : Nat, d = (Utf8.decode s k).2 := ⟨_, rfl⟩
      rw [← hx, ← hdd] at hlow
      rw [← hx, ← hdd] at hnx
      rw [← hdd] at hwd hle
      rw [← hx] at hxm
      have HXM := Lib.hid hxm
      clear hx hdd hd H HQ hxm
      rcases hlow with ⟨hl, rfl, rfl⟩ | ⟨hl, hx128⟩
      · rw [← hb] at hl hnx
        obtain ⟨x, hx⟩ : ∃ x : Nat, x = b.toNat := ⟨_, rfl⟩
        rw [← hx] at hl hnx
        clear HXM
        rcases U.three_of aw haw with rfl | rfl | rfl
        · rw [U.tR_zero, ← hx] at H2
          rw [U.pend0, Nat.add_zero] at hen
          subst hen
          cases hpx : p (x : Int) with
          | false =>
            rw [if_neg (by simp [hpx])] at H2
            have F := Lib.hid H2
            have HP := Lib.hid hpx
            clear H2 hpx hb hx
            go_wp2_with fail
            refine (hK.is false _ _ HP.out).mono ?_
            rintro e w1 ⟨rfl, rfl⟩
            go_wp2
            go_ret
            exact ⟨by rw [← F.out]; rfl, hb0 _⟩
          | true =>
            rw [if_pos hpx] at H2
            have HP := Lib.hid hpx
            by_cases h37 : x = 37
            · rw [if_pos h37] at H2
              have F := Lib.hid H2
              subst h37
              clear H2 hpx hb hx
              go_wp2_with fail
              refine (hK.is true _ _ HP.out).mono ?_
              rintro e w1 ⟨rfl, rfl⟩
              go_wp2
              go_roundw
              case rel => exact ⟨en + 1, en, 2, rfl, rfl, rfl, by omega, Nat.le_refl _, rfl, F.out⟩
              case measure => simp; omega
            · rw [if_neg h37] at H2
              have h37b : ((x : Int) == 37) = false := by simp; omega
              have F := Lib.hid H2
              clear H2 hpx hb hx
              go_wp2_with fail
              refine (hK.is true _ _ HP.out).mono ?_
              rintro e w1 ⟨rfl, rfl⟩
              go_wp2
              go_roundw
              case rel => exact ⟨en + 1, en + 1, 0, by go_num, rfl, rfl, by omega, Nat.zero_le _, rfl, by show _ = _; have := F.out; omega⟩
              case measure => simp; omega
        · rw [U.pend1] at hen
          rw [U.tR_one] at H2
          obtain ⟨v, hv⟩ : ∃ v : Int, U.cHexV x = v := ⟨_, rfl⟩
          have hvr := U.hexV_le x
          have hxi := U.hx_iff b
          rw [← hx, hv] at hxi
          rw [hv] at hvr
          have HV := Lib.hid hv
          by_cases hv0 : 0 ≤ v
          · rw [if_pos (hxi.2 hv0)] at H2
            have F := Lib.hid H2
            clear H2 hxi hv hb hx
            go_wp2_with fail
            refine (handValue_is v x _ (by omega) HV.out).mono ?_
            rintro e w1 ⟨rfl, rfl⟩
            go_wp2
            go_roundw
            case rel => exact ⟨k + 1, k + 1, 0, by go_num, rfl, rfl, by omega, Nat.zero_le _, rfl, by show _ = _; have := F.out; omega⟩
            case measure => simp; omega
          · rw [if_neg (fun h => hv0 (hxi.1 h))] at H2
            have F := Lib.hid H2
            clear H2 hxi hv hb hx
            go_wp2_with fail
            refine (handValue_is v x _ (by omega) HV.out).mono ?_
            rintro e w1 ⟨rfl, rfl⟩
            go_wp2
            go_ret
            exact ⟨by rw [← F.out]; rfl, hb0 _⟩
        · rw [U.pend2] at hen
          rw [U.tR_two] at H2
          obtain ⟨v, hv⟩ : ∃ v : Int, U.cHexV x = v := ⟨_, rfl⟩
          have hvr := U.hexV_le x
          have hxi := U.hx_iff b
          rw [← hx, hv] at hxi
          rw [hv] at hvr
          have HV := Lib.hid hv
          by_cases hv0 : 0 ≤ v
          · rw [if_pos (hxi.2 hv0)] at H2
            have F := Lib.hid H2
            clear H2 hxi hv hb hx
            go_wp2_with fail
            refine (handValue_is v x _ (by omega) HV.out).mono ?_
            rintro e w1 ⟨rfl, rfl⟩
            go_wp2
            go_roundw
            case rel => exact ⟨k + 1, en, 1, rfl, rfl, rfl, by omega, by omega, by rw [U.pend1]; omega, F.out⟩
            case measure => simp; omega
          · rw [if_neg (fun h => hv0 (hxi.1 h))] at H2
            have F := Lib.hid H2
            clear H2 hxi hv hb hx
            go_wp2_with fail
            refine (handValue_is v x _ (by omega) HV.out).mono ?_
            rintro e w1 ⟨rfl, rfl⟩
            go_wp2
            go_ret
            exact ⟨by rw [← F.out]; rfl, hb0 _⟩
      · rw [← hb] at hl
        have hv := U.hexV_great x hx128
        rcases U.three_of aw haw with rfl | rfl | rfl
        · have hpb : ¬ (p (b.toNat : Int) = true) := fun h => by have := hp _ h; omega
          rw [U.tR_zero, if_neg hpb] at H2
          have F := Lib.hid H2
          clear H2 hpb hb hv
          go_wp2
          go_ret
          exact ⟨by rw [← F.out]; rfl, hb0 _⟩
        · have hxb : ¬ (U.hx b = true) := fun h => by have := U.hx_range h; omega
          rw [U.tR_one, if_neg hxb] at H2
          have F := Lib.hid H2
          have HV := Lib.hid hv
          clear H2 hxb hb hv
          go_wp2_with fail
          refine (handValue_is (-1) x _ HXM.out HV.out).mono ?_
          rintro e w1 ⟨rfl, rfl⟩
          go_wp2
          go_ret
          exact ⟨by rw [← F.out]; rfl, hb0 _⟩
        · have hxb : ¬ (U.hx b = true) := fun h => by have := U.hx_range h; omega
          rw [U.tR_two, if_neg hxb] at H2
          have F := Lib.hid H2
          have HV := Lib.hid hv
          clear H2 hxb hb hv
          go_wp2_with fail
          refine (handValue_is (-1) x _ HXM.out HV.out).mono ?_
          rintro e w1 ⟨rfl, rfl⟩
          go_wp2
          go_ret
          exact ⟨by rw [← F.out]; rfl, hb0 _⟩
    · have hnx : ∀ ty, (Instr.next (.pointer (some ⟨w.heap.size, 0, none⟩)) true ty).run Try.prog (w.iter s k) = _ := fun ty => run_next_end w s k ty hk2
      have H2 := H.out
      rw [List.drop_eq_nil_of_le (by rw [← Lib.size_eq]; omega), U.tR_nil] at H2
      have F := Lib.hid (show en = n by omega)
      clear H2
      go_wp2
      go_ret
      exact ⟨by rw [← F.out]; rfl, hb0 k⟩

end Go.Proofs.Ytjpfkddkghfdiaa

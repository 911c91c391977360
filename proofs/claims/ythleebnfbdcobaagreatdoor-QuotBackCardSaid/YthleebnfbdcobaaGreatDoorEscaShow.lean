/- The program's 'Show' and what it calls: what each returns. Conditions: those that each theorem writes out (how great a number; what two of the library's variables hold). -/
import Derived.Test.YthleebnfbdcobaaGreatDoorEscaHex
import Derived.Test.YthleebnfbdcobaaGreatDoorLawsA
import Derived.WalkMore
namespace Go.Proofs.YthleebnfbdcobaaGreatDoor
open Go.RowKit

set_option maxRecDepth 100000 in
set_option maxHeartbeats 4000000 in
theorem numbered_is (u : Nat) (h0 : u ≤ 1114111) (a : Int) (ha : a = (u : Int)) (out : List UInt8) (ho : U.numd u = out) (w : World) (hE : Env w) :
    Calls Tryz.prog 25 #[.int .i32 a] w fun e w' => e = .returned (.string ⟨out.toArray⟩) ∧ Below w.heap.size w w' := by
  have a0 : 0 ≤ a := by omega
  have a1 : a ≤ 1114111 := by omega
  have HA := Lib.hid ha
  have HU := Lib.hid h0
  unfold U.numd at ho
  by_cases h1 : u ≤ 255
  · rw [if_pos h1] at ho
    obtain ⟨hx, hhx⟩ : ∃ hx, hx = U.hexM 2 u := ⟨_, rfl⟩
    have hxl : hx.length = 2 := by rw [hhx, U.hexM_length]
    rw [← hhx] at ho
    have HX := Lib.hid hhx
    clear hhx
    have HO := Lib.hid ho
    have H1 := Lib.hid h1
    have g1 : a ≤ 255 := by omega
    clear ho h1 h0 ha
    go_enter Tryz.func25, Tryz.ntmps25
    go_wp2_with (go_at_call 45; refine (hexadecimal_is u 2 HU.out (by have := H1.out; omega) (by decide) (by decide) a _ HA.out rfl hx HX.out.symm w hE).mono ?_; rintro e w1 ⟨rfl, b1⟩)
    go_ret
    refine ⟨congrArg (fun d : Array UInt8 => Ending.returned (.string ⟨d⟩)) (?_ : _ = out.toArray), b1⟩
    rw [← HO.out]
    first | rfl | simp
  · by_cases h2 : u ≤ 65535
    · rw [if_neg h1, if_pos h2] at ho
      obtain ⟨hx, hhx⟩ : ∃ hx, hx = U.hexM 4 u := ⟨_, rfl⟩
      have hxl : hx.length = 4 := by rw [hhx, U.hexM_length]
      rw [← hhx] at ho
      have HX := Lib.hid hhx
      clear hhx
      have HO := Lib.hid ho
      have H1 := Lib.hid h2
      have g1 : 255 < a := by omega
      have g2 : a ≤ 65535 := by omega
      clear ho h1 h2 h0 ha
      go_enter Tryz.func25, Tryz.ntmps25
      go_wp2_with (go_at_call 45; refine (hexadecimal_is u 4 HU.out (by have := H1.out; omega) (by decide) (by decide) a _ HA.out rfl hx HX.out.symm w hE).mono ?_; rintro e w1 ⟨rfl, b1⟩)
      go_ret
      refine ⟨congrArg (fun d : Array UInt8 => Ending.returned (.string ⟨d⟩)) (?_ : _ = out.toArray), b1⟩
      rw [← HO.out]
      first | rfl | simp
    · rw [if_neg h1, if_neg h2] at ho
      obtain ⟨hx, hhx⟩ : ∃ hx, hx = U.hexM 8 u := ⟨_, rfl⟩
      have hxl : hx.length = 8 := by rw [hhx, U.hexM_length]
      rw [← hhx] at ho
      have HX := Lib.hid hhx
      clear hhx
      have HO := Lib.hid ho
      have g1 : 255 < a := by omega
      have g2 : 65535 < a := by omega
      clear ho h1 h2 h0 ha
      go_enter Tryz.func25, Tryz.ntmps25
      go_wp2_with (go_at_call 45; refine (hexadecimal_is u 8 HU.out (by have := HU.out; omega) (by decide) (by decide) a _ HA.out rfl hx HX.out.symm w hE).mono ?_; rintro e w1 ⟨rfl, b1⟩)
      go_ret
      refine ⟨congrArg (fun d : Array UInt8 => Ending.returned (.string ⟨d⟩)) (?_ : _ = out.toArray), b1⟩
      rw [← HO.out]
      first | rfl | simp

/-! ### strings.IndexRune at the code points that have a letter -/
/-- The code points that have a letter. -/
def pointS : ByteArray := ⟨#[0, 7, 8, 9, 10, 11, 12, 13, 27, 34, 92]⟩
theorem enc_last (r : Int) (h1 : 128 ≤ r) (hs : U.scalar r = true) : ∃ (n : Nat) (x : Nat), (Utf8.encode r).size = n + 1 ∧ 1 ≤ n ∧ n ≤ 3 ∧ byt (Utf8.encode r) n = x ∧ 128 ≤ x ∧ x < 256 := by
  have hl : (Utf8.encode r).size = (Lib.encodeRune r).length := by rw [Lib.size_eq, U.encode_eq]
  have h2 := U.encode_length r
  have h3 : 2 ≤ (Lib.encodeRune r).length := by
    have hr := U.scalar_range hs
    unfold Lib.encodeRune
    by_cases g2 : 128 ≤ r ∧ r ≤ 2047
    · rw [Lib.encodeRuneZ_two g2.1 g2.2]; simp
    · by_cases g3 : (2048 ≤ r ∧ r < 55296) ∨ (57343 < r ∧ r ≤ 65535)
      · rw [Lib.encodeRuneZ_three g3]; simp
      · rw [Lib.encodeRuneZ_four (by omega) (by omega)]; simp
  refine ⟨(Utf8.encode r).size - 1, _, by omega, by omega, by omega, rfl, ?_, byt_lt _ _⟩
  obtain ⟨b, hd, hb⟩ := dropE (Utf8.encode r) ((Utf8.encode r).size - 1) (by omega)
  rw [← hb]
  apply U.encode_high (r := r) (by omega)
  rw [← U.encode_eq]
  have : b ∈ (Utf8.encode r).data.toList.drop ((Utf8.encode r).size - 1) := by rw [hd]; simp
  exact List.mem_of_mem_drop this
theorem no_high : ∀ n x : Nat, 1 ≤ n → n ≤ 3 → 128 ≤ x → x < 256 → Lib.indexByte (pointS.extract (n + 1) 11).data.toList (x : Int).toNat.toUInt8 = -1 := by
  intro n x h1 h2 h3 h4
  have H : ∀ (n : Fin 4) (x : Fin 256), 128 ≤ x.val → Lib.indexByte (pointS.extract (n.val + 1) 11).data.toList ((x.val : Nat) : Int).toNat.toUInt8 = -1 := by decide +kernel
  exact H ⟨n, by omega⟩ ⟨x, h4⟩ h3
theorem IndexByte_is' (i : Int) (s : ByteArray) (c : Int) (w : World) (h : Lib.indexByte s.data.toList c.toNat.toUInt8 = i) :
    Calls Tryz.prog 42 #[.string s, .int .u8 c] w fun e w' => e = .returned (.int .i64 i) ∧ w' = w := by
  subst h
  exact Tryz.strings_IndexByte s c w
set_option maxRecDepth 100000 in
set_option maxHeartbeats 4000000 in
theorem IndexRune_high (r : Int) (h1 : 128 ≤ r) (h2 : r ≠ 65533) (hs : U.scalar r = true) (w : World) :
    Calls Tryz.prog 23 #[.string ⟨#[0, 7, 8, 9, 10, 11, 12, 13, 27, 34, 92]⟩, .int .i32 r] w fun e w' => e = .returned (.int .i64 (-1)) ∧ Below w.heap.size w w' := by
  obtain ⟨n, x, hsz, n1, n3, hx, x1, x2⟩ := enc_last r h1 hs
  have h65 : (r == 65533) = false := by simp [h2]
  have hix := run_byt (Utf8.encode r) n (by omega) (n : Int) rfl
  rw [hx] at hix
  have hne : ∃ c : Nat, byt pointS n = c ∧ c < 128 := by
    have H : ∀ m : Fin 4, byt pointS m.val < 128 := by decide +kernel
    exact ⟨_, rfl, H ⟨n, by omega⟩⟩
  obtain ⟨c, hc, hc2⟩ := hne
  have hiy := run_byt pointS n (by have : pointS.size = 11 := rfl; omega) (n : Int) rfl
  rw [hc] at hiy
  unfold pointS at hiy
  have hcx : (((c : Nat) : Int) != ((x : Nat) : Int)) = true := by simp; omega
  have hno := no_high n x n1 n3 x1 x2
  have HN := Lib.hid hno
  have HS := Lib.hid hs
  obtain ⟨S, hS⟩ : ∃ S, S = Utf8.encode r := ⟨_, rfl⟩
  rw [← hS] at hsz hix
  have hcv : ∀ W, (convert 21 9 (.int .i32 r)).run Tryz.prog W = .ok (.string S) W := fun W => by
    rw [run_convert_int_string W 21 9 .i32 r (by rw [Tryz.underlying21]; rfl) Tryz.underlying9, hS]
  have e1 : ((S.size : Nat) : Int) - 1 = (n : Int) := by omega
  have hsz2 : (S.size : Int) = (n : Int) + 1 := by omega
  clear hx hc hno hs h2 hS hc2 hsz
  go_enter Tryz.func23, Tryz.ntmps23
  go_wp2_with (go_at_call 22; refine (Valid_is true _ _ HS.out).mono ?_; rintro e w' ⟨rfl, rfl⟩)
  go_step3
  go_wp2
  refine wp_loop_rounds 1 ?_
  rw [rounds_succ]
  go_wp2
  go_step3
  go_wp2_with fail
  go_quiet (fail)
  go_wp2_with fail
  go_quiet (first | exact (IndexByte_is' (-1) _ _ _ HN.out).mono (by rintro e w' ⟨rfl, rfl⟩; exact ⟨rfl, _, rfl⟩))
  go_wp2
  rw [Exit.noGoto_ret]
  go_wp2
  rw [Exit.noGoto_ret]
  go_wp2
  go_ret
  exact ⟨rfl, below_drewN (Below.refl _ w) _⟩

set_option maxRecDepth 100000 in
set_option maxHeartbeats 4000000 in
theorem IndexRune_fffd (w : World) :
    Calls Tryz.prog 23 #[.string ⟨#[0, 7, 8, 9, 10, 11, 12, 13, 27, 34, 92]⟩, .int .i32 65533] w fun e w' => e = .returned (.int .i64 (-1)) ∧ Below w.heap.size w w' := by
  have hb0 : ∀ pos, Below w.heap.size w (w.iter pointS pos) := fun pos => (Below.refl _ _).alloc (Nat.le_refl _) _
  have hps : pointS.size = 11 := rfl
  have hdec : ∀ pos, pos < 11 → (Utf8.decode pointS pos).2 = 1 ∧ (((Utf8.decode pointS pos).1 : Int) == 65533) = false := by
    have H : ∀ p : Fin 11, (Utf8.decode pointS p.val).2 = 1 ∧ (((Utf8.decode pointS p.val).1 : Int) == 65533) = false := by decide +kernel
    exact fun pos h => H ⟨pos, h⟩
  obtain ⟨s, hs⟩ : ∃ s, s = pointS := ⟨_, rfl⟩
  have hlit : (⟨#[0, 7, 8, 9, 10, 11, 12, 13, 27, 34, 92]⟩ : ByteArray) = s := hs.symm
  rw [hlit]
  rw [← hs] at hb0 hps hdec
  clear hs hlit
  go_enter Tryz.func23, Tryz.ntmps23
  go_wp2
  go_loopw [5, 6] (fun _ _ w' => ∃ pos : Nat, w' = w.iter s pos) (fun _ _ w' => s.size - w'.iterPos w.heap.size)
  case atStart => exact ⟨0, rfl⟩
  case round =>
    obtain ⟨pos, rfl⟩ := hrel
    by_cases hp : pos < s.size
    · have hnx : ∀ ty, (Instr.next (.pointer (some ⟨w.heap.size, 0, none⟩)) true ty).run Tryz.prog (w.iter s pos) = _ := fun ty => run_next_any w s pos ty hp
      obtain ⟨h1, h2⟩ := hdec pos (by omega)
      rw [h1] at hnx
      clear hdec h1
      go_wp2
      go_roundw
      case rel => exact ⟨_, rfl⟩
      case measure => simp; omega
    · have hnx : ∀ ty, (Instr.next (.pointer (some ⟨w.heap.size, 0, none⟩)) true ty).run Tryz.prog (w.iter s pos) = _ := fun ty => run_next_end w s pos ty hp
      go_wp2
      go_ret
      exact ⟨rfl, hb0 pos⟩

theorem IndexRune_low (i : Int) (s : ByteArray) (r : Int) (w : World) (h0 : 0 ≤ r) (h1 : r < 128) (h : Lib.indexByte s.data.toList r.toNat.toUInt8 = i) :
    Calls Tryz.prog 23 #[.string s, .int .i32 r] w fun e w' => e = .returned (.int .i64 i) ∧ Below w.heap.size w w' := by
  subst h
  refine (Tryz.strings_IndexRune_ascii s r w h0 h1).mono ?_
  rintro e w' ⟨rfl, rfl⟩
  exact ⟨rfl, Below.refl _ _⟩
theorem lett_low : ∀ u, u < 128 → U.lett ((u : Nat) : Int) = none → Lib.indexByte [0, 7, 8, 9, 10, 11, 12, 13, 27, 34, 92] ((u : Nat) : Int).toNat.toUInt8 = -1 := by
  intro u hu
  have H : ∀ x : Fin 128, U.lett ((x.val : Nat) : Int) = none → Lib.indexByte [0, 7, 8, 9, 10, 11, 12, 13, 27, 34, 92] ((x.val : Nat) : Int).toNat.toUInt8 = -1 := by decide +kernel
  exact H ⟨u, hu⟩
theorem IndexRune_none (r : Int) (hs : U.scalar r = true) (hn : U.lett r = none) (w : World) :
    Calls Tryz.prog 23 #[.string ⟨#[0, 7, 8, 9, 10, 11, 12, 13, 27, 34, 92]⟩, .int .i32 r] w fun e w' => e = .returned (.int .i64 (-1)) ∧ Below w.heap.size w w' := by
  have hr := U.scalar_range hs
  by_cases h1 : r < 128
  · obtain ⟨u, rfl⟩ : ∃ u : Nat, r = (u : Int) := ⟨r.toNat, by omega⟩
    exact IndexRune_low (-1) _ _ w hr.1 h1 (lett_low u (by omega) hn)
  · by_cases h2 : r = 65533
    · subst h2; exact IndexRune_fffd w
    · exact IndexRune_high r (by omega) h2 hs w

/-! ### Show -/
set_option maxRecDepth 100000 in
set_option maxHeartbeats 4000000 in
theorem Show_bad (r : Int) (h : U.scalar r = false) (w : World) :
    Calls Tryz.prog 13 #[.int .i32 r] w fun e w' => e = .returned (.string ⟨(U.shw r).toArray⟩) ∧ Below w.heap.size w w' := by
  have ho : U.text [65533] = U.shw r := by
    unfold U.shw U.fix
    rw [h, if_neg (by simp)]
    decide +kernel
  have HO := Lib.hid ho
  have HS := Lib.hid h
  have hp : U.prn 65533 = true := by decide
  clear ho h
  go_enter Tryz.func13, Tryz.ntmps13
  go_wp2_with (go_at_call 22; refine (Valid_is false _ _ HS.out).mono ?_; rintro e w' ⟨rfl, rfl⟩; refine Hid.out ?_)
  refine Lib.hid ?_
  go_wp2_with fail
  refine (IndexRune_fffd w).mono ?_
  rintro e w1 ⟨rfl, b1⟩
  go_wp2_with fail
  refine (Printable_is true _ _ hp).mono ?_
  rintro e w' ⟨rfl, rfl⟩
  go_wp2_with fail
  refine (Text_is _ [65533] _ _ ((Is32_new w1 [65533] (by decide)).mono (by simp)) HO.out).mono ?_
  rintro e w2 ⟨rfl, rfl⟩
  go_wp2
  go_ret
  exact ⟨rfl, b1.alloc b1.size _⟩

set_option maxRecDepth 100000 in
set_option maxHeartbeats 4000000 in
theorem Show_lett (r : Int) (c : Nat) (hc : U.lett r = some c) (w : World) :
    Calls Tryz.prog 13 #[.int .i32 r] w fun e w' => e = .returned (.string ⟨([92, c.toUInt8] : List UInt8).toArray⟩) ∧ Below w.heap.size w w' := by
  rcases U.lett_cases hc with ⟨rfl, rfl⟩ | ⟨rfl, rfl⟩ | ⟨rfl, rfl⟩ | ⟨rfl, rfl⟩ | ⟨rfl, rfl⟩ | ⟨rfl, rfl⟩ | ⟨rfl, rfl⟩ | ⟨rfl, rfl⟩ | ⟨rfl, rfl⟩ | ⟨rfl, rfl⟩ | ⟨rfl, rfl⟩
  all_goals
    clear hc
    go_enter Tryz.func13, Tryz.ntmps13
    go_wp2_with (first | (go_at_call 22; refine (Valid_is true _ _ (by decide)).mono ?_; rintro e w' ⟨rfl, rfl⟩) | (go_at_call 23; (first | (refine (IndexRune_low 0 _ _ _ (by decide) (by decide) (by decide)).mono ?_) | (refine (IndexRune_low 1 _ _ _ (by decide) (by decide) (by decide)).mono ?_) | (refine (IndexRune_low 2 _ _ _ (by decide) (by decide) (by decide)).mono ?_) | (refine (IndexRune_low 3 _ _ _ (by decide) (by decide) (by decide)).mono ?_) | (refine (IndexRune_low 4 _ _ _ (by decide) (by decide) (by decide)).mono ?_) | (refine (IndexRune_low 5 _ _ _ (by decide) (by decide) (by decide)).mono ?_) | (refine (IndexRune_low 6 _ _ _ (by decide) (by decide) (by decide)).mono ?_) | (refine (IndexRune_low 7 _ _ _ (by decide) (by decide) (by decide)).mono ?_) | (refine (IndexRune_low 8 _ _ _ (by decide) (by decide) (by decide)).mono ?_) | (refine (IndexRune_low 9 _ _ _ (by decide) (by decide) (by decide)).mono ?_) | (refine (IndexRune_low 10 _ _ _ (by decide) (by decide) (by decide)).mono ?_)); rintro e w1 ⟨rfl, b1⟩))
    go_ret
    exact ⟨rfl, b1⟩

set_option maxRecDepth 100000 in
set_option maxHeartbeats 4000000 in
theorem Show_self (r : Int) (hs : U.scalar r = true) (hn : U.lett r = none) (hp : U.prn r = true) (w : World) :
    Calls Tryz.prog 13 #[.int .i32 r] w fun e w' => e = .returned (.string ⟨(Lib.encodeRune r).toArray⟩) ∧ Below w.heap.size w w' := by
  have ho : U.text [r] = Lib.encodeRune r := by simp [U.text]
  have HO := Lib.hid ho
  have HS := Lib.hid hs
  have HP := Lib.hid hp
  have HN := Lib.hid hn
  clear ho hs hp hn
  go_enter Tryz.func13, Tryz.ntmps13
  go_wp2_with (go_at_call 22; refine (Valid_is true _ _ HS.out).mono ?_; rintro e w' ⟨rfl, rfl⟩; refine Hid.out ?_)
  refine Lib.hid ?_
  go_wp2_with fail
  refine (IndexRune_none r HS.out HN.out w).mono ?_
  rintro e w1 ⟨rfl, b1⟩
  go_wp2_with fail
  refine (Printable_is true _ _ HP.out).mono ?_
  rintro e w' ⟨rfl, rfl⟩
  go_wp2_with fail
  refine (Text_is _ [r] _ _ ((Is32_new w1 [r] (by simp [maxLen])).mono (by simp)) HO.out).mono ?_
  rintro e w2 ⟨rfl, rfl⟩
  go_wp2
  go_ret
  exact ⟨rfl, b1.alloc b1.size _⟩

set_option maxRecDepth 100000 in
set_option maxHeartbeats 4000000 in
theorem Show_num (r : Int) (hs : U.scalar r = true) (hn : U.lett r = none) (hp : U.prn r = false) (w : World) (hE : Env w) :
    Calls Tryz.prog 13 #[.int .i32 r] w fun e w' => e = .returned (.string ⟨(U.numd r.toNat).toArray⟩) ∧ Below w.heap.size w w' := by
  have hr := U.scalar_range hs
  have hu : r = (r.toNat : Int) := by omega
  have hu2 : r.toNat ≤ 1114111 := by omega
  have HU := Lib.hid hu
  have HU2 := Lib.hid hu2
  have HS := Lib.hid hs
  have HP := Lib.hid hp
  have HN := Lib.hid hn
  clear hs hp hn hu hu2
  go_enter Tryz.func13, Tryz.ntmps13
  go_wp2_with (go_at_call 22; refine (Valid_is true _ _ HS.out).mono ?_; rintro e w' ⟨rfl, rfl⟩; refine Hid.out ?_)
  refine Lib.hid ?_
  go_wp2_with fail
  refine (IndexRune_none r HS.out HN.out w).mono ?_
  rintro e w1 ⟨rfl, b1⟩
  go_wp2_with fail
  refine (Printable_is false _ _ HP.out).mono ?_
  rintro e w' ⟨rfl, rfl⟩
  go_wp2_with fail
  refine (numbered_is r.toNat HU2.out r HU.out _ rfl w1 (hE.below b1)).mono ?_
  rintro e w2 ⟨rfl, b2⟩
  go_wp2
  go_ret
  exact ⟨rfl, b1.trans (b2.mono b1.size)⟩

theorem Show_is (out : List UInt8) (r : Int) (h : U.shw r = out) (w : World) (hE : Env w) :
    Calls Tryz.prog 13 #[.int .i32 r] w fun e w' => e = .returned (.string ⟨out.toArray⟩) ∧ Below w.heap.size w w' := by
  subst h
  cases hs : U.scalar r with
  | false => exact Show_bad r hs w
  | true =>
    unfold U.shw U.shc
    rw [U.fix_of hs]
    cases hl : U.lett r with
    | some c => exact Show_lett r c hl w
    | none =>
      dsimp only
      cases hp : U.prn r with
      | true => rw [if_pos rfl]; exact Show_self r hs hl hp w
      | false => rw [if_neg (by simp)]; exact Show_num r hs hl hp w hE

end Go.Proofs.YthleebnfbdcobaaGreatDoor

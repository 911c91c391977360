/- The program's package hand: a suffix decoded, and a tag's full form. Conditions: those that each theorem writes out (lengths that memory can hold). -/
import Derived.Test.YtcmfnfiggehllaaHand3
namespace Go.Proofs.Ytcmfnfiggehllaa
open Go.RowKit

theorem tDs_any (v : Nat) (l : List UInt8) : U.tDs 0 v l = U.tDs 0 0 l := by
  cases l <;> rfl
theorem byte_toNat (n : Nat) (h : n ≤ 255) : ((UInt8.ofNat n).toNat : Int) = (n : Int) := by
  rw [UInt8.toNat_ofNat']; omega

set_option maxRecDepth 100000 in
set_option maxHeartbeats 4000000 in
theorem handDecoded_is (D : List UInt8) (s : ByteArray) (w : World) (hs : s.size ≤ 1099511627775) (hok : U.tR U.sfx 0 s.data.toList = s.size) (h : U.tDs 0 0 s.data.toList = D) :
    Calls Try.prog 20 #[.string s] w fun e w' => e = .returned (.string ⟨D.toArray⟩) ∧ Below w.heap.size w w' := by
  have HQ := Lib.hid h
  have HK := Lib.hid hok
  clear h hok
  have hb0 : Below w.heap.size w (w.iter s 0) := (Below.refl _ _).alloc (Nat.le_refl _) _
  go_enter Try.func20, Try.ntmps20
  go_wp2
  go_loopw [3, 4, 5] (fun bv nv av wr => ∃ (k aw num : Nat) (l : List UInt8), nv = .int .i64 (num : Int) ∧ av = .int .i64 (aw : Int) ∧ wr.heap[w.heap.size]? = some (.stringIter s k) ∧ Out8 (w.heap.size + 1) wr bv l ∧ Below w.heap.size w wr ∧ w.heap.size < wr.heap.size ∧ k ≤ s.size ∧ aw ≤ 2 ∧ l.length ≤ k ∧ (aw = 2 → num = 0) ∧ (aw = 1 → num ≤ 15) ∧ Hid (U.tR U.sfx aw (s.data.toList.drop k) = s.size - k + U.pend aw ∧ l ++ U.tDs aw num (s.data.toList.drop k) = D)) (fun _ _ _ wr => s.size - wr.iterPos w.heap.size)
  case atStart => exact ⟨0, 0, 0, [], rfl, rfl, World.iter_heap _ _ _, World.ownsRow_nil _ _ _ _, hb0, by simp [World.iter], Nat.zero_le _, by omega, Nat.le_refl _, by omega, by omega, HK.out, HQ.out⟩
  case round =>
    obtain ⟨k, aw, num, l, rfl, rfl, hit, hown, hbw, hsz, hk, haw, hll, hn2, hn1, H⟩ := hrel
    have hpos0 := iterPos_of hit
    by_cases hk2 : k < s.size
    · have hnx : ∀ ty, (Instr.next (.pointer (some ⟨w.heap.size, 0, none⟩)) true ty).run Try.prog wr = _ := fun ty => Lib.run_next_any_at wr w.heap.size s k ty hit hk2
      have hwd := dec_pos s k
      have hle := dec_le s k hk2
      obtain ⟨b, hd, hb⟩ := drop_byte s k hk2
      have H2 := H.out
      rw [hd] at H2
      have hlow := decode_low s k hk2
      have hit2 := Lib.iterAt_heap wr w.heap.size s k (k + (Utf8.decode s k).2) hit
      have hbw2 := Lib.below_iterAt hbw (k := w.heap.size) (by omega) s (k + (Utf8.decode s k).2)
      have hown2 : Out8 (w.heap.size + 1) (wr.iterAt w.heap.size s (k + (Utf8.decode s k).2)) _ l := ownsRow_iter hown hit (k + (Utf8.decode s k).2)
      have hsz2 : w.heap.size < (wr.iterAt w.heap.size s (k + (Utf8.decode s k).2)).heap.size := by rw [Lib.iterAt_size]; exact hsz
      obtain ⟨W1, hW1⟩ : ∃ W1, W1 = wr.iterAt w.heap.size s (k + (Utf8.decode s k).2) := ⟨_, rfl⟩
      rw [← hW1] at hnx hit2 hbw2 hown2 hsz2
      obtain ⟨x, hx⟩ : ∃ x : Nat, x = (Utf8.decode s k).1 := ⟨_, rfl⟩
      obtain ⟨d, hdd⟩ : ∃ d : Nat, d = (Utf8.decode s k).2 := ⟨_, rfl⟩
      rw [← hx, ← hdd] at hlow
      rw [← hx] at hnx
      rw [← hdd] at hwd hle hit2
      have hlow2 : x = b.toNat ∧ d = 1 ∧ x < 128 ∧ (aw = 0 → U.sfx (x : Int) = true) ∧ (aw ≠ 0 → U.hx b = true) := by
        have hlt : b.toNat < 128 → x = b.toNat ∧ d = 1 ∧ x < 128 := fun h => by
          rcases hlow with ⟨h1, h2, h3⟩ | ⟨h1, _⟩
          · exact ⟨by omega, h3, by omega⟩
          · omega
        rcases U.three_of aw haw with rfl | rfl | rfl
        · have h1 := H2.1
          rw [U.tR_zero, U.pend0] at h1
          split at h1
          · rename_i hp
            have := U.sfx_ascii hp
            obtain ⟨e1, e2, e3⟩ := hlt (by omega)
            exact ⟨e1, e2, e3, fun _ => by rw [e1]; exact hp, fun h => absurd rfl h⟩
          · omega
        · have h1 := H2.1
          rw [U.tR_one, U.pend1] at h1
          split at h1
          · rename_i hp
            have := U.hx_range hp
            obtain ⟨e1, e2, e3⟩ := hlt (by omega)
            exact ⟨e1, e2, e3, fun h => by omega, fun _ => hp⟩
          · omega
        · have h1 := H2.1
          rw [U.tR_two, U.pend2] at h1
          split at h1
          · rename_i hp
            have := U.hx_range hp
            obtain ⟨e1, e2, e3⟩ := hlt (by omega)
            exact ⟨e1, e2, e3, fun h => by omega, fun _ => hp⟩
          · omega
      obtain ⟨hxb, rfl, hx128, hsf, hhx⟩ := hlow2
      have HXB := Lib.hid hxb
      clear hW1 hit hown hbw hsz hx hdd hlow hd hb hb0 HQ HK H hxb hwd
      rcases U.three_of aw haw with rfl | rfl | rfl
      · have hsf2 := hsf rfl
        have H3 := H2
        rw [U.tR_zero, ← HXB.out, if_pos hsf2, U.tDs_zero, ← HXB.out] at H3
        clear hsf hhx hn1 hn2 H2 hsf2
        by_cases h37 : x = 37
        · rw [if_pos h37, if_pos h37] at H3
          have F := Lib.hid H3
          subst h37
          clear H3
          go_wp2
          go_roundw
          case rel => exact ⟨k + 1, 2, 0, l, rfl, rfl, hit2, hown2, hbw2, hsz2, by omega, Nat.le_refl _, by omega, fun _ => rfl, by omega, by have := F.out.1; rw [U.pend0] at this; rw [U.pend2]; omega, F.out.2⟩
          case measure => rw [iterPos_of hit2, hpos0]; omega
        · rw [if_neg h37, if_neg h37] at H3
          have F := Lib.hid H3
          have h37b : ((x : Int) == 37) = false := by simp; omega
          clear H3 h37
          go_wp2_with (at_builtin; refine append8b rfl _ _ rfl (w.heap.size + 1) _ l b ⟨W1.heap.size, 0, none⟩ 1 rfl rfl (by rw [World.cell?_alloc_mark]; show some (Value.int .u8 ((x : Nat) : Int)) = _; rw [HXB.out]) (hown2.alloc _) (by omega) (by simp; omega) ?_; intro v3 w3 o3 g3)
          have hit3 : w3.heap[w.heap.size]? = some (.stringIter s (k + 1)) := by
            rw [g3.block w.heap.size (by simp; omega) (fun h => by have := (hown2.lt w.heap.size h.symm).1; omega), Below.heap_alloc _ _ _ (by omega)]
            exact hit2
          have hbw3 : Below w.heap.size w w3 := Below.grown (hbw2.alloc (by omega) _) g3 (by simp; omega) (fun k hk => by have := (hown2.lt k hk).1; omega)
          have hsz3 : w.heap.size < w3.heap.size := by have := g3.size; simp at this; omega
          go_roundw
          case rel => exact ⟨k + 1, 0, x, l ++ [b], rfl, rfl, hit3, o3, hbw3, hsz3, by omega, by omega, by rw [List.length_append, List.length_singleton]; omega, by omega, by omega, by have := F.out.1; rw [U.pend0] at this ⊢; omega, by rw [tDs_any, List.append_assoc]; exact F.out.2⟩
          case measure => rw [iterPos_of hit3, hpos0]; omega
      · have hhx2 := hhx (by omega)
        have hn := hn1 rfl
        have H3 := H2
        rw [U.tR_one, if_pos hhx2, U.tDs_one, ← HXB.out] at H3
        rw [U.hx_iff, ← HXB.out] at hhx2
        have hvr := U.hexV_le x
        obtain ⟨v, hv⟩ : ∃ v : Nat, U.cHexV x = (v : Int) := ⟨(U.cHexV x).toNat, by omega⟩
        rw [hv, Int.toNat_natCast] at H3
        rw [hv] at hvr
        have hv15 : v ≤ 15 := by omega
        have HV := Lib.hid hv
        have F := Lib.hid H3
        clear H2 H3 hsf hhx hhx2 hv hvr hn1 hn2
        go_wp2_with fail
        refine (handValue_is v x _ (by omega) HV.out).mono ?_
        rintro e w1 ⟨rfl, rfl⟩
        go_wp2_with (at_builtin; refine append8b rfl _ _ rfl (w.heap.size + 1) _ l (UInt8.ofNat (num * 16 + v)) ⟨W1.heap.size, 0, none⟩ 1 rfl rfl (by rw [World.cell?_alloc_mark]; show some (Value.int .u8 ((num : Int) * 16 + (v : Int))) = _; rw [byte_toNat _ (by omega)]; rfl) (hown2.alloc _) (by omega) (by simp; omega) ?_; intro v3 w3 o3 g3)
        have hit3 : w3.heap[w.heap.size]? = some (.stringIter s (k + 1)) := by
          rw [g3.block w.heap.size (by simp; omega) (fun h => by have := (hown2.lt w.heap.size h.symm).1; omega), Below.heap_alloc _ _ _ (by omega)]
          exact hit2
        have hbw3 : Below w.heap.size w w3 := Below.grown (hbw2.alloc (by omega) _) g3 (by simp; omega) (fun k hk => by have := (hown2.lt k hk).1; omega)
        have hsz3 : w.heap.size < w3.heap.size := by have := g3.size; simp at this; omega
        go_roundw
        case rel => exact ⟨k + 1, 0, num * 16 + v, l ++ [UInt8.ofNat (num * 16 + v)], rfl, rfl, hit3, o3, hbw3, hsz3, by omega, by omega, by rw [List.length_append, List.length_singleton]; omega, by omega, by omega, by have := F.out.1; rw [U.pend1] at this; rw [U.pend0]; omega, by rw [tDs_any, List.append_assoc]; exact F.out.2⟩
        case measure => rw [iterPos_of hit3, hpos0]; omega
      · have hhx2 := hhx (by omega)
        obtain rfl := hn2 rfl
        have H3 := H2
        rw [U.tR_two, if_pos hhx2, U.tDs_two, ← HXB.out] at H3
        rw [U.hx_iff, ← HXB.out] at hhx2
        have hvr := U.hexV_le x
        obtain ⟨v, hv⟩ : ∃ v : Nat, U.cHexV x = (v : Int) := ⟨(U.cHexV x).toNat, by omega⟩
        rw [hv, Int.toNat_natCast, Nat.zero_mul, Nat.zero_add] at H3
        rw [hv] at hvr
        have hv15 : v ≤ 15 := by omega
        have HV := Lib.hid hv
        have F := Lib.hid H3
        clear H2 H3 hsf hhx hhx2 hv hvr hn1 hn2
        go_wp2_with fail
        refine (handValue_is v x _ (by omega) HV.out).mono ?_
        rintro e w1 ⟨rfl, rfl⟩
        go_wp2
        go_roundw
        case rel => exact ⟨k + 1, 1, v, l, by go_num, rfl, hit2, hown2, hbw2, hsz2, by omega, by omega, by omega, by omega, fun _ => hv15, by have := F.out.1; rw [U.pend2] at this; rw [U.pend1]; omega, F.out.2⟩
        case measure => rw [iterPos_of hit2, hpos0]; omega
    · have hnx : ∀ ty, (Instr.next (.pointer (some ⟨w.heap.size, 0, none⟩)) true ty).run Try.prog wr = _ := fun ty => Lib.run_next_end_at wr w.heap.size s k ty hit hk2
      have H2 := H.out
      rw [List.drop_eq_nil_of_le (by rw [← Lib.size_eq]; omega), U.tR_nil, U.tDs_nil, List.append_nil] at H2
      obtain ⟨e1, rfl⟩ := H2
      clear H HQ e1 hn1 hn2
      have hcv := conv8 hown.is
      go_wp2
      go_ret
      exact ⟨rfl, hbw⟩

end Go.Proofs.Ytcmfnfiggehllaa

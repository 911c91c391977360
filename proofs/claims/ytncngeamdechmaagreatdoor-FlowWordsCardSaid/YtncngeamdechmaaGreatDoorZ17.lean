/- Parts of the proof, put together from smaller texts (blanks that Lean does not want are struck). Conditions: those that each theorem writes out. -/
import Derived.Deep.AppendLies
import Derived.OneCell
import Derived.Shelf.Strings.BuilderK
import Derived.Test.YtncngeamdechmaaGreatDoorZ00
import Derived.Test.YtncngeamdechmaaGreatDoorZ01
import Derived.Test.YtncngeamdechmaaGreatDoorZ16
namespace Go.Proofs.YtncngeamdechmaaGreatDoor
open Go.RowKit
section
variable {s:ByteArray} {q:Nat} {n:Int} {T:List UInt8} {E:Nat} {O:Bool} {C:Int} {p:Nat} {R:List (List UInt8 × Bool)} {t w:List UInt8}
theorem white_no {b:Nat} (h:b≠32∧b≠9):U.white (b:Int)=false:=by
 cases hw:U.white (b:Int) with
 | false=>rfl
 | true=>have:=white_notP hw;omega
theorem QZ.end_inv (h:QZ s q n T E O C p false R t w) (hp:s.size≤p):T=[]∧E=s.size∧O=false∧C=5:=by
 cases h
 all_goals first
  | exact ⟨by assumption,by assumption,by assumption,by assumption⟩
  | (exfalso;omega)
theorem QZ.lf_inv (h:QZ s q n T E O C p false R t w) (hq:q=39∨q=34) (hp:p<s.size) (hb:byt s p=10):QZ s q n T E O C (p+1) true (R++[(t,false)]) [] []:=by
 have hw:=white_no (b:=byt s p) (by omega)
 cases h
 all_goals first
  | assumption
  | (exfalso;omega)
  | (rename_i h2 _;rw[hw] at h2;cases h2)
theorem QZ.twice_inv (h:QZ s 39 n T E O C p false R t w) (hb:byt s p=39) (hp2:p+1<s.size) (hb2:byt s (p+1)=39):QZ s 39 n T E O C (p+2) false R (t++w++[39]) []:=by
 have hw:=white_no (b:=byt s p) (by omega)
 cases h
 all_goals first
  | assumption
  | (exfalso;omega)
  | (rename_i h2 _;rw[hw] at h2;cases h2)
theorem QZ.done_inv (h:QZ s q n T E O C p false R t w) (hq:q=39∨q=34) (hp:p<s.size) (hb:byt s p=q) (hn:¬ (q=39∧p+1<s.size∧byt s (p+1)=39)):T=qT (R++[(t++w,false)])∧E=p+1∧O=R.isEmpty∧C=0:=by
 have hw:=white_no (b:=byt s p) (by omega)
 cases h
 all_goals first
  | exact ⟨by assumption,by assumption,by assumption,by assumption⟩
  | (exfalso;omega)
  | (rename_i h2 _;rw[hw] at h2;cases h2)
theorem QZ.goes_inv (h:QZ s 34 n T E O C p false R t w) (hb:byt s p=92) (hp2:p+1<s.size) (hb2:byt s (p+1)=10):QZ s 34 n T E O C (p+2) true (R++[(t++w,true)]) [] []:=by
 have hw:=white_no (b:=byt s p) (by omega)
 cases h
 all_goals first
  | assumption
  | (exfalso;omega)
  | (rename_i h2 _;rw[hw] at h2;cases h2)
theorem QZ.esc_inv (h:QZ s 34 n T E O C p false R t w) (hp:p<s.size) (hb:byt s p=92) (hn:¬ (p+1<s.size∧byt s (p+1)=10)) {c k:Nat} (he:U.esc (s.data.toList.drop p)=some (c,k)):QZ s 34 n T E O C (p+k) false R (t++w++Lib.encodeRune (c:Int)) []:=by
 have hw:=white_no (b:=byt s p) (by omega)
 cases h
 case esc c2 k2 _ _ _ _ h5 h6=>
  rw[he] at h5
  injection h5 with h5
  injection h5 with h7 h8
  subst h7 h8
  exact h6
 all_goals first
  | (exfalso;omega)
  | (rename_i h2 _;rw[hw] at h2;cases h2)
  | (exfalso;simp_all)
theorem QZ.bad_inv (h:QZ s 34 n T E O C p false R t w) (hp:p<s.size) (hb:byt s p=92) (hn:¬ (p+1<s.size∧byt s (p+1)=10)) (he:U.esc (s.data.toList.drop p)=none):T=[]∧E=p∧O=false∧C=5:=by
 have hw:=white_no (b:=byt s p) (by omega)
 cases h
 all_goals first
  | exact ⟨by assumption,by assumption,by assumption,by assumption⟩
  | (exfalso;omega)
  | (rename_i h2 _;rw[hw] at h2;cases h2)
  | (rename_i h2 _;rw[he] at h2;cases h2)
theorem QZ.white_inv (h:QZ s q n T E O C p false R t w) (hq:q=39∨q=34) (hp:p<s.size) (hw:U.white (byt s p:Int)=true):QZ s q n T E O C (p+1) false R t (w++[bq s p]):=by
 have hb:=white_notP hw
 cases h
 all_goals first
  | assumption
  | (exfalso;omega)
  | (rename_i h2 _ _;rw[hw] at h2;cases h2)
theorem QZ.lit_inv (h:QZ s q n T E O C p false R t w) (hp:p<s.size) (h1:byt s p≠q) (h2:byt s p≠10) (hw:U.white (byt s p:Int)=false) (h3:¬ (q=34∧byt s p=92)):QZ s q n T E O C (p+1) false R (t++w++[bq s p]) []:=by
 cases h
 all_goals first
  | assumption
  | (exfalso;omega)
  | (rename_i h2 _;rw[hw] at h2;cases h2)
theorem QZ.highs_inv (hq:q=39∨q=34) {k:Nat} {out:List UInt8}:∀ (d p:Nat) (t w:List UInt8),QZ s q n T E O C p false R t w→RowS s k p out t w→p+d+1≤s.size→(∀ j,j<d+1→128≤byt s (p+j))→∃ t',QZ s q n T E O C (p+(d+1)) false R t' []∧RowS s k (p+(d+1)) out t' []
 | 0,p,t,w,h,hr,hs,hb=>by
  have h0:=hb 0 (by omega)
  rw[Nat.add_zero] at h0
  exact ⟨_,h.lit_inv (by omega) (by omega) (by omega) (white_high h0) (by omega),hr.lit (by omega) (white_high h0)⟩
 | d+1,p,t,w,h,hr,hs,hb=>by
  have h0:=hb 0 (by omega)
  rw[Nat.add_zero] at h0
  obtain ⟨t',h1,h2⟩:=QZ.highs_inv hq d (p+1) _ _ (h.lit_inv (by omega) (by omega) (by omega) (white_high h0) (by omega)) (hr.lit (by omega) (white_high h0)) (by omega) (fun j hj=>by
   have:=hb (j+1) (by omega)
   rw[show p+1+j=p+(j+1) by omega]
   exact this)
  rw[show p+1+(d+1)=p+(d+1+1) by omega] at h1 h2
  exact ⟨t',h1,h2⟩
end
theorem hexs_ascii:∀ (l:List UInt8) (acc v:Nat),U.hexs acc l=some v→∀ b∈l,b.toNat<128
 | [],_,_,_,b,hb=>by simp at hb
 | c :: l,acc,v,h,b,hb=>by
  cases hc:U.hexv c.toNat with
  | none=>rw[U.hexs_none l acc hc] at h;cases h
  | some d=>
   rw[U.hexs_some l acc hc] at h
   rcases List.mem_cons.1 hb with e|e
   ·subst e
    unfold U.hexv at hc
    split at hc
    ·omega
    ·split at hc
     ·omega
     ·split at hc
      ·omega
      ·cases hc
   ·exact hexs_ascii l _ v h b e
theorem nm_ascii {c v:Nat} (h:U.nm c=some v):c<128:=by
 have hm:=U.look_mem _ _ _ h
 exact (show ∀ p∈U.nmT,p.1<128 by decide) _ hm
theorem num_ascii {n v:Nat} {l:List UInt8} (h:U.num n l=some v):∀ b∈l.take n,b.toNat<128:=by
 unfold U.num at h
 split at h
 ·cases hh:U.hexs 0 (l.take n) with
  | none=>rw[hh] at h;cases h
  | some u=>exact hexs_ascii _ _ _ hh
 ·cases h
theorem esc_ascii {l:List UInt8} {v k:Nat} (h:U.esc l=some (v,k)):∀ b∈l.take k,b.toNat<128:=by
 cases l with
 | nil=>cases h
 | cons c l=>
  rw[U.esc_cons] at h
  split at h
  ·rename_i h92
   cases l with
   | nil=>cases h
   | cons d l=>
    rw[U.fol_cons] at h
    by_cases hd:U.digs d.toNat=0
    ·rw[if_pos hd] at h
     cases hn:U.nm d.toNat with
     | none=>rw[hn] at h;cases h
     | some u=>
      rw[hn] at h
      have hk:k=2:=by simp at h;omega
      subst hk
      have:=nm_ascii hn
      intro b hb
      simp at hb
      rcases hb with rfl|rfl <;> omega
    ·rw[if_neg hd] at h
     cases hn:U.num (U.digs d.toNat) l with
     | none=>rw[hn] at h;cases h
     | some u=>
      rw[hn] at h
      have hk:k=U.digs d.toNat+2:=by simp at h;omega
      subst hk
      have h3:=num_ascii hn
      have hdd:d.toNat<128:=by
       unfold U.digs at hd
       split at hd
       ·omega
       ·split at hd
        ·omega
        ·split at hd
         ·omega
         ·exact absurd rfl hd
      intro b hb
      rw[List.take_succ_cons,List.take_succ_cons] at hb
      rcases List.mem_cons.1 hb with e|hb
      ·subst e;omega
      rcases List.mem_cons.1 hb with e|hb
      ·subst e;omega
      exact h3 b hb
  ·cases h
theorem esc_bytes {s:ByteArray} {p v k:Nat} (h:U.esc (s.data.toList.drop p)=some (v,k)):∀ j,j<p+k→p≤j→byt s j<128:=by
 intro j hj hp
 have hl:=(U.esc_len h).2.2.1
 rw[List.length_drop,←Lib.size_eq] at hl
 obtain ⟨b,hd,hb⟩:=drop_byte s j (by omega)
 rw[←hb]
 refine esc_ascii h b ?_
 rw[List.mem_take_iff_getElem]
 refine ⟨j-p,by rw[List.length_drop,←Lib.size_eq];omega,?_⟩
 have h2:(s.data.toList.drop j)[0]?=some b:=by rw[hd];rfl
 rw[List.getElem?_drop,Nat.add_zero] at h2
 rw[List.getElem_drop]
 have h3:(s.data.toList)[p+(j-p)]?=some b:=by rw[show p+(j-p)=j by omega];exact h2
 exact (List.getElem?_eq_some_iff.1 h3).2
end Go.Proofs.YtncngeamdechmaaGreatDoor
namespace Go.Proofs.YtncngeamdechmaaGreatDoor
open Go.RowKit Go.Shelf
def bld_ren167:Ren:=⟨fun n=>match n with|167=>96|240=>107|276=>117|n=>n,fun n=>match n with|0=>0|4=>4|5=>5|9=>9|20=>20|37=>110|70=>112|72=>114|75=>117|80=>115|164=>137|n=>n,fun n=>n⟩
theorem bld_lays167:Go.Proofs.Lays.n167 Tryz.prog bld_ren167:=
 {mixed:=by kernel_rfl
  f167:=Tryz.func96.trans (congrArg some (by kernel_rfl))
  f240:=Tryz.func107.trans (congrArg some (by kernel_rfl))
  f276:=Tryz.func117.trans (congrArg some (by kernel_rfl))
  t0:=Tryz.underlying0
  a0:=Tryz.isAgg0
  z0:=Tryz.sizeOf0
  v0:=Tryz.zeroValue0
  t4:=Tryz.underlying4
  a4:=Tryz.isAgg4
  z4:=Tryz.sizeOf4
  v4:=Tryz.zeroValue4
  t5:=Tryz.underlying5
  a5:=Tryz.isAgg5
  z5:=Tryz.sizeOf5
  v5:=Tryz.zeroValue5
  t9:=Tryz.underlying9
  a9:=Tryz.isAgg9
  z9:=Tryz.sizeOf9
  v9:=Tryz.zeroValue9
  t20:=Tryz.underlying20
  a20:=Tryz.isAgg20
  z20:=Tryz.sizeOf20
  v20:=Tryz.zeroValue20
  t37:=Tryz.underlying110
  a37:=Tryz.isAgg110
  z37:=Tryz.sizeOf110
  v37:=Tryz.zeroValue110
  t70:=Tryz.underlying112
  a70:=Tryz.isAgg112
  z70:=Tryz.sizeOf112
  v70:=Tryz.zeroValue112
  t72:=Tryz.underlying114
  a72:=Tryz.isAgg114
  z72:=Tryz.sizeOf114
  v72:=Tryz.zeroValue114
  t75:=Tryz.underlying117
  a75:=Tryz.isAgg117
  z75:=Tryz.sizeOf117
  v75:=Tryz.zeroValue117
  t164:=Tryz.underlying137
  a164:=Tryz.isAgg137
  z164:=Tryz.sizeOf137
  v164:=Tryz.zeroValue137 }
theorem bld_extra167:Builder.Extra Tryz.prog bld_ren167:=
 {sizeBuilder:=by kernel_rfl
  liesBuilder:=by kernel_rfl
  t5:=Tryz.underlying5
  a5:=Tryz.isAgg5
  z5:=Tryz.sizeOf5
  v5:=Tryz.zeroValue5
  infoByte:=by kernel_rfl
  cellsByte:=by kernel_rfl
  sizeByte:=by kernel_rfl
  neB5:=by decide }
def bld_ren166:Ren:=⟨fun n=>match n with|166=>93|240=>107|276=>117|n=>n,fun n=>match n with|0=>0|3=>3|4=>4|5=>5|9=>9|20=>20|37=>110|70=>112|72=>114|75=>117|80=>115|164=>137|n=>n,fun n=>n⟩
theorem bld_lays166:Go.Proofs.Lays.n166 Tryz.prog bld_ren166:=
 {mixed:=by kernel_rfl
  f166:=Tryz.func93.trans (congrArg some (by kernel_rfl))
  f240:=Tryz.func107.trans (congrArg some (by kernel_rfl))
  f276:=Tryz.func117.trans (congrArg some (by kernel_rfl))
  t0:=Tryz.underlying0
  a0:=Tryz.isAgg0
  z0:=Tryz.sizeOf0
  v0:=Tryz.zeroValue0
  t3:=Tryz.underlying3
  a3:=Tryz.isAgg3
  z3:=Tryz.sizeOf3
  v3:=Tryz.zeroValue3
  t4:=Tryz.underlying4
  a4:=Tryz.isAgg4
  z4:=Tryz.sizeOf4
  v4:=Tryz.zeroValue4
  t9:=Tryz.underlying9
  a9:=Tryz.isAgg9
  z9:=Tryz.sizeOf9
  v9:=Tryz.zeroValue9
  t20:=Tryz.underlying20
  a20:=Tryz.isAgg20
  z20:=Tryz.sizeOf20
  v20:=Tryz.zeroValue20
  t37:=Tryz.underlying110
  a37:=Tryz.isAgg110
  z37:=Tryz.sizeOf110
  v37:=Tryz.zeroValue110
  t70:=Tryz.underlying112
  a70:=Tryz.isAgg112
  z70:=Tryz.sizeOf112
  v70:=Tryz.zeroValue112
  t72:=Tryz.underlying114
  a72:=Tryz.isAgg114
  z72:=Tryz.sizeOf114
  v72:=Tryz.zeroValue114
  t75:=Tryz.underlying117
  a75:=Tryz.isAgg117
  z75:=Tryz.sizeOf117
  v75:=Tryz.zeroValue117
  t164:=Tryz.underlying137
  a164:=Tryz.isAgg137
  z164:=Tryz.sizeOf137
  v164:=Tryz.zeroValue137 }
theorem bld_extra166:Builder.Extra Tryz.prog bld_ren166:=
 {sizeBuilder:=by kernel_rfl
  liesBuilder:=by kernel_rfl
  t5:=Tryz.underlying5
  a5:=Tryz.isAgg5
  z5:=Tryz.sizeOf5
  v5:=Tryz.zeroValue5
  infoByte:=by kernel_rfl
  cellsByte:=by kernel_rfl
  sizeByte:=by kernel_rfl
  neB5:=by decide }
def bld_ren169:Ren:=⟨fun n=>match n with|169=>92|n=>n,fun n=>match n with|0=>0|3=>3|5=>5|9=>9|37=>110|70=>112|72=>114|127=>111|n=>n,fun n=>n⟩
theorem bld_lays169:Go.Proofs.Lays.n169 Tryz.prog bld_ren169:=
 {mixed:=by kernel_rfl
  f169:=Tryz.func92.trans (congrArg some (by kernel_rfl))
  t0:=Tryz.underlying0
  a0:=Tryz.isAgg0
  z0:=Tryz.sizeOf0
  v0:=Tryz.zeroValue0
  t3:=Tryz.underlying3
  a3:=Tryz.isAgg3
  z3:=Tryz.sizeOf3
  v3:=Tryz.zeroValue3
  t9:=Tryz.underlying9
  a9:=Tryz.isAgg9
  z9:=Tryz.sizeOf9
  v9:=Tryz.zeroValue9
  t37:=Tryz.underlying110
  a37:=Tryz.isAgg110
  z37:=Tryz.sizeOf110
  v37:=Tryz.zeroValue110
  t70:=Tryz.underlying112
  a70:=Tryz.isAgg112
  z70:=Tryz.sizeOf112
  v70:=Tryz.zeroValue112
  t72:=Tryz.underlying114
  a72:=Tryz.isAgg114
  z72:=Tryz.sizeOf114
  v72:=Tryz.zeroValue114
  t127:=Tryz.underlying111
  a127:=Tryz.isAgg111
  z127:=Tryz.sizeOf111
  v127:=Tryz.zeroValue111 }
theorem bld_extra169:Builder.Extra Tryz.prog bld_ren169:=
 {sizeBuilder:=by kernel_rfl
  liesBuilder:=by kernel_rfl
  t5:=Tryz.underlying5
  a5:=Tryz.isAgg5
  z5:=Tryz.sizeOf5
  v5:=Tryz.zeroValue5
  infoByte:=by kernel_rfl
  cellsByte:=by kernel_rfl
  sizeByte:=by kernel_rfl
  neB5:=by decide }
abbrev IsB (B b:Nat) (l:List UInt8) (w:World):Prop:=Lib.IsBuilderF 114 5 B b (Lib.byteCells l) w
theorem IsB.below {B b:Nat} {l:List UInt8} {w w':World} (h:IsB B b l w) (hb:Below w.heap.size w w'):IsB B b l w':=by
 have key:∀ p,Lib.BuilderAtF 114 5 B b p (Lib.byteCells l) w→Lib.BuilderAtF 114 5 B b p (Lib.byteCells l) w':=by
  rintro p ⟨hB,v,hv,hown,hne⟩
  refine ⟨hB,v,?_,⟨hown.1,?_⟩,hne⟩
  ·rw[hb.block b (Array.getElem?_eq_some_iff.1 hv).1];exact hv
  ·rcases hown.2 with h2|⟨g,cap,cur,fz,hv2,hg,hh,r⟩
   ·exact .inl h2
   ·exact .inr ⟨g,cap,cur,fz,hv2,hg,by rw[hb.block g (Array.getElem?_eq_some_iff.1 hh).1];exact hh,r⟩
 exact h.elim (fun x=>.inl (key _ x)) (fun x=>.inr (key _ x))
theorem IsB.fresh (w:World):IsB w.heap.size w.heap.size [] (w.alloc (.cells #[.pointer none,.slice none 0 0] 114)):=
 Lib.IsBuilderF.of (Lib.fresh_isBuilder 114 5 w)
theorem WriteByte_k (B b:Nat) (l:List UInt8) (c:UInt8) (z:Int) (hz:z=(c.toNat:Int)) (w:World) (h:IsB B b l w) (hlen:l.length+1≤140737488355328) (hBw:B≤w.heap.size) :
  Calls Tryz.prog 96 #[.pointer (some ⟨b,0,none⟩),.int .u8 z] w fun e w'=>e=.returned .nilIface∧IsB B b (l++[c]) w'∧Below B w w'∧Lib.OthersKept 5 (some b) w w':=by
 subst hz
 refine (Any.Builder_WriteByte_k bld_lays167 bld_extra167 B b (Lib.byteCells l) (c.toNat:Int) w h (by rw[Lib.byteCells_length];exact hlen) hBw).mono ?_
 rintro e w' ⟨rfl,h1,h2,h3⟩
 refine ⟨rfl,?_,h2,h3⟩
 unfold IsB
 rw[Lib.byteCells_append]
 exact .inr h1
theorem WriteString_k (B b:Nat) (l m:List UInt8) (w:World) (h:IsB B b l w) (hlen:l.length+m.length≤140737488355328) (hBw:B≤w.heap.size) :
  Calls Tryz.prog 93 #[.pointer (some ⟨b,0,none⟩),.string ⟨m.toArray⟩] w fun e w'=>e=.returned (.tuple #[.int .i64 (m.length:Int),.nilIface])∧IsB B b (l++m) w'∧Below B w w'∧Lib.OthersKept 5 (some b) w w':=by
 have hs:(⟨m.toArray⟩:ByteArray).size=m.length:=by simp[ByteArray.size]
 refine (Any.Builder_WriteString_k bld_lays166 bld_extra166 B b (Lib.byteCells l) ⟨m.toArray⟩ w h (by rw[Lib.byteCells_length,hs];exact hlen) hBw).mono ?_
 rintro e w' ⟨rfl,h1,h2,h3⟩
 rw[hs]
 refine ⟨rfl,?_,h2,h3⟩
 unfold IsB
 rw[Lib.byteCells_append]
 exact .inr h1
theorem String_k (B b:Nat) (l:List UInt8) (w:World) (h:IsB B b l w) (hBw:B≤w.heap.size) :
  Calls Tryz.prog 92 #[.pointer (some ⟨b,0,none⟩)] w fun e w'=>e=.returned (.string ⟨l.toArray⟩)∧Below B w w':=by
 refine (Any.Builder_String_any_k bld_lays169 bld_extra169 B b l w h hBw).mono ?_
 rintro e w' ⟨rfl,_,h2,_⟩
 exact ⟨rfl,h2⟩
end Go.Proofs.YtncngeamdechmaaGreatDoor
namespace Go.Proofs.YtncngeamdechmaaGreatDoor
open Go.RowKit
set_option maxHeartbeats 400000 in
theorem feed_is (n:Nat) (B b:Nat) (l:List UInt8) (z:Int) (w:World) (h:IsB B b l w) (hz:z.toNat=n) (hn:z≤1000000000) (hn0:-1000000000≤z) (hlen:l.length≤1000000000000) (hBw:B≤w.heap.size) :
  Calls Tryz.prog 113 #[.pointer (some ⟨b,0,none⟩),.int .i64 z] w fun e w'=>e=.returned (.tuple #[])∧IsB B b (l++U.feeds n) w'∧Below B w w'∧Lib.OthersKept 5 (some b) w w':=by
 go_enter Tryz.func113,Tryz.ntmps113
 go_wp2
 go_loopw [5] (fun i wr=>∃ k:Nat,i=.int .i64 (k:Int)∧k≤n∧IsB B b (l++U.feeds k) wr∧Below B w wr∧Lib.OthersKept 5 (some b) w wr) (fun i _=>n-(intOf i).toNat)
 case atStart=>exact ⟨0,rfl,Nat.zero_le _,by rw[U.feeds_zero,List.append_nil];exact h,Below.refl _ _,Lib.OthersKept.refl _ _ w⟩
 case round=>
  obtain ⟨k,rfl,hk,hI,hb,ho⟩:=hrel
  have hsz:=hb.size
  by_cases hk2:k<n
  ·have hlt:(k:Int)<z:=by omega
   go_wp2_with (go_at_call 96;refine (WriteByte_k B b _ 10 _ rfl _ hI (by rw[List.length_append,U.feeds_length];omega) (by omega)).mono ?_;rintro e w1 ⟨rfl,h1,h2,h3⟩)
   go_roundw
   case rel=>exact ⟨k+1,by go_num,by omega,by rw[U.feeds_succ,←List.append_assoc];exact h1,hb.trans h2,ho.trans h3⟩
   case measure=>simp[intOf];omega
  ·have hlt:¬ (k:Int)<z:=by omega
   obtain rfl:k=n:=by omega
   go_wp2
   go_end0
   exact ⟨rfl,hI,hb,ho⟩
set_option maxHeartbeats 400000 in
theorem foldRows_is (n:Nat) (B b:Nat) (l:List UInt8) (w:World) (h:IsB B b l w) (hn:n≤1000000000) (hlen:l.length≤100000000000) (hBw:B≤w.heap.size) :
  Calls Tryz.prog 99 #[.pointer (some ⟨b,0,none⟩),.int .i64 (n:Int)] w fun e w'=>e=.returned (.tuple #[])∧IsB B b (l++U.sep n) w'∧Below B w w'∧Lib.OthersKept 5 (some b) w w':=by
 by_cases h0:n=0
 ·subst h0
  go_enter Tryz.func99,Tryz.ntmps99
  go_wp2_with fail
  refine (WriteByte_k B b _ 32 _ rfl _ h (by omega) hBw).mono ?_
  rintro e w1 ⟨rfl,h1,b1,o1⟩
  have hs1:=b1.size
  go_wp2_with fail
  refine (feed_is 0 B b _ _ _ h1 rfl (by omega) (by omega) (by simp;omega) (by omega)).mono ?_
  rintro e w2 ⟨rfl,h2,b2,o2⟩
  go_wp2
  go_end0
  exact ⟨rfl,by rw[U.feeds_zero,List.append_nil] at h2;exact h2,b1.trans b2,o1.trans o2⟩
 ·rw[U.sep_pos h0]
  go_enter Tryz.func99,Tryz.ntmps99
  go_wp2_with fail
  refine (feed_is n B b _ _ _ h (by omega) (by omega) (by omega) (by omega) (by omega)).mono ?_
  rintro e w2 ⟨rfl,h2,b2,o2⟩
  go_wp2
  go_end0
  exact ⟨rfl,h2,b2,o2⟩
set_option maxHeartbeats 800000 in
theorem foldFlow_is (out:List UInt8) (v:Value) (ls:List (List UInt8)) (w:World) (h:IsTexts w.heap.size w v ls) (hM:U.tot ls≤1000000) (ho:U.flowT ls=out) :
  Calls Tryz.prog 72 #[v] w fun e w'=>e=.returned (.string ⟨out.toArray⟩)∧Below w.heap.size w w':=by
 obtain ⟨ao,cap,rfl,c1,d1⟩:=h.slice
 unfold maxLen at d1
 obtain ⟨L,hL⟩:∃ L,L=ls.length:=⟨_,rfl⟩
 rw[←hL] at h c1 ⊢
 have HL:=Lib.hid hL
 have HO:=Lib.hid ho
 have i0:=IsB.fresh w
 have hb0:Below w.heap.size w (w.alloc (.cells #[.pointer none,.slice none 0 0] 114)):=(Below.refl _ _).alloc (Nat.le_refl _) _
 have hs0:w.heap.size<(w.alloc (.cells #[.pointer none,.slice none 0 0] 114)).heap.size:=by simp
 clear hL ho
 go_enter Tryz.func72,Tryz.ntmps72
 go_wp2
 obtain ⟨B,hB⟩:∃ B,B=w.heap.size:=⟨_,rfl⟩
 rw[←hB] at h i0 hb0 hs0 ⊢
 obtain ⟨W0,hW0⟩:∃ W0,W0=w.alloc (.cells #[.pointer none,.slice none 0 0] 114):=⟨_,rfl⟩
 rw[←hW0] at i0 hb0 hs0 ⊢
 have HBB:=Lib.hid hB
 clear hB hW0
 go_loopw [4,8] (fun vn vk wr=>∃ (k n:Nat) (acc:List UInt8),vk=.int .i64 (k:Int)∧vn=.int .i64 (n:Int)∧k≤L∧IsB B B acc wr∧Below B w wr∧B<wr.heap.size∧acc.length+n+U.tot (ls.drop k)≤1000000∧(k=0→n=0∧acc=[])∧Hid (0<k→acc++U.flowGo n (ls.drop k)=out)) (fun _ vk _=>L-(intOf vk).toNat)
 case atStart=>exact ⟨0,0,[],rfl,rfl,Nat.zero_le _,i0,hb0,hs0,by simpa using hM,fun _=>⟨rfl,rfl⟩,fun h=>by omega⟩
 case round=>
  obtain ⟨k,n,acc,rfl,rfl,hk,hI,hb,hs,ha,hz,H⟩:=hrel
  by_cases hk2:k<L
  ·obtain ⟨b1,o1,rfl,hlt1,hc1⟩:=IsTexts.at h HL.out.symm (by omega)
   have g1:=hc1 k hk2
   have hD:=getD_mem_drop ls k (by rw[←HL.out];exact hk2)
   have hD2:Hid ((ls.drop (k+1)=[])↔¬ k+1<L):=by
    show _↔_
    rw[List.drop_eq_nil_iff,←HL.out];omega
   obtain ⟨r,hr⟩:∃ r,r=ls.getD k []:=⟨_,rfl⟩
   obtain ⟨t,ht⟩:∃ t,t=ls.drop (k+1):=⟨_,rfl⟩
   rw[←hr] at g1 hD
   have G:∀ wx,Below B w wx→wx.cell? ⟨b1,o1+k,none⟩=some (.string ⟨r.toArray⟩):=fun wx hx=>by rw[hx.cell (p:=⟨b1,o1+k,none⟩) hlt1];exact g1
   replace g1:=G wr hb
   rw[←ht] at hD hD2
   have ha2:=ha
   rw[hD,U.tot] at ha2
   have HD:=Lib.hid hD
   have HT:=Lib.hid ht
   clear hc1 hr hD ht ha
   by_cases hk0:k=0
   ·obtain ⟨rfl,rfl⟩:=hz hk0
    have hk1:(k:Int)<1:=by omega
    have HN:Hid (0<k+1→([]++r)++U.flowGo 0 t=out):=by
     intro _
     have h2:=HD.out
     rw[hk0,List.drop_zero] at h2
     rw[←HO.out,h2];rfl
    have HK:=Lib.hid hk0
    clear hk0 hz H HD hD2
    by_cases hr0:r=[]
    ·subst hr0
     go_wp2_with (go_at_call 93;refine (WriteString_k B B [] [] wr hI (by simp) (by omega)).mono ?_;rintro e W1 ⟨rfl,hI1,b1',k1⟩)
     go_roundw
     case rel=>exact ⟨k+1,0,[],by go_num,rfl,by omega,hI1,hb.trans b1',by have:=b1'.size;omega,by rw[←HT.out];simp at ha2 ⊢;omega,fun h=>by omega,by rw[←HT.out];exact HN⟩
     case measure=>simp[intOf];omega
    ·go_wp2_with (go_at_call 93;refine (WriteString_k B B [] r wr hI (by simp;omega) (by omega)).mono ?_;rintro e W1 ⟨rfl,hI1,b1',k1⟩)
     go_roundw
     case rel=>exact ⟨k+1,0,[]++r,by go_num,rfl,by omega,hI1,hb.trans b1',by have:=b1'.size;omega,by rw[←HT.out];simp;omega,fun h=>by omega,by rw[←HT.out];exact HN⟩
     case measure=>simp[intOf];omega
   ·have hk1:0<(k:Int):=by omega
    have HE:=H.out (by omega)
    by_cases hB2:r=[]∧k+1<L
    ·obtain ⟨rfl,hkl⟩:=hB2
     have htn:t≠[]:=by intro e;exact hD2.out.1 e hkl
     rw[HD.out,U.flowGo_blank n htn,HT.out] at HE
     have HN:=Lib.hid (fun (_:0<k+1)=>HE)
     clear HE H HD hD2 hz htn
     go_wp2
     go_roundw
     case rel=>exact ⟨k+1,n+1,acc,by go_num,by go_num,by omega,hI,hb,hs,by rw[←HT.out];simp at ha2;omega,fun h=>by omega,HN⟩
     case measure=>simp[intOf];omega
    ·have hB3:¬ (r=[]∧t≠[]):=fun e=>hB2 ⟨e.1,by
      by_cases hkl:k+1<L
      ·exact hkl
      ·exact absurd (hD2.out.2 hkl) e.2⟩
     rw[HD.out,U.flowGo_row n hB3,HT.out,←List.append_assoc,←List.append_assoc] at HE
     have HN:=Lib.hid (fun (_:0<k+1)=>HE)
     have hsl:=U.sep_length n
     have hcase:¬ r=[]∨(r=[]∧(L:Int)≤(k:Int)+1):=by
      by_cases hr0:r=[]
      ·exact .inr ⟨hr0,by have:¬ k+1<L:=fun hkl=>hB2 ⟨hr0,hkl⟩;omega⟩
      ·exact .inl hr0
     clear HE H HD hD2 hz hB2 hB3
     rcases hcase with hr0|⟨hr0,hkl⟩
     ·go_wp2_with fail
      refine (foldRows_is n B B acc wr hI (by omega) (by omega) (by omega)).mono ?_
      rintro e W1 ⟨rfl,hI1,b1',k1⟩
      have g2:=G W1 (hb.trans b1')
      have hs1:=b1'.size
      go_wp2_with fail
      refine (WriteString_k B B _ r W1 hI1 (by simp;omega) (by omega)).mono ?_
      rintro e W2 ⟨rfl,hI2,b2',k2⟩
      go_wp2
      go_roundw
      case rel=>exact ⟨k+1,0,acc++U.sep n++r,by go_num,rfl,by omega,hI2,hb.trans (b1'.trans b2'),by have:=b1'.size;have:=b2'.size;omega,by rw[←HT.out];simp;omega,fun h=>by omega,HN⟩
      case measure=>simp[intOf];omega
     ·subst hr0
      go_wp2_with fail
      refine (foldRows_is n B B acc wr hI (by omega) (by omega) (by omega)).mono ?_
      rintro e W1 ⟨rfl,hI1,b1',k1⟩
      have g2:=G W1 (hb.trans b1')
      have hs1:=b1'.size
      go_wp2_with fail
      refine (WriteString_k B B _ [] W1 hI1 (by simp;omega) (by omega)).mono ?_
      rintro e W2 ⟨rfl,hI2,b2',k2⟩
      go_wp2
      go_roundw
      case rel=>exact ⟨k+1,0,acc++U.sep n++[],by go_num,rfl,by omega,hI2,hb.trans (b1'.trans b2'),by have:=b1'.size;have:=b2'.size;omega,by rw[←HT.out];simp at ha2 ⊢;omega,fun h=>by omega,HN⟩
      case measure=>simp[intOf];omega
  ·obtain rfl:k=L:=by omega
   have hacc:acc=out:=by
    by_cases hk0:k=0
    ·have hn:ls=[]:=List.eq_nil_of_length_eq_zero (by rw[←HL.out];exact hk0)
     rw[(hz hk0).2,←HO.out,hn];rfl
    ·have h2:=H.out (by omega)
     rw[List.drop_eq_nil_of_le (by rw[←HL.out];exact Nat.le_refl _),U.flowGo_nil,List.append_nil] at h2
     exact h2
   have HA:=Lib.hid hacc
   clear H hacc hz
   go_wp2_with fail
   refine (String_k B B acc wr hI (by omega)).mono ?_
   rintro e W1 ⟨rfl,b1⟩
   go_wp2
   go_ret
   exact ⟨by rw[←HA.out];rfl,by rw[←HBB.out];exact hb.trans b1⟩
end Go.Proofs.YtncngeamdechmaaGreatDoor
namespace Go.Proofs.YtncngeamdechmaaGreatDoor
open Go.RowKit
theorem infoG:(Tryz.prog.info? 24).map (fun i=>(i.zero,i.size,i.bytes))=some (some (.slice none 0 0),1,24):=by kernel_rfl
def atG (cs:List Value) (j:Nat):Value:=cs.getD j (.slice none 0 0)
structure OutG (B:Nat) (w:World) (v:Value) (cl:List (List (List UInt8))) (op:List (List UInt8)) (cs:List Value) (c:Value):Prop where
 own:w.ownsRow B 24 1 v (cl.length+1) (cs++[c])
 len:cs.length=cl.length
 last:OutT B w c op
 each:∀ j,j<cl.length→OutT B w (atG cs j) (cl.getD j [])∧((atG cs j).ownBlock=none∨(atG cs j).ownBlock≠c.ownBlock)
theorem own_apart {w:World} {B B2:Nat} {e e2:TypeId} {k k2 n n2:Nat} {v v2:Value} {xs xs2:List Value} (h:w.ownsRow B e k v n xs) (h2:w.ownsRow B2 e2 k2 v2 n2 xs2) (he:e≠e2):v.ownBlock=none∨v.ownBlock≠v2.ownBlock:=by
 rcases h.2 with ⟨rfl,_⟩|⟨g,cap,cur,rfl,_,hg,_⟩
 ·exact .inl rfl
 ·rcases h2.2 with ⟨rfl,_⟩|⟨g2,cap2,cur2,rfl,_,hg2,_⟩
  ·exact .inr (by simp[Value.ownBlock])
  ·refine .inr fun hh=>?_
   have:g=g2:=by simpa [Value.ownBlock] using hh
   subst this
   rw[hg] at hg2
   injection hg2 with h3
   injection h3 with _ h4
   exact he h4
theorem tySG:(9:TypeId)≠24:=by decide
theorem OutG.shape {B:Nat} {w:World} {v:Value} {cl:List (List (List UInt8))} {op:List (List UInt8)} {cs:List Value} {c:Value} (h:OutG B w v cl op cs c) :
  ∃ g cp,v=.slice (some ⟨g,0,none⟩) (cl.length+1) cp∧B≤g∧g<w.heap.size∧cl.length+1≤cp∧cp≤maxLen:=by
 rcases h.own.2 with ⟨_,hn⟩|⟨g,cap,cur,rfl,hg,hh,hnc,hcm,_⟩
 ·omega
 ·exact ⟨g,cap,rfl,hg,(Array.getElem?_eq_some_iff.1 hh).1,hnc,hcm⟩
theorem OutG.fresh (B:Nat) (w:World) (hB:B≤w.heap.size):OutG B (w.alloc (.cells #[.slice none 0 0] 24)) (.slice (some ⟨w.heap.size,0,none⟩) 1 1) [] [] [] (.slice none 0 0):=
 ⟨World.ownsRow_lit w #[.slice none 0 0] 1 hB (by decide) rfl,rfl,OutT.nil _ _,fun j hj=>by simp at hj⟩
theorem OutG.below {B:Nat} {w w':World} {v:Value} {cl:List (List (List UInt8))} {op:List (List UInt8)} {cs:List Value} {c:Value} (h:OutG B w v cl op cs c) (hb:Below w.heap.size w w'):OutG B w' v cl op cs c:=
 ⟨ownsRow_below h.own hb (Nat.le_refl _),h.len,h.last.below hb,fun j hj=>⟨(h.each j hj).1.below hb,(h.each j hj).2⟩⟩
theorem OutG.cell {B:Nat} {w:World} {g cp:Nat} {cl:List (List (List UInt8))} {op:List (List UInt8)} {cs:List Value} {c:Value} (h:OutG B w (.slice (some ⟨g,0,none⟩) (cl.length+1) cp) cl op cs c):w.cell? ⟨g,cl.length,none⟩=some c:=by
 rw[h.own.cellAt cl.length (by omega),←h.len]
 simp
theorem OutG.cells {B:Nat} {w:World} {g cp:Nat} {cl:List (List (List UInt8))} {op:List (List UInt8)} {cs:List Value} {c:Value} (h:OutG B w (.slice (some ⟨g,0,none⟩) (cl.length+1) cp) cl op cs c) (j:Nat) (hj:j<cl.length+1) :
  ∃ u,w.cell? ⟨g,j,none⟩=some u∧OutT B w u ((cl++[op]).getD j []):=by
 by_cases hjl:j<cl.length
 ·refine ⟨atG cs j,?_,?_⟩
  ·rw[h.own.cellAt j (by omega)]
   have:=h.len
   simp[atG,List.getElem?_append_left (show j<cs.length by omega),List.getD,show j<cs.length by omega]
  ·have:(cl++[op]).getD j []=cl.getD j []:=by simp[List.getD,List.getElem?_append_left hjl]
   rw[this]
   exact (h.each j hjl).1
 ·obtain rfl:j=cl.length:=by omega
  refine ⟨c,h.cell,?_⟩
  have:(cl++[op]).getD cl.length []=op:=by simp[List.getD]
  rw[this]
  exact h.last
theorem OutG.put {B:Nat} {w w1 w2:World} {g cp:Nat} {cl:List (List (List UInt8))} {op op2:List (List UInt8)} {cs:List Value} {c:Value} {g2 n2 cp2:Nat} (h:OutG B w (.slice (some ⟨g,0,none⟩) (cl.length+1) cp) cl op cs c)
  (hb:Below w.heap.size w w1) (hg:w1.grownBy w2 c.ownBlock) (hl:c.ownBlock=some g2∨g2=w1.heap.size) (hn:OutT B w2 (.slice (some ⟨g2,0,none⟩) n2 cp2) op2) :
  OutG B (w2.setCell ⟨g,cl.length,none⟩ (.slice (some ⟨g2,0,none⟩) n2 cp2)) (.slice (some ⟨g,0,none⟩) (cl.length+1) cp) cl op2 cs (.slice (some ⟨g2,0,none⟩) n2 cp2)∧w2.grownBy (w2.setCell ⟨g,cl.length,none⟩ (.slice (some ⟨g2,0,none⟩) n2 cp2)) (some g):=by
 have h1:=h.below hb
 have ha:=own_apart h1.own h1.last (Ne.symm tySG)
 have hown2:=h1.own.kept hg ha
 obtain ⟨s1,s2⟩:=hown2.stored cl.length (.slice (some ⟨g2,0,none⟩) n2 cp2)
 have hlt1:g<w1.heap.size:=((h1.own.lt) g rfl).2
 have hgg:g2≠g:=by
  have:=own_apart hn hown2 tySG
  rcases this with h3|h3
  ·simp[Value.ownBlock] at h3
  ·simpa [Value.ownBlock] using h3
 refine ⟨⟨?_,h.len,?_,fun j hj=>⟨?_,?_⟩⟩,s2⟩
 ·have hset:(cs++[c]).set cl.length (.slice (some ⟨g2,0,none⟩) n2 cp2)=cs++[.slice (some ⟨g2,0,none⟩) n2 cp2]:=by
   rw[←h.len];simp
  rw[hset] at s1
  exact s1
 ·exact hn.kept s2 (.inr (by simpa [Value.ownBlock] using hgg))
 ·have hj1:=(h1.each j hj)
  have hk:=hj1.1.kept hg hj1.2
  refine hk.kept s2 ?_
  have:=own_apart hk hown2 tySG
  rcases this with h3|h3
  ·exact .inl h3
  ·exact .inr (by simpa [Value.ownBlock] using h3)
 ·have hj1:=(h1.each j hj)
  cases hob:(atG cs j).ownBlock with
  | none=>exact .inl rfl
  | some k=>
   right
   have hk:=(hj1.1.lt k hob).2
   rcases hl with e|e
   ·rcases hj1.2 with e2|e2
    ·rw[hob] at e2;cases e2
    ·intro h3
     apply e2
     rw[hob,e]
     simpa [Value.ownBlock] using h3
   ·intro h3
    have:k=g2:=by simpa [Value.ownBlock] using h3
    omega
theorem OutG.next {B:Nat} {w w1 w2:World} {g cp:Nat} {cl:List (List (List UInt8))} {op:List (List UInt8)} {cs:List Value} {c v2:Value} (h:OutG B w (.slice (some ⟨g,0,none⟩) (cl.length+1) cp) cl op cs c)
  (hb:Below w.heap.size w w1) (hg:w1.grownBy w2 (some g)) (hn:w2.ownsRow B 24 1 v2 (cl.length+1+1) (cs++[c]++[.slice none 0 0])):OutG B w2 v2 (cl++[op]) [] (cs++[c]) (.slice none 0 0):=by
 have h1:=h.below hb
 have key:∀ (u:Value) (l:List (List UInt8)),OutT B w1 u l→OutT B w2 u l:=fun u l hu=>by
  refine hu.kept hg ?_
  rcases own_apart hu h1.own tySG with h3|h3
  ·exact .inl h3
  ·exact .inr (by simpa [Value.ownBlock] using h3)
 refine ⟨by simpa using hn,by simp[h.len],OutT.nil _ _,fun j hj=>⟨?_,?_⟩⟩
 ·by_cases hjl:j<cl.length
  ·have e1:(cl++[op]).getD j []=cl.getD j []:=by simp[List.getD,List.getElem?_append_left hjl]
   have e2:atG (cs++[c]) j=atG cs j:=by simp[atG,List.getD,List.getElem?_append_left (show j<cs.length by rw[h.len];exact hjl)]
   rw[e1,e2]
   exact key _ _ (h1.each j hjl).1
  ·obtain rfl:j=cl.length:=by simp at hj;omega
   have e1:(cl++[op]).getD cl.length []=op:=by simp[List.getD]
   have e2:atG (cs++[c]) cl.length=c:=by rw[←h.len];simp[atG,List.getD]
   rw[e1,e2]
   exact key _ _ h1.last
 ·cases hob:(atG (cs++[c]) j).ownBlock with
  | none=>exact .inl rfl
  | some k=>right;simp[Value.ownBlock]
def IsGroups (B:Nat) (w:World) (v:Value) (gs:List (List (List UInt8))):Prop:=
 ∃ g cp,v=.slice (some ⟨g,0,none⟩) gs.length cp∧gs.length≤cp∧cp≤maxLen∧g<B∧∀ j,j<gs.length→∃ u,w.cell? ⟨g,j,none⟩=some u∧IsTexts B w u (gs.getD j [])
theorem OutG.is {B:Nat} {w:World} {v:Value} {cl:List (List (List UInt8))} {op:List (List UInt8)} {cs:List Value} {c:Value} (h:OutG B w v cl op cs c):IsGroups w.heap.size w v (cl++[op]):=by
 obtain ⟨g,cp,rfl,h1,h2,h3,h4⟩:=h.shape
 have hl:(cl++[op]).length=cl.length+1:=by simp
 refine ⟨g,cp,by rw[hl],by rw[hl];exact h3,h4,h2,fun j hj=>?_⟩
 rw[hl] at hj
 obtain ⟨u,hu,ht⟩:=h.cells j hj
 exact ⟨u,hu,ht.is⟩
end Go.Proofs.YtncngeamdechmaaGreatDoor

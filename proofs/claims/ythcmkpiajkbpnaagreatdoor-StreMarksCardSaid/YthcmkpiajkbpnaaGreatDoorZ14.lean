/- Parts of the proof, put together from smaller texts (blanks that Lean does not want are struck). Conditions: those that each theorem writes out. -/
import Derived.Shelf.Strings.BuilderK
import Derived.Test.YthcmkpiajkbpnaaGreatDoorZ00
import Derived.Test.YthcmkpiajkbpnaaGreatDoorZ01
namespace Go.Proofs.YthcmkpiajkbpnaaGreatDoor
open Go.RowKit Go.Shelf
def bld_ren167:Ren:=⟨fun n=>match n with|167=>146|240=>161|276=>183|n=>n,fun n=>match n with|0=>0|4=>4|5=>5|9=>9|20=>20|37=>155|70=>154|72=>157|75=>160|80=>163|164=>196|n=>n,fun n=>n⟩
theorem bld_lays167:Go.Proofs.Lays.n167 Tryz.prog bld_ren167:=
 {mixed:=by kernel_rfl
  f167:=Tryz.func146.trans (congrArg some (by kernel_rfl))
  f240:=Tryz.func161.trans (congrArg some (by kernel_rfl))
  f276:=Tryz.func183.trans (congrArg some (by kernel_rfl))
  t0:=Tryz.underlying0
  a0:=Tryz.isAgg0
  z0:=Tryz.sizeOf0
  v0:=Tryz.zeroValue0
  t4:=Tryz.underlying4
  a4:=Tryz.isAgg4
  z4:=Tryz.sizeOf4
  v4:=Tryz.zeroValue4
  t5:=Tryz.underlying5
  a5:=Tryz.isAgg5
  z5:=Tryz.sizeOf5
  v5:=Tryz.zeroValue5
  t9:=Tryz.underlying9
  a9:=Tryz.isAgg9
  z9:=Tryz.sizeOf9
  v9:=Tryz.zeroValue9
  t20:=Tryz.underlying20
  a20:=Tryz.isAgg20
  z20:=Tryz.sizeOf20
  v20:=Tryz.zeroValue20
  t37:=Tryz.underlying155
  a37:=Tryz.isAgg155
  z37:=Tryz.sizeOf155
  v37:=Tryz.zeroValue155
  t70:=Tryz.underlying154
  a70:=Tryz.isAgg154
  z70:=Tryz.sizeOf154
  v70:=Tryz.zeroValue154
  t72:=Tryz.underlying157
  a72:=Tryz.isAgg157
  z72:=Tryz.sizeOf157
  v72:=Tryz.zeroValue157
  t75:=Tryz.underlying160
  a75:=Tryz.isAgg160
  z75:=Tryz.sizeOf160
  v75:=Tryz.zeroValue160
  t164:=Tryz.underlying196
  a164:=Tryz.isAgg196
  z164:=Tryz.sizeOf196
  v164:=Tryz.zeroValue196 }
theorem bld_extra167:Builder.Extra Tryz.prog bld_ren167:=
 {sizeBuilder:=by kernel_rfl
  liesBuilder:=by kernel_rfl
  t5:=Tryz.underlying5
  a5:=Tryz.isAgg5
  z5:=Tryz.sizeOf5
  v5:=Tryz.zeroValue5
  infoByte:=by kernel_rfl
  cellsByte:=by kernel_rfl
  sizeByte:=by kernel_rfl
  neB5:=by decide }
def bld_ren166:Ren:=⟨fun n=>match n with|166=>121|240=>161|276=>183|n=>n,fun n=>match n with|0=>0|3=>3|4=>4|5=>5|9=>9|20=>20|37=>155|70=>154|72=>157|75=>160|80=>163|164=>196|n=>n,fun n=>n⟩
theorem bld_lays166:Go.Proofs.Lays.n166 Tryz.prog bld_ren166:=
 {mixed:=by kernel_rfl
  f166:=Tryz.func121.trans (congrArg some (by kernel_rfl))
  f240:=Tryz.func161.trans (congrArg some (by kernel_rfl))
  f276:=Tryz.func183.trans (congrArg some (by kernel_rfl))
  t0:=Tryz.underlying0
  a0:=Tryz.isAgg0
  z0:=Tryz.sizeOf0
  v0:=Tryz.zeroValue0
  t3:=Tryz.underlying3
  a3:=Tryz.isAgg3
  z3:=Tryz.sizeOf3
  v3:=Tryz.zeroValue3
  t4:=Tryz.underlying4
  a4:=Tryz.isAgg4
  z4:=Tryz.sizeOf4
  v4:=Tryz.zeroValue4
  t9:=Tryz.underlying9
  a9:=Tryz.isAgg9
  z9:=Tryz.sizeOf9
  v9:=Tryz.zeroValue9
  t20:=Tryz.underlying20
  a20:=Tryz.isAgg20
  z20:=Tryz.sizeOf20
  v20:=Tryz.zeroValue20
  t37:=Tryz.underlying155
  a37:=Tryz.isAgg155
  z37:=Tryz.sizeOf155
  v37:=Tryz.zeroValue155
  t70:=Tryz.underlying154
  a70:=Tryz.isAgg154
  z70:=Tryz.sizeOf154
  v70:=Tryz.zeroValue154
  t72:=Tryz.underlying157
  a72:=Tryz.isAgg157
  z72:=Tryz.sizeOf157
  v72:=Tryz.zeroValue157
  t75:=Tryz.underlying160
  a75:=Tryz.isAgg160
  z75:=Tryz.sizeOf160
  v75:=Tryz.zeroValue160
  t164:=Tryz.underlying196
  a164:=Tryz.isAgg196
  z164:=Tryz.sizeOf196
  v164:=Tryz.zeroValue196 }
theorem bld_extra166:Builder.Extra Tryz.prog bld_ren166:=
 {sizeBuilder:=by kernel_rfl
  liesBuilder:=by kernel_rfl
  t5:=Tryz.underlying5
  a5:=Tryz.isAgg5
  z5:=Tryz.sizeOf5
  v5:=Tryz.zeroValue5
  infoByte:=by kernel_rfl
  cellsByte:=by kernel_rfl
  sizeByte:=by kernel_rfl
  neB5:=by decide }
def bld_ren169:Ren:=⟨fun n=>match n with|169=>122|n=>n,fun n=>match n with|0=>0|3=>3|5=>5|9=>9|37=>155|70=>154|72=>157|127=>165|n=>n,fun n=>n⟩
theorem bld_lays169:Go.Proofs.Lays.n169 Tryz.prog bld_ren169:=
 {mixed:=by kernel_rfl
  f169:=Tryz.func122.trans (congrArg some (by kernel_rfl))
  t0:=Tryz.underlying0
  a0:=Tryz.isAgg0
  z0:=Tryz.sizeOf0
  v0:=Tryz.zeroValue0
  t3:=Tryz.underlying3
  a3:=Tryz.isAgg3
  z3:=Tryz.sizeOf3
  v3:=Tryz.zeroValue3
  t9:=Tryz.underlying9
  a9:=Tryz.isAgg9
  z9:=Tryz.sizeOf9
  v9:=Tryz.zeroValue9
  t37:=Tryz.underlying155
  a37:=Tryz.isAgg155
  z37:=Tryz.sizeOf155
  v37:=Tryz.zeroValue155
  t70:=Tryz.underlying154
  a70:=Tryz.isAgg154
  z70:=Tryz.sizeOf154
  v70:=Tryz.zeroValue154
  t72:=Tryz.underlying157
  a72:=Tryz.isAgg157
  z72:=Tryz.sizeOf157
  v72:=Tryz.zeroValue157
  t127:=Tryz.underlying165
  a127:=Tryz.isAgg165
  z127:=Tryz.sizeOf165
  v127:=Tryz.zeroValue165 }
theorem bld_extra169:Builder.Extra Tryz.prog bld_ren169:=
 {sizeBuilder:=by kernel_rfl
  liesBuilder:=by kernel_rfl
  t5:=Tryz.underlying5
  a5:=Tryz.isAgg5
  z5:=Tryz.sizeOf5
  v5:=Tryz.zeroValue5
  infoByte:=by kernel_rfl
  cellsByte:=by kernel_rfl
  sizeByte:=by kernel_rfl
  neB5:=by decide }
abbrev IsB (B b:Nat) (l:List UInt8) (w:World):Prop:=Lib.IsBuilderF 157 5 B b (Lib.byteCells l) w
theorem IsB.fresh (w:World):IsB w.heap.size w.heap.size [] (w.alloc (.cells #[.pointer none,.slice none 0 0] 157)):=
 Lib.IsBuilderF.of (Lib.fresh_isBuilder 157 5 w)
theorem WriteByte_k (B b:Nat) (l:List UInt8) (c:UInt8) (z:Int) (hz:z=(c.toNat:Int)) (w:World) (h:IsB B b l w) (hlen:l.length+1≤140737488355328) (hBw:B≤w.heap.size) :
  Calls Tryz.prog 146 #[.pointer (some ⟨b,0,none⟩),.int .u8 z] w fun e w'=>e=.returned .nilIface∧IsB B b (l++[c]) w'∧Below B w w'∧Lib.OthersKept 5 (some b) w w':=by
 subst hz
 refine (Any.Builder_WriteByte_k bld_lays167 bld_extra167 B b (Lib.byteCells l) (c.toNat:Int) w h (by rw[Lib.byteCells_length];exact hlen) hBw).mono ?_
 rintro e w' ⟨rfl,h1,h2,h3⟩
 refine ⟨rfl,?_,h2,h3⟩
 unfold IsB
 rw[Lib.byteCells_append]
 exact .inr h1
theorem WriteString_k (B b:Nat) (l m:List UInt8) (w:World) (h:IsB B b l w) (hlen:l.length+m.length≤140737488355328) (hBw:B≤w.heap.size) :
  Calls Tryz.prog 121 #[.pointer (some ⟨b,0,none⟩),.string ⟨m.toArray⟩] w fun e w'=>e=.returned (.tuple #[.int .i64 (m.length:Int),.nilIface])∧IsB B b (l++m) w'∧Below B w w'∧Lib.OthersKept 5 (some b) w w':=by
 have hs:(⟨m.toArray⟩:ByteArray).size=m.length:=by simp[ByteArray.size]
 refine (Any.Builder_WriteString_k bld_lays166 bld_extra166 B b (Lib.byteCells l) ⟨m.toArray⟩ w h (by rw[Lib.byteCells_length,hs];exact hlen) hBw).mono ?_
 rintro e w' ⟨rfl,h1,h2,h3⟩
 rw[hs]
 refine ⟨rfl,?_,h2,h3⟩
 unfold IsB
 rw[Lib.byteCells_append]
 exact .inr h1
theorem String_k (B b:Nat) (l:List UInt8) (w:World) (h:IsB B b l w) (hBw:B≤w.heap.size) :
  Calls Tryz.prog 122 #[.pointer (some ⟨b,0,none⟩)] w fun e w'=>e=.returned (.string ⟨l.toArray⟩)∧Below B w w':=by
 refine (Any.Builder_String_any_k bld_lays169 bld_extra169 B b l w h hBw).mono ?_
 rintro e w' ⟨rfl,_,h2,_⟩
 exact ⟨rfl,h2⟩
end Go.Proofs.YthcmkpiajkbpnaaGreatDoor
namespace Go.Proofs.YthcmkpiajkbpnaaGreatDoor
open Go.RowKit
set_option maxHeartbeats 400000 in
theorem feed_is (n:Nat) (B b:Nat) (l:List UInt8) (z:Int) (w:World) (h:IsB B b l w) (hz:z.toNat=n) (hn:z≤1000000000) (hn0:-1000000000≤z) (hlen:l.length≤1000000000000) (hBw:B≤w.heap.size) :
  Calls Tryz.prog 177 #[.pointer (some ⟨b,0,none⟩),.int .i64 z] w fun e w'=>e=.returned (.tuple #[])∧IsB B b (l++U.feeds n) w'∧Below B w w'∧Lib.OthersKept 5 (some b) w w':=by
 go_enter Tryz.func177,Tryz.ntmps177
 go_wp2
 go_loopw [5] (fun i wr=>∃ k:Nat,i=.int .i64 (k:Int)∧k≤n∧IsB B b (l++U.feeds k) wr∧Below B w wr∧Lib.OthersKept 5 (some b) w wr) (fun i _=>n-(intOf i).toNat)
 case atStart=>exact ⟨0,rfl,Nat.zero_le _,by rw[U.feeds_zero,List.append_nil];exact h,Below.refl _ _,Lib.OthersKept.refl _ _ w⟩
 case round=>
  obtain ⟨k,rfl,hk,hI,hb,ho⟩:=hrel
  have hsz:=hb.size
  by_cases hk2:k<n
  ·have hlt:(k:Int)<z:=by omega
   go_wp2_with (go_at_call 146;refine (WriteByte_k B b _ 10 _ rfl _ hI (by rw[List.length_append,U.feeds_length];omega) (by omega)).mono ?_;rintro e w1 ⟨rfl,h1,h2,h3⟩)
   go_roundw
   case rel=>exact ⟨k+1,by go_num,by omega,by rw[U.feeds_succ,←List.append_assoc];exact h1,hb.trans h2,ho.trans h3⟩
   case measure=>simp[intOf];omega
  ·have hlt:¬ (k:Int)<z:=by omega
   obtain rfl:k=n:=by omega
   go_wp2
   go_end0
   exact ⟨rfl,hI,hb,ho⟩
set_option maxHeartbeats 400000 in
theorem foldRows_is (n:Nat) (B b:Nat) (l:List UInt8) (w:World) (h:IsB B b l w) (hn:n≤1000000000) (hlen:l.length≤100000000000) (hBw:B≤w.heap.size) :
  Calls Tryz.prog 152 #[.pointer (some ⟨b,0,none⟩),.int .i64 (n:Int)] w fun e w'=>e=.returned (.tuple #[])∧IsB B b (l++U.sep n) w'∧Below B w w'∧Lib.OthersKept 5 (some b) w w':=by
 by_cases h0:n=0
 ·subst h0
  go_enter Tryz.func152,Tryz.ntmps152
  go_wp2_with fail
  refine (WriteByte_k B b _ 32 _ rfl _ h (by omega) hBw).mono ?_
  rintro e w1 ⟨rfl,h1,b1,o1⟩
  have hs1:=b1.size
  go_wp2_with fail
  refine (feed_is 0 B b _ _ _ h1 rfl (by omega) (by omega) (by simp;omega) (by omega)).mono ?_
  rintro e w2 ⟨rfl,h2,b2,o2⟩
  go_wp2
  go_end0
  exact ⟨rfl,by rw[U.feeds_zero,List.append_nil] at h2;exact h2,b1.trans b2,o1.trans o2⟩
 ·rw[U.sep_pos h0]
  go_enter Tryz.func152,Tryz.ntmps152
  go_wp2_with fail
  refine (feed_is n B b _ _ _ h (by omega) (by omega) (by omega) (by omega) (by omega)).mono ?_
  rintro e w2 ⟨rfl,h2,b2,o2⟩
  go_wp2
  go_end0
  exact ⟨rfl,h2,b2,o2⟩
set_option maxHeartbeats 800000 in
theorem foldFlow_is (out:List UInt8) (v:Value) (ls:List (List UInt8)) (w:World) (h:IsTexts w.heap.size w v ls) (hM:U.tot ls≤1000000) (ho:U.flowT ls=out) :
  Calls Tryz.prog 104 #[v] w fun e w'=>e=.returned (.string ⟨out.toArray⟩)∧Below w.heap.size w w':=by
 obtain ⟨ao,cap,rfl,c1,d1⟩:=h.slice
 unfold maxLen at d1
 obtain ⟨L,hL⟩:∃ L,L=ls.length:=⟨_,rfl⟩
 rw[←hL] at h c1 ⊢
 have HL:=Lib.hid hL
 have HO:=Lib.hid ho
 have i0:=IsB.fresh w
 have hb0:Below w.heap.size w (w.alloc (.cells #[.pointer none,.slice none 0 0] 157)):=(Below.refl _ _).alloc (Nat.le_refl _) _
 have hs0:w.heap.size<(w.alloc (.cells #[.pointer none,.slice none 0 0] 157)).heap.size:=by simp
 clear hL ho
 go_enter Tryz.func104,Tryz.ntmps104
 go_wp2
 obtain ⟨B,hB⟩:∃ B,B=w.heap.size:=⟨_,rfl⟩
 rw[←hB] at h i0 hb0 hs0 ⊢
 obtain ⟨W0,hW0⟩:∃ W0,W0=w.alloc (.cells #[.pointer none,.slice none 0 0] 157):=⟨_,rfl⟩
 rw[←hW0] at i0 hb0 hs0 ⊢
 have HBB:=Lib.hid hB
 clear hB hW0
 go_loopw [4,8] (fun vn vk wr=>∃ (k n:Nat) (acc:List UInt8),vk=.int .i64 (k:Int)∧vn=.int .i64 (n:Int)∧k≤L∧IsB B B acc wr∧Below B w wr∧B<wr.heap.size∧acc.length+n+U.tot (ls.drop k)≤1000000∧(k=0→n=0∧acc=[])∧Hid (0<k→acc++U.flowGo n (ls.drop k)=out)) (fun _ vk _=>L-(intOf vk).toNat)
 case atStart=>exact ⟨0,0,[],rfl,rfl,Nat.zero_le _,i0,hb0,hs0,by simpa using hM,fun _=>⟨rfl,rfl⟩,fun h=>by omega⟩
 case round=>
  obtain ⟨k,n,acc,rfl,rfl,hk,hI,hb,hs,ha,hz,H⟩:=hrel
  by_cases hk2:k<L
  ·obtain ⟨b1,o1,rfl,hlt1,hc1⟩:=IsTexts.at h HL.out.symm (by omega)
   have g1:=hc1 k hk2
   have hD:=getD_mem_drop ls k (by rw[←HL.out];exact hk2)
   have hD2:Hid ((ls.drop (k+1)=[])↔¬ k+1<L):=by
    show _↔_
    rw[List.drop_eq_nil_iff,←HL.out];omega
   obtain ⟨r,hr⟩:∃ r,r=ls.getD k []:=⟨_,rfl⟩
   obtain ⟨t,ht⟩:∃ t,t=ls.drop (k+1):=⟨_,rfl⟩
   rw[←hr] at g1 hD
   have G:∀ wx,Below B w wx→wx.cell? ⟨b1,o1+k,none⟩=some (.string ⟨r.toArray⟩):=fun wx hx=>by rw[hx.cell (p:=⟨b1,o1+k,none⟩) hlt1];exact g1
   replace g1:=G wr hb
   rw[←ht] at hD hD2
   have ha2:=ha
   rw[hD,U.tot] at ha2
   have HD:=Lib.hid hD
   have HT:=Lib.hid ht
   clear hc1 hr hD ht ha
   by_cases hk0:k=0
   ·obtain ⟨rfl,rfl⟩:=hz hk0
    have hk1:(k:Int)<1:=by omega
    have HN:Hid (0<k+1→([]++r)++U.flowGo 0 t=out):=by
     intro _
     have h2:=HD.out
     rw[hk0,List.drop_zero] at h2
     rw[←HO.out,h2];rfl
    have HK:=Lib.hid hk0
    clear hk0 hz H HD hD2
    by_cases hr0:r=[]
    ·subst hr0
     go_wp2_with (go_at_call 121;refine (WriteString_k B B [] [] wr hI (by simp) (by omega)).mono ?_;rintro e W1 ⟨rfl,hI1,b1',k1⟩)
     go_roundw
     case rel=>exact ⟨k+1,0,[],by go_num,rfl,by omega,hI1,hb.trans b1',by have:=b1'.size;omega,by rw[←HT.out];simp at ha2 ⊢;omega,fun h=>by omega,by rw[←HT.out];exact HN⟩
     case measure=>simp[intOf];omega
    ·go_wp2_with (go_at_call 121;refine (WriteString_k B B [] r wr hI (by simp;omega) (by omega)).mono ?_;rintro e W1 ⟨rfl,hI1,b1',k1⟩)
     go_roundw
     case rel=>exact ⟨k+1,0,[]++r,by go_num,rfl,by omega,hI1,hb.trans b1',by have:=b1'.size;omega,by rw[←HT.out];simp;omega,fun h=>by omega,by rw[←HT.out];exact HN⟩
     case measure=>simp[intOf];omega
   ·have hk1:0<(k:Int):=by omega
    have HE:=H.out (by omega)
    by_cases hB2:r=[]∧k+1<L
    ·obtain ⟨rfl,hkl⟩:=hB2
     have htn:t≠[]:=by intro e;exact hD2.out.1 e hkl
     rw[HD.out,U.flowGo_blank n htn,HT.out] at HE
     have HN:=Lib.hid (fun (_:0<k+1)=>HE)
     clear HE H HD hD2 hz htn
     go_wp2
     go_roundw
     case rel=>exact ⟨k+1,n+1,acc,by go_num,by go_num,by omega,hI,hb,hs,by rw[←HT.out];simp at ha2;omega,fun h=>by omega,HN⟩
     case measure=>simp[intOf];omega
    ·have hB3:¬ (r=[]∧t≠[]):=fun e=>hB2 ⟨e.1,by
      by_cases hkl:k+1<L
      ·exact hkl
      ·exact absurd (hD2.out.2 hkl) e.2⟩
     rw[HD.out,U.flowGo_row n hB3,HT.out,←List.append_assoc,←List.append_assoc] at HE
     have HN:=Lib.hid (fun (_:0<k+1)=>HE)
     have hsl:=U.sep_length n
     have hcase:¬ r=[]∨(r=[]∧(L:Int)≤(k:Int)+1):=by
      by_cases hr0:r=[]
      ·exact .inr ⟨hr0,by have:¬ k+1<L:=fun hkl=>hB2 ⟨hr0,hkl⟩;omega⟩
      ·exact .inl hr0
     clear HE H HD hD2 hz hB2 hB3
     rcases hcase with hr0|⟨hr0,hkl⟩
     ·go_wp2_with fail
      refine (foldRows_is n B B acc wr hI (by omega) (by omega) (by omega)).mono ?_
      rintro e W1 ⟨rfl,hI1,b1',k1⟩
      have g2:=G W1 (hb.trans b1')
      have hs1:=b1'.size
      go_wp2_with fail
      refine (WriteString_k B B _ r W1 hI1 (by simp;omega) (by omega)).mono ?_
      rintro e W2 ⟨rfl,hI2,b2',k2⟩
      go_wp2
      go_roundw
      case rel=>exact ⟨k+1,0,acc++U.sep n++r,by go_num,rfl,by omega,hI2,hb.trans (b1'.trans b2'),by have:=b1'.size;have:=b2'.size;omega,by rw[←HT.out];simp;omega,fun h=>by omega,HN⟩
      case measure=>simp[intOf];omega
     ·subst hr0
      go_wp2_with fail
      refine (foldRows_is n B B acc wr hI (by omega) (by omega) (by omega)).mono ?_
      rintro e W1 ⟨rfl,hI1,b1',k1⟩
      have g2:=G W1 (hb.trans b1')
      have hs1:=b1'.size
      go_wp2_with fail
      refine (WriteString_k B B _ [] W1 hI1 (by simp;omega) (by omega)).mono ?_
      rintro e W2 ⟨rfl,hI2,b2',k2⟩
      go_wp2
      go_roundw
      case rel=>exact ⟨k+1,0,acc++U.sep n++[],by go_num,rfl,by omega,hI2,hb.trans (b1'.trans b2'),by have:=b1'.size;have:=b2'.size;omega,by rw[←HT.out];simp at ha2 ⊢;omega,fun h=>by omega,HN⟩
      case measure=>simp[intOf];omega
  ·obtain rfl:k=L:=by omega
   have hacc:acc=out:=by
    by_cases hk0:k=0
    ·have hn:ls=[]:=List.eq_nil_of_length_eq_zero (by rw[←HL.out];exact hk0)
     rw[(hz hk0).2,←HO.out,hn];rfl
    ·have h2:=H.out (by omega)
     rw[List.drop_eq_nil_of_le (by rw[←HL.out];exact Nat.le_refl _),U.flowGo_nil,List.append_nil] at h2
     exact h2
   have HA:=Lib.hid hacc
   clear H hacc hz
   go_wp2_with fail
   refine (String_k B B acc wr hI (by omega)).mono ?_
   rintro e W1 ⟨rfl,b1⟩
   go_wp2
   go_ret
   exact ⟨by rw[←HA.out];rfl,by rw[←HBB.out];exact hb.trans b1⟩
end Go.Proofs.YthcmkpiajkbpnaaGreatDoor
namespace Go.Proofs.YthcmkpiajkbpnaaGreatDoor
open Go.RowKit
theorem zero_cells (m:Nat):Builtin.zeroCells (Value.string ByteArray.empty).cells m=(List.replicate m (Value.string ByteArray.empty)).toArray:=by
 apply Array.ext'
 apply List.ext_getElem
 ·simp[Builtin.zeroCells,Value.cells]
 ·intro k h1 h2
  simp[Builtin.zeroCells,Value.cells,Nat.mod_one]
theorem run_int (P:Program) (k:IntKind) (n:Int) (w:World):(asInt (.int k n)).run P w=.ok n w:=by simp[asInt,asIntOf]
theorem run_zeros_room {P:Program} (w:World) (t u ty e:TypeId) (i:TypeInfo) (k:IntKind) (ht:P.underlying t=some (.slice e)) (hu:P.underlying u=some (.int k)) (hi:P.info? e=some i) (hz:i.zero=some (.string ByteArray.empty)) (h1:i.size=1) (hb:i.bytes=16)
  (g n cap:Nat) (cur:Array Value) (hg:w.heap[g]?=some (.cells cur e (0,0))) (m:Nat) (hm:m≤1000000000) (hroom:n+m≤cap) (hfit:n+m≤cur.size) :
  (Builtin.append_ #[t,u] ty #[.slice (some ⟨g,0,none⟩) n cap,.int .i64 (m:Int)]).run P w =
   .ok (.slice (some ⟨g,0,none⟩) (n+m) cap) (w.setRow g (cur.toList.take n++List.replicate m (Value.string ByteArray.empty)++cur.toList.drop (n+m)).toArray):=by
 have hst:=run_storeCells_at (P:=P) g n e (List.replicate m (Value.string ByteArray.empty)) 0 cur w hg (by simpa using hfit) (by intro u hu;rw[List.mem_replicate] at hu;rw[hu.2];rfl)
 simp only[Nat.add_zero,List.length_replicate] at hst
 have hw:IntKind.i64.wrap (m:Int)=(m:Int):=by rw[IntKind.wrap_i64];omega
 have h0:¬ ((m:Int)<0):=by omega
 have h48:¬ (281474976710656<(m:Int)*16):=by omega
 by_cases hm0:m=0
 ·subst hm0
  simp only[List.replicate_zero,List.append_nil,Nat.add_zero,List.take_append_drop,Array.toArray_toList] at hst ⊢
  simp[Builtin.append_,run_underlying ht,run_underlying hu,sizeOf,typeInfo,hi,run_int,hb,h1,Addr.add_lit,show IntKind.i64.wrap 0=0 from rfl,show n≤cap by omega,hst]
 ·simp[Builtin.append_,run_underlying ht,run_underlying hu,sizeOf,typeInfo,hi,run_int,hw,h0,hb,h1,h48,hroom,hm0,Addr.add_lit,zeroValue,hz,zero_cells,hst]
theorem run_zeros_grow {P:Program} (w:World) (t u ty e:TypeId) (i:TypeInfo) (k:IntKind) (ht:P.underlying t=some (.slice e)) (hu:P.underlying u=some (.int k)) (hi:P.info? e=some i) (hz:i.zero=some (.string ByteArray.empty)) (h1:i.size=1) (hb:i.bytes=16)
  (b:Addr) (n cap:Nat) (olds:List Value) (hlo:olds.length=n) (holds:∀ j v,olds[j]?=some v→w.cell? (b.add j)=some v) (m:Nat) (hm:n+m≤2000000000) (hroom:cap<n+m) :
  (Builtin.append_ #[t,u] ty #[.slice (some b) n cap,.int .i64 (m:Int)]).run P w =
   .ok (.slice (some ⟨w.heap.size,0,none⟩) (n+m) (grownCap w (n+m) cap e)) (w.drew.alloc (.cells (olds.toArray++(List.replicate m (Value.string ByteArray.empty)).toArray++Builtin.zeroCells (Value.string ByteArray.empty).cells (grownCap w (n+m) cap e-(n+m))) e)):=by
 have hw:IntKind.i64.wrap (m:Int)=(m:Int):=by rw[IntKind.wrap_i64];omega
 have h0:¬ ((m:Int)<0):=by omega
 have h48:¬ (281474976710656<(m:Int)*16):=by omega
 have hfit:=growslice_fits (need:=n+m) (old:=cap) (bytes:=16) hroom (by omega)
 have h48':¬ (281474976710656<Builtin.nextslicecap (n+m) cap*16):=by omega
 have hn:¬ (n+m≤cap):=by omega
 have h63:¬ (9223372036854775807<((n:Int)+(m:Int))):=by omega
 have hfo:=run_firstCells_some (P:=P) w.drew 1 n b n cap olds (by omega) (by simpa using holds)
 by_cases hm0:m=0
 ·subst hm0
  have hn':¬ (n≤cap):=by omega
  have h63':¬ (9223372036854775807<(n:Int)):=by omega
  simp only[Nat.add_zero] at h48'
  simp[Builtin.append_,run_underlying ht,run_underlying hu,sizeOf,typeInfo,hi,run_int,hb,h1,hz,zeroValue,show IntKind.i64.wrap 0=0 from rfl,hn',h63',h48',Question.forced,hfo,newRow,grownCap]
 ·simp[Builtin.append_,run_underlying ht,run_underlying hu,sizeOf,typeInfo,hi,run_int,hw,h0,hb,h1,h48,hn,h63,h48',hm0,zeroValue,hz,zero_cells,Question.forced,hfo,newRow,grownCap]
theorem appendBlanks {ops:Array Oper} {rest:List Oper} {o:Oper} {a:Act} {Q:Exit→Act→World→Prop} {w:World} (hgd:o.guard=none) (s x:Operand)
  (ho:o.op=.call { callee:=.builtin .append,args:=#[s,x],argTypes:=#[37,3] })
  (B:Nat) (v:Value) (xs:List (List UInt8)) (m:Nat) (hs:a.eval s=v) (hx:a.eval x=.int .i64 (m:Int)) (hv:OutT B w v xs) (hp:0<xs.length) (hn:xs.length+m≤1000000000) (hB:B≤w.heap.size)
  (h:∀ v' w',OutT B w' v' (xs++U.blanksL m)→w.grownBy w' v.ownBlock→wpList Tryz.prog ops Q rest (a.put o.dst v') w'):wpList Tryz.prog ops Q (o :: rest) a w:=by
 obtain ⟨i,hi,hz,h1,hb⟩:=info_parts infoS
 have hu:=Tryz.underlying3
 have ht:=Tryz.underlying37
 have hbl:txts (U.blanksL m)=List.replicate m (Value.string ByteArray.empty):=by
  unfold txts U.blanksL
  rw[List.map_replicate]
  rfl
 have hlen:(xs++U.blanksL m).length=xs.length+m:=by rw[List.length_append];simp[U.blanksL]
 have key:∃ v' w',(Builtin.append_ #[37,3] o.type #[v,.int .i64 (m:Int)]).run Tryz.prog w=.ok v' w'∧OutT B w' v' (xs++U.blanksL m)∧w.grownBy w' v.ownBlock:=by
  obtain ⟨g0,hv2⟩:=hv
  rcases hv2 with ⟨_,hn0⟩|⟨g,cap,cur,rfl,hg,hh,hnc,hcm,hcs,htake⟩
  ·omega
  by_cases hroom:xs.length+m≤cap
  ·have hr:=run_zeros_room (P:=Tryz.prog) w 37 3 o.type 9 i _ ht hu hi hz h1 hb g xs.length cap cur hh m (by omega) hroom (by omega)
   refine ⟨_,_,hr,⟨?_,.inr ⟨g,cap,_,?_,hg,setRow_heap w g cur _ 9 _ hh,?_,hcm,?_,?_⟩⟩,⟨rfl,rfl,rfl,by simp,fun k _ hk=>setRow_other w g k _ (fun e=>hk (by simp[Value.ownBlock,e]))⟩⟩
   ·rw[txts_length];omega
   ·rw[hlen]
   ·rw[hlen];exact hroom
   ·simp;omega
   ·rw[hlen,txts_append,hbl,←htake,Nat.mul_one]
    simp
    rw[←List.append_assoc]
    exact List.take_left' (by simp;omega)
  ·have holds:∀ j u,(txts xs)[j]?=some u→w.cell? ((⟨g,0,none⟩:Addr).add j)=some u:=World.ownsRow.cells (base:=B) (e:=9) (size:=1) (v:=.slice (some ⟨g,0,none⟩) xs.length cap) (n:=xs.length) ⟨g0,.inr ⟨g,cap,cur,rfl,hg,hh,hnc,hcm,hcs,htake⟩⟩ (g:=g) rfl
   have hr:=run_zeros_grow (P:=Tryz.prog) w 37 3 o.type 9 i _ ht hu hi hz h1 hb ⟨g,0,none⟩ xs.length cap (txts xs) (txts_length _) holds m (by omega) (by omega)
   have hge:=grownCap_ge w (xs.length+m) cap 9
   have hcm2:grownCap w (xs.length+m) cap 9≤maxLen:=grownCap_le_maxLen w (xs.length+m) cap 9 (by unfold maxLen;omega)
   refine ⟨_,_,hr,⟨?_,.inr ⟨w.heap.size,_,_,?_,hB,heap_alloc_new w.drew _,?_,hcm2,?_,?_⟩⟩,⟨rfl,rfl,rfl,by simp,fun k hk _=>heap_alloc_old w.drew _ hk⟩⟩
   ·rw[txts_length];omega
   ·rw[hlen]
   ·rw[hlen];exact hge
   ·rw[zero_cells];simp[txts_length];omega
   ·rw[hlen,txts_append,hbl,zero_cells]
    simp
    rw[←List.replicate_append_replicate,←List.append_assoc]
    exact List.take_left' (by simp[txts_length])
 obtain ⟨v',w',hr,h2,h3⟩:=key
 refine wpList_plain hgd fun K hK=>?_
 unfold Oper.wp execOp
 simp only[ho,resolve,invoke,builtin,Sem.run_bind,Sem.run_pure,Result.andThen_ok,List.map_toArray,List.map_cons,List.map_nil,hs,hx,hr]
 exact hK _ _ (h v' w' h2 h3)
end Go.Proofs.YthcmkpiajkbpnaaGreatDoor

/- Parts of the proof, put together from smaller texts (blanks that Lean does not want are struck). Conditions: those that each theorem writes out. -/
import Derived.Lib.TrimAscii
import Derived.Test.YthcmkpiajkbpnaaGreatDoorZ00
import Derived.Test.YthcmkpiajkbpnaaGreatDoorZ01
import Derived.Test.YthcmkpiajkbpnaaGreatDoorZ03
namespace Go.Proofs.YthcmkpiajkbpnaaGreatDoor
open Go.RowKit
set_option maxHeartbeats 800000 in
theorem handValue_is (v:Int) (c:Nat) (w:World) (hc:c≤1114111) (h:U.cHexV c=v) :
  Calls Tryz.prog 164 #[.int .i32 (c:Int)] w fun e w'=>e=.returned (.int .i64 v)∧w=w':=by
 have H:=Lib.hid h
 clear h
 unfold U.cHexV at H
 rcases (show c<48∨(48≤c∧c≤57)∨(57<c∧c<65)∨(65≤c∧c≤70)∨(70<c∧c<97)∨(97≤c∧c≤102)∨102<c from by omega) with g|⟨g,g2⟩|⟨g,g2⟩|⟨g,g2⟩|⟨g,g2⟩|⟨g,g2⟩|g
 all_goals
  go_enter Tryz.func164,Tryz.ntmps164
  go_wp2
  go_ret
  refine ⟨congrArg (fun z:Int=>Ending.returned (.int .i64 z)) (?_:_=v),rfl⟩
  have H2:=H.out
  repeat' split at H2
  all_goals omega
set_option maxHeartbeats 800000 in
theorem handSuffixed_any (c:Int) (w:World) :
  Calls Tryz.prog 129 #[.int .u8 c] w fun e w'=>e=.returned (.bool (U.sfx c))∧w=w':=by
 cases hu:U.uri c with
 | false=>
  have F:=Lib.hid (show U.sfx c=false by unfold U.sfx;rw[hu];rfl)
  have HU:=Lib.hid hu
  clear hu
  go_enter Tryz.func129,Tryz.ntmps129
  go_wp2_with fail
  refine (Uri_is false c _ HU.out).mono ?_
  rintro e w1 ⟨rfl,rfl⟩
  go_wp2
  go_ret
  exact ⟨by rw[F.out];rfl,rfl⟩
 | true=>
  by_cases h33:c=33
  ·subst h33
   have F:=Lib.hid (show U.sfx 33=false by decide)
   have HU:=Lib.hid hu
   clear hu
   go_enter Tryz.func129,Tryz.ntmps129
   go_wp2_with fail
   refine (Uri_is true 33 _ HU.out).mono ?_
   rintro e w1 ⟨rfl,rfl⟩
   go_wp2
   go_ret
   exact ⟨by rw[F.out];rfl,rfl⟩
  ·have h33b:(c != 33)=true:=by simp[h33]
   have F:=Lib.hid (show U.sfx c=!(U.flow c) by unfold U.sfx;rw[hu,decide_eq_false h33];rfl)
   have HU:=Lib.hid hu
   clear hu h33
   go_enter Tryz.func129,Tryz.ntmps129
   go_wp2_with fail
   refine (Uri_is true c _ HU.out).mono ?_
   rintro e w1 ⟨rfl,rfl⟩
   go_wp2_with fail
   refine (Flow_any c _).mono ?_
   rintro e w1 ⟨rfl,rfl⟩
   go_wp2
   go_ret
   exact ⟨by rw[F.out];rfl,rfl⟩
theorem classUri:ClassF 127 U.uri:=⟨Tryz.call127,Uri_any⟩
theorem classWord:ClassF 128 U.wordc:=⟨Tryz.call128,Word_any⟩
theorem classSuffixed:ClassF 129 U.sfx:=⟨Tryz.call129,handSuffixed_any⟩
theorem decode_rune (s:ByteArray) (k:Nat):(Utf8.decode s k).1≤1114111:=by
 have h:=U.decodeL_scalar (s.data.toList.drop k)
 rw[Lib.decodeL_drop] at h
 unfold U.scalar at h
 rw[decide_eq_true_eq] at h
 omega
theorem decode_low (s:ByteArray) (k:Nat) (h:k<s.size):(byt s k<128∧(Utf8.decode s k).1=byt s k∧(Utf8.decode s k).2=1)∨(128≤byt s k∧128≤(Utf8.decode s k).1):=by
 by_cases ha:byt s k<128
 ·have:=decode_ascii s k h ha
  exact .inl ⟨ha,by rw[this],by rw[this]⟩
 ·refine .inr ⟨by omega,?_⟩
  cases hb:U.bad (s.data.toList.drop k) with
  | true=>rw[bad_width s k h hb];omega
  | false=>
   by_cases h1:(Utf8.decode s k).1<128
   ·have:=(decode13 s k h hb h1).1
    omega
   ·omega
set_option maxRecDepth 100000 in
set_option maxHeartbeats 1600000 in
theorem handRun_is {K:FuncId} {p:Int→Bool} (hK:ClassF K p) (hp:∀ c:Int,p c=true→c<128) (n:Nat) (s:ByteArray) (w:World) (hs:s.size≤1099511627776) (h:U.tR p 0 s.data.toList=n) :
  Calls Tryz.prog 126 #[.string s,.func (.func K) #[] #[]] w fun e w'=>e=.returned (.int .i64 (n:Int))∧Below w.heap.size w w':=by
 have HQ:=Lib.hid h
 have hC:=hK.enter
 have hb0:∀ pos,Below w.heap.size w (w.iter s pos):=fun pos=>(Below.refl _ _).alloc (Nat.le_refl _) _
 clear h
 go_enter Tryz.func126,Tryz.ntmps126
 go_wp2
 go_loopw [5,6] (fun e a w'=>∃ k en aw:Nat,e=.int .i64 (en:Int)∧a=.int .i64 (aw:Int)∧w'=w.iter s k∧k≤s.size∧aw≤2∧en+U.pend aw=k∧Hid (en+U.tR p aw (s.data.toList.drop k)=n)) (fun _ _ w'=>s.size-w'.iterPos w.heap.size)
 case atStart=>exact ⟨0,0,0,rfl,rfl,rfl,Nat.zero_le _,by omega,rfl,by show _=_;rw[List.drop_zero,HQ.out,Nat.zero_add]⟩
 case round=>
  obtain ⟨k,en,aw,rfl,rfl,rfl,hk,haw,hen,H⟩:=hrel
  by_cases hk2:k<s.size
  ·have hnx:∀ ty,(Instr.next (.pointer (some ⟨w.heap.size,0,none⟩)) true ty).run Tryz.prog (w.iter s k)=_:=fun ty=>run_next_any w s k ty hk2
   have hwd:=dec_pos s k
   have hle:=dec_le s k hk2
   have hxm:=decode_rune s k
   obtain ⟨b,hd,hb⟩:=drop_byte s k hk2
   have H2:=H.out
   rw[hd] at H2
   have hlow:=decode_low s k hk2
   obtain ⟨x,hx⟩:∃ x:Nat,x=(Utf8.decode s k).1:=⟨_,rfl⟩
   obtain ⟨d,hdd⟩:∃ d:Nat,d=(Utf8.decode s k).2:=⟨_,rfl⟩
   rw[←hx,←hdd] at hlow
   rw[←hx,←hdd] at hnx
   rw[←hdd] at hwd hle
   rw[←hx] at hxm
   have HXM:=Lib.hid hxm
   clear hx hdd hd H HQ hxm
   rcases hlow with ⟨hl,rfl,rfl⟩|⟨hl,hx128⟩
   ·rw[←hb] at hl hnx
    obtain ⟨x,hx⟩:∃ x:Nat,x=b.toNat:=⟨_,rfl⟩
    rw[←hx] at hl hnx
    clear HXM
    rcases U.three_of aw haw with rfl|rfl|rfl
    ·rw[U.tR_zero,←hx] at H2
     rw[U.pend0,Nat.add_zero] at hen
     subst hen
     cases hpx:p (x:Int) with
     | false=>
      rw[if_neg (by simp[hpx])] at H2
      have F:=Lib.hid H2
      have HP:=Lib.hid hpx
      clear H2 hpx hb hx
      go_wp2_with fail
      refine (hK.is false _ _ HP.out).mono ?_
      rintro e w1 ⟨rfl,rfl⟩
      go_wp2
      go_ret
      exact ⟨by rw[←F.out];rfl,hb0 _⟩
     | true=>
      rw[if_pos hpx] at H2
      have HP:=Lib.hid hpx
      by_cases h37:x=37
      ·rw[if_pos h37] at H2
       have F:=Lib.hid H2
       subst h37
       clear H2 hpx hb hx
       go_wp2_with fail
       refine (hK.is true _ _ HP.out).mono ?_
       rintro e w1 ⟨rfl,rfl⟩
       go_wp2
       go_roundw
       case rel=>exact ⟨en+1,en,2,rfl,rfl,rfl,by omega,Nat.le_refl _,rfl,F.out⟩
       case measure=>simp;omega
      ·rw[if_neg h37] at H2
       have h37b:((x:Int)==37)=false:=by simp;omega
       have F:=Lib.hid H2
       clear H2 hpx hb hx
       go_wp2_with fail
       refine (hK.is true _ _ HP.out).mono ?_
       rintro e w1 ⟨rfl,rfl⟩
       go_wp2
       go_roundw
       case rel=>exact ⟨en+1,en+1,0,by go_num,rfl,rfl,by omega,Nat.zero_le _,rfl,by show _=_;have:=F.out;omega⟩
       case measure=>simp;omega
    ·rw[U.pend1] at hen
     rw[U.tR_one] at H2
     obtain ⟨v,hv⟩:∃ v:Int,U.cHexV x=v:=⟨_,rfl⟩
     have hvr:=U.hexV_le x
     have hxi:=U.hx_iff b
     rw[←hx,hv] at hxi
     rw[hv] at hvr
     have HV:=Lib.hid hv
     by_cases hv0:0≤v
     ·rw[if_pos (hxi.2 hv0)] at H2
      have F:=Lib.hid H2
      clear H2 hxi hv hb hx
      go_wp2_with fail
      refine (handValue_is v x _ (by omega) HV.out).mono ?_
      rintro e w1 ⟨rfl,rfl⟩
      go_wp2
      go_roundw
      case rel=>exact ⟨k+1,k+1,0,by go_num,rfl,rfl,by omega,Nat.zero_le _,rfl,by show _=_;have:=F.out;omega⟩
      case measure=>simp;omega
     ·rw[if_neg (fun h=>hv0 (hxi.1 h))] at H2
      have F:=Lib.hid H2
      clear H2 hxi hv hb hx
      go_wp2_with fail
      refine (handValue_is v x _ (by omega) HV.out).mono ?_
      rintro e w1 ⟨rfl,rfl⟩
      go_wp2
      go_ret
      exact ⟨by rw[←F.out];rfl,hb0 _⟩
    ·rw[U.pend2] at hen
     rw[U.tR_two] at H2
     obtain ⟨v,hv⟩:∃ v:Int,U.cHexV x=v:=⟨_,rfl⟩
     have hvr:=U.hexV_le x
     have hxi:=U.hx_iff b
     rw[←hx,hv] at hxi
     rw[hv] at hvr
     have HV:=Lib.hid hv
     by_cases hv0:0≤v
     ·rw[if_pos (hxi.2 hv0)] at H2
      have F:=Lib.hid H2
      clear H2 hxi hv hb hx
      go_wp2_with fail
      refine (handValue_is v x _ (by omega) HV.out).mono ?_
      rintro e w1 ⟨rfl,rfl⟩
      go_wp2
      go_roundw
      case rel=>exact ⟨k+1,en,1,rfl,rfl,rfl,by omega,by omega,by rw[U.pend1];omega,F.out⟩
      case measure=>simp;omega
     ·rw[if_neg (fun h=>hv0 (hxi.1 h))] at H2
      have F:=Lib.hid H2
      clear H2 hxi hv hb hx
      go_wp2_with fail
      refine (handValue_is v x _ (by omega) HV.out).mono ?_
      rintro e w1 ⟨rfl,rfl⟩
      go_wp2
      go_ret
      exact ⟨by rw[←F.out];rfl,hb0 _⟩
   ·rw[←hb] at hl
    have hv:=U.hexV_great x hx128
    rcases U.three_of aw haw with rfl|rfl|rfl
    ·have hpb:¬ (p (b.toNat:Int)=true):=fun h=>by have:=hp _ h;omega
     rw[U.tR_zero,if_neg hpb] at H2
     have F:=Lib.hid H2
     clear H2 hpb hb hv
     go_wp2
     go_ret
     exact ⟨by rw[←F.out];rfl,hb0 _⟩
    ·have hxb:¬ (U.hx b=true):=fun h=>by have:=U.hx_range h;omega
     rw[U.tR_one,if_neg hxb] at H2
     have F:=Lib.hid H2
     have HV:=Lib.hid hv
     clear H2 hxb hb hv
     go_wp2_with fail
     refine (handValue_is (-1) x _ HXM.out HV.out).mono ?_
     rintro e w1 ⟨rfl,rfl⟩
     go_wp2
     go_ret
     exact ⟨by rw[←F.out];rfl,hb0 _⟩
    ·have hxb:¬ (U.hx b=true):=fun h=>by have:=U.hx_range h;omega
     rw[U.tR_two,if_neg hxb] at H2
     have F:=Lib.hid H2
     have HV:=Lib.hid hv
     clear H2 hxb hb hv
     go_wp2_with fail
     refine (handValue_is (-1) x _ HXM.out HV.out).mono ?_
     rintro e w1 ⟨rfl,rfl⟩
     go_wp2
     go_ret
     exact ⟨by rw[←F.out];rfl,hb0 _⟩
  ·have hnx:∀ ty,(Instr.next (.pointer (some ⟨w.heap.size,0,none⟩)) true ty).run Tryz.prog (w.iter s k)=_:=fun ty=>run_next_end w s k ty hk2
   have H2:=H.out
   rw[List.drop_eq_nil_of_le (by rw[←Lib.size_eq];omega),U.tR_nil] at H2
   have F:=Lib.hid (show en=n by omega)
   clear H2
   go_wp2
   go_ret
   exact ⟨by rw[←F.out];rfl,hb0 k⟩
end Go.Proofs.YthcmkpiajkbpnaaGreatDoor
namespace Go.Proofs.YthcmkpiajkbpnaaGreatDoor
open Go.RowKit
theorem handDrop (s:ByteArray) (k:Nat):(s.extract k s.size).data.toList=s.data.toList.drop k:=by
 rw[Lib.extract_data,List.take_of_length_le]
 rw[List.length_drop,Lib.size_eq];exact Nat.le_refl _
theorem handDrop_size (s:ByteArray) (k:Nat):(s.extract k s.size).size=s.size-k:=by
 rw[ByteArray.size_extract];omega
theorem uri_low:∀ c:Int,U.uri c=true→c<128:=fun _ h=>(U.uri_ascii h).2
theorem wordc_low:∀ c:Int,U.wordc c=true→c<128:=fun _ h=>(U.wordc_ascii h).2.1
theorem sfx_low:∀ c:Int,U.sfx c=true→c<128:=fun _ h=>(U.sfx_ascii h).2
theorem runUri_is (m k:Nat) (s:ByteArray) (w:World) (hs:s.size≤1099511627776) (h:U.tR U.uri 0 (s.data.toList.drop k)=m) :
  Calls Tryz.prog 126 #[.string (s.extract k s.size),.func (.func 127) #[] #[]] w fun e w'=>e=.returned (.int .i64 (m:Int))∧Below w.heap.size w w':=
 handRun_is classUri uri_low m _ w (by rw[handDrop_size];omega) (by rw[handDrop];exact h)
theorem runWord_is (m k:Nat) (s:ByteArray) (w:World) (hs:s.size≤1099511627776) (h:U.tR U.wordc 0 (s.data.toList.drop k)=m) :
  Calls Tryz.prog 126 #[.string (s.extract k s.size),.func (.func 128) #[] #[]] w fun e w'=>e=.returned (.int .i64 (m:Int))∧Below w.heap.size w w':=
 handRun_is classWord wordc_low m _ w (by rw[handDrop_size];omega) (by rw[handDrop];exact h)
theorem runSfx_is (m k:Nat) (s:ByteArray) (w:World) (hs:s.size≤1099511627776) (h:U.tR U.sfx 0 (s.data.toList.drop k)=m) :
  Calls Tryz.prog 126 #[.string (s.extract k s.size),.func (.func 129) #[] #[]] w fun e w'=>e=.returned (.int .i64 (m:Int))∧Below w.heap.size w w':=
 handRun_is classSuffixed sfx_low m _ w (by rw[handDrop_size];omega) (by rw[handDrop];exact h)
theorem run_le (p:Int→Bool) (s:ByteArray) (k:Nat):U.tR p 0 (s.data.toList.drop k)≤s.size-k:=by
 have:=U.tR_le0 p (s.data.toList.drop k)
 rwa [List.length_drop,←Lib.size_eq] at this
theorem headD_byte {s:ByteArray} {k:Nat} (h:k<s.size) (c:UInt8):(s.data.toList.drop k).headD 0=c↔byt s k=c.toNat:=by
 obtain ⟨b,hd,hb⟩:=drop_byte s k h
 rw[hd,←hb]
 exact ⟨fun e=>by rw[show b=c from e],fun e=>UInt8.toNat_inj.1 e⟩
theorem headD_over {s:ByteArray} {k:Nat} (h:s.size≤k):(s.data.toList.drop k).headD 0=0:=by
 rw[List.drop_eq_nil_of_le (by rw[←Lib.size_eq];exact h)];rfl
set_option maxHeartbeats 800000 in
theorem handBracketed_is (n:Nat) (s:ByteArray) (w:World) (hs:s.size≤1099511627776) (h:U.tBrac (s.data.toList.drop 1)=n) :
  Calls Tryz.prog 87 #[.string s] w fun e w'=>e=.returned (.int .i64 (n:Int))∧Below w.heap.size w w':=by
 by_cases h2:s.size<2
 ·have hz:n=0:=by
   rw[←h]
   cases hl:s.data.toList.drop 1 with
   | nil=>rfl
   | cons b m=>
    have:=congrArg List.length hl
    rw[List.length_drop,←Lib.size_eq,List.length_cons] at this
    omega
  subst hz
  clear h
  go_enter Tryz.func87,Tryz.ntmps87
  go_wp2
  go_ret
  exact ⟨rfl,Below.refl _ _⟩
 ·obtain ⟨b,hd,hb⟩:=drop_byte s 1 (by omega)
  have hi:=run_byt s 1 (by omega) 1 rfl
  rw[hd,U.tBrac_cons,show 1+1=2 from rfl] at h
  have hml:=run_le U.uri s 2
  obtain ⟨m,hm⟩:∃ m,U.tR U.uri 0 (s.data.toList.drop 2)=m:=⟨_,rfl⟩
  have HM:=Lib.hid hm
  rw[hm,hb,List.drop_drop] at h
  rw[hm] at hml
  obtain ⟨x,hx⟩:∃ x:Nat,x=byt s 1:=⟨_,rfl⟩
  rw[←hx] at hi h
  clear hd hb hx hm
  by_cases h60:x=60
  ·subst h60
   by_cases hm0:m=0
   ·rw[if_neg (by omega)] at h
    subst h
    subst hm0
    go_enter Tryz.func87,Tryz.ntmps87
    go_wp2_with fail
    refine (runUri_is 0 2 s _ hs HM.out).mono ?_
    rintro e w1 ⟨rfl,b1⟩
    go_wp2
    go_ret
    exact ⟨rfl,b1⟩
   ·by_cases he:2+m=s.size
    ·rw[if_neg (by intro hh;rw[headD_over (by omega)] at hh;exact absurd hh.2.2 (by decide))] at h
     subst h
     have he2:((2:Int)+(m:Int)==(s.size:Int))=true:=by simp;omega
     go_enter Tryz.func87,Tryz.ntmps87
     go_wp2_with fail
     refine (runUri_is m 2 s _ hs HM.out).mono ?_
     rintro e w1 ⟨rfl,b1⟩
     go_wp2
     go_ret
     exact ⟨rfl,b1⟩
    ·have hi2:=run_byt s (2+m) (by omega) (2+(m:Int)) (by omega)
     have hI:(s.data.toList.drop (2+m)).headD 0=62↔byt s (2+m)=62:=headD_byte (by omega) 62
     obtain ⟨y,hy⟩:∃ y:Nat,y=byt s (2+m):=⟨_,rfl⟩
     rw[←hy] at hi2 hI
     clear hy
     have hb2:((2:Int)+(m:Int)==2)=false:=by simp;omega
     have hb3:((2:Int)+(m:Int)==(s.size:Int))=false:=by simp;omega
     by_cases h62:y=62
     ·rw[if_pos ⟨rfl,by omega,hI.2 h62⟩] at h
      subst h
      subst h62
      clear hI
      go_enter Tryz.func87,Tryz.ntmps87
      go_wp2_with fail
      refine (runUri_is m 2 s _ hs HM.out).mono ?_
      rintro e w1 ⟨rfl,b1⟩
      go_wp2
      go_ret
      exact ⟨congrArg (fun z:Int=>Ending.returned (.int .i64 z)) (by omega),b1⟩
     ·rw[if_neg (fun hh=>h62 (hI.1 hh.2.2))] at h
      subst h
      have hyb:((y:Int) != 62)=true:=by simp;omega
      clear hI
      go_enter Tryz.func87,Tryz.ntmps87
      go_wp2_with fail
      refine (runUri_is m 2 s _ hs HM.out).mono ?_
      rintro e w1 ⟨rfl,b1⟩
      go_wp2
      go_ret
      exact ⟨rfl,b1⟩
  ·rw[if_neg (fun hh=>h60 hh.1)] at h
   subst h
   have hxb:((x:Int) != 60)=true:=by simp;omega
   clear HM
   go_enter Tryz.func87,Tryz.ntmps87
   go_wp2
   go_ret
   exact ⟨rfl,Below.refl _ _⟩
set_option maxHeartbeats 800000 in
theorem handParts_is (a b:Nat) (s:ByteArray) (w:World) (hs:s.size≤1099511627776) (h1:1≤s.size) (h:U.tHand (s.data.toList.drop 1)=(a,b)) :
  Calls Tryz.prog 88 #[.string s] w fun e w'=>e=.returned (.tuple #[.int .i64 (a:Int),.int .i64 (b:Int)])∧Below w.heap.size w w':=by
 have hnl:=run_le U.wordc s 1
 obtain ⟨n,hn⟩:∃ n,U.tR U.wordc 0 (s.data.toList.drop 1)=n:=⟨_,rfl⟩
 obtain ⟨q,hq⟩:∃ q,U.tR U.sfx 0 (s.data.toList.drop 1)=q:=⟨_,rfl⟩
 obtain ⟨m,hm⟩:∃ m,U.tR U.sfx 0 (s.data.toList.drop (1+(n+1)))=m:=⟨_,rfl⟩
 unfold U.tHand at h
 rw[hn,List.drop_drop,List.drop_drop,hm,hq] at h
 rw[hn] at hnl
 have hml:=run_le U.sfx s (1+(n+1))
 rw[hm] at hml
 have HN:=Lib.hid hn
 have HQ:=Lib.hid hq
 have HM:=Lib.hid hm
 clear hn hq hm
 by_cases he:1+n<s.size
 ·have hi:=run_byt s (1+n) he (1+(n:Int)) (by omega)
  have hI:(s.data.toList.drop (1+n)).headD 0=33↔byt s (1+n)=33:=headD_byte he 33
  obtain ⟨y,hy⟩:∃ y:Nat,y=byt s (1+n):=⟨_,rfl⟩
  rw[←hy] at hi hI
  clear hy
  by_cases h33:y=33
  ·by_cases hm0:0<m
   ·rw[if_pos ⟨hI.2 h33,hm0⟩] at h
    obtain ⟨rfl,rfl⟩:=Prod.mk.inj h
    subst h33
    clear h hI
    have HM2:Hid (U.tR U.sfx 0 (s.data.toList.drop (n+2))=m):=by
     have:=HM.out
     rw[show 1+(n+1)=n+2 by omega] at this
     exact this
    go_enter Tryz.func88,Tryz.ntmps88
    go_wp2_with fail
    refine (runWord_is n 1 s _ hs HN.out).mono ?_
    rintro e w1 ⟨rfl,b1⟩
    go_wp2_with fail
    refine (runSfx_is m _ s _ hs HM.out).mono ?_
    rintro e w2 ⟨rfl,b2⟩
    go_wp2
    go_ret2
    exact ⟨congrArg (fun z:Int=>Ending.returned (.tuple #[.int .i64 z,.int .i64 (m:Int)])) (by omega),tb2 b1 b2⟩
   ·rw[if_neg (fun hh=>hm0 hh.2)] at h
    obtain ⟨rfl,rfl⟩:=Prod.mk.inj h
    obtain rfl:m=0:=by omega
    subst h33
    clear h hI
    go_enter Tryz.func88,Tryz.ntmps88
    go_wp2_with fail
    refine (runWord_is n 1 s _ hs HN.out).mono ?_
    rintro e w1 ⟨rfl,b1⟩
    go_wp2_with fail
    refine (runSfx_is 0 _ s _ hs HM.out).mono ?_
    rintro e w2 ⟨rfl,b2⟩
    go_wp2_with fail
    refine (runSfx_is q 1 s _ hs HQ.out).mono ?_
    rintro e w3 ⟨rfl,b3⟩
    go_wp2
    go_ret2
    exact ⟨rfl,tb2 (tb2 b1 b2) b3⟩
  ·rw[if_neg (fun hh=>h33 (hI.1 hh.1))] at h
   obtain ⟨rfl,rfl⟩:=Prod.mk.inj h
   have hyb:((y:Int)==33)=false:=by simp;omega
   clear h HM hI
   go_enter Tryz.func88,Tryz.ntmps88
   go_wp2_with fail
   refine (runWord_is n 1 s _ hs HN.out).mono ?_
   rintro e w1 ⟨rfl,b1⟩
   go_wp2_with fail
   refine (runSfx_is q 1 s _ hs HQ.out).mono ?_
   rintro e w3 ⟨rfl,b3⟩
   go_wp2
   go_ret2
   exact ⟨rfl,tb2 b1 b3⟩
 ·rw[headD_over (by omega),if_neg (fun hh=>absurd hh.1 (by decide))] at h
  obtain ⟨rfl,rfl⟩:=Prod.mk.inj h
  clear h HM
  go_enter Tryz.func88,Tryz.ntmps88
  go_wp2_with fail
  refine (runWord_is n 1 s _ hs HN.out).mono ?_
  rintro e w1 ⟨rfl,b1⟩
  go_wp2_with fail
  refine (runSfx_is q 1 s _ hs HQ.out).mono ?_
  rintro e w3 ⟨rfl,b3⟩
  go_wp2
  go_ret2
  exact ⟨rfl,tb2 b1 b3⟩
end Go.Proofs.YthcmkpiajkbpnaaGreatDoor
namespace Go.Proofs.YthcmkpiajkbpnaaGreatDoor
open Go.RowKit
def hSize (s:ByteArray) (at':Int):Nat:=if at'<0 then 0 else U.tSize (s.data.toList.drop at'.toNat)
theorem hSize_in (s:ByteArray) (k:Nat):hSize s (k:Int)=U.tSize (s.data.toList.drop k):=by
 unfold hSize
 rw[if_neg (by omega)]
 rfl
theorem hSize_out (s:ByteArray) (at':Int) (h:at'<0∨(s.size:Int)≤at'):hSize s at'=0:=by
 unfold hSize
 split
 ·rfl
 ·rw[List.drop_eq_nil_of_le (by rw[←Lib.size_eq];omega)];rfl
theorem hSize_zero (s:ByteArray):hSize s 0=U.tSize s.data.toList:=by
 have:=hSize_in s 0
 rwa [List.drop_zero] at this
set_option maxHeartbeats 800000 in
theorem handSize_is (n:Nat) (s:ByteArray) (at':Int) (w:World) (hs:s.size≤1099511627776) (h:hSize s at'=n) :
  Calls Tryz.prog 61 #[.string s,.int .i64 at'] w fun e w'=>e=.returned (.int .i64 (n:Int))∧Below w.heap.size w w':=by
 by_cases h1:at'<0
 ·rw[hSize_out s at' (.inl h1)] at h
  subst h
  go_enter Tryz.func61,Tryz.ntmps61
  go_wp2
  go_ret
  exact ⟨rfl,Below.refl _ _⟩
 by_cases h2:(s.size:Int)≤at'
 ·rw[hSize_out s at' (.inr h2)] at h
  subst h
  go_enter Tryz.func61,Tryz.ntmps61
  go_wp2
  go_ret
  exact ⟨rfl,Below.refl _ _⟩
 obtain ⟨k,rfl⟩:∃ k:Nat,at'=(k:Int):=⟨at'.toNat,by omega⟩
 have hk:k<s.size:=by omega
 rw[hSize_in] at h
 have hi:=run_byt s k hk _ rfl
 obtain ⟨b,hd,hb⟩:=drop_byte s k hk
 rw[hd,U.tSize_cons,hb] at h
 obtain ⟨x,hx⟩:∃ x:Nat,x=byt s k:=⟨_,rfl⟩
 rw[←hx] at hi h
 clear hd hb hx h1 h2
 by_cases h33:x=33
 ·rw[if_pos h33] at h
  subst h33
  obtain ⟨s1,hs1⟩:∃ s1,s.extract k s.size=s1:=⟨_,rfl⟩
  have hz1:s1.size=s.size-k:=by rw[←hs1];exact handDrop_size s k
  have hl1:s1.data.toList.drop 1=s.data.toList.drop (k+1):=by rw[←hs1,handDrop,List.drop_drop]
  rw[←hl1] at h
  obtain ⟨m,hm⟩:∃ m,U.tBrac (s1.data.toList.drop 1)=m:=⟨_,rfl⟩
  obtain ⟨a,b,hab⟩:∃ a b,U.tHand (s1.data.toList.drop 1)=(a,b):=⟨_,_,rfl⟩
  have hle:=U.tHand_le (s1.data.toList.drop 1)
  rw[hab,List.length_drop,←Lib.size_eq] at hle
  rw[hm,hab] at h
  have HM:=Lib.hid hm
  have HAB:=Lib.hid hab
  clear hl1 hm hab
  by_cases hm0:0<m
  ·rw[if_pos hm0] at h
   subst h
   go_enter Tryz.func61,Tryz.ntmps61
   go_wp2_with fail
   refine (handBracketed_is m s1 _ (by omega) HM.out).mono ?_
   rintro e w1 ⟨rfl,b1⟩
   go_wp2
   go_ret
   exact ⟨rfl,b1⟩
  ·rw[if_neg hm0] at h
   obtain rfl:m=0:=by omega
   subst h
   have hle2:a+b≤s1.size-1+1:=hle.2
   go_enter Tryz.func61,Tryz.ntmps61
   go_wp2_with fail
   refine (handBracketed_is 0 s1 _ (by omega) HM.out).mono ?_
   rintro e w1 ⟨rfl,b1⟩
   go_wp2_with fail
   refine (handParts_is a b s1 _ (by omega) (by omega) HAB.out).mono ?_
   rintro e w2 ⟨rfl,b2⟩
   go_wp2
   go_ret
   exact ⟨rfl,tb2 b1 b2⟩
 ·rw[if_neg h33] at h
  subst h
  have hxb:((x:Int) != 33)=true:=by simp;omega
  clear h33
  go_enter Tryz.func61,Tryz.ntmps61
  go_wp2
  go_ret
  exact ⟨rfl,Below.refl _ _⟩
theorem cat_data (a b:ByteArray):(a++b).data.toList=a.data.toList++b.data.toList:=by simp[ByteArray.data_append]
end Go.Proofs.YthcmkpiajkbpnaaGreatDoor
namespace Go.Proofs.YthcmkpiajkbpnaaGreatDoor.U
def tH (l:List UInt8):Nat:=if (l.drop (tR wordc 0 l)).headD 0=33 then tR wordc 0 l+2 else 1
end Go.Proofs.YthcmkpiajkbpnaaGreatDoor.U
namespace Go.Proofs.YthcmkpiajkbpnaaGreatDoor
open Go.RowKit
end Go.Proofs.YthcmkpiajkbpnaaGreatDoor
namespace Go.Proofs.YthcmkpiajkbpnaaGreatDoor.U
theorem stops_nil (p:Int→Bool):stops p []:=fun b r e=>absurd e (by simp)
theorem stops_cons {p:Int→Bool} {b:UInt8} {r:List UInt8} (h:p (b.toNat:Int)=false):stops p (b :: r):=fun c r' e=>by
 obtain ⟨rfl,_⟩:=List.cons.inj e
 exact h
theorem tR_whole {p:Int→Bool} {m:List UInt8} (h:tR p 0 m=m.length) (r:List UInt8) (hr:stops p r):tR p 0 (m++r)=m.length:=by
 have:=tR_take0 p m r hr
 rwa [h,List.take_length] at this
end Go.Proofs.YthcmkpiajkbpnaaGreatDoor.U
namespace Go.Proofs.YthcmkpiajkbpnaaGreatDoor.U
def tVer (l:List UInt8):Bool:=Lib.hasPrefix l [49,46]&&cAll cDig (l.drop 2)
def tHan (l:List UInt8):Bool:=decide (l.headD 0=33∧tH (l.drop 1)=l.length)
def tPfx (l:List UInt8):Bool:=!(flow ((l.headD 0).toNat:Int))&&decide (tR uri 0 l=l.length)
def yamlL:List UInt8:=[37,89,65,77,76]
def tagD:List UInt8:=[37,84,65,71]
def tForm (ws:List (List UInt8)):Bool:=
 if ws.getD 0 []=[37] then false
 else if ws.getD 0 []=yamlL then decide (ws.length=2)&&tVer (ws.getD 1 [])
 else if ws.getD 0 []=tagD then decide (ws.length=3)&&(tHan (ws.getD 1 [])&&tPfx (ws.getD 2 []))
 else true
def tRead (row:List UInt8):List UInt8 × List UInt8 × Bool × Int:=
 if row.headD 0=37∧tForm (tWords (tNote true row).1)=true then (Lib.join (tWords (tNote true row).1) [32],tCut ((tNote true row).2.drop 1),!(tNote true row).2.isEmpty,0)
 else ([],[],false,5)
def sameD (v w:List (List UInt8)):Bool:=
 decide (0<v.length)&&(decide (v.getD 0 []=w.getD 0 [])&&(decide (w.getD 0 []=yamlL)||(decide (w.getD 0 []=tagD)&&(decide (1<w.length)&&(decide (1<v.length)&&decide (v.getD 1 []=w.getD 1 []))))))
def tTwice (dirs:List (List UInt8)) (d:List UInt8):Bool:=decide (0<(tWords d).length)&&dirs.any fun x=>sameD (tWords x) (tWords d)
theorem trim_all (l:List UInt8):Lib.trimS l [48,49,50,51,52,53,54,55,56,57]=[]↔cRun cDig l=l.length:=by
 have hc:∀ b:UInt8,([48,49,50,51,52,53,54,55,56,57]:List UInt8).contains b=cDig (b.toNat:Int):=by
  intro b
  have H:∀ k:Fin 256,([48,49,50,51,52,53,54,55,56,57]:List UInt8).contains (UInt8.ofNat k.val)=cDig ((UInt8.ofNat k.val).toNat:Int):=by decide +kernel
  have:=H ⟨b.toNat,b.toNat_lt⟩
  simpa using this
 have drop_nil:∀ m:List UInt8,m.dropWhile ([48,49,50,51,52,53,54,55,56,57].contains ·)=[]↔∀ b∈m,cDig (b.toNat:Int)=true:=by
  intro m
  induction m with
  | nil=>simp
  | cons b m ih=>
   rw[List.dropWhile_cons,hc]
   cases hb:cDig (b.toNat:Int) with
   | true=>rw[if_pos rfl,ih];simp[hb]
   | false=>rw[if_neg (by decide)];simp[hb]
 have all:cRun cDig l=l.length↔∀ b∈l,cDig (b.toNat:Int)=true:=⟨cRun_len,cRun_all⟩
 rw[all]
 unfold Lib.trimS Lib.trimLeftS
 rw[drop_nil]
 unfold Lib.trimRightS
 constructor
 ·intro h
  have h2:l.reverse.dropWhile ([48,49,50,51,52,53,54,55,56,57].contains ·)=[]:=by
   cases hd:l.reverse.dropWhile ([48,49,50,51,52,53,54,55,56,57].contains ·) with
   | nil=>rfl
   | cons b m=>
    exfalso
    have h3:=h b (by rw[hd];simp)
    have h4:=List.head?_dropWhile_not ([48,49,50,51,52,53,54,55,56,57].contains ·) l.reverse
    rw[hd] at h4
    simp only[List.head?_cons,hc] at h4
    rw[h3] at h4
    exact absurd h4 (by decide)
  intro b hb
  exact (drop_nil l.reverse).1 h2 b (by simpa using hb)
 ·intro h b hb
  refine h b ?_
  have:=(List.dropWhile_sublist _).mem (List.mem_reverse.1 hb)
  simpa using this
theorem ver_prog (l:List UInt8):tVer l=(Lib.hasPrefix l [49,46]&&(!(l.drop 2).isEmpty&&decide (Lib.trimS (l.drop 2) [48,49,50,51,52,53,54,55,56,57]=[]))):=by
 unfold tVer cAll
 rw[show decide (Lib.trimS (l.drop 2) [48,49,50,51,52,53,54,55,56,57]=[])=decide (cRun cDig (l.drop 2)=(l.drop 2).length) from decide_eq_decide.2 (trim_all _)]
theorem suffix_last (m:List UInt8):Lib.hasSuffix m [33]=true↔∃ m1,m=m1++[33]:=by
 unfold Lib.hasSuffix
 rw[List.isSuffixOf_iff_suffix]
 constructor
 ·rintro ⟨t,rfl⟩;exact ⟨t,rfl⟩
 ·rintro ⟨t,rfl⟩;exact ⟨t,rfl⟩
theorem brac_none (m:List UInt8):¬ (0<tBrac (m++[97])∧tBrac (m++[97])=m.length+2):=by
 rintro ⟨h,he⟩
 cases m with
 | nil=>exact absurd h (by decide)
 | cons c m=>
  rw[List.cons_append,tBrac_cons] at he h
  split at he
  ·next hc=>
   have hk:tR uri 0 (m++[97])=m.length:=by rw[List.length_cons] at he;omega
   have h62:=hc.2.2
   rw[hk,List.drop_left] at h62
   exact absurd h62 (by decide)
  ·omega
theorem han_iff (w:List UInt8):(Lib.hasSuffix w [33]=true∧tSize (w++[97])=w.length+1)↔tHan w=true:=by
 unfold tHan
 rw[decide_eq_true_eq]
 cases w with
 | nil=>exact ⟨fun h=>absurd h.1 (by decide),fun h=>absurd h.1 (by decide)⟩
 | cons b m=>
  show _↔b=33∧tH m=m.length+1
  by_cases hb:b=33
  ·subst hb
   have e33:(33:UInt8).toNat=33:=rfl
   rw[List.cons_append,tSize_cons,if_pos e33,suffix_last,List.length_cons]
   by_cases hm:m=[]
   ·subst hm
    exact ⟨fun _=>⟨rfl,rfl⟩,fun _=>⟨⟨[],rfl⟩,by decide +kernel⟩⟩
   obtain ⟨k,hk⟩:∃ k,k=tR wordc 0 m:=⟨_,rfl⟩
   constructor
   ·rintro ⟨⟨m0,hm0⟩,hs⟩
    refine ⟨rfl,?_⟩
    obtain ⟨m1,rfl⟩:∃ m1,m=m1++[33]:=by
     cases m0 with
     | nil=>exact absurd (List.cons.inj hm0).2 hm
     | cons x m1=>exact ⟨m1,(List.cons.inj hm0).2⟩
    have hnb:=brac_none (m1++[33])
    by_cases hB:0<tBrac (m1++[33]++[97])
    ·rw[if_pos hB] at hs
     exact absurd ⟨hB,by rw[hs]⟩ hnb
    rw[if_neg hB] at hs
    have hlen:(m1++[33]).length=m1.length+1:=by simp
    rw[hlen] at hs ⊢
    have no33:∀ (k:Nat),k≤m1.length→tR sfx 0 ((m1++[33]++[97]).drop k)≠((m1++[33]++[97]).drop k).length:=by
     intro k hk2 h
     have:=sfx_no33 ((m1++[33]++[97]).drop k) 0 (by omega) 33 (by
      rw[pend0,Nat.sub_zero,h,List.take_length,List.append_assoc,List.drop_append_of_le_length hk2]
      simp)
     exact this rfl
    by_cases hc:((m1++[33]++[97]).drop (tR wordc 0 (m1++[33]++[97]))).headD 0=33∧0<tR sfx 0 ((m1++[33]++[97]).drop (tR wordc 0 (m1++[33]++[97])+1))
    ·have eh:tHand (m1++[33]++[97])=(tR wordc 0 (m1++[33]++[97])+2,tR sfx 0 ((m1++[33]++[97]).drop (tR wordc 0 (m1++[33]++[97])+1))):=by unfold tHand;rw[if_pos hc]
     rw[eh] at hs
     obtain ⟨q,hq⟩:∃ q,q=tR wordc 0 (m1++[33]++[97]):=⟨_,rfl⟩
     rw[←hq] at hs hc
     have hs:q+2+tR sfx 0 ((m1++[33]++[97]).drop (q+1))=m1.length+1+1+1:=hs
     have hlt:=(headD_pos (by decide) hc.1).1
     have hld:((m1++[33]++[97]).drop (q+1)).length=m1.length+2-(q+1):=by rw[List.length_drop];simp
     have hll:(m1++[33]++[97]).length=m1.length+2:=by simp
     rw[hll] at hlt
     have hq1:m1.length≤q:=by
      refine Decidable.byContradiction fun hn=>no33 (q+1) (by omega) ?_
      rw[hld];omega
     have hq2:q≠m1.length+1:=by
      intro h
      have h2:=hc.1
      rw[h,List.drop_append_of_le_length (by simp),List.drop_of_length_le (by simp)] at h2
      exact absurd h2 (by decide)
     have hq3:q=m1.length:=by omega
     have ht:=tR_take0 wordc (m1++[33]++[97]) [33] (stops_cons (by decide))
     rw[←hq,hq3,List.append_assoc,List.take_left] at ht
     unfold tH
     rw[ht,List.drop_left]
     rfl
    ·have eh:tHand (m1++[33]++[97])=(1,tR sfx 0 (m1++[33]++[97])):=by unfold tHand;rw[if_neg hc]
     rw[eh] at hs
     have hs:1+tR sfx 0 (m1++[33]++[97])=m1.length+1+1+1:=hs
     have:=no33 0 (Nat.zero_le _)
     rw[List.drop_zero] at this
     have hll:(m1++[33]++[97]).length=m1.length+2:=by simp
     exact absurd (by rw[hll];omega) this
   ·rintro ⟨-,hH⟩
    unfold tH at hH
    rw[←hk] at hH
    have hpos:=List.length_pos_iff.2 hm
    split at hH
    ·next h33=>
     obtain ⟨hkl,hd⟩:=headD_pos (by decide) h33
     have hkm:k+1=m.length:=by omega
     have hm1:m=m.take k++[33]:=by
      conv=>lhs;rw[←List.take_append_drop k m]
      rw[hd,List.drop_of_length_le (by omega)]
     have htl:(m.take k).length=k:=by rw[List.length_take];omega
     refine ⟨⟨33 :: m.take k,by rw[List.cons_append,←hm1]⟩,?_⟩
     have ht:tR wordc 0 (m++[97])=k:=by
      have:=tR_take0 wordc m ([33]++[97]) (stops_cons (by decide))
      rw[←hk,←List.append_assoc,←hm1] at this
      exact this
     have hb:¬ 0<tBrac (m++[97]):=by
      intro h
      have h60:=tBrac_head h
      cases m with
      | nil=>exact absurd rfl hm
      | cons c m2=>
       have hc:c=60:=h60
       subst hc
       have:k=0:=by rw[hk,tR_zero,if_neg (by decide)]
       subst this
       rw[List.drop_zero] at h33
       have h33:(60:UInt8)=33:=h33
       exact absurd h33 (by decide)
     have e1:(m++[97]).drop k=[33,97]:=by
      conv=>lhs;rw[hm1]
      rw[List.append_assoc,List.drop_append_of_le_length (by omega),List.drop_of_length_le (by omega)]
      rfl
     have e2:(m++[97]).drop (k+1)=[97]:=by rw[←List.drop_drop,e1];rfl
     have e3:tR sfx 0 [97]=1:=by decide +kernel
     rw[if_neg hb]
     unfold tHand
     rw[ht,e1,e2,e3,if_pos ⟨rfl,by omega⟩]
     show k+2+1=_
     omega
    ·omega
  ·refine ⟨fun h=>?_,fun h=>absurd h.1 hb⟩
   have h2:=h.2
   rw[List.cons_append,tSize_cons,if_neg (show ¬ b.toNat=33 from fun e=>hb (UInt8.toNat_inj.1 e))] at h2
   exact absurd h2.symm (Nat.succ_ne_zero _)
theorem pfx_iff {w:List UInt8} (hn:w≠[]):tSize (33 :: 60 :: (w++[62]))=w.length+3↔tR uri 0 w=w.length:=by
 have hpos:=List.length_pos_iff.2 hn
 rw[tSize_cons,if_pos (show (33:UInt8).toNat=33 from rfl),tHand_other _ rfl]
 constructor
 ·intro h
  split at h
  ·rw[tBrac_cons] at h
   split at h
   ·have hk:tR uri 0 (w++[62])=w.length:=by omega
    have:=tR_take0 uri (w++[62]) [] (stops_nil _)
    rw[hk,List.take_left,List.append_nil] at this
    exact this
   ·omega
  ·have h:1+0=w.length+3:=h
   omega
 ·intro h
  have hk:=tR_whole h [62] (stops_cons (show uri ((62:UInt8).toNat:Int)=false by decide))
  have e:tBrac (60 :: (w++[62]))=w.length+3:=by
   rw[tBrac_cons,hk,List.drop_left,if_pos ⟨rfl,hpos,rfl⟩]
  rw[e,if_pos (by omega)]
theorem words_ne {row:List UInt8} (h:row.headD 0=37):∃ w ws,tWords (tNote true row).1=(37 :: w) :: ws:=by
 cases row with
 | nil=>exact absurd h (by decide)
 | cons b l=>
  have hb:b=37:=h
  subst hb
  have e:tWord (37 :: l)=(37 :: l.takeWhile nw,l.dropWhile nw):=by
   rw[tWord_cons,if_neg (by decide),if_neg (by decide)]
  exact ⟨_,_,((split_step _ _ _ e).2 (by simp)).1⟩
end Go.Proofs.YthcmkpiajkbpnaaGreatDoor.U
namespace Go.Proofs.YthcmkpiajkbpnaaGreatDoor
open Go.RowKit
structure DT where
 head:Coms
 dirs:List (List UInt8)
 mark:Bool
 root:NT
 foot:Coms
def bgnN (s:ByteArray) (p:Nat) (kd:Int) (c:Nat):Nat:=if s.size≤p then 0 else if kd=4 then 1 else if byt s p=37∧c=0 then 2 else if kd=3 then 3 else 4
def bgnR (s:ByteArray) (p k:Nat):Prop:=∃ a b q,RowB s p a∧RowE s p b∧FirN s a b q∧k=bgnN s p (kindN s a b q) (p-a)
inductive SZ (s:ByteArray) (D:List DT) (T:Coms) (E C:Int):Nat→Nat→Coms→List (List UInt8)→List DT→Prop
 | skipX {g p H ds xs q c}:passR s p (.bad q c)→c≠0→D=[]→T=[]→E=((q:Nat):Int)→C=c→SZ s D T E C (g+1) p H ds xs
 | lacks {g p H ds xs L S q k}:passR s p (.ok (L,S,q))→ds≠[]→bgnR s q k→k≠2→k≠3→D=[]→T=[]→E=((q:Nat):Int)→C=5→SZ s D T E C (g+1) p H ds xs
 | over {g p H xs L S q}:passR s p (.ok (L,S,q))→bgnR s q 0→D=xs→T=H++L→E=0→C=0→SZ s D T E C (g+1) p H [] xs
 | dots {g p H xs L S q t L2 S2 C2}:passR s p (.ok (L,S,q))→bgnR s q 1→RowE s q t→NoteZ (cutB s t) false 0 ((q+3:Nat):Int) L2 S2 ((t:Nat):Int) C2→SZ s D T E C g (t+1) (H++L++L2) [] xs→SZ s D T E C (g+1) p H [] xs
 | dotsX {g p H xs L S q t L2 S2 q2 C2}:passR s p (.ok (L,S,q))→bgnR s q 1→RowE s q t→NoteZ (cutB s t) false 0 ((q+3:Nat):Int) L2 S2 ((q2:Nat):Int) C2→q2<t→D=[]→T=[]→E=((q2:Nat):Int)→C=5→SZ s D T E C (g+1) p H [] xs
 | dirX {g p H ds xs L S q t d cm has c}:passR s p (.ok (L,S,q))→bgnR s q 2→RowE s q t→U.tRead (pieceL s q t)=(d,cm,has,c)→c≠0→D=[]→T=[]→E=((q:Nat):Int)→C=c→SZ s D T E C (g+1) p H ds xs
 | dirTwo {g p H ds xs L S q t d cm has}:passR s p (.ok (L,S,q))→bgnR s q 2→RowE s q t→U.tRead (pieceL s q t)=(d,cm,has,0)→U.tTwice ds d=true→D=[]→T=[]→E=((q:Nat):Int)→C=5→SZ s D T E C (g+1) p H ds xs
 | dir {g p H ds xs L S q t d cm has}:passR s p (.ok (L,S,q))→bgnR s q 2→RowE s q t→U.tRead (pieceL s q t)=(d,cm,has,0)→U.tTwice ds d=false→SZ s D T E C g (t+1) (H++L++if has=true then [(cm,0)] else []) (ds++[d]) xs→SZ s D T E C (g+1) p H ds xs
 | mark {g p H ds xs L S q x F e}:passR s p (.ok (L,S,q))→bgnR s q 3→TreeZ s ((q+3:Nat):Int) true (some x) F ((e:Nat):Int) 0→SZ s D T E C g e [] [] (xs++[⟨H++L,ds,true,x,F⟩])→SZ s D T E C (g+1) p H ds xs
 | markX {g p H ds xs L S q x F e c}:passR s p (.ok (L,S,q))→bgnR s q 3→TreeZ s ((q+3:Nat):Int) true x F e c→c≠0→D=[]→T=[]→E=e→C=c→SZ s D T E C (g+1) p H ds xs
 | bare {g p H xs L S q x F e}:passR s p (.ok (L,S,q))→bgnR s q 4→TreeZ s ((p:Nat):Int) false (some x) F ((e:Nat):Int) 0→SZ s D T E C g e [] [] (xs++[⟨H,[],false,x,F⟩])→SZ s D T E C (g+1) p H [] xs
 | bareX {g p H xs L S q x F e c}:passR s p (.ok (L,S,q))→bgnR s q 4→TreeZ s ((p:Nat):Int) false x F e c→c≠0→D=[]→T=[]→E=e→C=c→SZ s D T E C (g+1) p H [] xs
def StreZ (s:ByteArray) (D:List DT) (T:Coms) (E C:Int):Prop:=∃ g,g≤20000∧SZ s D T E C g 0 [] [] []
end Go.Proofs.YthcmkpiajkbpnaaGreatDoor

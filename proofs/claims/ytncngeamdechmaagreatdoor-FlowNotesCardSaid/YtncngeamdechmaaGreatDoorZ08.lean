/- Parts of the proof, put together from smaller texts (blanks that Lean does not want are struck). Conditions: those that each theorem writes out. -/
import Derived.Deep.DeepCutAuto
import Derived.Deep.LoopGhost
import Derived.Test.YtncngeamdechmaaGreatDoorZ00
import Derived.Test.YtncngeamdechmaaGreatDoorZ01
import Derived.Test.YtncngeamdechmaaGreatDoorZ02
import Derived.Test.YtncngeamdechmaaGreatDoorZ05
import Derived.Test.YtncngeamdechmaaGreatDoorZ07
namespace Go.Proofs.YtncngeamdechmaaGreatDoor
open Go.RowKit
theorem handDrop (s:ByteArray) (k:Nat):(s.extract k s.size).data.toList=s.data.toList.drop k:=by
 rw[Lib.extract_data,List.take_of_length_le]
 rw[List.length_drop,Lib.size_eq];exact Nat.le_refl _
theorem handDrop_size (s:ByteArray) (k:Nat):(s.extract k s.size).size=s.size-k:=by
 rw[ByteArray.size_extract];omega
theorem uri_low:∀ c:Int,U.uri c=true→c<128:=fun _ h=>(U.uri_ascii h).2
theorem wordc_low:∀ c:Int,U.wordc c=true→c<128:=fun _ h=>(U.wordc_ascii h).2.1
theorem sfx_low:∀ c:Int,U.sfx c=true→c<128:=fun _ h=>(U.sfx_ascii h).2
theorem runUri_is (m k:Nat) (s:ByteArray) (w:World) (hs:s.size≤1099511627776) (h:U.tR U.uri 0 (s.data.toList.drop k)=m) :
  Calls Tryz.prog 88 #[.string (s.extract k s.size),.func (.func 89) #[] #[]] w fun e w'=>e=.returned (.int .i64 (m:Int))∧Below w.heap.size w w':=
 handRun_is classUri uri_low m _ w (by rw[handDrop_size];omega) (by rw[handDrop];exact h)
theorem runWord_is (m k:Nat) (s:ByteArray) (w:World) (hs:s.size≤1099511627776) (h:U.tR U.wordc 0 (s.data.toList.drop k)=m) :
  Calls Tryz.prog 88 #[.string (s.extract k s.size),.func (.func 90) #[] #[]] w fun e w'=>e=.returned (.int .i64 (m:Int))∧Below w.heap.size w w':=
 handRun_is classWord wordc_low m _ w (by rw[handDrop_size];omega) (by rw[handDrop];exact h)
theorem runSfx_is (m k:Nat) (s:ByteArray) (w:World) (hs:s.size≤1099511627776) (h:U.tR U.sfx 0 (s.data.toList.drop k)=m) :
  Calls Tryz.prog 88 #[.string (s.extract k s.size),.func (.func 91) #[] #[]] w fun e w'=>e=.returned (.int .i64 (m:Int))∧Below w.heap.size w w':=
 handRun_is classSuffixed sfx_low m _ w (by rw[handDrop_size];omega) (by rw[handDrop];exact h)
theorem run_le (p:Int→Bool) (s:ByteArray) (k:Nat):U.tR p 0 (s.data.toList.drop k)≤s.size-k:=by
 have:=U.tR_le0 p (s.data.toList.drop k)
 rwa [List.length_drop,←Lib.size_eq] at this
theorem headD_byte {s:ByteArray} {k:Nat} (h:k<s.size) (c:UInt8):(s.data.toList.drop k).headD 0=c↔byt s k=c.toNat:=by
 obtain ⟨b,hd,hb⟩:=drop_byte s k h
 rw[hd,←hb]
 exact ⟨fun e=>by rw[show b=c from e],fun e=>UInt8.toNat_inj.1 e⟩
theorem headD_over {s:ByteArray} {k:Nat} (h:s.size≤k):(s.data.toList.drop k).headD 0=0:=by
 rw[List.drop_eq_nil_of_le (by rw[←Lib.size_eq];exact h)];rfl
set_option maxHeartbeats 800000 in
theorem handBracketed_is (n:Nat) (s:ByteArray) (w:World) (hs:s.size≤1099511627776) (h:U.tBrac (s.data.toList.drop 1)=n) :
  Calls Tryz.prog 63 #[.string s] w fun e w'=>e=.returned (.int .i64 (n:Int))∧Below w.heap.size w w':=by
 by_cases h2:s.size<2
 ·have hz:n=0:=by
   rw[←h]
   cases hl:s.data.toList.drop 1 with
   | nil=>rfl
   | cons b m=>
    have:=congrArg List.length hl
    rw[List.length_drop,←Lib.size_eq,List.length_cons] at this
    omega
  subst hz
  clear h
  go_enter Tryz.func63,Tryz.ntmps63
  go_wp2
  go_ret
  exact ⟨rfl,Below.refl _ _⟩
 ·obtain ⟨b,hd,hb⟩:=drop_byte s 1 (by omega)
  have hi:=run_byt s 1 (by omega) 1 rfl
  rw[hd,U.tBrac_cons,show 1+1=2 from rfl] at h
  have hml:=run_le U.uri s 2
  obtain ⟨m,hm⟩:∃ m,U.tR U.uri 0 (s.data.toList.drop 2)=m:=⟨_,rfl⟩
  have HM:=Lib.hid hm
  rw[hm,hb,List.drop_drop] at h
  rw[hm] at hml
  obtain ⟨x,hx⟩:∃ x:Nat,x=byt s 1:=⟨_,rfl⟩
  rw[←hx] at hi h
  clear hd hb hx hm
  by_cases h60:x=60
  ·subst h60
   by_cases hm0:m=0
   ·rw[if_neg (by omega)] at h
    subst h
    subst hm0
    go_enter Tryz.func63,Tryz.ntmps63
    go_wp2_with fail
    refine (runUri_is 0 2 s _ hs HM.out).mono ?_
    rintro e w1 ⟨rfl,b1⟩
    go_wp2
    go_ret
    exact ⟨rfl,b1⟩
   ·by_cases he:2+m=s.size
    ·rw[if_neg (by intro hh;rw[headD_over (by omega)] at hh;exact absurd hh.2.2 (by decide))] at h
     subst h
     have he2:((2:Int)+(m:Int)==(s.size:Int))=true:=by simp;omega
     go_enter Tryz.func63,Tryz.ntmps63
     go_wp2_with fail
     refine (runUri_is m 2 s _ hs HM.out).mono ?_
     rintro e w1 ⟨rfl,b1⟩
     go_wp2
     go_ret
     exact ⟨rfl,b1⟩
    ·have hi2:=run_byt s (2+m) (by omega) (2+(m:Int)) (by omega)
     have hI:(s.data.toList.drop (2+m)).headD 0=62↔byt s (2+m)=62:=headD_byte (by omega) 62
     obtain ⟨y,hy⟩:∃ y:Nat,y=byt s (2+m):=⟨_,rfl⟩
     rw[←hy] at hi2 hI
     clear hy
     have hb2:((2:Int)+(m:Int)==2)=false:=by simp;omega
     have hb3:((2:Int)+(m:Int)==(s.size:Int))=false:=by simp;omega
     by_cases h62:y=62
     ·rw[if_pos ⟨rfl,by omega,hI.2 h62⟩] at h
      subst h
      subst h62
      clear hI
      go_enter Tryz.func63,Tryz.ntmps63
      go_wp2_with fail
      refine (runUri_is m 2 s _ hs HM.out).mono ?_
      rintro e w1 ⟨rfl,b1⟩
      go_wp2
      go_ret
      exact ⟨congrArg (fun z:Int=>Ending.returned (.int .i64 z)) (by omega),b1⟩
     ·rw[if_neg (fun hh=>h62 (hI.1 hh.2.2))] at h
      subst h
      have hyb:((y:Int) != 62)=true:=by simp;omega
      clear hI
      go_enter Tryz.func63,Tryz.ntmps63
      go_wp2_with fail
      refine (runUri_is m 2 s _ hs HM.out).mono ?_
      rintro e w1 ⟨rfl,b1⟩
      go_wp2
      go_ret
      exact ⟨rfl,b1⟩
  ·rw[if_neg (fun hh=>h60 hh.1)] at h
   subst h
   have hxb:((x:Int) != 60)=true:=by simp;omega
   clear HM
   go_enter Tryz.func63,Tryz.ntmps63
   go_wp2
   go_ret
   exact ⟨rfl,Below.refl _ _⟩
set_option maxHeartbeats 800000 in
theorem handParts_is (a b:Nat) (s:ByteArray) (w:World) (hs:s.size≤1099511627776) (h1:1≤s.size) (h:U.tHand (s.data.toList.drop 1)=(a,b)) :
  Calls Tryz.prog 64 #[.string s] w fun e w'=>e=.returned (.tuple #[.int .i64 (a:Int),.int .i64 (b:Int)])∧Below w.heap.size w w':=by
 have hnl:=run_le U.wordc s 1
 obtain ⟨n,hn⟩:∃ n,U.tR U.wordc 0 (s.data.toList.drop 1)=n:=⟨_,rfl⟩
 obtain ⟨q,hq⟩:∃ q,U.tR U.sfx 0 (s.data.toList.drop 1)=q:=⟨_,rfl⟩
 obtain ⟨m,hm⟩:∃ m,U.tR U.sfx 0 (s.data.toList.drop (1+(n+1)))=m:=⟨_,rfl⟩
 unfold U.tHand at h
 rw[hn,List.drop_drop,List.drop_drop,hm,hq] at h
 rw[hn] at hnl
 have hml:=run_le U.sfx s (1+(n+1))
 rw[hm] at hml
 have HN:=Lib.hid hn
 have HQ:=Lib.hid hq
 have HM:=Lib.hid hm
 clear hn hq hm
 by_cases he:1+n<s.size
 ·have hi:=run_byt s (1+n) he (1+(n:Int)) (by omega)
  have hI:(s.data.toList.drop (1+n)).headD 0=33↔byt s (1+n)=33:=headD_byte he 33
  obtain ⟨y,hy⟩:∃ y:Nat,y=byt s (1+n):=⟨_,rfl⟩
  rw[←hy] at hi hI
  clear hy
  by_cases h33:y=33
  ·by_cases hm0:0<m
   ·rw[if_pos ⟨hI.2 h33,hm0⟩] at h
    obtain ⟨rfl,rfl⟩:=Prod.mk.inj h
    subst h33
    clear h hI
    have HM2:Hid (U.tR U.sfx 0 (s.data.toList.drop (n+2))=m):=by
     have:=HM.out
     rw[show 1+(n+1)=n+2 by omega] at this
     exact this
    go_enter Tryz.func64,Tryz.ntmps64
    go_wp2_with fail
    refine (runWord_is n 1 s _ hs HN.out).mono ?_
    rintro e w1 ⟨rfl,b1⟩
    go_wp2_with fail
    refine (runSfx_is m _ s _ hs HM.out).mono ?_
    rintro e w2 ⟨rfl,b2⟩
    go_wp2
    go_ret2
    exact ⟨congrArg (fun z:Int=>Ending.returned (.tuple #[.int .i64 z,.int .i64 (m:Int)])) (by omega),tb2 b1 b2⟩
   ·rw[if_neg (fun hh=>hm0 hh.2)] at h
    obtain ⟨rfl,rfl⟩:=Prod.mk.inj h
    obtain rfl:m=0:=by omega
    subst h33
    clear h hI
    go_enter Tryz.func64,Tryz.ntmps64
    go_wp2_with fail
    refine (runWord_is n 1 s _ hs HN.out).mono ?_
    rintro e w1 ⟨rfl,b1⟩
    go_wp2_with fail
    refine (runSfx_is 0 _ s _ hs HM.out).mono ?_
    rintro e w2 ⟨rfl,b2⟩
    go_wp2_with fail
    refine (runSfx_is q 1 s _ hs HQ.out).mono ?_
    rintro e w3 ⟨rfl,b3⟩
    go_wp2
    go_ret2
    exact ⟨rfl,tb2 (tb2 b1 b2) b3⟩
  ·rw[if_neg (fun hh=>h33 (hI.1 hh.1))] at h
   obtain ⟨rfl,rfl⟩:=Prod.mk.inj h
   have hyb:((y:Int)==33)=false:=by simp;omega
   clear h HM hI
   go_enter Tryz.func64,Tryz.ntmps64
   go_wp2_with fail
   refine (runWord_is n 1 s _ hs HN.out).mono ?_
   rintro e w1 ⟨rfl,b1⟩
   go_wp2_with fail
   refine (runSfx_is q 1 s _ hs HQ.out).mono ?_
   rintro e w3 ⟨rfl,b3⟩
   go_wp2
   go_ret2
   exact ⟨rfl,tb2 b1 b3⟩
 ·rw[headD_over (by omega),if_neg (fun hh=>absurd hh.1 (by decide))] at h
  obtain ⟨rfl,rfl⟩:=Prod.mk.inj h
  clear h HM
  go_enter Tryz.func64,Tryz.ntmps64
  go_wp2_with fail
  refine (runWord_is n 1 s _ hs HN.out).mono ?_
  rintro e w1 ⟨rfl,b1⟩
  go_wp2_with fail
  refine (runSfx_is q 1 s _ hs HQ.out).mono ?_
  rintro e w3 ⟨rfl,b3⟩
  go_wp2
  go_ret2
  exact ⟨rfl,tb2 b1 b3⟩
end Go.Proofs.YtncngeamdechmaaGreatDoor
namespace Go.Proofs.YtncngeamdechmaaGreatDoor
open Go.RowKit
def hSize (s:ByteArray) (at':Int):Nat:=if at'<0 then 0 else U.tSize (s.data.toList.drop at'.toNat)
theorem hSize_in (s:ByteArray) (k:Nat):hSize s (k:Int)=U.tSize (s.data.toList.drop k):=by
 unfold hSize
 rw[if_neg (by omega)]
 rfl
theorem hSize_out (s:ByteArray) (at':Int) (h:at'<0∨(s.size:Int)≤at'):hSize s at'=0:=by
 unfold hSize
 split
 ·rfl
 ·rw[List.drop_eq_nil_of_le (by rw[←Lib.size_eq];omega)];rfl
set_option maxHeartbeats 800000 in
theorem handSize_is (n:Nat) (s:ByteArray) (at':Int) (w:World) (hs:s.size≤1099511627776) (h:hSize s at'=n) :
  Calls Tryz.prog 48 #[.string s,.int .i64 at'] w fun e w'=>e=.returned (.int .i64 (n:Int))∧Below w.heap.size w w':=by
 by_cases h1:at'<0
 ·rw[hSize_out s at' (.inl h1)] at h
  subst h
  go_enter Tryz.func48,Tryz.ntmps48
  go_wp2
  go_ret
  exact ⟨rfl,Below.refl _ _⟩
 by_cases h2:(s.size:Int)≤at'
 ·rw[hSize_out s at' (.inr h2)] at h
  subst h
  go_enter Tryz.func48,Tryz.ntmps48
  go_wp2
  go_ret
  exact ⟨rfl,Below.refl _ _⟩
 obtain ⟨k,rfl⟩:∃ k:Nat,at'=(k:Int):=⟨at'.toNat,by omega⟩
 have hk:k<s.size:=by omega
 rw[hSize_in] at h
 have hi:=run_byt s k hk _ rfl
 obtain ⟨b,hd,hb⟩:=drop_byte s k hk
 rw[hd,U.tSize_cons,hb] at h
 obtain ⟨x,hx⟩:∃ x:Nat,x=byt s k:=⟨_,rfl⟩
 rw[←hx] at hi h
 clear hd hb hx h1 h2
 by_cases h33:x=33
 ·rw[if_pos h33] at h
  subst h33
  obtain ⟨s1,hs1⟩:∃ s1,s.extract k s.size=s1:=⟨_,rfl⟩
  have hz1:s1.size=s.size-k:=by rw[←hs1];exact handDrop_size s k
  have hl1:s1.data.toList.drop 1=s.data.toList.drop (k+1):=by rw[←hs1,handDrop,List.drop_drop]
  rw[←hl1] at h
  obtain ⟨m,hm⟩:∃ m,U.tBrac (s1.data.toList.drop 1)=m:=⟨_,rfl⟩
  obtain ⟨a,b,hab⟩:∃ a b,U.tHand (s1.data.toList.drop 1)=(a,b):=⟨_,_,rfl⟩
  have hle:=U.tHand_le (s1.data.toList.drop 1)
  rw[hab,List.length_drop,←Lib.size_eq] at hle
  rw[hm,hab] at h
  have HM:=Lib.hid hm
  have HAB:=Lib.hid hab
  clear hl1 hm hab
  by_cases hm0:0<m
  ·rw[if_pos hm0] at h
   subst h
   go_enter Tryz.func48,Tryz.ntmps48
   go_wp2_with fail
   refine (handBracketed_is m s1 _ (by omega) HM.out).mono ?_
   rintro e w1 ⟨rfl,b1⟩
   go_wp2
   go_ret
   exact ⟨rfl,b1⟩
  ·rw[if_neg hm0] at h
   obtain rfl:m=0:=by omega
   subst h
   have hle2:a+b≤s1.size-1+1:=hle.2
   go_enter Tryz.func48,Tryz.ntmps48
   go_wp2_with fail
   refine (handBracketed_is 0 s1 _ (by omega) HM.out).mono ?_
   rintro e w1 ⟨rfl,b1⟩
   go_wp2_with fail
   refine (handParts_is a b s1 _ (by omega) (by omega) HAB.out).mono ?_
   rintro e w2 ⟨rfl,b2⟩
   go_wp2
   go_ret
   exact ⟨rfl,tb2 b1 b2⟩
 ·rw[if_neg h33] at h
  subst h
  have hxb:((x:Int) != 33)=true:=by simp;omega
  clear h33
  go_enter Tryz.func48,Tryz.ntmps48
  go_wp2
  go_ret
  exact ⟨rfl,Below.refl _ _⟩
end Go.Proofs.YtncngeamdechmaaGreatDoor
namespace Go.Proofs.YtncngeamdechmaaGreatDoor
open Go.RowKit
theorem fit_ways {s:ByteArray} {fl:Bool} {q:Nat} {r:Bool} (h:fitB s fl q=r):(endsB s (q:Int)=true∧r=true)∨(endsB s (q:Int)=false∧q<s.size∧fl=false∧r=false)∨(endsB s (q:Int)=false∧q<s.size∧fl=true∧U.flow (byt s q:Int)=r):=by
 unfold fitB at h
 cases hE:endsB s (q:Int) with
 | true=>rw[hE] at h;exact .inl ⟨rfl,h.symm⟩
 | false=>
  rw[hE,Bool.false_or] at h
  have hq:q<s.size:=by
   refine Decidable.byContradiction fun hc=>?_
   rw[endsB_out s (q:Int) (.inr (by omega))] at hE
   cases hE
  cases fl with
  | false=>exact .inr (.inl ⟨rfl,hq,rfl,h.symm⟩)
  | true=>exact .inr (.inr ⟨rfl,hq,rfl,h⟩)
theorem prop_ret3 {fn:Func} {t u v:Tmp} (h:fn.results=#[.tmp t,.tmp u,.tmp v]) (tmps:Array Value) (P:Program) (w:World) :
  (results fn tmps).run P w=.ok (.tuple #[tmps.getD t undef,tmps.getD u undef,tmps.getD v undef]) w:=by
 simp[results,h,go_sem]
theorem list_ba_ne {l:List UInt8} (h:l≠[]) {B:ByteArray} (hB:B=⟨l.toArray⟩):B.toList.isEmpty=false:=by
 rw[hB,Lib.toList_data]
 cases l with
 | nil=>exact absurd rfl h
 | cons a t=>rfl
end Go.Proofs.YtncngeamdechmaaGreatDoor
namespace Go.Proofs.YtncngeamdechmaaGreatDoor
open Go.RowKit
theorem tot_blanks:∀ n:Nat,U.tot (U.blanksL n)=n
 | 0=>rfl
 | n+1=>by show 0+1+U.tot (U.blanksL n)=_;rw[tot_blanks n];omega
theorem length_join:∀ xs:List (List UInt8),(U.joinGo xs).length=U.tot xs
 | []=>rfl
 | r :: t=>by
  show (10 :: (r++U.joinGo t)).length=_
  rw[List.length_cons,List.length_append,length_join t,U.tot];omega
theorem tot_len:∀ l:List (List UInt8),l.length≤U.tot l
 | []=>Nat.le_refl _
 | r :: t=>by have:=tot_len t;rw[U.tot,List.length_cons];omega
end Go.Proofs.YtncngeamdechmaaGreatDoor
namespace Go.Proofs.YtncngeamdechmaaGreatDoor
open Go.RowKit
def kept (l:List UInt8):List UInt8:=l.filter U.keeps
end Go.Proofs.YtncngeamdechmaaGreatDoor
namespace Go.Proofs.YtncngeamdechmaaGreatDoor
open Go.RowKit
theorem propClone_is (s:ByteArray) (w:World) (hs:s.size≤1099511627776) :
  Calls Tryz.prog 49 #[.string s] w fun e w'=>e=.returned (.string s)∧Below w.heap.size w w':=by
 go_enter Tryz.func49,Tryz.ntmps49
 go_wp2_with fail
 refine (Tryz.stringslite_Clone s _ (Nat.le_trans hs (by decide))).mono ?_
 rintro e w1 ⟨rfl,b1⟩
 go_wp2
 go_ret
 exact ⟨rfl,b1⟩
theorem propMarked_no (s:ByteArray) (at' m:Int) (w:World) (_hs:s.size≤1099511627776) (h:at'<0∨(s.size:Int)≤at'∨(byt s at'.toNat:Int)≠m) :
  Calls Tryz.prog 47 #[.string s,.int .i64 at',.int .u8 m] w fun e w'=>e=.returned (.tuple #[.string ⟨#[]⟩,.bool false])∧w=w':=by
 by_cases h1:at'<0
 ·go_enter Tryz.func47,Tryz.ntmps47
  go_wp2
  go_ret2
  exact ⟨rfl,rfl⟩
 by_cases h2:(s.size:Int)≤at'
 ·go_enter Tryz.func47,Tryz.ntmps47
  go_wp2
  go_ret2
  exact ⟨rfl,rfl⟩
 obtain ⟨p,rfl⟩:∃ p:Nat,at'=(p:Int):=⟨at'.toNat,by omega⟩
 have hp:p<s.size:=by omega
 have hi:=run_byt s p hp _ rfl
 rw[Int.toNat_natCast] at h
 obtain ⟨b,hb⟩:∃ b:Nat,b=byt s p:=⟨_,rfl⟩
 rw[←hb] at hi h
 have hb2:((b:Int)==m)=false:=by rw[beq_eq_false_iff_ne];omega
 have hb3:((b:Int) != m)=true:=by rw[bne,hb2];rfl
 clear h hb
 go_enter Tryz.func47,Tryz.ntmps47
 go_wp2
 go_ret2
 exact ⟨rfl,rfl⟩
theorem propMarked_yes (X:ByteArray) (s:ByteArray) (p m:Nat) (w:World) (hs:s.size≤1099511627776) (hp:p<s.size) (hm:byt s p=m) (hX:s.extract (p+1) (p+1+nmN s (p+1))=X) :
  Calls Tryz.prog 47 #[.string s,.int .i64 (p:Int),.int .u8 (m:Int)] w fun e w'=>e=.returned (.tuple #[.string X,.bool true])∧w=w':=by
 have hi:=run_byt s p hp _ rfl
 rw[hm] at hi
 have hl:=nm_le (s:=s) (k:=p+1) (by omega)
 have CN:=fun W=>Name_is (nmN s (p+1)) s ((p:Int)+1) W hs (by rw[show (p:Int)+1=((p+1:Nat):Int) by omega,nameAt_in];rfl)
 obtain ⟨n,hn2⟩:∃ n,nmN s (p+1)=n:=⟨_,rfl⟩
 rw[hn2] at hl CN hX
 obtain ⟨q,hq⟩:∃ q,p+1+n=q:=⟨_,rfl⟩
 rw[hq] at hX hl
 have e1:(p:Int)+1+(n:Int)=(q:Int):=by omega
 have hpq:(p:Int)+1≤(q:Int):=by omega
 have hqs:(q:Int)≤(s.size:Int):=by omega
 have hb2:((m:Int) != (m:Int))=false:=by simp
 clear hn2 hq hm
 go_enter Tryz.func47,Tryz.ntmps47
 go_wp2_with fail
 refine (CN _).mono ?_
 rintro e w1 ⟨rfl,rfl⟩
 go_wp2
 go_ret2
 exact ⟨rfl,rfl⟩
theorem propEnds_is (r:Bool) (s:ByteArray) (fl:Bool) (q:Nat) (w:World) (hs:s.size≤1099511627776) (h:fitB s fl q=r) :
  Calls Tryz.prog 50 #[.string s,.int .i64 (q:Int),.bool fl] w fun e w'=>e=.returned (.bool r)∧w=w':=by
 rcases fit_ways h with ⟨hE,rfl⟩|⟨hE,hqz,rfl,rfl⟩|⟨hE,hqz,rfl,hfl⟩
 ·have CE:=fun W=>Ends_is true s (q:Int) W hs hE
  clear hE h
  go_enter Tryz.func50,Tryz.ntmps50
  go_wp2_with fail
  refine (CE _).mono ?_
  rintro e w1 ⟨rfl,rfl⟩
  go_wp2
  go_ret
  exact ⟨rfl,rfl⟩
 ·have CE:=fun W=>Ends_is false s (q:Int) W hs hE
  clear hE h
  go_enter Tryz.func50,Tryz.ntmps50
  go_wp2_with fail
  refine (CE _).mono ?_
  rintro e w1 ⟨rfl,rfl⟩
  go_wp2
  go_ret
  exact ⟨rfl,rfl⟩
 ·have CE:=fun W=>Ends_is false s (q:Int) W hs hE
  have hj:=run_byt s q hqz _ rfl
  obtain ⟨b2,hb2⟩:∃ b:Nat,b=byt s q:=⟨_,rfl⟩
  rw[←hb2] at hj hfl
  have CF:=fun W=>Flow_is r (b2:Int) W hfl
  clear hE h hfl hb2
  go_enter Tryz.func50,Tryz.ntmps50
  go_wp2_with fail
  refine (CE _).mono ?_
  rintro e w1 ⟨rfl,rfl⟩
  go_wp2_with fail
  refine (CF _).mono ?_
  rintro e w1 ⟨rfl,rfl⟩
  go_wp2
  go_ret
  exact ⟨rfl,rfl⟩
theorem propSkip_is (p1:Nat) (s:ByteArray) (q:Nat) (w:World) (hs:s.size≤1099511627776) (hq:q≤s.size) (h:q+whN s q=p1) :
  Calls Tryz.prog 51 #[.string s,.int .i64 (q:Int)] w fun e w'=>e=.returned (.int .i64 (p1:Int))∧w=w':=by
 obtain ⟨g1,g2⟩:=wh_spec s s.size q (by omega)
 have g3:=wh_le hq
 rw[h] at g1 g2 g3
 have hqp:q≤p1:=by omega
 clear h
 go_enter Tryz.func51,Tryz.ntmps51
 go_wp2
 go_loop [1] (fun v=>∃ k:Nat,v=.int .i64 (k:Int)∧q≤k∧k≤p1) (fun v=>s.size-(intOf v).toNat)
 case atStart=>exact ⟨q,rfl,Nat.le_refl _,hqp⟩
 case round=>
  obtain ⟨k,rfl,k1,k2⟩:=hrel
  by_cases hk:k<p1
  ·have hw:=g1 k hk k1
   have hks:k<s.size:=by omega
   have hi:=run_byt s k hks _ rfl
   obtain ⟨b,hb⟩:∃ b:Nat,b=byt s k:=⟨_,rfl⟩
   rw[←hb] at hi hw
   have CW:=fun W=>White_is true (b:Int) W hw
   clear hw hb g1 g2
   go_wp2_with fail
   refine (CW _).mono ?_
   rintro e w1 ⟨rfl,rfl⟩
   go_wp2
   go_round
   case rel=>exact ⟨k+1,by go_num,by omega,by omega⟩
   case measure=>simp[intOf];omega
  ·obtain rfl:k=p1:=by omega
   by_cases hz:k<s.size
   ·have hw:U.white (byt s k:Int)=false:=g2.resolve_left (by omega)
    have hi:=run_byt s k hz _ rfl
    obtain ⟨b,hb⟩:∃ b:Nat,b=byt s k:=⟨_,rfl⟩
    rw[←hb] at hi hw
    have CW:=fun W=>White_is false (b:Int) W hw
    clear hw hb g1 g2
    go_wp2_with fail
    refine (CW _).mono ?_
    rintro e w1 ⟨rfl,rfl⟩
    go_wp2
    go_ret
    exact ⟨rfl,rfl⟩
   ·clear g1 g2
    go_wp2
    go_ret
    exact ⟨rfl,rfl⟩
theorem tg_zero {s:ByteArray} {k:Nat} (h:¬ (k<s.size∧byt s k=33)):tgN s k=0:=by
 unfold tgN
 by_cases hk:k<s.size
 ·obtain ⟨b,h1,h2⟩:=drop_byte s k hk
  rw[h1,U.tSize_cons,if_neg (fun hc=>h ⟨hk,h2.symm.trans hc⟩)]
 ·rw[List.eq_nil_of_length_eq_zero (l:=s.data.toList.drop k) (by rw[drop_len];omega)]
  rfl
theorem fit_none {s:ByteArray} {fl:Bool} {q:Nat} (h:fitB s fl q=true):¬ (q<s.size∧(byt s q=38∨byt s q=33)):=by
 rintro ⟨h1,h2⟩
 unfold fitB endsB at h
 rw[if_neg (by omega),Int.toNat_natCast] at h
 rcases h2 with e|e <;> rw[e] at h <;> cases fl <;> revert h <;> decide
theorem PZ.inv {s:ByteArray} {fl:Bool} {A T:List UInt8} {E:Nat} {C:Int} {p e:Nat} {a t:List UInt8} (h:PZ s fl A T E C p e a t) :
  (¬ (p<s.size∧(byt s p=38∨byt s p=33))∧A=a∧T=t∧E=e∧C=0) ∨
  (p<s.size∧byt s p=38∧(nmN s (p+1)=0∨a≠[])∧A=[]∧T=[]∧E=p∧C=5) ∨
  (p<s.size∧byt s p=33∧t≠[]∧A=[]∧T=[]∧E=p∧C=5) ∨
  (∃ q,p<s.size∧byt s p=38∧0<nmN s (p+1)∧a=[]∧q=p+1+nmN s (p+1)∧fitB s fl q=false∧A=[]∧T=[]∧E=q∧C=5) ∨
  (∃ q,p<s.size∧byt s p=33∧t=[]∧q=p+tgN s p∧fitB s fl q=false∧A=[]∧T=[]∧E=q∧C=5) ∨
  (∃ q,p<s.size∧byt s p=38∧0<nmN s (p+1)∧a=[]∧q=p+1+nmN s (p+1)∧fitB s fl q=true∧PZ s fl A T E C (q+whN s q) q (pieceL s (p+1) q) t) ∨
  (∃ q,p<s.size∧byt s p=33∧t=[]∧q=p+tgN s p∧fitB s fl q=true∧PZ s fl A T E C (q+whN s q) q a (pieceL s p q)):=by
 cases h with
 | none h1 h2 h3 h4 h5=>exact .inl ⟨h1,h2,h3,h4,h5⟩
 | anchor0 h1 h2 h3 h4 h5 h6 h7=>exact .inr (.inl ⟨h1,h2,h3,h4,h5,h6,h7⟩)
 | tag0 h1 h2 h3 h4 h5 h6 h7=>exact .inr (.inr (.inl ⟨h1,h2,h3,h4,h5,h6,h7⟩))
 | anchorX h1 h2 h3 h4 h5 h6 h7 h8 h9 h10=>exact .inr (.inr (.inr (.inl ⟨_,h1,h2,h3,h4,h5,h6,h7,h8,h9,h10⟩)))
 | tagX h1 h2 h3 h4 h5 h6 h7 h8 h9=>exact .inr (.inr (.inr (.inr (.inl ⟨_,h1,h2,h3,h4,h5,h6,h7,h8,h9⟩))))
 | anchorL h1 h2 h3 h4 h5 h6 h7 h8 h9 h10 h11=>
  refine .inr (.inr (.inr (.inr (.inr (.inl ⟨_,h1,h2,h3,h4,h5,h6,?_⟩)))))
  rw[h7,Nat.add_zero]
  exact .none (fit_none h6) h8 h9 h10 h11
 | tagL h1 h2 h3 h4 h5 h6 h7 h8 h9 h10=>
  refine .inr (.inr (.inr (.inr (.inr (.inr ⟨_,h1,h2,h3,h4,h5,?_⟩)))))
  rw[h6,Nat.add_zero]
  exact .none (fit_none h5) h7 h8 h9 h10
 | anchor h1 h2 h3 h4 h5 h6 h7 h8=>exact .inr (.inr (.inr (.inr (.inr (.inl ⟨_,h1,h2,h3,h4,h5,h6,h8⟩)))))
 | tag h1 h2 h3 h4 h5 h6 h7=>exact .inr (.inr (.inr (.inr (.inr (.inr ⟨_,h1,h2,h3,h4,h5,h7⟩)))))
theorem piece_size (s:ByteArray) (p q:Nat) (hq:q≤s.size):(s.extract p q).size≤s.size:=by
 rw[ByteArray.size_extract];omega
theorem piece_empty {s:ByteArray} {p q:Nat} (h:p<q) (hq:q≤s.size):(s.extract p q).toList.isEmpty=false:=list_ba_ne (pieceL_ne h hq) (piece_ext s p q)
set_option maxRecDepth 100000 in
set_option maxHeartbeats 6400000 in
theorem propRead_in (A T:List UInt8) (E:Nat) (C:Int) (s:ByteArray) (p0:Nat) (fl:Bool) (w:World) (hs:s.size≤1000000) (hZ:PZ s fl A T E C p0 p0 [] []) :
  Calls Tryz.prog 36 #[.string s,.int .i64 (p0:Int),.bool fl] w fun e w'=>e=.returned (.tuple #[.string ⟨A.toArray⟩,.string ⟨T.toArray⟩,.int .i64 (E:Int),.int .i64 C])∧Below w.heap.size w w':=by
 have hs2:s.size≤1099511627776:=by omega
 have HZ:=Lib.hid hZ
 clear hZ
 go_enter Tryz.func36,Tryz.ntmps36
 go_wp2
 go_loopw [10,11,12,13] (fun v10 v11 v12 v13 wr=>∃ (a t:List UInt8) (AB TB:ByteArray) (e p:Nat),v10=.string AB∧v11=.string TB∧v12=.int .i64 (p:Int)∧v13=.int .i64 (e:Int)∧Hid (AB=⟨a.toArray⟩)∧Hid (TB=⟨t.toArray⟩)∧AB.size≤s.size∧TB.size≤s.size∧Hid (PZ s fl A T E C p e a t)∧Below w.heap.size w wr) (fun _ _ v12 _ _=>s.size-(intOf v12).toNat)
 case atStart=>exact ⟨[],[],⟨#[]⟩,⟨#[]⟩,p0,p0,rfl,rfl,rfl,rfl,rfl,rfl,Nat.zero_le _,Nat.zero_le _,HZ,Below.refl _ _⟩
 case round=>
  obtain ⟨a,t,AB,TB,e0,p,rfl,rfl,rfl,rfl,HA,HT,zA,zT,H,hb⟩:=hrel
  clear HZ
  rcases H.out.inv with ⟨hn,rfl,rfl,rfl,rfl⟩|⟨hp,h38,h0,rfl,rfl,hEp,rfl⟩|⟨hp,h33,h0,rfl,rfl,hEp,rfl⟩|⟨q,hp,h38,hn,rfl,hq,hf,rfl,rfl,hEq,rfl⟩|⟨q,hp,h33,rfl,hq,hf,rfl,rfl,hEq,rfl⟩|⟨q,hp,h38,hn,rfl,hq,hf,hZ⟩|⟨q,hp,h33,rfl,hq,hf,hZ⟩
  ·have CM:=fun W=>propMarked_no s (p:Int) 38 W hs2 (by rw[Int.toNat_natCast];by_cases h1:p<s.size;exact .inr (.inr fun hc=>hn ⟨h1,.inl (by omega)⟩);exact .inr (.inl (by omega)))
   have CZ:=fun W=>handSize_is 0 s (p:Int) W hs2 (by rw[hSize_in];exact tg_zero fun hc=>hn ⟨hc.1,.inr hc.2⟩)
   have CA:=fun W=>propClone_is AB W (by omega)
   have CT:=fun W=>propClone_is TB W (by omega)
   clear hn H
   go_wp2_with fail
   refine (CM _).mono ?_
   rintro e w1 ⟨rfl,rfl⟩
   go_wp2_with fail
   refine (CZ _).mono ?_
   rintro e w2 ⟨rfl,b2⟩
   go_wp2_with fail
   refine (CA _).mono ?_
   rintro e w3 ⟨rfl,b3⟩
   go_wp2_with fail
   refine (CT _).mono ?_
   rintro e w4 ⟨rfl,b4⟩
   go_wp2
   refine bodyPost_ret (results_tmp4 rfl _ _ _) rfl ?_
   have d2:=hb.trans (b2.mono hb.size)
   have d3:=d2.trans (b3.mono d2.size)
   exact ⟨by rw[HA.out,HT.out];rfl,d3.trans (b4.mono d3.size)⟩
  ·obtain rfl:=hEp.symm
   have CZ:=fun W=>handSize_is 0 s (p:Int) W hs2 (by rw[hSize_in];exact tg_zero fun hc=>by rw[h38] at hc;exact absurd hc.2 (by decide))
   have hl:=nm_le (s:=s) (k:=p+1) (by omega)
   obtain ⟨X,hX⟩:∃ X,s.extract (p+1) (p+1+nmN s (p+1))=X:=⟨_,rfl⟩
   have CM:=fun W=>propMarked_yes X s p 38 W hs2 hp h38 hX
   by_cases hn0:nmN s (p+1)=0
   ·rw[hn0,Nat.add_zero] at hX
    have hXe:X=⟨#[]⟩:=by rw[←hX];exact (piece_ext s (p+1) (p+1)).trans (by rw[show pieceL s (p+1) (p+1)=[] from List.eq_nil_of_length_eq_zero (by unfold pieceL;simp)])
    subst hXe
    clear h0 hn0 hl h38 hX H HA HT
    go_wp2_with fail
    refine (CM _).mono ?_
    rintro e w1 ⟨rfl,rfl⟩
    go_wp2_with fail
    refine (CZ _).mono ?_
    rintro e w2 ⟨rfl,b2⟩
    go_wp2
    refine bodyPost_ret (results_tmp4 rfl _ _ _) rfl ?_
    exact ⟨rfl,hb.trans (b2.mono hb.size)⟩
   ·have hab:=list_ba_ne (h0.resolve_left hn0) HA.out
    have hxb:=piece_empty (s:=s) (p:=p+1) (q:=p+1+nmN s (p+1)) (by omega) (by omega)
    rw[hX] at hxb
    clear h0 hn0 hl h38 hX H HA HT
    go_wp2_with fail
    refine (CM _).mono ?_
    rintro e w1 ⟨rfl,rfl⟩
    go_wp2_with fail
    refine (CZ _).mono ?_
    rintro e w2 ⟨rfl,b2⟩
    go_wp2
    refine bodyPost_ret (results_tmp4 rfl _ _ _) rfl ?_
    exact ⟨rfl,hb.trans (b2.mono hb.size)⟩
  ·obtain rfl:=hEp.symm
   have CM:=fun W=>propMarked_no s (p:Int) 38 W hs2 (by rw[Int.toNat_natCast,h33];exact .inr (.inr (by decide)))
   have hn:=tg_pos hp h33
   have CZ:=fun W=>handSize_is (tgN s p) s (p:Int) W hs2 (by rw[hSize_in];rfl)
   have htb:=list_ba_ne h0 HT.out
   obtain ⟨n,hn2⟩:∃ n,tgN s p=n:=⟨_,rfl⟩
   rw[hn2] at hn CZ
   clear hn2 h33 h0 H HA HT
   go_wp2_with fail
   refine (CM _).mono ?_
   rintro e w1 ⟨rfl,rfl⟩
   go_wp2_with fail
   refine (CZ _).mono ?_
   rintro e w2 ⟨rfl,b2⟩
   go_wp2
   refine bodyPost_ret (results_tmp4 rfl _ _ _) rfl ?_
   exact ⟨rfl,hb.trans (b2.mono hb.size)⟩
  ·subst hEq
   have CZ:=fun W=>handSize_is 0 s (p:Int) W hs2 (by rw[hSize_in];exact tg_zero fun hc=>by rw[h38] at hc;exact absurd hc.2 (by decide))
   have hl:=nm_le (s:=s) (k:=p+1) (by omega)
   obtain ⟨X,hX⟩:∃ X,s.extract (p+1) (p+1+nmN s (p+1))=X:=⟨_,rfl⟩
   have CM:=fun W=>propMarked_yes X s p 38 W hs2 hp h38 hX
   have hxb:=piece_empty (s:=s) (p:=p+1) (q:=p+1+nmN s (p+1)) (by omega) (by omega)
   have hxz:X.size=nmN s (p+1):=by rw[←hX,ByteArray.size_extract];omega
   rw[hX] at hxb
   have CE:=fun W=>propEnds_is false s fl E W hs2 hf
   obtain rfl:AB=⟨#[]⟩:=HA.out
   have e1:(p:Int)+1+(X.size:Int)=(E:Int):=by omega
   have hxs:X.size≤s.size:=by omega
   clear hq hn hl h38 hX hf H HA HT hxz
   go_wp2_with fail
   refine (CM _).mono ?_
   rintro e w1 ⟨rfl,rfl⟩
   go_wp2_with fail
   refine (CZ _).mono ?_
   rintro e w2 ⟨rfl,b2⟩
   go_wp2_with fail
   refine (CE _).mono ?_
   rintro e w3 ⟨rfl,rfl⟩
   go_wp2
   refine bodyPost_ret (results_tmp4 rfl _ _ _) rfl ?_
   exact ⟨rfl,hb.trans (b2.mono hb.size)⟩
  ·subst hEq
   have CM:=fun W=>propMarked_no s (p:Int) 38 W hs2 (by rw[Int.toNat_natCast,h33];exact .inr (.inr (by decide)))
   have hn:=tg_pos hp h33
   have hl:=tg_le (s:=s) (k:=p) (by omega)
   have CZ:=fun W=>handSize_is (tgN s p) s (p:Int) W hs2 (by rw[hSize_in];rfl)
   have CE:=fun W=>propEnds_is false s fl E W hs2 hf
   obtain rfl:TB=⟨#[]⟩:=HT.out
   obtain ⟨n,hn2⟩:∃ n,tgN s p=n:=⟨_,rfl⟩
   rw[hn2] at hn CZ hq hl
   have e1:(p:Int)+(n:Int)=(E:Int):=by omega
   have hpq:(p:Int)≤(E:Int):=by omega
   have hqs:(E:Int)≤(s.size:Int):=by omega
   clear hn2 h33 hq hf H HA HT
   go_wp2_with fail
   refine (CM _).mono ?_
   rintro e w1 ⟨rfl,rfl⟩
   go_wp2_with fail
   refine (CZ _).mono ?_
   rintro e w2 ⟨rfl,b2⟩
   go_wp2_with fail
   refine (CE _).mono ?_
   rintro e w3 ⟨rfl,rfl⟩
   go_wp2
   refine bodyPost_ret (results_tmp4 rfl _ _ _) rfl ?_
   exact ⟨rfl,hb.trans (b2.mono hb.size)⟩
  ·have CZ:=fun W=>handSize_is 0 s (p:Int) W hs2 (by rw[hSize_in];exact tg_zero fun hc=>by rw[h38] at hc;exact absurd hc.2 (by decide))
   have hl:=nm_le (s:=s) (k:=p+1) (by omega)
   have hX0:=piece_ext s (p+1) (p+1+nmN s (p+1))
   rw[←hq] at hX0
   obtain ⟨X,hX⟩:∃ X,s.extract (p+1) (p+1+nmN s (p+1))=X:=⟨_,rfl⟩
   have CM:=fun W=>propMarked_yes X s p 38 W hs2 hp h38 hX
   have hxb:=piece_empty (s:=s) (p:=p+1) (q:=p+1+nmN s (p+1)) (by omega) (by omega)
   have hxz:X.size=nmN s (p+1):=by rw[←hX,ByteArray.size_extract];omega
   rw[hX] at hxb
   rw[←hq] at hX
   rw[hX] at hX0
   have HX:=Lib.hid hX0
   have CE:=fun W=>propEnds_is true s fl q W hs2 hf
   have hqs2:q≤s.size:=by omega
   have hwl:=wh_le (s:=s) (k:=q) hqs2
   obtain ⟨p1,hp1⟩:∃ p1,q+whN s q=p1:=⟨_,rfl⟩
   have CW:=fun W=>propSkip_is p1 s q W hs2 hqs2 hp1
   rw[hp1] at hZ hwl
   have HN:=Lib.hid hZ
   have hpp:p<p1:=by omega
   obtain rfl:AB=⟨#[]⟩:=HA.out
   have e1:(p:Int)+1+(X.size:Int)=(q:Int):=by omega
   have hxs:X.size≤s.size:=by omega
   clear hq hn hl h38 hX hf H HA hxz hp1 hZ hX0
   go_wp2_with fail
   refine (CM _).mono ?_
   rintro e w1 ⟨rfl,rfl⟩
   go_wp2_with fail
   refine (CZ _).mono ?_
   rintro e w2 ⟨rfl,b2⟩
   go_wp2_with fail
   refine (CE _).mono ?_
   rintro e w3 ⟨rfl,rfl⟩
   go_wp2_with fail
   refine (CW _).mono ?_
   rintro e w3 ⟨rfl,rfl⟩
   go_wp2
   go_roundw
   case rel=>exact ⟨_,t,X,TB,q,p1,rfl,rfl,rfl,rfl,HX,HT,hxs,zT,HN,hb.trans (b2.mono hb.size)⟩
   case measure=>simp[intOf];omega
  ·have CM:=fun W=>propMarked_no s (p:Int) 38 W hs2 (by rw[Int.toNat_natCast,h33];exact .inr (.inr (by decide)))
   have hn:=tg_pos hp h33
   have hl:=tg_le (s:=s) (k:=p) (by omega)
   have CZ:=fun W=>handSize_is (tgN s p) s (p:Int) W hs2 (by rw[hSize_in];rfl)
   have CE:=fun W=>propEnds_is true s fl q W hs2 hf
   obtain rfl:TB=⟨#[]⟩:=HT.out
   obtain ⟨n,hn2⟩:∃ n,tgN s p=n:=⟨_,rfl⟩
   rw[hn2] at hn CZ hq hl
   have e1:(p:Int)+(n:Int)=(q:Int):=by omega
   have hpq:(p:Int)≤(q:Int):=by omega
   have hqs:(q:Int)≤(s.size:Int):=by omega
   have hqs2:q≤s.size:=by omega
   have hwl:=wh_le (s:=s) (k:=q) hqs2
   have HX:=Lib.hid (piece_ext s p q)
   have hxs:=piece_size s p q hqs2
   obtain ⟨p1,hp1⟩:∃ p1,q+whN s q=p1:=⟨_,rfl⟩
   have CW:=fun W=>propSkip_is p1 s q W hs2 hqs2 hp1
   rw[hp1] at hZ hwl
   have HN:=Lib.hid hZ
   have hpp:p<p1:=by omega
   clear hn2 h33 hq hf H HT hp1 hZ hl
   go_wp2_with fail
   refine (CM _).mono ?_
   rintro e w1 ⟨rfl,rfl⟩
   go_wp2_with fail
   refine (CZ _).mono ?_
   rintro e w2 ⟨rfl,b2⟩
   go_wp2_with fail
   refine (CE _).mono ?_
   rintro e w3 ⟨rfl,rfl⟩
   go_wp2_with fail
   refine (CW _).mono ?_
   rintro e w3 ⟨rfl,rfl⟩
   go_wp2
   go_roundw
   case rel=>exact ⟨a,_,AB,_,q,p1,rfl,rfl,rfl,rfl,HA,HX,zA,hxs,HN,hb.trans (b2.mono hb.size)⟩
   case measure=>simp[intOf];omega
set_option maxHeartbeats 800000 in
theorem propRead_is (A T:List UInt8) (E C:Int) (s:ByteArray) (at':Int) (fl:Bool) (w:World) (hs:s.size≤1000000) (hZ:PropZ s at' fl A T E C) :
  Calls Tryz.prog 36 #[.string s,.int .i64 at',.bool fl] w fun e w'=>e=.returned (.tuple #[.string ⟨A.toArray⟩,.string ⟨T.toArray⟩,.int .i64 E,.int .i64 C])∧Below w.heap.size w w':=by
 rcases hZ with ⟨h0,E',rfl,hZ⟩|⟨h0,rfl,rfl,rfl,rfl⟩
 ·obtain ⟨k,rfl⟩:∃ k:Nat,at'=(k:Int):=⟨at'.toNat,by omega⟩
  exact propRead_in A T E' C s k fl w hs hZ
 ·have CM:=fun W=>propMarked_no s E 38 W (by omega) (.inl h0)
  have CZ:=fun W=>handSize_is 0 s E W (by omega) (hSize_out s E (.inl h0))
  have CA:=fun W=>propClone_is ⟨#[]⟩ W (by decide)
  go_enter Tryz.func36,Tryz.ntmps36
  go_wp2
  go_loopw [10,11,12,13] (fun v10 v11 v12 v13 wr=>v10=.string ⟨#[]⟩∧v11=.string ⟨#[]⟩∧v12=.int .i64 E∧v13=.int .i64 E∧Below w.heap.size w wr) (fun _ _ _ _ _=>0)
  case atStart=>exact ⟨rfl,rfl,rfl,rfl,Below.refl _ _⟩
  case round=>
   obtain ⟨rfl,rfl,rfl,rfl,hb⟩:=hrel
   go_wp2_with fail
   refine (CM _).mono ?_
   rintro e w1 ⟨rfl,rfl⟩
   go_wp2_with fail
   refine (CZ _).mono ?_
   rintro e w2 ⟨rfl,b2⟩
   go_wp2_with fail
   refine (CA _).mono ?_
   rintro e w3 ⟨rfl,b3⟩
   go_wp2_with fail
   refine (CA _).mono ?_
   rintro e w4 ⟨rfl,b4⟩
   go_wp2
   refine bodyPost_ret (results_tmp4 rfl _ _ _) rfl ?_
   have d2:=hb.trans (b2.mono hb.size)
   have d3:=d2.trans (b3.mono d2.size)
   exact ⟨rfl,d3.trans (b4.mono d3.size)⟩
set_option maxHeartbeats 800000 in
theorem propAlias_is (A:List UInt8) (E C:Int) (s:ByteArray) (at':Int) (w:World) (hs:s.size≤1000000) (hZ:AliZ s at' A E C) :
  Calls Tryz.prog 52 #[.string s,.int .i64 at'] w fun e w'=>e=.returned (.tuple #[.string ⟨A.toArray⟩,.int .i64 E,.int .i64 C])∧Below w.heap.size w w':=by
 have hs2:s.size≤1099511627776:=by omega
 rcases hZ with ⟨h0,hA,hE,rfl⟩|⟨h0,rfl,rfl,rfl⟩
 ·unfold aliB at h0
  rw[decide_eq_true_eq] at h0
  obtain ⟨h1,hp,h42,hn⟩:=h0
  obtain ⟨p,rfl⟩:∃ p:Nat,at'=(p:Int):=⟨at'.toNat,by omega⟩
  rw[Int.toNat_natCast] at hp h42 hn hA hE
  have hl:=nm_le (s:=s) (k:=p+1) (by omega)
  obtain ⟨X,hX⟩:∃ X,s.extract (p+1) (p+1+nmN s (p+1))=X:=⟨_,rfl⟩
  have CM:=fun W=>propMarked_yes X s p 42 W hs2 hp h42 hX
  have hxb:=piece_empty (s:=s) (p:=p+1) (q:=p+1+nmN s (p+1)) (by omega) (by omega)
  have hxz:X.size=nmN s (p+1):=by rw[←hX,ByteArray.size_extract];omega
  have hX0:X=⟨A.toArray⟩:=by rw[←hX,hA];exact piece_ext s _ _
  rw[hX] at hxb
  have CA:=fun W=>propClone_is X W (by omega)
  have hxs:X.size≤s.size:=by omega
  have e1:E=(p:Int)+1+(X.size:Int):=by omega
  have HX:=Lib.hid hX0
  clear hX hX0 hl hn h42 hA hE hxz
  go_enter Tryz.func52,Tryz.ntmps52
  go_wp2_with fail
  refine (CM _).mono ?_
  rintro e w1 ⟨rfl,rfl⟩
  go_wp2_with fail
  refine (CA _).mono ?_
  rintro e w3 ⟨rfl,b3⟩
  go_wp2
  refine bodyPost_ret (prop_ret3 rfl _ _ _) rfl ?_
  exact ⟨by rw[←HX.out,e1];rfl,b3⟩
 ·by_cases h42:0≤E∧E.toNat<s.size∧byt s E.toNat=42
  ·obtain ⟨h1,hp,h42⟩:=h42
   obtain ⟨p,rfl⟩:∃ p:Nat,E=(p:Int):=⟨E.toNat,by omega⟩
   rw[Int.toNat_natCast] at hp h42
   have hn:nmN s (p+1)=0:=by
    unfold aliB at h0
    rw[decide_eq_false_iff_not,Int.toNat_natCast] at h0
    omega
   have hX:s.extract (p+1) (p+1+nmN s (p+1))=⟨#[]⟩:=by rw[hn];exact (piece_ext s (p+1) (p+1)).trans (by rw[show pieceL s (p+1) (p+1)=[] from List.eq_nil_of_length_eq_zero (by unfold pieceL;simp)])
   have CM:=fun W=>propMarked_yes ⟨#[]⟩ s p 42 W hs2 hp h42 hX
   clear hX hn h0 h42
   go_enter Tryz.func52,Tryz.ntmps52
   go_wp2_with fail
   refine (CM _).mono ?_
   rintro e w1 ⟨rfl,rfl⟩
   go_wp2
   refine bodyPost_ret (prop_ret3 rfl _ _ _) rfl ?_
   exact ⟨rfl,Below.refl _ _⟩
  ·have CM:=fun W=>propMarked_no s E 42 W hs2 (by
    by_cases h1:E<0
    ·exact .inl h1
    ·by_cases h2:E.toNat<s.size
     ·exact .inr (.inr fun hc=>h42 ⟨by omega,h2,by omega⟩)
     ·exact .inr (.inl (by omega)))
   clear h0 h42
   go_enter Tryz.func52,Tryz.ntmps52
   go_wp2_with fail
   refine (CM _).mono ?_
   rintro e w1 ⟨rfl,rfl⟩
   go_wp2
   refine bodyPost_ret (prop_ret3 rfl _ _ _) rfl ?_
   exact ⟨rfl,Below.refl _ _⟩
end Go.Proofs.YtncngeamdechmaaGreatDoor

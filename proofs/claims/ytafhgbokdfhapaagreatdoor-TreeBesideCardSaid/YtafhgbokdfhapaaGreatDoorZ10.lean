/- Parts of the proof, put together from smaller texts (blanks that Lean does not want are struck). Conditions: those that each theorem writes out. -/
import Derived.Test.YtafhgbokdfhapaaGreatDoorZ00
import Derived.Test.YtafhgbokdfhapaaGreatDoorZ01
import Derived.Test.YtafhgbokdfhapaaGreatDoorZ02
import Derived.Test.YtafhgbokdfhapaaGreatDoorZ03
import Derived.Test.YtafhgbokdfhapaaGreatDoorZ06
import Derived.Test.YtafhgbokdfhapaaGreatDoorZ09
namespace Go.Proofs.YtafhgbokdfhapaaGreatDoor
open Go.RowKit
theorem handDrop (s:ByteArray) (k:Nat):(s.extract k s.size).data.toList=s.data.toList.drop k:=by
 rw[Lib.extract_data,List.take_of_length_le]
 rw[List.length_drop,Lib.size_eq];exact Nat.le_refl _
theorem handDrop_size (s:ByteArray) (k:Nat):(s.extract k s.size).size=s.size-k:=by
 rw[ByteArray.size_extract];omega
theorem uri_low:∀ c:Int,U.uri c=true→c<128:=fun _ h=>(U.uri_ascii h).2
theorem wordc_low:∀ c:Int,U.wordc c=true→c<128:=fun _ h=>(U.wordc_ascii h).2.1
theorem sfx_low:∀ c:Int,U.sfx c=true→c<128:=fun _ h=>(U.sfx_ascii h).2
theorem runUri_is (m k:Nat) (s:ByteArray) (w:World) (hs:s.size≤1099511627776) (h:U.tR U.uri 0 (s.data.toList.drop k)=m) :
  Calls Tryz.prog 127 #[.string (s.extract k s.size),.func (.func 128) #[] #[]] w fun e w'=>e=.returned (.int .i64 (m:Int))∧Below w.heap.size w w':=
 handRun_is classUri uri_low m _ w (by rw[handDrop_size];omega) (by rw[handDrop];exact h)
theorem runWord_is (m k:Nat) (s:ByteArray) (w:World) (hs:s.size≤1099511627776) (h:U.tR U.wordc 0 (s.data.toList.drop k)=m) :
  Calls Tryz.prog 127 #[.string (s.extract k s.size),.func (.func 129) #[] #[]] w fun e w'=>e=.returned (.int .i64 (m:Int))∧Below w.heap.size w w':=
 handRun_is classWord wordc_low m _ w (by rw[handDrop_size];omega) (by rw[handDrop];exact h)
theorem runSfx_is (m k:Nat) (s:ByteArray) (w:World) (hs:s.size≤1099511627776) (h:U.tR U.sfx 0 (s.data.toList.drop k)=m) :
  Calls Tryz.prog 127 #[.string (s.extract k s.size),.func (.func 130) #[] #[]] w fun e w'=>e=.returned (.int .i64 (m:Int))∧Below w.heap.size w w':=
 handRun_is classSuffixed sfx_low m _ w (by rw[handDrop_size];omega) (by rw[handDrop];exact h)
theorem run_le (p:Int→Bool) (s:ByteArray) (k:Nat):U.tR p 0 (s.data.toList.drop k)≤s.size-k:=by
 have:=U.tR_le0 p (s.data.toList.drop k)
 rwa [List.length_drop,←Lib.size_eq] at this
theorem headD_byte {s:ByteArray} {k:Nat} (h:k<s.size) (c:UInt8):(s.data.toList.drop k).headD 0=c↔byt s k=c.toNat:=by
 obtain ⟨b,hd,hb⟩:=drop_byte s k h
 rw[hd,←hb]
 exact ⟨fun e=>by rw[show b=c from e],fun e=>UInt8.toNat_inj.1 e⟩
theorem headD_over {s:ByteArray} {k:Nat} (h:s.size≤k):(s.data.toList.drop k).headD 0=0:=by
 rw[List.drop_eq_nil_of_le (by rw[←Lib.size_eq];exact h)];rfl
set_option maxHeartbeats 800000 in
theorem handBracketed_is (n:Nat) (s:ByteArray) (w:World) (hs:s.size≤1099511627776) (h:U.tBrac (s.data.toList.drop 1)=n) :
  Calls Tryz.prog 90 #[.string s] w fun e w'=>e=.returned (.int .i64 (n:Int))∧Below w.heap.size w w':=by
 by_cases h2:s.size<2
 ·have hz:n=0:=by
   rw[←h]
   cases hl:s.data.toList.drop 1 with
   | nil=>rfl
   | cons b m=>
    have:=congrArg List.length hl
    rw[List.length_drop,←Lib.size_eq,List.length_cons] at this
    omega
  subst hz
  clear h
  go_enter Tryz.func90,Tryz.ntmps90
  go_wp2
  go_ret
  exact ⟨rfl,Below.refl _ _⟩
 ·obtain ⟨b,hd,hb⟩:=drop_byte s 1 (by omega)
  have hi:=run_byt s 1 (by omega) 1 rfl
  rw[hd,U.tBrac_cons,show 1+1=2 from rfl] at h
  have hml:=run_le U.uri s 2
  obtain ⟨m,hm⟩:∃ m,U.tR U.uri 0 (s.data.toList.drop 2)=m:=⟨_,rfl⟩
  have HM:=Lib.hid hm
  rw[hm,hb,List.drop_drop] at h
  rw[hm] at hml
  obtain ⟨x,hx⟩:∃ x:Nat,x=byt s 1:=⟨_,rfl⟩
  rw[←hx] at hi h
  clear hd hb hx hm
  by_cases h60:x=60
  ·subst h60
   by_cases hm0:m=0
   ·rw[if_neg (by omega)] at h
    subst h
    subst hm0
    go_enter Tryz.func90,Tryz.ntmps90
    go_wp2_with fail
    refine (runUri_is 0 2 s _ hs HM.out).mono ?_
    rintro e w1 ⟨rfl,b1⟩
    go_wp2
    go_ret
    exact ⟨rfl,b1⟩
   ·by_cases he:2+m=s.size
    ·rw[if_neg (by intro hh;rw[headD_over (by omega)] at hh;exact absurd hh.2.2 (by decide))] at h
     subst h
     have he2:((2:Int)+(m:Int)==(s.size:Int))=true:=by simp;omega
     go_enter Tryz.func90,Tryz.ntmps90
     go_wp2_with fail
     refine (runUri_is m 2 s _ hs HM.out).mono ?_
     rintro e w1 ⟨rfl,b1⟩
     go_wp2
     go_ret
     exact ⟨rfl,b1⟩
    ·have hi2:=run_byt s (2+m) (by omega) (2+(m:Int)) (by omega)
     have hI:(s.data.toList.drop (2+m)).headD 0=62↔byt s (2+m)=62:=headD_byte (by omega) 62
     obtain ⟨y,hy⟩:∃ y:Nat,y=byt s (2+m):=⟨_,rfl⟩
     rw[←hy] at hi2 hI
     clear hy
     have hb2:((2:Int)+(m:Int)==2)=false:=by simp;omega
     have hb3:((2:Int)+(m:Int)==(s.size:Int))=false:=by simp;omega
     by_cases h62:y=62
     ·rw[if_pos ⟨rfl,by omega,hI.2 h62⟩] at h
      subst h
      subst h62
      clear hI
      go_enter Tryz.func90,Tryz.ntmps90
      go_wp2_with fail
      refine (runUri_is m 2 s _ hs HM.out).mono ?_
      rintro e w1 ⟨rfl,b1⟩
      go_wp2
      go_ret
      exact ⟨congrArg (fun z:Int=>Ending.returned (.int .i64 z)) (by omega),b1⟩
     ·rw[if_neg (fun hh=>h62 (hI.1 hh.2.2))] at h
      subst h
      have hyb:((y:Int) != 62)=true:=by simp;omega
      clear hI
      go_enter Tryz.func90,Tryz.ntmps90
      go_wp2_with fail
      refine (runUri_is m 2 s _ hs HM.out).mono ?_
      rintro e w1 ⟨rfl,b1⟩
      go_wp2
      go_ret
      exact ⟨rfl,b1⟩
  ·rw[if_neg (fun hh=>h60 hh.1)] at h
   subst h
   have hxb:((x:Int) != 60)=true:=by simp;omega
   clear HM
   go_enter Tryz.func90,Tryz.ntmps90
   go_wp2
   go_ret
   exact ⟨rfl,Below.refl _ _⟩
set_option maxHeartbeats 800000 in
theorem handParts_is (a b:Nat) (s:ByteArray) (w:World) (hs:s.size≤1099511627776) (h1:1≤s.size) (h:U.tHand (s.data.toList.drop 1)=(a,b)) :
  Calls Tryz.prog 91 #[.string s] w fun e w'=>e=.returned (.tuple #[.int .i64 (a:Int),.int .i64 (b:Int)])∧Below w.heap.size w w':=by
 have hnl:=run_le U.wordc s 1
 obtain ⟨n,hn⟩:∃ n,U.tR U.wordc 0 (s.data.toList.drop 1)=n:=⟨_,rfl⟩
 obtain ⟨q,hq⟩:∃ q,U.tR U.sfx 0 (s.data.toList.drop 1)=q:=⟨_,rfl⟩
 obtain ⟨m,hm⟩:∃ m,U.tR U.sfx 0 (s.data.toList.drop (1+(n+1)))=m:=⟨_,rfl⟩
 unfold U.tHand at h
 rw[hn,List.drop_drop,List.drop_drop,hm,hq] at h
 rw[hn] at hnl
 have hml:=run_le U.sfx s (1+(n+1))
 rw[hm] at hml
 have HN:=Lib.hid hn
 have HQ:=Lib.hid hq
 have HM:=Lib.hid hm
 clear hn hq hm
 by_cases he:1+n<s.size
 ·have hi:=run_byt s (1+n) he (1+(n:Int)) (by omega)
  have hI:(s.data.toList.drop (1+n)).headD 0=33↔byt s (1+n)=33:=headD_byte he 33
  obtain ⟨y,hy⟩:∃ y:Nat,y=byt s (1+n):=⟨_,rfl⟩
  rw[←hy] at hi hI
  clear hy
  by_cases h33:y=33
  ·by_cases hm0:0<m
   ·rw[if_pos ⟨hI.2 h33,hm0⟩] at h
    obtain ⟨rfl,rfl⟩:=Prod.mk.inj h
    subst h33
    clear h hI
    have HM2:Hid (U.tR U.sfx 0 (s.data.toList.drop (n+2))=m):=by
     have:=HM.out
     rw[show 1+(n+1)=n+2 by omega] at this
     exact this
    go_enter Tryz.func91,Tryz.ntmps91
    go_wp2_with fail
    refine (runWord_is n 1 s _ hs HN.out).mono ?_
    rintro e w1 ⟨rfl,b1⟩
    go_wp2_with fail
    refine (runSfx_is m _ s _ hs HM.out).mono ?_
    rintro e w2 ⟨rfl,b2⟩
    go_wp2
    go_ret2
    exact ⟨congrArg (fun z:Int=>Ending.returned (.tuple #[.int .i64 z,.int .i64 (m:Int)])) (by omega),tb2 b1 b2⟩
   ·rw[if_neg (fun hh=>hm0 hh.2)] at h
    obtain ⟨rfl,rfl⟩:=Prod.mk.inj h
    obtain rfl:m=0:=by omega
    subst h33
    clear h hI
    go_enter Tryz.func91,Tryz.ntmps91
    go_wp2_with fail
    refine (runWord_is n 1 s _ hs HN.out).mono ?_
    rintro e w1 ⟨rfl,b1⟩
    go_wp2_with fail
    refine (runSfx_is 0 _ s _ hs HM.out).mono ?_
    rintro e w2 ⟨rfl,b2⟩
    go_wp2_with fail
    refine (runSfx_is q 1 s _ hs HQ.out).mono ?_
    rintro e w3 ⟨rfl,b3⟩
    go_wp2
    go_ret2
    exact ⟨rfl,tb2 (tb2 b1 b2) b3⟩
  ·rw[if_neg (fun hh=>h33 (hI.1 hh.1))] at h
   obtain ⟨rfl,rfl⟩:=Prod.mk.inj h
   have hyb:((y:Int)==33)=false:=by simp;omega
   clear h HM hI
   go_enter Tryz.func91,Tryz.ntmps91
   go_wp2_with fail
   refine (runWord_is n 1 s _ hs HN.out).mono ?_
   rintro e w1 ⟨rfl,b1⟩
   go_wp2_with fail
   refine (runSfx_is q 1 s _ hs HQ.out).mono ?_
   rintro e w3 ⟨rfl,b3⟩
   go_wp2
   go_ret2
   exact ⟨rfl,tb2 b1 b3⟩
 ·rw[headD_over (by omega),if_neg (fun hh=>absurd hh.1 (by decide))] at h
  obtain ⟨rfl,rfl⟩:=Prod.mk.inj h
  clear h HM
  go_enter Tryz.func91,Tryz.ntmps91
  go_wp2_with fail
  refine (runWord_is n 1 s _ hs HN.out).mono ?_
  rintro e w1 ⟨rfl,b1⟩
  go_wp2_with fail
  refine (runSfx_is q 1 s _ hs HQ.out).mono ?_
  rintro e w3 ⟨rfl,b3⟩
  go_wp2
  go_ret2
  exact ⟨rfl,tb2 b1 b3⟩
end Go.Proofs.YtafhgbokdfhapaaGreatDoor
namespace Go.Proofs.YtafhgbokdfhapaaGreatDoor
open Go.RowKit
def hSize (s:ByteArray) (at':Int):Nat:=if at'<0 then 0 else U.tSize (s.data.toList.drop at'.toNat)
theorem hSize_in (s:ByteArray) (k:Nat):hSize s (k:Int)=U.tSize (s.data.toList.drop k):=by
 unfold hSize
 rw[if_neg (by omega)]
 rfl
theorem hSize_out (s:ByteArray) (at':Int) (h:at'<0∨(s.size:Int)≤at'):hSize s at'=0:=by
 unfold hSize
 split
 ·rfl
 ·rw[List.drop_eq_nil_of_le (by rw[←Lib.size_eq];omega)];rfl
set_option maxHeartbeats 800000 in
theorem handSize_is (n:Nat) (s:ByteArray) (at':Int) (w:World) (hs:s.size≤1099511627776) (h:hSize s at'=n) :
  Calls Tryz.prog 51 #[.string s,.int .i64 at'] w fun e w'=>e=.returned (.int .i64 (n:Int))∧Below w.heap.size w w':=by
 by_cases h1:at'<0
 ·rw[hSize_out s at' (.inl h1)] at h
  subst h
  go_enter Tryz.func51,Tryz.ntmps51
  go_wp2
  go_ret
  exact ⟨rfl,Below.refl _ _⟩
 by_cases h2:(s.size:Int)≤at'
 ·rw[hSize_out s at' (.inr h2)] at h
  subst h
  go_enter Tryz.func51,Tryz.ntmps51
  go_wp2
  go_ret
  exact ⟨rfl,Below.refl _ _⟩
 obtain ⟨k,rfl⟩:∃ k:Nat,at'=(k:Int):=⟨at'.toNat,by omega⟩
 have hk:k<s.size:=by omega
 rw[hSize_in] at h
 have hi:=run_byt s k hk _ rfl
 obtain ⟨b,hd,hb⟩:=drop_byte s k hk
 rw[hd,U.tSize_cons,hb] at h
 obtain ⟨x,hx⟩:∃ x:Nat,x=byt s k:=⟨_,rfl⟩
 rw[←hx] at hi h
 clear hd hb hx h1 h2
 by_cases h33:x=33
 ·rw[if_pos h33] at h
  subst h33
  obtain ⟨s1,hs1⟩:∃ s1,s.extract k s.size=s1:=⟨_,rfl⟩
  have hz1:s1.size=s.size-k:=by rw[←hs1];exact handDrop_size s k
  have hl1:s1.data.toList.drop 1=s.data.toList.drop (k+1):=by rw[←hs1,handDrop,List.drop_drop]
  rw[←hl1] at h
  obtain ⟨m,hm⟩:∃ m,U.tBrac (s1.data.toList.drop 1)=m:=⟨_,rfl⟩
  obtain ⟨a,b,hab⟩:∃ a b,U.tHand (s1.data.toList.drop 1)=(a,b):=⟨_,_,rfl⟩
  have hle:=U.tHand_le (s1.data.toList.drop 1)
  rw[hab,List.length_drop,←Lib.size_eq] at hle
  rw[hm,hab] at h
  have HM:=Lib.hid hm
  have HAB:=Lib.hid hab
  clear hl1 hm hab
  by_cases hm0:0<m
  ·rw[if_pos hm0] at h
   subst h
   go_enter Tryz.func51,Tryz.ntmps51
   go_wp2_with fail
   refine (handBracketed_is m s1 _ (by omega) HM.out).mono ?_
   rintro e w1 ⟨rfl,b1⟩
   go_wp2
   go_ret
   exact ⟨rfl,b1⟩
  ·rw[if_neg hm0] at h
   obtain rfl:m=0:=by omega
   subst h
   have hle2:a+b≤s1.size-1+1:=hle.2
   go_enter Tryz.func51,Tryz.ntmps51
   go_wp2_with fail
   refine (handBracketed_is 0 s1 _ (by omega) HM.out).mono ?_
   rintro e w1 ⟨rfl,b1⟩
   go_wp2_with fail
   refine (handParts_is a b s1 _ (by omega) (by omega) HAB.out).mono ?_
   rintro e w2 ⟨rfl,b2⟩
   go_wp2
   go_ret
   exact ⟨rfl,tb2 b1 b2⟩
 ·rw[if_neg h33] at h
  subst h
  have hxb:((x:Int) != 33)=true:=by simp;omega
  clear h33
  go_enter Tryz.func51,Tryz.ntmps51
  go_wp2
  go_ret
  exact ⟨rfl,Below.refl _ _⟩
end Go.Proofs.YtafhgbokdfhapaaGreatDoor
namespace Go.Proofs.YtafhgbokdfhapaaGreatDoor
open Go.RowKit
theorem fit_ways {s:ByteArray} {fl:Bool} {q:Nat} {r:Bool} (h:fitB s fl q=r):(endsB s (q:Int)=true∧r=true)∨(endsB s (q:Int)=false∧q<s.size∧fl=false∧r=false)∨(endsB s (q:Int)=false∧q<s.size∧fl=true∧U.flow (byt s q:Int)=r):=by
 unfold fitB at h
 cases hE:endsB s (q:Int) with
 | true=>rw[hE] at h;exact .inl ⟨rfl,h.symm⟩
 | false=>
  rw[hE,Bool.false_or] at h
  have hq:q<s.size:=by
   refine Decidable.byContradiction fun hc=>?_
   rw[endsB_out s (q:Int) (.inr (by omega))] at hE
   cases hE
  cases fl with
  | false=>exact .inr (.inl ⟨rfl,hq,rfl,h.symm⟩)
  | true=>exact .inr (.inr ⟨rfl,hq,rfl,h⟩)
theorem prop_ret3 {fn:Func} {t u v:Tmp} (h:fn.results=#[.tmp t,.tmp u,.tmp v]) (tmps:Array Value) (P:Program) (w:World) :
  (results fn tmps).run P w=.ok (.tuple #[tmps.getD t undef,tmps.getD u undef,tmps.getD v undef]) w:=by
 simp[results,h,go_sem]
theorem list_ba_ne {l:List UInt8} (h:l≠[]) {B:ByteArray} (hB:B=⟨l.toArray⟩):B.toList.isEmpty=false:=by
 rw[hB,Lib.toList_data]
 cases l with
 | nil=>exact absurd rfl h
 | cons a t=>rfl
end Go.Proofs.YtafhgbokdfhapaaGreatDoor
namespace Go.Proofs.YtafhgbokdfhapaaGreatDoor
open Go.RowKit
theorem tot_blanks:∀ n:Nat,U.tot (U.blanksL n)=n
 | 0=>rfl
 | n+1=>by show 0+1+U.tot (U.blanksL n)=_;rw[tot_blanks n];omega
theorem length_join:∀ xs:List (List UInt8),(U.joinGo xs).length=U.tot xs
 | []=>rfl
 | r :: t=>by
  show (10 :: (r++U.joinGo t)).length=_
  rw[List.length_cons,List.length_append,length_join t,U.tot];omega
theorem tot_len:∀ l:List (List UInt8),l.length≤U.tot l
 | []=>Nat.le_refl _
 | r :: t=>by have:=tot_len t;rw[U.tot,List.length_cons];omega
end Go.Proofs.YtafhgbokdfhapaaGreatDoor
namespace Go.Proofs.YtafhgbokdfhapaaGreatDoor
open Go.RowKit
def KQ (q:Nat) (n:Int) (S:ByteArray) (m:Bool) (R:List (List UInt8 × Bool)) (t w:List UInt8):Prop:=
 ∀ (Z:ByteArray) (T:List UInt8) (E:Nat) (O:Bool) (C:Int),QZ (S++Z) q n T E O C S.size m R t w→QuoZ (S++Z) 0 n T (E:Int) O C
end Go.Proofs.YtafhgbokdfhapaaGreatDoor

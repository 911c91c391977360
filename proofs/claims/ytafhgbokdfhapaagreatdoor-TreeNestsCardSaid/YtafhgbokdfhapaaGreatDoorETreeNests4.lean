/- Parts of the proof of TreeNests, put together from smaller texts (blanks that Lean does not want are struck). Conditions: those that each theorem writes out. -/
import Derived.BigQuiet
import Derived.Deep.CutRange
import Derived.Deep.DrawnRows
import Derived.Deep.RegionWith
import Derived.Test.YtafhgbokdfhapaaGreatDoorETreeNests0
import Derived.Test.YtafhgbokdfhapaaGreatDoorETreeNests1
import Derived.Test.YtafhgbokdfhapaaGreatDoorETreeNests2
import Derived.Test.YtafhgbokdfhapaaGreatDoorETreeNests3
import Derived.Test.YtafhgbokdfhapaaGreatDoorZ00
import Derived.Test.YtafhgbokdfhapaaGreatDoorZ04
import Derived.Test.YtafhgbokdfhapaaGreatDoorZ10
import Derived.Test.YtafhgbokdfhapaaGreatDoorZ12
import Derived.Test.YtafhgbokdfhapaaGreatDoorZ29
namespace Go.Proofs.YtafhgbokdfhapaaGreatDoor
open Go.RowKit
attribute [local go_sem ↓] Go.wp_at_zero Go.wp_at_succ
def moreN (l:List Int) (i:Nat):Nat:=if i<l.length then 1+(lowZ (l.getD i 0) 4).toNat else 1
def flatN (ls fs:List Bool) (i:Nat):Bool:=!(ls.getD i false)&&(ls.getD (i+1) false&&fs.getD i false)
def lev0 (ls:List Bool) (a:List Int) (i:Nat):Bool × Nat:=(ls.getD i false,moreN a i)
def lev1 (ls fs:List Bool) (a:List Int) (i:Nat):Bool × Nat:=(ls.getD i false,if flatN ls fs i=true then 0 else moreN a i)
theorem moreN_le (l:List Int) (i:Nat):1≤moreN l i∧moreN l i≤4:=by
 unfold moreN
 have:=lowZ_range (l.getD i 0) 4 (by omega)
 generalize lowZ (l.getD i 0) 4=z at *
 split <;> omega
def levs (n:Nat) (f:Nat→Bool × Nat):List (Bool × Nat):=(List.range n).map f
theorem levs_len (n:Nat) (f:Nat→Bool × Nat):(levs n f).length=n:=by simp[levs]
theorem levs_drop {n:Nat} {f:Nat→Bool × Nat} {i:Nat} (h:i<n):(levs n f).drop i=f i :: (levs n f).drop (i+1):=by
 rw[List.drop_eq_getElem_cons (by rw[levs_len];exact h)]
 congr 1
 simp[levs]
theorem levs_nil (n:Nat) (f:Nat→Bool × Nat):(levs n f).drop n=[]:=List.drop_eq_nil_of_le (by rw[levs_len];exact Nat.le_refl _)
theorem levs_ok {n:Nat} {f:Nat→Bool × Nat} (h:∀ j,j<n→1≤(f j).2∨j+1=n∨((f j).1=false∧(f (j+1)).1=true)):∀ k j,j+k=n→okN ((levs n f).drop j)
 | 0,j,e=>by
  obtain rfl:j=n:=by omega
  rw[levs_nil];trivial
 | k+1,j,e=>by
  rw[levs_drop (n:=n) (i:=j) (by omega)]
  have ih:=levs_ok h k (j+1) (by omega)
  refine ⟨?_,ih⟩
  rcases h j (by omega) with h1|h1|⟨h1,h2⟩
  ·exact .inl h1
  ·exact .inr (.inl (by rw[h1];exact levs_nil n f))
  ·by_cases hj:j+1<n
   ·refine .inr (.inr ⟨h1,(f (j+1)).2,(levs n f).drop (j+1+1),?_⟩)
    rw[levs_drop hj]
    congr 1
    exact Prod.ext h2 rfl
   ·exact .inr (.inl (by rw[show j+1=n by omega];exact levs_nil n f))
theorem levs_sum {n:Nat} {f:Nat→Bool × Nat} (h:∀ j,(f j).2≤4):∀ k j,j+k=n→sumN ((levs n f).drop j)≤4*k
 | 0,j,e=>by
  obtain rfl:j=n:=by omega
  rw[levs_nil];exact Nat.le_refl _
 | k+1,j,e=>by
  rw[levs_drop (n:=n) (i:=j) (by omega)]
  have ih:=levs_sum (n:=n) h k (j+1) (by omega)
  have:=h j
  show (f j).2+sumN _≤_
  omega
theorem levs_tree {n:Nat} {f g:Nat→Bool × Nat} (h:∀ j,(f j).1=(g j).1):∀ k j,j+k=n→nestT ((levs n f).drop j)=nestT ((levs n g).drop j)
 | 0,j,e=>by
  obtain rfl:j=n:=by omega
  rw[levs_nil,levs_nil]
 | k+1,j,e=>by
  rw[levs_drop (n:=n) (f:=f) (i:=j) (by omega),levs_drop (n:=n) (f:=g) (i:=j) (by omega)]
  have ih:=levs_tree (n:=n) h k (j+1) (by omega)
  have hj:=h j
  obtain ⟨a,b,hf⟩:∃ a b,f j=(a,b):=⟨_,_,rfl⟩
  obtain ⟨c,d,hg⟩:∃ c d,g j=(c,d):=⟨_,_,rfl⟩
  rw[hf,hg] at hj ⊢
  obtain rfl:a=c:=hj
  cases a
  ·show NT.mk _ _=NT.mk _ _;rw[ih]
  ·show NT.mk _ _=NT.mk _ _;rw[ih]
theorem nestT_kind {r:List (Bool × Nat)} (h:r≠[]):(nestT r).h.kind=3∨(nestT r).h.kind=4:=by
 match r,h with
 | [],h=>exact absurd rfl h
 | (true,_) :: _,_=>exact .inl rfl
 | (false,_) :: _,_=>exact .inr rfl
theorem alike_kind {x z:NT} (h:AlikeT x z):x.h.kind=z.h.kind:=by
 cases x
 unfold AlikeT at h
 exact h.1.1
def pieceN (b:Bool) (c:Nat):List UInt8:=if b=true then spc c++([45,32,120,10]++(spc c++[45,10])) else spc c++([120,58,32,121,10]++(spc c++[122,58,10]))
theorem pieceN_is (b:Bool) (m c:Nat) (r:List (Bool × Nat)):spc (nestC ((b,m) :: r) c)++nestB ((b,m) :: r) c=pieceN b c++(spc (nestC r (c+m))++nestB r (c+m)):=by
 cases b <;> simp[pieceN,nestC,nestB,List.append_assoc]
theorem nest_len:∀ (r:List (Bool × Nat)) (c:Nat),c+sumN r≤30→(nestB r c).length≤70*r.length+4
 | [],_,_=>Nat.le_refl _
 | (b,m) :: r,c,h=>by
  have h:c+(m+sumN r)≤30:=h
  have ih:=nest_len r (c+m) (by omega)
  have hC:nestC r (c+m)≤31:=by
   cases r with
   | nil=>show c+m+1≤31;omega
   | cons _ _=>show c+m≤31;omega
  cases b <;> simp[nestB,spc_len] <;> omega
theorem spc_smpN (n:Nat):(spc n).all smpU=true:=List.all_eq_true.2 fun x hx=>by rw[spc_mem hx];rfl
theorem nest_smp:∀ (r:List (Bool × Nat)) (c:Nat),(nestB r c).all smpU=true
 | [],_=>rfl
 | (true,m) :: r,c=>by
  have ih:=nest_smp r (c+m)
  unfold nestB
  simp only[List.all_append,List.all_cons,spc_smpN,ih]
  rfl
 | (false,m) :: r,c=>by
  have ih:=nest_smp r (c+m)
  unfold nestB
  simp only[List.all_append,List.all_cons,spc_smpN,ih]
  rfl
theorem bool_at {w wr:World} {ao:Option Addr} {cap:Nat} {bs:List Bool} (h:IsBools w.heap.size w (.slice ao bs.length cap) bs) (hb:Below w.heap.size w wr) (i:Nat):(i<bs.length∧∃ bb oo,ao=some ⟨bb,oo,none⟩∧wr.cell? ⟨bb,oo+i,none⟩=some (.bool (bs.getD i false)))∨(¬ i<bs.length∧bs.getD i false=false):=by
 by_cases hi:i<bs.length
 ·obtain ⟨bb,oo,e,hl,hc⟩:=IsBools.at h rfl (by omega)
  exact .inl ⟨hi,bb,oo,e,(hb.cell (p:=⟨bb,oo+i,none⟩) hl).trans (hc i hi)⟩
 ·exact .inr ⟨hi,by simp[List.getD,List.getElem?_eq_none (show bs.length≤i by omega)]⟩
theorem int_at {w wr:World} {ao:Option Addr} {cap:Nat} {bs:List Int} (h:IsInts .i64 w.heap.size w (.slice ao bs.length cap) bs) (hb:Below w.heap.size w wr) (i:Nat):(i<bs.length∧(∃ bb oo,ao=some ⟨bb,oo,none⟩∧wr.cell? ⟨bb,oo+i,none⟩=some (.int .i64 (bs.getD i 0)))∧lowZ (bs.getD i 0) 4=((moreN bs i-1:Nat):Int))∨(¬ i<bs.length∧moreN bs i=1):=by
 have hr:=lowZ_range (bs.getD i 0) 4 (by omega)
 unfold moreN
 by_cases hi:i<bs.length
 ·obtain ⟨bb,oo,e,hl,hc⟩:=IsInts.at h rfl (by omega)
  refine .inl ⟨hi,⟨bb,oo,e,(hb.cell (p:=⟨bb,oo+i,none⟩) hl).trans (hc i hi)⟩,?_⟩
  rw[if_pos hi];omega
 ·exact .inr ⟨hi,by rw[if_neg hi]⟩
set_option maxRecDepth 100000 in
set_option maxHeartbeats 6400000 in
theorem TreeNests_walk {Ev:World→Prop} {P:ByteArray→Prop} (K:TreeC Ev P) (dp:Int) (v1 v2 v3 v4:Value) (ls fs:List Bool) (ia ib:List Int) (w:World) (hE:Ev w) (h1:IsBools w.heap.size w v1 ls) (h2:IsInts .i64 w.heap.size w v2 ia) (h3:IsInts .i64 w.heap.size w v3 ib) (h4:IsBools w.heap.size w v4 fs) :
  Calls Tryz.prog 4 #[.int .i64 dp,v1,v2,v3,v4] w fun e w'=>e=.returned (.bool true)∧Below w.heap.size w w':=by
 obtain ⟨ao1,cap1,rfl,c1,d1⟩:=h1.slice
 obtain ⟨ao2,cap2,rfl,c2,d2⟩:=h2.slice
 obtain ⟨ao3,cap3,rfl,c3,d3⟩:=h3.slice
 obtain ⟨ao4,cap4,rfl,c4,d4⟩:=h4.slice
 unfold maxLen at d1 d2 d3 d4
 have hyr:=lowZ_range dp 6 (by omega)
 obtain ⟨y,hy⟩:∃ y:Nat,lowZ dp 6=(y:Int):=⟨(lowZ dp 6).toNat,by omega⟩
 have CY:=fun W=>Low_is (y:Int) dp 6 W (by omega) (by omega) hy
 rw[hy] at hyr
 clear hy
 go_enter Tryz.func4,Tryz.ntmps4
 go_wp2_with fail
 refine (CY _).mono ?_
 rintro e w1 ⟨rfl,rfl⟩
 obtain ⟨n,hn⟩:∃ n,n=1+y:=⟨_,rfl⟩
 have hny:(1:Int)+(y:Int)=(n:Int):=by omega
 have hn1:1≤n:=by omega
 have hn6:n≤6:=by omega
 clear hn CY hyr
 obtain ⟨R0,hR0⟩:∃ R0,R0=levs n (lev0 ls ia):=⟨_,rfl⟩
 obtain ⟨R1,hR1⟩:∃ R1,R1=levs n (lev1 ls fs ib):=⟨_,rfl⟩
 obtain ⟨T0,hT0⟩:∃ T0,T0=mkB (nestB R0 0):=⟨_,rfl⟩
 obtain ⟨T1,hT1⟩:∃ T1,T1=mkB (nestB R1 0):=⟨_,rfl⟩
 have HT0:=Lib.hid hT0
 have HT1:=Lib.hid hT1
 have HR0:=Lib.hid hR0
 have HR1:=Lib.hid hR1
 clear hT0 hT1 hR0 hR1
 go_upto_region 3 with fail
 obtain ⟨W0,hW0⟩:∃ W0,W0=w.alloc (.cells #[.string ⟨#[]⟩,.string ⟨#[]⟩] 35):=⟨_,rfl⟩
 have z0:W0.heap.size=w.heap.size+1:=by rw[hW0];simp
 have b0:Below w.heap.size w W0:=by rw[hW0];exact (Below.refl _ _).alloc (Nat.le_refl _) _
 have r0:W0.heap[w.heap.size]?=some (.cells #[.string ⟨#[]⟩,.string ⟨#[]⟩] 35 (0,0)):=by rw[hW0];exact heap_alloc_new w _
 rw[←hW0]
 clear hW0
 obtain ⟨W1,hW1⟩:∃ W1,W1=W0.setCell ⟨w.heap.size,0,none⟩ (.string T0):=⟨_,rfl⟩
 obtain ⟨W2,hW2⟩:∃ W2,W2=W1.setCell ⟨w.heap.size,1,none⟩ (.string T1):=⟨_,rfl⟩
 have b1:Below w.heap.size w W1:=by rw[hW1];exact b0.setCell (p:=⟨w.heap.size,0,none⟩) (Nat.le_refl _) _
 have b2:Below w.heap.size w W2:=by rw[hW2];exact b1.setCell (p:=⟨w.heap.size,1,none⟩) (Nat.le_refl _) _
 have r1:W1.heap[w.heap.size]?=some (.cells #[.string T0,.string ⟨#[]⟩] 35 (0,0)):=by rw[hW1];exact heap_setCell_same _ _ 0 _ _ _ r0
 have r2:W2.heap[w.heap.size]?=some (.cells #[.string T0,.string T1] 35 (0,0)):=by rw[hW2];exact heap_setCell_same _ _ 1 _ _ _ r1
 have HW1:=Lib.hid hW1
 have HW2:=Lib.hid hW2
 have HB0:=Lib.hid b0
 have HB1:=Lib.hid b1
 have HB2:=Lib.hid b2
 have H0:=Lib.hid r0
 have H1:=Lib.hid r1
 have H2:=Lib.hid r2
 clear hW1 hW2 b0 b1 b2 r0 r1 r2
 go_wp2
 go_loopw [13] (fun v13 wr=>∃ k:Nat,v13=.int .i64 (k:Int)∧((k=0∧wr=W0)∨(k=1∧wr=W1)∨(k=2∧wr=W2))) (fun v13 _=>2-(intOf v13).toNat)
 case atStart=>exact ⟨0,rfl,.inl ⟨rfl,rfl⟩⟩
 case round=>
  obtain ⟨k,rfl,hk⟩:=hrel
  rcases hk with ⟨rfl,hwr⟩|⟨rfl,hwr⟩|⟨rfl,hwr⟩
  ·obtain rfl:W0=_:=hwr.symm
   have fA:=fun (wx:World) (hx:wx=W0)=>hx
   go_wp2_with fail
   go_loopw [14,15,17] (fun v14 v15 v17 wr=>∃ (P:List UInt8) (S:ByteArray) (c i:Nat),v14=.string S∧v15=.int .i64 (c:Int)∧v17=.int .i64 (i:Int)∧i≤n∧c≤4*i∧S.size≤70*i∧Hid (S=mkB P)∧Hid (P++(spc (nestC (R0.drop i) c)++nestB (R0.drop i) c)=nestB R0 0)∧wr=W0) (fun _ _ v17 _=>n-(intOf v17).toNat)
   case atStart=>
    refine ⟨[],⟨#[]⟩,0,0,rfl,rfl,rfl,Nat.zero_le _,Nat.zero_le _,by decide,rfl,?_,rfl⟩
    show _=_
    rw[List.drop_zero,HR0.out,show levs n (lev0 ls ia)=(lev0 ls ia) 0 :: (levs n (lev0 ls ia)).drop 1 from levs_drop (i:=0) (by omega)]
    rfl
   case round=>
    obtain ⟨P,S,c,i,rfl,rfl,rfl,hi,hc,hS,HS,HP,hwr⟩:=hrel
    obtain rfl:W0=_:=hwr.symm
    by_cases hin:i<n
    ·have hlL:=bool_at h1 HB0.out i
     have hlB:=int_at h2 HB0.out i
     obtain ⟨b,hb⟩:∃ b,ls.getD i false=b:=⟨_,rfl⟩
     obtain ⟨m0,hm0⟩:∃ m0,moreN ia i=m0:=⟨_,rfl⟩
     have hm4:=moreN_le ia i
     rw[hm0] at hlB hm4
     rw[hb] at hlL
     obtain ⟨z,hz⟩:∃ z,false=z:=⟨_,rfl⟩
     obtain ⟨m,hm⟩:∃ m,(if z=true then 0 else m0)=m:=⟨_,rfl⟩
     have hmle:m≤4:=by rw[←hm];split <;> omega
     have hdr:R0.drop i=(b,m) :: R0.drop (i+1):=by
      rw[HR0.out,levs_drop hin]
      congr 1
      show (ls.getD i false,moreN ia i)=_;rw[hb,hm0,←hm,←hz,if_neg (by decide)]
     obtain ⟨P2,hP2⟩:∃ P2,P2=P++pieceN b c:=⟨_,rfl⟩
     have HP2:Hid (P2++(spc (nestC (R0.drop (i+1)) (c+m))++nestB (R0.drop (i+1)) (c+m))=nestB R0 0):=by
      show _=_
      rw[←HP.out,hdr,pieceN_is,hP2,List.append_assoc]
     obtain ⟨CB,hCB⟩:∃ CB:ByteArray,(⟨(List.replicate c (32:UInt8)).toArray⟩:ByteArray)=CB:=⟨_,rfl⟩
     have hCz:CB.size=c:=by rw[←hCB,size_mk,List.length_replicate]
     have CC:=fun (zz:Int) Wd (hz:zz=(c:Int))=>lawBlanks_is c zz Wd hz (by omega)
     rw[hCB] at CC
     obtain ⟨S2,hS2⟩:∃ S2,S2=mkB P2:=⟨_,rfl⟩
     have e1:Hid (b=true→S++CB++(⟨#[45,32,120,10]⟩:ByteArray)++CB++(⟨#[45,10]⟩:ByteArray)=S2):=by
      intro e
      rw[hS2,hP2,HS.out,←hCB,e]
      simp only[pieceN,if_true,←mkB_append]
      simp only[ByteArray.append_assoc]
      rfl
     have e0:Hid (b=false→S++CB++(⟨#[120,58,32,121,10]⟩:ByteArray)++CB++(⟨#[122,58,10]⟩:ByteArray)=S2):=by
      intro e
      rw[hS2,hP2,HS.out,←hCB,e]
      simp only[pieceN,Bool.false_eq_true,if_false,←mkB_append]
      simp only[ByteArray.append_assoc]
      rfl
     have zS:S2.size≤S.size+2*c+8:=by
      rw[hS2,hP2,←mkB_append,ByteArray.size_append,←HS.out,mkB_size]
      have:(pieceN b c).length≤2*c+8:=by cases b <;> simp[pieceN,spc_len] <;> omega
      omega
     have HS2:Hid (S2=mkB P2):=hS2
     have HZ:=Lib.hid hz
     have HB:=Lib.hid hb
     have HM:=Lib.hid hm
     clear hP2 hS2 hCB hdr HP HS hz hb hm hm0
     go_upto_region 13 with fail
     go_cut [18] from 39 to 117 (fun v wx=>v=.bool b∧wx=W0)
     case first=>
      rcases hlL with ⟨hl,bb,oo,rfl,g1⟩|⟨hl,rfl⟩
      ·go_wp2
       go_meet
       exact ⟨rfl,rfl⟩
      ·go_wp2
       go_meet
       exact ⟨rfl,rfl⟩
     case rest=>
     obtain ⟨rfl,hwc⟩:=hcut
     obtain rfl:W0=_:=hwc.symm
     go_upto_if 54 with fail
     go_cut [14] from 39 to 117 (fun v wx=>v=.string S2∧wx=W0)
     case first=>
      cases b with
      | true=>
       go_wp2_with fail
       refine (CC _ _ rfl).mono ?_
       rintro e w1 ⟨rfl,rfl⟩
       go_wp2_with fail
       refine (CC _ _ rfl).mono ?_
       rintro e w1 ⟨rfl,rfl⟩
       go_wp2
       go_meet
       exact ⟨congrArg Value.string (e1.out trivial),rfl⟩
      | false=>
       go_wp2_with fail
       refine (CC _ _ rfl).mono ?_
       rintro e w1 ⟨rfl,rfl⟩
       go_wp2_with fail
       refine (CC _ _ rfl).mono ?_
       rintro e w1 ⟨rfl,rfl⟩
       go_wp2
       go_meet
       exact ⟨congrArg Value.string (e0.out trivial),rfl⟩
     case rest=>
     obtain ⟨rfl,hwc⟩:=hcut
     obtain rfl:W0=_:=hwc.symm
     go_upto_if 76 with fail
     go_cut [19] from 39 to 117 (fun v wx=>v=.int .i64 (m0:Int)∧wx=W0)
     case first=>
      rcases hlB with ⟨hl,⟨bb,oo,rfl,g1⟩,hlz⟩|⟨hl,rfl⟩
      ·have hm1:(1:Int)+((m0-1:Nat):Int)=(m0:Int):=by omega
       generalize ia.getD i 0=xi at g1 hlz
       have CZ:=fun W=>Low_is ((m0-1:Nat):Int) xi 4 W (by omega) (by omega) hlz
       go_wp2_with fail
       refine (CZ _).mono ?_
       rintro e w1 ⟨rfl,rfl⟩
       go_wp2
       go_meet
       exact ⟨by first|rfl|(congr 1),rfl⟩
      ·go_wp2
       go_meet
       exact ⟨rfl,rfl⟩
     case rest=>
     obtain ⟨rfl,hwc⟩:=hcut
     obtain rfl:W0=_:=hwc.symm
     have hme:m=m0:=by rw[←HM.out,←HZ.out,if_neg (by decide)]
     subst hme
     go_wp2
     go_roundw
     case rel=>exact ⟨P2,S2,c+m,i+1,rfl,by go_num,by go_num,by omega,by omega,by omega,HS2,HP2,trivial⟩
     case measure=>simp[intOf];omega
    ·obtain rfl:n=i:=by omega
     have hT:Hid (P++(spc (c+1)++[101,110,100,10])=nestB R0 0):=by
      show _=_
      have:=HP.out
      rw[HR0.out,levs_nil,←HR0.out] at this
      exact this
     obtain ⟨CB,hCB⟩:∃ CB:ByteArray,(⟨(List.replicate (c+1) (32:UInt8)).toArray⟩:ByteArray)=CB:=⟨_,rfl⟩
     have hCz:CB.size=c+1:=by rw[←hCB,size_mk,List.length_replicate]
     have CC:=fun (zz:Int) Wd (hz:zz=((c+1:Nat):Int))=>lawBlanks_is (c+1) zz Wd hz (by omega)
     rw[hCB] at CC
     have eT:Hid (S++CB++(⟨#[101,110,100,10]⟩:ByteArray)=T0):=by
      show _=_
      rw[HT0.out,←hT.out,HS.out,←hCB]
      simp only[←mkB_append]
      simp only[ByteArray.append_assoc]
      rfl
     have q:=fun j=>cell_of_row W0 _ j _ _ _ H0.out
     have f:=fun j=>frozen_of_row W0 _ j _ _ H0.out
     clear HP HS hT hCB
     go_wp2_with fail
     refine (CC _ _ (by omega)).mono ?_
     rintro e w1 ⟨rfl,rfl⟩
     go_wp2
     rw[eT.out,←HW1.out]
     go_roundw
     case rel=>exact ⟨1,by go_num,.inr (.inl ⟨rfl,rfl⟩)⟩
     case measure=>simp[intOf]
  ·obtain rfl:W1=_:=hwr.symm
   have fA:=fun (wx:World) (hx:wx=W1)=>hx
   go_wp2_with fail
   go_loopw [14,15,17] (fun v14 v15 v17 wr=>∃ (P:List UInt8) (S:ByteArray) (c i:Nat),v14=.string S∧v15=.int .i64 (c:Int)∧v17=.int .i64 (i:Int)∧i≤n∧c≤4*i∧S.size≤70*i∧Hid (S=mkB P)∧Hid (P++(spc (nestC (R1.drop i) c)++nestB (R1.drop i) c)=nestB R1 0)∧wr=W1) (fun _ _ v17 _=>n-(intOf v17).toNat)
   case atStart=>
    refine ⟨[],⟨#[]⟩,0,0,rfl,rfl,rfl,Nat.zero_le _,Nat.zero_le _,by decide,rfl,?_,rfl⟩
    show _=_
    rw[List.drop_zero,HR1.out,show levs n (lev1 ls fs ib)=(lev1 ls fs ib) 0 :: (levs n (lev1 ls fs ib)).drop 1 from levs_drop (i:=0) (by omega)]
    rfl
   case round=>
    obtain ⟨P,S,c,i,rfl,rfl,rfl,hi,hc,hS,HS,HP,hwr⟩:=hrel
    obtain rfl:W1=_:=hwr.symm
    by_cases hin:i<n
    ·have hlL:=bool_at h1 HB1.out i
     have hlB:=int_at h3 HB1.out i
     obtain ⟨b,hb⟩:∃ b,ls.getD i false=b:=⟨_,rfl⟩
     obtain ⟨m0,hm0⟩:∃ m0,moreN ib i=m0:=⟨_,rfl⟩
     have hm4:=moreN_le ib i
     rw[hm0] at hlB hm4
     rw[hb] at hlL
     obtain ⟨z,hz⟩:∃ z,flatN ls fs i=z:=⟨_,rfl⟩
     obtain ⟨m,hm⟩:∃ m,(if z=true then 0 else m0)=m:=⟨_,rfl⟩
     have hmle:m≤4:=by rw[←hm];split <;> omega
     have hdr:R1.drop i=(b,m) :: R1.drop (i+1):=by
      rw[HR1.out,levs_drop hin]
      congr 1
      show (ls.getD i false,if flatN ls fs i=true then 0 else moreN ib i)=_;rw[hb,hm0,hz,hm]
     obtain ⟨P2,hP2⟩:∃ P2,P2=P++pieceN b c:=⟨_,rfl⟩
     have HP2:Hid (P2++(spc (nestC (R1.drop (i+1)) (c+m))++nestB (R1.drop (i+1)) (c+m))=nestB R1 0):=by
      show _=_
      rw[←HP.out,hdr,pieceN_is,hP2,List.append_assoc]
     obtain ⟨CB,hCB⟩:∃ CB:ByteArray,(⟨(List.replicate c (32:UInt8)).toArray⟩:ByteArray)=CB:=⟨_,rfl⟩
     have hCz:CB.size=c:=by rw[←hCB,size_mk,List.length_replicate]
     have CC:=fun (zz:Int) Wd (hz:zz=(c:Int))=>lawBlanks_is c zz Wd hz (by omega)
     rw[hCB] at CC
     obtain ⟨S2,hS2⟩:∃ S2,S2=mkB P2:=⟨_,rfl⟩
     have e1:Hid (b=true→S++CB++(⟨#[45,32,120,10]⟩:ByteArray)++CB++(⟨#[45,10]⟩:ByteArray)=S2):=by
      intro e
      rw[hS2,hP2,HS.out,←hCB,e]
      simp only[pieceN,if_true,←mkB_append]
      simp only[ByteArray.append_assoc]
      rfl
     have e0:Hid (b=false→S++CB++(⟨#[120,58,32,121,10]⟩:ByteArray)++CB++(⟨#[122,58,10]⟩:ByteArray)=S2):=by
      intro e
      rw[hS2,hP2,HS.out,←hCB,e]
      simp only[pieceN,Bool.false_eq_true,if_false,←mkB_append]
      simp only[ByteArray.append_assoc]
      rfl
     have zS:S2.size≤S.size+2*c+8:=by
      rw[hS2,hP2,←mkB_append,ByteArray.size_append,←HS.out,mkB_size]
      have:(pieceN b c).length≤2*c+8:=by cases b <;> simp[pieceN,spc_len] <;> omega
      omega
     have HS2:Hid (S2=mkB P2):=hS2
     have HZ:=Lib.hid hz
     have HB:=Lib.hid hb
     have HM:=Lib.hid hm
     clear hP2 hS2 hCB hdr HP HS hz hb hm hm0
     go_upto_region 13 with fail
     go_cut [18] from 39 to 117 (fun v wx=>v=.bool b∧wx=W1)
     case first=>
      rcases hlL with ⟨hl,bb,oo,rfl,g1⟩|⟨hl,rfl⟩
      ·go_wp2
       go_meet
       exact ⟨rfl,rfl⟩
      ·go_wp2
       go_meet
       exact ⟨rfl,rfl⟩
     case rest=>
     obtain ⟨rfl,hwc⟩:=hcut
     obtain rfl:W1=_:=hwc.symm
     go_upto_if 54 with fail
     go_cut [14] from 39 to 117 (fun v wx=>v=.string S2∧wx=W1)
     case first=>
      cases b with
      | true=>
       go_wp2_with fail
       refine (CC _ _ rfl).mono ?_
       rintro e w1 ⟨rfl,rfl⟩
       go_wp2_with fail
       refine (CC _ _ rfl).mono ?_
       rintro e w1 ⟨rfl,rfl⟩
       go_wp2
       go_meet
       exact ⟨congrArg Value.string (e1.out trivial),rfl⟩
      | false=>
       go_wp2_with fail
       refine (CC _ _ rfl).mono ?_
       rintro e w1 ⟨rfl,rfl⟩
       go_wp2_with fail
       refine (CC _ _ rfl).mono ?_
       rintro e w1 ⟨rfl,rfl⟩
       go_wp2
       go_meet
       exact ⟨congrArg Value.string (e0.out trivial),rfl⟩
     case rest=>
     obtain ⟨rfl,hwc⟩:=hcut
     obtain rfl:W1=_:=hwc.symm
     go_upto_if 76 with fail
     go_cut [19] from 39 to 117 (fun v wx=>v=.int .i64 (m0:Int)∧wx=W1)
     case first=>
      rcases hlB with ⟨hl,⟨bb,oo,rfl,g1⟩,hlz⟩|⟨hl,rfl⟩
      ·have hm1:(1:Int)+((m0-1:Nat):Int)=(m0:Int):=by omega
       generalize ib.getD i 0=xi at g1 hlz
       have CZ:=fun W=>Low_is ((m0-1:Nat):Int) xi 4 W (by omega) (by omega) hlz
       go_wp2_with fail
       refine (CZ _).mono ?_
       rintro e w1 ⟨rfl,rfl⟩
       go_wp2
       go_meet
       exact ⟨by first|rfl|(congr 1),rfl⟩
      ·go_wp2
       go_meet
       exact ⟨rfl,rfl⟩
     case rest=>
     obtain ⟨rfl,hwc⟩:=hcut
     obtain rfl:W1=_:=hwc.symm
     have hlN:=bool_at h1 HB1.out (i+1)
     have hlF:=bool_at h4 HB1.out i
     obtain ⟨b2,hb2⟩:∃ b2,ls.getD (i+1) false=b2:=⟨_,rfl⟩
     obtain ⟨b3,hb3⟩:∃ b3,fs.getD i false=b3:=⟨_,rfl⟩
     have hz:=HZ.out
     unfold flatN at hz
     rw[HB.out,hb2,hb3] at hz
     rw[hb2] at hlN
     rw[hb3] at hlF
     have HZ2:=Lib.hid hz
     clear hz hb2 hb3
     go_upto_region 20 with fail
     go_cut [114] from 39 to 117 (fun v wx=>v=.bool z∧wx=W1)
     case first=>
      cases b with
      | true=>
       obtain rfl:z=false:=HZ2.out.symm
       go_wp2
       go_meet
       exact ⟨rfl,rfl⟩
      | false=>
       rcases hlN with ⟨hl,bb,oo,rfl,g1⟩|⟨hl,rfl⟩
       ·have hl2:(i:Int)+1<(ls.length:Int):=by omega
        cases b2 with
        | false=>
         obtain rfl:z=false:=HZ2.out.symm
         go_wp2
         go_meet
         exact ⟨rfl,rfl⟩
        | true=>
         rcases hlF with ⟨hl3,bb3,oo3,rfl,g3⟩|⟨hl3,rfl⟩
         ·obtain rfl:z=b3:=HZ2.out.symm
          go_wp2
          go_meet
          exact ⟨rfl,rfl⟩
         ·obtain rfl:z=false:=HZ2.out.symm
          go_wp2
          go_meet
          exact ⟨rfl,rfl⟩
       ·have hl2:¬ ((i:Int)+1<(ls.length:Int)):=by omega
        obtain rfl:z=false:=HZ2.out.symm
        go_wp2
        go_meet
        exact ⟨rfl,rfl⟩
     case rest=>
     obtain ⟨rfl,hwc⟩:=hcut
     obtain rfl:W1=_:=hwc.symm
     cases z with
     | false=>
      have hme:m=m0:=by rw[←HM.out,if_neg (by decide)]
      subst hme
      go_wp2
      go_roundw
      case rel=>exact ⟨P2,S2,c+m,i+1,rfl,by go_num,by go_num,by omega,by omega,by omega,HS2,HP2,trivial⟩
      case measure=>simp[intOf];omega
     | true=>
      have hme:m=0:=by rw[←HM.out,if_pos rfl]
      subst hme
      go_wp2
      go_roundw
      case rel=>exact ⟨P2,S2,c,i+1,rfl,by go_num,by go_num,by omega,by omega,by omega,HS2,HP2,trivial⟩
      case measure=>simp[intOf];omega
    ·obtain rfl:n=i:=by omega
     have hT:Hid (P++(spc (c+1)++[101,110,100,10])=nestB R1 0):=by
      show _=_
      have:=HP.out
      rw[HR1.out,levs_nil,←HR1.out] at this
      exact this
     obtain ⟨CB,hCB⟩:∃ CB:ByteArray,(⟨(List.replicate (c+1) (32:UInt8)).toArray⟩:ByteArray)=CB:=⟨_,rfl⟩
     have hCz:CB.size=c+1:=by rw[←hCB,size_mk,List.length_replicate]
     have CC:=fun (zz:Int) Wd (hz:zz=((c+1:Nat):Int))=>lawBlanks_is (c+1) zz Wd hz (by omega)
     rw[hCB] at CC
     have eT:Hid (S++CB++(⟨#[101,110,100,10]⟩:ByteArray)=T1):=by
      show _=_
      rw[HT1.out,←hT.out,HS.out,←hCB]
      simp only[←mkB_append]
      simp only[ByteArray.append_assoc]
      rfl
     have q:=fun j=>cell_of_row W1 _ j _ _ _ H1.out
     have f:=fun j=>frozen_of_row W1 _ j _ _ H1.out
     clear HP HS hT hCB
     go_wp2_with fail
     refine (CC _ _ (by omega)).mono ?_
     rintro e w1 ⟨rfl,rfl⟩
     go_wp2
     rw[eT.out,←HW2.out]
     go_roundw
     case rel=>exact ⟨2,by go_num,.inr (.inr ⟨rfl,rfl⟩)⟩
     case measure=>simp[intOf]
  ·obtain rfl:W2=_:=hwr.symm
   have q:=fun j=>cell_of_row W2 _ j _ _ _ H2.out
   have ok0:okN R0:=by rw[HR0.out];exact levs_ok (f:=lev0 ls ia) (fun j _=>.inl (moreN_le ia j).1) n 0 (Nat.zero_add n)
   have ok1:okN R1:=by
    rw[HR1.out]
    refine levs_ok (f:=lev1 ls fs ib) (fun j _=>?_) n 0 (Nat.zero_add n)
    by_cases hf:flatN ls fs j=true
    ·right;right
     unfold flatN at hf
     rw[Bool.and_eq_true,Bool.and_eq_true,Bool.not_eq_true'] at hf
     exact ⟨hf.1,hf.2.1⟩
    ·left
     show 1≤(if flatN ls fs j=true then 0 else moreN ib j)
     rw[if_neg hf]
     exact (moreN_le ib j).1
   have s0:sumN R0≤4*n:=by rw[HR0.out];exact levs_sum (f:=lev0 ls ia) (fun j=>(moreN_le ia j).2) n 0 (Nat.zero_add n)
   have s1:sumN R1≤4*n:=by
    rw[HR1.out]
    refine levs_sum (f:=lev1 ls fs ib) (fun j=>?_) n 0 (Nat.zero_add n)
    show (if flatN ls fs j=true then 0 else moreN ib j)≤4
    split
    ·omega
    ·exact (moreN_le ib j).2
   have et:nestT R1=nestT R0:=by rw[HR0.out,HR1.out];exact levs_tree (f:=lev1 ls fs ib) (g:=lev0 ls ia) (fun _=>rfl) n 0 (Nat.zero_add n)
   have l0:R0.length=n:=by rw[HR0.out,levs_len]
   have l1:R1.length=n:=by rw[HR1.out,levs_len]
   have ne0:R0≠[]:=by intro e;rw[e] at l0;simp at l0;omega
   have ne1:R1≠[]:=by intro e;rw[e] at l1;simp at l1;omega
   have zT0:T0.size≤1000:=by rw[HT0.out,mkB_size];have:=nest_len R0 0 (by omega);omega
   have zT1:T1.size≤1000:=by rw[HT1.out,mkB_size];have:=nest_len R1 0 (by omega);omega
   obtain ⟨x,ax,fx⟩:=nest_text (s:=T0) ne0 (by omega) ok0 (by omega) (by rw[HT0.out];rfl)
   obtain ⟨y2,ay,fy⟩:=nest_text (s:=T1) ne1 (by omega) ok1 (by omega) (by rw[HT1.out];rfl)
   have sT0:Smp T0:=by rw[HT0.out];exact nest_smp R0 0
   have sT1:Smp T1:=by rw[HT1.out];exact nest_smp R1 0
   rw[et] at ay
   have hkd:x.h.kind=3∨x.h.kind=4:=by rw[alike_kind ax];exact nestT_kind ne0
   have AXY:=Lib.hid (AlikeT.both _ _ _ ax ay)
   have HF:=Lib.hid fy
   have hE2:=K.keep _ _ hE HB2.out
   clear ok0 ok1 s0 s1 et l0 l1 ne0 ne1 ax ay fy
   go_wp2_with fail
   refine (K.read _ _ _ _ _ _ _ _ (by omega) (K.smp _ sT0) hE2 fx).mono ?_
   rintro e w3 ⟨cx,lvx,rfl,lyx,-,nx,b3⟩
   obtain ⟨i1,i2,i3,i4,u1,u2,u3,a1,m1,p1,a2,m2,p2,a3,m3,p3,bo,u4,rfl⟩:=lyx
   have hNx:=nx x rfl
   have ek:i1=x.h.kind:=by
    obtain ⟨kv,lv,fv,e,_⟩:=hNx.open
    unfold headC at e
    simp only[List.cons.injEq,Value.int.injEq] at e
    exact e.1.2
   rw[←ek] at hkd
   have hb3:=HB2.out.trans (b3.mono HB2.out.size)
   have q3:∀ j,w3.cell? ⟨w.heap.size,j,none⟩=(#[.string T0,.string T1]:Array Value)[j]?:=fun j=>(b3.cell (p:=⟨w.heap.size,j,none⟩) (Array.getElem?_eq_some_iff.1 H2.out).1).trans (q j)
   have HNX:=Lib.hid hNx
   clear nx hNx q ek
   go_upto_region 25 with fail
   obtain ⟨W4,hW4⟩:∃ W4,W4=w3.alloc (.cells #[.int .i64 i1,.int .i64 i2,.int .i64 i3,.int .i64 i4,.string u1,.string u2,.string u3,.slice a1 m1 p1,.slice a2 m2 p2,.slice a3 m3 p3,.bool bo,.string u4] 29):=⟨_,rfl⟩
   have r4:W4.heap[w3.heap.size]?=some (.cells #[.int .i64 i1,.int .i64 i2,.int .i64 i3,.int .i64 i4,.string u1,.string u2,.string u3,.slice a1 m1 p1,.slice a2 m2 p2,.slice a3 m3 p3,.bool bo,.string u4] 29 (0,0)):=by rw[hW4];exact heap_alloc_new w3 _
   have b4:Below w3.heap.size w3 W4:=by rw[hW4];exact (Below.refl _ _).alloc (Nat.le_refl _) _
   rw[←hW4]
   clear hW4
   have z3:w.heap.size<w3.heap.size:=by have:=(Array.getElem?_eq_some_iff.1 H2.out).1;have:=b3.size;omega
   have q4:∀ j,W4.cell? ⟨w.heap.size,j,none⟩=(#[.string T0,.string T1]:Array Value)[j]?:=fun j=>(b4.cell (p:=⟨w.heap.size,j,none⟩) z3).trans (q3 j)
   have hb4:=hb3.trans (b4.mono hb3.size)
   have hE4:=K.keep _ _ hE hb4
   have HN4:=Lib.hid (HNX.out.below b4 b4.size)
   have HR4:=Lib.hid r4
   clear q3 r4
   go_wp2_with fail
   refine (K.read _ _ _ _ _ _ _ _ (by omega) (K.smp _ sT1) hE4 HF.out).mono ?_
   rintro e w5 ⟨cy,lvy,rfl,lyy,-,ny,b5⟩
   obtain ⟨j1,j2,j3,j4,t1,t2,t3,f1,n1,o1,f2,n2,o2,f3,n3,o3,bp,t4,rfl⟩:=lyy
   have HN5:=Lib.hid (HN4.out.below b5 b5.size)
   have hb5:=hb4.trans (b5.mono hb4.size)
   have z4:w3.heap.size<W4.heap.size:=(Array.getElem?_eq_some_iff.1 HR4.out).1
   have r5:=(b5.block w3.heap.size z4).trans HR4.out
   have q5:∀ j,w5.cell? ⟨w.heap.size,j,none⟩=(#[.string T0,.string T1]:Array Value)[j]?:=fun j=>(b5.cell (p:=⟨w.heap.size,j,none⟩) (by show w.heap.size<_;omega)).trans (q4 j)
   have HNY:=Lib.hid (ny y2 rfl)
   clear ny q4
   go_upto_region 26 with fail
   obtain ⟨W6,hW6⟩:∃ W6,W6=w5.alloc (.cells #[.int .i64 j1,.int .i64 j2,.int .i64 j3,.int .i64 j4,.string t1,.string t2,.string t3,.slice f1 n1 o1,.slice f2 n2 o2,.slice f3 n3 o3,.bool bp,.string t4] 29):=⟨_,rfl⟩
   have r6:W6.heap[w5.heap.size]?=some (.cells #[.int .i64 j1,.int .i64 j2,.int .i64 j3,.int .i64 j4,.string t1,.string t2,.string t3,.slice f1 n1 o1,.slice f2 n2 o2,.slice f3 n3 o3,.bool bp,.string t4] 29 (0,0)):=by rw[hW6];exact heap_alloc_new w5 _
   have b6:Below w5.heap.size w5 W6:=by rw[hW6];exact (Below.refl _ _).alloc (Nat.le_refl _) _
   rw[←hW6]
   clear hW6
   have z5:=b5.size
   have q6:∀ j,W6.cell? ⟨w.heap.size,j,none⟩=(#[.string T0,.string T1]:Array Value)[j]?:=fun j=>(b6.cell (p:=⟨w.heap.size,j,none⟩) (by show w.heap.size<_;omega)).trans (q5 j)
   have qx:=fun j=>cell_of_row W6 w3.heap.size j _ _ _ ((b6.block w3.heap.size (by omega)).trans r5)
   have qy:=fun j=>cell_of_row W6 w5.heap.size j _ _ _ r6
   have hb6:=hb5.trans (b6.mono hb5.size)
   have CA:=Alike_is AXY.out _ _ W6 (HN5.out.below b6 b6.size) (HNY.out.below b6 b6.size)
   clear q5 r5 r6
   have CW:=fun W hW=>awake17_true K W hW
   rcases hkd with rfl|rfl
   ·go_wp2_with fail
    refine CA.mono ?_
    rintro e w7 ⟨rfl,b7⟩
    have hb7:=hb6.trans (b7.mono hb6.size)
    have hE7:=K.keep _ _ hE hb7
    have qz:=fun j=>(b7.cell (p:=⟨w3.heap.size,j,none⟩) (by show w3.heap.size<_;have:=b6.size;omega)).trans (qx j)
    go_wp2_with fail
    refine (CW _ hE7).mono ?_
    rintro e w8 ⟨rfl,b8⟩
    go_wp2
    go_ret
    exact ⟨rfl,hb7.trans (b8.mono hb7.size)⟩
   ·go_wp2_with fail
    refine CA.mono ?_
    rintro e w7 ⟨rfl,b7⟩
    have hb7:=hb6.trans (b7.mono hb6.size)
    have hE7:=K.keep _ _ hE hb7
    have qz:=fun j=>(b7.cell (p:=⟨w3.heap.size,j,none⟩) (by show w3.heap.size<_;have:=b6.size;omega)).trans (qx j)
    go_wp2_with fail
    refine (CW _ hE7).mono ?_
    rintro e w8 ⟨rfl,b8⟩
    go_wp2
    go_ret
    exact ⟨rfl,hb7.trans (b8.mono hb7.size)⟩
end Go.Proofs.YtafhgbokdfhapaaGreatDoor

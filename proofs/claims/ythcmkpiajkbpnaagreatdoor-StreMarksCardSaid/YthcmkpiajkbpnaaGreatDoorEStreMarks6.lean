/- Parts of the proof of StreMarks, put together from smaller texts (blanks that Lean does not want are struck). Conditions: those that each theorem writes out. -/
import Derived.BigQuiet
import Derived.Deep.AppendLies
import Derived.Deep.AppendSrc
import Derived.Deep.CutRange
import Derived.Deep.DeepCutAuto
import Derived.Deep.DrawnRows
import Derived.Deep.LoopGhost
import Derived.Deep.MidRow
import Derived.Deep.Onto
import Derived.Deep.RegionHeld3
import Derived.Deep.RegionLaw
import Derived.Deep.RegionWith
import Derived.Deep.Upon
import Derived.Deep.WholeRow
import Derived.Defers
import Derived.Great.BuildSlice
import Derived.Laws.AppendOwnNone
import Derived.Laws.Cover4
import Derived.Laws.Tables
import Derived.Lib.AppendStr
import Derived.Lib.ConvBytes
import Derived.Lib.Join
import Derived.Lib.MapLaws
import Derived.Lib.SlTrimSet
import Derived.Lib.TrimAscii
import Derived.Lib.TrimUEq
import Derived.Recover
import Derived.Shelf.GgClosure.StringsIndexFunc
import Derived.Shelf.GgClosure.StringsTrimFunc
import Derived.Shelf.LaysC
import Derived.Shelf.LaysM
import Derived.Shelf.Small.Strs
import Derived.Shelf.Small.Utf8
import Derived.Shelf.Small.Wraps
import Derived.Shelf.Strconv.Clone
import Derived.Shelf.Strconv.Itoa0
import Derived.Shelf.Strconv.SyntaxError
import Derived.Shelf.Strconv.ToError
import Derived.Shelf.Strings.AsciiSet
import Derived.Shelf.Strings.Builder1
import Derived.Shelf.Strings.Builder2
import Derived.Shelf.Strings.BuilderF
import Derived.Shelf.Strings.BuilderK
import Derived.Shelf.Strings.BuilderRune
import Derived.Shelf.Strings.Count
import Derived.Shelf.Strings.LastIndex
import Derived.Shelf.Strings.OnBuilder
import Derived.Shelf.Strings.Prefix
import Derived.Shelf.Strings.Runes
import Derived.Shelf.Strings.Search1
import Derived.Shelf.Strings.Search2
import Derived.Shelf.Strings.Search3
import Derived.Shelf.Strings.Shaped
import Derived.Shelf.Strings.SlTrimAscii
import Derived.Shelf.Strings.Split
import Derived.Shelf.Strings.Trim
import Derived.Shelf.Unicode.DecodeAny
import Derived.Shelf.Unicode.DecodeLast
import Derived.Shelf.Unicode.DecodeSlow
import Derived.StillTailTactics
import Derived.WalkLawsBesides
import Derived.Test.YthcmkpiajkbpnaaGreatDoorEStreMarks0
import Derived.Test.YthcmkpiajkbpnaaGreatDoorEStreMarks1
import Derived.Test.YthcmkpiajkbpnaaGreatDoorEStreMarks2
import Derived.Test.YthcmkpiajkbpnaaGreatDoorEStreMarks4
import Derived.Test.YthcmkpiajkbpnaaGreatDoorEStreMarks5
import Derived.Test.YthcmkpiajkbpnaaGreatDoorProg
import Derived.Test.YthcmkpiajkbpnaaGreatDoorZ00
import Derived.Test.YthcmkpiajkbpnaaGreatDoorZ01
import Derived.Test.YthcmkpiajkbpnaaGreatDoorZ02
import Derived.Test.YthcmkpiajkbpnaaGreatDoorZ03
import Derived.Test.YthcmkpiajkbpnaaGreatDoorZ04
import Derived.Test.YthcmkpiajkbpnaaGreatDoorZ05
import Derived.Test.YthcmkpiajkbpnaaGreatDoorZ06
import Derived.Test.YthcmkpiajkbpnaaGreatDoorZ07
import Derived.Test.YthcmkpiajkbpnaaGreatDoorZ08
import Derived.Test.YthcmkpiajkbpnaaGreatDoorZ09
import Derived.Test.YthcmkpiajkbpnaaGreatDoorZ10
import Derived.Test.YthcmkpiajkbpnaaGreatDoorZ11
import Derived.Test.YthcmkpiajkbpnaaGreatDoorZ12
import Derived.Test.YthcmkpiajkbpnaaGreatDoorZ13
import Derived.Test.YthcmkpiajkbpnaaGreatDoorZ14
import Derived.Test.YthcmkpiajkbpnaaGreatDoorZ15
import Derived.Test.YthcmkpiajkbpnaaGreatDoorZ16
import Derived.Test.YthcmkpiajkbpnaaGreatDoorZ17
import Derived.Test.YthcmkpiajkbpnaaGreatDoorZ18
import Derived.Test.YthcmkpiajkbpnaaGreatDoorZ19
import Derived.Test.YthcmkpiajkbpnaaGreatDoorZ32
import Derived.Test.YthcmkpiajkbpnaaGreatDoorZ35
namespace Go.Proofs.YthcmkpiajkbpnaaGreatDoor
open Go.RowKit
attribute [local go_sem ↓] Go.wp_at_zero Go.wp_at_succ
theorem size_mkB (l:List UInt8):(mkB l).size=l.length:=by simp[mkB,ByteArray.size]
theorem mkD_size (l:List UInt8):(⟨l.toArray⟩:ByteArray).size=l.length:=by simp[ByteArray.size]
theorem mkB_data (l:List UInt8):(mkB l).data.toList=l:=by simp[mkB]
set_option maxRecDepth 100000 in
set_option maxHeartbeats 6400000 in
theorem StreMarks_walk {Ev:World→Prop} {P:ByteArray→Prop} (K:StreC Ev P) (v0 v1:Value) (ws wh:List Int) (w:World) (hE:Ev w) (h0:IsInts .i64 w.heap.size w v0 ws) (h1:IsInts .i64 w.heap.size w v1 wh) :
  Calls Tryz.prog 5 #[v0,v1] w fun e w'=>e=.returned (.bool true)∧Below w.heap.size w w':=by
 obtain ⟨ao0,cap0,rfl,c0,d0⟩:=h0.slice
 obtain ⟨ao1,cap1,rfl,c1,d1⟩:=h1.slice
 unfold maxLen at d0 d1
 by_cases hl1:6<ws.length
 ·have hl2:(6:Int)<(ws.length:Int):=by omega
  clear h0 h1
  go_enter Tryz.func5,Tryz.ntmps5
  go_wp2_with fail
  refine (awake18_true K _ hE).mono ?_
  rintro e w5 ⟨rfl,b5⟩
  go_wp2
  go_ret
  exact ⟨rfl,b5⟩
 have hl3:¬ ((6:Int)<(ws.length:Int)):=by omega
 obtain ⟨X,hX⟩:∃ X,X=rowsM ws wh:=⟨_,rfl⟩
 have HM:Hid (∀ x∈X,x.1<6∧x.2∈wordL):=by rw[hX];exact rowsM_ok _ _
 obtain ⟨L,hL⟩:∃ L,L=ws.length:=⟨_,rfl⟩
 have hXL:X.length=L:=by rw[hX,hL];simp[rowsM]
 have hXd:∀ k,k<L→X.drop k=(kM wh k,word (ws.getD k 0)) :: X.drop (k+1):=fun k hk=>by
  rw[List.drop_eq_getElem_cons (by rw[hXL];exact hk)]
  congr 1
  simp[hX,rowsM]
 have hXg:∀ k,k<L→X.getD k (0,[])=(kM wh k,word (ws.getD k 0)):=fun k hk=>by
  rw[List.getD_eq_getElem?_getD,List.getElem?_eq_getElem (by rw[hXL];exact hk),Option.getD_some]
  simp[hX,rowsM]
 have HL:=Lib.hid hL
 have HXL:=Lib.hid hXL
 have HXD:=Lib.hid hXd
 have HXG:=Lib.hid hXg
 rw[←hL] at h0 c0 hl1 hl3 ⊢
 clear hL hX hXL hXd hXg
 go_enter Tryz.func5,Tryz.ntmps5
 go_wp2
 go_loopw [5,6] (fun v5 v6 wr=>∃ (P:List UInt8) (PB:ByteArray) (k:Nat),v5=.string PB∧v6=.int .i64 (k:Int)∧k≤L∧PB.size≤40*k∧Hid (PB=mkB P)∧Hid (P++smC (X.drop k)=smC X)∧Below w.heap.size w wr) (fun _ v6 _=>L-(intOf v6).toNat)
 case atStart=>exact ⟨[],_,0,rfl,rfl,Nat.zero_le _,by decide,rfl,rfl,Below.refl _ _⟩
 case round=>
  obtain ⟨P,PB,k,rfl,rfl,hk,hPz,HP,HPR,hb⟩:=hrel
  by_cases hkn:k<L
  ·obtain ⟨bb,oo,rfl,hlt,hcc⟩:=IsInts.at h0 HL.out.symm (by omega)
   have g1:=hcc k hkn
   rw[←hb.cell (p:=⟨bb,oo+k,none⟩) hlt] at g1
   have hdr:=HXD.out k hkn
   obtain ⟨x,hx⟩:∃ x,x=ws.getD k 0:=⟨_,rfl⟩
   rw[←hx] at g1 hdr
   obtain ⟨wd,hwd⟩:∃ wd,word x=wd:=⟨_,rfl⟩
   obtain ⟨z,hz⟩:∃ z,kM wh k=z:=⟨_,rfl⟩
   rw[hwd,hz] at hdr
   have hwm:wd∈wordL:=by rw[←hwd];exact word_mem x
   have hz6:z<6:=by rw[←hz];exact kM_lt _ _
   have hI:(k<wh.length∧(∃ bb oo,ao1=some ⟨bb,oo,none⟩∧w.cell? ⟨bb,oo+k,none⟩=some (.int .i64 (wh.getD k 0))∧bb<w.heap.size)∧lowZ (wh.getD k 0) 6=(z:Int))∨(¬ k<wh.length∧z=0):=by
    have hr:=lowZ_range (wh.getD k 0) 6 (by omega)
    unfold kM at hz
    by_cases h:k<wh.length
    ·rw[if_pos h] at hz
     obtain ⟨b1,o1,e1,l1,cc1⟩:=IsInts.at h1 rfl (by omega)
     exact .inl ⟨h,⟨b1,o1,e1,cc1 k h,l1⟩,by omega⟩
    ·rw[if_neg h] at hz
     exact .inr ⟨h,hz.symm⟩
   obtain ⟨WB,hWB⟩:∃ WB:ByteArray,(⟨wd.toArray⟩:ByteArray)=WB:=⟨_,rfl⟩
   have hWz:WB.size≤3:=by
    rw[←hWB,mkD_size]
    exact (show ∀ t∈wordL,t.length≤3 by decide +kernel) _ hwm
   have CW:=fun Wd=>WordOf_is wd x Wd hwd
   rw[hWB] at CW
   clear hcc hx hwd hz
   rcases hI with ⟨hin,⟨b1,o1,rfl,f1,l1⟩,hi2⟩|⟨hin,rfl⟩
   ·rw[←hb.cell (p:=⟨b1,o1+k,none⟩) l1] at f1
    generalize wh.getD k 0=xi at f1 hi2
    have hzc:z=0∨z=1∨z=2∨z=3∨z=4∨z=5:=by omega
    rcases hzc with rfl|rfl|rfl|rfl|rfl|rfl
    ·go_wp2_with fail
     refine (Low_is (0:Int) _ 6 _ (by omega) (by omega) hi2).mono ?_
     rintro e w1 ⟨rfl,rfl⟩
     go_wp2_with fail
     refine (CW _).mono ?_
     rintro e w5 ⟨rfl,b5⟩
     have hb5:=hb.trans (b5.mono hb.size)
     go_wp2
     go_roundw
     case rel=>
      have e1:PB++((⟨#[45,45,45,32]⟩:ByteArray)++WB++(⟨#[10]⟩:ByteArray))=mkB (P++smF 0 wd):=by
       have hF:smF 0 wd=[45,45,45,32]++wd++[10]:=rfl
       rw[HP.out,←hWB,hF]
       simp only[←mkB_append]
       rfl
      refine ⟨P++smF 0 wd,_,k+1,rfl,by go_num,by omega,?_,e1,?_,hb5.alloc hb5.size _⟩
      ·rw[e1,size_mkB,List.length_append]
       have h1:=smF_len 0 wd (by decide) hwm
       have h2:PB.size=P.length:=by rw[HP.out,size_mkB]
       omega
      ·show _=_
       rw[←HPR.out,hdr]
       simp[smC,List.append_assoc]
     case measure=>simp[intOf];omega

    ·go_wp2_with fail
     refine (Low_is (1:Int) _ 6 _ (by omega) (by omega) hi2).mono ?_
     rintro e w1 ⟨rfl,rfl⟩
     go_wp2_with fail
     refine (CW _).mono ?_
     rintro e w5 ⟨rfl,b5⟩
     have hb5:=hb.trans (b5.mono hb.size)
     go_wp2
     go_roundw
     case rel=>
      have e1:PB++((⟨#[45,45,45,10]⟩:ByteArray)++WB++(⟨#[10]⟩:ByteArray))=mkB (P++smF 1 wd):=by
       have hF:smF 1 wd=[45,45,45,10]++wd++[10]:=rfl
       rw[HP.out,←hWB,hF]
       simp only[←mkB_append]
       rfl
      refine ⟨P++smF 1 wd,_,k+1,rfl,by go_num,by omega,?_,e1,?_,hb5.alloc hb5.size _⟩
      ·rw[e1,size_mkB,List.length_append]
       have h1:=smF_len 1 wd (by decide) hwm
       have h2:PB.size=P.length:=by rw[HP.out,size_mkB]
       omega
      ·show _=_
       rw[←HPR.out,hdr]
       simp[smC,List.append_assoc]
     case measure=>simp[intOf];omega

    ·go_wp2_with fail
     refine (Low_is (2:Int) _ 6 _ (by omega) (by omega) hi2).mono ?_
     rintro e w1 ⟨rfl,rfl⟩
     go_wp2_with fail
     refine (CW _).mono ?_
     rintro e w5 ⟨rfl,b5⟩
     have hb5:=hb.trans (b5.mono hb.size)
     go_wp2
     go_roundw
     case rel=>
      have e1:PB++((⟨#[45,45,45,32,35,32,99,10,32,32]⟩:ByteArray)++WB++(⟨#[10,10]⟩:ByteArray))=mkB (P++smF 2 wd):=by
       have hF:smF 2 wd=[45,45,45,32,35,32,99,10,32,32]++wd++[10,10]:=rfl
       rw[HP.out,←hWB,hF]
       simp only[←mkB_append]
       rfl
      refine ⟨P++smF 2 wd,_,k+1,rfl,by go_num,by omega,?_,e1,?_,hb5.alloc hb5.size _⟩
      ·rw[e1,size_mkB,List.length_append]
       have h1:=smF_len 2 wd (by decide) hwm
       have h2:PB.size=P.length:=by rw[HP.out,size_mkB]
       omega
      ·show _=_
       rw[←HPR.out,hdr]
       simp[smC,List.append_assoc]
     case measure=>simp[intOf];omega

    ·go_wp2_with fail
     refine (Low_is (3:Int) _ 6 _ (by omega) (by omega) hi2).mono ?_
     rintro e w1 ⟨rfl,rfl⟩
     go_wp2_with fail
     refine (CW _).mono ?_
     rintro e w5 ⟨rfl,b5⟩
     have hb5:=hb.trans (b5.mono hb.size)
     go_wp2
     go_roundw
     case rel=>
      have e1:PB++((⟨#[45,45,45,10]⟩:ByteArray)++WB++(⟨#[10,46,46,46,10]⟩:ByteArray))=mkB (P++smF 3 wd):=by
       have hF:smF 3 wd=[45,45,45,10]++wd++[10,46,46,46,10]:=rfl
       rw[HP.out,←hWB,hF]
       simp only[←mkB_append]
       rfl
      refine ⟨P++smF 3 wd,_,k+1,rfl,by go_num,by omega,?_,e1,?_,hb5.alloc hb5.size _⟩
      ·rw[e1,size_mkB,List.length_append]
       have h1:=smF_len 3 wd (by decide) hwm
       have h2:PB.size=P.length:=by rw[HP.out,size_mkB]
       omega
      ·show _=_
       rw[←HPR.out,hdr]
       simp[smC,List.append_assoc]
     case measure=>simp[intOf];omega

    ·go_wp2_with fail
     refine (Low_is (4:Int) _ 6 _ (by omega) (by omega) hi2).mono ?_
     rintro e w1 ⟨rfl,rfl⟩
     go_wp2_with fail
     refine (CW _).mono ?_
     rintro e w5 ⟨rfl,b5⟩
     have hb5:=hb.trans (b5.mono hb.size)
     go_wp2
     go_roundw
     case rel=>
      have e1:PB++((⟨#[45,45,45,32]⟩:ByteArray)++WB++(⟨#[10,46,46,46,10,46,46,46,10]⟩:ByteArray))=mkB (P++smF 4 wd):=by
       have hF:smF 4 wd=[45,45,45,32]++wd++[10,46,46,46,10,46,46,46,10]:=rfl
       rw[HP.out,←hWB,hF]
       simp only[←mkB_append]
       rfl
      refine ⟨P++smF 4 wd,_,k+1,rfl,by go_num,by omega,?_,e1,?_,hb5.alloc hb5.size _⟩
      ·rw[e1,size_mkB,List.length_append]
       have h1:=smF_len 4 wd (by decide) hwm
       have h2:PB.size=P.length:=by rw[HP.out,size_mkB]
       omega
      ·show _=_
       rw[←HPR.out,hdr]
       simp[smC,List.append_assoc]
     case measure=>simp[intOf];omega

    ·go_wp2_with fail
     refine (Low_is (5:Int) _ 6 _ (by omega) (by omega) hi2).mono ?_
     rintro e w1 ⟨rfl,rfl⟩
     go_wp2_with fail
     refine (CW _).mono ?_
     rintro e w5 ⟨rfl,b5⟩
     have hb5:=hb.trans (b5.mono hb.size)
     go_wp2
     go_roundw
     case rel=>
      have e1:PB++((⟨#[45,45,45,10,10]⟩:ByteArray)++WB++(⟨#[10,46,46,46,32,35,32,99,10,37,70,79,79,10,37,89,65,77,76,32,49,46,50,10]⟩:ByteArray))=mkB (P++smF 5 wd):=by
       have hF:smF 5 wd=[45,45,45,10,10]++wd++[10,46,46,46,32,35,32,99,10,37,70,79,79,10,37,89,65,77,76,32,49,46,50,10]:=rfl
       rw[HP.out,←hWB,hF]
       simp only[←mkB_append]
       rfl
      refine ⟨P++smF 5 wd,_,k+1,rfl,by go_num,by omega,?_,e1,?_,hb5.alloc hb5.size _⟩
      ·rw[e1,size_mkB,List.length_append]
       have h1:=smF_len 5 wd (by decide) hwm
       have h2:PB.size=P.length:=by rw[HP.out,size_mkB]
       omega
      ·show _=_
       rw[←HPR.out,hdr]
       simp[smC,List.append_assoc]
     case measure=>simp[intOf];omega

   ·skip
    go_wp2_with fail
    refine (CW _).mono ?_
    rintro e w5 ⟨rfl,b5⟩
    have hb5:=hb.trans (b5.mono hb.size)
    go_wp2
    go_roundw
    case rel=>
     have e1:PB++((⟨#[45,45,45,32]⟩:ByteArray)++WB++(⟨#[10]⟩:ByteArray))=mkB (P++smF 0 wd):=by
      have hF:smF 0 wd=[45,45,45,32]++wd++[10]:=rfl
      rw[HP.out,←hWB,hF]
      simp only[←mkB_append]
      rfl
     refine ⟨P++smF 0 wd,_,k+1,rfl,by go_num,by omega,?_,e1,?_,hb5.alloc hb5.size _⟩
     ·rw[e1,size_mkB,List.length_append]
      have h1:=smF_len 0 wd (by decide) hwm
      have h2:PB.size=P.length:=by rw[HP.out,size_mkB]
      omega
     ·show _=_
      rw[←HPR.out,hdr]
      simp[smC,List.append_assoc]
    case measure=>simp[intOf];omega

  ·obtain rfl:L=k:=by omega
   have hP2:P=smC X:=by
    have:=HPR.out
    rw[List.drop_eq_nil_of_le (by rw[HXL.out];exact Nat.le_refl _)] at this
    simpa [smC] using this
   have hS:=smB_split X false
   rw[←hP2] at hS
   have hgl:=lastM_get X false
   have hlen:X=[]↔L=0:=by rw[←HXL.out];exact List.length_eq_zero_iff.symm
   have hcase:(lastM false X=false∧(L=0∨(0<L∧wh.length<L)))∨(0<L∧L≤wh.length∧∃ z:Nat,(∃ bb oo,ao1=some ⟨bb,oo,none⟩∧w.cell? ⟨bb,oo+(L-1),none⟩=some (.int .i64 (wh.getD (L-1) 0))∧bb<w.heap.size)∧lowZ (wh.getD (L-1) 0) 6=(z:Int)∧lastM false X=(z==5)):=by
    by_cases hL0:L=0
    ·left
     rw[if_pos (hlen.2 hL0)] at hgl
     exact ⟨hgl,.inl hL0⟩
    rw[if_neg (fun e=>hL0 (hlen.1 e)),HXL.out,HXG.out (L-1) (by omega)] at hgl
    unfold kM at hgl
    by_cases hw:L≤wh.length
    ·right
     rw[if_pos (by omega)] at hgl
     have hr:=lowZ_range (wh.getD (L-1) 0) 6 (by omega)
     obtain ⟨b1,o1,e1,l1,cc1⟩:=IsInts.at h1 rfl (by omega)
     exact ⟨by omega,hw,(lowZ (wh.getD (L-1) 0) 6).toNat,⟨b1,o1,e1,cc1 (L-1) (by omega),l1⟩,by omega,hgl⟩
    ·left
     rw[if_neg (by omega)] at hgl
     exact ⟨hgl,.inr ⟨by omega,by omega⟩⟩
   obtain ⟨D,T,hD,hZ⟩:=sm_text (s:=mkB (smB false X)) (by rw[HXL.out];omega) HM.out (mkB_data _)
   have hsmp:Smp (mkB (smB false X)):=by unfold Smp;rw[mkB_data];exact smB_smp X false HM.out
   obtain ⟨hDl,hDa⟩:=smD.at X false D hD
   rw[HXL.out] at hDl hDa
   have hEr:=K.keep _ _ hE hb
   have hsz:(mkB (smB false X)).size≤10000:=by
    rw[size_mkB,hS,List.length_append]
    have h2:PB.size=P.length:=by rw[HP.out,size_mkB]
    split <;> simp <;> omega
   have CP:=K.parse D T 0 0 (mkB (smB false X)) _ hsz (K.smp _ hsmp) hEr hZ
   have HDA:=Lib.hid hDa
   have hSB:∀ b,lastM false X=b→(if b=true then PB++(⟨#[45,45,45,10]⟩:ByteArray) else PB)=mkB (smB false X):=fun b hb=>by
    rw[hS,hb,HP.out]
    cases b with
    | false=>simp
    | true=>rw[if_pos rfl,if_pos rfl,←mkB_append];rfl
   clear hS hgl hlen hZ hsmp hD hDa hP2 HPR
   have hge:(0:Int)≤(L:Int):=by omega
   rcases hcase with ⟨hlast,hL0|⟨hL0,hLw⟩⟩|⟨hL0,hLw,z,⟨b1,o1,rfl,f1,l1⟩,hi2,hlast⟩
   ·have hL1:¬ ((0:Int)<(L:Int)):=by omega
    have h:=hSB false hlast
    rw[if_neg (by decide)] at h
    rw[←h] at CP
    clear h hSB
    rw[hlast] at hDl
    have hn1:L≤D.length:=by rw[hDl];exact Nat.le_add_right _ _
    have hn2:D.length≤L+1:=by rw[hDl];split <;> omega
    go_wp2_with fail
    refine CP.mono ?_
    rintro e w5 ⟨kv,tv,rfl,hDD,hTT,b5⟩
    obtain ⟨ka,kc,rfl,hkc1,hkc2,hkk⟩:=hDD
    obtain ⟨ta,tc,rfl,_,_,_⟩:=hTT
    have HKK:=Lib.hid hkk
    have hb6:=hb.trans (b5.mono hb.size)
    have hc1:¬ ((D.length:Int)<(L:Int)):=by omega
    have hc2:¬ ((L:Int)+1<(D.length:Int)):=by omega
    have hc3:decide (D.length<L)=false:=decide_eq_false (by omega)
    have hc4:decide ((L:Int)+1<(D.length:Int))=false:=decide_eq_false (by omega)
    obtain ⟨WX,hWX⟩:∃ WX:World,WX=w5.alloc (.cells #[.slice ka D.length kc,.slice ta T.length tc] 42):=⟨_,rfl⟩
    have bX:Below w5.heap.size w5 WX:=by rw[hWX];exact (Below.refl _ _).alloc (Nat.le_refl _) _
    have rX:WX.heap[w5.heap.size]?=some (.cells #[.slice ka D.length kc,.slice ta T.length tc] 42 (0,0)):=by rw[hWX];exact heap_alloc_new w5 _
    have zX:w5.heap.size<WX.heap.size:=by rw[hWX];simp
    clear hkk CP hDl
    go_upto_region 15 with fail
    rw[←hWX]
    clear hWX
    have qX:=fun j=>cell_of_row WX _ j _ _ _ rX
    have hbX:=hb6.trans (bX.mono hb6.size)
    go_wp2
    go_loopw [12] (fun v12 wx=>∃ k:Nat,v12=.int .i64 (k:Int)∧k≤L∧Below WX.heap.size WX wx) (fun v12 _=>L-(intOf v12).toNat)
    case atStart=>exact ⟨0,rfl,Nat.zero_le _,Below.refl _ _⟩
    case round=>
     obtain ⟨k,rfl,hk2,hb2⟩:=hrel
     by_cases hkn2:k<L
     ·exact absurd hkn2 (by omega)
     ·obtain rfl:L=k:=by omega
      have hEz:=K.keep _ _ hE (hbX.trans (hb2.mono hbX.size))
      go_wp2_with fail
      refine (awake18_true K _ hEz).mono ?_
      rintro e w9 ⟨rfl,b9⟩
      go_wp2
      go_ret
      exact ⟨rfl,(hbX.trans (hb2.mono hbX.size)).trans (b9.mono (hbX.trans (hb2.mono hbX.size)).size)⟩

   ·have hL1:(0:Int)<(L:Int):=by omega
    have hLw2:¬ ((L:Int)≤(wh.length:Int)):=by omega
    have h:=hSB false hlast
    rw[if_neg (by decide)] at h
    rw[←h] at CP
    clear h hSB
    rw[hlast] at hDl
    have hn1:L≤D.length:=by rw[hDl];exact Nat.le_add_right _ _
    have hn2:D.length≤L+1:=by rw[hDl];split <;> omega
    go_wp2_with fail
    refine CP.mono ?_
    rintro e w5 ⟨kv,tv,rfl,hDD,hTT,b5⟩
    obtain ⟨ka,kc,rfl,hkc1,hkc2,hkk⟩:=hDD
    obtain ⟨ta,tc,rfl,_,_,_⟩:=hTT
    have HKK:=Lib.hid hkk
    have hb6:=hb.trans (b5.mono hb.size)
    have hc1:¬ ((D.length:Int)<(L:Int)):=by omega
    have hc2:¬ ((L:Int)+1<(D.length:Int)):=by omega
    have hc3:decide (D.length<L)=false:=decide_eq_false (by omega)
    have hc4:decide ((L:Int)+1<(D.length:Int))=false:=decide_eq_false (by omega)
    obtain ⟨WX,hWX⟩:∃ WX:World,WX=w5.alloc (.cells #[.slice ka D.length kc,.slice ta T.length tc] 42):=⟨_,rfl⟩
    have bX:Below w5.heap.size w5 WX:=by rw[hWX];exact (Below.refl _ _).alloc (Nat.le_refl _) _
    have rX:WX.heap[w5.heap.size]?=some (.cells #[.slice ka D.length kc,.slice ta T.length tc] 42 (0,0)):=by rw[hWX];exact heap_alloc_new w5 _
    have zX:w5.heap.size<WX.heap.size:=by rw[hWX];simp
    clear hkk CP hDl
    go_upto_region 15 with fail
    rw[←hWX]
    clear hWX
    have qX:=fun j=>cell_of_row WX _ j _ _ _ rX
    have hbX:=hb6.trans (bX.mono hb6.size)
    go_wp2
    go_loopw [12] (fun v12 wx=>∃ k:Nat,v12=.int .i64 (k:Int)∧k≤L∧Below WX.heap.size WX wx) (fun v12 _=>L-(intOf v12).toNat)
    case atStart=>exact ⟨0,rfl,Nat.zero_le _,Below.refl _ _⟩
    case round=>
     obtain ⟨k,rfl,hk2,hb2⟩:=hrel
     by_cases hkn2:k<L
     ·obtain ⟨kb,ko,rfl,hkb,hkc⟩:=HKK.out (by omega)
      obtain ⟨c16,hcs,hd⟩:=hkc k (by omega)
      have hkb:kb<w5.heap.size:=hkb
      have hkn3:k<D.length:=by omega
      have rX2:=(hb2.block w5.heap.size zX).trans rX
      have qX2:=fun j=>cell_of_row wr _ j _ _ _ rX2
      clear qX hkc
      go_upto_region 20 with fail
      apply wp_region_list
      refine wpList_plain rfl fun K1 hK1=>?_
      go_simp
      refine hK1 _ _ ?_
      refine wpList_plain rfl fun K1 hK1=>?_
      go_simp
      refine hK1 _ _ ?_
      refine wpList_plain rfl fun K1 hK1=>?_
      go_simp
      refine hK1 _ _ ?_
      refine wpList_plain rfl fun K1 hK1=>?_
      go_simp
      refine hK1 _ _ ?_
      have h16:=hd.len
      have hrng:wr.rangeAt kb (ko+k*16) c16:=fun j v hv=>by
       have hj:j<16:=by have:=(List.getElem?_eq_some_iff.1 hv).1;omega
       have h:=hcs j hj
       rw[hv] at h
       exact (hb2.cell (p:=⟨kb,ko+k*16+j,none⟩) (by show kb<_;omega)).trans ((bX.cell (p:=⟨kb,ko+k*16+j,none⟩) hkb).trans h)
      refine wpList_plain rfl fun K1 hK1=>wp_load_mid 46 _ rfl kb (ko+k*16) rfl c16 _ hrng Tryz.underlying46 rfl (by rw[h16];kernel_rfl) (hK1 _ _ ?_)
      refine wpList_plain rfl fun K1 hK1=>?_
      go_simp
      refine hK1 _ _ ?_
      refine wpList_plain rfl fun K1 hK1=>wp_store_new 46 _ _ rfl rfl wr.heap.size rfl #[.slice none 0 0,.slice none 0 0,.bool false,.int .i64 0,.int .i64 0,.int .i64 0,.int .i64 0,.string ⟨#[]⟩,.string ⟨#[]⟩,.string ⟨#[]⟩,.slice none 0 0,.slice none 0 0,.slice none 0 0,.bool false,.string ⟨#[]⟩,.slice none 0 0] c16.toArray rfl rfl (by rw[List.size_toArray,h16];kernel_rfl) (by rw[List.size_toArray,List.size_toArray,h16];rfl) (all_oneCell_toArray hd.one) (hK1 _ _ ?_)
      refine wpList_nil ?_
      obtain ⟨dv,x1,x2,x3,x9,hdv⟩:=hd.cells
      obtain ⟨y,hy,hmk,hkd,htx,hdl⟩:=HDA.out k hkn2
      have hyk:D[k]=y:=by rw[List.getElem?_eq_getElem hkn3] at hy;injection hy
      rw[hyk] at x2 x3 x9 hdv
      obtain ⟨bb,oo,rfl,hlt,hcc⟩:=IsInts.at h0 HL.out.symm (by omega)
      have g1:=hcc k hkn2
      obtain ⟨x,hx⟩:∃ x,x=ws.getD k 0:=⟨_,rfl⟩
      rw[←hx] at g1
      obtain ⟨wd,hwd⟩:∃ wd,word x=wd:=⟨_,rfl⟩
      rw[HXG.out k hkn2,←hx] at htx
      rw[hmk] at x2
      rw[hkd] at x3
      rw[show y.root.h.text=wd from htx.trans hwd] at x9
      obtain ⟨da,dc,rfl,_,_,_⟩:=hdv
      obtain ⟨WY,hWY⟩:∃ WY:World,WY=wr.alloc (.cells c16.toArray 46):=⟨_,rfl⟩
      have bY:Below wr.heap.size wr WY:=by rw[hWY];exact (Below.refl _ _).alloc (Nat.le_refl _) _
      have rY:WY.heap[wr.heap.size]?=some (.cells c16.toArray 46 (0,0)):=by rw[hWY];exact heap_alloc_new wr _
      have zY:wr.heap.size<WY.heap.size:=by rw[hWY];simp
      rw[←hWY]
      clear hWY
      have qY:=fun j=>cell_of_row WY _ j _ _ _ rY
      have y1:WY.cell? ⟨wr.heap.size,1,none⟩=some (.slice da y.dirs.length dc):=(qY 1).trans (by rw[List.getElem?_toArray];exact x1)
      have y2:WY.cell? ⟨wr.heap.size,2,none⟩=some (.bool true):=(qY 2).trans (by rw[List.getElem?_toArray];exact x2)
      have y3:WY.cell? ⟨wr.heap.size,3,none⟩=some (.int .i64 1):=(qY 3).trans (by rw[List.getElem?_toArray];exact x3)
      obtain ⟨WB,hWB⟩:∃ WB:ByteArray,(⟨wd.toArray⟩:ByteArray)=WB:=⟨_,rfl⟩
      rw[hWB] at x9
      have CW:=fun Wd=>WordOf_is wd x Wd hwd
      rw[hWB] at CW
      have y9:WY.cell? ⟨wr.heap.size,9,none⟩=some (.string WB):=(qY 9).trans (by rw[List.getElem?_toArray];exact x9)
      have hbr:Below w.heap.size w wr:=hbX.trans (hb2.mono hbX.size)
      have hbY:Below w.heap.size w WY:=hbr.trans (bY.mono hbr.size)
      have hzr:WX.heap.size≤wr.heap.size:=hb2.size
      have hzw:w.heap.size≤wr.heap.size:=hbr.size
      have hbWY:Below WX.heap.size WX WY:=hb2.trans (bY.mono hb2.size)
      have g2:WY.cell? ⟨bb,oo+k,none⟩=some (.int .i64 x):=(hbY.cell (p:=⟨bb,oo+k,none⟩) hlt).trans g1
      obtain ⟨dn,hdn⟩:∃ dn,dn=y.dirs.length:=⟨_,rfl⟩
      rw[←hdn] at y1 hdl
      have hdk:(k=0∧dn=0)∨(0<k∧¬ k-1<wh.length∧dn=0)∨(0<k∧k-1<wh.length∧∃ z:Nat,lowZ (wh.getD (k-1) 0) 6=(z:Int)∧((z=5∧dn=2)∨(z≠5∧dn=0))):=by
       by_cases k0:k=0
       ·rw[if_pos k0] at hdl
        exact .inl ⟨k0,hdl⟩
       rw[if_neg k0,HXG.out (k-1) (by omega)] at hdl
       unfold kM at hdl
       by_cases hw:k-1<wh.length
       ·rw[if_pos hw] at hdl
        have hr:=lowZ_range (wh.getD (k-1) 0) 6 (by omega)
        refine .inr (.inr ⟨by omega,hw,(lowZ (wh.getD (k-1) 0) 6).toNat,by omega,?_⟩)
        by_cases h5:(lowZ (wh.getD (k-1) 0) 6).toNat=5
        ·rw[h5] at hdl ⊢
         exact .inl ⟨rfl,hdl⟩
        ·rw[if_neg (by simpa using h5)] at hdl
         exact .inr ⟨h5,hdl⟩
       ·rw[if_neg hw] at hdl
        exact .inr (.inl ⟨by omega,hw,hdl⟩)
      have HDK:=Lib.hid hdk
      clear hdk hdl hy hyk htx hkd hmk x1 x2 x3 x9 hd hcs hrng h16 qY hcc hx hwd hWB g1 hdn qX2 rX2 rY
      have CWS:∀ W:World,(W.cell? ⟨wr.heap.size,2,none⟩=some (.bool true)∧W.cell? ⟨wr.heap.size,3,none⟩=some (.int .i64 1)∧W.cell? ⟨wr.heap.size,9,none⟩=some (.string WB)∧W.cell? ⟨wr.heap.size,1,none⟩=some (.slice da dn dc)∧W.cell? ⟨bb,oo+k,none⟩=some (.int .i64 x)∧wr.heap.size<W.heap.size∧Below WX.heap.size WX W)→Calls Tryz.prog 10 #[.int .i64 x] W fun e w'=>e=.returned (.string WB)∧(w'.cell? ⟨wr.heap.size,2,none⟩=some (.bool true)∧w'.cell? ⟨wr.heap.size,3,none⟩=some (.int .i64 1)∧w'.cell? ⟨wr.heap.size,9,none⟩=some (.string WB)∧w'.cell? ⟨wr.heap.size,1,none⟩=some (.slice da dn dc)∧w'.cell? ⟨bb,oo+k,none⟩=some (.int .i64 x)∧wr.heap.size<w'.heap.size∧Below WX.heap.size WX w'):=fun W hS=>(CW W).mono fun e w' h=>⟨h.1,(h.2.cell (p:=⟨wr.heap.size,2,none⟩) hS.2.2.2.2.2.1).trans hS.1,(h.2.cell (p:=⟨wr.heap.size,3,none⟩) hS.2.2.2.2.2.1).trans hS.2.1,(h.2.cell (p:=⟨wr.heap.size,9,none⟩) hS.2.2.2.2.2.1).trans hS.2.2.1,(h.2.cell (p:=⟨wr.heap.size,1,none⟩) hS.2.2.2.2.2.1).trans hS.2.2.2.1,(h.2.cell (p:=⟨bb,oo+k,none⟩) (show bb<_ by omega)).trans hS.2.2.2.2.1,Nat.lt_of_lt_of_le hS.2.2.2.2.2.1 h.2.size,hS.2.2.2.2.2.2.trans (h.2.mono hS.2.2.2.2.2.2.size)⟩
      have hs0:WY.drew.cell? ⟨wr.heap.size,2,none⟩=some (.bool true)∧WY.drew.cell? ⟨wr.heap.size,3,none⟩=some (.int .i64 1)∧WY.drew.cell? ⟨wr.heap.size,9,none⟩=some (.string WB)∧WY.drew.cell? ⟨wr.heap.size,1,none⟩=some (.slice da dn dc)∧WY.drew.cell? ⟨bb,oo+k,none⟩=some (.int .i64 x)∧wr.heap.size<WY.drew.heap.size∧Below WX.heap.size WX WY.drew:=⟨by simpa using y2,by simpa using y3,by simpa using y9,by simpa using y1,by simpa using g2,by simpa using zY,Go.below_drewN hbWY 1⟩
      have hkb:(0:Int)≤(k:Int):=by omega
      have hkl:(k:Int)<(L:Int):=by omega
      go_upto_region 21 with fail
      go_region_held3 (fun w'=>w'.cell? ⟨wr.heap.size,2,none⟩=some (.bool true)∧w'.cell? ⟨wr.heap.size,3,none⟩=some (.int .i64 1)∧w'.cell? ⟨wr.heap.size,9,none⟩=some (.string WB)∧w'.cell? ⟨wr.heap.size,1,none⟩=some (.slice da dn dc)∧w'.cell? ⟨bb,oo+k,none⟩=some (.int .i64 x)∧wr.heap.size<w'.heap.size∧Below WX.heap.size WX w') (first|(with_reducible assumption)|(with_reducible exact hs0))
       (first|(go_at_call 10;refine (CWS _ (by with_reducible assumption)).mono ?_;rintro e w6 ⟨rfl,hS6⟩))
      obtain ⟨q2,q3,q9,q1,qg,qz,bT⟩:=hS6
      have hbT:Below w.heap.size w w6:=hbX.trans (bT.mono hbX.size)
      have hdk:=HDK.out
      clear hs0 CWS y1 y2 y3 y9 g2 hbWY hbY hbr bY zY CW HDK
      rcases hdk with ⟨hk0,hdn0⟩|⟨hk0,hkw,hdn0⟩|⟨hk0,hkw,z,hz,hzz⟩
      ·have hk1:¬ ((0:Int)<(k:Int)):=by omega
       clear hk0
       subst hdn0
       go_wp2
       go_roundw
       case rel=>exact ⟨k+1,by go_num,by omega,bT⟩
       case measure=>simp[intOf];omega
      ·have hk1:(0:Int)<(k:Int):=by omega
       have hk3:¬ ((k:Int)-1<(wh.length:Int)):=by omega
       clear hk0
       subst hdn0
       go_wp2
       go_roundw
       case rel=>exact ⟨k+1,by go_num,by omega,bT⟩
       case measure=>simp[intOf];omega
      ·have hk1:(0:Int)<(k:Int):=by omega
       have hk3:(k:Int)-1<(wh.length:Int):=by omega
       have hk4:(0:Int)≤(k:Int)-1:=by omega
       have hkn:((k:Int)-1).toNat=k-1:=by omega
       obtain ⟨b2,o2,e2,l2,cc2⟩:=IsInts.at h1 rfl (by omega)
       cases e2
       have f2:=(hbT.cell (p:=⟨b2,o2+(k-1),none⟩) l2).trans (cc2 (k-1) hkw)
       have hz9:=lowZ_range (wh.getD (k-1) 0) 6 (by omega)
       generalize wh.getD (k-1) 0=xj at f2 hz hz9
       clear cc2 hk0
       rw[hz] at hz9
       go_wp2_with fail
       refine (Low_is (z:Int) _ 6 _ (by omega) (by omega) hz).mono ?_
       rintro e w1 ⟨rfl,rfl⟩
       rcases hzz with ⟨rfl,rfl⟩|⟨hz5,rfl⟩
       ·go_wp2
        go_roundw
        case rel=>exact ⟨k+1,by go_num,by omega,bT⟩
        case measure=>simp[intOf];omega
       ·have hz6:¬ ((z:Int)=5):=by omega
        go_wp2
        go_roundw
        case rel=>exact ⟨k+1,by go_num,by omega,bT⟩
        case measure=>simp[intOf];omega
     ·obtain rfl:L=k:=by omega
      have hEz:=K.keep _ _ hE (hbX.trans (hb2.mono hbX.size))
      go_wp2_with fail
      refine (awake18_true K _ hEz).mono ?_
      rintro e w9 ⟨rfl,b9⟩
      go_wp2
      go_ret
      exact ⟨rfl,(hbX.trans (hb2.mono hbX.size)).trans (b9.mono (hbX.trans (hb2.mono hbX.size)).size)⟩

   ·have hL1:(0:Int)<(L:Int):=by omega
    have hLw2:(L:Int)≤(wh.length:Int):=by omega
    rw[←hb.cell (p:=⟨b1,o1+(L-1),none⟩) l1] at f1
    generalize wh.getD (L-1) 0=xi at f1 hi2
    go_wp2_with fail
    refine (Low_is (z:Int) _ 6 _ (by omega) (by omega) hi2).mono ?_
    rintro e w1 ⟨rfl,rfl⟩
    by_cases hz5:z=5
    ·subst hz5
     have h:=hSB true hlast
     rw[if_pos rfl] at h
     rw[←h] at CP
     clear h hSB
     rw[hlast] at hDl
     have hn1:L≤D.length:=by rw[hDl];exact Nat.le_add_right _ _
     have hn2:D.length≤L+1:=by rw[hDl];split <;> omega
     go_wp2_with fail
     refine CP.mono ?_
     rintro e w5 ⟨kv,tv,rfl,hDD,hTT,b5⟩
     obtain ⟨ka,kc,rfl,hkc1,hkc2,hkk⟩:=hDD
     obtain ⟨ta,tc,rfl,_,_,_⟩:=hTT
     have HKK:=Lib.hid hkk
     have hb6:=hb.trans (b5.mono hb.size)
     have hc1:¬ ((D.length:Int)<(L:Int)):=by omega
     have hc2:¬ ((L:Int)+1<(D.length:Int)):=by omega
     have hc3:decide (D.length<L)=false:=decide_eq_false (by omega)
     have hc4:decide ((L:Int)+1<(D.length:Int))=false:=decide_eq_false (by omega)
     obtain ⟨WX,hWX⟩:∃ WX:World,WX=w5.alloc (.cells #[.slice ka D.length kc,.slice ta T.length tc] 42):=⟨_,rfl⟩
     have bX:Below w5.heap.size w5 WX:=by rw[hWX];exact (Below.refl _ _).alloc (Nat.le_refl _) _
     have rX:WX.heap[w5.heap.size]?=some (.cells #[.slice ka D.length kc,.slice ta T.length tc] 42 (0,0)):=by rw[hWX];exact heap_alloc_new w5 _
     have zX:w5.heap.size<WX.heap.size:=by rw[hWX];simp
     clear hkk CP hDl
     go_upto_region 15 with fail
     rw[←hWX]
     clear hWX
     have qX:=fun j=>cell_of_row WX _ j _ _ _ rX
     have hbX:=hb6.trans (bX.mono hb6.size)
     go_wp2
     go_loopw [12] (fun v12 wx=>∃ k:Nat,v12=.int .i64 (k:Int)∧k≤L∧Below WX.heap.size WX wx) (fun v12 _=>L-(intOf v12).toNat)
     case atStart=>exact ⟨0,rfl,Nat.zero_le _,Below.refl _ _⟩
     case round=>
      obtain ⟨k,rfl,hk2,hb2⟩:=hrel
      by_cases hkn2:k<L
      ·obtain ⟨kb,ko,rfl,hkb,hkc⟩:=HKK.out (by omega)
       obtain ⟨c16,hcs,hd⟩:=hkc k (by omega)
       have hkb:kb<w5.heap.size:=hkb
       have hkn3:k<D.length:=by omega
       have rX2:=(hb2.block w5.heap.size zX).trans rX
       have qX2:=fun j=>cell_of_row wr _ j _ _ _ rX2
       clear qX hkc
       go_upto_region 20 with fail
       apply wp_region_list
       refine wpList_plain rfl fun K1 hK1=>?_
       go_simp
       refine hK1 _ _ ?_
       refine wpList_plain rfl fun K1 hK1=>?_
       go_simp
       refine hK1 _ _ ?_
       refine wpList_plain rfl fun K1 hK1=>?_
       go_simp
       refine hK1 _ _ ?_
       refine wpList_plain rfl fun K1 hK1=>?_
       go_simp
       refine hK1 _ _ ?_
       have h16:=hd.len
       have hrng:wr.rangeAt kb (ko+k*16) c16:=fun j v hv=>by
        have hj:j<16:=by have:=(List.getElem?_eq_some_iff.1 hv).1;omega
        have h:=hcs j hj
        rw[hv] at h
        exact (hb2.cell (p:=⟨kb,ko+k*16+j,none⟩) (by show kb<_;omega)).trans ((bX.cell (p:=⟨kb,ko+k*16+j,none⟩) hkb).trans h)
       refine wpList_plain rfl fun K1 hK1=>wp_load_mid 46 _ rfl kb (ko+k*16) rfl c16 _ hrng Tryz.underlying46 rfl (by rw[h16];kernel_rfl) (hK1 _ _ ?_)
       refine wpList_plain rfl fun K1 hK1=>?_
       go_simp
       refine hK1 _ _ ?_
       refine wpList_plain rfl fun K1 hK1=>wp_store_new 46 _ _ rfl rfl wr.heap.size rfl #[.slice none 0 0,.slice none 0 0,.bool false,.int .i64 0,.int .i64 0,.int .i64 0,.int .i64 0,.string ⟨#[]⟩,.string ⟨#[]⟩,.string ⟨#[]⟩,.slice none 0 0,.slice none 0 0,.slice none 0 0,.bool false,.string ⟨#[]⟩,.slice none 0 0] c16.toArray rfl rfl (by rw[List.size_toArray,h16];kernel_rfl) (by rw[List.size_toArray,List.size_toArray,h16];rfl) (all_oneCell_toArray hd.one) (hK1 _ _ ?_)
       refine wpList_nil ?_
       obtain ⟨dv,x1,x2,x3,x9,hdv⟩:=hd.cells
       obtain ⟨y,hy,hmk,hkd,htx,hdl⟩:=HDA.out k hkn2
       have hyk:D[k]=y:=by rw[List.getElem?_eq_getElem hkn3] at hy;injection hy
       rw[hyk] at x2 x3 x9 hdv
       obtain ⟨bb,oo,rfl,hlt,hcc⟩:=IsInts.at h0 HL.out.symm (by omega)
       have g1:=hcc k hkn2
       obtain ⟨x,hx⟩:∃ x,x=ws.getD k 0:=⟨_,rfl⟩
       rw[←hx] at g1
       obtain ⟨wd,hwd⟩:∃ wd,word x=wd:=⟨_,rfl⟩
       rw[HXG.out k hkn2,←hx] at htx
       rw[hmk] at x2
       rw[hkd] at x3
       rw[show y.root.h.text=wd from htx.trans hwd] at x9
       obtain ⟨da,dc,rfl,_,_,_⟩:=hdv
       obtain ⟨WY,hWY⟩:∃ WY:World,WY=wr.alloc (.cells c16.toArray 46):=⟨_,rfl⟩
       have bY:Below wr.heap.size wr WY:=by rw[hWY];exact (Below.refl _ _).alloc (Nat.le_refl _) _
       have rY:WY.heap[wr.heap.size]?=some (.cells c16.toArray 46 (0,0)):=by rw[hWY];exact heap_alloc_new wr _
       have zY:wr.heap.size<WY.heap.size:=by rw[hWY];simp
       rw[←hWY]
       clear hWY
       have qY:=fun j=>cell_of_row WY _ j _ _ _ rY
       have y1:WY.cell? ⟨wr.heap.size,1,none⟩=some (.slice da y.dirs.length dc):=(qY 1).trans (by rw[List.getElem?_toArray];exact x1)
       have y2:WY.cell? ⟨wr.heap.size,2,none⟩=some (.bool true):=(qY 2).trans (by rw[List.getElem?_toArray];exact x2)
       have y3:WY.cell? ⟨wr.heap.size,3,none⟩=some (.int .i64 1):=(qY 3).trans (by rw[List.getElem?_toArray];exact x3)
       obtain ⟨WB,hWB⟩:∃ WB:ByteArray,(⟨wd.toArray⟩:ByteArray)=WB:=⟨_,rfl⟩
       rw[hWB] at x9
       have CW:=fun Wd=>WordOf_is wd x Wd hwd
       rw[hWB] at CW
       have y9:WY.cell? ⟨wr.heap.size,9,none⟩=some (.string WB):=(qY 9).trans (by rw[List.getElem?_toArray];exact x9)
       have hbr:Below w.heap.size w wr:=hbX.trans (hb2.mono hbX.size)
       have hbY:Below w.heap.size w WY:=hbr.trans (bY.mono hbr.size)
       have hzr:WX.heap.size≤wr.heap.size:=hb2.size
       have hzw:w.heap.size≤wr.heap.size:=hbr.size
       have hbWY:Below WX.heap.size WX WY:=hb2.trans (bY.mono hb2.size)
       have g2:WY.cell? ⟨bb,oo+k,none⟩=some (.int .i64 x):=(hbY.cell (p:=⟨bb,oo+k,none⟩) hlt).trans g1
       obtain ⟨dn,hdn⟩:∃ dn,dn=y.dirs.length:=⟨_,rfl⟩
       rw[←hdn] at y1 hdl
       have hdk:(k=0∧dn=0)∨(0<k∧¬ k-1<wh.length∧dn=0)∨(0<k∧k-1<wh.length∧∃ z:Nat,lowZ (wh.getD (k-1) 0) 6=(z:Int)∧((z=5∧dn=2)∨(z≠5∧dn=0))):=by
        by_cases k0:k=0
        ·rw[if_pos k0] at hdl
         exact .inl ⟨k0,hdl⟩
        rw[if_neg k0,HXG.out (k-1) (by omega)] at hdl
        unfold kM at hdl
        by_cases hw:k-1<wh.length
        ·rw[if_pos hw] at hdl
         have hr:=lowZ_range (wh.getD (k-1) 0) 6 (by omega)
         refine .inr (.inr ⟨by omega,hw,(lowZ (wh.getD (k-1) 0) 6).toNat,by omega,?_⟩)
         by_cases h5:(lowZ (wh.getD (k-1) 0) 6).toNat=5
         ·rw[h5] at hdl ⊢
          exact .inl ⟨rfl,hdl⟩
         ·rw[if_neg (by simpa using h5)] at hdl
          exact .inr ⟨h5,hdl⟩
        ·rw[if_neg hw] at hdl
         exact .inr (.inl ⟨by omega,hw,hdl⟩)
       have HDK:=Lib.hid hdk
       clear hdk hdl hy hyk htx hkd hmk x1 x2 x3 x9 hd hcs hrng h16 qY hcc hx hwd hWB g1 hdn qX2 rX2 rY
       have CWS:∀ W:World,(W.cell? ⟨wr.heap.size,2,none⟩=some (.bool true)∧W.cell? ⟨wr.heap.size,3,none⟩=some (.int .i64 1)∧W.cell? ⟨wr.heap.size,9,none⟩=some (.string WB)∧W.cell? ⟨wr.heap.size,1,none⟩=some (.slice da dn dc)∧W.cell? ⟨bb,oo+k,none⟩=some (.int .i64 x)∧wr.heap.size<W.heap.size∧Below WX.heap.size WX W)→Calls Tryz.prog 10 #[.int .i64 x] W fun e w'=>e=.returned (.string WB)∧(w'.cell? ⟨wr.heap.size,2,none⟩=some (.bool true)∧w'.cell? ⟨wr.heap.size,3,none⟩=some (.int .i64 1)∧w'.cell? ⟨wr.heap.size,9,none⟩=some (.string WB)∧w'.cell? ⟨wr.heap.size,1,none⟩=some (.slice da dn dc)∧w'.cell? ⟨bb,oo+k,none⟩=some (.int .i64 x)∧wr.heap.size<w'.heap.size∧Below WX.heap.size WX w'):=fun W hS=>(CW W).mono fun e w' h=>⟨h.1,(h.2.cell (p:=⟨wr.heap.size,2,none⟩) hS.2.2.2.2.2.1).trans hS.1,(h.2.cell (p:=⟨wr.heap.size,3,none⟩) hS.2.2.2.2.2.1).trans hS.2.1,(h.2.cell (p:=⟨wr.heap.size,9,none⟩) hS.2.2.2.2.2.1).trans hS.2.2.1,(h.2.cell (p:=⟨wr.heap.size,1,none⟩) hS.2.2.2.2.2.1).trans hS.2.2.2.1,(h.2.cell (p:=⟨bb,oo+k,none⟩) (show bb<_ by omega)).trans hS.2.2.2.2.1,Nat.lt_of_lt_of_le hS.2.2.2.2.2.1 h.2.size,hS.2.2.2.2.2.2.trans (h.2.mono hS.2.2.2.2.2.2.size)⟩
       have hs0:WY.drew.cell? ⟨wr.heap.size,2,none⟩=some (.bool true)∧WY.drew.cell? ⟨wr.heap.size,3,none⟩=some (.int .i64 1)∧WY.drew.cell? ⟨wr.heap.size,9,none⟩=some (.string WB)∧WY.drew.cell? ⟨wr.heap.size,1,none⟩=some (.slice da dn dc)∧WY.drew.cell? ⟨bb,oo+k,none⟩=some (.int .i64 x)∧wr.heap.size<WY.drew.heap.size∧Below WX.heap.size WX WY.drew:=⟨by simpa using y2,by simpa using y3,by simpa using y9,by simpa using y1,by simpa using g2,by simpa using zY,Go.below_drewN hbWY 1⟩
       have hkb:(0:Int)≤(k:Int):=by omega
       have hkl:(k:Int)<(L:Int):=by omega
       go_upto_region 21 with fail
       go_region_held3 (fun w'=>w'.cell? ⟨wr.heap.size,2,none⟩=some (.bool true)∧w'.cell? ⟨wr.heap.size,3,none⟩=some (.int .i64 1)∧w'.cell? ⟨wr.heap.size,9,none⟩=some (.string WB)∧w'.cell? ⟨wr.heap.size,1,none⟩=some (.slice da dn dc)∧w'.cell? ⟨bb,oo+k,none⟩=some (.int .i64 x)∧wr.heap.size<w'.heap.size∧Below WX.heap.size WX w') (first|(with_reducible assumption)|(with_reducible exact hs0))
        (first|(go_at_call 10;refine (CWS _ (by with_reducible assumption)).mono ?_;rintro e w6 ⟨rfl,hS6⟩))
       obtain ⟨q2,q3,q9,q1,qg,qz,bT⟩:=hS6
       have hbT:Below w.heap.size w w6:=hbX.trans (bT.mono hbX.size)
       have hdk:=HDK.out
       clear hs0 CWS y1 y2 y3 y9 g2 hbWY hbY hbr bY zY CW HDK
       rcases hdk with ⟨hk0,hdn0⟩|⟨hk0,hkw,hdn0⟩|⟨hk0,hkw,z,hz,hzz⟩
       ·have hk1:¬ ((0:Int)<(k:Int)):=by omega
        clear hk0
        subst hdn0
        go_wp2
        go_roundw
        case rel=>exact ⟨k+1,by go_num,by omega,bT⟩
        case measure=>simp[intOf];omega
       ·exact absurd hkw (by omega)
       ·have hk1:(0:Int)<(k:Int):=by omega
        have hk3:(k:Int)-1<(wh.length:Int):=by omega
        have hk4:(0:Int)≤(k:Int)-1:=by omega
        have hkn:((k:Int)-1).toNat=k-1:=by omega
        obtain ⟨b2,o2,e2,l2,cc2⟩:=IsInts.at h1 rfl (by omega)
        cases e2
        have f2:=(hbT.cell (p:=⟨b1,o1+(k-1),none⟩) l2).trans (cc2 (k-1) hkw)
        have hz9:=lowZ_range (wh.getD (k-1) 0) 6 (by omega)
        generalize wh.getD (k-1) 0=xj at f2 hz hz9
        clear cc2 hk0
        rw[hz] at hz9
        go_wp2_with fail
        refine (Low_is (z:Int) _ 6 _ (by omega) (by omega) hz).mono ?_
        rintro e w1 ⟨rfl,rfl⟩
        rcases hzz with ⟨rfl,rfl⟩|⟨hz5,rfl⟩
        ·go_wp2
         go_roundw
         case rel=>exact ⟨k+1,by go_num,by omega,bT⟩
         case measure=>simp[intOf];omega
        ·have hz6:¬ ((z:Int)=5):=by omega
         go_wp2
         go_roundw
         case rel=>exact ⟨k+1,by go_num,by omega,bT⟩
         case measure=>simp[intOf];omega
      ·obtain rfl:L=k:=by omega
       have hEz:=K.keep _ _ hE (hbX.trans (hb2.mono hbX.size))
       go_wp2_with fail
       refine (awake18_true K _ hEz).mono ?_
       rintro e w9 ⟨rfl,b9⟩
       go_wp2
       go_ret
       exact ⟨rfl,(hbX.trans (hb2.mono hbX.size)).trans (b9.mono (hbX.trans (hb2.mono hbX.size)).size)⟩

    ·have hz6:¬ ((z:Int)=5):=by omega
     have h:=hSB false (by rw[hlast];simpa using hz5)
     rw[if_neg (by decide)] at h
     rw[←h] at CP
     clear h hSB
     rw[hlast] at hDl
     have hn1:L≤D.length:=by rw[hDl];exact Nat.le_add_right _ _
     have hn2:D.length≤L+1:=by rw[hDl];split <;> omega
     go_wp2_with fail
     refine CP.mono ?_
     rintro e w5 ⟨kv,tv,rfl,hDD,hTT,b5⟩
     obtain ⟨ka,kc,rfl,hkc1,hkc2,hkk⟩:=hDD
     obtain ⟨ta,tc,rfl,_,_,_⟩:=hTT
     have HKK:=Lib.hid hkk
     have hb6:=hb.trans (b5.mono hb.size)
     have hc1:¬ ((D.length:Int)<(L:Int)):=by omega
     have hc2:¬ ((L:Int)+1<(D.length:Int)):=by omega
     have hc3:decide (D.length<L)=false:=decide_eq_false (by omega)
     have hc4:decide ((L:Int)+1<(D.length:Int))=false:=decide_eq_false (by omega)
     obtain ⟨WX,hWX⟩:∃ WX:World,WX=w5.alloc (.cells #[.slice ka D.length kc,.slice ta T.length tc] 42):=⟨_,rfl⟩
     have bX:Below w5.heap.size w5 WX:=by rw[hWX];exact (Below.refl _ _).alloc (Nat.le_refl _) _
     have rX:WX.heap[w5.heap.size]?=some (.cells #[.slice ka D.length kc,.slice ta T.length tc] 42 (0,0)):=by rw[hWX];exact heap_alloc_new w5 _
     have zX:w5.heap.size<WX.heap.size:=by rw[hWX];simp
     clear hkk CP hDl
     go_upto_region 15 with fail
     rw[←hWX]
     clear hWX
     have qX:=fun j=>cell_of_row WX _ j _ _ _ rX
     have hbX:=hb6.trans (bX.mono hb6.size)
     go_wp2
     go_loopw [12] (fun v12 wx=>∃ k:Nat,v12=.int .i64 (k:Int)∧k≤L∧Below WX.heap.size WX wx) (fun v12 _=>L-(intOf v12).toNat)
     case atStart=>exact ⟨0,rfl,Nat.zero_le _,Below.refl _ _⟩
     case round=>
      obtain ⟨k,rfl,hk2,hb2⟩:=hrel
      by_cases hkn2:k<L
      ·obtain ⟨kb,ko,rfl,hkb,hkc⟩:=HKK.out (by omega)
       obtain ⟨c16,hcs,hd⟩:=hkc k (by omega)
       have hkb:kb<w5.heap.size:=hkb
       have hkn3:k<D.length:=by omega
       have rX2:=(hb2.block w5.heap.size zX).trans rX
       have qX2:=fun j=>cell_of_row wr _ j _ _ _ rX2
       clear qX hkc
       go_upto_region 20 with fail
       apply wp_region_list
       refine wpList_plain rfl fun K1 hK1=>?_
       go_simp
       refine hK1 _ _ ?_
       refine wpList_plain rfl fun K1 hK1=>?_
       go_simp
       refine hK1 _ _ ?_
       refine wpList_plain rfl fun K1 hK1=>?_
       go_simp
       refine hK1 _ _ ?_
       refine wpList_plain rfl fun K1 hK1=>?_
       go_simp
       refine hK1 _ _ ?_
       have h16:=hd.len
       have hrng:wr.rangeAt kb (ko+k*16) c16:=fun j v hv=>by
        have hj:j<16:=by have:=(List.getElem?_eq_some_iff.1 hv).1;omega
        have h:=hcs j hj
        rw[hv] at h
        exact (hb2.cell (p:=⟨kb,ko+k*16+j,none⟩) (by show kb<_;omega)).trans ((bX.cell (p:=⟨kb,ko+k*16+j,none⟩) hkb).trans h)
       refine wpList_plain rfl fun K1 hK1=>wp_load_mid 46 _ rfl kb (ko+k*16) rfl c16 _ hrng Tryz.underlying46 rfl (by rw[h16];kernel_rfl) (hK1 _ _ ?_)
       refine wpList_plain rfl fun K1 hK1=>?_
       go_simp
       refine hK1 _ _ ?_
       refine wpList_plain rfl fun K1 hK1=>wp_store_new 46 _ _ rfl rfl wr.heap.size rfl #[.slice none 0 0,.slice none 0 0,.bool false,.int .i64 0,.int .i64 0,.int .i64 0,.int .i64 0,.string ⟨#[]⟩,.string ⟨#[]⟩,.string ⟨#[]⟩,.slice none 0 0,.slice none 0 0,.slice none 0 0,.bool false,.string ⟨#[]⟩,.slice none 0 0] c16.toArray rfl rfl (by rw[List.size_toArray,h16];kernel_rfl) (by rw[List.size_toArray,List.size_toArray,h16];rfl) (all_oneCell_toArray hd.one) (hK1 _ _ ?_)
       refine wpList_nil ?_
       obtain ⟨dv,x1,x2,x3,x9,hdv⟩:=hd.cells
       obtain ⟨y,hy,hmk,hkd,htx,hdl⟩:=HDA.out k hkn2
       have hyk:D[k]=y:=by rw[List.getElem?_eq_getElem hkn3] at hy;injection hy
       rw[hyk] at x2 x3 x9 hdv
       obtain ⟨bb,oo,rfl,hlt,hcc⟩:=IsInts.at h0 HL.out.symm (by omega)
       have g1:=hcc k hkn2
       obtain ⟨x,hx⟩:∃ x,x=ws.getD k 0:=⟨_,rfl⟩
       rw[←hx] at g1
       obtain ⟨wd,hwd⟩:∃ wd,word x=wd:=⟨_,rfl⟩
       rw[HXG.out k hkn2,←hx] at htx
       rw[hmk] at x2
       rw[hkd] at x3
       rw[show y.root.h.text=wd from htx.trans hwd] at x9
       obtain ⟨da,dc,rfl,_,_,_⟩:=hdv
       obtain ⟨WY,hWY⟩:∃ WY:World,WY=wr.alloc (.cells c16.toArray 46):=⟨_,rfl⟩
       have bY:Below wr.heap.size wr WY:=by rw[hWY];exact (Below.refl _ _).alloc (Nat.le_refl _) _
       have rY:WY.heap[wr.heap.size]?=some (.cells c16.toArray 46 (0,0)):=by rw[hWY];exact heap_alloc_new wr _
       have zY:wr.heap.size<WY.heap.size:=by rw[hWY];simp
       rw[←hWY]
       clear hWY
       have qY:=fun j=>cell_of_row WY _ j _ _ _ rY
       have y1:WY.cell? ⟨wr.heap.size,1,none⟩=some (.slice da y.dirs.length dc):=(qY 1).trans (by rw[List.getElem?_toArray];exact x1)
       have y2:WY.cell? ⟨wr.heap.size,2,none⟩=some (.bool true):=(qY 2).trans (by rw[List.getElem?_toArray];exact x2)
       have y3:WY.cell? ⟨wr.heap.size,3,none⟩=some (.int .i64 1):=(qY 3).trans (by rw[List.getElem?_toArray];exact x3)
       obtain ⟨WB,hWB⟩:∃ WB:ByteArray,(⟨wd.toArray⟩:ByteArray)=WB:=⟨_,rfl⟩
       rw[hWB] at x9
       have CW:=fun Wd=>WordOf_is wd x Wd hwd
       rw[hWB] at CW
       have y9:WY.cell? ⟨wr.heap.size,9,none⟩=some (.string WB):=(qY 9).trans (by rw[List.getElem?_toArray];exact x9)
       have hbr:Below w.heap.size w wr:=hbX.trans (hb2.mono hbX.size)
       have hbY:Below w.heap.size w WY:=hbr.trans (bY.mono hbr.size)
       have hzr:WX.heap.size≤wr.heap.size:=hb2.size
       have hzw:w.heap.size≤wr.heap.size:=hbr.size
       have hbWY:Below WX.heap.size WX WY:=hb2.trans (bY.mono hb2.size)
       have g2:WY.cell? ⟨bb,oo+k,none⟩=some (.int .i64 x):=(hbY.cell (p:=⟨bb,oo+k,none⟩) hlt).trans g1
       obtain ⟨dn,hdn⟩:∃ dn,dn=y.dirs.length:=⟨_,rfl⟩
       rw[←hdn] at y1 hdl
       have hdk:(k=0∧dn=0)∨(0<k∧¬ k-1<wh.length∧dn=0)∨(0<k∧k-1<wh.length∧∃ z:Nat,lowZ (wh.getD (k-1) 0) 6=(z:Int)∧((z=5∧dn=2)∨(z≠5∧dn=0))):=by
        by_cases k0:k=0
        ·rw[if_pos k0] at hdl
         exact .inl ⟨k0,hdl⟩
        rw[if_neg k0,HXG.out (k-1) (by omega)] at hdl
        unfold kM at hdl
        by_cases hw:k-1<wh.length
        ·rw[if_pos hw] at hdl
         have hr:=lowZ_range (wh.getD (k-1) 0) 6 (by omega)
         refine .inr (.inr ⟨by omega,hw,(lowZ (wh.getD (k-1) 0) 6).toNat,by omega,?_⟩)
         by_cases h5:(lowZ (wh.getD (k-1) 0) 6).toNat=5
         ·rw[h5] at hdl ⊢
          exact .inl ⟨rfl,hdl⟩
         ·rw[if_neg (by simpa using h5)] at hdl
          exact .inr ⟨h5,hdl⟩
        ·rw[if_neg hw] at hdl
         exact .inr (.inl ⟨by omega,hw,hdl⟩)
       have HDK:=Lib.hid hdk
       clear hdk hdl hy hyk htx hkd hmk x1 x2 x3 x9 hd hcs hrng h16 qY hcc hx hwd hWB g1 hdn qX2 rX2 rY
       have CWS:∀ W:World,(W.cell? ⟨wr.heap.size,2,none⟩=some (.bool true)∧W.cell? ⟨wr.heap.size,3,none⟩=some (.int .i64 1)∧W.cell? ⟨wr.heap.size,9,none⟩=some (.string WB)∧W.cell? ⟨wr.heap.size,1,none⟩=some (.slice da dn dc)∧W.cell? ⟨bb,oo+k,none⟩=some (.int .i64 x)∧wr.heap.size<W.heap.size∧Below WX.heap.size WX W)→Calls Tryz.prog 10 #[.int .i64 x] W fun e w'=>e=.returned (.string WB)∧(w'.cell? ⟨wr.heap.size,2,none⟩=some (.bool true)∧w'.cell? ⟨wr.heap.size,3,none⟩=some (.int .i64 1)∧w'.cell? ⟨wr.heap.size,9,none⟩=some (.string WB)∧w'.cell? ⟨wr.heap.size,1,none⟩=some (.slice da dn dc)∧w'.cell? ⟨bb,oo+k,none⟩=some (.int .i64 x)∧wr.heap.size<w'.heap.size∧Below WX.heap.size WX w'):=fun W hS=>(CW W).mono fun e w' h=>⟨h.1,(h.2.cell (p:=⟨wr.heap.size,2,none⟩) hS.2.2.2.2.2.1).trans hS.1,(h.2.cell (p:=⟨wr.heap.size,3,none⟩) hS.2.2.2.2.2.1).trans hS.2.1,(h.2.cell (p:=⟨wr.heap.size,9,none⟩) hS.2.2.2.2.2.1).trans hS.2.2.1,(h.2.cell (p:=⟨wr.heap.size,1,none⟩) hS.2.2.2.2.2.1).trans hS.2.2.2.1,(h.2.cell (p:=⟨bb,oo+k,none⟩) (show bb<_ by omega)).trans hS.2.2.2.2.1,Nat.lt_of_lt_of_le hS.2.2.2.2.2.1 h.2.size,hS.2.2.2.2.2.2.trans (h.2.mono hS.2.2.2.2.2.2.size)⟩
       have hs0:WY.drew.cell? ⟨wr.heap.size,2,none⟩=some (.bool true)∧WY.drew.cell? ⟨wr.heap.size,3,none⟩=some (.int .i64 1)∧WY.drew.cell? ⟨wr.heap.size,9,none⟩=some (.string WB)∧WY.drew.cell? ⟨wr.heap.size,1,none⟩=some (.slice da dn dc)∧WY.drew.cell? ⟨bb,oo+k,none⟩=some (.int .i64 x)∧wr.heap.size<WY.drew.heap.size∧Below WX.heap.size WX WY.drew:=⟨by simpa using y2,by simpa using y3,by simpa using y9,by simpa using y1,by simpa using g2,by simpa using zY,Go.below_drewN hbWY 1⟩
       have hkb:(0:Int)≤(k:Int):=by omega
       have hkl:(k:Int)<(L:Int):=by omega
       go_upto_region 21 with fail
       go_region_held3 (fun w'=>w'.cell? ⟨wr.heap.size,2,none⟩=some (.bool true)∧w'.cell? ⟨wr.heap.size,3,none⟩=some (.int .i64 1)∧w'.cell? ⟨wr.heap.size,9,none⟩=some (.string WB)∧w'.cell? ⟨wr.heap.size,1,none⟩=some (.slice da dn dc)∧w'.cell? ⟨bb,oo+k,none⟩=some (.int .i64 x)∧wr.heap.size<w'.heap.size∧Below WX.heap.size WX w') (first|(with_reducible assumption)|(with_reducible exact hs0))
        (first|(go_at_call 10;refine (CWS _ (by with_reducible assumption)).mono ?_;rintro e w6 ⟨rfl,hS6⟩))
       obtain ⟨q2,q3,q9,q1,qg,qz,bT⟩:=hS6
       have hbT:Below w.heap.size w w6:=hbX.trans (bT.mono hbX.size)
       have hdk:=HDK.out
       clear hs0 CWS y1 y2 y3 y9 g2 hbWY hbY hbr bY zY CW HDK
       rcases hdk with ⟨hk0,hdn0⟩|⟨hk0,hkw,hdn0⟩|⟨hk0,hkw,z,hz,hzz⟩
       ·have hk1:¬ ((0:Int)<(k:Int)):=by omega
        clear hk0
        subst hdn0
        go_wp2
        go_roundw
        case rel=>exact ⟨k+1,by go_num,by omega,bT⟩
        case measure=>simp[intOf];omega
       ·exact absurd hkw (by omega)
       ·have hk1:(0:Int)<(k:Int):=by omega
        have hk3:(k:Int)-1<(wh.length:Int):=by omega
        have hk4:(0:Int)≤(k:Int)-1:=by omega
        have hkn:((k:Int)-1).toNat=k-1:=by omega
        obtain ⟨b2,o2,e2,l2,cc2⟩:=IsInts.at h1 rfl (by omega)
        cases e2
        have f2:=(hbT.cell (p:=⟨b1,o1+(k-1),none⟩) l2).trans (cc2 (k-1) hkw)
        have hz9:=lowZ_range (wh.getD (k-1) 0) 6 (by omega)
        generalize wh.getD (k-1) 0=xj at f2 hz hz9
        clear cc2 hk0
        rw[hz] at hz9
        go_wp2_with fail
        refine (Low_is (z:Int) _ 6 _ (by omega) (by omega) hz).mono ?_
        rintro e w1 ⟨rfl,rfl⟩
        rcases hzz with ⟨rfl,rfl⟩|⟨hz5,rfl⟩
        ·go_wp2
         go_roundw
         case rel=>exact ⟨k+1,by go_num,by omega,bT⟩
         case measure=>simp[intOf];omega
        ·have hz6:¬ ((z:Int)=5):=by omega
         go_wp2
         go_roundw
         case rel=>exact ⟨k+1,by go_num,by omega,bT⟩
         case measure=>simp[intOf];omega
      ·obtain rfl:L=k:=by omega
       have hEz:=K.keep _ _ hE (hbX.trans (hb2.mono hbX.size))
       go_wp2_with fail
       refine (awake18_true K _ hEz).mono ?_
       rintro e w9 ⟨rfl,b9⟩
       go_wp2
       go_ret
       exact ⟨rfl,(hbX.trans (hb2.mono hbX.size)).trans (b9.mono (hbX.trans (hb2.mono hbX.size)).size)⟩
end Go.Proofs.YthcmkpiajkbpnaaGreatDoor
